import PyProof.Rows.All
import Wide.All
import OpenK.AllK
import Wide.FinOn
import HandS.ForMost
import HandS.Wide
import HandS.Style
import HandS.IsInst
import HandS.Codes
import HandS.Steps
import PyProof.ReprRoads
import HandS.ForExc
import HandS.EndBits
import KE.IntTextLaws
import HandS.ExcInit
import HandS.ExcField
import HandS.TryMany
import KE.KEqDict
import HandS.TryOnly
import HandS.Zip
import KE.GoesZip
import KE.GoesMore
import HandS.TupAny
import KE.RegKIsAll
import PySem.Challenge.RW_iceopened_k07_channels_refused
set_option Elab.async false
set_option linter.all false
set_option maxRecDepth 100000
set_option maxHeartbeats 4000000
/-! The steps of a reading, one lemma for each construct; facts of heaps. -/
namespace Ice
open PySem PySem.Spec PyProof.Rows L2
section
variable {σ : L2.St} {H H' : Hp} {D : Ends} {t u : TS} {c tt tu : TT} {te ta tb tc : TE} {tA : TA} {Q : VK} {QA : List V → Hp → Prop} {QT : Bool → Hp → Prop} {i : Nat} {v x y : V} {g : TG} {r : R2}
theorem i_seq (h : t { D with nx := u D } σ H) : tSeq t u D σ H := h
theorem i_if (h : c σ H fun b H1 => if b = true then t D σ H1 else u D σ H1) : tIfS c t u D σ H := h
theorem i_next (h : D.nx σ H) : tNext D σ H := h
theorem i_brk (h : D.bk σ H) : tBreak D σ H := h
theorem i_cont (h : D.ct σ H) : tCont D σ H := h
theorem i_ret (h : te σ H D.rt) : tRet te D σ H := h
theorem i_retN (h : D.rt .non H) : tRetN D σ H := h
theorem i_drop (h : te σ H fun _ H1 => D.nx σ H1) : tDrop te D σ H := h
theorem i_asg (h : te σ H fun x H1 => g x σ H1 D.nx) : tAsg te g D σ H := h
theorem i_gname {q : L2.St → Hp → Prop} (h : q (σ.set i (some v)) H) : gName i v σ H q := h
theorem i_gsub {to ti : TE} {s : TSet} {q : L2.St → Hp → Prop} (h : to σ H fun o H1 => ti σ H1 fun i H2 => s o i v H2 fun H3 => q σ H3) : gSub to ti s v σ H q := h
theorem i_var (h : σ[i]? = some (some v)) (q : Q v H) : tVar i σ H Q := ⟨v, h, q⟩
theorem i_c (q : Q v H) : tC v σ H Q := q
theorem i_op (h : ta σ H fun x H1 => tb σ H1 fun y H2 => r x y H2 Q) : tOp r ta tb σ H Q := h
theorem i_un {r : V → Hp → VK → Prop} (h : ta σ H fun x H1 => r x H1 Q) : tUn r ta σ H Q := h
theorem i_test (h : te σ H fun x H' => ∃ k, x = .bl k ∧ QT k H') : tTest te σ H QT := h
theorem i_tB (h : te σ H fun x H' => ∃ k, x = .bl k ∧ QT k H') : tB te σ H QT := h
theorem i_and (h : c σ H fun b H1 => if b = true then tt σ H1 QT else QT false H1) : tAnd c tt σ H QT := h
theorem i_or (h : c σ H fun b H1 => if b = true then QT true H1 else tt σ H1 QT) : tOr c tt σ H QT := h
theorem i_not (h : c σ H fun b H1 => QT (!b) H1) : tNot c σ H QT := h
theorem i_andV (h : ta σ H fun x H1 => ∃ c, x = .bl c ∧ if c = true then tb σ H1 Q else Q (.bl false) H1) : tAndV ta tb σ H Q := h
theorem i_orV (h : ta σ H fun x H1 => ∃ c, x = .bl c ∧ if c = true then Q (.bl true) H1 else tb σ H1 Q) : tOrV ta tb σ H Q := h
theorem i_notV (h : ta σ H fun x H1 => ∃ c, x = .bl c ∧ Q (.bl (!c)) H1) : tNotV ta σ H Q := h
theorem i_ifE (h : c σ H fun b H1 => if b = true then ta σ H1 Q else tb σ H1 Q) : tIf c ta tb σ H Q := h
theorem i_bl {b : Bool} {q : Bool → Prop} (h : q b) : ∃ k, V.bl b = .bl k ∧ q k := ⟨b, rfl, h⟩
theorem i_nil (q : QA [] H) : tNil σ H QA := q
theorem i_cons (h : te σ H fun x H1 => tA σ H1 fun xs H2 => QA (x :: xs) H2) : tCons te tA σ H QA := h
theorem i_call {sp : Sp} {dvs : List V} {E : XK} (h : tA σ H fun vs H1 => sp (vs ++ dvs) H1 Q E) : tCall sp dvs E tA σ H Q := h
theorem i_cb {r : List V → Hp → VK → Prop} (h : tA σ H fun vs H1 => r vs H1 Q) : tCB r tA σ H Q := h
theorem i_rI0 {f : Int → Int → V} {a b : Int} (q : Q (f a b) H) : rI0 f (.int a) (.int b) H Q := ⟨a, b, rfl, rfl, q⟩
theorem i_rI {C : Int → Int → Prop} {f : Int → Int → V} {a b : Int} (hc : C a b) (q : Q (f a b) H) : rI C f (.int a) (.int b) H Q := ⟨a, b, rfl, rfl, hc, q⟩
theorem i_rU {f : Int → V} {a : Int} (q : Q (f a) H) : rU f (.int a) H Q := ⟨a, rfl, q⟩
theorem i_rEq (h : scal x y = true) (q : Q (.bl (decide (x = y))) H) : rEq x y H Q := ⟨h, q⟩
theorem i_rNe (h : scal x y = true) (q : Q (.bl (!decide (x = y))) H) : rNe x y H Q := ⟨h, q⟩
theorem i_chain {r' : R2} (h : ta σ H fun x H1 => tb σ H1 fun y H2 => r x y H2 fun z H3 => ∃ k, z = .bl k ∧ (if k = true then tc σ H3 fun w' H4 => r' y w' H4 Q else Q (.bl false) H3)) : tChain r r' ta tb tc σ H Q := h
theorem i_tup (h : tA σ H fun xs H1 => xs.length ≤ sizeLine ∧ ∀ p, H1 p = none → Q (.ref p) (upd H1 p (.tup xs))) : tTup tA σ H Q := h
theorem i_lst (h : tA σ H fun xs H1 => xs.length ≤ sizeLine ∧ ∀ p, H1 p = none → Q (.ref p) (upd H1 p (.lst xs))) : tLst tA σ H Q := h
theorem i_bm {K : PySem.W.Frag} {T : String} {r : V → List V → Hp → VK → Prop} (h : te σ H fun x H1 => tyV K T x H1 ∧ tA σ H1 fun xs H2 => r x xs H2 Q) : tBM K T r te tA σ H Q := h
theorem i_bm0 {K : PySem.W.Frag} {T : String} {r : V → List V → Hp → VK → Prop} (h : te σ H fun x H1 => tyV K T x H1 ∧ r x [] H1 Q) : tBM0 K T r te σ H Q := h
theorem i_m1 {r : V → List V → Hp → VK → Prop} (h : te σ H fun x H1 => (∃ a, x = .str a) ∧ tb σ H1 fun y H2 => r x [y] H2 Q) : tM1 r te tb σ H Q := h
theorem i_sl {r : V → Option Int → Option Int → Hp → VK → Prop} {tl th : TO} (h : te σ H fun x H1 => tl σ H1 fun a H2 => th σ H2 fun b H3 => r x a b H3 Q) : tSl r te tl th σ H Q := h
theorem i_nopart {q : Option Int → Hp → Prop} (h : q none H) : tNoPart σ H q := h
theorem i_part {q : Option Int → Hp → Prop} (h : te σ H fun x H1 => ∃ i, x = .int i ∧ q (some i) H1) : tPart te σ H q := h
theorem i_int {a : Int} {q : Int → Prop} (h : q a) : ∃ k, V.int a = .int k ∧ q k := ⟨a, rfl, h⟩
theorem i_str {a : Str} {q : Str → Prop} (h : q a) : ∃ k, V.str a = .str k ∧ q k := ⟨a, rfl, h⟩
theorem i_for {wi : TI} {tb : TS} (h : wi σ H fun J H1 => ∃ W : Nat → Nat → L2.St → Hp → Prop, (∃ m, W 0 m σ H1) ∧ ∀ i m σ H, W i m σ H →
      (J.stop i H ∧ D.nx σ H) ∨ (J.go i H ∧ ∃ N : L2.St → Hp → Prop, (∀ σ' H', N σ' H' → ∃ m', m' < m ∧ W (i + 1) m' σ' H') ∧ ∀ x H', J.yld i H x H' → g x σ H' fun σ2 H2 => tb { D with nx := N, ct := N, bk := D.nx } σ2 H2)) : tFor wi g tb D σ H := h
theorem i_yes {q : Bool → Hp → Prop} (h : q true H) : tYes σ H q := h
theorem ifs {b : Bool} {A B : Prop} (h1 : b = true → A) (h2 : b = false → B) : if b = true then A else B := by
  cases b with
  | true => exact h1 rfl
  | false => exact h2 rfl
end
/-! ### heaps -/
/-- all but what stands at b is as it was -/
def But (b : Addr) (H H' : Hp) : Prop := ∀ a o, a ≠ b → H a = some o → H' a = some o
theorem But.refl (b : Addr) (H : Hp) : But b H H := fun _ _ _ h => h
theorem But.trans {b : Addr} {H H1 H2 : Hp} (e : But b H H1) (e' : But b H1 H2) : But b H H2 := fun a o n h => e' a o n (e a o n h)
theorem But.set {b : Addr} {H : Hp} (o : HO) : But b H (upd H b o) := fun a u n h => by rw [upd_ne n]; exact h
theorem But.new {b p : Addr} {H : Hp} (o : HO) (hp : H p = none) : But b H (upd H p o) := fun a u n h => by rw [upd_ne (ne_of_none h hp)]; exact h
theorem Same.new {p : Addr} {H : Hp} (o : HO) (hp : H p = none) : Same H (upd H p o) := fun a u h => by rw [upd_ne (ne_of_none h hp)]; exact h
theorem Same.but {b : Addr} {H H' : Hp} (e : Same H H') : But b H H' := fun a o _ h => e a o h
/-- behind a change at b that H doesn't know -/
theorem But.same {b : Addr} {H H' : Hp} (e : But b H H') (hb : H b = none) : Same H H' := fun a o h => e a o (ne_of_none h hb) h
theorem keepU {H : Hp} {b p : Addr} {o u : HO} (h : H b = some o) (n : H p = none) : upd H p u b = some o := by rw [upd_ne (ne_of_none h n)]; exact h
theorem freeU {H : Hp} {b p : Addr} {u : HO} (h : upd H p u b = none) : H b = none := by
  by_cases e : b = p
  · subst e; rw [upd_same] at h; cases h
  · rw [upd_ne e] at h; exact h
theorem freeNe {H : Hp} {b p : Addr} {u : HO} (h : upd H p u b = none) : b ≠ p := fun e => by subst e; rw [upd_same] at h; cases h
theorem But.free {b p : Addr} {H H' : Hp} (e : But b H H') (n : p ≠ b) (h : H' p = none) : H p = none := by
  cases q : H p with
  | none => rfl
  | some o => rw [e p o n q] at h; cases h
theorem SqL.lst {K : PySem.W.Frag} {H : Hp} {a : Addr} {xs : List V} (h : H a = some (.lst xs)) : SqL K H a xs := .inl (.inl h)
theorem SqT.tup {K : PySem.W.Frag} {H : Hp} {a : Addr} {xs : List V} (h : H a = some (.tup xs)) : SqT K H a xs := .inl (.inl h)
/-- a law's script: what is read never changes -/
theorem SqL.but {K : PySem.W.Frag} {b : Addr} {H H' : Hp} {a : Addr} {xs : List V} (e : But b H H') (n : a ≠ b) (h : SqL K H a xs) : SqL K H' a xs := by
  rcases h with (h | ⟨o, h⟩) | h
  · exact .inl (.inl (e _ _ n h))
  · exact .inl (.inr ⟨o, e _ _ n h⟩)
  · exact .inr h
section
variable {H H' : Hp} {Q : VK} {K : PySem.W.Frag}
theorem i_ixL {p : Addr} {xs : List V} {i : Int} {v : V} (hS : SqL K H p xs) (he : atI xs i = some v) (q : Q v H) : rIxL K (.ref p) (.int i) H Q := ⟨p, xs, i, v, rfl, rfl, hS, he, q⟩
theorem i_ixT {p : Addr} {xs : List V} {i : Int} {v : V} (hS : SqT K H p xs) (he : atI xs i = some v) (q : Q v H) : rIxT K (.ref p) (.int i) H Q := ⟨p, xs, i, v, rfl, rfl, hS, he, q⟩
theorem i_ixS {z : Str} {i : Int} {c : Nat} (hz : z.length ≤ sizeLine) (he : atI z.cps.toList i = some c) (q : Q (.str ⟨#[c]⟩) H) : rIxS (.str z) (.int i) H Q := ⟨z, i, c, rfl, rfl, hz, he, q⟩
theorem i_setL {p : Addr} {xs : List V} {k : Int} {j : Nat} {v : V} {q : Hp → Prop} (h : H p = some (.lst xs)) (hj : ixN xs.length k = some j) (hq : q (upd H p (.lst (xs.set j v)))) : rSetL (.ref p) (.int k) v H q := ⟨p, xs, k, j, rfl, rfl, h, hj, hq⟩
end
/-! ### rules by name -/
def rLen (K : PySem.W.Frag) : List V → Hp → VK → Prop := fun xs H Q => ∃ p ys, xs = [.ref p] ∧ (SqL K H p ys ∨ SqT K H p ys) ∧ Q (.int ys.length) H
def rLenS : List V → Hp → VK → Prop := fun xs H Q => ∃ x, xs = [.str x] ∧ x.length ≤ sizeLine ∧ Q (.int x.length) H
def rMax2 : List V → Hp → VK → Prop := fun xs H Q => ∃ i j, xs = [.int i, .int j] ∧ Q (.int (if j > i then j else i)) H
def rMin2 : List V → Hp → VK → Prop := fun xs H Q => ∃ i j, xs = [.int i, .int j] ∧ Q (.int (if j < i then j else i)) H
def rStrI : List V → Hp → VK → Prop := fun xs H Q => ∃ i, xs = [.int i] ∧ i.natAbs.log2 < 1920 ∧ Q (.str (toString i)) H
def rAddT : R2 := fun x y H Q => ∃ i j, x = .str i ∧ y = .str j ∧ i.length + j.length ≤ sizeLine ∧ Q (.str (i ++ j)) H
section
variable {X : Cx} {H H' : Hp} {Q : VK} {K : PySem.W.Frag}
theorem c_len : CallR X (.builtin "len") (rLen X.K) := call_len_seq
theorem c_lenS : CallR X (.builtin "len") rLenS := call_len_str
theorem c_max2 (hc : X.calm = true := by rfl) : CallR X (.builtin "max") rMax2 := call_max2 hc
theorem c_min2 (hc : X.calm = true := by rfl) : CallR X (.builtin "min") rMin2 := call_min2 hc
theorem c_strI : CallR X (.type "str") rStrI := call_str_int
theorem o_addT : OpR X (binaryOp .Add) rAddT := op_add_str
theorem i_lenL {p : Addr} {xs : List V} (hS : SqL K H p xs) (q : Q (.int xs.length) H) : rLen K [.ref p] H Q := ⟨p, xs, rfl, .inl hS, q⟩
theorem i_lenT {p : Addr} {xs : List V} (hS : SqT K H p xs) (q : Q (.int xs.length) H) : rLen K [.ref p] H Q := ⟨p, xs, rfl, .inr hS, q⟩
theorem i_lenS {x : Str} (hz : x.length ≤ sizeLine) (q : Q (.int x.length) H) : rLenS [.str x] H Q := ⟨x, rfl, hz, q⟩
theorem i_max2 {i j : Int} (q : Q (.int (if j > i then j else i)) H) : rMax2 [.int i, .int j] H Q := ⟨i, j, rfl, q⟩
theorem i_min2 {i j : Int} (q : Q (.int (if j < i then j else i)) H) : rMin2 [.int i, .int j] H Q := ⟨i, j, rfl, q⟩
theorem i_strI {i : Int} (h : i.natAbs.log2 < 1920) (q : Q (.str (toString i)) H) : rStrI [.int i] H Q := ⟨i, rfl, h, q⟩
theorem i_addT {x y : Str} (h : x.length + y.length ≤ sizeLine) (q : Q (.str (x ++ y)) H) : rAddT (.str x) (.str y) H Q := ⟨x, y, rfl, rfl, h, q⟩
end
/-- the box that numbers are drawn from -/
structure Box (H : Hp) (b : Addr) (n : Nat) : Prop where
  ex : ∃ (x y z : Int), H b = some (.lst [.int x, .int y, .int z]) ∧ 0 ≤ x ∧ 0 ≤ y ∧ y < 2147483629 ∧ 0 ≤ z ∧ z ≤ n
theorem Box.mono {H : Hp} {b : Addr} {n m : Nat} (h : Box H b n) (e : n ≤ m) : Box H b m := by
  obtain ⟨x, y, z, h1, h2, h3, h4, h5, h6⟩ := h
  exact ⟨x, y, z, h1, h2, h3, h4, h5, by omega⟩
theorem Box.same {H H' : Hp} {b : Addr} {n : Nat} (h : Box H b n) (e : Same H H') : Box H' b n := by
  obtain ⟨x, y, z, h1, h2⟩ := h
  exact ⟨x, y, z, e _ _ h1, h2⟩
/-- the law's own promise -/
def spLaw (K : PySem.W.Frag) : Sp := fun vs H Q _ => ∃ (a : Addr) (ns : List Int), vs = [.ref a] ∧ SqL K H a (ns.map V.int) ∧ ns.length ≤ 63 ∧ (∀ z ∈ ns, Builtin.Int.intBits z ≤ 1048576) ∧ Only H ∧ ∀ H', Q (.bl true) H'
theorem law_sp (K : PySem.W.Frag) (H : Hp) (a : Addr) (ns : List Int) (h1 : ns.length ≤ 63) (h2 : ∀ z ∈ ns, Builtin.Int.intBits z ≤ 1048576) (h3 : Only H) (h4 : SqL K H a (ns.map V.int)) :
    spLaw K [.ref a] H (fun v _ => v = .bl true) fun _ _ _ => False := ⟨a, ns, rfl, h4, h1, h2, h3, fun _ => rfl⟩
theorem sz_of {n : Nat} (h : n ≤ 100000) : n ≤ sizeLine := Nat.le_trans h (by decide)
theorem i_room {n : Nat} {B : Prop} (h : n ≤ sizeLine) (q : B) : n ≤ sizeLine ∧ B := ⟨h, q⟩
theorem iteNT {A B : Prop} (h : B) : if (!true) = true then A else B := h
theorem iteNF {A B : Prop} (h : A) : if (!false) = true then A else B := h
theorem i_cut {t u : TS} {D : Ends} {σ : L2.St} {H : Hp} (Mid : L2.St → Hp → Prop) (h1 : t { D with nx := Mid } σ H) (h2 : ∀ σ' H', Mid σ' H' → u D σ' H') : C8.tCut t u D σ H := ⟨Mid, h1, h2⟩
theorem i_isstr {x : Str} {B : Prop} (h : B) : (∃ a, V.str x = .str a) ∧ B := ⟨⟨x, rfl⟩, h⟩
theorem i_wipe {a b : L2.St} {vs : List Nat} {B : Prop} (h : wipe a vs = wipe b vs) (q : B) : wipe a vs = wipe b vs ∧ B := ⟨h, q⟩
theorem i_rng1 {tA : TA} {σ : L2.St} {H : Hp} {R : It → Hp → Prop} (h : tA σ H fun vs H1 => ∃ j : Int, vs = [.int j] ∧ -(2 ^ 62) ≤ j ∧ j < 2 ^ 62 ∧ R (Itr 0 j.toNat) H1) : iRng1 tA σ H R := h
theorem i_lc {wi : TI} {g : TG} {tt : TT} {te : TE} {vs : List Nat} {σ : L2.St} {H : Hp} {Q : VK} (h : wi σ H fun J H1 => ∀ D, H1 D = none → ∃ W : Nat → Nat → Hp → Prop, (∃ m, W 0 m (upd H1 D (.lst []))) ∧ ∀ i m H, W i m H →
    (J.stop i H ∧ Q (.ref D) H) ∨ (J.go i H ∧ ∃ Nx : Hp → Prop, (∀ H', Nx H' → ∃ m', m' < m ∧ W (i + 1) m' H') ∧ ∀ x H', J.yld i H x H' → g x (wipe σ vs) H' fun σ2 H2 => wipe σ2 vs = wipe σ vs ∧ tt σ2 H2 fun b H3 =>
      if b = true then te σ2 H3 fun y H4 => ∃ acc, H4 D = some (.lst acc) ∧ acc.length < sizeLine ∧ Nx (upd H4 D (.lst (acc ++ [y]))) else Nx H3)) : tLc wi g tt te vs σ H Q := h
theorem Box.ne {H : Hp} {b p : Addr} {n : Nat} (h : Box H b n) (hp : H p = none) : p ≠ b := by
  obtain ⟨x, y, z, h1, _⟩ := h
  exact (ne_of_none h1 hp).symm
theorem Box.upd {H : Hp} {b p : Addr} {n : Nat} {o : HO} (h : Box H b n) (hp : p ≠ b) : Box (upd H p o) b n := by
  obtain ⟨x, y, z, h1, h2⟩ := h
  exact ⟨x, y, z, by rw [upd_ne hp.symm]; exact h1, h2⟩
theorem But.upd {H H' : Hp} {b p : Addr} {o : HO} (e : But b H H') (hp : H p = none) : But b H (upd H' p o) := fun a u n h => by rw [upd_ne (ne_of_none h hp)]; exact e a u n h
theorem Box.new {H : Hp} {b p : Addr} {n : Nat} {o : HO} (h : Box H b n) (hp : H p = none) : Box (L2.upd H p o) b n := h.upd (h.ne hp)
theorem i_list {K : PySem.W.Frag} {te : TE} {σ : L2.St} {H : Hp} {R : It → Hp → Prop} (h : te σ H fun x H1 => ∃ a, x = .ref a ∧ (∃ xs, SqL K H1 a xs) ∧ R (Itl K a) H1) : iList K te σ H R := h
theorem i_revL {K : PySem.W.Frag} {te : TE} {σ : L2.St} {H : Hp} {Q : VK} (h : te σ H fun x H1 => ∃ a xs, x = .ref a ∧ SqL K H1 a xs ∧ ∀ p, H1 p = none → Q (.ref p) (upd H1 p (.lst xs.reverse))) : tRevL K te σ H Q := h
theorem But.to {b : Addr} {H H1 H2 : Hp} (s : Same H H1) (e : But b H1 H2) (hb : H b = none) : Same H H2 := fun a o h => e a o (ne_of_none h hb) (s a o h)
theorem Same.upd {H H' : Hp} {p : Addr} {o : HO} (s : Same H H') (hp : H p = none) : Same H (L2.upd H' p o) := fun a u h => by rw [upd_ne (ne_of_none h hp)]; exact s a u h
theorem i_disp {trs : List (TE × TE)} {σ : L2.St} {H : Hp} {Q : VK} (h : ∀ p, H p = none → tPairs trs σ (upd H p (.dK [])) fun ps H2 => H2 p = some (.dK []) ∧ ∃ kvs : List (Key × V), ps = kvs.map (fun kv => (kV kv.1, kv.2)) ∧ kvs.length ≤ 15 ∧ Q (.ref p) (upd H2 p (.dK (mergeK [] kvs)))) : tDisp trs σ H Q := h
theorem i_pairs0 {σ : L2.St} {H : Hp} {Q : List (V × V) → Hp → Prop} (h : Q [] H) : tPairs [] σ H Q := h
theorem i_pairs {tk tv : TE} {r : List (TE × TE)} {σ : L2.St} {H : Hp} {Q : List (V × V) → Hp → Prop} (h : tk σ H fun x H1 => tv σ H1 fun y H2 => tPairs r σ H2 fun ps H3 => Q ((x, y) :: ps) H3) : tPairs ((tk, tv) :: r) σ H Q := h
theorem i_newK {σ : L2.St} {H : Hp} {Q : VK} (h : ∀ p, H p = none → Q (.ref p) (upd H p (.dK []))) : tDNewK σ H Q := h
theorem i_gtup {K : PySem.W.Frag} {n : Nat} {t : TGs} {a : Addr} {xs : List V} {σ : L2.St} {H : Hp} {Q : L2.St → Hp → Prop} (hS : SqT K H a xs) (hl : xs.length = n) (q : t xs σ H Q) : gTup K n t (.ref a) σ H Q := ⟨a, xs, rfl, hS, hl, q⟩
theorem i_gcons {t : TG} {u : TGs} {v : V} {r : List V} {σ : L2.St} {H : Hp} {Q : L2.St → Hp → Prop} (q : t v σ H fun σ' H' => u r σ' H' Q) : gCons t u (v :: r) σ H Q := ⟨v, r, rfl, q⟩
theorem i_gnil {σ : L2.St} {H : Hp} {Q : L2.St → Hp → Prop} (q : Q σ H) : gNil [] σ H Q := ⟨rfl, q⟩
/-- p is new in H', and holds o -/
structure New (H : Hp) (p : Addr) (o : HO) (H' : Hp) : Prop where
  free : H p = none
  same : Same H H'
  at_ : H' p = some o
theorem New.mk' {H : Hp} {p : Addr} {o : HO} (hp : H p = none) : New H p o (upd H p o) := ⟨hp, Same.new o hp, upd_same⟩
theorem i_new {H : Hp} {o : HO} {G : Addr → Hp → Prop} (h : ∀ p H', New H p o H' → G p H') : ∀ p, H p = none → G p (upd H p o) := fun p hp => h p _ (.mk' hp)
theorem Box.nw {H H' : Hp} {b p : Addr} {n : Nat} {o : HO} (h : Box H b n) (N : New H p o H') : Box H' b n := h.same N.same
theorem Box.off {H H' : Hp} {b p : Addr} {n : Nat} {o : HO} (h : Box H b n) (N : New H p o H') : p ≠ b := h.ne N.free
theorem New.but {H H' : Hp} {b p : Addr} {o : HO} (N : New H p o H') : But b H H' := Same.but N.same
theorem Same.app {H H' : Hp} {a : Addr} {o : HO} (s : Same H H') (h : H a = some o) : H' a = some o := s a o h
theorem But.app {H H' : Hp} {a b : Addr} {o : HO} (s : But b H H') (n : a ≠ b) (h : H a = some o) : H' a = some o := s a o n h
theorem New.app {H H' : Hp} {a p : Addr} {o u : HO} (N : New H p o H') (h : H a = some u) : H' a = some u := N.same a u h
theorem i_cat {H : Hp} {Q : VK} {l b : Addr} {xs zs : List V} (hl : H l = some (.lst xs)) (hb : H b = some (.lst zs)) (hz : xs.length + zs.length ≤ sizeLine) (h : ∀ p, H p = none → Q (.ref p) (upd H p (.lst (xs ++ zs)))) : rCat (.ref l) (.ref b) H Q := ⟨l, b, xs, zs, rfl, rfl, hl, hb, hz, h⟩
theorem New.of {H H' : Hp} {p : Addr} {o : HO} (e : upd H p o = H') (hp : H p = none) : New H p o H' := e ▸ .mk' hp
theorem i_tyL {K : PySem.W.Frag} {H : Hp} {l : Addr} {xs : List V} {B : Prop} (h : H l = some (.lst xs)) (q : B) : tyV K "list" (.ref l) H ∧ B := ⟨.inl ⟨rfl, _, SqL.lst h⟩, q⟩
theorem i_append {H : Hp} {Q : VK} {l : Addr} {xs : List V} {v : V} (h : H l = some (.lst xs)) (hz : xs.length ≤ 100000) (q : Q .non (upd H l (.lst (xs ++ [v])))) : rAppend (.ref l) [v] H Q := ⟨l, xs, v, rfl, rfl, h, Nat.lt_of_le_of_lt hz (by decide), q⟩
theorem i_rng1v {j : Int} {R : It → Hp → Prop} {H : Hp} (h0 : 0 ≤ j) (h1 : j ≤ 1000000) (q : R (Itr 0 j.toNat) H) : ∃ j' : Int, [V.int j] = [.int j'] ∧ -(2 ^ 62) ≤ j' ∧ j' < 2 ^ 62 ∧ R (Itr 0 j'.toNat) H := ⟨j, rfl, by omega, by omega, q⟩
end Ice

set_option Elab.async false
set_option linter.all false
set_option maxRecDepth 100000
set_option maxHeartbeats 4000000
/-! A def's promise where no repr is under way (guards are none): as the layer's, with that one fact more. -/
namespace Ice
open PySem PySem.Spec PyProof.Rows L2
/-- as the layer's promise of a def, called where no repr is under way -/
structure FnG (P : Program) (w : World) (K : PySem.W.Frag) (mg : Str → Option Value) (base : Heap) (X0 : CXT) (k : Nat) (f : Addr) (fd : FuncData) (ps : List Str) (sp : Sp) : Prop where
  len : ∀ vs H Q E, sp vs H Q E → vs.length = ps.length
  run : ∀ (A : Around) (outer : List Env) (s : Shared) (H : Hp) (args : Args) (us : List Value) (vs : List V) (Q : VK) (E : XK),
    Room k A → A.guards = some [] → Env0 P w K mg base A outer s H → BindsTo s fd args (ps.zip us) → Vals vs us → sp vs H Q E →
      codeAny (model P w) A (.call (.ref f) args) (CR X0 outer P w H s Q E) s
section
variable {P : Program} {w : World} {K : PySem.W.Frag} {mg : Str → Option Value} {base : Heap} {X0 : CXT} {k j : Nat} {f : Addr} {fd : FuncData} {ps : List Str} {sp : Sp}
theorem FnG.of (F : FnOk P w K mg base X0 k f fd ps sp) : FnG P w K mg base X0 k f fd ps sp :=
  ⟨F.len, fun A outer s H args us vs Q E hr _ => F.run A outer s H args us vs Q E hr⟩
theorem FnG.mono (F : FnG P w K mg base X0 j f fd ps sp) (h : j ≤ k) : FnG P w K mg base X0 k f fd ps sp :=
  ⟨F.len, fun A outer s H args us vs Q E hr => F.run A outer s H args us vs Q E (hr.mono h)⟩
/-- a def of the text by its body, told where no repr is under way -/
theorem fn_ofG {name qual : Str} {params : Arguments} {body : List Stmt} {scope : Scope} {dV kV doc pm cdv ct oc : Value} {an od : Option Addr} {osl : Array (Option Value)} {N : List Str}
    (lk : K.lookup f = some ⟨oc, od, .func (PySem.W.fnOf name qual params body scope dV kV doc pm an cdv ct), osl⟩) (hcd : PySem.W.codeIn K cdv qual = true)
    (S : FnScope N ps scope) (len : ∀ vs H Q E, sp vs H Q E → vs.length = ps.length)
    (hbody : ∀ (A : Around) (outer : List Env) (s : Shared) (H : Hp) (vs : List V) (Q : VK) (E : XK), Room k (A.deeper (envOfC qual scope s.heap.objs.size f cdv)) → A.guards = some [] → sp vs H Q E →
      ∃ t, PSs (cxOf X0 P w K mg base N qual scope f cdv A outer s H E) body t ∧ t { nx := fun _ H' => Q .non H', rt := Q } (start N vs) H) :
    FnG P w K mg base X0 (k + 1) f (PySem.W.fnOf name qual params body scope dV kV doc pm an cdv ct) ps sp := by
  refine ⟨len, fun A outer s H args us vs Q E hr hgd e0 hb r hsp => ?_⟩
  have hl := len _ _ _ _ hsp
  have KX : K.In s.heap := e0.mod.kin.keeps (fun b o e => And.left (e0.bs b o e))
  have lim : s.heap.NoLimit := e0.mod.nolimit.keeps (fun b o e => And.left (e0.bs b o e))
  have hk2 : ∀ y ∈ ps.zip us, scope.names.lookup y.1 = some .local ∨
      (scope.names.lookup y.1 = some .cell ∧ ((cellsFrom (s.heap.objs.size + 1) scope.names []).lookup y.1).isSome = true) := by
    rintro ⟨n, v⟩ hy
    rcases S.par n (List.of_mem_zip hy).1 with q | q
    · exact Or.inl q
    · exact Or.inr ⟨q, PySem.W.cellsFrom_some _ _ _ (Or.inl q)⟩
  refine codeAny_call_function hr.depth (KX _ _ lk) rfl S.co S.gen rfl (PySem.W.codeRec_of KX hcd) (hb _ _ _ _ (wpAny_newFunctionEnv_cells S.kind hk2 (fun env he s1 x => ?_)))
  subst he
  refine And.intro (lim.keeps x.toInCall.keep) (codeAny_func ?_)
  obtain ⟨t, ht, hq⟩ := hbody A outer s H vs Q E (hr.deeper _) hgd hsp
  have I := inv_start (CX := X0) (P := P) (w := w) (K := K) (mg := mg) (base := base) (f := f) (cd := cdv) (A := A) (outer := outer) (E := E) S hr.hd e0 hl r x
  refine wpAny_mono (ht.run [] s1 (start N vs) H _ I hq) (fun fl s' hs => ?_) (fun e s' hs => hs)
  cases fl with
  | ret u => obtain ⟨v, σ', H', J, rv, q⟩ := hs; exact ⟨v, H', J.os, J.bare, J.base, J.hok, rv, q⟩
  | next => obtain ⟨σ', H', J, q⟩ := hs; exact ⟨V.non, H', J.os, J.bare, J.base, J.hok, rfl, q⟩
  | brk => obtain ⟨_, _, _, q⟩ := hs; exact q.elim
  | cont => obtain ⟨_, _, _, q⟩ := hs; exact q.elim
end
section
variable {P : Program} {w : World} {K : PySem.W.Frag} {mg : Str → Option Value} {base : Heap} {x qual : Str} {st : Stmt} {f : Addr} {fd : FuncData} {N ps : List Str} {k : Nat} {sp : Sp}
theorem okG (F : Fun K x qual st f fd) (S : FnScope N ps (defScope st)) (len : ∀ vs H Q E, sp vs H Q E → vs.length = ps.length)
    (hbody : ∀ (cdv : Value) (A : Around) (outer : List Env) (s : Shared) (H : Hp) (vs : List V) (Q : VK) (E : XK), Room k (A.deeper (envOfC qual (defScope st) s.heap.objs.size f cdv)) → A.guards = some [] → sp vs H Q E →
      ∃ t, PSs (cxOf CX0 P w K mg base N qual (defScope st) f cdv A outer s H E).nox (defBody st) t ∧ t { nx := fun _ H' => Q .non H', rt := Q } (start N vs) H) :
    FnG P w K mg base CX0 (k + 1) f fd ps sp := by
  obtain ⟨oc, od, kV, doc, pm, an, cdv, ct, osl, rfl, lk, hcd⟩ := F.ex
  refine fn_ofG lk hcd S len (fun A outer s H vs Q E hr hgd hsp => ?_)
  obtain ⟨t, h, q⟩ := hbody cdv A outer s H vs Q E hr hgd hsp
  exact ⟨t, h.nox, q⟩
theorem okGX (F : Fun K x qual st f fd) (S : FnScope N ps (defScope st)) (len : ∀ vs H Q E, sp vs H Q E → vs.length = ps.length)
    (hbody : ∀ (cdv : Value) (A : Around) (outer : List Env) (s : Shared) (H : Hp) (vs : List V) (Q : VK) (E : XK), Room k (A.deeper (envOfC qual (defScope st) s.heap.objs.size f cdv)) → A.guards = some [] → sp vs H Q E →
      ∃ t, PSs (cxOf (L2.CX P w) P w K mg base N qual (defScope st) f cdv A outer s H E) (defBody st) t ∧ t { nx := fun _ H' => Q .non H', rt := Q } (start N vs) H) :
    FnG P w K mg base (L2.CX P w) (k + 1) f fd ps sp := by
  obtain ⟨oc, od, kV, doc, pm, an, cdv, ct, osl, rfl, lk, hcd⟩ := F.ex
  exact fn_ofG lk hcd S len (fun A outer s H vs Q E hr hgd hsp => hbody cdv A outer s H vs Q E hr hgd hsp)
end
/-! ### calls of such defs -/
section
variable {X : Cx} {X0 : CXT} {k : Nat} {f C : Addr} {fd : FuncData} {ps : List Str} {sp : Sp} {dvs : List V} {ds : List Value} {E : XK} {x m : Str} {p pos apos : Pos} {e o : Expr} {es : List Expr} {ta : TE} {t : TA}
theorem run_g {pins : List (Addr × Obj)} {σ : L2.St} {H : Hp} {s : Shared} {Q : VK} {us : List Value} {vs : List V} (F : FnG X.prog X.w X.K X.mg X.base X0 k f fd ps sp) (hr : Room k X.A) (hgd : X.A.guards = some [])
    (hb : Binds X.K fd ps ds) (hd : Vals dvs ds) (hx : Passes X0 X E) (I : Inv X pins σ H s) (r : Vals vs us) (h : sp (vs ++ dvs) H Q E) :
    wpAny (model X.prog X.w) X.A (call (.ref f) us) (EP X pins σ Q) X.xe s := by
  have r2 := Vals.append r hd
  have hl : (us ++ ds).length = ps.length := (Vals.length r2).symm.trans (F.len _ _ _ _ h)
  refine wpAny_call (codeAny_mono (F.run X.A X.stack s H ⟨us, []⟩ (us ++ ds) (vs ++ dvs) Q E hr hgd I.env0 (hb s us I.kIn hl) r2 h) (fun r s' hq => ?_))
  match r, hq with
  | .error e, hq => exact hx pins σ H s e s' I hq
  | .ok (.ret u), hq => exact I.after hq
  | .ok .next, hq => exact False.elim hq
  | .ok .brk, hq => exact False.elim hq
  | .ok .cont, hq => exact False.elim hq
theorem g_call (F : FnG X.prog X.w X.K X.mg X.base X0 k f fd ps sp) (hr : Room k X.A) (hgd : X.A.guards = some []) (hg : Gl X x) (hm : X.mg x = some (.ref f)) (hk : PySem.W.keepIn X.K (.ref f) = true) (hb : Binds X.K fd ps ds) (hd : Vals dvs ds)
    (hx : Passes X0 X E) (ha : PA X (e :: es) t) (hdb : (x == ("__debug__" : Str)) = false := by decide) (he : starEach (e :: es) X.env = (false, eval e X.env) :: starEach es X.env := by rfl)
    (hpl : (backTo pos (starEach es X.env)).any (·.1) = false := by rfl) : PE X (.Call (.Name x p) (e :: es) [] pos) (tCall sp dvs E t) := by
  constructor
  intro pins s σ H Q I h
  refine wpAny_Call_Name_kw (ld_glob I hg hm (PySem.W.callWith_K (h₀ := X.base) I.ok.mod.kin hk ?_ he hpl) hdb)
  exact thn (ha.run pos pins s σ H _ I h) (fun us s1 ⟨vs, H1, I1, r, q⟩ => ⟨I1.kIn, run_g F hr hgd hb hd hx I1 r q⟩)
theorem g_call0 (F : FnG X.prog X.w X.K X.mg X.base X0 k f fd ps sp) (hr : Room k X.A) (hgd : X.A.guards = some []) (hg : Gl X x) (hm : X.mg x = some (.ref f)) (hk : PySem.W.keepIn X.K (.ref f) = true) (hb : Binds X.K fd ps ds) (hd : Vals dvs ds)
    (hx : Passes X0 X E) (hdb : (x == ("__debug__" : Str)) = false := by decide) : PE X (.Call (.Name x p) [] [] pos) (tCall sp dvs E tNil) := by
  constructor
  intro pins s σ H Q I h
  exact wpAny_Call_Name_kw (ld_glob I hg hm (PySem.W.callWith_K0 I.kIn hk (run_g (us := []) F hr hgd hb hd hx I .nil h)) hdb)
theorem g_meth {pl : Sem Bool} (he : PE X o ta) (c : Cls X.K C) (hm : Meth X.K C m f) (F : FnG X.prog X.w X.K X.mg X.base X0 k f fd ps sp) (hr : Room k X.A) (hgd : X.A.guards = some []) (hb : Binds X.K fd ps ds) (hd : Vals dvs ds)
    (hx : Passes X0 X E) (ha : PA X (e :: es) t) (hst : starEach (e :: es) X.env = (false, eval e X.env) :: starEach es X.env := by rfl) (hpl : (backTo pos (starEach es X.env)).any (·.1) = false := by rfl)
    (ht : eval (.Call (.Attribute o m apos) (e :: es) [] pos) X.env =
      (do let ov ← eval o X.env; standAt apos.atName; let (f, first) ← holding [ov] (getMethod ov m pl); callWith pos f first (backTo pos (starEach (e :: es) X.env)) (backToKw pos (keywordEach [] X.env))) := by rfl) :
    PE X (.Call (.Attribute o m apos) (e :: es) [] pos) (tMeth C m sp dvs E ta t) := by
  constructor
  intro pins s σ H Q I h
  refine PySem.W.methodCall_KW (pl := pl) (thn (he.run pins s σ H _ I h) (fun u s1 ⟨x, H1, I1, rx, a, dx, fs, ex, ea, l, q⟩ => ?_)) ht
  subst ex
  cases (show u = Value.ref a from rx)
  refine getmeth_ok I1 ea c hm l (PySem.W.callWith_K (first := [.ref a]) (h₀ := X.base) I.ok.mod.kin hm.kp ?_ hst hpl)
  exact thn (ha.run pos pins s1 σ H1 _ I1 q) (fun us s2 ⟨vs, H2, I2, r, q2⟩ => ⟨I2.kIn, run_g (us := .ref a :: us) (vs := .ref a :: vs) F hr hgd hb hd hx I2 (.cons rfl r) q2⟩)
theorem g_meth0 {pl : Sem Bool} (he : PE X o ta) (c : Cls X.K C) (hm : Meth X.K C m f) (F : FnG X.prog X.w X.K X.mg X.base X0 k f fd ps sp) (hr : Room k X.A) (hgd : X.A.guards = some []) (hb : Binds X.K fd ps ds) (hd : Vals dvs ds)
    (hx : Passes X0 X E)
    (ht : eval (.Call (.Attribute o m apos) [] [] pos) X.env =
      (do let ov ← eval o X.env; standAt apos.atName; let (f, first) ← holding [ov] (getMethod ov m pl); callWith pos f first (backTo pos (starEach [] X.env)) (backToKw pos (keywordEach [] X.env))) := by rfl) :
    PE X (.Call (.Attribute o m apos) [] [] pos) (tMeth C m sp dvs E ta tNil) := by
  constructor
  intro pins s σ H Q I h
  refine PySem.W.methodCall_KW (pl := pl) (thn (he.run pins s σ H _ I h) (fun u s1 ⟨x, H1, I1, rx, a, dx, fs, ex, ea, l, q⟩ => ?_)) ht
  subst ex
  cases (show u = Value.ref a from rx)
  exact getmeth_ok I1 ea c hm l (PySem.W.callWith_K0 (first := [.ref a]) I1.kIn hm.kp (run_g (us := [.ref a]) (vs := [.ref a]) F hr hgd hb hd hx I1 (.cons rfl .nil) q))
theorem make_guards {A : Around} {C : Addr} {us : List Value} {kw : List (Str × Value)} (h : A.guards = some []) : (A.under (.builtin "type.__call__" ⟨.ref C :: us, kw⟩)).guards = some [] := by
  show pushGuards (Code.guards (.builtin "type.__call__" ⟨.ref C :: us, kw⟩)) A.guards = some []
  rw [h]; rfl
theorem run_mk {pins : List (Addr × Obj)} {σ : L2.St} {H : Hp} {s : Shared} {Q : VK} {us : List Value} {vs : List V} (M : Mk X.K C f) (F : FnG X.prog X.w X.K X.mg X.base X0 k f fd ps sp) (hr : Room (k + 1) X.A) (hgd : X.A.guards = some [])
    (hb : Binds X.K fd ps ds) (hd : Vals dvs ds) (hx : Passes X0 X E) (I : Inv X pins σ H s) (r : Vals vs us)
    (h : ∀ x dx, H x = none → H dx = none → dx ≠ x → sp (.ref x :: (vs ++ dvs)) (upd (upd H dx (.own x)) x (.ins C dx [])) (fun v H2 => v = .non ∧ Q (.ref x) H2) E) :
    wpAny (model X.prog X.w) X.A (call (.ref C) us) (EP X pins σ Q) X.xe s := by
  have hq := h (s.heap.objs.size + 1) s.heap.objs.size (I.hok.fresh (Nat.le_succ _)) (I.hok.fresh (Nat.le_refl _)) (by simp)
  have I2 := Inv.made (C := C) I
  have r2 : Vals (V.ref (s.heap.objs.size + 1) :: (vs ++ dvs)) (Value.ref (s.heap.objs.size + 1) :: (us ++ ds)) := .cons rfl (Vals.append r hd)
  have hl : (Value.ref (s.heap.objs.size + 1) :: us ++ ds).length = ps.length := (Vals.length r2).symm.trans (F.len _ _ _ _ hq)
  have run := F.run _ X.stack _ _ ⟨Value.ref (s.heap.objs.size + 1) :: us, []⟩ (Value.ref (s.heap.objs.size + 1) :: (us ++ ds)) _ _ E (hr.make C us []) (make_guards hgd) (I2.env0.make C us [])
    (hb _ (Value.ref (s.heap.objs.size + 1) :: us) I2.kIn hl) r2 hq
  refine wpAny_call (make_map (f := f) I.kIn M.makes M.init (beq_iff_eq.mp M.fn) (codeAny_mono run (fun r s' hq' => ?_)))
  match r, hq' with
  | .error e, hq' => exact hx pins σ _ _ e s' I2 hq'
  | .ok (.ret u), hq' =>
    obtain ⟨v, H', I3, rv, ev, q3⟩ := I2.after hq'
    subst ev
    exact ⟨rv, V.ref (s.heap.objs.size + 1), H', I3, rfl, q3⟩
  | .ok .next, hq' => exact False.elim hq'
  | .ok .brk, hq' => exact False.elim hq'
  | .ok .cont, hq' => exact False.elim hq'
theorem g_make (M : Mk X.K C f) (F : FnG X.prog X.w X.K X.mg X.base X0 k f fd ps sp) (hr : Room (k + 1) X.A) (hgd : X.A.guards = some []) (hg : Gl X x) (hm : X.mg x = some (.ref C)) (hb : Binds X.K fd ps ds) (hd : Vals dvs ds) (hx : Passes X0 X E)
    (ha : PA X (e :: es) t) (hdb : (x == ("__debug__" : Str)) = false := by decide) (he : starEach (e :: es) X.env = (false, eval e X.env) :: starEach es X.env := by rfl)
    (hpl : (backTo pos (starEach es X.env)).any (·.1) = false := by rfl) : PE X (.Call (.Name x p) (e :: es) [] pos) (tMake C sp dvs E t) := by
  constructor
  intro pins s σ H Q I h
  refine wpAny_Call_Name_kw (ld_glob I hg hm (PySem.W.callWith_K (h₀ := X.base) I.ok.mod.kin M.kp ?_ he hpl) hdb)
  exact thn (ha.run pos pins s σ H _ I h) (fun us s1 ⟨vs, H1, I1, r, q⟩ => ⟨I1.kIn, run_mk M F hr hgd hb hd hx I1 r q⟩)
end
end Ice

set_option Elab.async false
set_option linter.all false
set_option maxRecDepth 100000
set_option maxHeartbeats 4000000
/-! The law's own call, where its def is told with no repr under way. -/
namespace Ice
open PySem PySem.Spec PyProof.Rows L2
section
variable {P : Program} {w : World} {K : PySem.W.Frag} {mg mb : Str → Option Value} {X0 : CXT} {k : Nat} {fa a : Addr} {fd : FuncData} {x : Str} {sp : Sp} {s : Shared} {vs : List Value} {ns : List Int}
/-- the heap at the law's entry, where at most the script at a is tracked -/
theorem law_at (KX : K.In s.heap) (hns : s.heap.Ns mainGlobals mg) (hb : s.heap.Ns builtinsNs mb) (hbb : ∀ y : Str, y ≠ "__name__" → mb y = bootBuiltins y) (hlim : s.heap.NoLimit) (hg : s.gens = #[])
    (ha : s.heap.get? a = some { cls := .type "list", data := .seq vs.toArray }) (hr : Room k callerA)
    (F : ∀ base : Heap, K.In base → base.Ns mainGlobals mg → FnG P w K mg base X0 k fa fd [x] sp) (hbind : ∀ (s : Shared) (u : Value), BindsTo s fd ⟨[u], []⟩ [(x, u)])
    (hX : ∀ H e s', X0 [] H s (fun _ _ _ => False) e s' → False) (H : Hp) (hO : Only H) (hsp : sp [.ref a] H (fun v _ => v = .bl true) fun _ _ _ => False)
    (ok : HOk P w H s.heap) (hA : ∀ b u, H b = some u → b = a) (hK : ∀ u, H a = some u → K.lookup a = none) :
    codeAny (model P w) callerA (.call (.ref fa) ⟨[.ref a], []⟩) (fun r s' => r = .ok (.ret (.bool true)) ∧ OldK s.heap s'.heap ∧ s'.os = s.os ∧ AllBare s'.gens) s := by
  -- a dict's object is not the script's
  have nd : ∀ {b : Addr} {o : Obj} {es : Array DictEntry} {ep : Nat}, s.heap.get? b = some o → o.data = .dict es ep → H b = none := by
    intro b o es ep e d
    match q : H b with
    | none => rfl
    | some u =>
      cases hA b u q
      rw [ha] at e
      cases e
      cases (show Data.seq vs.toArray _ = Data.dict es ep from d)
  have up : ∀ {b : Addr} {m : Str → Option Value}, s.heap.Ns b m → (hidT s.heap H).Ns b m := by
    rintro b m ⟨o, es, ep, e, d, r⟩
    exact ⟨o, es, ep, hidT_get e (nd e d), d, r⟩
  have KB : K.In (hidT s.heap H) := by
    intro b o e
    refine hidT_get (KX b o e) ?_
    match q : H b with
    | none => rfl
    | some u =>
      cases hA b u q
      rw [hK u q] at e
      cases e
  have md : Mod K mg (hidT s.heap H) := by
    obtain ⟨mc, l1, l2⟩ := hlim
    exact ⟨KB, up hns, ⟨mb, up hb, hbb⟩, mc, up l1, l2⟩
  have e0 : Env0 P w K mg (hidT s.heap H) callerA [] s H := by
    refine ⟨rfl, md, fun b o e => of_hidT e, Nat.le_of_eq (hidT_size _ _), trivial, ?_, ok, .of_eq hg⟩
    intro b z
    cases (show b ∈ ([] : List Addr) from z)
  have R := (F (hidT s.heap H) KB (up hns)).run callerA [] s H ⟨[.ref a], []⟩ [.ref a] [.ref a] _ _ hr rfl e0 (hbind s (.ref a)) (.cons rfl .nil) hsp
  refine codeAny_mono R ?_
  intro r s' h
  match r, h with
  | .error e, h => exact (hX H e s' h).elim
  | .ok .next, h => exact False.elim h
  | .ok .brk, h => exact False.elim h
  | .ok .cont, h => exact False.elim h
  | .ok (.ret u), h =>
    obtain ⟨v, H', os, bare, un, ok', r', q⟩ := h
    cases (show v = V.bl true from q)
    cases (show u = Value.bool true from r')
    refine ⟨rfl, OldK.of_keep ?_, os, bare⟩
    intro b o e
    match q : H b with
    | none => exact un.keep b o e q (fun z => by cases (show b ∈ ([] : List Addr) from z)) (by simp)
    | some u =>
      rcases hO b with z | ⟨ob, xs, z⟩
      · rw [q] at z; cases z
      · have e1 := (ok b _ z).1
        have e2 := (ok' b _ (un.frzs b ob _ z)).1
        rw [e] at e1
        cases e1
        exact e2
theorem law_callG (KX : K.In s.heap) (hns : s.heap.Ns mainGlobals mg) (hb : s.heap.Ns builtinsNs mb) (hbb : ∀ y : Str, y ≠ "__name__" → mb y = bootBuiltins y) (hlim : s.heap.NoLimit) (hg : s.gens = #[])
    (ha : s.heap.get? a = some { cls := .type "list", data := .seq vs.toArray }) (hi : IntsAre vs ns) (hl : ns.length ≤ sizeLine) (hr : Room k callerA)
    (F : ∀ base : Heap, K.In base → base.Ns mainGlobals mg → FnG P w K mg base X0 k fa fd [x] sp) (hbind : ∀ (s : Shared) (u : Value), BindsTo s fd ⟨[u], []⟩ [(x, u)])
    (hsp : ∀ H : Hp, Only H → SqL K H a (ns.map V.int) → sp [.ref a] H (fun v _ => v = .bl true) fun _ _ _ => False) (hX : ∀ H e s', X0 [] H s (fun _ _ _ => False) e s' → False) :
    codeAny (model P w) callerA (.call (.ref fa) ⟨[.ref a], []⟩) (fun r s' => r = .ok (.ret (.bool true)) ∧ OldK s.heap s'.heap ∧ s'.os = s.os ∧ AllBare s'.gens) s := by
  have rv := vals_ints hi
  have lv : vs.length = ns.length := hi.length
  match hk : K.lookup a with
  | some o =>
    have e := KX a o hk
    rw [ha] at e
    cases e
    have hS : SqL K (fun _ => none) a (ns.map V.int) := .inr ⟨_, vs.toArray, _, hk, rfl, rfl, rfl, (by rw [List.size_toArray, lv]; exact hl), by simpa using rv⟩
    have z : ∀ (b : Addr) (u : HO), ((fun _ => none : Hp) b = some u) → False := fun _ _ h => by cases h
    exact law_at KX hns hb hbb hlim hg ha hr F hbind hX _ (fun _ => .inl rfl) (hsp _ (fun _ => .inl rfl) hS) (fun b u q => (z b u q).elim) (fun b u q => (z b u q).elim) (fun u q => (z a u q).elim)
  | none =>
    let o : HO := .frz { cls := .type "list", data := .seq vs.toArray } (.lst (ns.map V.int))
    let H : Hp := fun b => if b = a then some o else none
    have at_a : H a = some o := if_pos rfl
    have only : ∀ b u, H b = some u → b = a ∧ u = o := by
      intro b u q
      by_cases e : b = a
      · subst e; rw [at_a] at q; exact ⟨rfl, (Option.some.inj q).symm⟩
      · rw [show H b = none from if_neg e] at q; cases q
    have hO : Only H := by
      intro b
      by_cases e : b = a
      · subst e; exact .inr ⟨_, _, at_a⟩
      · exact .inl (if_neg e)
    have hok : HOk P w H s.heap := by
      intro b u q
      obtain ⟨rfl, rfl⟩ := only b u q
      exact ⟨ha, by rw [List.length_map]; exact hl, vs, _, rv, ha⟩
    exact law_at KX hns hb hbb hlim hg ha hr F hbind hX H hO (hsp H hO (.inl (.inr ⟨_, at_a⟩))) hok (fun b u q => (only b u q).1) (fun _ _ => hk)
end
/-- the end of a law, with the bits of its script told -/
theorem walkG {l : PySem.W.OpenLaw} {n k : Nat} {q : Program} {loose : List Str} {XP : (Str → Option Value) → Heap → Prop} {YP : World → Heap → Prop} {d : DefRec} {K : Params → PySem.W.Frag} {sp : PySem.W.Frag → Sp} {x : Str}
    (hn : l.most = some n) (hn2 : n ≤ sizeLine) (hdf : d.params.defaults = []) (hr : Room k callerA) (hY : ∀ (w : World) (h : Heap), YP w h → (K w.params).In h)
    (F : ∀ (w : World) (mg : Str → Option Value) (fa : Addr) (h : Heap), (K w.params).In h → h.Ns mainGlobals mg → mg d.name = some (.ref fa) →
      ∃ fd : FuncData, (∀ (s : Shared) (u : Value), BindsTo s fd ⟨[u], []⟩ [(x, u)]) ∧
        ∀ base : Heap, (K w.params).In base → base.Ns mainGlobals mg → FnG l.prog w (K w.params) mg base CX0 k fa fd [x] (sp (K w.params)))
    (hsp : ∀ (K : PySem.W.Frag) (H : Hp) (a : Addr) (ns : List Int), ns.length ≤ n → (∀ z ∈ ns, Builtin.Int.intBits z ≤ 1048576) → Only H → SqL K H a (ns.map V.int) → sp K [.ref a] H (fun v _ => v = .bl true) fun _ _ _ => False) :
    PySem.W.WalkO q loose XP YP l.row.toRowW d [] (fun f vs => PySem.call f vs) := by
  refine Att.attach_callB hn hdf (fun w s₀ s₁ mg mb fa o pm cd doc a vs ns G Y ho hd hcd hmg hobj hints hlen hbits hg => ?_)
  obtain ⟨fd, hb, hF⟩ := F w mg fa _ (hY w _ Y) G.T.g hmg
  exact law_callG (hY w _ Y) G.T.g G.T.b G.T.builtins G.T.nolimit hg hobj hints (Nat.le_trans hlen hn2) hr hF hb (fun H hO hS => hsp _ H a ns hlen hbits hO hS) (fun H e s' h => h)
end Ice

set_option Elab.async false
set_option linter.all false
set_option maxRecDepth 100000
set_option maxHeartbeats 4000000
/-! repr of data at any depth, dicts of plain things within tuples among them. -/
namespace Ice
open PySem PySem.Spec PyProof.Rows L2
/-- a plain thing -/
inductive Ds : V → PyData → Prop
  | non : Ds .non .none
  | bl (b : Bool) : Ds (.bl b) (.bool b)
  | int (i : Int) : Ds (.int i) (.int i)
  | str (x : Str) : Ds (.str x) (.str x)
def kD : Key → PyData
  | .inl i => .int i
  | .inr x => .str x
mutual
/-- data without lists; dicts hold plain things -/
inductive Dd (K : PySem.W.Frag) (H : Hp) : V → PyData → Prop
  | sc {v : V} {d : PyData} : Ds v d → Dd K H v d
  | tup {a : Addr} {xs : List V} {ds : List PyData} : SqT K H a xs → DdAll K H xs ds → Dd K H (.ref a) (.tuple ds)
  | dct {a : Addr} {kvs : List (Key × V)} {ds : List PyData} : H a = some (.dK kvs) → Paired Ds (kvs.map (·.2)) ds → Dd K H (.ref a) (.dict ((kvs.map fun kv => kD kv.1).zip ds))
inductive DdAll (K : PySem.W.Frag) (H : Hp) : List V → List PyData → Prop
  | nil : DdAll K H [] []
  | cons {v : V} {vs : List V} {d : PyData} {ds : List PyData} : Dd K H v d → DdAll K H vs ds → DdAll K H (v :: vs) (d :: ds)
end
theorem Ds.reads {h : Heap} {v : V} {u : Value} {d : PyData} (s : Ds v d) (r : RelV v u) : Reads h u d [] := by
  cases s with
  | non => cases (show u = .none from r); exact .none
  | bl b => cases (show u = .bool b from r); exact .bool b
  | int i => obtain ⟨t, rfl⟩ := (show ∃ t, u = .int i t from r); exact .int i t
  | str x => obtain ⟨t, rfl⟩ := (show ∃ t, u = .str x t from r); exact .str x t
theorem Ds.readsAll {h : Heap} : ∀ {vs : List V} {us : List Value} {ds : List PyData}, Paired Ds vs ds → Vals vs us → ReadsAll h us ds []
  | [], _, _, .nil, .nil => .nil
  | _ :: _, _, _, .cons s t, .cons r q => .cons (Ds.reads s r) (Ds.readsAll t q)
theorem kD_reads {h : Heap} {k : Key} {u : Value} (e : keyIs k u = true) : Reads h u (kD k) [] := by
  rcases keyIs_shape e with ⟨i, t, rfl, rfl⟩ | ⟨x, t, rfl, rfl⟩
  · exact .int i t
  · exact .str x t
theorem kv_reads {P : Program} {w : World} {h : Heap} {es : List DictEntry} {us : List (Key × Value)} (p : Pairs (mixKind P w) es us) : ∀ (kvs : List (Key × V)) (ds : List PyData), KV kvs us → Paired Ds (kvs.map (·.2)) ds →
    ReadsAll h (es.map (·.key)) (((kvs.map fun kv => kD kv.1).zip ds).map (·.1)) [] ∧ ReadsAll h (es.map (·.val)) (((kvs.map fun kv => kD kv.1).zip ds).map (·.2)) [] := by
  induction p with
  | nil =>
    intro kvs ds hk hd
    cases kvs with
    | cons _ _ => cases hk
    | nil => exact ⟨.nil, .nil⟩
  | @cons e u es us h1 h2 h3 ih =>
    intro kvs ds hk hd
    cases kvs with
    | nil => cases hk
    | cons kv kvs =>
      cases hk with
      | cons e1 hk =>
        cases ds with
        | nil => cases hd
        | cons d ds =>
          cases hd with
          | cons s1 hd =>
            obtain ⟨r1, r2⟩ := ih kvs ds hk hd
            have k1 : keyIs kv.1 e.key = true := by rw [e1.1]; exact h1
            have v1 : RelV kv.2 e.val := by rw [h2]; exact e1.2
            exact ⟨ReadsAll.cons (as := []) (kD_reads k1) r1, ReadsAll.cons (as := []) (Ds.reads s1 v1) r2⟩
section
variable {X : Cx} {pins : List (Addr × Obj)} {σ : L2.St} {H : Hp} {s : Shared}
mutual
theorem Dd.reads (I : Inv X pins σ H s) : ∀ (d : PyData) (v : V) (u : Value), Dd X.K H v d → RelV v u → ∃ as, Reads s.heap u d as ∧ sysModules ∉ as
  | d, v, u, .sc z, r => ⟨[], z.reads r, by simp⟩
  | .tuple ds, _, u, .tup (a := a) hs ha, r => by
    cases (show u = .ref a from r)
    obtain ⟨its, rv, ⟨o, ho, hc, n, hd⟩, _⟩ := I.tuple hs
    obtain ⟨as, hr, hn⟩ := Dd.readsAll I ds _ its ha rv
    exact ⟨as, Reads.tuple ho hc hd hr, hn⟩
  | .dict _, _, u, .dct (a := a) (kvs := kvs) hk hd, r => by
    cases (show u = .ref a from r)
    obtain ⟨_, hn, us, rv, o, es, ep, e1, e2, e3, _, e4, _⟩ := I.hok a _ hk
    obtain ⟨r1, r2⟩ := kv_reads (h := s.heap) e4 _ _ rv hd
    refine ⟨_, Reads.dict (n := ep) e1 e2.1 e3 r1 r2, ?_⟩
    intro z
    have : sysModules = a := by simpa using z
    rw [this] at hn
    simp at hn
theorem Dd.readsAll (I : Inv X pins σ H s) : ∀ (ds : List PyData) (vs : List V) (us : List Value), DdAll X.K H vs ds → Vals vs us → ∃ as, ReadsAll s.heap us ds as ∧ sysModules ∉ as
  | [], _, _, .nil, .nil => ⟨_, .nil, by simp⟩
  | d :: ds, _, _, .cons h1 h2, .cons r1 r2 => by
    obtain ⟨as, q1, n1⟩ := Dd.reads I d _ _ h1 r1
    obtain ⟨bs, q2, n2⟩ := Dd.readsAll I ds _ _ h2 r2
    exact ⟨_, .cons q1 q2, by simp [n1, n2]⟩
end
mutual
theorem Dp.noDict {K : PySem.W.Frag} {H : Hp} : ∀ (d : PyData) (v : V), Dp K H v d → d.hasDict = false
  | .none, _, _ => rfl
  | .bool _, _, _ => rfl
  | .int _, _, _ => rfl
  | .str _, _, _ => rfl
  | .list ds, _, h => by
    cases h with
    | lst hs ha => exact Dp.noDictAll ds _ ha
  | .tuple ds, _, h => by
    cases h with
    | tup hs ha => exact Dp.noDictAll ds _ ha
  | .dict _, _, h => by cases h
theorem Dp.noDictAll {K : PySem.W.Frag} {H : Hp} : ∀ (ds : List PyData) (vs : List V), DpAll K H vs ds → PyData.hasDictAll ds = false
  | [], _, _ => rfl
  | d :: ds, _, h => by
    cases h with
    | cons h1 h2 => rw [PyData.hasDictAll, Dp.noDict d _ h1, Dp.noDictAll ds _ h2]; rfl
end
end
/-- what repr tells -/
def Rp (K : PySem.W.Frag) (H : Hp) (v : V) (d : PyData) : Prop := (Dp K H v d ∨ Dd K H v d) ∧ d.showable = true ∧ d.depth ≤ 100 ∧ d.shown.length ≤ sizeLine
def rRepr (K : PySem.W.Frag) : List V → Hp → VK → Prop := fun xs H Q => ∃ v d, xs = [v] ∧ Rp K H v d ∧ Q (.str d.shown) H
theorem i_repr {K : PySem.W.Frag} {H : Hp} {Q : VK} {v : V} {d : PyData} (h : Rp K H v d) (q : Q (.str d.shown) H) : rRepr K [v] H Q := ⟨v, d, rfl, h, q⟩
section
variable {X : Cx}
theorem c_repr (hgd : X.A.guards = some []) (hu : X.A.units + 110 < cLine) : CallR X (.builtin "repr") (rRepr X.K) := by
  intro pins s σ H xs us Q I r h
  obtain ⟨v, d, rfl, ⟨hD, hs, hp, hz⟩, q⟩ := h
  obtain ⟨u, rfl, rx⟩ := vals1 r
  have red : ∃ as, Reads s.heap u d as ∧ (d.hasDict = true → sysModules ∉ as) := by
    rcases hD with hD | hD
    · obtain ⟨as, h1⟩ := Dp.reads I d v u hD rx
      exact ⟨as, h1, fun z => by rw [Dp.noDict d v hD] at z; cases z⟩
    · obtain ⟨as, h1, h2⟩ := Dd.reads I d v u hD rx
      exact ⟨as, h1, fun _ => h2⟩
  obtain ⟨as, rd, hsm⟩ := red
  have fin : ∀ (tk : Nat), EP X pins σ Q (.str d.shown s.toks) { s with toks := tk } := fun tk => ⟨.str d.shown, H, I.tok _, ⟨_, rfl⟩, q⟩
  cases rd with
  | none => exact P.repr_of_none (fin _)
  | bool b => exact P.repr_of_bool (fin _)
  | int i t => exact P.repr_of_int (of_decide_eq_true hs) (fin _)
  | str x t => exact P.repr_of_str (fin _) hz
  | list h1 h2 h3 h4 => exact repr_of_reads' (.list h1 h2 h3 h4) hs hsm hgd (by omega) (fun _ _ e => e) (fun h' t tk hk => ⟨.str _, H, I.kept hk, ⟨_, rfl⟩, q⟩) hz
  | tuple h1 h2 h3 h4 => exact repr_of_reads' (.tuple h1 h2 h3 h4) hs hsm hgd (by omega) (fun _ _ e => e) (fun h' t tk hk => ⟨.str _, H, I.kept hk, ⟨_, rfl⟩, q⟩) hz
  | dict h1 h2 h3 h4 h5 => exact repr_of_reads' (.dict h1 h2 h3 h4 h5) hs hsm hgd (by omega) (fun _ _ e => e) (fun h' t tk hk => ⟨.str _, H, I.kept hk, ⟨_, rfl⟩, q⟩) hz
end
section
variable {K : PySem.W.Frag} {H : Hp}
theorem Rp.int {i : Int} (h : i.natAbs.log2 < 1920) : Rp K H (.int i) (.int i) := ⟨.inl (.int i), decide_eq_true h, Nat.zero_le _, int_text_fits h⟩
theorem Rp.non : Rp K H .non .none := ⟨.inl .non, rfl, by decide, by decide +kernel⟩
theorem Rp.bl (b : Bool) : Rp K H (.bl b) (.bool b) := ⟨.inl (.bl b), rfl, Nat.zero_le _, by cases b <;> decide +kernel⟩
end
end Ice
namespace Ice
open PySem PySem.Spec PyProof.Rows L2
/-! ### what is told stays told -/
section
variable {K : PySem.W.Frag} {H H' : Hp}
theorem SqL.same (s : Same H H') {a : Addr} {xs : List V} (h : SqL K H a xs) : SqL K H' a xs := s.seq h
theorem SqT.same (s : Same H H') {a : Addr} {xs : List V} (h : SqT K H a xs) : SqT K H' a xs := by
  rcases h with (h | ⟨o, h⟩) | h
  · exact .inl (.inl (s _ _ h))
  · exact .inl (.inr ⟨o, s _ _ h⟩)
  · exact .inr h
mutual
theorem Dp.same (s : Same H H') : ∀ (d : PyData) (v : V), Dp K H v d → Dp K H' v d
  | .none, _, h => by cases h; exact .non
  | .bool _, _, h => by cases h; exact .bl _
  | .int _, _, h => by cases h; exact .int _
  | .str _, _, h => by cases h; exact .str _
  | .list ds, _, h => by
    cases h with
    | lst hs ha => exact .lst (SqL.same s hs) (Dp.sameAll s ds _ ha)
  | .tuple ds, _, h => by
    cases h with
    | tup hs ha => exact .tup (SqT.same s hs) (Dp.sameAll s ds _ ha)
  | .dict _, _, h => by cases h
theorem Dp.sameAll (s : Same H H') : ∀ (ds : List PyData) (vs : List V), DpAll K H vs ds → DpAll K H' vs ds
  | [], _, h => by cases h; exact .nil
  | d :: ds, _, h => by
    cases h with
    | cons h1 h2 => exact .cons (Dp.same s d _ h1) (Dp.sameAll s ds _ h2)
end
mutual
theorem Dd.same (s : Same H H') : ∀ (d : PyData) (v : V), Dd K H v d → Dd K H' v d
  | _, _, .sc z => .sc z
  | .tuple ds, _, .tup hs ha => .tup (SqT.same s hs) (Dd.sameAll s ds _ ha)
  | .dict _, _, .dct hk hd => .dct (s _ _ hk) hd
theorem Dd.sameAll (s : Same H H') : ∀ (ds : List PyData) (vs : List V), DdAll K H vs ds → DdAll K H' vs ds
  | [], _, .nil => .nil
  | d :: ds, _, .cons h1 h2 => .cons (Dd.same s d _ h1) (Dd.sameAll s ds _ h2)
end
theorem Rp.same (s : Same H H') {v : V} {d : PyData} (h : Rp K H v d) : Rp K H' v d :=
  ⟨h.1.imp (Dp.same s d v) (Dd.same s d v), h.2⟩
theorem Rp.str {x : Str} (hl : x.length ≤ 1000) (hc : ∀ c ∈ x.cps.toList, c < 128) : Rp K H (.str x) (.str x) := by
  refine ⟨.inl (.str x), rfl, Nat.zero_le _, ?_⟩
  have b := PySem.StrLaws.reprText_len x (fun c h => Nat.lt_trans (hc c h) (by decide))
  show (reprText x).length ≤ _
  exact sz_of (by omega)
end
end Ice

set_option Elab.async false
set_option linter.all false
set_option maxRecDepth 100000
set_option maxHeartbeats 4000000
set_option autoImplicit false
/-! Texts: walked sign by sign, compared, joined, cut, repeated. -/
namespace Ice
open PySem PySem.Spec PyProof.Rows L2 TL
theorem tl_len (x : Str) : (tl x).length = x.length := by show x.cps.toList.length = x.cps.size; simp
/-- a for over a text's signs -/
theorem for_text {x : Str} {g : TG} {tb : TS} {D : Ends} {σ : L2.St} {H : Hp} (Pv : Nat → L2.St → Hp → Prop) (h0 : Pv 0 σ H)
    (hs : ∀ i c σ H, (tl x)[i]? = some c → Pv i σ H → g (.str ⟨#[c]⟩) σ H fun σ2 H2 => tb { D with nx := Pv (i + 1), ct := Pv (i + 1), bk := D.nx } σ2 H2) (hd : ∀ σ H, Pv (tl x).length σ H → D.nx σ H) :
    ∃ W : Nat → Nat → L2.St → Hp → Prop, (∃ m, W 0 m σ H) ∧ ∀ i m σ H, W i m σ H →
      ((Its x).stop i H ∧ D.nx σ H) ∨ ((Its x).go i H ∧ ∃ N : L2.St → Hp → Prop, (∀ σ' H', N σ' H' → ∃ m', m' < m ∧ W (i + 1) m' σ' H') ∧ ∀ v H', (Its x).yld i H v H' → g v σ H' fun σ2 H2 => tb { D with nx := N, ct := N, bk := D.nx } σ2 H2) := by
  have sz : (tl x).length = x.cps.size := by show x.cps.toList.length = _; simp
  refine ⟨fun i m σ H => m = (tl x).length - i ∧ i ≤ (tl x).length ∧ Pv i σ H, ⟨(tl x).length, by simp, Nat.zero_le _, h0⟩, ?_⟩
  rintro i m σ H ⟨rfl, hi, p⟩
  by_cases lt : i < (tl x).length
  · refine .inr ⟨by show i < x.cps.size; omega, Pv (i + 1), fun σ' H' p' => ⟨(tl x).length - (i + 1), by omega, rfl, lt, p'⟩, ?_⟩
    rintro v H' ⟨rfl, c, hc, rfl⟩
    exact hs i c σ H' (by show x.cps.toList[i]? = some c; rw [Array.getElem?_toList]; exact hc) p
  · have e : i = (tl x).length := by omega
    subst e
    exact .inl ⟨by show x.cps.size ≤ _; omega, hd σ H p⟩
/-- a comprehension over a text's signs -/
theorem lc_text {x : Str} {g : TG} {tt : TT} {te : TE} {vs : List Nat} {σ : L2.St} {H1 : Hp} {D : Addr} {Qd : Hp → Prop} (Pv : Nat → Hp → Prop) (h0 : Pv 0 (upd H1 D (.lst [])))
    (hs : ∀ i c H, (tl x)[i]? = some c → Pv i H → g (.str ⟨#[c]⟩) (wipe σ vs) H fun σ2 H2 => wipe σ2 vs = wipe σ vs ∧ tt σ2 H2 fun b H3 =>
      if b = true then te σ2 H3 fun y H4 => ∃ acc, H4 D = some (.lst acc) ∧ acc.length < sizeLine ∧ Pv (i + 1) (upd H4 D (.lst (acc ++ [y]))) else Pv (i + 1) H3) (hd : ∀ H, Pv (tl x).length H → Qd H) :
    ∃ W : Nat → Nat → Hp → Prop, (∃ m, W 0 m (upd H1 D (.lst []))) ∧ ∀ i m H, W i m H →
      ((Its x).stop i H ∧ Qd H) ∨ ((Its x).go i H ∧ ∃ Nx : Hp → Prop, (∀ H', Nx H' → ∃ m', m' < m ∧ W (i + 1) m' H') ∧ ∀ v H', (Its x).yld i H v H' → g v (wipe σ vs) H' fun σ2 H2 => wipe σ2 vs = wipe σ vs ∧ tt σ2 H2 fun b H3 =>
        if b = true then te σ2 H3 fun y H4 => ∃ acc, H4 D = some (.lst acc) ∧ acc.length < sizeLine ∧ Nx (upd H4 D (.lst (acc ++ [y]))) else Nx H3) := by
  have sz : (tl x).length = x.cps.size := by show x.cps.toList.length = _; simp
  refine ⟨fun i m H => m = (tl x).length - i ∧ i ≤ (tl x).length ∧ Pv i H, ⟨(tl x).length, by simp, Nat.zero_le _, h0⟩, ?_⟩
  rintro i m H ⟨rfl, hi, p⟩
  by_cases lt : i < (tl x).length
  · refine .inr ⟨by show i < x.cps.size; omega, Pv (i + 1), fun H' p' => ⟨(tl x).length - (i + 1), by omega, rfl, lt, p'⟩, ?_⟩
    rintro v H' ⟨rfl, c, hc, rfl⟩
    exact hs i c H' (by show x.cps.toList[i]? = some c; rw [Array.getElem?_toList]; exact hc) p
  · have e : i = (tl x).length := by omega
    subst e
    exact .inl ⟨by show x.cps.size ≤ _; omega, hd H p⟩
/-! ### joined with nothing between -/
theorem joinL_nil : ∀ ps : List (List Nat), joinL [] ps = ps.flatten
  | [] => rfl
  | [p] => by simp [joinL]
  | p :: q :: r => by
    show p ++ ([] ++ joinL [] (q :: r)) = _
    rw [joinL_nil (q :: r)]
    simp
theorem tl_joined {e : Str} (he : tl e = []) (ys : List Str) : tl (Txt.join e ys) = (ys.map tl).flatten := by rw [join_eq, tl_join, he, joinL_nil]
theorem flat_ones : ∀ (ys : List Str), (∀ y ∈ ys, y.length = 1) → ((ys.map tl).flatten).length = ys.length
  | [], _ => rfl
  | y :: ys, h => by
    have h1 := h y (List.mem_cons_self ..)
    rw [List.map_cons, List.flatten_cons, List.length_append, tl_len, h1, flat_ones ys fun z hz => h z (List.mem_cons_of_mem _ hz), List.length_cons]
    omega
theorem len_joined {e : Str} (he : tl e = []) {ys : List Str} (h : ∀ y ∈ ys, y.length = 1) : (Txt.join e ys).length = ys.length := by rw [← tl_len, tl_joined he, flat_ones ys h]
theorem sum_ones : ∀ {ys : List Str}, (∀ y ∈ ys, y.length = 1) → (ys.map (·.length)).sum = ys.length
  | [], _ => rfl
  | y :: ys, h => by
    rw [List.map_cons, List.sum_cons, h y (List.mem_cons_self ..), sum_ones fun z hz => h z (List.mem_cons_of_mem _ hz), List.length_cons]
    omega
/-! ### cut, put together -/
theorem len_add (x y : Str) : (x ++ y).length = x.length + y.length := by rw [← tl_len, tl_append, List.length_append, tl_len, tl_len]
theorem tl_cut (z : Str) (lo hi : Option Int) : tl (cutS z lo hi) = ((tl z).drop (HT.sIx z.length 0 lo)).take (HT.sIx z.length z.length hi - HT.sIx z.length 0 lo) := rfl
theorem tl_cut_to (z : Str) (k : Nat) : tl (cutS z none (some (k : Int))) = (tl z).take k := by
  rw [tl_cut, HT.sIx_none, HT.sIx_nat, List.drop_zero, Nat.sub_zero]
  by_cases h : k ≤ z.length
  · rw [Nat.min_eq_left h]
  · rw [Nat.min_eq_right (by omega), List.take_of_length_le (by rw [tl_len]; omega), List.take_of_length_le (by rw [tl_len]; omega)]
theorem tl_cut_from (z : Str) (k : Nat) : tl (cutS z (some (k : Int)) none) = (tl z).drop k := by
  rw [tl_cut, HT.sIx_none, HT.sIx_nat]
  by_cases h : k ≤ z.length
  · rw [Nat.min_eq_left h, List.take_of_length_le (by rw [List.length_drop, tl_len]; omega)]
  · rw [Nat.min_eq_right (by omega), List.drop_of_length_le (by rw [tl_len]; omega), List.drop_of_length_le (by rw [tl_len]; omega)]
    simp
theorem len_cut_to (z : Str) (k : Nat) : (cutS z none (some (k : Int))).length = min k z.length := by rw [← tl_len, tl_cut_to, List.length_take, tl_len]
theorem len_cut_from (z : Str) (k : Nat) : (cutS z (some (k : Int)) none).length = z.length - k := by rw [← tl_len, tl_cut_from, List.length_drop, tl_len]
/-! ### items -/
theorem atI_some {α : Type} {xs : List α} {i : Int} (h0 : 0 ≤ i) (h1 : i < xs.length) : ∃ v, atI xs i = some v ∧ v ∈ xs ∧ xs[i.toNat]? = some v := by
  obtain ⟨k, rfl⟩ := Int.eq_ofNat_of_zero_le h0
  have hk : k < xs.length := by omega
  exact ⟨xs[k], atI_nat (List.getElem?_eq_getElem hk), List.getElem_mem _, by simp [List.getElem?_eq_getElem hk]⟩
/-! ### rules -/
def repS (x : Str) (k : Int) : Str := ⟨((List.replicate k.toNat (tl x)).flatten).toArray⟩
theorem tl_rep (x : Str) (k : Int) : tl (repS x k) = (List.replicate k.toNat (tl x)).flatten := by show ((List.replicate k.toNat (tl x)).flatten).toArray.toList = _; simp
theorem len_rep (x : Str) (k : Int) : (repS x k).length = k.toNat * x.length := by rw [← tl_len, tl_rep, List.length_flatten, List.map_replicate, List.sum_replicate_nat, tl_len]
def rMulT : R2 := fun x y H Q => ∃ i k, x = .str i ∧ y = .int k ∧ 0 ≤ k ∧ k ≤ 1000 ∧ i.length ≤ 1000 ∧ Q (.str (repS i k)) H
def rFind : V → List V → Hp → VK → Prop := fun x xs H Q => ∃ a b, x = .str a ∧ xs = [.str b] ∧ Q (.int (Txt.find a b)) H
def rJoin (K : PySem.W.Frag) : V → List V → Hp → VK → Prop := fun x xs H Q => ∃ a p, ∃ ys : List Str, x = .str a ∧ xs = [.ref p] ∧ (SqL K H p (ys.map V.str) ∨ SqT K H p (ys.map V.str)) ∧ (ys.map (·.length)).sum + ys.length * a.length ≤ 16777216 ∧ Q (.str (Txt.join a ys)) H
def rLeT : R2 := fun x y H Q => ∃ i j, x = .str i ∧ y = .str j ∧ Q (.bl (!decide (j.cps.toList < i.cps.toList))) H
def rIsBl : R2 := fun x y H Q => ∃ b, y = .bl b ∧ Q (.bl (decide (x = .bl b))) H
theorem fold_flat : ∀ (l : List (Array Nat)) (acc : Array Nat), (l.foldl (· ++ ·) acc).toList = acc.toList ++ (l.map (·.toList)).flatten
  | [], acc => by simp
  | a :: l, acc => by rw [List.foldl_cons, fold_flat l, Array.toList_append, List.map_cons, List.flatten_cons, List.append_assoc]
theorem rep_fold (x : Str) (k : Int) : (⟨(List.replicate k.toNat x.cps).foldl (· ++ ·) #[]⟩ : Str) = repS x k := by
  have e : ((List.replicate k.toNat x.cps).foldl (· ++ ·) #[]) = ((List.replicate k.toNat (tl x)).flatten).toArray := by
    apply Array.toList_inj.mp
    rw [fold_flat, List.map_replicate]
    simp
  rw [e]
  rfl
section
variable {X : Cx} {H : Hp} {Q : VK} {K : PySem.W.Frag}
theorem o_leT : OpR X (compareOp .LtE) rLeT := op_le_str
theorem m_join : MtR X "str.join" (rJoin X.K) := mt_join
theorem m_find : MtR X "str.find" rFind := mt_find
theorem c_isi : CallR X (.builtin "isinstance") (rIsi X.K) := call_isi
theorem c_intS : CallR X (.type "int") (fun xs H Q => ∃ a n, xs = [.str a] ∧ PySem.intText? a = some n ∧ a.length ≤ 640 ∧ Q (.int n) H) := call_int_str
theorem o_mulT : OpR X (binaryOp .Mult) rMulT := by
  intro pins s σ H x y v u Q I rx ry h
  obtain ⟨i, k, rfl, rfl, h0, h1, hz, q⟩ := h
  obtain ⟨t, rfl⟩ := rx
  obtain ⟨t', rfl⟩ := ry
  have big : i.length * k.toNat ≤ 1000 * 1000 := Nat.mul_le_mul hz (by omega)
  have lim : (1000 : Int) * 1000 ≤ (2 ^ 63 - 1) := by decide
  refine PySem.P.mul_str ?_ ?_ ?_ ?_
  · rw [decide_eq_false (by omega), decide_eq_false (by omega)]; rfl
  · intro h2 _ h3
    have k0 : 0 < k := by omega
    have a1 : (i.length : Int) * k ≤ 1000 * 1000 := Int.mul_le_mul (by omega) h1 (by omega) (by omega)
    have a2 : (2 ^ 63 - 1 : Int) / k < i.length := h3
    have a3 : (2 ^ 63 - 1 : Int) < i.length * k := Int.lt_mul_of_ediv_lt k0 a2
    omega
  · intro _ _
    unfold Builtin.Str.tooLong
    exact decide_eq_false (by rw [sizeLine_eq]; omega)
  · have fin : ∀ (z : Str) (tk1 tk2 : Nat), z = repS i k → EP X pins σ Q (.str z tk1) { s with toks := tk2 } := fun z a b e => ⟨.str z, H, I.tok _, ⟨_, rfl⟩, by rw [e]; exact q⟩
    by_cases k1 : k < 1
    · rw [if_pos k1]
      have k0 : k = 0 := by omega
      exact ⟨by decide, fin _ _ _ (by subst k0; rfl)⟩
    · rw [if_neg k1]
      by_cases k2 : (k == 1 || i.length == 0) = true
      · rw [if_pos k2]
        refine fin i t s.toks ?_
        rw [← mk_tl i]
        show _ = (⟨((List.replicate k.toNat (tl i)).flatten).toArray⟩ : Str)
        rcases Bool.or_eq_true _ _ ▸ k2 with e | e
        · rw [beq_iff_eq.mp e]; simp
        · have e0 : tl i = [] := List.eq_nil_of_length_eq_zero (by rw [tl_len]; exact beq_iff_eq.mp e)
          rw [e0]; simp
      · rw [if_neg k2]
        refine ⟨?_, fin _ _ _ (rep_fold i k)⟩
        rw [rep_fold]
        rw [len_rep, sizeLine_eq]
        have : k.toNat * i.length ≤ 1000 * 1000 := Nat.mul_le_mul (by omega) hz
        omega
theorem o_isB : OpR X (compareOp .Is) rIsBl := by
  intro pins s σ H x y v u Q I rx ry h
  obtain ⟨b, rfl, q⟩ := h
  cases (show u = Value.bool b from ry)
  by_cases e : x = .bl b
  · subst e
    cases (show v = Value.bool b from rx)
    exact wpAny_is_self rfl ⟨.bl true, H, I, rfl, by simpa using q⟩
  · have q' : Q (.bl false) H := by simpa [e] using q
    have fin : ∀ s', s' = s → EP X pins σ Q (.bool false) s' := fun s' z => ⟨.bl false, H, z ▸ I, rfl, q'⟩
    cases x with
    | bl c => cases (show v = Value.bool c from rx); exact wpAny_is_other rfl (fun z => e (by cases z; rfl)) (fin _ rfl)
    | non => cases (show v = Value.none from rx); exact wpAny_is_other rfl (fun z => by cases z) (fin _ rfl)
    | int i => obtain ⟨t, rfl⟩ := (show ∃ t, v = Value.int i t from rx); exact wpAny_is_other rfl (fun z => by cases z) (fin _ rfl)
    | str i => obtain ⟨t, rfl⟩ := (show ∃ t, v = Value.str i t from rx); exact wpAny_is_other rfl (fun z => by cases z) (fin _ rfl)
    | byt i => obtain ⟨t, rfl⟩ := (show ∃ t, v = Value.bytes i t from rx); exact wpAny_is_other rfl (fun z => by cases z) (fin _ rfl)
    | flt i => obtain ⟨t, rfl⟩ := (show ∃ t, v = Value.float i t from rx); exact wpAny_is_other rfl (fun z => by cases z) (fin _ rfl)
    | ref a => cases (show v = Value.ref a from rx); exact wpAny_is_other rfl (fun z => by cases z) (fin _ rfl)
    | ty n => cases (show v = Value.type n from rx); exact wpAny_is_other rfl (fun z => by cases z) (fin _ rfl)
theorem i_isi {v : V} {n m : String} {b : Bool} (h : TyX K H v (.type n)) (e : kitB n m = some b) (q : Q (.bl b) H) : rIsi K [v, .ty m] H Q := ⟨v, .ty m, .type n, .type m, b, rfl, .ty m, h, kit_ty e, q⟩
theorem i_mulT {i : Str} {k : Int} (h0 : 0 ≤ k) (h1 : k ≤ 1000) (hz : i.length ≤ 1000) (q : Q (.str (repS i k)) H) : rMulT (.str i) (.int k) H Q := ⟨i, k, rfl, rfl, h0, h1, hz, q⟩
theorem i_find {a b : Str} (q : Q (.int (Txt.find a b)) H) : rFind (.str a) [.str b] H Q := ⟨a, b, rfl, rfl, q⟩
theorem i_leT {a b : Str} (q : Q (.bl (!decide (tl b < tl a))) H) : rLeT (.str a) (.str b) H Q := ⟨a, b, rfl, rfl, q⟩
theorem i_isB {x : V} {b : Bool} (q : Q (.bl (decide (x = .bl b))) H) : rIsBl x (.bl b) H Q := ⟨b, rfl, q⟩
theorem i_notInS {c : Nat} {z : Str} (q : Q (.bl (!decide (c ∈ z.cps.toList))) H) : rNotInS (.str ⟨#[c]⟩) (.str z) H Q := ⟨c, z, rfl, rfl, q⟩
theorem i_inS {c : Nat} {z : Str} (q : Q (.bl (decide (c ∈ z.cps.toList))) H) : rInS (.str ⟨#[c]⟩) (.str z) H Q := ⟨c, z, rfl, rfl, q⟩
theorem i_slS {z : Str} {lo hi : Option Int} (hz : z.length ≤ sizeLine) (q : Q (.str (cutS z lo hi)) H) : rSlS (.str z) lo hi H Q := ⟨z, rfl, hz, q⟩
end
end Ice

set_option Elab.async false
set_option linter.all false
set_option maxRecDepth 100000
set_option maxHeartbeats 4000000
set_option autoImplicit false
/-! Things of any kind. -/
namespace Ice
open PySem PySem.Spec PyProof.Rows L2 TL
theorem one_lt (c l : Nat) : ([c] < [l]) ↔ c < l := by rw [List.cons_lt_cons_iff]; simp
theorem str_ext {x y : Str} (h : tl x = tl y) : x = y := by rw [← mk_tl x, ← mk_tl y, h]
theorem take_all {P : Nat → Prop} {l : List Nat} {i c : Nat} (h : ∀ x ∈ l.take i, P x) (hc : l[i]? = some c) (hp : P c) : ∀ x ∈ l.take (i + 1), P x := by
  intro x hx
  rw [List.take_add_one, hc] at hx
  rcases List.mem_append.mp hx with z | z
  · exact h x z
  · have : x = c := by simpa using z
    rw [this]; exact hp
theorem empty_eq (s : Str) : (V.str s = V.str (Str.ofString "")) ↔ s.length = 0 := by
  constructor
  · intro h; injection h with h; rw [h]; decide +kernel
  · intro h
    have : tl s = tl (Str.ofString "") := by rw [List.eq_nil_of_length_eq_zero (by rw [tl_len]; exact h : (tl s).length = 0)]; decide +kernel
    rw [str_ext this]
theorem sign_eq (c d : Nat) : (V.str ⟨#[c]⟩ = V.str ⟨#[d]⟩) ↔ c = d := by
  constructor
  · intro h; injection h with h; injection h with h; simpa using h
  · rintro rfl; rfl
/-- what is no text -/
inductive NoTx (H : Hp) : V → String → Prop
  | non : NoTx H .non "NoneType"
  | int (i : Int) : NoTx H (.int i) "int"
  | bl (b : Bool) : NoTx H (.bl b) "bool"
  | lst {p : Addr} {xs : List V} (h : H p = some (.lst xs)) : NoTx H (.ref p) "list"
  | tup {p : Addr} {xs : List V} (h : H p = some (.tup xs)) : NoTx H (.ref p) "tuple"
  | dct {p : Addr} {xs : List (Key × V)} (h : H p = some (.dK xs)) : NoTx H (.ref p) "dict"
def Th (H : Hp) (v : V) : Prop := (∃ s, v = .str s ∧ s.length ≤ 64) ∨ ∃ n, NoTx H v n
theorem NoTx.same {H H' : Hp} {v : V} {n : String} (e : Same H H') (h : NoTx H v n) : NoTx H' v n := by
  cases h with
  | non => exact .non
  | int i => exact .int i
  | bl b => exact .bl b
  | lst h => exact .lst (e _ _ h)
  | tup h => exact .tup (e _ _ h)
  | dct h => exact .dct (e _ _ h)
theorem Th.same {H H' : Hp} {v : V} (e : Same H H') (h : Th H v) : Th H' v := by
  rcases h with h | ⟨n, h⟩
  · exact .inl h
  · exact .inr ⟨n, h.same e⟩
theorem Th.updL {H : Hp} {D : Addr} {xs ys : List V} {v : V} (hD : H D = some (.lst xs)) (h : Th H v) : Th (upd H D (.lst ys)) v := by
  rcases h with h | ⟨n, h⟩
  · exact .inl h
  · refine .inr ?_
    cases h with
    | non => exact ⟨_, .non⟩
    | int i => exact ⟨_, .int i⟩
    | bl b => exact ⟨_, .bl b⟩
    | @lst p xs h =>
      by_cases e : p = D
      · subst e; exact ⟨_, .lst upd_same⟩
      · exact ⟨_, .lst (by rw [upd_ne e]; exact h)⟩
    | tup h => exact ⟨_, .tup (by rw [upd_ne (ne_of h hD (by intro z; cases z))]; exact h)⟩
    | dct h => exact ⟨_, .dct (by rw [upd_ne (ne_of h hD (by intro z; cases z))]; exact h)⟩
section
variable {K : PySem.W.Frag} {H : Hp}
theorem ty_str {s : Str} : TyX K H (.str s) (.type "str") := .base (.str s)
theorem NoTx.tyx {v : V} {n : String} (h : NoTx H v n) : TyX K H v (.type n) := by
  cases h with
  | non => exact .base .non
  | int i => exact .base (.int i)
  | bl b => exact .base (.bl b)
  | lst h => exact .base (.lst h)
  | tup h => exact .base (.tup h)
  | dct h => exact .base (.dK h)
theorem NoTx.noStr {v : V} {n : String} (h : NoTx H v n) : kitB n "str" = some false := by cases h <;> decide +kernel
theorem NoTx.ty {v : V} {n : String} (h : NoTx H v n) : TyX K H v (.type n) ∧ kitB n "str" = some false := ⟨h.tyx, h.noStr⟩
end
/-- a whole number; one within bounds; a name -/
def isW : V → Bool
  | .int _ => true
  | _ => false
def inB (lo hi : Int) : V → Bool
  | .int i => decide (lo ≤ i) && decide (i ≤ hi)
  | _ => false
def isN : V → Bool
  | .str s => decide (1 ≤ s.length ∧ s.length ≤ 8 ∧ ∀ c ∈ tl s, 97 ≤ c ∧ c ≤ 122)
  | _ => false
theorem NoTx.isN {H : Hp} {v : V} {n : String} (h : NoTx H v n) : isN v = false := by cases h <;> rfl
theorem Th.ty {K : PySem.W.Frag} {H : Hp} {v : V} (h : Th H v) : ∃ n, TyX K H v (.type n) ∧ kitB n "int" = some (isW v || decide (n = "bool")) ∧ kitB n "bool" = some (decide (n = "bool")) ∧ (n = "bool" → ∃ b, v = .bl b) := by
  rcases h with ⟨s, rfl, _⟩ | ⟨n, h⟩
  · exact ⟨"str", ty_str, (by decide +kernel : kitB "str" "int" = some (false || decide ("str" = "bool"))), by decide +kernel, fun z => absurd z (by decide)⟩
  · refine ⟨n, h.tyx, ?_⟩
    cases h with
    | non => exact ⟨(by decide +kernel : kitB "NoneType" "int" = some (false || decide ("NoneType" = "bool"))), by decide +kernel, fun z => absurd z (by decide)⟩
    | int i => exact ⟨(by decide +kernel : kitB "int" "int" = some (true || decide ("int" = "bool"))), by decide +kernel, fun z => absurd z (by decide)⟩
    | bl b => exact ⟨(by decide +kernel : kitB "bool" "int" = some (false || decide ("bool" = "bool"))), by decide +kernel, fun _ => ⟨b, rfl⟩⟩
    | lst h => exact ⟨(by decide +kernel : kitB "list" "int" = some (false || decide ("list" = "bool"))), by decide +kernel, fun z => absurd z (by decide)⟩
    | tup h => exact ⟨(by decide +kernel : kitB "tuple" "int" = some (false || decide ("tuple" = "bool"))), by decide +kernel, fun z => absurd z (by decide)⟩
    | dct h => exact ⟨(by decide +kernel : kitB "dict" "int" = some (false || decide ("dict" = "bool"))), by decide +kernel, fun z => absurd z (by decide)⟩
end Ice

set_option Elab.async false
set_option linter.all false
set_option maxRecDepth 100000
set_option maxHeartbeats 4000000
set_option autoImplicit false
/-! Texts drawn sign by sign from a box. -/
namespace Ice
open PySem PySem.Spec PyProof.Rows L2 TL
/-- a comprehension over a range whose element draws one sign from the box b -/
theorem lc_draw {b : Addr} {n size : Nat} {P : Nat → Prop} {g : TG} {tt : TT} {te : TE} {vs : List Nat} {σ : L2.St} {H1 : Hp} {D : Addr} {Qd : Hp → Prop} (hB : Box H1 b n) (hD : H1 D = none) (hz : size ≤ 1000)
    (hs : ∀ i H, i < size → But b H1 H → Box H b (n + i) → ∀ N : V → Hp → Prop, (∀ c H4, P c → But b H H4 → Box H4 b (n + i + 1) → N (.str ⟨#[c]⟩) H4) →
      g (.int (0 + i)) (wipe σ vs) H fun σ2 H2 => wipe σ2 vs = wipe σ vs ∧ tt σ2 H2 fun b H3 => if b = true then te σ2 H3 N else False)
    (mono : ∀ i H (N : V → Hp → Prop) (M : Hp → Prop), (g (.int (0 + i)) (wipe σ vs) H fun σ2 H2 => wipe σ2 vs = wipe σ vs ∧ tt σ2 H2 fun b H3 => if b = true then te σ2 H3 N else False) →
      g (.int (0 + i)) (wipe σ vs) H fun σ2 H2 => wipe σ2 vs = wipe σ vs ∧ tt σ2 H2 fun b H3 => if b = true then te σ2 H3 N else M H3)
    (hd : ∀ (acc : List Str) H, But b H1 H → Box H b (n + size) → H D = some (.lst (acc.map V.str)) → acc.length = size → (∀ y ∈ acc, ∃ c, y = ⟨#[c]⟩ ∧ P c) → Qd H) :
    ∃ W : Nat → Nat → Hp → Prop, (∃ m, W 0 m (upd H1 D (.lst []))) ∧ ∀ i m H, W i m H →
      ((Itr 0 size).stop i H ∧ Qd H) ∨ ((Itr 0 size).go i H ∧ ∃ Nx : Hp → Prop, (∀ H', Nx H' → ∃ m', m' < m ∧ W (i + 1) m' H') ∧ ∀ x H', (Itr 0 size).yld i H x H' → g x (wipe σ vs) H' fun σ2 H2 => wipe σ2 vs = wipe σ vs ∧ tt σ2 H2 fun b H3 =>
        if b = true then te σ2 H3 fun y H4 => ∃ acc, H4 D = some (.lst acc) ∧ acc.length < sizeLine ∧ Nx (upd H4 D (.lst (acc ++ [y]))) else Nx H3) := by
  have bD := hB.ne hD
  refine lc_range (lo := 0) (n := size) (fun i H' => But b H1 H' ∧ Box H' b (n + i) ∧ ∃ acc : List Str, H' D = some (.lst (acc.map V.str)) ∧ acc.length = i ∧ ∀ y ∈ acc, ∃ c, y = ⟨#[c]⟩ ∧ P c)
    ⟨But.new _ hD, hB.new hD, [], upd_same, rfl, by simp⟩ ?_ ?_
  · rintro i H' hi ⟨e6, B6, acc, hA, hl, h1⟩
    refine mono i H' _ _ (hs i H' hi e6 B6 _ ?_)
    intro c H4 pc e7 B7
    refine ⟨_, e7 D _ bD hA, by rw [List.length_map]; exact small1000 (by omega), fun a o na ha => ?_, B7.upd bD, acc ++ [⟨#[c]⟩], by rw [upd_same, List.map_append]; rfl, by simp [hl], ?_⟩
    · rw [upd_ne (ne_of_none ha hD)]
      exact e7 a o na (e6 a o na ha)
    · intro y hy
      rcases List.mem_append.mp hy with z | z
      · exact h1 y z
      · simp at z; exact ⟨c, z, pc⟩
  · rintro H' ⟨e6, B6, acc, hA, hl, h1⟩
    exact hd acc H' e6 B6 hA hl h1
/-- what is joined of such signs -/
theorem join_draw {K : PySem.W.Frag} {P : Nat → Prop} {e : Str} {D : Addr} {acc : List Str} {H : Hp} {Q : VK} (he : tl e = []) (hA : H D = some (.lst (acc.map V.str))) (hz : acc.length ≤ 1000) (h1 : ∀ y ∈ acc, ∃ c, y = ⟨#[c]⟩ ∧ P c)
    (q : ∀ t : Str, t.length = acc.length → (∀ c ∈ tl t, P c) → Q (.str t) H) :
    rJoin K (.str e) [.ref D] H Q := by
  have one : ∀ y ∈ acc, y.length = 1 := fun y hy => by obtain ⟨c, rfl, _⟩ := h1 y hy; rfl
  have e0 : e.length = 0 := by rw [← tl_len, he]; rfl
  refine ⟨e, D, acc, rfl, rfl, .inl (SqL.lst hA), by rw [sum_ones one, e0]; omega, q _ (len_joined he one) ?_⟩
  intro c hc
  rw [tl_joined he] at hc
  obtain ⟨l, hl, hcl⟩ := List.mem_flatten.mp hc
  obtain ⟨y, hy, rfl⟩ := List.mem_map.mp hl
  obtain ⟨d, rfl, pd⟩ := h1 y hy
  have : c = d := by simpa using (show c ∈ [d] from hcl)
  rw [this]; exact pd
/-- a sign of a written text at a drawn place -/
theorem sign_at {P : Nat → Prop} {x : Str} {d : Int} (h0 : 0 ≤ d) (h1 : d < x.length) (hp : ∀ c ∈ tl x, P c) : ∃ c, atI x.cps.toList d = some c ∧ P c := by
  obtain ⟨c, hc, hm, _⟩ := atI_some (xs := x.cps.toList) h0 (by simp only [Array.length_toList]; exact h1)
  exact ⟨c, hc, hp c hm⟩
theorem cut_all {P : Nat → Prop} {z : Str} {lo hi : Option Int} (h : ∀ c ∈ tl z, P c) : ∀ c ∈ tl (cutS z lo hi), P c := by
  intro c hc
  rw [tl_cut] at hc
  exact h c (List.mem_of_mem_drop (List.mem_of_mem_take hc))
theorem add_all {P : Nat → Prop} {x y : Str} (h1 : ∀ c ∈ tl x, P c) (h2 : ∀ c ∈ tl y, P c) : ∀ c ∈ tl (x ++ y), P c := by
  intro c hc
  rw [tl_append] at hc
  rcases List.mem_append.mp hc with z | z
  · exact h1 c z
  · exact h2 c z
theorem one_all {P : Nat → Prop} {d : Nat} (h : P d) : ∀ c ∈ tl (⟨#[d]⟩ : Str), P c := by
  intro c hc
  have : c = d := by simpa using (show c ∈ [d] from hc)
  rw [this]; exact h
end Ice

set_option Elab.async false
set_option linter.all false
set_option maxRecDepth 100000
set_option maxHeartbeats 4000000
set_option autoImplicit false
/-! Own errors over an own error over ValueError; several except clauses, with names or without. -/
namespace Ice
open PySem PySem.Spec PyProof.Rows L2
/-- one except clause: its class, the slot of its name, its suite -/
structure Hd where
  c : Value
  i : Option Nat
  ts : Addr → Value → Option Addr → TS
/-- the slots behind a suite whose name is gone -/
def goneE (i : Nat) (D : Ends) : Ends := { nx := fun σ' H' => D.nx (σ'.set i none) H', rt := D.rt, bk := fun σ' H' => D.bk (σ'.set i none) H', ct := fun σ' H' => D.ct (σ'.set i none) H' }
def Hd.run (h : Hd) (a : Addr) (cls : Value) (d : Option Addr) (D : Ends) (σ : L2.St) (H : Hp) : Prop :=
  match h.i with
  | none => h.ts a cls d D σ H
  | some i => h.ts a cls d (goneE i D) (σ.set i (some (.ref a))) H
def wHds (K : PySem.W.Frag) (Wout : WX) (D : Ends) : List Hd → WX
  | [] => Wout
  | h :: r => fun cls d σ H => ∃ b, PySem.W.exmOne K cls h.c = some b ∧ (b = true → ∀ a, H a = none → h.run a cls d D σ H) ∧ (b = false → wHds K Wout D r cls d σ H)
inductive HdOk (X : Cx) : List ExceptHandler → List Hd → Prop
  | nil : HdOk X [] []
  | plain {x : Str} {c : Value} {ts : Addr → Value → Option Addr → TS} {b₀ : Stmt} {suite : List Stmt} {np pos' : Pos} {hds : List ExceptHandler} {l : List Hd} (hc : Names X x c)
      (hsu : ∀ (a : Addr) (oe : Obj) (cls : Value) (d : Option Addr) (pn : List (Addr × Obj)), Zc cls d oe → (∃ vs, oe.data = .fields vs) → PSs (X.suite a ((a, oe) :: pn)) (b₀ :: suite) (ts a cls d)) (r : HdOk X hds l) :
      HdOk X (.ExceptHandler (some (.Name x np)) none (b₀ :: suite) pos' :: hds) (⟨c, none, ts⟩ :: l)
  | named {x n : Str} {i : Nat} {c : Value} {ts : Addr → Value → Option Addr → TS} {b₀ : Stmt} {suite : List Stmt} {np pos' : Pos} {hds : List ExceptHandler} {l : List Hd} (hi : X.N[i]? = some n) (hln : X.env.kindOf n = some .local) (hc : Names X x c)
      (hsu : ∀ (a : Addr) (oe : Obj) (cls : Value) (d : Option Addr) (pn : List (Addr × Obj)), Zc cls d oe → (∃ vs, oe.data = .fields vs) → PSs (X.suite a ((a, oe) :: pn)) (b₀ :: suite) (ts a cls d)) (r : HdOk X hds l) :
      HdOk X (.ExceptHandler (some (.Name x np)) (some n) (b₀ :: suite) pos' :: hds) (⟨c, some i, ts⟩ :: l)
section
variable {X : Cx} {body : List Stmt} {h₀ : ExceptHandler} {hds : List ExceptHandler} {l : List Hd} {pos : Pos} {tb : WX → TS} {Wout : WX}
/-- the exception at a is caught by one of the clauses, or goes on -/
theorem handled {pins : List (Addr × Obj)} {D : Ends} (hs : X.stack = X.env :: X.outer) (hf : X.env.frame = some X.env.locals) (hN : X.N.Nodup) (tk : Takes X Wout) (ok : X.Ok)
    {a : Addr} {B : Heap} {sI s' : Shared} {σ' : L2.St} {H' : Hp} {cls : Value} {d : Option Addr} {h3 : Heap} (J : Inv X pins σ' H' sI) (nb : ∀ b o, sI.heap.get? b = some o → b ∉ frs X.stack → B.get? b = some o)
    (up : sI.heap.UpToSlots s'.heap) (na : H' a = none) (os : s'.os = sI.os) (ag : AllBare s'.gens) (fl3 : HandSPX.FlyingZ B (X.env :: X.outer) a (Zc cls d) h3) (up3 : s'.heap.UpToSlots h3)
    {hds' : List ExceptHandler} {l' : List Hd} (hk : HdOk X hds' l') :
    wHds X.K Wout D l' cls d σ' H' → wpAny (model X.prog X.w) X.A (handleBy (.ref a) X.env hds') (SP X pins D) X.xe { s' with heap := h3 } := by
  have J3 : Inv X pins σ' H' { s' with heap := h3 } := J.landed nb fl3.1 (up.trans up3) os ag
  obtain ⟨oe3, vs3, he3, hz3, hd3⟩ := fl3.there
  have nfr : a ∉ frs (X.env :: X.outer) := by
    intro hm
    obtain ⟨_, o', e', hnf⟩ := fl3.2.2.1.mem hm
    rw [he3] at e'; cases e'
    exact hnf _ hd3
  have nL : a ≠ X.env.locals := fun z => nfr (List.mem_filterMap.mpr ⟨X.env, List.mem_cons_self, by rw [hf, z]⟩)
  have nF : a ∉ X.fs := by
    intro hm
    obtain ⟨e, he, q⟩ := List.mem_filterMap.mp hm
    exact nfr (List.mem_filterMap.mpr ⟨e, List.mem_cons_of_mem _ he, q⟩)
  have S3 := J3.suite he3 hd3 na nL nF
  have LT : PySem.W.Looks (model X.prog X.w) h3 (typeOf (.ref a)) cls := fun A Q E s k q => wpAny_typeOf_ref (k _ _ he3) (by rw [hz3.1]; exact q)
  have test : ∀ {x : Str} {c : Value} {np : Pos} {Q : Value → Shared → Prop} {E : Value → Shared → Prop}, Names X x c → Q c { s' with heap := h3 } →
      wpAny (model X.prog X.w) (X.A.mark (some (.ref a))) (eval (.Name x np) X.env) Q E { s' with heap := h3 } := by
    rintro x c np Q E ⟨hg, hdbg, hm | ⟨hm, hv, hnn⟩⟩ q
    · exact ld_glob (X := X.suite a ((a, oe3) :: (X.pn ++ pins))) S3 hg hm q hdbg
    · exact ld_blt (X := X.suite a ((a, oe3) :: (X.pn ++ pins))) S3 hg hm hv q hnn hdbg
  have land : ∀ {R : Shared → Prop}, (∀ h4 oe4, (∃ vs, oe4.data = .fields vs) → Zc cls d oe4 → Inv (X.suite a ((a, oe4) :: (X.pn ++ pins))) [] σ' H' { s' with heap := h4 } → R { s' with heap := h4 }) →
      ∀ h4, HandSPX.FlyingZ B (X.env :: X.outer) a (Zc cls d) h4 → s'.heap.UpToSlots h4 → R { s' with heap := h4 } := by
    intro R hR h4 fl4 up4
    have J4 : Inv X pins σ' H' { s' with heap := h4 } := J.landed nb fl4.1 (up.trans up4) os ag
    obtain ⟨oe4, vs4, he4, hz4, hd4⟩ := fl4.there
    exact hR h4 oe4 ⟨_, hd4⟩ hz4 (J4.suite he4 hd4 na nL nF)
  induction hk with
  | nil =>
    intro w
    refine wpAny_handleBy_nil ?_
    obtain ⟨k1, k2, k3, oe, vs, T, oT, ts', he, hz, hd, h1, hr⟩ := id fl3
    unfold PySem.passOn
    refine wpAny_bind (wpAny_field he hd h1 ?_)
    rw [if_neg (show ¬ ((Value.ref T == Value.none) = true) from by simp)]
    have fin : wpAny (model X.prog X.w) X.A (setFlight (.ref a) X.env.frame) (fun _ s4 => wpAny (model X.prog X.w) X.A (throw (.ref a) : Sem Flow) (SP X pins D) X.xe s4) X.xe { s' with heap := h3 } := by
      rw [hf]
      exact HandSPX.setFlight_upZ fl3 (fun h4 hh4 up4 => wpAny_throw (tk _ _ ⟨a, B, sI, pins, σ', H', cls, d, rfl, J, nb, (up.trans up3).trans up4, .inr (.inr (by rw [hs]; exact hh4)), na, os, ag, w⟩))
    first
      | exact wpAny_bind (wpAny_pure (wpAny_bind fin))
      | exact wpAny_bind fin
  | @plain x c ts b₀ suite np pos' hds2 l2 hc hsu r ih =>
    rintro ⟨b, hb1, hyes, hno⟩
    refine wpAny_handleBy_cons (codeAny_handlers_test ?_) (by intro q; cases q)
    refine test hc ((PySem.W.exm_one (M := model X.prog X.w) J3.kIn LT hb1).here ?_)
    match b, hyes, hno with
    | true, hyes, _ =>
      refine codeAny_handlers_suite (HandSPX.lands_againZ fl3 (fun h4 fl4 up4 => ?_))
      refine land ?_ h4 fl4 (up3.trans up4)
      intro h5 oe5 hd5 hz5 S5
      refine wpAny_mono ((hsu a oe5 cls d (X.pn ++ pins) hz5 hd5).run [] _ _ H' _ S5 (hyes rfl a na)) (fun f s6 hsp => ?_) (fun _ _ z => False.elim z)
      match f, hsp with
      | .next, ⟨σ6, H6, S6, q6⟩ => exact ⟨_, _, S6.unsuite ok, q6⟩
      | .brk, ⟨σ6, H6, S6, q6⟩ => exact ⟨_, _, S6.unsuite ok, q6⟩
      | .cont, ⟨σ6, H6, S6, q6⟩ => exact ⟨_, _, S6.unsuite ok, q6⟩
      | .ret u, ⟨v6, σ6, H6, S6, r6, q6⟩ => exact ⟨_, _, _, S6.unsuite ok, r6, q6⟩
    | false, _, hno => exact ih (hno rfl)
  | @named x n i c ts b₀ suite np pos' hds2 l2 hi hln hc hsu r ih =>
    rintro ⟨b, hb1, hyes, hno⟩
    refine wpAny_handleBy_cons (codeAny_handlers_test ?_) (by intro q; cases q)
    refine test hc ((PySem.W.exm_one (M := model X.prog X.w) J3.kIn LT hb1).here ?_)
    match b, hyes, hno with
    | true, hyes, _ =>
      refine codeAny_handlers_suite_as (HandSPX.lands_againZ fl3 (fun h4 fl4 up4 => ?_))
      refine land ?_ h4 fl4 (up3.trans up4)
      intro h5 oe5 hd5 hz5 S5
      refine store_ok (X := X.suite a ((a, oe5) :: (X.pn ++ pins))) (v := .ref a) S5 hN hi (.inl hln) rfl (fun s6 S6 => ?_) (.inr hln)
      refine wpAny_mono ((hsu a oe5 cls d (X.pn ++ pins) hz5 hd5).run [] s6 _ H' _ S6 (hyes rfl a na)) (fun f s7 hsp => ?_) (fun _ _ z => False.elim z)
      match f, hsp with
      | .next, ⟨σ6, H6, S7, q6⟩ => exact gone_ok (S7.unsuite ok) hN hi hln (fun s8 J8 => ⟨_, _, J8, q6⟩)
      | .brk, ⟨σ6, H6, S7, q6⟩ => exact gone_ok (S7.unsuite ok) hN hi hln (fun s8 J8 => ⟨_, _, J8, q6⟩)
      | .cont, ⟨σ6, H6, S7, q6⟩ => exact gone_ok (S7.unsuite ok) hN hi hln (fun s8 J8 => ⟨_, _, J8, q6⟩)
      | .ret u, ⟨v6, σ6, H6, S7, r6, q6⟩ => exact gone_ok (S7.unsuite ok) hN hi hln (fun s8 J8 => ⟨_, _, _, J8, r6, q6⟩)
    | false, _, hno => exact ih (hno rfl)
theorem ps_try_hds (hs : X.stack = X.env :: X.outer) (hf : X.env.frame = some X.env.locals) (hN : X.N.Nodup) (tk : Takes X Wout)
    (hb : ∀ (W : WX) (pn : List (Addr × Obj)) (xe : Value → Shared → Prop), Takes (X.tr pn xe) W → PassesOwn (model X.prog X.w) X.A X.env xe → PSs (X.tr pn xe) body (tb W))
    (hh : HdOk X (h₀ :: hds) l) : PS X (.Try body (h₀ :: hds) [] [] pos) (fun D σ H => tb (wHds X.K Wout D l) D σ H) := by
  constructor
  intro pins s σ H D I h
  have ok := I.ok
  have hfr : X.A.frames = some (X.env :: X.outer) := by rw [ok.frames, hs]
  refine wpAny_Try_except ?_
  have run := (hb (wHds X.K Wout D l) (X.pn ++ pins) (fun e s₁ => wpAny (model X.prog X.w) X.A (noteFrame e X.env)
    (fun _ s₂ => wpAny (model X.prog X.w) X.A (setFlight e none) (fun _ s₃ => wpAny (model X.prog X.w) X.A (handleBy e X.env (h₀ :: hds)) (SP X pins D) X.xe s₃) X.xe s₂) X.xe s₁) ?_ PassesOwn.looking).run [] s σ H D (I.toTry _) h
  · refine wpAny_mono run (fun f s1 hsp => ?_) (fun e s1 he => he)
    match f, hsp with
    | .next, ⟨σ', H', J', q⟩ => exact wpAny_execs_nil ⟨σ', H', J'.ofTry ok, q⟩
    | .brk, ⟨σ', H', J', q⟩ => exact ⟨σ', H', J'.ofTry ok, q⟩
    | .cont, ⟨σ', H', J', q⟩ => exact ⟨σ', H', J'.ofTry ok, q⟩
    | .ret u, ⟨v, σ', H', J', r, q⟩ => exact ⟨v, σ', H', J'.ofTry ok, r, q⟩
  · rintro u s' ⟨a, B, sI, pins', σ', H', cls, d, rfl, J', nb, up, sky, na, os, ag, w⟩
    have sky' : Sky B (X.env :: X.outer) a (Zc cls d) X.env.locals s'.heap := by rw [← hs]; exact sky
    exact Sky.land Zc.steady hfr hf sky' (fun h3 fl3 up3 => handled hs hf hN tk ok (J'.ofTry ok) nb up na os ag fl3 up3 hh w)
end
/-! ### Base.__init__(self, ..), Base an own error class over ValueError -/
section
variable {X : Cx} {e : Expr} {es : List Expr} {ta : TA} {p1 p2 pos : Pos} {x : Str} {B : Addr}
theorem pe_kinit {pl : Sem Bool} (hg : Gl X x) (hm : X.mg x = some (.ref B)) (hsp : PySem.W.specialIn X.K (.ref B) "__getattribute__" = some (some (.builtin "type.__getattribute__"))) (ht : PySem.W.typeIn X.K (.ref B) = some (.type "type"))
    (hr : PySem.W.readsIn X.K B (.type "type") = true) (hF : PySem.W.findCls X.K (.ref B) (.type "type") "__init__" = some (.val (.builtin "ValueError.__init__"))) (ha : PA X (e :: es) ta)
    (hdb : (x == ("__debug__" : Str)) = false := by decide)
    (hc : eval (.Call (.Attribute (.Name x p1) "__init__" p2) (e :: es) [] pos) X.env =
      (do let ov ← eval (.Name x p1) X.env; standAt p2.atName; let (f, first) ← holding [ov] (getMethod ov "__init__" pl); callWith pos f first (backTo pos (starEach (e :: es) X.env)) (backToKw pos (keywordEach [] X.env))) := by rfl)
    (he : starEach (e :: es) X.env = (false, eval e X.env) :: starEach es X.env := by rfl) (hpl : (backTo pos (starEach es X.env)).any (·.1) = false := by rfl) :
    PE X (.Call (.Attribute (.Name x p1) "__init__" p2) (e :: es) [] pos) (tVeI X.K ta) := by
  constructor
  intro pins s σ H Q I h
  refine PySem.W.methodCall_KW (ld_glob I hg hm ?_ hdb) hc
  obtain ⟨m, fr⟩ := I.fr
  refine PySem.W.method_of_cls fr I.ok.mod.kin hsp (PySem.W.cls_val fr I.ok.mod.kin ht hr hF (by decide +kernel) ?_)
  show wpAny _ _ (callWith pos (Value.builtin "ValueError.__init__") [] (backTo pos (starEach (e :: es) X.env)) []) _ _ _
  refine PyProof.Rows.callWith_method1 (thn (ha.run pos pins _ σ H _ (I.tok _) h) (fun us s1 ⟨vs, H1, I1, r1, a, C, ws, ev, hl, T, ea, q⟩ => ?_)) he hpl
  subst ev
  cases r1 with
  | @cons _ u0 _ ur ra rw' =>
    cases (show u0 = Value.ref a from ra)
    exact oinit_ok T I1 ea (by rw [← Paired.length rw', sizeLine_eq]; omega) (fun s' J => ⟨.non, H1, J, rfl, q⟩)
end
end Ice
namespace Ice
open PySem PySem.Spec PyProof.Rows L2
/-! ### calls whose errors are wished for at the caller's slots -/
section
variable {X : Cx} {X0 : CXT} {k : Nat} {f C : Addr} {fd : FuncData} {ps : List Str} {sp : Sp} {dvs : List V} {ds : List Value} {E : L2.St → XK} {x m : Str} {p pos apos : Pos} {e o : Expr} {es : List Expr} {ta : TE} {t : TA}
def tCallE (sp : Sp) (dvs : List V) (E : L2.St → XK) (t : TA) : TE := fun σ H Q => t σ H fun vs H1 => sp (vs ++ dvs) H1 Q (E σ)
def tMakeE (C : Addr) (sp : Sp) (dvs : List V) (E : L2.St → XK) (t : TA) : TE := fun σ H Q => t σ H fun vs H1 => ∀ x dx, H1 x = none → H1 dx = none → dx ≠ x →
  sp (.ref x :: (vs ++ dvs)) (upd (upd H1 dx (.own x)) x (.ins C dx [])) (fun v H2 => v = .non ∧ Q (.ref x) H2) (E σ)
def tMethE (C : Addr) (m : Str) (sp : Sp) (dvs : List V) (E : L2.St → XK) (ta : TE) (t : TA) : TE := fun σ H Q => ta σ H fun x H1 => ∃ a dx fs, x = .ref a ∧ H1 a = some (.ins C dx fs) ∧ fs.lookup m = none ∧
  t σ H1 fun vs H2 => sp (x :: (vs ++ dvs)) H2 Q (E σ)
theorem run_ge {pins : List (Addr × Obj)} {σ : L2.St} {H : Hp} {s : Shared} {Q : VK} {us : List Value} {vs : List V} (F : FnG X.prog X.w X.K X.mg X.base X0 k f fd ps sp) (hr : Room k X.A) (hgd : X.A.guards = some [])
    (hb : Binds X.K fd ps ds) (hd : Vals dvs ds) (hx : PassesAt X0 X σ (E σ)) (I : Inv X pins σ H s) (r : Vals vs us) (h : sp (vs ++ dvs) H Q (E σ)) :
    wpAny (model X.prog X.w) X.A (call (.ref f) us) (EP X pins σ Q) X.xe s := by
  have r2 := Vals.append r hd
  have hl : (us ++ ds).length = ps.length := (Vals.length r2).symm.trans (F.len _ _ _ _ h)
  refine wpAny_call (codeAny_mono (F.run X.A X.stack s H ⟨us, []⟩ (us ++ ds) (vs ++ dvs) Q (E σ) hr hgd I.env0 (hb s us I.kIn hl) r2 h) (fun r s' hq => ?_))
  match r, hq with
  | .error e, hq => exact hx pins H s e s' I hq
  | .ok (.ret u), hq => exact I.after hq
  | .ok .next, hq => exact False.elim hq
  | .ok .brk, hq => exact False.elim hq
  | .ok .cont, hq => exact False.elim hq
theorem g_callE (F : FnG X.prog X.w X.K X.mg X.base X0 k f fd ps sp) (hr : Room k X.A) (hgd : X.A.guards = some []) (hg : Gl X x) (hm : X.mg x = some (.ref f)) (hk : PySem.W.keepIn X.K (.ref f) = true) (hb : Binds X.K fd ps ds) (hd : Vals dvs ds)
    (hx : ∀ σ, PassesAt X0 X σ (E σ)) (ha : PA X (e :: es) t) (hdb : (x == ("__debug__" : Str)) = false := by decide) (he : starEach (e :: es) X.env = (false, eval e X.env) :: starEach es X.env := by rfl)
    (hpl : (backTo pos (starEach es X.env)).any (·.1) = false := by rfl) : PE X (.Call (.Name x p) (e :: es) [] pos) (tCallE sp dvs E t) := by
  constructor
  intro pins s σ H Q I h
  refine wpAny_Call_Name_kw (ld_glob I hg hm (PySem.W.callWith_K (h₀ := X.base) I.ok.mod.kin hk ?_ he hpl) hdb)
  exact thn (ha.run pos pins s σ H _ I h) (fun us s1 ⟨vs, H1, I1, r, q⟩ => ⟨I1.kIn, run_ge F hr hgd hb hd (hx σ) I1 r q⟩)
theorem g_methE {pl : Sem Bool} (he : PE X o ta) (c : Cls X.K C) (hm : Meth X.K C m f) (F : FnG X.prog X.w X.K X.mg X.base X0 k f fd ps sp) (hr : Room k X.A) (hgd : X.A.guards = some []) (hb : Binds X.K fd ps ds) (hd : Vals dvs ds)
    (hx : ∀ σ, PassesAt X0 X σ (E σ)) (ha : PA X (e :: es) t) (hst : starEach (e :: es) X.env = (false, eval e X.env) :: starEach es X.env := by rfl) (hpl : (backTo pos (starEach es X.env)).any (·.1) = false := by rfl)
    (ht : eval (.Call (.Attribute o m apos) (e :: es) [] pos) X.env =
      (do let ov ← eval o X.env; standAt apos.atName; let (f, first) ← holding [ov] (getMethod ov m pl); callWith pos f first (backTo pos (starEach (e :: es) X.env)) (backToKw pos (keywordEach [] X.env))) := by rfl) :
    PE X (.Call (.Attribute o m apos) (e :: es) [] pos) (tMethE C m sp dvs E ta t) := by
  constructor
  intro pins s σ H Q I h
  refine PySem.W.methodCall_KW (pl := pl) (thn (he.run pins s σ H _ I h) (fun u s1 ⟨x, H1, I1, rx, a, dx, fs, ex, ea, l, q⟩ => ?_)) ht
  subst ex
  cases (show u = Value.ref a from rx)
  refine getmeth_ok I1 ea c hm l (PySem.W.callWith_K (first := [.ref a]) (h₀ := X.base) I.ok.mod.kin hm.kp ?_ hst hpl)
  exact thn (ha.run pos pins s1 σ H1 _ I1 q) (fun us s2 ⟨vs, H2, I2, r, q2⟩ => ⟨I2.kIn, run_ge (us := .ref a :: us) (vs := .ref a :: vs) F hr hgd hb hd (hx σ) I2 (.cons rfl r) q2⟩)
theorem run_mke {pins : List (Addr × Obj)} {σ : L2.St} {H : Hp} {s : Shared} {Q : VK} {us : List Value} {vs : List V} (M : Mk X.K C f) (F : FnG X.prog X.w X.K X.mg X.base X0 k f fd ps sp) (hr : Room (k + 1) X.A) (hgd : X.A.guards = some [])
    (hb : Binds X.K fd ps ds) (hd : Vals dvs ds) (hx : PassesAt X0 X σ (E σ)) (hx2 : ∀ {H2 : Hp} {e : Value} {s2 s' : Shared}, Inv X pins σ H2 s2 → X0 X.stack H2 s2 (E σ) e s' → X.xe e s') (I : Inv X pins σ H s) (r : Vals vs us)
    (h : ∀ x dx, H x = none → H dx = none → dx ≠ x → sp (.ref x :: (vs ++ dvs)) (upd (upd H dx (.own x)) x (.ins C dx [])) (fun v H2 => v = .non ∧ Q (.ref x) H2) (E σ)) :
    wpAny (model X.prog X.w) X.A (call (.ref C) us) (EP X pins σ Q) X.xe s := by
  have hq := h (s.heap.objs.size + 1) s.heap.objs.size (I.hok.fresh (Nat.le_succ _)) (I.hok.fresh (Nat.le_refl _)) (by simp)
  have I2 := Inv.made (C := C) I
  have r2 : Vals (V.ref (s.heap.objs.size + 1) :: (vs ++ dvs)) (Value.ref (s.heap.objs.size + 1) :: (us ++ ds)) := .cons rfl (Vals.append r hd)
  have hl : (Value.ref (s.heap.objs.size + 1) :: us ++ ds).length = ps.length := (Vals.length r2).symm.trans (F.len _ _ _ _ hq)
  have run := F.run _ X.stack _ _ ⟨Value.ref (s.heap.objs.size + 1) :: us, []⟩ (Value.ref (s.heap.objs.size + 1) :: (us ++ ds)) _ _ (E σ) (hr.make C us []) (make_guards hgd) (I2.env0.make C us [])
    (hb _ (Value.ref (s.heap.objs.size + 1) :: us) I2.kIn hl) r2 hq
  refine wpAny_call (make_map (f := f) I.kIn M.makes M.init (beq_iff_eq.mp M.fn) (codeAny_mono run (fun r s' hq' => ?_)))
  match r, hq' with
  | .error e, hq' => exact hx2 I2 hq'
  | .ok (.ret u), hq' =>
    obtain ⟨v, H', I3, rv, ev, q3⟩ := I2.after hq'
    subst ev
    exact ⟨rv, V.ref (s.heap.objs.size + 1), H', I3, rfl, q3⟩
  | .ok .next, hq' => exact False.elim hq'
  | .ok .brk, hq' => exact False.elim hq'
  | .ok .cont, hq' => exact False.elim hq'
theorem g_makeE (M : Mk X.K C f) (F : FnG X.prog X.w X.K X.mg X.base X0 k f fd ps sp) (hr : Room (k + 1) X.A) (hgd : X.A.guards = some []) (hg : Gl X x) (hm : X.mg x = some (.ref C)) (hb : Binds X.K fd ps ds) (hd : Vals dvs ds) (hx : ∀ σ, PassesAt X0 X σ (E σ))
    (ha : PA X (e :: es) t) (hdb : (x == ("__debug__" : Str)) = false := by decide) (he : starEach (e :: es) X.env = (false, eval e X.env) :: starEach es X.env := by rfl)
    (hpl : (backTo pos (starEach es X.env)).any (·.1) = false := by rfl) : PE X (.Call (.Name x p) (e :: es) [] pos) (tMakeE C sp dvs E t) := by
  constructor
  intro pins s σ H Q I h
  refine wpAny_Call_Name_kw (ld_glob I hg hm (PySem.W.callWith_K (h₀ := X.base) I.ok.mod.kin M.kp ?_ he hpl) hdb)
  exact thn (ha.run pos pins s σ H _ I h) (fun us s1 ⟨vs, H1, I1, r, q⟩ => ⟨I1.kIn, run_mke M F hr hgd hb hd (hx σ) (fun {H2 e s2 s'} J c => hx σ _ H2 s2 e s' J c) I1 r q⟩)
end
/-! ### an own error's __init__, and its raise -/
def spErr (K : PySem.W.Frag) (f : Str) : Sp := fun vs H Q _ => ∃ (a C : Addr) (v : V), vs = [.ref a, v] ∧ OexC K C ∧ PySem.W.findIn K (.ref C) f = some none ∧ H a = some (exo a C none) ∧
  ∀ dx, H dx = none → dx ≠ a → Q .non (upd (upd H dx (exd dx [(f, v)])) a (exo a C (some dx)))
section
variable {K : PySem.W.Frag} {σ : L2.St} {H : Hp} {Q : VK}
theorem i_mkE {C : Addr} {f : Str} {v : V} {W : XK} (T : OexC K C) (hf : PySem.W.findIn K (.ref C) f = some none) (q : ∀ d, H d = none → W (.ref C) (some d) (upd H d (.xd [(f, v)]))) :
    [v].length ≤ 1000 ∧ ∀ a, H a = none → spErr K f (.ref a :: ([v] ++ [])) (upd H a (exo a C none))
      (fun v H2 => v = .non ∧ ∃ (d : Addr) (fs : List (Str × V)), H2 a = some (exo a C (some d)) ∧ H2 d = some (exd d fs) ∧ H d = none ∧ W (.ref C) (some d) (upd (del H2 a) d (.xd fs))) (fun _ _ _ => False) := by
  refine ⟨by show 1 ≤ 1000; decide, fun a ha => ⟨a, C, v, rfl, T, hf, upd_same, fun dx hdx ne => ⟨rfl, dx, [(f, v)], upd_same, by rw [upd_ne ne, upd_same], freeU hdx, ?_⟩⟩⟩
  have e : upd (del (upd (upd (upd H a (exo a C none)) dx (exd dx [(f, v)])) a (exo a C (some dx))) a) dx (.xd [(f, v)]) = upd H dx (.xd [(f, v)]) := by
    funext b
    by_cases h1 : b = dx
    · rw [h1, upd_same, upd_same]
    · rw [upd_ne h1, upd_ne h1]
      by_cases h2 : b = a
      · rw [h2, del_same, ha]
      · rw [del_ne h2, upd_ne h2, upd_ne h1, upd_ne h2]
  rw [e]
  exact q dx (freeU hdx)
theorem i_kinit {ta : TA} (h : ta σ H fun vs H1 => ∃ (a C : Addr) (ws : List V), vs = .ref a :: ws ∧ ws.length ≤ 1000 ∧ OexC K C ∧ H1 a = some (exo a C none) ∧ Q .non H1) : tVeI K ta σ H Q := h
theorem i_ost {f : Str} {to te : TE} {D : Ends} (h : te σ H fun y H1 => to σ H1 fun x H2 => ∃ a C : Addr, x = .ref a ∧ OexC K C ∧ PySem.W.findIn K (.ref C) f = some none ∧
    ((H2 a = some (exo a C none) ∧ ∀ dx, H2 dx = none → dx ≠ a → D.nx σ (upd (upd H2 dx (exd dx [(f, y)])) a (exo a C (some dx)))) ∨
      ∃ (dx : Addr) (fs : List (Str × V)), H2 a = some (exo a C (some dx)) ∧ H2 dx = some (exd dx fs) ∧ fs.length ≤ 900 ∧ D.nx σ (upd H2 dx (exd dx ((f, y) :: fs))))) : tOst K f to te D σ H := h
theorem i_mkO {C : Addr} {sp : Sp} {dvs : List V} {ta : TA} {W : XK} (h : ta σ H fun vs H1 => vs.length ≤ 1000 ∧ ∀ a, H1 a = none → sp (.ref a :: (vs ++ dvs)) (upd H1 a (exo a C none))
    (fun v H2 => v = .non ∧ ∃ (d : Addr) (fs : List (Str × V)), H2 a = some (exo a C (some d)) ∧ H2 d = some (exd d fs) ∧ H1 d = none ∧ W (.ref C) (some d) (upd (del H2 a) d (.xd fs))) (fun _ _ _ => False)) : tMkO C sp dvs ta σ H W := h
theorem i_callE {sp : Sp} {dvs : List V} {E : L2.St → XK} {t : TA} (h : t σ H fun vs H1 => sp (vs ++ dvs) H1 Q (E σ)) : tCallE sp dvs E t σ H Q := h
theorem i_makeE {C : Addr} {sp : Sp} {dvs : List V} {E : L2.St → XK} {t : TA} (h : t σ H fun vs H1 => ∀ x dx, H1 x = none → H1 dx = none → dx ≠ x →
    sp (.ref x :: (vs ++ dvs)) (upd (upd H1 dx (.own x)) x (.ins C dx [])) (fun v H2 => v = .non ∧ Q (.ref x) H2) (E σ)) : tMakeE C sp dvs E t σ H Q := h
theorem i_xf {a C dd : Addr} {cls : Value} {f : Str} {te : TE} (h : te σ H fun x H1 => x = .ref a ∧ cls = .ref C ∧ ∃ (d' : Addr) (fs : List (Str × V)) (v : V), some dd = some d' ∧ H1 d' = some (.xd fs) ∧ fs.lookup f = some v ∧ Q v H1) : tXf a cls (some dd) C f te σ H Q := h
theorem i_sfld {ta tv : TE} {f : Str} {D : Ends} (h : tv σ H fun y H1 => ta σ H1 fun x H2 => ∃ a C dx fs, x = .ref a ∧ H2 a = some (.ins C dx fs) ∧ Cls K C ∧ NoAttr K C f ∧ fs.length < 1000 ∧ D.nx σ (upd H2 a (.ins C dx (putF f y fs)))) : sFld K ta tv f D σ H := h
end
end Ice
namespace Ice
open PySem PySem.Spec PyProof.Rows L2
theorem putF_new {f : Str} {v : V} : ∀ {fs : List (Str × V)}, f ∉ fs.map (·.1) → putF f v fs = fs ++ [(f, v)]
  | [], _ => rfl
  | (g, u) :: r, h => by
    have h1 : ¬ g = f := fun e => h (by rw [e]; exact List.mem_cons_self ..)
    have h2 : f ∉ r.map (·.1) := fun e => h (List.mem_cons_of_mem _ e)
    show (if g = f then (g, v) :: r else (g, u) :: putF f v r) = _
    rw [if_neg h1, putF_new h2]
    rfl
theorem i_store {K : PySem.W.Frag} {H : Hp} {x C dx : Addr} {fs : List (Str × V)} {f : Str} {y : V} {N : Hp → Prop} (hx : H x = some (.ins C dx fs)) (cl : Cls K C) (na : NoAttr K C f) (hl : fs.length ≤ 900) (hf : f ∉ fs.map (·.1))
    (q : N (upd H x (.ins C dx (fs ++ [(f, y)])))) : ∃ a C dx fs, V.ref x = .ref a ∧ H a = some (.ins C dx fs) ∧ Cls K C ∧ NoAttr K C f ∧ fs.length < 1000 ∧ N (upd H a (.ins C dx (putF f y fs))) :=
  ⟨x, C, dx, fs, rfl, hx, cl, na, by omega, by rw [putF_new hf]; exact q⟩
end Ice

set_option Elab.async false
set_option linter.all false
set_option maxRecDepth 100000
set_option maxHeartbeats 4000000
set_option autoImplicit false
/-! repr of rows of plain things; a thing compared with a text. -/
namespace Ice
open PySem PySem.Spec PyProof.Rows L2
/-- a plain thing whose repr is short -/
inductive Ps : V → PyData → Prop
  | non : Ps .non .none
  | bl (b : Bool) : Ps (.bl b) (.bool b)
  | int {i : Int} : i.natAbs < 10 ^ 60 → Ps (.int i) (.int i)
  | str {x : Str} : x.length ≤ 64 → (∀ c ∈ x.cps.toList, c < 128) → Ps (.str x) (.str x)
inductive PsAll : List V → List PyData → Prop
  | nil : PsAll [] []
  | cons {v : V} {vs : List V} {d : PyData} {ds : List PyData} : Ps v d → PsAll vs ds → PsAll (v :: vs) (d :: ds)
section
variable {K : PySem.W.Frag} {H : Hp}
theorem Ps.dp {v : V} {d : PyData} (h : Ps v d) : Dp K H v d := by
  cases h with
  | non => exact .non
  | bl b => exact .bl b
  | int _ => exact .int _
  | str _ _ => exact .str _
theorem Ps.show {v : V} {d : PyData} (h : Ps v d) : d.showable = true ∧ d.depth = 0 ∧ d.shown.length ≤ 650 := by
  cases h with
  | non => exact ⟨rfl, rfl, by decide +kernel⟩
  | bl b => exact ⟨rfl, rfl, by cases b <;> decide +kernel⟩
  | @int i h =>
    refine ⟨decide_eq_true (Nat.lt_trans (PySem.Flt.log2_lt_of (k := 200) (by decide) (Nat.lt_trans h (by decide))) (by decide)), rfl, ?_⟩
    have := int_text_length_le10 (a := i) (k := 60) (by decide) h
    show (Str.ofString (toString i)).length ≤ _
    rw [PySem.ofString_length]; omega
  | @str x h1 h2 =>
    have b := PySem.StrLaws.reprText_len x (fun c h => Nat.lt_trans (h2 c h) (by decide))
    refine ⟨rfl, rfl, ?_⟩
    show (reprText x).length ≤ _
    omega
theorem PsAll.dp : ∀ {vs : List V} {ds : List PyData}, PsAll vs ds → DpAll K H vs ds
  | _, _, .nil => .nil
  | _, _, .cons h t => .cons h.dp t.dp
theorem PsAll.show {vs : List V} {ds : List PyData} (h : PsAll vs ds) : PyData.showableAll ds = true ∧ PyData.depthAll ds = 0 ∧ ((PyData.shownAll ds).map (·.length)).sum ≤ 650 * ds.length ∧ (PyData.shownAll ds).length = ds.length := by
  induction h with
  | nil => exact ⟨rfl, rfl, by decide +kernel, rfl⟩
  | @cons v vs d ds h t ih =>
    obtain ⟨a1, a2, a3, a4⟩ := ih
    obtain ⟨b1, b2, b3⟩ := h.show
    refine ⟨?_, ?_, ?_, ?_⟩
    · show (d.showable && PyData.showableAll ds) = true
      rw [b1, a1]; rfl
    · show max d.depth (PyData.depthAll ds) = 0
      rw [b2, a2]; rfl
    · show ((d.shown :: PyData.shownAll ds).map (·.length)).sum ≤ _
      rw [List.map_cons, List.sum_cons, List.length_cons]
      omega
    · show (d.shown :: PyData.shownAll ds).length = _
      rw [List.length_cons, a4, List.length_cons]
theorem PsAll.len {vs : List V} {ds : List PyData} (h : PsAll vs ds) : ds.length = vs.length := by
  induction h with
  | nil => rfl
  | cons _ _ ih => rw [List.length_cons, List.length_cons, ih]
theorem Ps.rp {v : V} {d : PyData} (h : Ps v d) : Rp K H v d := by
  obtain ⟨b1, b2, b3⟩ := h.show
  exact ⟨.inl h.dp, b1, by omega, sz_of (by omega)⟩
theorem Rp.tupP {p : Addr} {vs : List V} {ds : List PyData} (hp : H p = some (.tup vs)) (h : PsAll vs ds) (hl : vs.length ≤ 20) : Rp K H (.ref p) (.tuple ds) := by
  obtain ⟨a1, a2, a3, a4⟩ := h.show
  have hl2 := h.len
  have b := PySem.tupleText_len_le (PyData.shownAll ds)
  refine ⟨.inl (.tup (SqT.tup hp) h.dp), a1, ?_, ?_⟩
  · show PyData.depthAll ds + 1 ≤ _
    omega
  · show (PySem.tupleText (PyData.shownAll ds)).length ≤ _
    exact sz_of (by omega)
theorem Rp.lstP {p : Addr} {vs : List V} {ds : List PyData} (hp : H p = some (.lst vs)) (h : PsAll vs ds) (hl : vs.length ≤ 20) : Rp K H (.ref p) (.list ds) := by
  obtain ⟨a1, a2, a3, a4⟩ := h.show
  have hl2 := h.len
  have b := PySem.listText_len_le (PyData.shownAll ds)
  refine ⟨.inl (.lst (SqL.lst hp) h.dp), a1, ?_, ?_⟩
  · show PyData.depthAll ds + 1 ≤ _
    omega
  · show (PySem.listText (PyData.shownAll ds)).length ≤ _
    exact sz_of (by omega)
theorem Rp.dct0 {p : Addr} (hp : H p = some (.dK [])) : Rp K H (.ref p) (.dict []) :=
  ⟨.inr (.dct (ds := []) hp .nil), rfl, by decide, by decide +kernel⟩
end
section
variable {P : Program} {w : World} {A : Around} {E : Value → Shared → Prop} {s : Shared}
theorem str_declines_dict (b : Str) (u : Tok) (l : Addr) (c : Value) (es : Array DictEntry) (n : Nat) (dd : Option Addr) (sl : Array (Option Value)) :
    Meets (Builtin.«str.__eq__» ⟨[.str b u, .ref l], []⟩) (fun _ R s => s.heap.get? l = some { cls := c, dict := dd, data := .dict es n, slots := sl } ∧ R (.ok (.ret .notImplemented)) s) :=
  .of_wp fun prog w A R s h => by obtain ⟨hp, g, d, tk, os⟩ := s; obtain ⟨hl, h⟩ := h; wp_walk using PySem.AutoSeq1.wpAny_loadPart' hl, wpAny_load hl; exact ⟨_, rfl, h⟩
theorem dict_eq_str {l : Addr} {b : Str} {u : Tok} {o : Obj} {es : Array DictEntry} {n : Nat} (ho : s.heap.get? l = some o) (hc : o.cls = .type "dict") (hd : o.data = .dict es n) (hu : A.units < cLine) {Q : Value → Shared → Prop} (h : Q (.bool false) s) :
    wpAny (model P w) A (compareOp .Eq (.ref l) (.str b u)) Q E s := by
  have ht : s.TypeIs (.ref l) "dict" := ⟨o, ho, hc⟩
  refine PySem.SeqAt.rc_eq_decline_or (k := false) ht (typeIs_str s b u) (by decide) PySem.F.sub_str_dict PySem.F.slot_dict_eq PySem.F.slot_str_eq_refl ?_ ?_ ?_ (.inr hu) h
  · intro Q' hq
    refine wpAny_call_entry PySem.F.slot_dict_eq ht PySem.F.entry_dict_eq ?_ (PySem.F.args_dict_eq_2 _ _)
    show wpAny _ _ (Builtin.Dict.dictSlotArgs "__eq__" ⟨[.ref l, .str b u], []⟩ >>= _) _ _ s
    refine wpAny_bind ?_
    unfold Builtin.Dict.dictSlotArgs
    refine wpAny_bind (wpAny_notOrdered_dict ht ?_)
    show wpAny _ _ (pure (Value.ref l, Value.str b u)) _ _ s
    refine wpAny_pure ?_
    refine wpAny_bind (wpAny_isInstance (T := "str") (typeIs_str s b u) PySem.F.sub_str_dict ?_)
    refine wpAny_bind (wpAny_rule ?_)
    exact wpAny_pure ⟨_, rfl, hq⟩
  · intro Q' hq
    obtain ⟨cls, dd, data, sl⟩ := o
    simp only at hc hd
    subst hc hd
    exact call_meets PySem.F.slot_str_eq_refl (typeIs_str s b u) PySem.F.entry_str_eq (PySem.F.args_str_eq_2 _ _) (str_declines_dict b u l (.type "dict") es n dd sl) ⟨ho, hq⟩
  · intro Q' hq
    exact wpAny_of_eq (rfl : isSame (.ref l) (.str b u) = pure false) hq
end
theorem strOk_asc {x : Str} (h : ∀ c ∈ x.cps.toList, c < 128) : PySem.PyData.strOk x = true := by
  show x.cps.all (· < 0x110000) = true
  rw [Array.all_eq_true']
  intro c hc
  have := h c (by simpa using hc)
  simp
  omega
theorem shaped_str {x : Str} (h : ∀ c ∈ x.cps.toList, c < 128) : SeqAt.shaped (.str x) = true := by
  show (PySem.PyData.strOk x && decide (0 ≤ 64)) = true
  rw [strOk_asc h]; rfl
theorem Ps.lay {v : V} {d : PyData} (h : Ps v d) : d.canLay0 = true := by
  cases h with
  | str h1 h2 => exact strOk_asc h2
  | _ => rfl
theorem PsAll.lay {vs : List V} {ds : List PyData} (h : PsAll vs ds) : PyData.canLayAll0 ds = true := by
  induction h with
  | nil => rfl
  | @cons v vs d ds h t ih =>
    show (d.canLay0 && PyData.canLayAll0 ds) = true
    rw [h.lay, ih]; rfl
theorem Ps.shaped {v : V} {d : PyData} (h : Ps v d) : SeqAt.shaped d = true := by
  show (d.canLay0 && decide (d.depth ≤ 64)) = true
  rw [h.lay, h.show.2.1]; rfl
theorem PsAll.shapedL {vs : List V} {ds : List PyData} (h : PsAll vs ds) : SeqAt.shaped (.list ds) = true := by
  show (PyData.canLayAll0 ds && decide (PyData.depthAll ds + 1 ≤ 64)) = true
  rw [h.lay, h.show.2.1]; rfl
theorem PsAll.shapedT {vs : List V} {ds : List PyData} (h : PsAll vs ds) : SeqAt.shaped (.tuple ds) = true := by
  show (PyData.canLayAll0 ds && decide (PyData.depthAll ds + 1 ≤ 64)) = true
  rw [h.lay, h.show.2.1]; rfl
/-- a thing that may be compared with a text -/
def Tq (K : PySem.W.Frag) (H : Hp) (v : V) : Prop := (∃ d, Dp K H v d ∧ SeqAt.shaped d = true) ∨ ∃ a kvs, v = .ref a ∧ H a = some (.dK kvs)
def rEqS (K : PySem.W.Frag) : R2 := fun x y H Q => ∃ s, y = .str s ∧ (∀ c ∈ s.cps.toList, c < 128) ∧ Tq K H x ∧ Q (.bl (decide (x = .str s))) H
theorem eqv_str {K : PySem.W.Frag} {H : Hp} {v : V} {d : PyData} {s : Str} (h : Dp K H v d) : PyData.eqv d (.str s) = decide (v = .str s) := by
  cases h with
  | str x =>
    show (x == s) = _
    by_cases e : x = s
    · subst e; simp
    · rw [decide_eq_false (fun z => e (by injection z))]
      exact beq_eq_false_iff_ne.mpr e
  | non => rfl
  | bl b => cases b <;> rfl
  | int i => rfl
  | lst _ _ => rfl
  | tup _ _ => rfl
section
variable {K : PySem.W.Frag} {H : Hp}
theorem Tq.ps {v : V} {d : PyData} (h : Ps v d) : Tq K H v := .inl ⟨d, h.dp, h.shaped⟩
theorem Tq.lst {p : Addr} {vs : List V} {ds : List PyData} (hp : H p = some (.lst vs)) (h : PsAll vs ds) : Tq K H (.ref p) := .inl ⟨_, .lst (SqL.lst hp) h.dp, h.shapedL⟩
theorem Tq.tup {p : Addr} {vs : List V} {ds : List PyData} (hp : H p = some (.tup vs)) (h : PsAll vs ds) : Tq K H (.ref p) := .inl ⟨_, .tup (SqT.tup hp) h.dp, h.shapedT⟩
theorem Tq.dct {p : Addr} {kvs : List (Key × V)} (hp : H p = some (.dK kvs)) : Tq K H (.ref p) := .inr ⟨_, _, rfl, hp⟩
theorem i_eqS {x : V} {z : Str} {Q : VK} (hz : ∀ c ∈ z.cps.toList, c < 128) (h : Tq K H x) (q : Q (.bl (decide (x = .str z))) H) : rEqS K x (.str z) H Q := ⟨z, rfl, hz, h, q⟩
end
section
variable {X : Cx}
theorem o_eqS (hu : X.A.units + 110 < cLine) : OpR X (compareOp .Eq) (rEqS X.K) := by
  intro pins s σ H x y v u Q I rx ry h
  obtain ⟨z, rfl, hz, hx, q⟩ := h
  rcases hx with ⟨d, hd, sd⟩ | ⟨a, kvs, rfl, ha⟩
  · refine op_eqD (by omega) pins s σ H x _ v u Q I rx ry ⟨d, .str z, hd, .str z, sd, shaped_str hz, ?_⟩
    rw [eqv_str hd]
    exact q
  · cases (show v = .ref a from rx)
    obtain ⟨t, rfl⟩ := (show ∃ t, u = .str z t from ry)
    obtain ⟨_, hn, us, rv, o, es, ep, e1, e2, e3, _, e4, _⟩ := I.hok a _ ha
    exact dict_eq_str e1 e2.1 e3 (by omega) ⟨.bl false, H, I, rfl, by rw [decide_eq_false (by intro z; cases z)] at q; exact q⟩
end
section
variable {K : PySem.W.Frag} {σ : L2.St} {H : Hp} {Q : VK}
theorem i_fld {ta : TE} {f : Str} (h : ta σ H fun x H1 => ∃ a C dx fs v, x = .ref a ∧ H1 a = some (.ins C dx fs) ∧ Cls K C ∧ NoAttr K C f ∧ fs.lookup f = some v ∧ Q v H1) : tFld K ta f σ H Q := h
theorem i_fld1 {x C dx : Addr} {fs : List (Str × V)} {f : Str} {v : V} (hx : H x = some (.ins C dx fs)) (cl : Cls K C) (na : NoAttr K C f) {B : V → Prop} (hl : fs.lookup f = some v) (q : B v) :
    ∃ a C dx fs v, V.ref x = .ref a ∧ H a = some (.ins C dx fs) ∧ Cls K C ∧ NoAttr K C f ∧ fs.lookup f = some v ∧ B v := ⟨x, C, dx, fs, v, rfl, hx, cl, na, hl, q⟩
end
theorem un110 {k : Nat} {A : Around} (hr : Room k A) : A.units + 110 < cLine := by have := hr.un; omega
theorem c_reprS {X : Cx} {a : Addr} {pn : List (Addr × Obj)} (hgd : X.A.guards = some []) (hu : X.A.units + 110 < cLine) : CallR (X.suite a pn) (.builtin "repr") (rRepr X.K) := c_repr (X := X.suite a pn) hgd hu
section
variable {K : PySem.W.Frag} {σ : L2.St} {H : Hp} {Q : VK}
theorem i_methE {C : Addr} {m : Str} {sp : Sp} {dvs : List V} {E : L2.St → XK} {ta : TE} {t : TA} (h : ta σ H fun x H1 => ∃ a dx fs, x = .ref a ∧ H1 a = some (.ins C dx fs) ∧ fs.lookup m = none ∧ t σ H1 fun vs H2 => sp (x :: (vs ++ dvs)) H2 Q (E σ)) : tMethE C m sp dvs E ta t σ H Q := h
theorem i_meth {C : Addr} {m : Str} {sp : Sp} {dvs : List V} {E : XK} {ta : TE} {t : TA} (h : ta σ H fun x H1 => ∃ a dx fs, x = .ref a ∧ H1 a = some (.ins C dx fs) ∧ fs.lookup m = none ∧ t σ H1 fun vs H2 => sp (x :: (vs ++ dvs)) H2 Q E) : tMeth C m sp dvs E ta t σ H Q := h
theorem i_make {C : Addr} {sp : Sp} {dvs : List V} {E : XK} {t : TA} (h : t σ H fun vs H1 => ∀ x dx, H1 x = none → H1 dx = none → dx ≠ x → sp (.ref x :: (vs ++ dvs)) (upd (upd H1 dx (.own x)) x (.ins C dx [])) (fun v H2 => v = .non ∧ Q (.ref x) H2) E) : tMake C sp dvs E t σ H Q := h
theorem i_obj {x C dx : Addr} {fs : List (Str × V)} {m : Str} {B : Prop} (hx : H x = some (.ins C dx fs)) (hl : fs.lookup m = none) (q : B) : ∃ a dx fs, V.ref x = .ref a ∧ H a = some (.ins C dx fs) ∧ fs.lookup m = none ∧ B := ⟨x, dx, fs, rfl, hx, hl, q⟩
end
section
variable {K : PySem.W.Frag} {σ : L2.St} {H : Hp} {D : Ends}
theorem i_runS {c : Value} {i : Nat} {ts : Addr → Value → Option Addr → TS} {a : Addr} {cls : Value} {d : Option Addr} (h : ts a cls d (goneE i D) (σ.set i (some (.ref a))) H) : (Hd.mk c (some i) ts).run a cls d D σ H := h
theorem i_runN {c : Value} {ts : Addr → Value → Option Addr → TS} {a : Addr} {cls : Value} {d : Option Addr} (h : ts a cls d D σ H) : (Hd.mk c none ts).run a cls d D σ H := h
theorem i_xf1 {a C dd : Addr} {fs : List (Str × V)} {f : Str} {v : V} {B : V → Prop} (hd : H dd = some (.xd fs)) (hl : fs.lookup f = some v) (q : B v) :
    V.ref a = .ref a ∧ Value.ref C = .ref C ∧ ∃ (d' : Addr) (fs : List (Str × V)) (v : V), some dd = some d' ∧ H d' = some (.xd fs) ∧ fs.lookup f = some v ∧ B v := ⟨rfl, rfl, dd, fs, v, rfl, hd, hl, q⟩
end
def rIntB : List V → Hp → VK → Prop := fun xs H Q => ∃ k, xs = [.bl k] ∧ Q (.int (if k then 1 else 0)) H
theorem c_intB {X : Cx} : CallR X (.type "int") rIntB := fun pins s σ H xs us Q I r h => call_int1 pins s σ H xs us Q I r (.inr h)
theorem i_intB {k : Bool} {H : Hp} {Q : VK} (q : Q (.int (if k then 1 else 0)) H) : rIntB [.bl k] H Q := ⟨k, rfl, q⟩
theorem i_glst {K : PySem.W.Frag} {n : Nat} {t : TGs} {a : Addr} {xs : List V} {σ : L2.St} {H : Hp} {Q : L2.St → Hp → Prop} (hS : SqL K H a xs) (hl : xs.length = n) (q : t xs σ H Q) : gLst K n t (.ref a) σ H Q := ⟨a, xs, rfl, hS, hl, q⟩
end Ice

set_option Elab.async false
set_option linter.all false
set_option maxRecDepth 100000
set_option maxHeartbeats 4000000
set_option autoImplicit false
/-! zip of a tuple and a list. -/
namespace Ice
open PySem PySem.Spec PyProof.Rows L2 RZ
/-- the tuple at a and the list at b, item by item, in new pairs -/
def ItM (K : PySem.W.Frag) (a b : Addr) : It where
  go i H := ∃ (xs ys : List V) (x y : V), SqT K H a xs ∧ SqL K H b ys ∧ xs[i]? = some x ∧ ys[i]? = some y
  yld i H v H' := ∃ T x y, v = .ref T ∧ H T = none ∧ H' = upd H T (.tup [x, y]) ∧ (∀ xs, SqT K H a xs → xs[i]? = some x) ∧ ∀ ys, SqL K H b ys → ys[i]? = some y
  stop i H := ∃ xs ys : List V, SqT K H a xs ∧ SqL K H b ys ∧ i ≤ xs.length ∧ i ≤ ys.length ∧ (i = xs.length ∨ i = ys.length)
theorem sep_of {z TI TO i1 i2 a b : Addr} (D : ZipApart z TI TO i1 i2 a b) : ZipSep2 z TI TO i1 i2 [i1, a] [i2, b] where
  TIz := D.TIz
  TOz := D.TOz
  TITO := D.TITO
  TIi1 := D.TIi1
  mem1 := by simp
  zf1 := by simp; exact ⟨D.i1z.symm, D.l1z.symm⟩
  Tf1 := by simp; exact ⟨D.TOi1, D.l1TO.symm⟩
  TIi2 := D.TIi2
  mem2 := by simp
  zf2 := by simp; exact ⟨D.i2z.symm, D.l2z.symm⟩
  Tf2 := by simp; exact ⟨D.TOi2, D.l2TO.symm⟩
  sep1_2 := by simp; exact ⟨D.i12, D.l2i1.symm⟩
  sep2_1 := by simp; exact ⟨D.i12.symm, D.l1i2.symm⟩
theorem turn_M {P : Program} {w : World} {K : PySem.W.Frag} {elts : List Expr} {kk : Nat} {tpos : Pos} {a b z TI TO i1 i2 : Addr} (D : ZipApart z TI TO i1 i2 a b) :
    Turn P w K (.Tuple elts kk tpos) (ItM K a b) [z, TI, TO, i1, i2] z (fun i h => IsZip h z TI TO .none ∧ IsPair h TI (.ref i1) (.ref i2) ∧ (∃ x y, IsPair h TO x y) ∧ h.IsTupleIter i1 a i ∧ h.IsListIter i2 b i) where
  mem := by simp
  obj := fun i h st c hc => by
    obtain ⟨hz, hTI, ⟨x, y, hTO⟩, ⟨o1, e1, _, d1⟩, ⟨o2, e2, _, d2⟩⟩ := st
    simp only [List.mem_cons, List.not_mem_nil, or_false] at hc
    rcases hc with rfl | rfl | rfl | rfl | rfl
    · exact ⟨_, hz, nofun⟩
    · exact ⟨_, hTI, nofun⟩
    · exact ⟨_, hTO, nofun⟩
    · exact ⟨o1, e1, fun v q => by rw [d1] at q; cases q⟩
    · exact ⟨o2, e2, fun v q => by rw [d2] at q; cases q⟩
  keep := fun i h h' st k => by
    obtain ⟨hz, hTI, ⟨x, y, hTO⟩, h1, h2⟩ := st
    exact ⟨k z (by simp) _ hz, k TI (by simp) _ hTI, ⟨x, y, k TO (by simp) _ hTO⟩, h1.at fun o q => k i1 (by simp) o q, h2.at fun o q => k i2 (by simp) o q⟩
  item := by
    intro X hP hw hK hc i pins s σ H E I hf st hg
    subst hP hw hK
    obtain ⟨hz, hTI, ⟨x0, y0, hTO⟩, h1, h2⟩ := st
    obtain ⟨xs, ys, x, y, hqx, hqy, hx, hy⟩ := hg
    obtain ⟨its, rv, p, _⟩ := I.tuple hqx
    obtain ⟨its2, rv2, p2, _⟩ := I.list hqy
    obtain ⟨u, hu, ru⟩ := rv.get hx
    obtain ⟨u2, hu2, ru2⟩ := rv2.get hy
    have hu' : its.toArray[i]? = some u := by simpa using hu
    have hu2' : its2.toArray[i]? = some u2 := by simpa using hu2
    have lt1 : i < its.toArray.size := (Array.getElem?_eq_some_iff.mp hu').1
    have lt2 : i < its2.toArray.size := (Array.getElem?_eq_some_iff.mp hu2').1
    have hzl : z < s.heap.objs.size := Heap.lt_size hz
    have hh : X.A.in1.handled = none := I.ok.hd hc
    refine wpAny_pyNext_zipD2_item (sep_of D) (Draws.tuple hh i1 a D.l1i1 its.toArray) (Draws.list hh i2 b D.l2i2 its2.toArray) hz hTI hTO ⟨h1, p⟩ ⟨h2, p2.isList⟩ lt1 lt2 fun v v2 h' tk e1 e2 z' TO' s1 s2 hT hsz hk => ?_
    have ev : v = u := Option.some.inj (e1.symm.trans hu')
    have ev2 : v2 = u2 := Option.some.inj (e2.symm.trans hu2')
    subst ev ev2
    refine ⟨_, rfl, wpAny_letOwnedTupleGo_zip (s := { s with heap := h', toks := tk }) z' fun h'' z'' sb => ?_⟩
    have hT2 : h''.get? s.heap.objs.size = some { cls := .type "tuple", data := .seq #[v, v2] } := (sb.2 _ (Nat.ne_of_gt hzl)).trans hT
    have new : ObjOk X.prog X.w (upd H s.heap.objs.size (.tup [x, y])) h'' s.heap.objs.size (.tup [x, y]) :=
      ⟨by show 2 ≤ sizeLine; decide, [v, v2], .cons ru (.cons ru2 .nil), ⟨_, hT2, rfl, _, rfl⟩⟩
    have I1 : Inv X pins σ (upd H s.heap.objs.size (.tup [x, y])) { s with heap := h'', toks := tk } :=
      I.turnedNew (t' := tk) (ch := [z, TI, TO, i1, i2]) (fun c o hb q => (sb.2 c (fun q' => hb (by simp [q']))).trans (hk c o (fun q' => hb (by simp [q'])) (fun q' => hb (by simp [q'])) (fun q' => hb (by simp [q'])) (fun q' => hb (by simp [q'])) q)) hf (Nat.le_refl _) new
    refine ⟨.ref s.heap.objs.size, _, I1, rfl, ⟨_, x, y, rfl, I.hok.fresh (Nat.le_refl _), rfl, fun l hl => by rw [I.tuple_inj hl hqx]; exact hx, fun l hl => by rw [I.list_inj hl hqy]; exact hy⟩, ⟨z'', ?_, ⟨v, v2, ?_⟩, ?_, ?_⟩, fun c hcm => ?_⟩
    · exact (sb.2 _ D.TIz).trans (hk _ _ D.TIz D.TITO D.TIi1 D.TIi2 hTI)
    · exact (sb.2 _ D.TOz).trans TO'
    · exact s1.1.at fun o q => (sb.2 _ D.i1z).trans q
    · exact s2.1.at fun o q => (sb.2 _ D.i2z).trans q
    · have hlt : c < s.heap.objs.size := by
        simp only [List.mem_cons, List.not_mem_nil, or_false] at hcm
        rcases hcm with rfl | rfl | rfl | rfl | rfl
        · exact hzl
        · exact Heap.lt_size hTI
        · exact Heap.lt_size hTO
        · obtain ⟨_, e1, _⟩ := h1; exact Heap.lt_size e1
        · obtain ⟨_, e2, _⟩ := h2; exact Heap.lt_size e2
      rw [upd_ne (Nat.ne_of_lt hlt)]
      exact (hf c hcm).1
  done := by
    intro X hP hw hK hc i pins s σ H E I hf st hg
    subst hP hw hK
    obtain ⟨hz, hTI, ⟨x0, y0, hTO⟩, h1, h2⟩ := st
    obtain ⟨xs, ys, hqx, hqy, l1, l2, hend⟩ := hg
    obtain ⟨its, rv, p, _⟩ := I.tuple hqx
    obtain ⟨its2, rv2, p2, _⟩ := I.list hqy
    have hh : X.A.in1.handled = none := I.ok.hd hc
    have k1 : its.toArray.size = xs.length := by rw [List.size_toArray]; exact rv.length.symm
    have k2 : its2.toArray.size = ys.length := by rw [List.size_toArray]; exact rv2.length.symm
    exact wpAny_pyNext_zipD2_end (sep_of D) (Draws.tuple hh i1 a D.l1i1 its.toArray) (Draws.list hh i2 b D.l2i2 its2.toArray) hz hTI hTO ⟨h1, p⟩ ⟨h2, p2.isList⟩ (by omega) (by omega) (by rcases hend with e | e; exact .inl (by omega); exact .inr (by omega))
      fun h' tk hk => ⟨rfl, I.turnedL (t' := tk) (ch := [z, TI, TO, i1, i2]) (fun c o hb q => hk c o (fun q' => hb (by simp [q'])) (fun q' => hb (by simp [q'])) (fun q' => hb (by simp [q'])) (fun q' => hb (by simp [q'])) q) hf⟩
  self := fun A i s Q E st h => wpAny_pyIter_zip st.1 h
/-- what zip's making leaves, step by step -/
abbrev zm1 (h : Heap) (a : Addr) : Heap := h.push { cls := .type "tuple_iterator", data := .fields #[.ref a, .int 0 0] }
abbrev zm2 (h : Heap) (a b : Addr) : Heap := (zm1 h a).push { cls := .type "list_iterator", data := .fields #[.ref b, .int 0 0] }
abbrev zm3 (h : Heap) (a b : Addr) : Heap := (zm2 h a b).push { cls := .type "tuple", data := .seq #[.ref h.objs.size, .ref (zm1 h a).objs.size] }
abbrev zm4 (h : Heap) (a b : Addr) : Heap := (zm3 h a b).push { cls := .type "tuple", data := .seq #[.none, .none] }
abbrev zm5 (h : Heap) (a b : Addr) : Heap := (zm4 h a b).push { cls := .type "zip", data := .fields #[.none, .bool false, .bool false, .ref (zm2 h a b).objs.size, .ref (zm3 h a b).objs.size] }
theorem meets_M (a b : Addr) (xs ys : Array Value) :
    Meets (Builtin.«zip.__new__» ⟨[.type "zip", .ref a, .ref b], []⟩) (fun _ R s => s.heap.IsTuple a xs ∧ s.heap.IsList b ys ∧ R (.ok (.ret (.ref (zm4 s.heap a b).objs.size))) { s with heap := zm5 s.heap a b }) :=
  .of_wp fun prog w A R s h => by
    obtain ⟨hp, g, d, tk, os⟩ := s
    obtain ⟨t1, t2, h⟩ := h
    have hsub := sub_zip
    have q1 : Heap.IsTuple (Shared.heap ⟨hp, g, d, tk, os⟩) a xs := t1
    have q2 : Heap.IsList (Shared.heap ⟨zm1 hp a, g, d, tk, os⟩) b ys := Heap.IsList.push t2 _
    wp_walk using wpAny_pyIter_tuple q1, wpAny_pyIter_list q2
    exact ⟨_, rfl, h⟩
section
variable {prog : Program} {w : World} {A : Around} {E : Value → Shared → Prop} {s : Shared}
theorem call_M {a b : Addr} {xs ys : Array Value} {Q : Value → Shared → Prop} (h1 : s.heap.IsTuple a xs) (h2 : s.heap.IsList b ys)
    (h : ∀ h' n, n = s.heap.objs.size → IsZip h' (n + 4) (n + 2) (n + 3) .none → IsPair h' (n + 2) (.ref n) (.ref (n + 1)) → IsPair h' (n + 3) .none .none → h'.IsTupleIter n a 0 → h'.IsListIter (n + 1) b 0 →
      (∀ c o, s.heap.get? c = some o → h'.get? c = some o) → Q (.ref (n + 4)) { s with heap := h' }) :
    wpAny (model prog w) A (call (.type "zip") [.ref a, .ref b]) Q E s := by
  refine callType_new F.called_zip (by decide) (F.typeCall_zip_2 _ _) (F.newCall_zip_2 _ _) (fun obj => F.args_object_init_3 obj _ _) F.entry_zip_new (meets_M a b xs ys) ⟨h1, h2, ?_⟩
  have z1 : (zm1 s.heap a).objs.size = s.heap.objs.size + 1 := Heap.size_push ..
  have z2 : (zm2 s.heap a b).objs.size = s.heap.objs.size + 2 := by rw [Heap.size_push, z1]
  have z3 : (zm3 s.heap a b).objs.size = s.heap.objs.size + 3 := by rw [Heap.size_push, z2]
  have z4 : (zm4 s.heap a b).objs.size = s.heap.objs.size + 4 := by rw [Heap.size_push, z3]
  have up : ∀ {h : Heap} {c : Addr} {o o' : Obj}, h.get? c = some o → (h.push o').get? c = some o := fun e => Heap.get?_push_of_some _ e
  have g5 : (zm5 s.heap a b).get? (zm4 s.heap a b).objs.size = some _ := Heap.get?_push_size _ rfl
  have g4 : (zm5 s.heap a b).get? (zm3 s.heap a b).objs.size = some _ := up (Heap.get?_push_size _ rfl)
  have g3 : (zm5 s.heap a b).get? (zm2 s.heap a b).objs.size = some _ := up (up (Heap.get?_push_size _ rfl))
  have g2 : (zm5 s.heap a b).get? (zm1 s.heap a).objs.size = some _ := up (up (up (Heap.get?_push_size _ rfl)))
  have g1 : (zm5 s.heap a b).get? s.heap.objs.size = some _ := up (up (up (up (Heap.get?_push_size _ rfl))))
  show _ ∧ _
  rw [z2, z3, z4] at g5
  rw [z1, z2] at g3
  rw [z3] at g4
  rw [z1] at g2
  rw [z4]
  exact ⟨⟨_, g5, rfl⟩, h _ _ rfl g5 g3 g4 ⟨_, g1, rfl, rfl⟩ ⟨_, g2, rfl, rfl⟩ fun c o x => up (up (up (up (up x))))⟩
end
def iZipM (K : PySem.W.Frag) (ta : TA) : TI := fun σ H R => ta σ H fun vs H1 => ∃ a b xs ys, vs = [.ref a, .ref b] ∧ SqT K H1 a xs ∧ SqL K H1 b ys ∧ R (ItM K a b) H1
theorem pi_zipM {X : Cx} {e e2 : Expr} {ta : TA} {p pos tpos : Pos} {elts : List Expr} {kk : Nat} (hg : Gl X "zip") (hm : X.mg "zip" = none) (ha : PA X [e, e2] ta)
    (hs : starEach [e, e2] X.env = (false, eval e X.env) :: starEach [e2] X.env := by rfl) (hpl : (backTo pos (starEach [e2] X.env)).any (·.1) = false := by rfl) :
    PI X (.Tuple elts kk tpos) (.Call (.Name "zip" p) [e, e2] [] pos) (iZipM X.K ta) := by
  constructor
  intro pins s σ H R I h
  refine Call_ (ld_blt I hg hm PyProof.Rows.boot_zip (PyProof.Rows.callWith_type1 (thn (ha.run pos pins s σ H _ I h) fun us s1 ⟨vs, H1, I1, r1, q1⟩ => ?_) hs hpl))
  obtain ⟨a, b, xs, ys, rfl, hqx, hqy, q⟩ := q1
  obtain ⟨u, v, rfl, ra, rb⟩ := vals2 r1
  cases (show u = .ref a from ra)
  cases (show v = .ref b from rb)
  obtain ⟨its, rv, p1, _⟩ := I1.tuple hqx
  obtain ⟨its2, rv2, p2, _⟩ := I1.list hqy
  obtain ⟨o1, ho1, _⟩ := id p1
  have p1' : s1.heap.IsTuple a its.toArray := p1
  refine call_M p1' p2.isList fun h' n en hz hTI hTO t1 t2 hk => wpAny_pyIter_zip hz ?_
  have I2 : Inv X pins σ H1 { s1 with heap := h' } := I1.kept (t' := s1.toks) hk
  refine ⟨n + 4, [n + 4, n + 2, n + 3, n, n + 1], _, _, H1, rfl, I2, turn_M (by rw [en]; exact PySem.W.ktu_apart s1.heap.objs.size a b (Heap.lt_size ho1) p2.lt), ⟨hz, hTI, ⟨_, _, hTO⟩, t1, t2⟩, ?_, q⟩
  intro c hcm
  have hle : s1.heap.objs.size ≤ c := by
    simp only [List.mem_cons, List.not_mem_nil, or_false] at hcm
    rcases hcm with rfl | rfl | rfl | rfl | rfl <;> omega
  exact I1.fpOk hle (I1.hok.fresh hle)
/-- a loop over zip of a tuple and a list that is no shorter -/
theorem for_zipM {K : PySem.W.Frag} {a b : Addr} {xs ys : List V} {g : TG} {tb : TS} {D : Ends} {σ : L2.St} {H : Hp} (hl : xs.length ≤ ys.length) (Pv : Nat → L2.St → Hp → Prop) (h0 : Pv 0 σ H) (hq : ∀ i σ H, Pv i σ H → SqT K H a xs ∧ SqL K H b ys)
    (hs : ∀ (i : Nat) (x y : V) (T : Addr) (σ : L2.St) (H : Hp), xs[i]? = some x → ys[i]? = some y → Pv i σ H → H T = none → g (.ref T) σ (upd H T (.tup [x, y])) fun σ2 H2 => tb { D with nx := Pv (i + 1), ct := Pv (i + 1), bk := D.nx } σ2 H2) (hd : ∀ σ H, Pv xs.length σ H → D.nx σ H) :
    ∃ W : Nat → Nat → L2.St → Hp → Prop, (∃ m, W 0 m σ H) ∧ ∀ i m σ H, W i m σ H →
      ((ItM K a b).stop i H ∧ D.nx σ H) ∨ ((ItM K a b).go i H ∧ ∃ N : L2.St → Hp → Prop, (∀ σ' H', N σ' H' → ∃ m', m' < m ∧ W (i + 1) m' σ' H') ∧ ∀ v H', (ItM K a b).yld i H v H' → g v σ H' fun σ2 H2 => tb { D with nx := N, ct := N, bk := D.nx } σ2 H2) := by
  refine ⟨fun i m σ H => m = xs.length - i ∧ i ≤ xs.length ∧ Pv i σ H, ⟨_, rfl, Nat.zero_le _, h0⟩, ?_⟩
  rintro i m σ H ⟨rfl, hi, pv⟩
  obtain ⟨qx, qy⟩ := hq i σ H pv
  rcases Nat.lt_or_eq_of_le hi with lt | rfl
  · have lt2 : i < ys.length := Nat.lt_of_lt_of_le lt hl
    refine .inr ⟨⟨xs, ys, _, _, qx, qy, List.getElem?_eq_getElem lt, List.getElem?_eq_getElem lt2⟩, Pv (i + 1), fun σ' H' p' => ⟨_, Nat.sub_lt_sub_left lt (Nat.lt_succ_self i), rfl, lt, p'⟩, ?_⟩
    rintro v H' ⟨T, x, y, rfl, hT, rfl, f1, f2⟩
    exact hs i x y T σ H (f1 xs qx) (f2 ys qy) pv hT
  · exact .inl ⟨⟨xs, ys, qx, qy, Nat.le_refl _, hl, .inl rfl⟩, hd σ H pv⟩
end Ice

set_option Elab.async false
set_option linter.all false
set_option maxRecDepth 100000
set_option maxHeartbeats 4000000
set_option autoImplicit false
namespace Ice
open PySem PySem.Spec PyProof.Rows L2
open PySem.Builtin PySem.Builtin.Str
theorem char39 : ∀ c < 128, ∀ d ∈ reprChar 39 c, d < 128 := by decide +kernel
theorem char34 : ∀ c < 128, ∀ d ∈ reprChar 34 c, d < 128 := by decide +kernel
theorem quote_is (x : Str) : reprQuote x = 39 ∨ reprQuote x = 34 := by
  unfold reprQuote
  split
  · first | exact .inl rfl | exact .inr rfl
  · first | exact .inl rfl | exact .inr rfl
theorem fold_lt {q : Nat} : ∀ (l : List Nat) (acc : Array Nat), (∀ d ∈ acc.toList, d < 128) → (∀ c ∈ l, ∀ d ∈ reprChar q c, d < 128) → ∀ d ∈ (l.foldl (fun out c => out ++ (reprChar q c).toArray) acc).toList, d < 128
  | [], acc, h, _ => h
  | c :: l, acc, h, h2 => by
    rw [List.foldl_cons]
    refine fold_lt l _ ?_ fun c hc => h2 c (List.mem_cons_of_mem _ hc)
    intro d hd
    rw [Array.toList_append] at hd
    rcases List.mem_append.mp hd with z | z
    · exact h d z
    · exact h2 c (List.mem_cons_self ..) d (by simpa using z)
theorem repr_asc {x : Str} (h : ∀ c ∈ x.cps.toList, c < 128) : ∀ c ∈ (reprText x).cps.toList, c < 128 := by
  have ch : ∀ c ∈ x.cps.toList, ∀ d ∈ reprChar (reprQuote x) c, d < 128 := by
    intro c hc
    rcases quote_is x with e | e
    · rw [e]; exact char39 c (h c hc)
    · rw [e]; exact char34 c (h c hc)
  have q128 : reprQuote x < 128 := by rcases quote_is x with e | e <;> rw [e] <;> decide
  intro c hc
  unfold reprText at hc
  have hc' : c ∈ ((x.cps.foldl (fun out c => out ++ (reprChar (reprQuote x) c).toArray) #[reprQuote x]).push (reprQuote x)).toList := hc
  rw [← Array.foldl_toList, Array.toList_push] at hc'
  rcases List.mem_append.mp hc' with z | z
  · exact fold_lt _ _ (by intro d hd; have : d = reprQuote x := by simpa using hd
                          rw [this]; exact q128) ch c z
  · have : c = reprQuote x := by simpa using z
    rw [this]; exact q128
theorem strOk_of (s : String) : PySem.PyData.strOk (Str.ofString s) = true := by
  show (Str.ofString s).cps.all (· < 0x110000) = true
  rw [Array.all_eq_true']
  intro c hc
  rw [PySem.Str.ofString_eq_toList] at hc
  have hc' : c ∈ s.toList.map Char.toNat := by simpa using hc
  obtain ⟨ch, _, rfl⟩ := List.mem_map.mp hc'
  have := ch.valid
  simp
  show ch.val.toNat < 1114112
  rcases this with h | h <;> omega
end Ice

set_option Elab.async false
set_option linter.all false
set_option maxRecDepth 100000
set_option maxHeartbeats 4000000
namespace Ice
open PySem PySem.Spec PyProof.Rows L2 TL
/-! side conditions, heaps, one step of a reading, and many -/
local macro_rules | `(tactic| walk_at "hp") => `(tactic| first | assumption | exact upd_same | exact New.at_ (by assumption) | (refine keepU ?_ (by assumption); walk_at "hp") | (refine New.app (by assumption) ?_; walk_at "hp") | (refine Same.app (by assumption) ?_; walk_at "hp") | (refine But.app (by assumption) (by assumption) ?_; walk_at "hp"))
local macro_rules | `(tactic| walk_at "sq") => `(tactic| first | assumption | exact SqL.lst (by walk_at "hp") | exact L2.Same.seq (New.same (by assumption)) (by assumption) | exact L2.Same.seq (by assumption) (by assumption))
local macro_rules | `(tactic| walk_at "len") => `(tactic| first | assumption | (simp only [List.length_cons, List.length_nil, List.length_append, List.length_map]; decide) | (refine Ice.sz_of ?_; simp only [List.length_cons, List.length_nil, List.length_append, List.length_map]; omega))
local macro_rules | `(tactic| walk_at "fresh") => `(tactic| (simp only [List.map_append, List.map_cons, List.map_nil, List.nil_append, List.cons_append]; decide +kernel))
local macro_rules | `(tactic| walk_at "sd") => `(tactic| first | assumption | (show _ ≠ _; omega) | exact Or.inl ⟨by omega, by omega⟩ | exact Or.inr ⟨by omega, by omega⟩ | exact ⟨by decide, by decide⟩ | exact ⟨by decide, by decide, by decide⟩ | exact ⟨by omega, by omega, by omega⟩)
/-! one step of a reading, and many -/
local macro_rules | `(tactic| walk_at "st") => `(tactic| first
  | with_reducible refine i_seq ?_
  | with_reducible refine i_if ?_
  | with_reducible refine i_next ?_
  | with_reducible refine i_ret ?_
  | with_reducible refine i_retN ?_
  | with_reducible refine i_drop ?_
  | with_reducible refine i_asg ?_
  | with_reducible refine i_gname ?_
  | with_reducible refine i_gsub ?_
  | ((with_reducible refine i_var (v := ?vv) ?hv ?_); (case hv => exact rfl))
  | with_reducible refine i_c ?_
  | with_reducible refine i_op ?_
  | with_reducible refine i_un ?_
  | with_reducible refine i_test ?_
  | with_reducible refine i_tB ?_
  | with_reducible refine i_and ?_
  | with_reducible refine i_or ?_
  | with_reducible refine i_not ?_
  | with_reducible refine i_andV ?_
  | with_reducible refine i_orV ?_
  | with_reducible refine i_notV ?_
  | with_reducible refine i_ifE ?_
  | with_reducible refine i_chain ?_
  | with_reducible refine i_bl ?_
  | with_reducible refine i_nil ?_
  | with_reducible refine i_cons ?_
  | with_reducible refine i_call ?_
  | with_reducible refine i_cb ?_
  | with_reducible refine i_rI0 ?_
  | with_reducible refine i_rU ?_
  | ((with_reducible refine i_rEq ?hs ?_); (case hs => exact rfl))
  | ((with_reducible refine i_rNe ?hs ?_); (case hs => exact rfl))
  | ((with_reducible refine i_rI ?hc ?_); (case hc => walk_at "sd"))
  | ((with_reducible refine i_ixL (xs := ?xs) (v := ?vv) ?hS ?he ?_); (case hS => walk_at "sq"); (case he => exact rfl))
  | ((with_reducible refine i_setL (xs := ?xs) (j := ?jj) ?hS ?he ?_); (case hS => walk_at "hp"); (case he => exact rfl))
  | with_reducible refine i_tup ?_
  | with_reducible refine i_lst ?_
  | with_reducible refine i_bm ?_
  | with_reducible refine i_bm0 ?_
  | with_reducible refine i_m1 ?_
  | with_reducible refine i_sl ?_
  | with_reducible refine i_nopart ?_
  | with_reducible refine i_part ?_
  | with_reducible refine i_int ?_
  | with_reducible refine i_str ?_
  | with_reducible refine i_for ?_
  | with_reducible refine i_yes ?_
  | ((with_reducible refine i_lenL (xs := ?xs) ?hS ?_); (case hS => walk_at "sq"))
  | ((with_reducible refine i_room ?hz ?_); (case hz => walk_at "len"))
  | with_reducible refine i_leT ?_
  | with_reducible refine i_notInS ?_
  | with_reducible refine i_inS ?_
  | with_reducible refine i_find ?_
  | with_reducible refine i_isB ?_
  | with_reducible refine i_max2 ?_
  | with_reducible refine i_min2 ?_
  | with_reducible exact trivial
  | with_reducible refine iteT ?_
  | with_reducible refine iteF ?_
  | with_reducible refine i_isstr ?_
  | with_reducible refine i_lc ?_
  | ((with_reducible refine i_cat (xs := ?xs) (zs := ?zs) ?ha ?hb ?hz ?_); (case ha => walk_at "hp"); (case hb => walk_at "hp"); (case hz => walk_at "len"))
  | ((with_reducible refine i_tyL (xs := ?xs) ?ha ?_); (case ha => walk_at "hp"))
  | with_reducible refine i_list ?_
  | with_reducible refine i_disp ?_
  | with_reducible refine i_pairs0 ?_
  | with_reducible refine i_pairs ?_
  | with_reducible refine i_newK ?_
  | with_reducible refine i_gcons ?_
  | with_reducible refine i_gnil ?_
  | with_reducible refine i_revL ?_
  | with_reducible refine i_rng1 ?_
  | ((with_reducible refine i_wipe ?hw ?_); (case hw => exact rfl))
  | with_reducible refine iteNT ?_
  | with_reducible refine iteNF ?_)
local macro_rules | `(tactic| walk_at "sx") => `(tactic| first
  | walk_at "st"
  | with_reducible refine i_kinit ?_
  | with_reducible refine i_ost ?_
  | with_reducible refine i_mkO ?_
  | with_reducible refine i_callE ?_
  | with_reducible refine i_makeE ?_
  | with_reducible refine i_xf ?_
  | with_reducible refine i_sfld ?_
  | with_reducible refine i_fld ?_
  | ((with_reducible refine i_ixT (xs := ?xs) (v := ?vv) ?hS ?he ?_); (case hS => exact SqT.tup (by walk_at "hp")); (case he => exact rfl))
  | with_reducible refine i_intB ?_
  | with_reducible refine i_runS ?_
  | with_reducible refine i_runN ?_
  | ((with_reducible refine i_xf1 (fs := ?ff) (v := ?vv) ?hx ?hl ?_); (case hx => walk_at "hp"); (case hl => exact rfl))
  | with_reducible refine i_methE ?_
  | with_reducible refine i_meth ?_
  | with_reducible refine i_make ?_
  | ((with_reducible refine i_obj (dx := ?dd) (fs := ?ff) ?hx ?hl ?_); (case hx => walk_at "hp"); (case hl => exact rfl))
  | ((with_reducible refine i_fld1 (C := ?CC) (dx := ?dd) (fs := ?ff) (v := ?vv) ?hx ?cl ?na ?hl ?_); (case hx => walk_at "hp"); (case cl => assumption); (case na => assumption); (case hl => exact rfl)))
local macro_rules | `(tactic| walk_at "rd") => `(tactic| repeat (walk_at "sx"))
def topS (i : Nat) : Stmt := PySem.Challenge.pw_iceopened_k07_channels_refused.main.body.getD i (.Pass ⟨0, 0, 0, 0⟩)
abbrev s_is_whole : Stmt := topS 8
theorem sc_is_whole : FnScope ["thing"] ["thing"] (defScope s_is_whole) := ⟨rfl, rfl, rfl, by decide +kernel, rfl, by decide +kernel, by decide +kernel⟩
abbrev s_is_within : Stmt := topS 9
theorem sc_is_within : FnScope ["thing", "low", "high"] ["thing", "low", "high"] (defScope s_is_within) := ⟨rfl, rfl, rfl, by decide +kernel, rfl, by decide +kernel, by decide +kernel⟩
abbrev s_is_name : Stmt := topS 10
theorem sc_is_name : FnScope ["thing"] ["thing"] (defScope s_is_name) := ⟨rfl, rfl, rfl, by decide +kernel, rfl, by decide +kernel, by decide +kernel⟩
abbrev s_all_between : Stmt := topS 11
theorem sc_all_between : FnScope ["text", "low", "high", "sign"] ["text", "low", "high"] (defScope s_all_between) := ⟨rfl, rfl, rfl, by decide +kernel, rfl, by decide +kernel, by decide +kernel⟩
abbrev s_check_number : Stmt := topS 13
theorem sc_check_number : FnScope ["thing", "low", "high"] ["thing", "low", "high"] (defScope s_check_number) := ⟨rfl, rfl, rfl, by decide +kernel, rfl, by decide +kernel, by decide +kernel⟩
abbrev s_check_names : Stmt := topS 20
theorem sc_check_names : FnScope ["things", "thing"] ["things"] (defScope s_check_names) := ⟨rfl, rfl, rfl, by decide +kernel, rfl, by decide +kernel, by decide +kernel⟩
abbrev s_cell : Stmt := topS 22
theorem sc_cell : FnScope ["_law_script", "_law_k"] ["_law_script", "_law_k"] (defScope s_cell) := ⟨rfl, rfl, rfl, by decide +kernel, rfl, by decide +kernel, by decide +kernel⟩
abbrev s_box : Stmt := topS 23
theorem sc_box : FnScope ["_law_cell_here"] ["_law_cell_here"] (defScope s_box) := ⟨rfl, rfl, rfl, by decide +kernel, rfl, by decide +kernel, by decide +kernel⟩
abbrev s_take : Stmt := topS 24
theorem sc_take : FnScope ["_law_box_here", "_law_many", "_law_digit", "_law_one", "_law_other"] ["_law_box_here", "_law_many"] (defScope s_take) := ⟨rfl, rfl, rfl, by decide +kernel, rfl, by decide +kernel, by decide +kernel⟩
abbrev s_names : Stmt := topS 25
theorem sc_names : FnScope ["_law_box_here", "_law_many", "_law_letters", "_law_way", "_law_first", "_law_step", "_law_at", "_law_size", "_law_stem", "_law_k"] ["_law_box_here", "_law_many"] (defScope s_names) := ⟨rfl, rfl, rfl, by decide +kernel, rfl, by decide +kernel, by decide +kernel⟩
abbrev s_number : Stmt := topS 26
theorem sc_number : FnScope ["_law_box_here", "_law_low", "_law_high", "_law_way"] ["_law_box_here", "_law_low", "_law_high"] (defScope s_number) := ⟨rfl, rfl, rfl, by decide +kernel, rfl, by decide +kernel, by decide +kernel⟩
abbrev s_odd : Stmt := topS 27
theorem sc_odd : FnScope ["_law_box_here", "_law_some"] ["_law_box_here"] (defScope s_odd) := ⟨rfl, rfl, rfl, by decide +kernel, rfl, by decide +kernel, by decide +kernel⟩
abbrev s_channel_row : Stmt := topS 28
theorem sc_channel_row : FnScope ["_law_box_here", "_law_name", "_law_one", "_law_other", "_law_first", "_law_hours", "_law_depth", "_law_growth"] ["_law_box_here", "_law_name", "_law_one", "_law_other"] (defScope s_channel_row) := ⟨rfl, rfl, rfl, by decide +kernel, rfl, by decide +kernel, by decide +kernel⟩
abbrev s_l_is_name : Stmt := topS 29
theorem sc_l_is_name : FnScope ["_law_thing", "_law_sign"] ["_law_thing"] (defScope s_l_is_name) := ⟨rfl, rfl, rfl, by decide +kernel, rfl, by decide +kernel, by decide +kernel⟩
abbrev s_is_number : Stmt := topS 30
theorem sc_is_number : FnScope ["_law_thing", "_law_low", "_law_high"] ["_law_thing", "_law_low", "_law_high"] (defScope s_is_number) := ⟨rfl, rfl, rfl, by decide +kernel, rfl, by decide +kernel, by decide +kernel⟩
abbrev s_due : Stmt := topS 31
theorem sc_due : FnScope ["_law_row", "_law_thing", "_law_bounds", "_law_low", "_law_high"] ["_law_row"] (defScope s_due) := ⟨rfl, rfl, rfl, by decide +kernel, rfl, by decide +kernel, by decide +kernel⟩
abbrev s_found : Stmt := topS 32
theorem sc_found : FnScope ["_law_row", "e"] ["_law_row"] (defScope s_found) := ⟨rfl, rfl, rfl, by decide +kernel, rfl, by decide +kernel, by decide +kernel⟩
abbrev s_spoilt : Stmt := topS 33
theorem sc_spoilt : FnScope ["_law_box_here", "_law_row", "_law_at", "_law_way", "_law_thing"] ["_law_box_here", "_law_row"] (defScope s_spoilt) := ⟨rfl, rfl, rfl, by decide +kernel, rfl, by decide +kernel, by decide +kernel⟩
abbrev s_law : Stmt := topS 34
theorem sc_law : FnScope ["_law_script", "_law_k", "_law_box_here", "_law_many", "_law_name", "_law_one", "_law_other", "_law_row", "_law_turn"] ["_law_script"] (defScope s_law) := ⟨rfl, rfl, rfl, by decide +kernel, rfl, by decide +kernel, by decide +kernel⟩
abbrev s_NoName___init__ : Stmt := inClass (topS 3) 0
theorem sc_NoName___init__ : FnScope ["self", "found"] ["self", "found"] (defScope s_NoName___init__) := ⟨rfl, rfl, rfl, by decide +kernel, rfl, by decide +kernel, by decide +kernel⟩
abbrev s_NoNumber___init__ : Stmt := inClass (topS 4) 0
theorem sc_NoNumber___init__ : FnScope ["self", "found"] ["self", "found"] (defScope s_NoNumber___init__) := ⟨rfl, rfl, rfl, by decide +kernel, rfl, by decide +kernel, by decide +kernel⟩
abbrev s_Doubled___init__ : Stmt := inClass (topS 5) 0
theorem sc_Doubled___init__ : FnScope ["self", "name"] ["self", "name"] (defScope s_Doubled___init__) := ⟨rfl, rfl, rfl, by decide +kernel, rfl, by decide +kernel, by decide +kernel⟩
abbrev s_Channel___init__ : Stmt := inClass (topS 19) 0
theorem sc_Channel___init__ : FnScope ["self", "name", "one", "other", "hours", "depth", "first", "growth", "most"] ["self", "name", "one", "other", "hours", "depth", "first", "growth", "most"] (defScope s_Channel___init__) := ⟨rfl, rfl, rfl, by decide +kernel, rfl, by decide +kernel, by decide +kernel⟩

structure Top (K : PySem.W.Frag) (mg : Str → Option Value) where
  a_is_whole : Addr
  d_is_whole : FuncData
  F_is_whole : Fun K "is_whole" "is_whole" s_is_whole a_is_whole d_is_whole
  b_is_whole : Binds K d_is_whole ["thing"] []
  m_is_whole : mg "is_whole" = some (.ref a_is_whole)
  a_is_within : Addr
  d_is_within : FuncData
  F_is_within : Fun K "is_within" "is_within" s_is_within a_is_within d_is_within
  b_is_within : Binds K d_is_within ["thing", "low", "high"] []
  m_is_within : mg "is_within" = some (.ref a_is_within)
  a_is_name : Addr
  d_is_name : FuncData
  F_is_name : Fun K "is_name" "is_name" s_is_name a_is_name d_is_name
  b_is_name : Binds K d_is_name ["thing"] []
  m_is_name : mg "is_name" = some (.ref a_is_name)
  a_all_between : Addr
  d_all_between : FuncData
  F_all_between : Fun K "_all_between" "_all_between" s_all_between a_all_between d_all_between
  b_all_between : Binds K d_all_between ["text", "low", "high"] []
  m_all_between : mg "_all_between" = some (.ref a_all_between)
  a_check_number : Addr
  d_check_number : FuncData
  F_check_number : Fun K "check_number" "check_number" s_check_number a_check_number d_check_number
  b_check_number : Binds K d_check_number ["thing", "low", "high"] []
  m_check_number : mg "check_number" = some (.ref a_check_number)
  a_check_names : Addr
  d_check_names : FuncData
  F_check_names : Fun K "_check_names" "_check_names" s_check_names a_check_names d_check_names
  b_check_names : Binds K d_check_names ["things"] []
  m_check_names : mg "_check_names" = some (.ref a_check_names)
  a_cell : Addr
  d_cell : FuncData
  F_cell : Fun K "_law_cell" "_law_cell" s_cell a_cell d_cell
  b_cell : Binds K d_cell ["_law_script", "_law_k"] []
  m_cell : mg "_law_cell" = some (.ref a_cell)
  a_box : Addr
  d_box : FuncData
  F_box : Fun K "_law_box" "_law_box" s_box a_box d_box
  b_box : Binds K d_box ["_law_cell_here"] []
  m_box : mg "_law_box" = some (.ref a_box)
  a_take : Addr
  d_take : FuncData
  F_take : Fun K "_law_take" "_law_take" s_take a_take d_take
  b_take : Binds K d_take ["_law_box_here", "_law_many"] []
  m_take : mg "_law_take" = some (.ref a_take)
  a_names : Addr
  d_names : FuncData
  F_names : Fun K "_law_names" "_law_names" s_names a_names d_names
  b_names : Binds K d_names ["_law_box_here", "_law_many"] []
  m_names : mg "_law_names" = some (.ref a_names)
  a_number : Addr
  d_number : FuncData
  F_number : Fun K "_law_number" "_law_number" s_number a_number d_number
  b_number : Binds K d_number ["_law_box_here", "_law_low", "_law_high"] []
  m_number : mg "_law_number" = some (.ref a_number)
  a_odd : Addr
  d_odd : FuncData
  F_odd : Fun K "_law_odd" "_law_odd" s_odd a_odd d_odd
  b_odd : Binds K d_odd ["_law_box_here"] []
  m_odd : mg "_law_odd" = some (.ref a_odd)
  a_channel_row : Addr
  d_channel_row : FuncData
  F_channel_row : Fun K "_law_channel_row" "_law_channel_row" s_channel_row a_channel_row d_channel_row
  b_channel_row : Binds K d_channel_row ["_law_box_here", "_law_name", "_law_one", "_law_other"] []
  m_channel_row : mg "_law_channel_row" = some (.ref a_channel_row)
  a_l_is_name : Addr
  d_l_is_name : FuncData
  F_l_is_name : Fun K "_law_is_name" "_law_is_name" s_l_is_name a_l_is_name d_l_is_name
  b_l_is_name : Binds K d_l_is_name ["_law_thing"] []
  m_l_is_name : mg "_law_is_name" = some (.ref a_l_is_name)
  a_is_number : Addr
  d_is_number : FuncData
  F_is_number : Fun K "_law_is_number" "_law_is_number" s_is_number a_is_number d_is_number
  b_is_number : Binds K d_is_number ["_law_thing", "_law_low", "_law_high"] []
  m_is_number : mg "_law_is_number" = some (.ref a_is_number)
  a_due : Addr
  d_due : FuncData
  F_due : Fun K "_law_due" "_law_due" s_due a_due d_due
  b_due : Binds K d_due ["_law_row"] []
  m_due : mg "_law_due" = some (.ref a_due)
  a_found : Addr
  d_found : FuncData
  F_found : Fun K "_law_found" "_law_found" s_found a_found d_found
  b_found : Binds K d_found ["_law_row"] []
  m_found : mg "_law_found" = some (.ref a_found)
  a_spoilt : Addr
  d_spoilt : FuncData
  F_spoilt : Fun K "_law_spoilt" "_law_spoilt" s_spoilt a_spoilt d_spoilt
  b_spoilt : Binds K d_spoilt ["_law_box_here", "_law_row"] []
  m_spoilt : mg "_law_spoilt" = some (.ref a_spoilt)
  a_law : Addr
  d_law : FuncData
  F_law : Fun K "law" "law" s_law a_law d_law
  b_law : Binds K d_law ["_law_script"] []
  m_law : mg "law" = some (.ref a_law)
  a_NoName___init__ : Addr
  d_NoName___init__ : FuncData
  F_NoName___init__ : Fun K "__init__" "NoName.__init__" s_NoName___init__ a_NoName___init__ d_NoName___init__
  b_NoName___init__ : Binds K d_NoName___init__ ["self", "found"] []
  a_NoNumber___init__ : Addr
  d_NoNumber___init__ : FuncData
  F_NoNumber___init__ : Fun K "__init__" "NoNumber.__init__" s_NoNumber___init__ a_NoNumber___init__ d_NoNumber___init__
  b_NoNumber___init__ : Binds K d_NoNumber___init__ ["self", "found"] []
  a_Doubled___init__ : Addr
  d_Doubled___init__ : FuncData
  F_Doubled___init__ : Fun K "__init__" "Doubled.__init__" s_Doubled___init__ a_Doubled___init__ d_Doubled___init__
  b_Doubled___init__ : Binds K d_Doubled___init__ ["self", "name"] []
  a_Channel___init__ : Addr
  d_Channel___init__ : FuncData
  F_Channel___init__ : Fun K "__init__" "Channel.__init__" s_Channel___init__ a_Channel___init__ d_Channel___init__
  b_Channel___init__ : Binds K d_Channel___init__ ["self", "name", "one", "other", "hours", "depth", "first", "growth", "most"] []
  a_IceError : Addr
  c_IceError : mg "IceError" = some (.ref a_IceError)
  sp_IceError : PySem.W.specialIn K (.ref a_IceError) "__getattribute__" = some (some (.builtin "type.__getattribute__"))
  ty_IceError : PySem.W.typeIn K (.ref a_IceError) = some (.type "type")
  rd_IceError : PySem.W.readsIn K a_IceError (.type "type") = true
  fc_IceError : PySem.W.findCls K (.ref a_IceError) (.type "type") "__init__" = some (.val (.builtin "ValueError.__init__"))
  a_NoName : Addr
  c_NoName : mg "NoName" = some (.ref a_NoName)
  ox_NoName : OexC K a_NoName
  xf_NoName : XfC K a_NoName
  in_NoName : PySem.W.findIn K (.ref a_NoName) "__init__" = some (some (.ref a_NoName___init__))
  tf_NoName : PySem.W.typeIn K (.ref a_NoName___init__) = some (.type "function")
  nf_NoName_found : PySem.W.findIn K (.ref a_NoName) "found" = some none
  a_NoNumber : Addr
  c_NoNumber : mg "NoNumber" = some (.ref a_NoNumber)
  ox_NoNumber : OexC K a_NoNumber
  xf_NoNumber : XfC K a_NoNumber
  in_NoNumber : PySem.W.findIn K (.ref a_NoNumber) "__init__" = some (some (.ref a_NoNumber___init__))
  tf_NoNumber : PySem.W.typeIn K (.ref a_NoNumber___init__) = some (.type "function")
  nf_NoNumber_found : PySem.W.findIn K (.ref a_NoNumber) "found" = some none
  a_Doubled : Addr
  c_Doubled : mg "Doubled" = some (.ref a_Doubled)
  ox_Doubled : OexC K a_Doubled
  xf_Doubled : XfC K a_Doubled
  in_Doubled : PySem.W.findIn K (.ref a_Doubled) "__init__" = some (some (.ref a_Doubled___init__))
  tf_Doubled : PySem.W.typeIn K (.ref a_Doubled___init__) = some (.type "function")
  nf_Doubled_name : PySem.W.findIn K (.ref a_Doubled) "name" = some none
  a_Channel : Addr
  c_Channel : mg "Channel" = some (.ref a_Channel)
  cl_Channel : Cls K a_Channel
  mk_Channel : Mk K a_Channel a_Channel___init__
  na_Channel_name : NoAttr K a_Channel "name"
  na_Channel_one : NoAttr K a_Channel "one"
  na_Channel_other : NoAttr K a_Channel "other"
  na_Channel_hours : NoAttr K a_Channel "hours"
  na_Channel_depth : NoAttr K a_Channel "depth"
  na_Channel_first : NoAttr K a_Channel "first"
  na_Channel_growth : NoAttr K a_Channel "growth"
  na_Channel_most : NoAttr K a_Channel "most"
  ex_NoName_NoName : PySem.W.exmOne K (.ref a_NoName) (.ref a_NoName) = some true
  ex_NoName_Doubled : PySem.W.exmOne K (.ref a_NoName) (.ref a_Doubled) = some false
  ex_NoName_NoNumber : PySem.W.exmOne K (.ref a_NoName) (.ref a_NoNumber) = some false
  ex_NoName_IceError : PySem.W.exmOne K (.ref a_NoName) (.ref a_IceError) = some true
  ex_NoNumber_NoName : PySem.W.exmOne K (.ref a_NoNumber) (.ref a_NoName) = some false
  ex_NoNumber_Doubled : PySem.W.exmOne K (.ref a_NoNumber) (.ref a_Doubled) = some false
  ex_NoNumber_NoNumber : PySem.W.exmOne K (.ref a_NoNumber) (.ref a_NoNumber) = some true
  ex_NoNumber_IceError : PySem.W.exmOne K (.ref a_NoNumber) (.ref a_IceError) = some true
  ex_Doubled_NoName : PySem.W.exmOne K (.ref a_Doubled) (.ref a_NoName) = some false
  ex_Doubled_Doubled : PySem.W.exmOne K (.ref a_Doubled) (.ref a_Doubled) = some true
  ex_Doubled_NoNumber : PySem.W.exmOne K (.ref a_Doubled) (.ref a_NoNumber) = some false
  ex_Doubled_IceError : PySem.W.exmOne K (.ref a_Doubled) (.ref a_IceError) = some true
  t_NAME_MOST : Tok
  c_NAME_MOST : mg "NAME_MOST" = some (.int 8 t_NAME_MOST)
  t_HOURS_MOST : Tok
  c_HOURS_MOST : mg "HOURS_MOST" = some (.int 1000 t_HOURS_MOST)
  t_DEPTH_MOST : Tok
  c_DEPTH_MOST : mg "DEPTH_MOST" = some (.int 1000 t_DEPTH_MOST)
  t_GROWTH_MOST : Tok
  c_GROWTH_MOST : mg "GROWTH_MOST" = some (.int 1000 t_GROWTH_MOST)
  t_THICK_MOST : Tok
  c_THICK_MOST : mg "THICK_MOST" = some (.int 1000000 t_THICK_MOST)
  n_isinstance : mg "isinstance" = none
  n_int : mg "int" = none
  n_bool : mg "bool" = none
  n_str : mg "str" = none
  n_len : mg "len" = none
  n_max : mg "max" = none
  n_range : mg "range" = none
  n_min : mg "min" = none
  n_zip : mg "zip" = none
  n_repr : mg "repr" = none

section
variable {P : Program} {w : World} {K : PySem.W.Frag} {mg : Str → Option Value} {base : Heap}
def spCell (K : PySem.W.Frag) : Sp := fun vs H Q _ => ∃ (a : Addr) (ns : List Int) (k : Int), vs = [.ref a, .int k] ∧ SqL K H a (ns.map V.int) ∧ 0 ≤ k ∧ k ≤ 1000 ∧ ∀ z : Int, Q (.int z) H
theorem ok_cell (T : Top K mg) : FnG P w K mg base CX0 1 T.a_cell T.d_cell ["_law_script", "_law_k"] (spCell K) := by
  refine okG T.F_cell sc_cell (fun vs H Q E h => ?_) (fun cdv A outer s H vs Q E hr hgd h => ?_)
  · obtain ⟨a, ns, k, rfl, _⟩ := h
    rfl
  · obtain ⟨a, ns, k, rfl, hS, k0, hk, q⟩ := h
    obtain ⟨k, rfl⟩ := Int.eq_ofNat_of_zero_le k0
    refine ⟨_, (pss_cons (ps_if (pt_cmpR op_lt (pv 1) (pe_callB c_len (by rfl) T.n_len (by decide +kernel) (pa_cons (pv 0) pa_nil)) (nomark _))
        (pss_one (ps_ret (pe_ix ix_list (pv 0) (pv 1) (fun _ _ => rfl))))
        pss_nil)
      (pss_one (ps_ret (pe_op op_add (pe_op op_mul pe_int (pv 1)) pe_int)))), ?_⟩
    walk_at "rd"
    refine ifs (fun hc => ?_) (fun hc => ?_)
    · walk_at "rd"
      simp only [decide_eq_true_eq, List.length_map] at hc
      have hc' : k < ns.length := by omega
      exact i_ixL hS (atI_nat (by rw [List.getElem?_map, List.getElem?_eq_getElem hc']; rfl)) (q _)
    · walk_at "rd"
      exact q _
def spBox : Sp := fun vs H Q _ => ∃ z : Int, vs = [.int z] ∧ ∀ (p : Addr) (H' : Hp), H p = none → Same H H' → Box H' p 0 → Q (.ref p) H'
theorem ok_box (T : Top K mg) : FnG P w K mg base CX0 1 T.a_box T.d_box ["_law_cell_here"] spBox := by
  refine okG T.F_box sc_box (fun vs H Q E h => ?_) (fun cdv A outer s H vs Q E hr hgd h => ?_)
  · obtain ⟨z, rfl, _⟩ := h
    rfl
  · obtain ⟨z, rfl, q⟩ := h
    refine ⟨_, (pss_one (ps_ret (pe_lst (pa_cons (pe_callB (c_max2) (by rfl) T.n_max (by decide +kernel) (pa_cons pe_int (pa_cons (pe_op op_sub (pv 0) (pe_op op_pow pe_int pe_int)) pa_nil))) (pa_cons (pe_op op_modN (pv 0) pe_int) (pa_cons pe_int pa_nil)))))), ?_⟩
    walk_at "rd"
    (intro p hp; generalize ep : upd _ p _ = J; have N := New.of ep hp; clear ep hp)
    walk_at "rd"
    refine q p _ N.free N.same ⟨_, _, _, N.at_, ?_, Int.fmod_nonneg_of_pos _ (by decide), Int.fmod_lt_of_pos _ (by decide), by omega, by omega⟩
    split <;> omega
theorem sq_bound {z : Int} (h0 : 0 ≤ z) (h1 : z ≤ 1000) : 0 ≤ 104729 * (z + 1) * (z + 1) ∧ 104729 * (z + 1) * (z + 1) ≤ 104729 * 1001 * 1001 := by
  have a : 0 ≤ (z + 1) * (z + 1) := Int.mul_nonneg (by omega) (by omega)
  have b : (z + 1) * (z + 1) ≤ 1001 * 1001 := Int.mul_le_mul (by omega) (by omega) (by omega) (by omega)
  rw [Int.mul_assoc]
  omega
def spTake : Sp := fun vs H Q _ => ∃ (b : Addr) (m : Int) (n : Nat), vs = [.ref b, .int m] ∧ Box H b n ∧ n ≤ 900 ∧ 0 < m ∧ m.natAbs < 2 ^ 100 ∧
  ∀ (d : Int) (H' : Hp), 0 ≤ d → d < m → But b H H' → Box H' b (n + 1) → Q (.int d) H'
theorem ok_take (T : Top K mg) : FnG P w K mg base CX0 1 T.a_take T.d_take ["_law_box_here", "_law_many"] spTake := by
  refine okG T.F_take sc_take (fun vs H Q E h => ?_) (fun cdv A outer s H vs Q E hr hgd h => ?_)
  · obtain ⟨b, m, n, rfl, _⟩ := h
    rfl
  · obtain ⟨b, m, n, rfl, ⟨x, y, z, hb, x0, y0, y1, z0, z1⟩, hn, m0, m1, q⟩ := h
    refine ⟨_, (pss_cons (ps_if (pt_cmpR op_gt (pe_ix ix_list (pv 0) pe_int (fun _ _ => rfl)) pe_int (nomark _))
        (pss_cons (ps_set (i := 2) sc_take.nd rfl (by first | exact Or.inl rfl | exact Or.inr rfl) (pe_op op_modN (pe_ix ix_list (pv 0) pe_int (fun _ _ => rfl)) (pv 1)))
      (pss_cons (ps_asg (pe_op op_fdivW (pe_ix ix_list (pv 0) pe_int (fun _ _ => rfl)) (pv 1)) (pg_sub (pv 0) pe_int set_list))
      (pss_one (ps_ret (pv 2)))))
        pss_nil)
      (pss_cons (ps_asg (pe_op op_add (pe_ix ix_list (pv 0) pe_int (fun _ _ => rfl)) pe_int) (pg_sub (pv 0) pe_int set_list))
      (pss_cons (ps_set (i := 3) sc_take.nd rfl (by first | exact Or.inl rfl | exact Or.inr rfl) (pe_op op_modN (pe_op op_pow (pe_op op_add (pe_op op_add (pe_ix ix_list (pv 0) pe_int (fun _ _ => rfl)) (pe_op op_mul pe_int (pe_ix ix_list (pv 0) pe_int (fun _ _ => rfl)))) pe_int) pe_int) pe_int))
      (pss_cons (ps_set (i := 4) sc_take.nd rfl (by first | exact Or.inl rfl | exact Or.inr rfl) (pe_op op_modN (pe_op op_pow (pe_op op_add (pe_op op_add (pe_op op_fdivN (pv 3) pe_int) (pe_op op_mul (pe_op op_mul pe_int (pe_ix ix_list (pv 0) pe_int (fun _ _ => rfl))) (pe_ix ix_list (pv 0) pe_int (fun _ _ => rfl)))) pe_int) pe_int) pe_int))
      (pss_one (ps_ret (pe_op op_modN (pe_op op_add (pe_op op_fdivN (pv 3) pe_int) (pe_op op_mul pe_int (pe_op op_fdivN (pv 4) pe_int))) (pv 1)))))))), ?_⟩
    walk_at "rd"
    refine ifs (fun hc => ?_) (fun hc => ?_)
    · have hx : 0 < x := of_decide_eq_true hc
      walk_at "rd"
      refine i_rI (wide_div m0 m1 (by decide) (by decide)) ?_
      walk_at "rd"
      exact q _ _ (Int.fmod_nonneg_of_pos _ m0) (Int.fmod_lt_of_pos _ m0) (But.set _) ⟨_, _, _, upd_same, Int.ediv_nonneg x0 (by omega), y0, y1, z0, by omega⟩
    · walk_at "rd"
      have o0 : 0 ≤ ((y + 7919 * (z + 1) + 101) ^ Int.toNat 5).fmod 2147483647 := Int.fmod_nonneg_of_pos _ (by decide)
      have o1 : ((y + 7919 * (z + 1) + 101) ^ Int.toNat 5).fmod 2147483647 < 2147483647 := Int.fmod_lt_of_pos _ (by decide)
      have s2 := sq_bound z0 (by omega)
      refine i_rI ⟨by decide, by decide, ?_⟩ ?_
      · generalize ((y + 7919 * (z + 1) + 101) ^ Int.toNat 5).fmod 2147483647 = o at o0 o1 ⊢
        rw [Int.fdiv_eq_ediv_of_nonneg _ (by decide)]
        omega
      · walk_at "rd"
        exact q _ _ (Int.fmod_nonneg_of_pos _ m0) (Int.fmod_lt_of_pos _ m0) (But.set _) ⟨_, _, _, upd_same, x0, y0, y1, by omega, by omega⟩
end

section
variable {P : Program} {w : World} {K : PySem.W.Frag} {mg : Str → Option Value} {base : Heap}
def spBetween : Sp := fun vs H Q _ => ∃ (s lo hi : Str) (l h : Nat), vs = [.str s, .str lo, .str hi] ∧ tl lo = [l] ∧ tl hi = [h] ∧ Q (.bl (decide (∀ c ∈ tl s, l ≤ c ∧ c ≤ h))) H
theorem ok_all_between (T : Top K mg) : FnG P w K mg base CX0 1 T.a_all_between T.d_all_between ["text", "low", "high"] spBetween := by
  refine okG T.F_all_between sc_all_between (fun vs H Q E h => ?_) (fun cdv A outer s H vs Q E hr hgd h => ?_)
  · obtain ⟨s, lo, hi, l, h, rfl, _⟩ := h
    rfl
  · obtain ⟨s, lo, hi, l, h, rfl, hl, hh, q⟩ := h
    refine ⟨_, (pss_cons (ps_for PassesOwn.never rfl (pi_str (pv 0)) (pg_name (i := 3) sc_all_between.nd rfl (by first | exact Or.inl rfl | exact Or.inr rfl))
        (pss_one (ps_if (pt_not (pt_chain o_leT o_leT (pv 1) (pv 3) (pv 2)))
        (pss_one (ps_ret pe_bl))
        pss_nil)))
      (pss_one (ps_ret pe_bl))), ?_⟩
    walk_at "rd"
    refine ⟨.str s, rfl, s, rfl, for_text (fun i σ H' => H' = H ∧ (∃ v, σ = [some (.str s), some (.str lo), some (.str hi), v]) ∧ ∀ c ∈ (tl s).take i, l ≤ c ∧ c ≤ h) ⟨rfl, ⟨none, rfl⟩, by simp⟩ ?_ ?_⟩
    · rintro i c σ H' hc ⟨rfl, ⟨v, rfl⟩, hi'⟩
      have mem : c ∈ tl s := List.mem_of_getElem? hc
      have no : ¬ (l ≤ c ∧ c ≤ h) → Q (.bl false) H' := fun n => by rw [decide_eq_false (fun z => n (z c mem))] at q; exact q
      walk_at "rd"
      have e1 : (tl { cps := #[c] } < tl lo) ↔ c < l := by rw [hl]; exact one_lt c l
      have e2 : (tl hi < tl { cps := #[c] }) ↔ h < c := by rw [hh]; exact one_lt h c
      simp only [e1]
      refine ifs (fun h1 => ?_) (fun h1 => ?_)
      · walk_at "rd"
        simp only [e2]
        refine ifs (fun h2 => ?_) (fun h2 => ?_)
        · walk_at "rd"
          exact no (by simp at h1 h2; omega)
        · refine ⟨rfl, ⟨_, rfl⟩, take_all hi' hc ?_⟩
          simp at h1 h2; omega
      · walk_at "rd"
        exact no (by simp at h1; omega)
    · rintro σ H' ⟨rfl, ⟨v, rfl⟩, hi'⟩
      walk_at "rd"
      rw [List.take_length] at hi'
      rw [decide_eq_true hi'] at q
      exact q
end

section
variable {P : Program} {w : World} {K : PySem.W.Frag} {mg : Str → Option Value} {base : Heap}
def spWhole : Sp := fun vs H Q _ => ∃ v, vs = [v] ∧ Th H v ∧ Q (.bl (isW v)) H
theorem ok_is_whole (T : Top K mg) : FnG P w K mg base CX0 1 T.a_is_whole T.d_is_whole ["thing"] spWhole := by
  refine okG T.F_is_whole sc_is_whole (fun vs H Q E h => ?_) (fun cdv A outer s H vs Q E hr hgd h => ?_)
  · obtain ⟨v, rfl, _⟩ := h
    rfl
  · obtain ⟨v, rfl, th, q⟩ := h
    obtain ⟨n, ty, k1, k2, k3⟩ := th.ty (K := K)
    refine ⟨_, (pss_one (ps_ret (pe_and (pe_callB c_isi (by rfl) T.n_isinstance (by decide +kernel) (pa_cons (pv 0) (pa_cons (pe_bltn (v := .ty "int") (by rfl) T.n_int (by decide +kernel) rfl) pa_nil))) (pe_one (pe_not (pe_callB c_isi (by rfl) T.n_isinstance (by decide +kernel) (pa_cons (pv 0) (pa_cons (pe_bltn (v := .ty "bool") (by rfl) T.n_bool (by decide +kernel) rfl) pa_nil)))))))), ?_⟩
    walk_at "rd"
    refine i_isi ty k1 ?_
    walk_at "rd"
    refine ifs (fun h1 => ?_) (fun h1 => ?_)
    · walk_at "rd"
      refine i_isi ty k2 ?_
      walk_at "rd"
      have e : isW v = !decide (n = "bool") := by
        by_cases z : n = "bool"
        · obtain ⟨b, rfl⟩ := k3 z
          rw [decide_eq_true z]; rfl
        · rw [decide_eq_false z] at h1 ⊢
          simpa using h1
      rw [← e]
      exact q
    · have e : isW v = false := by simp at h1; exact h1.1
      rw [e] at q
      exact q
def spWithin : Sp := fun vs H Q _ => ∃ (v : V) (lo hi : Int), vs = [v, .int lo, .int hi] ∧ Th H v ∧ Q (.bl (inB lo hi v)) H
theorem ok_is_within (T : Top K mg) : FnG P w K mg base CX0 2 T.a_is_within T.d_is_within ["thing", "low", "high"] spWithin := by
  have G_is_whole := ok_is_whole (P := P) (w := w) (base := base) T
  refine okG T.F_is_within sc_is_within (fun vs H Q E h => ?_) (fun cdv A outer s H vs Q E hr hgd h => ?_)
  · obtain ⟨v, lo, hi, rfl, _⟩ := h
    rfl
  · obtain ⟨v, lo, hi, rfl, th, q⟩ := h
    refine ⟨_, (pss_one (ps_ret (pe_and (g_call G_is_whole (hr.mono (by decide)) hgd (by rfl) T.m_is_whole T.F_is_whole.kp T.b_is_whole .nil pass0 (pa_cons (pv 0) pa_nil)) (pe_one (pe_chain op_le op_le (pv 1) (pv 0) (pv 2)))))), ?_⟩
    walk_at "rd"
    refine ⟨v, rfl, th, ?_⟩
    walk_at "rd"
    refine ifs (fun h1 => ?_) (fun h1 => ?_)
    · obtain ⟨i, rfl⟩ : ∃ i, v = .int i := by cases v <;> first | exact ⟨_, rfl⟩ | cases h1
      have e : inB lo hi (.int i) = (decide (lo ≤ i) && decide (i ≤ hi)) := rfl
      rw [e] at q
      walk_at "rd"
      refine ifs (fun h2 => ?_) (fun h2 => ?_)
      · walk_at "rd"
        rw [h2] at q
        exact q
      · rw [h2] at q
        exact q
    · have e : inB lo hi v = false := by cases v <;> first | rfl | cases h1
      rw [e] at q
      exact q
def spName : Sp := fun vs H Q _ => ∃ v, vs = [v] ∧ Th H v ∧ Q (.bl (isN v)) H
theorem ok_is_name (T : Top K mg) : FnG P w K mg base CX0 2 T.a_is_name T.d_is_name ["thing"] spName := by
  have G_all_between := ok_all_between (P := P) (w := w) (base := base) T
  refine okG T.F_is_name sc_is_name (fun vs H Q E h => ?_) (fun cdv A outer s H vs Q E hr hgd h => ?_)
  · obtain ⟨v, rfl, _⟩ := h
    rfl
  · obtain ⟨v, rfl, th, q⟩ := h
    refine ⟨_, (pss_cons (ps_if (PW.pt (pw_or (pt_not (pt_val (pe_callB c_isi (by rfl) T.n_isinstance (by decide +kernel) (pa_cons (pv 0) (pa_cons (pe_bltn (v := .ty "str") (by rfl) T.n_str (by decide +kernel) rfl) pa_nil))))) (pw_or1 (pt_not (pt_chain op_le op_le pe_int (pe_callB c_lenS (by rfl) T.n_len (by decide +kernel) (pa_cons (pv 0) pa_nil)) (pe_glob (v := .int 8) (by rfl) T.c_NAME_MOST ⟨_, rfl⟩))))))
        (pss_one (ps_ret pe_bl))
        pss_nil)
      (pss_one (ps_ret (g_call G_all_between (hr.mono (by decide)) hgd (by rfl) T.m_all_between T.F_all_between.kp T.b_all_between .nil pass0 (pa_cons (pv 0) (pa_cons pe_str (pa_cons pe_str pa_nil))))))), ?_⟩
    rcases th with ⟨s, rfl, hs⟩ | ⟨n, hn⟩
    · have hz : s.length ≤ sizeLine := sz_of (by omega)
      have e : isN (.str s) = decide (1 ≤ s.length ∧ s.length ≤ 8 ∧ ∀ c ∈ tl s, 97 ≤ c ∧ c ≤ 122) := rfl
      rw [e] at q
      walk_at "rd"
      refine i_isi ty_str (b := true) (by decide +kernel) ?_
      walk_at "rd"
      refine i_lenS hz ?_
      walk_at "rd"
      refine ifs (fun h1 => ?_) (fun h1 => ?_)
      · walk_at "rd"
        refine ifs (fun h2 => ?_) (fun h2 => ?_)
        · walk_at "rd"
          rw [decide_eq_false (fun z => by simp at h1 h2; omega)] at q
          exact q
        · walk_at "rd"
          refine ⟨s, _, _, 97, 122, rfl, by decide +kernel, by decide +kernel, ?_⟩
          have e2 : decide (1 ≤ s.length ∧ s.length ≤ 8 ∧ ∀ c ∈ tl s, 97 ≤ c ∧ c ≤ 122) = decide (∀ c ∈ tl s, 97 ≤ c ∧ c ≤ 122) := by
            rw [decide_eq_decide]
            exact ⟨fun z => z.2.2, fun z => ⟨by simp at h1 h2; omega, by simp at h1 h2; omega, z⟩⟩
          rw [e2] at q
          exact q
      · walk_at "rd"
        rw [decide_eq_false (fun z => by simp at h1; omega)] at q
        exact q
    · rw [hn.isN] at q
      walk_at "rd"
      refine i_isi hn.tyx hn.noStr ?_
      walk_at "rd"
      exact q
end

section
variable {P : Program} {w : World} {K : PySem.W.Frag} {mg : Str → Option Value} {base : Heap}
theorem ok_NoName___init__ (T : Top K mg) : FnOk P w K mg base CX0 1 T.a_NoName___init__ T.d_NoName___init__ ["self", "found"] (spErr K "found") := by
  refine T.F_NoName___init__.ok sc_NoName___init__ (fun vs H Q E h => ?_) (fun cdv A outer s H vs Q E hr h => ?_)
  · obtain ⟨a, C, v, rfl, _⟩ := h
    rfl
  · obtain ⟨a, C, v, rfl, O, hno, ha, q⟩ := h
    refine ⟨_, (pss_cons (ps_expr (pe_kinit (by rfl) T.c_IceError T.sp_IceError T.ty_IceError T.rd_IceError T.fc_IceError (pa_cons (pv 0) (pa_cons pe_str pa_nil))))
      (pss_one (ps_ost (pv 0) (pv 1)))), ?_⟩
    walk_at "rd"
    refine ⟨a, C, _, rfl, by show 1 ≤ 1000; decide, O, ha, ?_⟩
    walk_at "rd"
    exact ⟨a, C, rfl, O, hno, .inl ⟨ha, q⟩⟩

theorem ok_NoNumber___init__ (T : Top K mg) : FnOk P w K mg base CX0 1 T.a_NoNumber___init__ T.d_NoNumber___init__ ["self", "found"] (spErr K "found") := by
  refine T.F_NoNumber___init__.ok sc_NoNumber___init__ (fun vs H Q E h => ?_) (fun cdv A outer s H vs Q E hr h => ?_)
  · obtain ⟨a, C, v, rfl, _⟩ := h
    rfl
  · obtain ⟨a, C, v, rfl, O, hno, ha, q⟩ := h
    refine ⟨_, (pss_cons (ps_expr (pe_kinit (by rfl) T.c_IceError T.sp_IceError T.ty_IceError T.rd_IceError T.fc_IceError (pa_cons (pv 0) (pa_cons pe_str pa_nil))))
      (pss_one (ps_ost (pv 0) (pv 1)))), ?_⟩
    walk_at "rd"
    refine ⟨a, C, _, rfl, by show 1 ≤ 1000; decide, O, ha, ?_⟩
    walk_at "rd"
    exact ⟨a, C, rfl, O, hno, .inl ⟨ha, q⟩⟩

theorem ok_Doubled___init__ (T : Top K mg) : FnOk P w K mg base CX0 1 T.a_Doubled___init__ T.d_Doubled___init__ ["self", "name"] (spErr K "name") := by
  refine T.F_Doubled___init__.ok sc_Doubled___init__ (fun vs H Q E h => ?_) (fun cdv A outer s H vs Q E hr h => ?_)
  · obtain ⟨a, C, v, rfl, _⟩ := h
    rfl
  · obtain ⟨a, C, v, rfl, O, hno, ha, q⟩ := h
    refine ⟨_, (pss_cons (ps_expr (pe_kinit (by rfl) T.c_IceError T.sp_IceError T.ty_IceError T.rd_IceError T.fc_IceError (pa_cons (pv 0) (pa_cons pe_str pa_nil))))
      (pss_one (ps_ost (pv 0) (pv 1)))), ?_⟩
    walk_at "rd"
    refine ⟨a, C, _, rfl, by show 1 ≤ 1000; decide, O, ha, ?_⟩
    walk_at "rd"
    exact ⟨a, C, rfl, O, hno, .inl ⟨ha, q⟩⟩

end
end Ice

set_option Elab.async false
set_option linter.all false
set_option maxRecDepth 100000
set_option maxHeartbeats 4000000
namespace Ice
open PySem PySem.Spec PyProof.Rows L2 TL
/-! side conditions, heaps, one step of a reading, and many -/
local macro_rules | `(tactic| walk_at "hp") => `(tactic| first | assumption | exact upd_same | exact New.at_ (by assumption) | (refine keepU ?_ (by assumption); walk_at "hp") | (refine New.app (by assumption) ?_; walk_at "hp") | (refine Same.app (by assumption) ?_; walk_at "hp") | (refine But.app (by assumption) (by assumption) ?_; walk_at "hp"))
local macro_rules | `(tactic| walk_at "sq") => `(tactic| first | assumption | exact SqL.lst (by walk_at "hp") | exact L2.Same.seq (New.same (by assumption)) (by assumption) | exact L2.Same.seq (by assumption) (by assumption))
local macro_rules | `(tactic| walk_at "len") => `(tactic| first | assumption | (simp only [List.length_cons, List.length_nil, List.length_append, List.length_map]; decide) | (refine Ice.sz_of ?_; simp only [List.length_cons, List.length_nil, List.length_append, List.length_map]; omega))
local macro_rules | `(tactic| walk_at "fresh") => `(tactic| (simp only [List.map_append, List.map_cons, List.map_nil, List.nil_append, List.cons_append]; decide +kernel))
local macro_rules | `(tactic| walk_at "sd") => `(tactic| first | assumption | (show _ ≠ _; omega) | exact Or.inl ⟨by omega, by omega⟩ | exact Or.inr ⟨by omega, by omega⟩ | exact ⟨by decide, by decide⟩ | exact ⟨by decide, by decide, by decide⟩ | exact ⟨by omega, by omega, by omega⟩)
/-! one step of a reading, and many -/
local macro_rules | `(tactic| walk_at "st") => `(tactic| first
  | with_reducible refine i_seq ?_
  | with_reducible refine i_if ?_
  | with_reducible refine i_next ?_
  | with_reducible refine i_ret ?_
  | with_reducible refine i_retN ?_
  | with_reducible refine i_drop ?_
  | with_reducible refine i_asg ?_
  | with_reducible refine i_gname ?_
  | with_reducible refine i_gsub ?_
  | ((with_reducible refine i_var (v := ?vv) ?hv ?_); (case hv => exact rfl))
  | with_reducible refine i_c ?_
  | with_reducible refine i_op ?_
  | with_reducible refine i_un ?_
  | with_reducible refine i_test ?_
  | with_reducible refine i_tB ?_
  | with_reducible refine i_and ?_
  | with_reducible refine i_or ?_
  | with_reducible refine i_not ?_
  | with_reducible refine i_andV ?_
  | with_reducible refine i_orV ?_
  | with_reducible refine i_notV ?_
  | with_reducible refine i_ifE ?_
  | with_reducible refine i_chain ?_
  | with_reducible refine i_bl ?_
  | with_reducible refine i_nil ?_
  | with_reducible refine i_cons ?_
  | with_reducible refine i_call ?_
  | with_reducible refine i_cb ?_
  | with_reducible refine i_rI0 ?_
  | with_reducible refine i_rU ?_
  | ((with_reducible refine i_rEq ?hs ?_); (case hs => exact rfl))
  | ((with_reducible refine i_rNe ?hs ?_); (case hs => exact rfl))
  | ((with_reducible refine i_rI ?hc ?_); (case hc => walk_at "sd"))
  | ((with_reducible refine i_ixL (xs := ?xs) (v := ?vv) ?hS ?he ?_); (case hS => walk_at "sq"); (case he => exact rfl))
  | ((with_reducible refine i_setL (xs := ?xs) (j := ?jj) ?hS ?he ?_); (case hS => walk_at "hp"); (case he => exact rfl))
  | with_reducible refine i_tup ?_
  | with_reducible refine i_lst ?_
  | with_reducible refine i_bm ?_
  | with_reducible refine i_bm0 ?_
  | with_reducible refine i_m1 ?_
  | with_reducible refine i_sl ?_
  | with_reducible refine i_nopart ?_
  | with_reducible refine i_part ?_
  | with_reducible refine i_int ?_
  | with_reducible refine i_str ?_
  | with_reducible refine i_for ?_
  | with_reducible refine i_yes ?_
  | ((with_reducible refine i_lenL (xs := ?xs) ?hS ?_); (case hS => walk_at "sq"))
  | ((with_reducible refine i_room ?hz ?_); (case hz => walk_at "len"))
  | with_reducible refine i_leT ?_
  | with_reducible refine i_notInS ?_
  | with_reducible refine i_inS ?_
  | with_reducible refine i_find ?_
  | with_reducible refine i_isB ?_
  | with_reducible refine i_max2 ?_
  | with_reducible refine i_min2 ?_
  | with_reducible exact trivial
  | with_reducible refine iteT ?_
  | with_reducible refine iteF ?_
  | with_reducible refine i_isstr ?_
  | with_reducible refine i_lc ?_
  | ((with_reducible refine i_cat (xs := ?xs) (zs := ?zs) ?ha ?hb ?hz ?_); (case ha => walk_at "hp"); (case hb => walk_at "hp"); (case hz => walk_at "len"))
  | ((with_reducible refine i_tyL (xs := ?xs) ?ha ?_); (case ha => walk_at "hp"))
  | with_reducible refine i_list ?_
  | with_reducible refine i_disp ?_
  | with_reducible refine i_pairs0 ?_
  | with_reducible refine i_pairs ?_
  | with_reducible refine i_newK ?_
  | with_reducible refine i_gcons ?_
  | with_reducible refine i_gnil ?_
  | with_reducible refine i_revL ?_
  | with_reducible refine i_rng1 ?_
  | ((with_reducible refine i_wipe ?hw ?_); (case hw => exact rfl))
  | with_reducible refine iteNT ?_
  | with_reducible refine iteNF ?_)
local macro_rules | `(tactic| walk_at "sx") => `(tactic| first
  | walk_at "st"
  | with_reducible refine i_kinit ?_
  | with_reducible refine i_ost ?_
  | with_reducible refine i_mkO ?_
  | with_reducible refine i_callE ?_
  | with_reducible refine i_makeE ?_
  | with_reducible refine i_xf ?_
  | with_reducible refine i_sfld ?_
  | with_reducible refine i_fld ?_
  | ((with_reducible refine i_ixT (xs := ?xs) (v := ?vv) ?hS ?he ?_); (case hS => exact SqT.tup (by walk_at "hp")); (case he => exact rfl))
  | with_reducible refine i_intB ?_
  | with_reducible refine i_runS ?_
  | with_reducible refine i_runN ?_
  | ((with_reducible refine i_xf1 (fs := ?ff) (v := ?vv) ?hx ?hl ?_); (case hx => walk_at "hp"); (case hl => exact rfl))
  | with_reducible refine i_methE ?_
  | with_reducible refine i_meth ?_
  | with_reducible refine i_make ?_
  | ((with_reducible refine i_obj (dx := ?dd) (fs := ?ff) ?hx ?hl ?_); (case hx => walk_at "hp"); (case hl => exact rfl))
  | ((with_reducible refine i_fld1 (C := ?CC) (dx := ?dd) (fs := ?ff) (v := ?vv) ?hx ?cl ?na ?hl ?_); (case hx => walk_at "hp"); (case cl => assumption); (case na => assumption); (case hl => exact rfl)))
local macro_rules | `(tactic| walk_at "rd") => `(tactic| repeat (walk_at "sx"))

section
variable {P : Program} {w : World} {K : PySem.W.Frag} {mg : Str → Option Value} {base : Heap}
def bad (v : V) : Bool := !isN v
def spNames (K : PySem.W.Frag) (C : Addr) : Sp := fun vs H Q E => ∃ (p : Addr) (xs : List V), vs = [.ref p] ∧ H p = some (.lst xs) ∧ (∀ v ∈ xs, Th H v) ∧
  ((xs.find? bad = none → Q .non H) ∧ ∀ v, xs.find? bad = some v → ∀ d, H d = none → E (.ref C) (some d) (upd H d (.xd [(Str.ofString "found", v)])))
theorem find_take {xs : List V} {i : Nat} {v : V} (h : (xs.take i).find? bad = none) (hi : xs[i]? = some v) : (bad v = true → xs.find? bad = some v) ∧ (bad v = false → (xs.take (i + 1)).find? bad = none) := by
  have e : xs.take (i + 1) = xs.take i ++ [v] := by rw [List.take_add_one, hi]; rfl
  refine ⟨fun z => ?_, fun z => ?_⟩
  · have e2 : xs = xs.take i ++ v :: xs.drop (i + 1) := by
      have hl := (List.getElem?_eq_some_iff.mp hi)
      rw [← hl.2, ← List.drop_eq_getElem_cons hl.1, List.take_append_drop]
    rw [e2, List.find?_append, h, List.find?_cons, z]; rfl
  · rw [e, List.find?_append, h, List.find?_cons, z]; rfl
theorem ok_check_names (T : Top K mg) : FnG P w K mg base (L2.CX P w) 3 T.a_check_names T.d_check_names ["things"] (spNames K T.a_NoName) := by
  have G_is_name := ok_is_name (P := P) (w := w) (base := base) T
  have G_NoName___init__ := ok_NoName___init__ (P := P) (w := w) (base := base) T
  refine okGX T.F_check_names sc_check_names (fun vs H Q E h => ?_) (fun cdv A outer s H vs Q E hr hgd h => ?_)
  · obtain ⟨p, xs, rfl, _⟩ := h
    rfl
  · obtain ⟨p, xs, rfl, hp, th, q0, q1⟩ := h
    have G_NoName___init__ := ok_NoName___init__ (P := P) (w := w) (base := base) T
    refine ⟨_, (pss_one (ps_for (passes_of rfl) rfl (pi_list (pv 0)) (pg_name (i := 1) sc_check_names.nd rfl (by first | exact Or.inl rfl | exact Or.inr rfl))
        (pss_one (ps_if (pt_not (pt_val (g_call G_is_name (hr.mono (by decide)) hgd (by rfl) T.m_is_name T.F_is_name.kp T.b_is_name .nil pass0 (pa_cons (pv 1) pa_nil))))
        (pss_one (ps_raise rfl (takes_of rfl rfl rfl rfl) (pmk_oex T.ox_NoName T.in_NoName T.tf_NoName G_NoName___init__ (hr.mono (by decide)) T.b_NoName___init__ .nil pass0 (by rfl) T.c_NoName (pa_cons (pv 1) pa_nil))))
        pss_nil)))), ?_⟩
    walk_at "rd"
    refine ⟨p, rfl, ⟨_, SqL.lst hp⟩, ?_⟩
    refine for_list (K := K) (a := p) (xs := xs) (fun i σ H' => H' = H ∧ (∃ v, σ = [some (.ref p), v]) ∧ (xs.take i).find? bad = none) ⟨rfl, ⟨none, rfl⟩, rfl⟩ (fun i σ H' _ h => by rw [h.1]; exact SqL.lst hp) ?_ ?_
    · rintro i v σ H' hi ⟨rfl, ⟨_, rfl⟩, hf⟩
      obtain ⟨f1, f2⟩ := find_take hf hi
      walk_at "rd"
      refine ⟨v, rfl, th v (List.mem_of_getElem? hi), ?_⟩
      walk_at "rd"
      refine ifs (fun h1 => ?_) (fun h1 => ?_)
      · walk_at "rd"
        exact i_mkE T.ox_NoName T.nf_NoName_found (q1 v (f1 h1))
      · exact ⟨rfl, ⟨_, rfl⟩, f2 (by simpa [bad] using h1)⟩
    · rintro σ H' ⟨rfl, ⟨_, rfl⟩, hf⟩
      walk_at "rd"
      rw [List.take_length] at hf
      exact q0 hf
def spNumber (K : PySem.W.Frag) (C : Addr) : Sp := fun vs H Q E => ∃ (v : V) (lo hi : Int), vs = [v, .int lo, .int hi] ∧ Th H v ∧
  ((inB lo hi v = true → Q .non H) ∧ (inB lo hi v = false → ∀ d, H d = none → E (.ref C) (some d) (upd H d (.xd [(Str.ofString "found", v)]))))
theorem ok_check_number (T : Top K mg) : FnG P w K mg base (L2.CX P w) 3 T.a_check_number T.d_check_number ["thing", "low", "high"] (spNumber K T.a_NoNumber) := by
  have G_is_within := ok_is_within (P := P) (w := w) (base := base) T
  have G_NoNumber___init__ := ok_NoNumber___init__ (P := P) (w := w) (base := base) T
  refine okGX T.F_check_number sc_check_number (fun vs H Q E h => ?_) (fun cdv A outer s H vs Q E hr hgd h => ?_)
  · obtain ⟨v, lo, hi, rfl, _⟩ := h
    rfl
  · obtain ⟨v, lo, hi, rfl, th, q0, q1⟩ := h
    have G_NoNumber___init__ := ok_NoNumber___init__ (P := P) (w := w) (base := base) T
    refine ⟨_, (pss_one (ps_if (pt_not (pt_val (g_call G_is_within (hr.mono (by decide)) hgd (by rfl) T.m_is_within T.F_is_within.kp T.b_is_within .nil pass0 (pa_cons (pv 0) (pa_cons (pv 1) (pa_cons (pv 2) pa_nil))))))
        (pss_one (ps_raise rfl (takes_of rfl rfl rfl rfl) (pmk_oex T.ox_NoNumber T.in_NoNumber T.tf_NoNumber G_NoNumber___init__ (hr.mono (by decide)) T.b_NoNumber___init__ .nil pass0 (by rfl) T.c_NoNumber (pa_cons (pv 0) pa_nil))))
        pss_nil)), ?_⟩
    walk_at "rd"
    refine ⟨v, lo, hi, rfl, th, ?_⟩
    walk_at "rd"
    refine ifs (fun h1 => ?_) (fun h1 => ?_)
    · walk_at "rd"
      exact i_mkE T.ox_NoNumber T.nf_NoNumber_found (q1 (by simpa using h1))
    · exact q0 (by simpa using h1)
end

end Ice

set_option Elab.async false
set_option linter.all false
set_option maxRecDepth 100000
set_option maxHeartbeats 4000000
namespace Ice
open PySem PySem.Spec PyProof.Rows L2 TL
/-! side conditions, heaps, one step of a reading, and many -/
local macro_rules | `(tactic| walk_at "hp") => `(tactic| first | assumption | exact upd_same | exact New.at_ (by assumption) | (refine keepU ?_ (by assumption); walk_at "hp") | (refine New.app (by assumption) ?_; walk_at "hp") | (refine Same.app (by assumption) ?_; walk_at "hp") | (refine But.app (by assumption) (by assumption) ?_; walk_at "hp"))
local macro_rules | `(tactic| walk_at "sq") => `(tactic| first | assumption | exact SqL.lst (by walk_at "hp") | exact L2.Same.seq (New.same (by assumption)) (by assumption) | exact L2.Same.seq (by assumption) (by assumption))
local macro_rules | `(tactic| walk_at "len") => `(tactic| first | assumption | (simp only [List.length_cons, List.length_nil, List.length_append, List.length_map]; decide) | (refine Ice.sz_of ?_; simp only [List.length_cons, List.length_nil, List.length_append, List.length_map]; omega))
local macro_rules | `(tactic| walk_at "fresh") => `(tactic| (simp only [List.map_append, List.map_cons, List.map_nil, List.nil_append, List.cons_append]; decide +kernel))
local macro_rules | `(tactic| walk_at "sd") => `(tactic| first | assumption | (show _ ≠ _; omega) | exact Or.inl ⟨by omega, by omega⟩ | exact Or.inr ⟨by omega, by omega⟩ | exact ⟨by decide, by decide⟩ | exact ⟨by decide, by decide, by decide⟩ | exact ⟨by omega, by omega, by omega⟩)
/-! one step of a reading, and many -/
local macro_rules | `(tactic| walk_at "st") => `(tactic| first
  | with_reducible refine i_seq ?_
  | with_reducible refine i_if ?_
  | with_reducible refine i_next ?_
  | with_reducible refine i_ret ?_
  | with_reducible refine i_retN ?_
  | with_reducible refine i_drop ?_
  | with_reducible refine i_asg ?_
  | with_reducible refine i_gname ?_
  | with_reducible refine i_gsub ?_
  | ((with_reducible refine i_var (v := ?vv) ?hv ?_); (case hv => exact rfl))
  | with_reducible refine i_c ?_
  | with_reducible refine i_op ?_
  | with_reducible refine i_un ?_
  | with_reducible refine i_test ?_
  | with_reducible refine i_tB ?_
  | with_reducible refine i_and ?_
  | with_reducible refine i_or ?_
  | with_reducible refine i_not ?_
  | with_reducible refine i_andV ?_
  | with_reducible refine i_orV ?_
  | with_reducible refine i_notV ?_
  | with_reducible refine i_ifE ?_
  | with_reducible refine i_chain ?_
  | with_reducible refine i_bl ?_
  | with_reducible refine i_nil ?_
  | with_reducible refine i_cons ?_
  | with_reducible refine i_call ?_
  | with_reducible refine i_cb ?_
  | with_reducible refine i_rI0 ?_
  | with_reducible refine i_rU ?_
  | ((with_reducible refine i_rEq ?hs ?_); (case hs => exact rfl))
  | ((with_reducible refine i_rNe ?hs ?_); (case hs => exact rfl))
  | ((with_reducible refine i_rI ?hc ?_); (case hc => walk_at "sd"))
  | ((with_reducible refine i_ixL (xs := ?xs) (v := ?vv) ?hS ?he ?_); (case hS => walk_at "sq"); (case he => exact rfl))
  | ((with_reducible refine i_setL (xs := ?xs) (j := ?jj) ?hS ?he ?_); (case hS => walk_at "hp"); (case he => exact rfl))
  | with_reducible refine i_tup ?_
  | with_reducible refine i_lst ?_
  | with_reducible refine i_bm ?_
  | with_reducible refine i_bm0 ?_
  | with_reducible refine i_m1 ?_
  | with_reducible refine i_sl ?_
  | with_reducible refine i_nopart ?_
  | with_reducible refine i_part ?_
  | with_reducible refine i_int ?_
  | with_reducible refine i_str ?_
  | with_reducible refine i_for ?_
  | with_reducible refine i_yes ?_
  | ((with_reducible refine i_lenL (xs := ?xs) ?hS ?_); (case hS => walk_at "sq"))
  | ((with_reducible refine i_room ?hz ?_); (case hz => walk_at "len"))
  | with_reducible refine i_leT ?_
  | with_reducible refine i_notInS ?_
  | with_reducible refine i_inS ?_
  | with_reducible refine i_find ?_
  | with_reducible refine i_isB ?_
  | with_reducible refine i_max2 ?_
  | with_reducible refine i_min2 ?_
  | with_reducible exact trivial
  | with_reducible refine iteT ?_
  | with_reducible refine iteF ?_
  | with_reducible refine i_isstr ?_
  | with_reducible refine i_lc ?_
  | ((with_reducible refine i_cat (xs := ?xs) (zs := ?zs) ?ha ?hb ?hz ?_); (case ha => walk_at "hp"); (case hb => walk_at "hp"); (case hz => walk_at "len"))
  | ((with_reducible refine i_tyL (xs := ?xs) ?ha ?_); (case ha => walk_at "hp"))
  | with_reducible refine i_list ?_
  | with_reducible refine i_disp ?_
  | with_reducible refine i_pairs0 ?_
  | with_reducible refine i_pairs ?_
  | with_reducible refine i_newK ?_
  | with_reducible refine i_gcons ?_
  | with_reducible refine i_gnil ?_
  | with_reducible refine i_revL ?_
  | with_reducible refine i_rng1 ?_
  | ((with_reducible refine i_wipe ?hw ?_); (case hw => exact rfl))
  | with_reducible refine iteNT ?_
  | with_reducible refine iteNF ?_)
local macro_rules | `(tactic| walk_at "sx") => `(tactic| first
  | walk_at "st"
  | with_reducible refine i_kinit ?_
  | with_reducible refine i_ost ?_
  | with_reducible refine i_mkO ?_
  | with_reducible refine i_callE ?_
  | with_reducible refine i_makeE ?_
  | with_reducible refine i_xf ?_
  | with_reducible refine i_sfld ?_
  | with_reducible refine i_fld ?_
  | ((with_reducible refine i_ixT (xs := ?xs) (v := ?vv) ?hS ?he ?_); (case hS => exact SqT.tup (by walk_at "hp")); (case he => exact rfl))
  | with_reducible refine i_intB ?_
  | with_reducible refine i_runS ?_
  | with_reducible refine i_runN ?_
  | ((with_reducible refine i_xf1 (fs := ?ff) (v := ?vv) ?hx ?hl ?_); (case hx => walk_at "hp"); (case hl => exact rfl))
  | with_reducible refine i_methE ?_
  | with_reducible refine i_meth ?_
  | with_reducible refine i_make ?_
  | ((with_reducible refine i_obj (dx := ?dd) (fs := ?ff) ?hx ?hl ?_); (case hx => walk_at "hp"); (case hl => exact rfl))
  | ((with_reducible refine i_fld1 (C := ?CC) (dx := ?dd) (fs := ?ff) (v := ?vv) ?hx ?cl ?na ?hl ?_); (case hx => walk_at "hp"); (case cl => assumption); (case na => assumption); (case hl => exact rfl)))
local macro_rules | `(tactic| walk_at "rd") => `(tactic| repeat (walk_at "sx"))

/-- what comes of eight things: a channel, or what is refused -/
inductive Res
  | made | name (v : V) | doubled (v : V) | number (v : V)
def inV6 (f m : V) : Bool := match f with
  | .int lo => inB lo 1000000 m
  | _ => false
def resC (n o t h d f g m : V) : Res :=
  match [n, o, t].find? bad with
  | some v => .name v
  | none => if o = t then .doubled o else if inB 1 1000 h = false then .number h else if inB 0 1000 d = false then .number d
    else if inB 0 1000000 f = false then .number f else if inB 0 1000 g = false then .number g else if inV6 f m = false then .number m else .made
section
variable {P : Program} {w : World} {K : PySem.W.Frag} {mg : Str → Option Value} {base : Heap}
def fldC (n o t h d f g m : V) : List (Str × V) := [(Str.ofString "name", n), (Str.ofString "one", o), (Str.ofString "other", t), (Str.ofString "hours", h), (Str.ofString "depth", d), (Str.ofString "first", f), (Str.ofString "growth", g), (Str.ofString "most", m)]
/-- what is wanted of each outcome -/
def Wants (r : Res) (cN cD cR : Addr) (E : XK) (H : Hp) (made : Prop) : Prop := match r with
  | .made => made
  | .name v => ∀ d H', Same H H' → H' d = some (.xd [(Str.ofString "found", v)]) → E (.ref cN) (some d) H'
  | .doubled v => ∀ d H', Same H H' → H' d = some (.xd [(Str.ofString "name", v)]) → E (.ref cD) (some d) H'
  | .number v => ∀ d H', Same H H' → H' d = some (.xd [(Str.ofString "found", v)]) → E (.ref cR) (some d) H'
def spInitC (C cN cD cR : Addr) : Sp := fun vs H Q E => ∃ (x dx : Addr) (n o t h d f g m : V), vs = [.ref x, n, o, t, h, d, f, g, m] ∧ H x = some (.ins C dx []) ∧ (∀ v ∈ [n, o, t, h, d, f, g, m], Th H v) ∧
  Wants (resC n o t h d f g m) cN cD cR E H (∀ H', But x H H' → H' x = some (.ins C dx (fldC n o t h d f g m)) → Q .non H')
theorem name_of {H : Hp} {v : V} (h : bad v = false) : ∃ s, v = .str s := by
  cases v <;> first | exact ⟨_, rfl⟩ | cases h
theorem ok_Channel___init__ (T : Top K mg) : FnG P w K mg base (L2.CX P w) 4 T.a_Channel___init__ T.d_Channel___init__ ["self", "name", "one", "other", "hours", "depth", "first", "growth", "most"] (spInitC T.a_Channel T.a_NoName T.a_Doubled T.a_NoNumber) := by
  have G_check_names := ok_check_names (P := P) (w := w) (base := base) T
  have G_check_number := ok_check_number (P := P) (w := w) (base := base) T
  have G_Doubled___init__ := ok_Doubled___init__ (P := P) (w := w) (base := base) T
  refine okGX T.F_Channel___init__ sc_Channel___init__ (fun vs H Q E h => ?_) (fun cdv A outer s H vs Q E hr hgd h => ?_)
  · obtain ⟨x, dx, n, o, t, h, d, f, g, m, rfl, _⟩ := h
    rfl
  · obtain ⟨x, dx, n, o, t, h, d, f, g, m, rfl, hx, th, q⟩ := h
    have G_Doubled___init__ := ok_Doubled___init__ (P := P) (w := w) (base := base) T
    have thn := th n (by simp); have tho := th o (by simp); have tht := th t (by simp); have thh := th h (by simp)
    have thd := th d (by simp); have thf := th f (by simp); have thg := th g (by simp); have thm := th m (by simp)
    refine ⟨_, (pss_cons (ps_expr (g_callE (E := WE _) G_check_names (hr.mono (by decide)) hgd (by rfl) T.m_check_names T.F_check_names.kp T.b_check_names .nil (passAt (takes_of rfl rfl rfl rfl)) (pa_cons (pe_lst (pa_cons (pv 1) (pa_cons (pv 2) (pa_cons (pv 3) pa_nil)))) pa_nil)))
      (pss_cons (ps_if (pt_cmpR op_eq (pv 2) (pv 3) (nomark _))
        (pss_one (ps_raise rfl (takes_of rfl rfl rfl rfl) (pmk_oex T.ox_Doubled T.in_Doubled T.tf_Doubled G_Doubled___init__ (hr.mono (by decide)) T.b_Doubled___init__ .nil pass0 (by rfl) T.c_Doubled (pa_cons (pv 2) pa_nil))))
        pss_nil)
      (pss_cons (ps_expr (g_callE (E := WE _) G_check_number (hr.mono (by decide)) hgd (by rfl) T.m_check_number T.F_check_number.kp T.b_check_number .nil (passAt (takes_of rfl rfl rfl rfl)) (pa_cons (pv 4) (pa_cons pe_int (pa_cons (pe_glob (v := .int 1000) (by rfl) T.c_HOURS_MOST ⟨_, rfl⟩) pa_nil)))))
      (pss_cons (ps_expr (g_callE (E := WE _) G_check_number (hr.mono (by decide)) hgd (by rfl) T.m_check_number T.F_check_number.kp T.b_check_number .nil (passAt (takes_of rfl rfl rfl rfl)) (pa_cons (pv 5) (pa_cons pe_int (pa_cons (pe_glob (v := .int 1000) (by rfl) T.c_DEPTH_MOST ⟨_, rfl⟩) pa_nil)))))
      (pss_cons (ps_expr (g_callE (E := WE _) G_check_number (hr.mono (by decide)) hgd (by rfl) T.m_check_number T.F_check_number.kp T.b_check_number .nil (passAt (takes_of rfl rfl rfl rfl)) (pa_cons (pv 6) (pa_cons pe_int (pa_cons (pe_glob (v := .int 1000000) (by rfl) T.c_THICK_MOST ⟨_, rfl⟩) pa_nil)))))
      (pss_cons (ps_expr (g_callE (E := WE _) G_check_number (hr.mono (by decide)) hgd (by rfl) T.m_check_number T.F_check_number.kp T.b_check_number .nil (passAt (takes_of rfl rfl rfl rfl)) (pa_cons (pv 7) (pa_cons pe_int (pa_cons (pe_glob (v := .int 1000) (by rfl) T.c_GROWTH_MOST ⟨_, rfl⟩) pa_nil)))))
      (pss_cons (ps_expr (g_callE (E := WE _) G_check_number (hr.mono (by decide)) hgd (by rfl) T.m_check_number T.F_check_number.kp T.b_check_number .nil (passAt (takes_of rfl rfl rfl rfl)) (pa_cons (pv 8) (pa_cons (pv 6) (pa_cons (pe_glob (v := .int 1000000) (by rfl) T.c_THICK_MOST ⟨_, rfl⟩) pa_nil)))))
      (pss_cons (ps_fld (pv 0) (pv 1) rfl)
      (pss_cons (ps_fld (pv 0) (pv 2) rfl)
      (pss_cons (ps_fld (pv 0) (pv 3) rfl)
      (pss_cons (ps_fld (pv 0) (pv 4) rfl)
      (pss_cons (ps_fld (pv 0) (pv 5) rfl)
      (pss_cons (ps_fld (pv 0) (pv 6) rfl)
      (pss_cons (ps_fld (pv 0) (pv 7) rfl)
      (pss_one (ps_fld (pv 0) (pv 8) rfl)))))))))))))))), ?_⟩
    walk_at "rd"
    (intro p hp; generalize ep : upd _ p _ = J; have N := New.of ep hp; clear ep hp)
    walk_at "rd"
    have xp : x ≠ p := ne_of_none hx N.free
    refine ⟨p, [n, o, t], rfl, N.at_, ?_, ?_, ?_⟩
    · intro v hv
      simp at hv
      rcases hv with rfl | rfl | rfl
      · exact thn.same N.same
      · exact tho.same N.same
      · exact tht.same N.same
    · intro nb
      obtain ⟨bo, bt⟩ : bad o = false ∧ bad t = false := by simp at nb; exact ⟨nb.2.1, nb.2.2⟩
      obtain ⟨so, rfl⟩ := name_of (H := H) bo
      obtain ⟨st, rfl⟩ := name_of (H := H) bt
      unfold resC at q
      rw [nb] at q
      walk_at "rd"
      refine ifs (fun h1 => ?_) (fun h1 => ?_)
      · walk_at "rd"
        dsimp only at q
        rw [if_pos (of_decide_eq_true h1)] at q
        exact i_mkE T.ox_Doubled T.nf_Doubled_name (fun d hd => q d _ (N.same.trans (Same.new _ hd)) upd_same)
      · walk_at "rd"
        dsimp only at q
        rw [if_neg (of_decide_eq_false h1)] at q
        refine ⟨h, 1, 1000, rfl, thh.same N.same, fun b1 => ?_, fun b1 d hd => ?_⟩
        · walk_at "rd"
          rw [if_neg (by rw [b1]; simp)] at q
          refine ⟨d, 0, 1000, rfl, thd.same N.same, fun b2 => ?_, fun b2 d hd => ?_⟩
          · walk_at "rd"
            rw [if_neg (by rw [b2]; simp)] at q
            refine ⟨f, 0, 1000000, rfl, thf.same N.same, fun b3 => ?_, fun b3 d hd => ?_⟩
            · walk_at "rd"
              rw [if_neg (by rw [b3]; simp)] at q
              refine ⟨g, 0, 1000, rfl, thg.same N.same, fun b4 => ?_, fun b4 d hd => ?_⟩
              · walk_at "rd"
                rw [if_neg (by rw [b4]; simp)] at q
                obtain ⟨lo, rfl⟩ : ∃ i, f = .int i := by cases f <;> first | exact ⟨_, rfl⟩ | cases b3
                refine ⟨m, lo, 1000000, rfl, thm.same N.same, fun b5 => ?_, fun b5 d hd => ?_⟩
                · rw [if_neg (by show ¬ inB lo 1000000 m = false; rw [b5]; simp)] at q
                  have hx0 : J x = some (.ins T.a_Channel dx []) := N.app hx
                  walk_at "rd"
                  refine i_store hx0 T.cl_Channel T.na_Channel_name (by decide) (by decide +kernel) ?_
                  walk_at "rd"
                  refine i_store upd_same T.cl_Channel T.na_Channel_one (by simp) (by walk_at "fresh") ?_
                  walk_at "rd"
                  refine i_store upd_same T.cl_Channel T.na_Channel_other (by simp) (by walk_at "fresh") ?_
                  walk_at "rd"
                  refine i_store upd_same T.cl_Channel T.na_Channel_hours (by simp) (by walk_at "fresh") ?_
                  walk_at "rd"
                  refine i_store upd_same T.cl_Channel T.na_Channel_depth (by simp) (by walk_at "fresh") ?_
                  walk_at "rd"
                  refine i_store upd_same T.cl_Channel T.na_Channel_first (by simp) (by walk_at "fresh") ?_
                  walk_at "rd"
                  refine i_store upd_same T.cl_Channel T.na_Channel_growth (by simp) (by walk_at "fresh") ?_
                  walk_at "rd"
                  refine i_store upd_same T.cl_Channel T.na_Channel_most (by simp) (by walk_at "fresh") ?_
                  refine q _ ?_ upd_same
                  intro b u nb hb
                  repeat rw [upd_ne nb]
                  exact N.app hb
                · rw [if_pos (show inV6 (.int lo) m = false from b5)] at q
                  exact q d _ (N.same.trans (Same.new _ hd)) upd_same
              · rw [if_pos b4] at q
                exact q d _ (N.same.trans (Same.new _ hd)) upd_same
            · rw [if_pos b3] at q
              exact q d _ (N.same.trans (Same.new _ hd)) upd_same
          · rw [if_pos b2] at q
            exact q d _ (N.same.trans (Same.new _ hd)) upd_same
        · rw [if_pos b1] at q
          exact q d _ (N.same.trans (Same.new _ hd)) upd_same
    · intro v hv d hd
      unfold resC at q
      rw [hv] at q
      exact q d _ (N.same.trans (Same.new _ hd)) upd_same
end

end Ice

set_option Elab.async false
set_option linter.all false
set_option maxRecDepth 100000
set_option maxHeartbeats 4000000
namespace Ice
open PySem PySem.Spec PyProof.Rows L2 TL
/-! side conditions, heaps, one step of a reading, and many -/
local macro_rules | `(tactic| walk_at "hp") => `(tactic| first | assumption | exact upd_same | exact New.at_ (by assumption) | (refine keepU ?_ (by assumption); walk_at "hp") | (refine New.app (by assumption) ?_; walk_at "hp") | (refine Same.app (by assumption) ?_; walk_at "hp") | (refine But.app (by assumption) (by assumption) ?_; walk_at "hp"))
local macro_rules | `(tactic| walk_at "sq") => `(tactic| first | assumption | exact SqL.lst (by walk_at "hp") | exact L2.Same.seq (New.same (by assumption)) (by assumption) | exact L2.Same.seq (by assumption) (by assumption))
local macro_rules | `(tactic| walk_at "len") => `(tactic| first | assumption | (simp only [List.length_cons, List.length_nil, List.length_append, List.length_map]; decide) | (refine Ice.sz_of ?_; simp only [List.length_cons, List.length_nil, List.length_append, List.length_map]; omega))
local macro_rules | `(tactic| walk_at "fresh") => `(tactic| (simp only [List.map_append, List.map_cons, List.map_nil, List.nil_append, List.cons_append]; decide +kernel))
local macro_rules | `(tactic| walk_at "sd") => `(tactic| first | assumption | (show _ ≠ _; omega) | exact Or.inl ⟨by omega, by omega⟩ | exact Or.inr ⟨by omega, by omega⟩ | exact ⟨by decide, by decide⟩ | exact ⟨by decide, by decide, by decide⟩ | exact ⟨by omega, by omega, by omega⟩)
/-! one step of a reading, and many -/
local macro_rules | `(tactic| walk_at "st") => `(tactic| first
  | with_reducible refine i_seq ?_
  | with_reducible refine i_if ?_
  | with_reducible refine i_next ?_
  | with_reducible refine i_ret ?_
  | with_reducible refine i_retN ?_
  | with_reducible refine i_drop ?_
  | with_reducible refine i_asg ?_
  | with_reducible refine i_gname ?_
  | with_reducible refine i_gsub ?_
  | ((with_reducible refine i_var (v := ?vv) ?hv ?_); (case hv => exact rfl))
  | with_reducible refine i_c ?_
  | with_reducible refine i_op ?_
  | with_reducible refine i_un ?_
  | with_reducible refine i_test ?_
  | with_reducible refine i_tB ?_
  | with_reducible refine i_and ?_
  | with_reducible refine i_or ?_
  | with_reducible refine i_not ?_
  | with_reducible refine i_andV ?_
  | with_reducible refine i_orV ?_
  | with_reducible refine i_notV ?_
  | with_reducible refine i_ifE ?_
  | with_reducible refine i_chain ?_
  | with_reducible refine i_bl ?_
  | with_reducible refine i_nil ?_
  | with_reducible refine i_cons ?_
  | with_reducible refine i_call ?_
  | with_reducible refine i_cb ?_
  | with_reducible refine i_rI0 ?_
  | with_reducible refine i_rU ?_
  | ((with_reducible refine i_rEq ?hs ?_); (case hs => exact rfl))
  | ((with_reducible refine i_rNe ?hs ?_); (case hs => exact rfl))
  | ((with_reducible refine i_rI ?hc ?_); (case hc => walk_at "sd"))
  | ((with_reducible refine i_ixL (xs := ?xs) (v := ?vv) ?hS ?he ?_); (case hS => walk_at "sq"); (case he => exact rfl))
  | ((with_reducible refine i_setL (xs := ?xs) (j := ?jj) ?hS ?he ?_); (case hS => walk_at "hp"); (case he => exact rfl))
  | with_reducible refine i_tup ?_
  | with_reducible refine i_lst ?_
  | with_reducible refine i_bm ?_
  | with_reducible refine i_bm0 ?_
  | with_reducible refine i_m1 ?_
  | with_reducible refine i_sl ?_
  | with_reducible refine i_nopart ?_
  | with_reducible refine i_part ?_
  | with_reducible refine i_int ?_
  | with_reducible refine i_str ?_
  | with_reducible refine i_for ?_
  | with_reducible refine i_yes ?_
  | ((with_reducible refine i_lenL (xs := ?xs) ?hS ?_); (case hS => walk_at "sq"))
  | ((with_reducible refine i_room ?hz ?_); (case hz => walk_at "len"))
  | with_reducible refine i_leT ?_
  | with_reducible refine i_notInS ?_
  | with_reducible refine i_inS ?_
  | with_reducible refine i_find ?_
  | with_reducible refine i_isB ?_
  | with_reducible refine i_max2 ?_
  | with_reducible refine i_min2 ?_
  | with_reducible exact trivial
  | with_reducible refine iteT ?_
  | with_reducible refine iteF ?_
  | with_reducible refine i_isstr ?_
  | with_reducible refine i_lc ?_
  | ((with_reducible refine i_cat (xs := ?xs) (zs := ?zs) ?ha ?hb ?hz ?_); (case ha => walk_at "hp"); (case hb => walk_at "hp"); (case hz => walk_at "len"))
  | ((with_reducible refine i_tyL (xs := ?xs) ?ha ?_); (case ha => walk_at "hp"))
  | with_reducible refine i_list ?_
  | with_reducible refine i_disp ?_
  | with_reducible refine i_pairs0 ?_
  | with_reducible refine i_pairs ?_
  | with_reducible refine i_newK ?_
  | with_reducible refine i_gcons ?_
  | with_reducible refine i_gnil ?_
  | with_reducible refine i_revL ?_
  | with_reducible refine i_rng1 ?_
  | ((with_reducible refine i_wipe ?hw ?_); (case hw => exact rfl))
  | with_reducible refine iteNT ?_
  | with_reducible refine iteNF ?_)
local macro_rules | `(tactic| walk_at "sx") => `(tactic| first
  | walk_at "st"
  | with_reducible refine i_kinit ?_
  | with_reducible refine i_ost ?_
  | with_reducible refine i_mkO ?_
  | with_reducible refine i_callE ?_
  | with_reducible refine i_makeE ?_
  | with_reducible refine i_xf ?_
  | with_reducible refine i_sfld ?_
  | with_reducible refine i_fld ?_
  | ((with_reducible refine i_ixT (xs := ?xs) (v := ?vv) ?hS ?he ?_); (case hS => exact SqT.tup (by walk_at "hp")); (case he => exact rfl))
  | with_reducible refine i_intB ?_
  | with_reducible refine i_runS ?_
  | with_reducible refine i_runN ?_
  | ((with_reducible refine i_xf1 (fs := ?ff) (v := ?vv) ?hx ?hl ?_); (case hx => walk_at "hp"); (case hl => exact rfl))
  | with_reducible refine i_methE ?_
  | with_reducible refine i_meth ?_
  | with_reducible refine i_make ?_
  | ((with_reducible refine i_obj (dx := ?dd) (fs := ?ff) ?hx ?hl ?_); (case hx => walk_at "hp"); (case hl => exact rfl))
  | ((with_reducible refine i_fld1 (C := ?CC) (dx := ?dd) (fs := ?ff) (v := ?vv) ?hx ?cl ?na ?hl ?_); (case hx => walk_at "hp"); (case cl => assumption); (case na => assumption); (case hl => exact rfl)))
local macro_rules | `(tactic| walk_at "rd") => `(tactic| repeat (walk_at "sx"))

section
variable {P : Program} {w : World} {K : PySem.W.Frag} {mg : Str → Option Value} {base : Heap}
/-- a drawn number -/
def spDraw : Sp := fun vs H Q _ => ∃ (b : Addr) (lo hi : Int) (n : Nat), vs = [.ref b, .int lo, .int hi] ∧ Box H b n ∧ n ≤ 800 ∧ 0 ≤ lo ∧ lo ≤ hi ∧ hi ≤ 10 ^ 20 ∧ ∀ (d : Int) (H' : Hp), lo ≤ d → d ≤ hi → But b H H' → Box H' b (n + 2) → Q (.int d) H'
theorem ok_number (T : Top K mg) : FnG P w K mg base CX0 2 T.a_number T.d_number ["_law_box_here", "_law_low", "_law_high"] spDraw := by
  have G_take := ok_take (P := P) (w := w) (base := base) T
  refine okG T.F_number sc_number (fun vs H Q E h => ?_) (fun cdv A outer s H vs Q E hr hgd h => ?_)
  · obtain ⟨b, lo, hi, n, rfl, _⟩ := h
    rfl
  · obtain ⟨b, lo, hi, n, rfl, hB, hn, h0, h1, h2, q⟩ := h
    refine ⟨_, (pss_cons (ps_set (i := 3) sc_number.nd rfl (by first | exact Or.inl rfl | exact Or.inr rfl) (g_call G_take (hr.mono (by decide)) hgd (by rfl) T.m_take T.F_take.kp T.b_take .nil pass0 (pa_cons (pv 0) (pa_cons pe_int pa_nil))))
      (pss_cons (ps_if (pt_cmpR op_lt (pv 3) pe_int (nomark _))
        (pss_one (ps_ret (pe_ix ix_list (pe_lst (pa_cons (pv 1) (pa_cons (pv 2) pa_nil))) (pv 3) (fun _ _ => rfl))))
        pss_nil)
      (pss_one (ps_ret (pe_op op_add (pv 1) (g_call G_take (hr.mono (by decide)) hgd (by rfl) T.m_take T.F_take.kp T.b_take .nil pass0 (pa_cons (pv 0) (pa_cons (pe_ix ix_list (pe_lst (pa_cons (pe_callB (c_min2) (by rfl) T.n_min (by decide +kernel) (pa_cons pe_int (pa_cons (pe_op op_add (pe_op op_sub (pv 2) (pv 1)) pe_int) pa_nil))) (pa_cons (pe_op op_add (pe_op op_sub (pv 2) (pv 1)) pe_int) pa_nil))) (pe_op op_modN (pv 3) pe_int) (fun _ _ => rfl)) pa_nil)))))))), ?_⟩
    walk_at "rd"
    refine ⟨b, 5, n, rfl, hB, by omega, by decide, by decide, fun way H1 w0 w1 e1 B1 => ?_⟩
    walk_at "rd"
    refine ifs (fun hc => ?_) (fun hc => ?_)
    · simp only [decide_eq_true_eq] at hc
      walk_at "rd"
      (intro p hp; generalize ep : upd _ p _ = J; have N := New.of ep hp; clear ep hp)
      walk_at "rd"
      obtain ⟨v, hv, hm, _⟩ := atI_some (xs := [V.int lo, V.int hi]) w0 (by simpa using hc)
      refine i_ixL (SqL.lst N.at_) hv ?_
      simp only [List.mem_cons, List.not_mem_nil, or_false] at hm
      rcases hm with rfl | rfl
      · exact q _ _ (by omega) h1 (e1.trans N.but) ((B1.nw N).mono (by omega))
      · exact q _ _ h1 (by omega) (e1.trans N.but) ((B1.nw N).mono (by omega))
    · walk_at "rd"
      (intro p hp; generalize ep : upd _ p _ = J; have N := New.of ep hp; clear ep hp)
      walk_at "rd"
      generalize hm1 : (if hi - lo + 1 < 10 then hi - lo + 1 else (10 : Int)) = m1
      have m1b : 1 ≤ m1 ∧ m1 ≤ hi - lo + 1 := by rw [← hm1]; split <;> omega
      obtain ⟨v, hv, hm, _⟩ := atI_some (xs := [V.int m1, V.int (hi - lo + 1)]) (i := Int.fmod way 2) (Int.fmod_nonneg_of_pos _ (by decide)) (by simpa using Int.fmod_lt_of_pos way (by decide : (0:Int) < 2))
      obtain ⟨m, rfl, mb⟩ : ∃ m : Int, v = .int m ∧ 1 ≤ m ∧ m ≤ hi - lo + 1 := by
        simp only [List.mem_cons, List.not_mem_nil, or_false] at hm
        rcases hm with rfl | rfl
        · exact ⟨_, rfl, m1b⟩
        · exact ⟨_, rfl, by omega, by omega⟩
      rw [← hm1] at hv
      refine i_ixL (SqL.lst N.at_) hv ?_
      walk_at "rd"
      refine ⟨b, m, n + 1, rfl, B1.nw N, by omega, by omega, by omega, fun d H2 d0 d1 e2 B2 => ?_⟩
      walk_at "rd"
      exact q _ _ (by omega) (by omega) (e1.trans (N.but.trans e2)) (B2.mono (by omega))
/-- drawn names, unlike -/
theorem letters_len : (Str.ofString "abcdefghijklmnopqrstuvwxyz").length = 26 := by decide +kernel
def Low (c : Nat) : Prop := 97 ≤ c ∧ c ≤ 122
theorem low_all : ∀ c ∈ tl (Str.ofString "abcdefghijklmnopqrstuvwxyz"), Low c := by
  intro c hc
  rw [show tl (Str.ofString "abcdefghijklmnopqrstuvwxyz") = List.range' 97 26 by decide +kernel, List.mem_range'_1] at hc
  exact ⟨by omega, by omega⟩
theorem letter_at {d : Int} (h0 : 0 ≤ d) (h1 : d < 26) : atI (Str.ofString "abcdefghijklmnopqrstuvwxyz").cps.toList d = some (97 + d.toNat) := by
  obtain ⟨k, rfl⟩ := Int.eq_ofNat_of_zero_le h0
  have hk : k < 26 := by omega
  refine atI_nat ?_
  rw [show (Str.ofString "abcdefghijklmnopqrstuvwxyz").cps.toList = List.range' 97 26 by decide +kernel, List.getElem?_range' (by omega)]
  simp
/-- a comprehension over a range whose element changes nothing -/
theorem lc_map {n : Nat} {f : Nat → V} {g : TG} {tt : TT} {te : TE} {vs : List Nat} {σ : L2.St} {H1 : Hp} {D : Addr} {Qd : Hp → Prop} (hD : H1 D = none) (hz : n ≤ 1000)
    (hs : ∀ i H (N : V → Hp → Prop) (M : Hp → Prop), i < n → N (f i) H → g (.int (0 + i)) (wipe σ vs) H fun σ2 H2 => wipe σ2 vs = wipe σ vs ∧ tt σ2 H2 fun b H3 => if b = true then te σ2 H3 N else M H3)
    (hd : Qd (upd H1 D (.lst ((List.range n).map f)))) :
    ∃ W : Nat → Nat → Hp → Prop, (∃ m, W 0 m (upd H1 D (.lst []))) ∧ ∀ i m H, W i m H →
      ((Itr 0 n).stop i H ∧ Qd H) ∨ ((Itr 0 n).go i H ∧ ∃ Nx : Hp → Prop, (∀ H', Nx H' → ∃ m', m' < m ∧ W (i + 1) m' H') ∧ ∀ x H', (Itr 0 n).yld i H x H' → g x (wipe σ vs) H' fun σ2 H2 => wipe σ2 vs = wipe σ vs ∧ tt σ2 H2 fun b H3 =>
        if b = true then te σ2 H3 fun y H4 => ∃ acc, H4 D = some (.lst acc) ∧ acc.length < sizeLine ∧ Nx (upd H4 D (.lst (acc ++ [y]))) else Nx H3) := by
  refine lc_range (lo := 0) (n := n) (fun i H' => H' = upd H1 D (.lst ((List.range i).map f))) rfl ?_ ?_
  · rintro i H' hi rfl
    refine hs i _ _ _ hi ⟨_, upd_same, by simp; exact small1000 (by omega), ?_⟩
    rw [upd_upd, List.range_succ, List.map_append]
    rfl
  · rintro H' rfl
    exact hd
def spNamesD : Sp := fun vs H Q _ => ∃ (b : Addr) (M n : Nat), vs = [.ref b, .int M] ∧ Box H b n ∧ n ≤ 800 ∧ M ≤ 26 ∧
  ∀ (p : Addr) (xs : List Str) (H' : Hp), H p = none → But b H H' → Box H' b (n + 12) → H' p = some (.lst (xs.map V.str)) → xs.length = M → xs.Nodup → (∀ x ∈ xs, isN (.str x) = true) → Q (.ref p) H'
theorem nodup_map {f : Nat → Str} {n : Nat} (h : ∀ i j, i < n → j < n → f i = f j → i = j) : ((List.range n).map f).Nodup := by
  rw [List.nodup_iff_pairwise_ne, List.pairwise_map]
  refine List.Pairwise.imp_of_mem (fun {a b} ha hb n e => n (h a b (List.mem_range.mp ha) (List.mem_range.mp hb) e)) (List.nodup_iff_pairwise_ne.mp List.nodup_range)
theorem low_name {x : Str} (h1 : 1 ≤ x.length) (h2 : x.length ≤ 8) (h : ∀ c ∈ tl x, Low c) : isN (.str x) = true := decide_eq_true ⟨h1, h2, h⟩
theorem cut0 {x : Str} (hx : x.length = 8) {z : Int} (hz : 0 ≤ z) : (cutS x none (some (1 + z.fmod 8))).length = 1 + (z % 8).toNat := by
  rw [Int.fmod_eq_emod_of_nonneg _ (by decide)]
  obtain ⟨k, hk⟩ := Int.eq_ofNat_of_zero_le (show 0 ≤ 1 + z % 8 by omega)
  rw [hk, len_cut_to]; omega
theorem cut_len (x : Str) (a e : Nat) : (cutS x (some (a : Int)) (some ((a : Int) + (e : Int)))).length ≤ e ∧ (cutS x (some (a : Int)) (some ((a : Int) + (e : Int)))).length ≤ x.length - a := by
  rw [← tl_len, show ((a : Int) + (e : Int)) = ((a + e : Nat) : Int) by simp, tl_cut, HT.sIx_nat, HT.sIx_nat, List.length_take, List.length_drop, tl_len]
  have : x.cps.size = x.length := rfl
  omega
theorem mid_eq {x y : Str} {a i j : Nat} (ha : a ≤ x.length) (h : (cutS x none (some (a : Int)) ++ (⟨#[97 + i]⟩ : Str)) ++ y = (cutS x none (some (a : Int)) ++ (⟨#[97 + j]⟩ : Str)) ++ y) : i = j := by
  have key : ∀ c, (tl ((cutS x none (some (a : Int)) ++ (⟨#[c]⟩ : Str)) ++ y))[a]? = some c := by
    intro c
    rw [tl_append, tl_append, tl_cut_to, List.append_assoc, List.getElem?_append_right (by simp [tl_len]; omega), List.length_take, tl_len, Nat.min_eq_left ha, Nat.sub_self]
    rfl
  have e := (key (97 + i)).symm.trans ((congrArg (fun z => (tl z)[a]?) h).trans (key (97 + j)))
  have : 97 + i = 97 + j := by simpa using e
  omega
theorem step_inj {step first : Int} {i j : Nat} (hs : step = 1 ∨ step = 3 ∨ step = 5 ∨ step = 7 ∨ step = 9 ∨ step = 11) (f0 : 0 ≤ first) (hi : i < 26) (hj : j < 26)
    (e : ((first + step * (0 + (i : Int))).fmod 26).toNat = ((first + step * (0 + (j : Int))).fmod 26).toNat) : i = j := by
  rw [Int.fmod_eq_emod_of_nonneg _ (by decide), Int.fmod_eq_emod_of_nonneg _ (by decide)] at e
  rcases hs with rfl | rfl | rfl | rfl | rfl | rfl <;> omega
theorem ok_names (T : Top K mg) : FnG P w K mg base CX0 2 T.a_names T.d_names ["_law_box_here", "_law_many"] spNamesD := by
  have G_take := ok_take (P := P) (w := w) (base := base) T
  refine okG T.F_names sc_names (fun vs H Q E h => ?_) (fun cdv A outer s H vs Q E hr hgd h => ?_)
  · obtain ⟨b, M, n, rfl, _⟩ := h
    rfl
  · obtain ⟨b, M, n, rfl, hB, hn, hM, q⟩ := h
    refine ⟨_, (pss_cons (ps_set (i := 2) sc_names.nd rfl (by first | exact Or.inl rfl | exact Or.inr rfl) pe_str)
      (pss_cons (ps_set (i := 3) sc_names.nd rfl (by first | exact Or.inl rfl | exact Or.inr rfl) (g_call G_take (hr.mono (by decide)) hgd (by rfl) T.m_take T.F_take.kp T.b_take .nil pass0 (pa_cons (pv 0) (pa_cons pe_int pa_nil))))
      (pss_cons (ps_set (i := 4) sc_names.nd rfl (by first | exact Or.inl rfl | exact Or.inr rfl) (g_call G_take (hr.mono (by decide)) hgd (by rfl) T.m_take T.F_take.kp T.b_take .nil pass0 (pa_cons (pv 0) (pa_cons pe_int pa_nil))))
      (pss_cons (ps_set (i := 5) sc_names.nd rfl (by first | exact Or.inl rfl | exact Or.inr rfl) (pe_ix ix_list (pe_lst (pa_cons pe_int (pa_cons pe_int (pa_cons pe_int (pa_cons pe_int (pa_cons pe_int (pa_cons pe_int pa_nil))))))) (g_call G_take (hr.mono (by decide)) hgd (by rfl) T.m_take T.F_take.kp T.b_take .nil pass0 (pa_cons (pv 0) (pa_cons pe_int pa_nil))) (fun _ _ => rfl)))
      (pss_cons (ps_set (i := 6) sc_names.nd rfl (by first | exact Or.inl rfl | exact Or.inr rfl) (g_call G_take (hr.mono (by decide)) hgd (by rfl) T.m_take T.F_take.kp T.b_take .nil pass0 (pa_cons (pv 0) (pa_cons pe_int pa_nil))))
      (pss_cons (ps_set (i := 7) sc_names.nd rfl (by first | exact Or.inl rfl | exact Or.inr rfl) (pe_op op_add (pv 6) (g_call G_take (hr.mono (by decide)) hgd (by rfl) T.m_take T.F_take.kp T.b_take .nil pass0 (pa_cons (pv 0) (pa_cons (pe_op op_sub pe_int (pv 6)) pa_nil)))))
      (pss_cons (ps_set (i := 8) sc_names.nd rfl (by first | exact Or.inl rfl | exact Or.inr rfl) (pe_m1 PySem.F.slot_str_join PySem.F.type_str_join m_join pe_str (pe_lc (own := [("_law_k", 9)]) (g := gName 9) rfl sc_names.nd (pi_range1 (by rfl) T.n_range (pa_cons pe_int pa_nil)) (blkOk_by (own := [("_law_k", 9)]) (N := ["_law_box_here", "_law_many", "_law_letters", "_law_way", "_law_first", "_law_step", "_law_at", "_law_size", "_law_stem", "_law_k"]) (sc := defScope s_names) (by decide +kernel)) (fun _ _ _ _ _ => (pg_name (i := 9) sc_names.nd rfl (by first | exact Or.inl rfl | exact Or.inr rfl))) (fun _ _ _ _ _ => pts_nil) (fun _ _ _ _ _ => (pe_ix ix_str (pv 2) (g_call G_take (hr.mono (by decide)) hgd (by rfl) T.m_take T.F_take.kp T.b_take .nil pass0 (pa_cons (pv 0) (pa_cons pe_int pa_nil))) (fun _ _ => rfl))))))
      (pss_cons (ps_if (PW.pt (pw_and (pt_cmpR op_eq (pv 3) pe_int (nomark _)) (pw_and1 (pt_cmpR op_lt (pv 1) pe_int (nomark _)))))
        (pss_one (ps_ret (pe_lc (own := [("_law_k", 9)]) (g := gName 9) rfl sc_names.nd (pi_range1 (by rfl) T.n_range (pa_cons (pv 1) pa_nil)) (blkOk_by (own := [("_law_k", 9)]) (N := ["_law_box_here", "_law_many", "_law_letters", "_law_way", "_law_first", "_law_step", "_law_at", "_law_size", "_law_stem", "_law_k"]) (sc := defScope s_names) (by decide +kernel)) (fun _ _ _ _ _ => (pg_name (i := 9) sc_names.nd rfl (by first | exact Or.inl rfl | exact Or.inr rfl))) (fun _ _ _ _ _ => pts_nil) (fun _ _ _ _ _ => (pe_slice sl_str (pe_op o_addT (pe_ix ix_str (pv 2) (pv 4) (fun _ _ => rfl)) (pv 8)) po_none (po_some (pe_op op_add pe_int (pe_op op_modN (pe_op op_add (pv 4) (pe_op op_mul pe_int (pv 9))) pe_int))))))))
        pss_nil)
      (pss_one (ps_ret (pe_lc (own := [("_law_k", 9)]) (g := gName 9) rfl sc_names.nd (pi_range1 (by rfl) T.n_range (pa_cons (pv 1) pa_nil)) (blkOk_by (own := [("_law_k", 9)]) (N := ["_law_box_here", "_law_many", "_law_letters", "_law_way", "_law_first", "_law_step", "_law_at", "_law_size", "_law_stem", "_law_k"]) (sc := defScope s_names) (by decide +kernel)) (fun _ _ _ _ _ => (pg_name (i := 9) sc_names.nd rfl (by first | exact Or.inl rfl | exact Or.inr rfl))) (fun _ _ _ _ _ => pts_nil) (fun _ _ _ _ _ => (pe_op o_addT (pe_op o_addT (pe_slice sl_str (pv 8) po_none (po_some (pv 6))) (pe_ix ix_str (pv 2) (pe_op op_modN (pe_op op_add (pv 4) (pe_op op_mul (pv 5) (pv 9))) pe_int) (fun _ _ => rfl))) (pe_slice sl_str (pv 8) (po_some (pv 6)) (po_some (pv 7)))))))))))))))), ?_⟩
    walk_at "rd"
    refine ⟨b, 3, n, rfl, hB, by omega, by decide, by decide, fun way H1 w0 w1 e1 B1 => ?_⟩
    walk_at "rd"
    refine ⟨b, 26, n + 1, rfl, B1, by omega, by decide, by decide, fun first H2 f0 f1 e2 B2 => ?_⟩
    walk_at "rd"
    (intro p hp; generalize ep : upd _ p _ = J; have N := New.of ep hp; clear ep hp)
    walk_at "rd"
    refine ⟨b, 6, n + 2, rfl, B2.nw N, by omega, by decide, by decide, fun d3 H3 d30 d31 e3 B3 => ?_⟩
    obtain ⟨v, hv, hm, _⟩ := atI_some (xs := [V.int 1, V.int 3, V.int 5, V.int 7, V.int 9, V.int 11]) d30 (by simpa using d31)
    refine i_ixL (SqL.lst (e3 p _ (B2.off N) N.at_)) hv ?_
    obtain ⟨step, rfl, hs⟩ : ∃ s : Int, v = .int s ∧ (s = 1 ∨ s = 3 ∨ s = 5 ∨ s = 7 ∨ s = 9 ∨ s = 11) := by
      simp only [List.mem_cons, List.not_mem_nil, or_false] at hm
      rcases hm with h | h | h | h | h | h
      all_goals exact ⟨_, h, by decide⟩
    walk_at "rd"
    refine ⟨b, 4, n + 3, rfl, B3, by omega, by decide, by decide, fun at_ H4 a0 a1 e4 B4 => ?_⟩
    walk_at "rd"
    refine ⟨b, 8 - at_, n + 4, rfl, B4, by omega, by omega, by omega, fun d5 H5 d50 d51 e5 B5 => ?_⟩
    walk_at "rd"
    refine ⟨7, rfl, by decide, by decide, fun D hD => ?_⟩
    refine lc_draw (P := Low) B5 hD (by decide) ?_ (fun i H N M h => ⟨h.1, h.2⟩) ?_
    · intro i H' hi e6 B6 N hN
      walk_at "rd"
      refine ⟨b, 26, _, rfl, B6, by omega, by decide, by decide, fun d H7 d0 d1 e7 B7 => ?_⟩
      obtain ⟨c, hc, pc⟩ := sign_at (P := Low) (x := Str.ofString "abcdefghijklmnopqrstuvwxyz") d0 (by rw [letters_len]; exact d1) low_all
      exact i_ixS (by decide +kernel) hc (hN c _ pc e7 B7)
    · intro acc H6 e6 B6 hA hl h1
      refine join_draw (e := Str.ofString "") (by decide +kernel) hA (by omega) h1 fun stem slen sall => ?_
      rw [hl] at slen
      have e06 : But b H H6 := e1.trans (e2.trans (N.but.trans (e3.trans (e4.trans (e5.trans e6)))))
      walk_at "rd"
      have sb : 1 ≤ step ∧ step ≤ 11 := by omega
      obtain ⟨sb0, sb1⟩ := sb
      obtain ⟨a, rfl⟩ := Int.eq_ofNat_of_zero_le a0
      obtain ⟨e, rfl⟩ := Int.eq_ofNat_of_zero_le d50
      refine ifs (fun h1 => ?_) (fun h1 => ?_)
      focus (walk_at "rd"; refine ifs (fun h2 => ?_) (fun h2 => ?_))
      focus
        (walk_at "rd"
         refine ⟨M, rfl, by omega, by omega, fun D2 hD2 => ?_⟩
         have b2 := B6.ne hD2
         have l8 : ((⟨#[97 + first.toNat]⟩ : Str) ++ stem).length = 8 := by rw [len_add, slen]; rfl
         have h2' : M < 9 := by have := of_decide_eq_true h2; omega
         refine lc_map (f := fun k => V.str (cutS ((⟨#[97 + first.toNat]⟩ : Str) ++ stem) none (some (1 + (first + 3 * (0 + (k : Int))).fmod 8)))) hD2 (by omega) ?_ ?_
         · intro i H9 N9 M9 hi hN
           have hi' : i < M := by simpa using hi
           walk_at "rd"
           refine i_ixS (by decide +kernel) (letter_at f0 f1) ?_
           walk_at "rd"
           refine i_addT (sz_of (by rw [slen]; show 1 + 7 ≤ _; decide)) ?_
           walk_at "rd"
           refine i_slS (sz_of (by rw [l8]; decide)) ?_
           exact hN
         · refine q D2 ((List.range (M : Int).toNat).map fun (k : Nat) => cutS ((⟨#[97 + first.toNat]⟩ : Str) ++ stem) none (some (1 + (first + 3 * (0 + (k : Int))).fmod 8))) _ (e06.free b2 hD2) (e06.trans (But.new _ hD2)) ((B6.new hD2).mono (by omega)) (by rw [upd_same, List.map_map]; rfl) (by simp) ?_ ?_
           · refine nodup_map fun i j hi hj e => ?_
             have hi' : i < M := by simpa using hi
             have hj' : j < M := by simpa using hj
             have e2 := congrArg Str.length e
             rw [cut0 l8 (by omega), cut0 l8 (by omega)] at e2
             omega
           · intro x hx
             obtain ⟨k, hk, rfl⟩ := List.mem_map.mp hx
             refine low_name (by rw [cut0 l8 (by omega)]; omega) (by rw [cut0 l8 (by omega)]; omega) (cut_all (add_all (one_all ⟨by omega, by omega⟩) sall)))
      all_goals
        (walk_at "rd"
         refine ⟨M, rfl, by omega, by omega, fun D2 hD2 => ?_⟩
         have b2 := B6.ne hD2
         refine lc_map (f := fun k => V.str ((cutS stem none (some (a : Int)) ++ (⟨#[97 + ((first + step * (0 + (k : Int))).fmod 26).toNat]⟩ : Str)) ++ cutS stem (some (a : Int)) (some ((a : Int) + (e : Int))))) hD2 (by omega) ?_ ?_
         · intro i H9 N9 M9 hi hN
           have hi' : i < M := by simpa using hi
           walk_at "rd"
           refine i_slS (sz_of (by omega)) ?_
           walk_at "rd"
           refine i_ixS (by decide +kernel) (letter_at (Int.fmod_nonneg_of_pos _ (by decide)) (Int.fmod_lt_of_pos _ (by decide))) ?_
           have l1 := len_cut_to stem a
           refine i_addT (sz_of (by rw [l1]; show _ + 1 ≤ _; omega)) ?_
           walk_at "rd"
           refine i_slS (sz_of (by omega)) ?_
           have l2 := cut_len stem a e
           refine i_addT (sz_of (by rw [len_add, l1]; show (_ + 1) + _ ≤ _; omega)) ?_
           exact hN
         · refine q D2 ((List.range (M : Int).toNat).map fun (k : Nat) => ((cutS stem none (some (a : Int)) ++ (⟨#[97 + ((first + step * (0 + (k : Int))).fmod 26).toNat]⟩ : Str)) ++ cutS stem (some (a : Int)) (some ((a : Int) + (e : Int))))) _ (e06.free b2 hD2) (e06.trans (But.new _ hD2)) ((B6.new hD2).mono (by omega)) (by rw [upd_same, List.map_map]; rfl) (by simp) ?_ ?_
           · refine nodup_map fun i j hi hj e => ?_
             have hi' : i < M := by simpa using hi
             have hj' : j < M := by simpa using hj
             have e2 := mid_eq (by rw [slen]; omega) e
             exact step_inj hs f0 (by omega) (by omega) e2
           · intro x hx
             obtain ⟨k, hk, rfl⟩ := List.mem_map.mp hx
             have l1 := len_cut_to stem a
             have l2 := cut_len stem a e
             have fl := Int.fmod_lt_of_pos (first + step * (0 + (k : Int))) (by decide : (0 : Int) < 26)
             refine low_name ?_ ?_ (add_all (add_all (cut_all sall) (one_all ⟨by omega, by omega⟩)) (cut_all sall))
             · rw [len_add, len_add, l1]; show 1 ≤ (_ + 1) + _; omega
             · rw [len_add, len_add, l1]; show (_ + 1) + _ ≤ 8; omega)
end

end Ice

set_option Elab.async false
set_option linter.all false
set_option maxRecDepth 100000
set_option maxHeartbeats 4000000
namespace Ice
open PySem PySem.Spec PyProof.Rows L2 TL
/-! side conditions, heaps, one step of a reading, and many -/
local macro_rules | `(tactic| walk_at "hp") => `(tactic| first | assumption | exact upd_same | exact New.at_ (by assumption) | (refine keepU ?_ (by assumption); walk_at "hp") | (refine New.app (by assumption) ?_; walk_at "hp") | (refine Same.app (by assumption) ?_; walk_at "hp") | (refine But.app (by assumption) (by assumption) ?_; walk_at "hp"))
local macro_rules | `(tactic| walk_at "sq") => `(tactic| first | assumption | exact SqL.lst (by walk_at "hp") | exact L2.Same.seq (New.same (by assumption)) (by assumption) | exact L2.Same.seq (by assumption) (by assumption))
local macro_rules | `(tactic| walk_at "len") => `(tactic| first | assumption | (simp only [List.length_cons, List.length_nil, List.length_append, List.length_map]; decide) | (refine Ice.sz_of ?_; simp only [List.length_cons, List.length_nil, List.length_append, List.length_map]; omega))
local macro_rules | `(tactic| walk_at "fresh") => `(tactic| (simp only [List.map_append, List.map_cons, List.map_nil, List.nil_append, List.cons_append]; decide +kernel))
local macro_rules | `(tactic| walk_at "sd") => `(tactic| first | assumption | (show _ ≠ _; omega) | exact Or.inl ⟨by omega, by omega⟩ | exact Or.inr ⟨by omega, by omega⟩ | exact ⟨by decide, by decide⟩ | exact ⟨by decide, by decide, by decide⟩ | exact ⟨by omega, by omega, by omega⟩)
/-! one step of a reading, and many -/
local macro_rules | `(tactic| walk_at "st") => `(tactic| first
  | with_reducible refine i_seq ?_
  | with_reducible refine i_if ?_
  | with_reducible refine i_next ?_
  | with_reducible refine i_ret ?_
  | with_reducible refine i_retN ?_
  | with_reducible refine i_drop ?_
  | with_reducible refine i_asg ?_
  | with_reducible refine i_gname ?_
  | with_reducible refine i_gsub ?_
  | ((with_reducible refine i_var (v := ?vv) ?hv ?_); (case hv => exact rfl))
  | with_reducible refine i_c ?_
  | with_reducible refine i_op ?_
  | with_reducible refine i_un ?_
  | with_reducible refine i_test ?_
  | with_reducible refine i_tB ?_
  | with_reducible refine i_and ?_
  | with_reducible refine i_or ?_
  | with_reducible refine i_not ?_
  | with_reducible refine i_andV ?_
  | with_reducible refine i_orV ?_
  | with_reducible refine i_notV ?_
  | with_reducible refine i_ifE ?_
  | with_reducible refine i_chain ?_
  | with_reducible refine i_bl ?_
  | with_reducible refine i_nil ?_
  | with_reducible refine i_cons ?_
  | with_reducible refine i_call ?_
  | with_reducible refine i_cb ?_
  | with_reducible refine i_rI0 ?_
  | with_reducible refine i_rU ?_
  | ((with_reducible refine i_rEq ?hs ?_); (case hs => exact rfl))
  | ((with_reducible refine i_rNe ?hs ?_); (case hs => exact rfl))
  | ((with_reducible refine i_rI ?hc ?_); (case hc => walk_at "sd"))
  | ((with_reducible refine i_ixL (xs := ?xs) (v := ?vv) ?hS ?he ?_); (case hS => walk_at "sq"); (case he => exact rfl))
  | ((with_reducible refine i_setL (xs := ?xs) (j := ?jj) ?hS ?he ?_); (case hS => walk_at "hp"); (case he => exact rfl))
  | with_reducible refine i_tup ?_
  | with_reducible refine i_lst ?_
  | with_reducible refine i_bm ?_
  | with_reducible refine i_bm0 ?_
  | with_reducible refine i_m1 ?_
  | with_reducible refine i_sl ?_
  | with_reducible refine i_nopart ?_
  | with_reducible refine i_part ?_
  | with_reducible refine i_int ?_
  | with_reducible refine i_str ?_
  | with_reducible refine i_for ?_
  | with_reducible refine i_yes ?_
  | ((with_reducible refine i_lenL (xs := ?xs) ?hS ?_); (case hS => walk_at "sq"))
  | ((with_reducible refine i_room ?hz ?_); (case hz => walk_at "len"))
  | with_reducible refine i_leT ?_
  | with_reducible refine i_notInS ?_
  | with_reducible refine i_inS ?_
  | with_reducible refine i_find ?_
  | with_reducible refine i_isB ?_
  | with_reducible refine i_max2 ?_
  | with_reducible refine i_min2 ?_
  | with_reducible exact trivial
  | with_reducible refine iteT ?_
  | with_reducible refine iteF ?_
  | with_reducible refine i_isstr ?_
  | with_reducible refine i_lc ?_
  | ((with_reducible refine i_cat (xs := ?xs) (zs := ?zs) ?ha ?hb ?hz ?_); (case ha => walk_at "hp"); (case hb => walk_at "hp"); (case hz => walk_at "len"))
  | ((with_reducible refine i_tyL (xs := ?xs) ?ha ?_); (case ha => walk_at "hp"))
  | with_reducible refine i_list ?_
  | with_reducible refine i_disp ?_
  | with_reducible refine i_pairs0 ?_
  | with_reducible refine i_pairs ?_
  | with_reducible refine i_newK ?_
  | with_reducible refine i_gcons ?_
  | with_reducible refine i_gnil ?_
  | with_reducible refine i_revL ?_
  | with_reducible refine i_rng1 ?_
  | ((with_reducible refine i_wipe ?hw ?_); (case hw => exact rfl))
  | with_reducible refine iteNT ?_
  | with_reducible refine iteNF ?_)
local macro_rules | `(tactic| walk_at "sx") => `(tactic| first
  | walk_at "st"
  | with_reducible refine i_kinit ?_
  | with_reducible refine i_ost ?_
  | with_reducible refine i_mkO ?_
  | with_reducible refine i_callE ?_
  | with_reducible refine i_makeE ?_
  | with_reducible refine i_xf ?_
  | with_reducible refine i_sfld ?_
  | with_reducible refine i_fld ?_
  | ((with_reducible refine i_ixT (xs := ?xs) (v := ?vv) ?hS ?he ?_); (case hS => exact SqT.tup (by walk_at "hp")); (case he => exact rfl))
  | with_reducible refine i_intB ?_
  | with_reducible refine i_runS ?_
  | with_reducible refine i_runN ?_
  | ((with_reducible refine i_xf1 (fs := ?ff) (v := ?vv) ?hx ?hl ?_); (case hx => walk_at "hp"); (case hl => exact rfl))
  | with_reducible refine i_methE ?_
  | with_reducible refine i_meth ?_
  | with_reducible refine i_make ?_
  | ((with_reducible refine i_obj (dx := ?dd) (fs := ?ff) ?hx ?hl ?_); (case hx => walk_at "hp"); (case hl => exact rfl))
  | ((with_reducible refine i_fld1 (C := ?CC) (dx := ?dd) (fs := ?ff) (v := ?vv) ?hx ?cl ?na ?hl ?_); (case hx => walk_at "hp"); (case cl => assumption); (case na => assumption); (case hl => exact rfl)))
local macro_rules | `(tactic| walk_at "rd") => `(tactic| repeat (walk_at "sx"))

section
variable {P : Program} {w : World} {K : PySem.W.Frag} {mg : Str → Option Value} {base : Heap}
/-- a thing of any kind that stands apart from the box b -/
inductive OddC (b : Addr) (H : Hp) : V → Prop
  | ps {v : V} {r : PyData} : Ps v r → OddC b H v
  | lst0 {p : Addr} : p ≠ b → H p = some (.lst []) → OddC b H (.ref p)
  | lst1 {p : Addr} : p ≠ b → H p = some (.lst [.str (Str.ofString "a")]) → OddC b H (.ref p)
  | tup0 {p : Addr} : p ≠ b → H p = some (.tup []) → OddC b H (.ref p)
  | dct0 {p : Addr} : p ≠ b → H p = some (.dK []) → OddC b H (.ref p)
theorem OddC.but {b : Addr} {H H' : Hp} {v : V} (e : But b H H') (h : OddC b H v) : OddC b H' v := by
  cases h with
  | ps h => exact .ps h
  | lst0 n h => exact .lst0 n (e _ _ n h)
  | lst1 n h => exact .lst1 n (e _ _ n h)
  | tup0 n h => exact .tup0 n (e _ _ n h)
  | dct0 n h => exact .dct0 n (e _ _ n h)
theorem OddC.th {b : Addr} {H : Hp} {v : V} (h : OddC b H v) : Th H v := by
  cases h with
  | ps h =>
    cases h with
    | non => exact .inr ⟨_, .non⟩
    | bl b => exact .inr ⟨_, .bl b⟩
    | int h => exact .inr ⟨_, .int _⟩
    | str h _ => exact .inl ⟨_, rfl, h⟩
  | lst0 n h => exact .inr ⟨_, .lst h⟩
  | lst1 n h => exact .inr ⟨_, .lst h⟩
  | tup0 n h => exact .inr ⟨_, .tup h⟩
  | dct0 n h => exact .inr ⟨_, .dct h⟩
theorem OddC.asc {b : Addr} {H : Hp} {v : V} (h : OddC b H v) : ∀ s, v = .str s → ∀ c ∈ s.cps.toList, c < 128 := by
  rintro s rfl
  cases h with
  | ps h => cases h with
    | str _ h => exact h
theorem OddC.int {b : Addr} {H : Hp} {i : Int} (h : i.natAbs < 10 ^ 60) : OddC b H (.int i) := .ps (.int h)
theorem OddC.str {b : Addr} {H : Hp} {x : Str} (h : x.length ≤ 64) (h2 : ∀ c ∈ x.cps.toList, c < 128) : OddC b H (.str x) := .ps (.str h h2)
theorem ps_a : Ps (.str (Str.ofString "a")) (.str (Str.ofString "a")) := .str (by decide +kernel) (by decide +kernel)
theorem OddC.rp {b : Addr} {H : Hp} {v : V} (h : OddC b H v) : ∃ r, Rp K H v r := by
  cases h with
  | ps h => exact ⟨_, h.rp⟩
  | lst0 n h => exact ⟨_, Rp.lstP h .nil (by simp)⟩
  | lst1 n h => exact ⟨_, Rp.lstP h (.cons ps_a .nil) (by simp)⟩
  | tup0 n h => exact ⟨_, Rp.tupP h .nil (by simp)⟩
  | dct0 n h => exact ⟨_, Rp.dct0 h⟩
def spOdd : Sp := fun vs H Q _ => ∃ (b : Addr) (n : Nat), vs = [.ref b] ∧ Box H b n ∧ n ≤ 800 ∧ ∀ (v : V) (H' : Hp), But b H H' → Box H' b (n + 1) → OddC b H' v → Q v H'
theorem ok_odd (T : Top K mg) : FnG P w K mg base CX0 2 T.a_odd T.d_odd ["_law_box_here"] spOdd := by
  have G_take := ok_take (P := P) (w := w) (base := base) T
  refine okG T.F_odd sc_odd (fun vs H Q E h => ?_) (fun cdv A outer s H vs Q E hr hgd h => ?_)
  · obtain ⟨b, n, rfl, _⟩ := h
    rfl
  · obtain ⟨b, n, rfl, hB, hn, q⟩ := h
    refine ⟨_, (pss_cons (ps_set (i := 1) sc_odd.nd rfl (by first | exact Or.inl rfl | exact Or.inr rfl) (pe_lst (pa_cons pe_non (pa_cons pe_bl (pa_cons pe_bl (pa_cons (pe_un un_neg pe_int) (pa_cons (pe_op op_pow pe_int pe_int) (pa_cons pe_str (pa_cons pe_str (pa_cons pe_str (pa_cons pe_str (pa_cons pe_str (pa_cons (pe_lst pa_nil) (pa_cons (pe_tup pa_nil) pa_nil))))))))))))))
      (pss_one (ps_ret (pe_ix ix_list (pe_op op_cat (pv 1) (pe_lst (pa_cons (pe_lst (pa_cons pe_str pa_nil)) (pa_cons pe_dnewK (pa_cons pe_int (pa_cons pe_int (pa_cons pe_int (pa_cons pe_str pa_nil)))))))) (g_call G_take (hr.mono (by decide)) hgd (by rfl) T.m_take T.F_take.kp T.b_take .nil pass0 (pa_cons (pv 0) (pa_cons pe_int pa_nil))) (fun _ _ => rfl))))), ?_⟩
    walk_at "rd"
    (intro p1 hp1; generalize ep1 : upd _ p1 _ = J1; have N1 := New.of ep1 hp1; clear ep1 hp1)
    have C1 := hB.nw N1; have n1 := hB.off N1
    walk_at "rd"
    (intro p2 hp2; generalize ep2 : upd _ p2 _ = J2; have N2 := New.of ep2 hp2; clear ep2 hp2)
    have C2 := C1.nw N2; have n2 := C1.off N2
    walk_at "rd"
    (intro p3 hp3; generalize ep3 : upd _ p3 _ = J3; have N3 := New.of ep3 hp3; clear ep3 hp3)
    have C3 := C2.nw N3; have n3 := C2.off N3
    walk_at "rd"
    (intro p4 hp4; generalize ep4 : upd _ p4 _ = J4; have N4 := New.of ep4 hp4; clear ep4 hp4)
    have C4 := C3.nw N4; have n4 := C3.off N4
    walk_at "rd"
    (intro p5 hp5; generalize ep5 : upd _ p5 _ = J5; have N5 := New.of ep5 hp5; clear ep5 hp5)
    have C5 := C4.nw N5; have n5 := C4.off N5
    walk_at "rd"
    (intro p6 hp6; generalize ep6 : upd _ p6 _ = J6; have N6 := New.of ep6 hp6; clear ep6 hp6)
    have C6 := C5.nw N6; have n6 := C5.off N6
    walk_at "rd"
    (intro p7 hp7; generalize ep7 : upd _ p7 _ = J7; have N7 := New.of ep7 hp7; clear ep7 hp7)
    have C7 := C6.nw N7; have n7 := C6.off N7
    walk_at "rd"
    refine ⟨b, 18, n, rfl, C7, by omega, by decide, by decide, fun d H2 d0 d1 e2 B2 => ?_⟩
    have k7 : H2 p7 = some _ := e2 p7 _ n7 N7.at_
    obtain ⟨v, hv, hm, _⟩ := atI_some (xs := [V.non, V.bl true, V.bl false, V.int (-1), V.int (10 ^ Int.toNat 39), V.str (Str.ofString ""), V.str (Str.ofString "A"), V.str (Str.ofString "abcdefghi"), V.str (Str.ofString "a b"), V.str (Str.ofString "a1"), V.ref p1, V.ref p2] ++
      [V.ref p4, V.ref p5, V.int 1001, V.int 1000001, V.int 0, V.str (Str.ofString "ab")]) d0 (by simpa using d1)
    refine i_ixL (SqL.lst k7) hv ?_
    have k1 : H2 p1 = some (.lst []) := by walk_at "hp"
    have k2 : H2 p2 = some (.tup []) := by walk_at "hp"
    have k4 : H2 p4 = some (.lst [V.str (Str.ofString "a")]) := by walk_at "hp"
    have k5 : H2 p5 = some (.dK []) := by walk_at "hp"
    have eN : But b H H2 := N1.but.trans (N2.but.trans (N3.but.trans (N4.but.trans (N5.but.trans (N6.but.trans (N7.but.trans e2))))))
    refine q _ _ eN B2 ?_
    simp only [List.cons_append, List.nil_append, List.mem_cons, List.not_mem_nil, or_false] at hm
    have m1 : p1 ≠ b := n1
    rcases hm with rfl | rfl | rfl | rfl | rfl | rfl | rfl | rfl | rfl | rfl | rfl | rfl | rfl | rfl | rfl | rfl | rfl | rfl
    · exact .ps .non
    · exact .ps (.bl _)
    · exact .ps (.bl _)
    · exact .int (by decide)
    · exact .int (by decide)
    · exact .str (by decide +kernel) (by decide +kernel)
    · exact .str (by decide +kernel) (by decide +kernel)
    · exact .str (by decide +kernel) (by decide +kernel)
    · exact .str (by decide +kernel) (by decide +kernel)
    · exact .str (by decide +kernel) (by decide +kernel)
    · exact .lst0 n1 k1
    · exact .tup0 n2 k2
    · exact .lst1 n4 k4
    · exact .dct0 n5 k5
    · exact .int (by decide)
    · exact .int (by decide)
    · exact .int (by decide)
    · exact .str (by decide +kernel) (by decide +kernel)
end

end Ice

set_option Elab.async false
set_option linter.all false
set_option maxRecDepth 100000
set_option maxHeartbeats 4000000
namespace Ice
open PySem PySem.Spec PyProof.Rows L2 TL
/-! side conditions, heaps, one step of a reading, and many -/
local macro_rules | `(tactic| walk_at "hp") => `(tactic| first | assumption | exact upd_same | exact New.at_ (by assumption) | (refine keepU ?_ (by assumption); walk_at "hp") | (refine New.app (by assumption) ?_; walk_at "hp") | (refine Same.app (by assumption) ?_; walk_at "hp") | (refine But.app (by assumption) (by assumption) ?_; walk_at "hp"))
local macro_rules | `(tactic| walk_at "sq") => `(tactic| first | assumption | exact SqL.lst (by walk_at "hp") | exact L2.Same.seq (New.same (by assumption)) (by assumption) | exact L2.Same.seq (by assumption) (by assumption))
local macro_rules | `(tactic| walk_at "len") => `(tactic| first | assumption | (simp only [List.length_cons, List.length_nil, List.length_append, List.length_map]; decide) | (refine Ice.sz_of ?_; simp only [List.length_cons, List.length_nil, List.length_append, List.length_map]; omega))
local macro_rules | `(tactic| walk_at "fresh") => `(tactic| (simp only [List.map_append, List.map_cons, List.map_nil, List.nil_append, List.cons_append]; decide +kernel))
local macro_rules | `(tactic| walk_at "sd") => `(tactic| first | assumption | (show _ ≠ _; omega) | exact Or.inl ⟨by omega, by omega⟩ | exact Or.inr ⟨by omega, by omega⟩ | exact ⟨by decide, by decide⟩ | exact ⟨by decide, by decide, by decide⟩ | exact ⟨by omega, by omega, by omega⟩)
/-! one step of a reading, and many -/
local macro_rules | `(tactic| walk_at "st") => `(tactic| first
  | with_reducible refine i_seq ?_
  | with_reducible refine i_if ?_
  | with_reducible refine i_next ?_
  | with_reducible refine i_ret ?_
  | with_reducible refine i_retN ?_
  | with_reducible refine i_drop ?_
  | with_reducible refine i_asg ?_
  | with_reducible refine i_gname ?_
  | with_reducible refine i_gsub ?_
  | ((with_reducible refine i_var (v := ?vv) ?hv ?_); (case hv => exact rfl))
  | with_reducible refine i_c ?_
  | with_reducible refine i_op ?_
  | with_reducible refine i_un ?_
  | with_reducible refine i_test ?_
  | with_reducible refine i_tB ?_
  | with_reducible refine i_and ?_
  | with_reducible refine i_or ?_
  | with_reducible refine i_not ?_
  | with_reducible refine i_andV ?_
  | with_reducible refine i_orV ?_
  | with_reducible refine i_notV ?_
  | with_reducible refine i_ifE ?_
  | with_reducible refine i_chain ?_
  | with_reducible refine i_bl ?_
  | with_reducible refine i_nil ?_
  | with_reducible refine i_cons ?_
  | with_reducible refine i_call ?_
  | with_reducible refine i_cb ?_
  | with_reducible refine i_rI0 ?_
  | with_reducible refine i_rU ?_
  | ((with_reducible refine i_rEq ?hs ?_); (case hs => exact rfl))
  | ((with_reducible refine i_rNe ?hs ?_); (case hs => exact rfl))
  | ((with_reducible refine i_rI ?hc ?_); (case hc => walk_at "sd"))
  | ((with_reducible refine i_ixL (xs := ?xs) (v := ?vv) ?hS ?he ?_); (case hS => walk_at "sq"); (case he => exact rfl))
  | ((with_reducible refine i_setL (xs := ?xs) (j := ?jj) ?hS ?he ?_); (case hS => walk_at "hp"); (case he => exact rfl))
  | with_reducible refine i_tup ?_
  | with_reducible refine i_lst ?_
  | with_reducible refine i_bm ?_
  | with_reducible refine i_bm0 ?_
  | with_reducible refine i_m1 ?_
  | with_reducible refine i_sl ?_
  | with_reducible refine i_nopart ?_
  | with_reducible refine i_part ?_
  | with_reducible refine i_int ?_
  | with_reducible refine i_str ?_
  | with_reducible refine i_for ?_
  | with_reducible refine i_yes ?_
  | ((with_reducible refine i_lenL (xs := ?xs) ?hS ?_); (case hS => walk_at "sq"))
  | ((with_reducible refine i_room ?hz ?_); (case hz => walk_at "len"))
  | with_reducible refine i_leT ?_
  | with_reducible refine i_notInS ?_
  | with_reducible refine i_inS ?_
  | with_reducible refine i_find ?_
  | with_reducible refine i_isB ?_
  | with_reducible refine i_max2 ?_
  | with_reducible refine i_min2 ?_
  | with_reducible exact trivial
  | with_reducible refine iteT ?_
  | with_reducible refine iteF ?_
  | with_reducible refine i_isstr ?_
  | with_reducible refine i_lc ?_
  | ((with_reducible refine i_cat (xs := ?xs) (zs := ?zs) ?ha ?hb ?hz ?_); (case ha => walk_at "hp"); (case hb => walk_at "hp"); (case hz => walk_at "len"))
  | ((with_reducible refine i_tyL (xs := ?xs) ?ha ?_); (case ha => walk_at "hp"))
  | with_reducible refine i_list ?_
  | with_reducible refine i_disp ?_
  | with_reducible refine i_pairs0 ?_
  | with_reducible refine i_pairs ?_
  | with_reducible refine i_newK ?_
  | with_reducible refine i_gcons ?_
  | with_reducible refine i_gnil ?_
  | with_reducible refine i_revL ?_
  | with_reducible refine i_rng1 ?_
  | ((with_reducible refine i_wipe ?hw ?_); (case hw => exact rfl))
  | with_reducible refine iteNT ?_
  | with_reducible refine iteNF ?_)
local macro_rules | `(tactic| walk_at "sx") => `(tactic| first
  | walk_at "st"
  | with_reducible refine i_kinit ?_
  | with_reducible refine i_ost ?_
  | with_reducible refine i_mkO ?_
  | with_reducible refine i_callE ?_
  | with_reducible refine i_makeE ?_
  | with_reducible refine i_xf ?_
  | with_reducible refine i_sfld ?_
  | with_reducible refine i_fld ?_
  | ((with_reducible refine i_ixT (xs := ?xs) (v := ?vv) ?hS ?he ?_); (case hS => exact SqT.tup (by walk_at "hp")); (case he => exact rfl))
  | with_reducible refine i_intB ?_
  | with_reducible refine i_runS ?_
  | with_reducible refine i_runN ?_
  | ((with_reducible refine i_xf1 (fs := ?ff) (v := ?vv) ?hx ?hl ?_); (case hx => walk_at "hp"); (case hl => exact rfl))
  | with_reducible refine i_methE ?_
  | with_reducible refine i_meth ?_
  | with_reducible refine i_make ?_
  | ((with_reducible refine i_obj (dx := ?dd) (fs := ?ff) ?hx ?hl ?_); (case hx => walk_at "hp"); (case hl => exact rfl))
  | ((with_reducible refine i_fld1 (C := ?CC) (dx := ?dd) (fs := ?ff) (v := ?vv) ?hx ?cl ?na ?hl ?_); (case hx => walk_at "hp"); (case cl => assumption); (case na => assumption); (case hl => exact rfl)))
local macro_rules | `(tactic| walk_at "rd") => `(tactic| repeat (walk_at "sx"))

theorem un64 {k : Nat} {A : Around} (hr : Room k A) : A.units + 64 < cLine := by have := hr.un; omega
section
variable {P : Program} {w : World} {K : PySem.W.Frag} {mg : Str → Option Value} {base : Heap}
def spLName : Sp := fun vs H Q _ => ∃ v, vs = [v] ∧ Th H v ∧ (∀ s, v = .str s → ∀ c ∈ s.cps.toList, c < 128) ∧ ∀ H', Same H H' → Q (.bl (isN v)) H'
def notLow (c : Nat) : Bool := !decide (97 ≤ c ∧ c ≤ 122)
theorem ones_ps : ∀ {l : List Nat}, (∀ c ∈ l, c < 128) → PsAll (l.map fun c => V.str ⟨#[c]⟩) (l.map fun c => PyData.str ⟨#[c]⟩)
  | [], _ => .nil
  | c :: l, h => .cons (.str (show 1 ≤ 64 by decide) (fun z hz => by have : z = c := by simpa using hz
                                                                     rw [this]; exact h c (List.mem_cons_self ..))) (ones_ps fun z hz => h z (List.mem_cons_of_mem _ hz))
theorem eqv_empty (ds : List PyData) : PyData.eqv (.list ds) (.list []) = ds.isEmpty := by cases ds <;> rfl
theorem low_filter {s : Str} (h1 : 1 ≤ s.length) (h2 : s.length ≤ 8) : ((((tl s).filter notLow).map fun c => PyData.str ⟨#[c]⟩).isEmpty) = isN (.str s) := by
  show _ = decide (1 ≤ s.length ∧ s.length ≤ 8 ∧ ∀ c ∈ tl s, 97 ≤ c ∧ c ≤ 122)
  rw [Bool.eq_iff_iff, decide_eq_true_iff, List.isEmpty_iff, List.map_eq_nil_iff, List.filter_eq_nil_iff]
  simp only [notLow]
  constructor
  · intro h
    exact ⟨h1, h2, fun c hc => by simpa using h c hc⟩
  · rintro ⟨_, _, h⟩ c hc
    simpa using h c hc
theorem ok_l_is_name (T : Top K mg) : FnG P w K mg base CX0 1 T.a_l_is_name T.d_l_is_name ["_law_thing"] spLName := by
  refine okG T.F_l_is_name sc_l_is_name (fun vs H Q E h => ?_) (fun cdv A outer s H vs Q E hr hgd h => ?_)
  · obtain ⟨v, rfl, _⟩ := h
    rfl
  · obtain ⟨v, rfl, th, as, q⟩ := h
    have hu64 : _ := un64 hr
    refine ⟨_, (pss_cons (ps_if (PW.pt (pw_or (pt_not (pt_val (pe_callB c_isi (by rfl) T.n_isinstance (by decide +kernel) (pa_cons (pv 0) (pa_cons (pe_bltn (v := .ty "str") (by rfl) T.n_str (by decide +kernel) rfl) pa_nil))))) (pw_or1 (pt_not (pt_chain op_lt op_lt pe_int (pe_callB c_lenS (by rfl) T.n_len (by decide +kernel) (pa_cons (pv 0) pa_nil)) pe_int)))))
        (pss_one (ps_ret pe_bl))
        pss_nil)
      (pss_one (ps_ret (pe_cmpR (op_eqD hu64) (pe_lc (own := [("_law_sign", 1)]) (g := gName 1) rfl sc_l_is_name.nd (pi_str (pv 0)) (blkOk_by (own := [("_law_sign", 1)]) (N := ["_law_thing", "_law_sign"]) (sc := defScope s_l_is_name) (by decide +kernel)) (fun _ _ _ _ _ => (pg_name (i := 1) sc_l_is_name.nd rfl (by first | exact Or.inl rfl | exact Or.inr rfl))) (fun _ _ _ _ _ => (pts_one (pt_cmpR op_notInS (pv 1) pe_str (by rfl)))) (fun _ _ _ _ _ => (pv 1))) (pe_lst pa_nil) (nomark _))))), ?_⟩
    rcases th with ⟨s, rfl, hs⟩ | ⟨n, hn⟩
    · have hz : s.length ≤ sizeLine := sz_of (by omega)
      walk_at "rd"
      refine i_isi ty_str (b := true) (by decide +kernel) ?_
      walk_at "rd"
      refine i_lenS hz ?_
      walk_at "rd"
      have e : isN (.str s) = decide (1 ≤ s.length ∧ s.length ≤ 8 ∧ ∀ c ∈ tl s, 97 ≤ c ∧ c ≤ 122) := rfl
      refine ifs (fun h1 => ?_) (fun h1 => ?_)
      · walk_at "rd"
        refine ifs (fun h2 => ?_) (fun h2 => ?_)
        · walk_at "rd"
          rw [e, decide_eq_false (fun z => by simp at h2; omega)] at q
          exact q _ (Same.refl _)
        · walk_at "rd"
          refine ⟨.str s, rfl, s, rfl, fun D hD => ?_⟩
          have lz : s.length = (tl s).length := (tl_len s).symm
          refine lc_text (fun i H' => H' = upd H D (.lst ((((tl s).take i).filter notLow).map fun c => V.str ⟨#[c]⟩))) rfl ?_ ?_
          · rintro i c H' hc rfl
            have al : (c ∈ (Str.ofString "abcdefghijklmnopqrstuvwxyz").cps.toList) ↔ (97 ≤ c ∧ c ≤ 122) := by
              rw [show (Str.ofString "abcdefghijklmnopqrstuvwxyz").cps.toList = List.range' 97 26 by decide +kernel, List.mem_range'_1]
              omega
            have tk : (tl s).take (i + 1) = (tl s).take i ++ [c] := by rw [List.take_add_one, hc]; rfl
            walk_at "rd"
            simp only [al]
            refine ifs (fun h3 => ?_) (fun h3 => ?_)
            · walk_at "rd"
              refine ⟨_, upd_same, ?_, ?_⟩
              · rw [List.length_map]
                refine small1000 ?_
                have := List.length_filter_le notLow ((tl s).take i)
                rw [List.length_take] at this
                omega
              · rw [upd_upd, tk, List.filter_append, List.filter_cons, if_pos (show notLow c = true from h3), List.filter_nil, List.map_append]
                rfl
            · rw [tk, List.filter_append, List.filter_cons, if_neg (show ¬ notLow c = true from by rw [show notLow c = false from h3]; decide), List.filter_nil, List.append_nil]
          · rintro H' rfl
            rw [List.take_length]
            generalize eJ : upd H D _ = J
            have N : New H D _ J := New.of eJ hD
            walk_at "rd"
            (intro p2 hp2; generalize ep2 : upd _ p2 _ = J2; have N2 := New.of ep2 hp2; clear ep2 hp2)
            have ps : PsAll (((tl s).filter notLow).map fun c => V.str ⟨#[c]⟩) (((tl s).filter notLow).map fun c => PyData.str ⟨#[c]⟩) := ones_ps fun c hc => as s rfl c (List.mem_filter.mp hc).1
            refine ⟨_, .list [], .lst (SqL.lst (N2.app N.at_)) ps.dp, .lst (SqL.lst N2.at_) .nil, ps.shapedL, rfl, ?_⟩
            rw [eqv_empty, low_filter (by simp at h1; omega) (by simp at h2; omega)]
            exact q _ (N.same.trans N2.same)
      · walk_at "rd"
        rw [e, decide_eq_false (fun z => by simp at h1; omega)] at q
        exact q _ (Same.refl _)
    · rw [hn.isN] at q
      walk_at "rd"
      refine i_isi hn.tyx hn.noStr ?_
      walk_at "rd"
      exact q _ (Same.refl _)
end

end Ice

set_option Elab.async false
set_option linter.all false
set_option maxRecDepth 100000
set_option maxHeartbeats 4000000
namespace Ice
open PySem PySem.Spec PyProof.Rows L2 TL
/-! side conditions, heaps, one step of a reading, and many -/
local macro_rules | `(tactic| walk_at "hp") => `(tactic| first | assumption | exact upd_same | exact New.at_ (by assumption) | (refine keepU ?_ (by assumption); walk_at "hp") | (refine New.app (by assumption) ?_; walk_at "hp") | (refine Same.app (by assumption) ?_; walk_at "hp") | (refine But.app (by assumption) (by assumption) ?_; walk_at "hp"))
local macro_rules | `(tactic| walk_at "sq") => `(tactic| first | assumption | exact SqL.lst (by walk_at "hp") | exact L2.Same.seq (New.same (by assumption)) (by assumption) | exact L2.Same.seq (by assumption) (by assumption))
local macro_rules | `(tactic| walk_at "len") => `(tactic| first | assumption | (simp only [List.length_cons, List.length_nil, List.length_append, List.length_map]; decide) | (refine Ice.sz_of ?_; simp only [List.length_cons, List.length_nil, List.length_append, List.length_map]; omega))
local macro_rules | `(tactic| walk_at "fresh") => `(tactic| (simp only [List.map_append, List.map_cons, List.map_nil, List.nil_append, List.cons_append]; decide +kernel))
local macro_rules | `(tactic| walk_at "sd") => `(tactic| first | assumption | (show _ ≠ _; omega) | exact Or.inl ⟨by omega, by omega⟩ | exact Or.inr ⟨by omega, by omega⟩ | exact ⟨by decide, by decide⟩ | exact ⟨by decide, by decide, by decide⟩ | exact ⟨by omega, by omega, by omega⟩)
/-! one step of a reading, and many -/
local macro_rules | `(tactic| walk_at "st") => `(tactic| first
  | with_reducible refine i_seq ?_
  | with_reducible refine i_if ?_
  | with_reducible refine i_next ?_
  | with_reducible refine i_ret ?_
  | with_reducible refine i_retN ?_
  | with_reducible refine i_drop ?_
  | with_reducible refine i_asg ?_
  | with_reducible refine i_gname ?_
  | with_reducible refine i_gsub ?_
  | ((with_reducible refine i_var (v := ?vv) ?hv ?_); (case hv => exact rfl))
  | with_reducible refine i_c ?_
  | with_reducible refine i_op ?_
  | with_reducible refine i_un ?_
  | with_reducible refine i_test ?_
  | with_reducible refine i_tB ?_
  | with_reducible refine i_and ?_
  | with_reducible refine i_or ?_
  | with_reducible refine i_not ?_
  | with_reducible refine i_andV ?_
  | with_reducible refine i_orV ?_
  | with_reducible refine i_notV ?_
  | with_reducible refine i_ifE ?_
  | with_reducible refine i_chain ?_
  | with_reducible refine i_bl ?_
  | with_reducible refine i_nil ?_
  | with_reducible refine i_cons ?_
  | with_reducible refine i_call ?_
  | with_reducible refine i_cb ?_
  | with_reducible refine i_rI0 ?_
  | with_reducible refine i_rU ?_
  | ((with_reducible refine i_rEq ?hs ?_); (case hs => exact rfl))
  | ((with_reducible refine i_rNe ?hs ?_); (case hs => exact rfl))
  | ((with_reducible refine i_rI ?hc ?_); (case hc => walk_at "sd"))
  | ((with_reducible refine i_ixL (xs := ?xs) (v := ?vv) ?hS ?he ?_); (case hS => walk_at "sq"); (case he => exact rfl))
  | ((with_reducible refine i_setL (xs := ?xs) (j := ?jj) ?hS ?he ?_); (case hS => walk_at "hp"); (case he => exact rfl))
  | with_reducible refine i_tup ?_
  | with_reducible refine i_lst ?_
  | with_reducible refine i_bm ?_
  | with_reducible refine i_bm0 ?_
  | with_reducible refine i_m1 ?_
  | with_reducible refine i_sl ?_
  | with_reducible refine i_nopart ?_
  | with_reducible refine i_part ?_
  | with_reducible refine i_int ?_
  | with_reducible refine i_str ?_
  | with_reducible refine i_for ?_
  | with_reducible refine i_yes ?_
  | ((with_reducible refine i_lenL (xs := ?xs) ?hS ?_); (case hS => walk_at "sq"))
  | ((with_reducible refine i_room ?hz ?_); (case hz => walk_at "len"))
  | with_reducible refine i_leT ?_
  | with_reducible refine i_notInS ?_
  | with_reducible refine i_inS ?_
  | with_reducible refine i_find ?_
  | with_reducible refine i_isB ?_
  | with_reducible refine i_max2 ?_
  | with_reducible refine i_min2 ?_
  | with_reducible exact trivial
  | with_reducible refine iteT ?_
  | with_reducible refine iteF ?_
  | with_reducible refine i_isstr ?_
  | with_reducible refine i_lc ?_
  | ((with_reducible refine i_cat (xs := ?xs) (zs := ?zs) ?ha ?hb ?hz ?_); (case ha => walk_at "hp"); (case hb => walk_at "hp"); (case hz => walk_at "len"))
  | ((with_reducible refine i_tyL (xs := ?xs) ?ha ?_); (case ha => walk_at "hp"))
  | with_reducible refine i_list ?_
  | with_reducible refine i_disp ?_
  | with_reducible refine i_pairs0 ?_
  | with_reducible refine i_pairs ?_
  | with_reducible refine i_newK ?_
  | with_reducible refine i_gcons ?_
  | with_reducible refine i_gnil ?_
  | with_reducible refine i_revL ?_
  | with_reducible refine i_rng1 ?_
  | ((with_reducible refine i_wipe ?hw ?_); (case hw => exact rfl))
  | with_reducible refine iteNT ?_
  | with_reducible refine iteNF ?_)
local macro_rules | `(tactic| walk_at "sx") => `(tactic| first
  | walk_at "st"
  | with_reducible refine i_kinit ?_
  | with_reducible refine i_ost ?_
  | with_reducible refine i_mkO ?_
  | with_reducible refine i_callE ?_
  | with_reducible refine i_makeE ?_
  | with_reducible refine i_xf ?_
  | with_reducible refine i_sfld ?_
  | with_reducible refine i_fld ?_
  | ((with_reducible refine i_ixT (xs := ?xs) (v := ?vv) ?hS ?he ?_); (case hS => exact SqT.tup (by walk_at "hp")); (case he => exact rfl))
  | with_reducible refine i_intB ?_
  | with_reducible refine i_runS ?_
  | with_reducible refine i_runN ?_
  | ((with_reducible refine i_xf1 (fs := ?ff) (v := ?vv) ?hx ?hl ?_); (case hx => walk_at "hp"); (case hl => exact rfl))
  | with_reducible refine i_methE ?_
  | with_reducible refine i_meth ?_
  | with_reducible refine i_make ?_
  | ((with_reducible refine i_obj (dx := ?dd) (fs := ?ff) ?hx ?hl ?_); (case hx => walk_at "hp"); (case hl => exact rfl))
  | ((with_reducible refine i_fld1 (C := ?CC) (dx := ?dd) (fs := ?ff) (v := ?vv) ?hx ?cl ?na ?hl ?_); (case hx => walk_at "hp"); (case cl => assumption); (case na => assumption); (case hl => exact rfl)))
local macro_rules | `(tactic| walk_at "rd") => `(tactic| repeat (walk_at "sx"))

theorem ix_tupR {X : Cx} {pn : List (Addr × Obj)} {xe : Value → Shared → Prop} : IxR (X.tr pn xe) (rIxT X.K) := ix_tup (X := X.tr pn xe)
section
variable {P : Program} {w : World} {K : PySem.W.Frag} {mg : Str → Option Value} {base : Heap}
theorem ok_is_number (T : Top K mg) : FnG P w K mg base CX0 1 T.a_is_number T.d_is_number ["_law_thing", "_law_low", "_law_high"] spWithin := by
  refine okG T.F_is_number sc_is_number (fun vs H Q E h => ?_) (fun cdv A outer s H vs Q E hr hgd h => ?_)
  · obtain ⟨v, lo, hi, rfl, _⟩ := h
    rfl
  · obtain ⟨v, lo, hi, rfl, th, q⟩ := h
    obtain ⟨n, ty, k1, k2, k3⟩ := th.ty (K := K)
    refine ⟨_, (pss_one (ps_ret (pe_and (pe_callB c_isi (by rfl) T.n_isinstance (by decide +kernel) (pa_cons (pv 0) (pa_cons (pe_bltn (v := .ty "int") (by rfl) T.n_int (by decide +kernel) rfl) pa_nil))) (pe_and (pe_not (pe_callB c_isi (by rfl) T.n_isinstance (by decide +kernel) (pa_cons (pv 0) (pa_cons (pe_bltn (v := .ty "bool") (by rfl) T.n_bool (by decide +kernel) rfl) pa_nil)))) (pe_one (pe_chain op_le op_le (pv 1) (pv 0) (pv 2))))))), ?_⟩
    walk_at "rd"
    refine i_isi ty k1 ?_
    walk_at "rd"
    refine ifs (fun h1 => ?_) (fun h1 => ?_)
    · walk_at "rd"
      refine i_isi ty k2 ?_
      walk_at "rd"
      refine ifs (fun h2 => ?_) (fun h2 => ?_)
      · have nb : decide (n = "bool") = false := by simpa using h2
        rw [nb, Bool.or_false] at h1
        obtain ⟨i, rfl⟩ : ∃ i, v = .int i := by cases v <;> first | exact ⟨_, rfl⟩ | cases h1
        have e : inB lo hi (.int i) = (decide (lo ≤ i) && decide (i ≤ hi)) := rfl
        rw [e] at q
        walk_at "rd"
        refine ifs (fun h3 => ?_) (fun h3 => ?_)
        · walk_at "rd"
          rw [h3] at q
          exact q
        · rw [h3] at q
          exact q
      · have e : inB lo hi v = false := by
          have : n = "bool" := by simpa using h2
          obtain ⟨b, rfl⟩ := k3 this
          rfl
        rw [e] at q
        exact q
    · have e : inB lo hi v = false := by
        cases v <;> first | rfl | skip
        simp [isW] at h1
      rw [e] at q
      exact q
/-- what is told of an outcome, by the texts of R -/
def tellR (R : V → PyData) : Res → Str × Str
  | .made => (Str.ofString "made", Str.ofString "")
  | .name v => (Str.ofString "name", (R v).shown)
  | .doubled v => (Str.ofString "doubled", (R v).shown)
  | .number v => (Str.ofString "number", (R v).shown)
def spTell (K : PySem.W.Frag) : Sp := fun vs H Q _ => ∃ (p : Addr) (n o t h d f g m : V) (R : V → PyData), vs = [.ref p] ∧ H p = some (.tup [n, o, t, h, d, f, g, m]) ∧
  (∀ v ∈ [n, o, t, h, d, f, g, m], Th H v ∧ (∀ s, v = .str s → ∀ c ∈ s.cps.toList, c < 128) ∧ Rp K H v (R v)) ∧
  ∀ (p2 : Addr) (H' : Hp), Same H H' → H' p2 = some (.tup [.str (tellR R (resC n o t h d f g m)).1, .str (tellR R (resC n o t h d f g m)).2]) → Q (.ref p2) H'
theorem resC_mem {n o t h d f g m v : V} : (resC n o t h d f g m = .name v ∨ resC n o t h d f g m = .doubled v ∨ resC n o t h d f g m = .number v) → v ∈ [n, o, t, h, d, f, g, m] := by
  unfold resC
  cases hf : [n, o, t].find? bad with
  | some u =>
    have := List.mem_of_find?_eq_some hf
    rintro (e | e | e) <;> cases e
    simp at this ⊢
    rcases this with h | h | h <;> simp [h]
  | none =>
    dsimp only
    split
    · rintro (e | e | e) <;> cases e; simp
    split
    · rintro (e | e | e) <;> cases e; simp
    split
    · rintro (e | e | e) <;> cases e; simp
    split
    · rintro (e | e | e) <;> cases e; simp
    split
    · rintro (e | e | e) <;> cases e; simp
    split
    · rintro (e | e | e) <;> cases e; simp
    · rintro (e | e | e) <;> cases e
theorem ok_found (T : Top K mg) : FnG P w K mg base CX0 6 T.a_found T.d_found ["_law_row"] (spTell K) := by
  have G_Channel___init__ := ok_Channel___init__ (P := P) (w := w) (base := base) T
  refine okG T.F_found sc_found (fun vs H Q E h => ?_) (fun cdv A outer s H vs Q E hr hgd h => ?_)
  · obtain ⟨p, n, o, t, h, d, f, g, m, R, rfl, _⟩ := h
    rfl
  · obtain ⟨p, n, o, t, h, d, f, g, m, R, rfl, hp, al, q⟩ := h
    have hu110 := un110 hr
    refine ⟨_, (pss_cons (ps_try_hds rfl rfl sc_found.nd takes0 (fun W pn xe tk po => (pss_one (ps_expr (g_makeE (E := WE _) T.mk_Channel G_Channel___init__ (hr.mono (by decide)) hgd (by rfl) T.c_Channel T.b_Channel___init__ .nil (passAt tk) (pa_cons (pe_ix ix_tupR (pv 0) pe_int (fun _ _ => rfl)) (pa_cons (pe_ix ix_tupR (pv 0) pe_int (fun _ _ => rfl)) (pa_cons (pe_ix ix_tupR (pv 0) pe_int (fun _ _ => rfl)) (pa_cons (pe_ix ix_tupR (pv 0) pe_int (fun _ _ => rfl)) (pa_cons (pe_ix ix_tupR (pv 0) pe_int (fun _ _ => rfl)) (pa_cons (pe_ix ix_tupR (pv 0) pe_int (fun _ _ => rfl)) (pa_cons (pe_ix ix_tupR (pv 0) pe_int (fun _ _ => rfl)) (pa_cons (pe_ix ix_tupR (pv 0) pe_int (fun _ _ => rfl)) pa_nil))))))))))))
      (.named (i := 1) rfl rfl ⟨by rfl, by decide, .inl T.c_NoName⟩ (fun a oe cls d pn hz hf => (pss_one (ps_ret (pe_tup (pa_cons pe_str (pa_cons (pe_callB (c_reprS hgd hu110) (by rfl) T.n_repr (by decide +kernel) (pa_cons (pe_xf T.xf_NoName T.nf_NoName_found hz hf (pv 1)) pa_nil)) pa_nil)))))) (.named (i := 1) rfl rfl ⟨by rfl, by decide, .inl T.c_Doubled⟩ (fun a oe cls d pn hz hf => (pss_one (ps_ret (pe_tup (pa_cons pe_str (pa_cons (pe_callB (c_reprS hgd hu110) (by rfl) T.n_repr (by decide +kernel) (pa_cons (pe_xf T.xf_Doubled T.nf_Doubled_name hz hf (pv 1)) pa_nil)) pa_nil)))))) (.named (i := 1) rfl rfl ⟨by rfl, by decide, .inl T.c_NoNumber⟩ (fun a oe cls d pn hz hf => (pss_one (ps_ret (pe_tup (pa_cons pe_str (pa_cons (pe_callB (c_reprS hgd hu110) (by rfl) T.n_repr (by decide +kernel) (pa_cons (pe_xf T.xf_NoNumber T.nf_NoNumber_found hz hf (pv 1)) pa_nil)) pa_nil)))))) (.plain ⟨by rfl, by decide, .inl T.c_IceError⟩ (fun a oe cls d pn hz hf => (pss_one (ps_ret (pe_tup (pa_cons pe_str (pa_cons pe_str pa_nil)))))) .nil)))))
      (pss_one (ps_ret (pe_tup (pa_cons pe_str (pa_cons pe_str pa_nil)))))), ?_⟩
    walk_at "rd"
    intro x dx hx hdx nex
    have sm : Same H (upd (upd H dx (.own x)) x (.ins T.a_Channel dx [])) := fun a o h => by rw [upd_ne (ne_of_none h hx), upd_ne (ne_of_none h hdx)]; exact h
    refine ⟨x, dx, n, o, t, h, d, f, g, m, rfl, upd_same, fun v hv => (al v hv).1.same sm, ?_⟩
    have mem := @resC_mem n o t h d f g m
    generalize hres : resC n o t h d f g m = res at q mem ⊢
    cases res with
    | made =>
      intro H7 e7 k7
      refine ⟨rfl, ?_⟩
      walk_at "rd"
      (intro u hu; generalize eu : upd _ u _ = J8; have N8 := New.of eu hu; clear eu hu)
      exact q u _ (L2.Same.trans (fun a o h => e7 a o (ne_of_none h hx) (sm a o h)) N8.same) N8.at_
    | name v =>
      intro d' H7 s7 k7
      have rp := (al v (mem (.inl rfl))).2.2.same (sm.trans s7)
      refine ⟨true, T.ex_NoName_NoName, fun _ a ha => ?_, fun z => by cases z⟩
      walk_at "rd"
      refine i_repr rp ?_
      walk_at "rd"
      (intro u hu; generalize eu : upd _ u _ = J8; have N8 := New.of eu hu; clear eu hu)
      exact q u _ (L2.Same.trans (sm.trans s7) N8.same) N8.at_
    | doubled v =>
      intro d' H7 s7 k7
      have rp := (al v (mem (.inr (.inl rfl)))).2.2.same (sm.trans s7)
      refine ⟨false, T.ex_Doubled_NoName, (fun z => by cases z), fun _ => ?_⟩
      refine ⟨true, T.ex_Doubled_Doubled, fun _ a ha => ?_, fun z => by cases z⟩
      walk_at "rd"
      refine i_repr rp ?_
      walk_at "rd"
      (intro u hu; generalize eu : upd _ u _ = J8; have N8 := New.of eu hu; clear eu hu)
      exact q u _ (L2.Same.trans (sm.trans s7) N8.same) N8.at_
    | number v =>
      intro d' H7 s7 k7
      have rp := (al v (mem (.inr (.inr rfl)))).2.2.same (sm.trans s7)
      refine ⟨false, T.ex_NoNumber_NoName, (fun z => by cases z), fun _ => ?_⟩
      refine ⟨false, T.ex_NoNumber_Doubled, (fun z => by cases z), fun _ => ?_⟩
      refine ⟨true, T.ex_NoNumber_NoNumber, fun _ a ha => ?_, fun z => by cases z⟩
      walk_at "rd"
      refine i_repr rp ?_
      walk_at "rd"
      (intro u hu; generalize eu : upd _ u _ = J8; have N8 := New.of eu hu; clear eu hu)
      exact q u _ (L2.Same.trans (sm.trans s7) N8.same) N8.at_
end
end Ice

set_option Elab.async false
set_option linter.all false
set_option maxRecDepth 100000
set_option maxHeartbeats 4000000
namespace Ice
open PySem PySem.Spec PyProof.Rows L2 TL
/-! side conditions, heaps, one step of a reading, and many -/
local macro_rules | `(tactic| walk_at "hp") => `(tactic| first | assumption | exact upd_same | exact New.at_ (by assumption) | (refine keepU ?_ (by assumption); walk_at "hp") | (refine New.app (by assumption) ?_; walk_at "hp") | (refine Same.app (by assumption) ?_; walk_at "hp") | (refine But.app (by assumption) (by assumption) ?_; walk_at "hp"))
local macro_rules | `(tactic| walk_at "sq") => `(tactic| first | assumption | exact SqL.lst (by walk_at "hp") | exact L2.Same.seq (New.same (by assumption)) (by assumption) | exact L2.Same.seq (by assumption) (by assumption))
local macro_rules | `(tactic| walk_at "len") => `(tactic| first | assumption | (simp only [List.length_cons, List.length_nil, List.length_append, List.length_map]; decide) | (refine Ice.sz_of ?_; simp only [List.length_cons, List.length_nil, List.length_append, List.length_map]; omega))
local macro_rules | `(tactic| walk_at "fresh") => `(tactic| (simp only [List.map_append, List.map_cons, List.map_nil, List.nil_append, List.cons_append]; decide +kernel))
local macro_rules | `(tactic| walk_at "sd") => `(tactic| first | assumption | (show _ ≠ _; omega) | exact Or.inl ⟨by omega, by omega⟩ | exact Or.inr ⟨by omega, by omega⟩ | exact ⟨by decide, by decide⟩ | exact ⟨by decide, by decide, by decide⟩ | exact ⟨by omega, by omega, by omega⟩)
/-! one step of a reading, and many -/
local macro_rules | `(tactic| walk_at "st") => `(tactic| first
  | with_reducible refine i_seq ?_
  | with_reducible refine i_if ?_
  | with_reducible refine i_next ?_
  | with_reducible refine i_ret ?_
  | with_reducible refine i_retN ?_
  | with_reducible refine i_drop ?_
  | with_reducible refine i_asg ?_
  | with_reducible refine i_gname ?_
  | with_reducible refine i_gsub ?_
  | ((with_reducible refine i_var (v := ?vv) ?hv ?_); (case hv => exact rfl))
  | with_reducible refine i_c ?_
  | with_reducible refine i_op ?_
  | with_reducible refine i_un ?_
  | with_reducible refine i_test ?_
  | with_reducible refine i_tB ?_
  | with_reducible refine i_and ?_
  | with_reducible refine i_or ?_
  | with_reducible refine i_not ?_
  | with_reducible refine i_andV ?_
  | with_reducible refine i_orV ?_
  | with_reducible refine i_notV ?_
  | with_reducible refine i_ifE ?_
  | with_reducible refine i_chain ?_
  | with_reducible refine i_bl ?_
  | with_reducible refine i_nil ?_
  | with_reducible refine i_cons ?_
  | with_reducible refine i_call ?_
  | with_reducible refine i_cb ?_
  | with_reducible refine i_rI0 ?_
  | with_reducible refine i_rU ?_
  | ((with_reducible refine i_rEq ?hs ?_); (case hs => exact rfl))
  | ((with_reducible refine i_rNe ?hs ?_); (case hs => exact rfl))
  | ((with_reducible refine i_rI ?hc ?_); (case hc => walk_at "sd"))
  | ((with_reducible refine i_ixL (xs := ?xs) (v := ?vv) ?hS ?he ?_); (case hS => walk_at "sq"); (case he => exact rfl))
  | ((with_reducible refine i_setL (xs := ?xs) (j := ?jj) ?hS ?he ?_); (case hS => walk_at "hp"); (case he => exact rfl))
  | with_reducible refine i_tup ?_
  | with_reducible refine i_lst ?_
  | with_reducible refine i_bm ?_
  | with_reducible refine i_bm0 ?_
  | with_reducible refine i_m1 ?_
  | with_reducible refine i_sl ?_
  | with_reducible refine i_nopart ?_
  | with_reducible refine i_part ?_
  | with_reducible refine i_int ?_
  | with_reducible refine i_str ?_
  | with_reducible refine i_for ?_
  | with_reducible refine i_yes ?_
  | ((with_reducible refine i_lenL (xs := ?xs) ?hS ?_); (case hS => walk_at "sq"))
  | ((with_reducible refine i_room ?hz ?_); (case hz => walk_at "len"))
  | with_reducible refine i_leT ?_
  | with_reducible refine i_notInS ?_
  | with_reducible refine i_inS ?_
  | with_reducible refine i_find ?_
  | with_reducible refine i_isB ?_
  | with_reducible refine i_max2 ?_
  | with_reducible refine i_min2 ?_
  | with_reducible exact trivial
  | with_reducible refine iteT ?_
  | with_reducible refine iteF ?_
  | with_reducible refine i_isstr ?_
  | with_reducible refine i_lc ?_
  | ((with_reducible refine i_cat (xs := ?xs) (zs := ?zs) ?ha ?hb ?hz ?_); (case ha => walk_at "hp"); (case hb => walk_at "hp"); (case hz => walk_at "len"))
  | ((with_reducible refine i_tyL (xs := ?xs) ?ha ?_); (case ha => walk_at "hp"))
  | with_reducible refine i_list ?_
  | with_reducible refine i_disp ?_
  | with_reducible refine i_pairs0 ?_
  | with_reducible refine i_pairs ?_
  | with_reducible refine i_newK ?_
  | with_reducible refine i_gcons ?_
  | with_reducible refine i_gnil ?_
  | with_reducible refine i_revL ?_
  | with_reducible refine i_rng1 ?_
  | ((with_reducible refine i_wipe ?hw ?_); (case hw => exact rfl))
  | with_reducible refine iteNT ?_
  | with_reducible refine iteNF ?_)
local macro_rules | `(tactic| walk_at "sx") => `(tactic| first
  | walk_at "st"
  | with_reducible refine i_kinit ?_
  | with_reducible refine i_ost ?_
  | with_reducible refine i_mkO ?_
  | with_reducible refine i_callE ?_
  | with_reducible refine i_makeE ?_
  | with_reducible refine i_xf ?_
  | with_reducible refine i_sfld ?_
  | with_reducible refine i_fld ?_
  | ((with_reducible refine i_ixT (xs := ?xs) (v := ?vv) ?hS ?he ?_); (case hS => exact SqT.tup (by walk_at "hp")); (case he => exact rfl))
  | with_reducible refine i_intB ?_
  | with_reducible refine i_runS ?_
  | with_reducible refine i_runN ?_
  | ((with_reducible refine i_xf1 (fs := ?ff) (v := ?vv) ?hx ?hl ?_); (case hx => walk_at "hp"); (case hl => exact rfl))
  | with_reducible refine i_methE ?_
  | with_reducible refine i_meth ?_
  | with_reducible refine i_make ?_
  | ((with_reducible refine i_obj (dx := ?dd) (fs := ?ff) ?hx ?hl ?_); (case hx => walk_at "hp"); (case hl => exact rfl))
  | ((with_reducible refine i_fld1 (C := ?CC) (dx := ?dd) (fs := ?ff) (v := ?vv) ?hx ?cl ?na ?hl ?_); (case hx => walk_at "hp"); (case cl => assumption); (case na => assumption); (case hl => exact rfl)))
local macro_rules | `(tactic| walk_at "rd") => `(tactic| repeat (walk_at "sx"))

section
variable {K : PySem.W.Frag} {H : Hp} {Q : VK}
theorem i_catA {a b : Addr} {xs ys : List V} (ha : H a = some (.tup xs)) (hb : H b = some (.tup ys)) (hz : xs.length + ys.length ≤ sizeLine) (q : ∀ r H', Same H H' → H' r = some (.tup (xs ++ ys)) → Q (.ref r) H') : rCatA K (.ref a) (.ref b) H Q :=
  ⟨a, b, xs, ys, rfl, rfl, SqT.tup ha, SqT.tup hb, hz, fun e => q b H (Same.refl _) (by rw [e]; exact hb), fun _ e => q a H (Same.refl _) (by rw [e, List.append_nil]; exact ha), fun _ _ p hp => q p _ (Same.new _ hp) upd_same⟩
theorem i_slA {a : Addr} {xs : List V} {lo hi : Option Int} (ha : H a = some (.tup xs)) (q : ∀ r H', Same H H' → H' r = some (.tup (cutV xs lo hi)) → Q (.ref r) H') : rSlA K (.ref a) lo hi H Q := by
  refine ⟨a, xs, rfl, SqT.tup ha, fun e => q a H (Same.refl _) ?_, fun _ p hp => q p _ (Same.new _ hp) upd_same⟩
  have : cutV xs lo hi = xs := by
    unfold cutV
    rw [e.1, e.2]
    simp
  rw [this]; exact ha
end
theorem cutV_to (xs : List V) {a : Nat} (h : a ≤ xs.length) : cutV xs none (some (a : Int)) = xs.take a := by
  unfold cutV
  rw [HT.sIx_none, HT.sIx_nat, Nat.min_eq_left h, List.drop_zero, Nat.sub_zero]
theorem cutV_from (xs : List V) {a : Nat} (h : a ≤ xs.length) : cutV xs (some (a : Int)) none = xs.drop a := by
  unfold cutV
  rw [HT.sIx_none, HT.sIx_nat, Nat.min_eq_left h, List.take_of_length_le (by rw [List.length_drop]; omega)]
section
variable {P : Program} {w : World} {K : PySem.W.Frag} {mg : Str → Option Value} {base : Heap}
def spSpoilt : Sp := fun vs H Q _ => ∃ (b p : Addr) (xs : List V) (n : Nat), vs = [.ref b, .ref p] ∧ Box H b n ∧ n ≤ 700 ∧ H p = some (.tup xs) ∧ xs.length = 8 ∧ (∀ v ∈ xs, OddC b H v) ∧
  ∀ (p2 : Addr) (ys : List V) (H' : Hp), But b H H' → Box H' b (n + 5) → H' p2 = some (.tup ys) → ys.length = 8 → (∀ v ∈ ys, OddC b H' v) → Q (.ref p2) H'
theorem ok_spoilt (T : Top K mg) : FnG P w K mg base CX0 3 T.a_spoilt T.d_spoilt ["_law_box_here", "_law_row"] spSpoilt := by
  have G_take := ok_take (P := P) (w := w) (base := base) T
  have G_odd := ok_odd (P := P) (w := w) (base := base) T
  refine okG T.F_spoilt sc_spoilt (fun vs H Q E h => ?_) (fun cdv A outer s H vs Q E hr hgd h => ?_)
  · obtain ⟨b, p, xs, n, rfl, _⟩ := h
    rfl
  · obtain ⟨b, p, xs, n, rfl, hB, hn, hp, hl, al, q⟩ := h
    have pb : p ≠ b := by
      obtain ⟨_, _, _, h1, _⟩ := hB.ex
      exact ne_of hp h1 (by intro z; cases z)
    obtain ⟨n1, o, t, h, d, f, g, m, rfl⟩ : ∃ n1 o t h d f g m, xs = [n1, o, t, h, d, f, g, m] := by
      match xs, hl with
      | [n1, o, t, h, d, f, g, m], _ => exact ⟨n1, o, t, h, d, f, g, m, rfl⟩
    refine ⟨_, (pss_cons (ps_set (i := 2) sc_spoilt.nd rfl (by first | exact Or.inl rfl | exact Or.inr rfl) (g_call G_take (hr.mono (by decide)) hgd (by rfl) T.m_take T.F_take.kp T.b_take .nil pass0 (pa_cons (pv 0) (pa_cons pe_int pa_nil))))
      (pss_cons (ps_set (i := 3) sc_spoilt.nd rfl (by first | exact Or.inl rfl | exact Or.inr rfl) (g_call G_take (hr.mono (by decide)) hgd (by rfl) T.m_take T.F_take.kp T.b_take .nil pass0 (pa_cons (pv 0) (pa_cons pe_int pa_nil))))
      (pss_cons (ps_set (i := 4) sc_spoilt.nd rfl (by first | exact Or.inl rfl | exact Or.inr rfl) (g_call G_odd (hr.mono (by decide)) hgd (by rfl) T.m_odd T.F_odd.kp T.b_odd .nil pass0 (pa_cons (pv 0) pa_nil)))
      (C8.pss_cut (ps_if (PW.pt (pw_and (pt_cmpR op_gt (pv 2) pe_int (nomark _)) (pw_and1 (pt_cmpR op_eq (pv 3) pe_int (nomark _)))))
        (pss_cons (ps_set (i := 4) sc_spoilt.nd rfl (by first | exact Or.inl rfl | exact Or.inr rfl) (pe_ix ix_list (pe_lst (pa_cons pe_int (pa_cons (pe_un un_neg pe_int) (pa_cons pe_int (pa_cons pe_int (pa_cons (pe_op op_add (pe_op op_pow pe_int pe_int) pe_int) (pa_cons pe_int (pa_cons (pe_op op_add (pe_op op_pow pe_int pe_int) pe_int) (pa_cons (pe_ix ix_tup (pv 1) pe_int (fun _ _ => rfl)) pa_nil))))))))) (pv 2) (fun _ _ => rfl)))
      (pss_one (ps_set (i := 4) sc_spoilt.nd rfl (by first | exact Or.inl rfl | exact Or.inr rfl) (pe_ix ix_list (pe_lst (pa_cons (pv 4) (pa_cons (pe_un un_neg pe_int) (pa_cons (pe_ix ix_list (pe_lst (pa_cons pe_int (pa_cons (pe_un un_neg pe_int) pa_nil))) (pe_callTy c_intB (by rfl) T.n_int (by decide +kernel) (pa_cons (pe_cmpR op_gt (pv 2) pe_int (nomark _)) pa_nil)) (fun _ _ => rfl)) pa_nil)))) (g_call G_take (hr.mono (by decide)) hgd (by rfl) T.m_take T.F_take.kp T.b_take .nil pass0 (pa_cons (pv 0) (pa_cons pe_int pa_nil))) (fun _ _ => rfl)))))
        pss_nil)
      (C8.pss_cut (ps_if (PW.pt (pw_and (pt_cmpR op_lt (pv 2) pe_int (nomark _)) (pw_and1 (pt_cmpR op_eq (pv 3) pe_int (nomark _)))))
        (pss_one (ps_set (i := 4) sc_spoilt.nd rfl (by first | exact Or.inl rfl | exact Or.inr rfl) (pe_ix ix_tup (pv 1) (g_call G_take (hr.mono (by decide)) hgd (by rfl) T.m_take T.F_take.kp T.b_take .nil pass0 (pa_cons (pv 0) (pa_cons pe_int pa_nil))) (fun _ _ => rfl))))
        pss_nil)
      (pss_one (ps_ret (pe_op op_catA (pe_op op_catA (pe_slice sl_tupA (pv 1) po_none (po_some (pv 2))) (pe_tup (pa_cons (pv 4) pa_nil))) (pe_slice sl_tupA (pv 1) (po_some (pe_op op_add (pv 2) pe_int)) po_none))))))))), ?_⟩
    walk_at "rd"
    refine ⟨b, 8, n, rfl, hB, by omega, by decide, by decide, fun at_ H1 a0 a1 e1 B1 => ?_⟩
    walk_at "rd"
    refine ⟨b, 3, _, rfl, B1, by omega, by decide, by decide, fun way H2 w0 w1 e2 B2 => ?_⟩
    walk_at "rd"
    refine ⟨b, _, rfl, B2, by omega, fun v H3 e3 B3 ov => ?_⟩
    walk_at "rd"
    have e03 : But b H H3 := e1.trans (e2.trans e3)
    refine i_cut (fun σ H' => ∃ v, But b H H' ∧ Box H' b (n + 4) ∧ OddC b H' v ∧ σ = [some (.ref b), some (.ref p), some (.int at_), some (.int way), some v]) ?_ ?_
    · walk_at "rd"
      refine ifs (fun h1 => ?_) (fun h1 => ?_)
      · walk_at "rd"
        refine ifs (fun h2 => ?_) (fun h2 => ?_)
        · have kp3 := e03 p _ pb hp
          walk_at "rd"
          (intro p1 hp1; generalize ep1 : upd _ p1 _ = J1; have N1 := New.of ep1 hp1; clear ep1 hp1)
          walk_at "rd"
          have B4 := B3.nw N1
          have e04 := e03.trans N1.but
          have of : OddC b J1 f := (al f (by simp)).but e04
          obtain ⟨u, hv, hm, _⟩ := atI_some (xs := [V.int 0, V.int (-1), V.int 1001, V.int 1001, V.int (10 ^ Int.toNat 6 + 1), V.int 1001, V.int (10 ^ Int.toNat 6 + 1), f]) a0 (by simpa using a1)
          have ou : OddC b J1 u := by
            simp only [List.mem_cons, List.not_mem_nil, or_false] at hm
            rcases hm with rfl | rfl | rfl | rfl | rfl | rfl | rfl | rfl
            all_goals first | exact of | exact .int (by decide)
          refine i_ixL (SqL.lst N1.at_) hv ?_
          walk_at "rd"
          (intro p2 hp2; generalize ep2 : upd _ p2 _ = J2; have N2 := New.of ep2 hp2; clear ep2 hp2)
          walk_at "rd"
          obtain ⟨u2, hv2, ou2⟩ : ∃ u2, atI [V.int 0, V.int (-1)] (if decide (3 < at_) = true then 1 else 0) = some u2 ∧ ∀ H', OddC b H' u2 := by
            split
            · exact ⟨_, rfl, fun _ => .int (by decide)⟩
            · exact ⟨_, rfl, fun _ => .int (by decide)⟩
          refine i_ixL (SqL.lst N2.at_) hv2 ?_
          walk_at "rd"
          (intro p3 hp3; generalize ep3 : upd _ p3 _ = J3; have N3 := New.of ep3 hp3; clear ep3 hp3)
          walk_at "rd"
          have B6 := (B4.nw N2).nw N3
          refine ⟨b, 3, _, rfl, B6, by omega, by decide, by decide, fun d7 H7 d70 d71 e7 B7 => ?_⟩
          obtain ⟨u3, hv3, hm3, _⟩ := atI_some (xs := [u, V.int (-1), u2]) d70 (by simpa using d71)
          refine i_ixL (SqL.lst (e7 p3 _ ((B4.nw N2).off N3) N3.at_)) hv3 ?_
          have e17 : But b J1 H7 := N2.but.trans (N3.but.trans e7)
          refine ⟨u3, e04.trans e17, B7.mono (by omega), ?_, rfl⟩
          simp only [List.mem_cons, List.not_mem_nil, or_false] at hm3
          rcases hm3 with rfl | rfl | rfl
          · exact ou.but e17
          · exact .int (by decide)
          · exact ou2 _
        · exact ⟨v, e03, B3.mono (by omega), ov, rfl⟩
      · exact ⟨v, e03, B3.mono (by omega), ov, rfl⟩
    · rintro σ H4 ⟨v4, e4, B4, ov4, rfl⟩
      have kp4 := e4 p _ pb hp
      refine i_cut (fun σ H' => ∃ v, But b H H' ∧ Box H' b (n + 5) ∧ OddC b H' v ∧ σ = [some (.ref b), some (.ref p), some (.int at_), some (.int way), some v]) ?_ ?_
      · walk_at "rd"
        refine ifs (fun h1 => ?_) (fun h1 => ?_)
        · walk_at "rd"
          refine ifs (fun h2 => ?_) (fun h2 => ?_)
          · walk_at "rd"
            refine ⟨b, 3, _, rfl, B4, by omega, by decide, by decide, fun d7 H7 d70 d71 e7 B7 => ?_⟩
            obtain ⟨u3, hv3, hm3, _⟩ := atI_some (xs := [n1, o, t, h, d, f, g, m]) (i := d7) d70 (by simp; omega)
            refine i_ixT (SqT.tup (e7 p _ pb kp4)) hv3 ?_
            exact ⟨u3, e4.trans e7, B7.mono (by omega), (al u3 hm3).but (e4.trans e7), rfl⟩
          · exact ⟨v4, e4, B4.mono (by omega), ov4, rfl⟩
        · exact ⟨v4, e4, B4.mono (by omega), ov4, rfl⟩
      · rintro σ H5 ⟨v5, e5, B5, ov5, rfl⟩
        have kp5 := e5 p _ pb hp
        obtain ⟨a, rfl⟩ := Int.eq_ofNat_of_zero_le a0
        walk_at "rd"
        refine i_slA kp5 (fun r1 J1 s1 k1 => ?_)
        walk_at "rd"
        (intro p2 hp2; generalize ep2 : upd _ p2 _ = J2; have N2 := New.of ep2 hp2; clear ep2 hp2)
        walk_at "rd"
        have la : a ≤ [n1, o, t, h, d, f, g, m].length := by simp; omega
        have la1 : a + 1 ≤ [n1, o, t, h, d, f, g, m].length := by simp; omega
        have c1 := cutV_to [n1, o, t, h, d, f, g, m] la
        have c2 := cutV_from [n1, o, t, h, d, f, g, m] la1
        have l1 : ([n1, o, t, h, d, f, g, m].take a).length = a := by rw [List.length_take]; exact Nat.min_eq_left la
        have l2 : ([n1, o, t, h, d, f, g, m].drop (a + 1)).length = 8 - (a + 1) := by rw [List.length_drop]; rfl
        rw [c1] at k1
        refine i_catA (N2.app k1) N2.at_ (sz_of (by rw [l1]; show a + 1 ≤ _; omega)) (fun r3 J3 s3 k3 => ?_)
        walk_at "rd"
        have s53 : Same H5 J3 := s1.trans (N2.same.trans s3)
        refine i_slA (s53 _ _ kp5) (fun r4 J4 s4 k4 => ?_)
        rw [show ((a : Int) + 1) = ((a + 1 : Nat) : Int) by simp, c2] at k4
        refine i_catA (s4 _ _ k3) k4 (sz_of (by rw [List.length_append, l1, l2]; show (a + 1) + _ ≤ _; omega)) (fun r5 J5 s5 k5 => ?_)
        have s55 : Same H5 J5 := s53.trans (s4.trans s5)
        have e55 : But b H J5 := e5.trans (Ice.Same.but s55)
        refine q r5 _ J5 e55 (B5.same s55) k5 (by rw [List.length_append, List.length_append, l1, l2]; show (a + 1) + _ = 8; omega) ?_
        intro v hv
        rcases List.mem_append.mp hv with z | z
        · rcases List.mem_append.mp z with z | z
          · exact (al v (List.mem_of_mem_take z)).but e55
          · have : v = v5 := by simpa using z
            rw [this]; exact ov5.but (Ice.Same.but s55)
        · exact (al v (List.mem_of_mem_drop z)).but e55
end
end Ice

set_option Elab.async false
set_option linter.all false
set_option maxRecDepth 100000
set_option maxHeartbeats 4000000
namespace Ice
open PySem PySem.Spec PyProof.Rows L2 TL
/-! side conditions, heaps, one step of a reading, and many -/
local macro_rules | `(tactic| walk_at "hp") => `(tactic| first | assumption | exact upd_same | exact New.at_ (by assumption) | (refine keepU ?_ (by assumption); walk_at "hp") | (refine New.app (by assumption) ?_; walk_at "hp") | (refine Same.app (by assumption) ?_; walk_at "hp") | (refine But.app (by assumption) (by assumption) ?_; walk_at "hp"))
local macro_rules | `(tactic| walk_at "sq") => `(tactic| first | assumption | exact SqL.lst (by walk_at "hp") | exact L2.Same.seq (New.same (by assumption)) (by assumption) | exact L2.Same.seq (by assumption) (by assumption))
local macro_rules | `(tactic| walk_at "len") => `(tactic| first | assumption | (simp only [List.length_cons, List.length_nil, List.length_append, List.length_map]; decide) | (refine Ice.sz_of ?_; simp only [List.length_cons, List.length_nil, List.length_append, List.length_map]; omega))
local macro_rules | `(tactic| walk_at "fresh") => `(tactic| (simp only [List.map_append, List.map_cons, List.map_nil, List.nil_append, List.cons_append]; decide +kernel))
local macro_rules | `(tactic| walk_at "sd") => `(tactic| first | assumption | (show _ ≠ _; omega) | exact Or.inl ⟨by omega, by omega⟩ | exact Or.inr ⟨by omega, by omega⟩ | exact ⟨by decide, by decide⟩ | exact ⟨by decide, by decide, by decide⟩ | exact ⟨by omega, by omega, by omega⟩)
/-! one step of a reading, and many -/
local macro_rules | `(tactic| walk_at "st") => `(tactic| first
  | with_reducible refine i_seq ?_
  | with_reducible refine i_if ?_
  | with_reducible refine i_next ?_
  | with_reducible refine i_ret ?_
  | with_reducible refine i_retN ?_
  | with_reducible refine i_drop ?_
  | with_reducible refine i_asg ?_
  | with_reducible refine i_gname ?_
  | with_reducible refine i_gsub ?_
  | ((with_reducible refine i_var (v := ?vv) ?hv ?_); (case hv => exact rfl))
  | with_reducible refine i_c ?_
  | with_reducible refine i_op ?_
  | with_reducible refine i_un ?_
  | with_reducible refine i_test ?_
  | with_reducible refine i_tB ?_
  | with_reducible refine i_and ?_
  | with_reducible refine i_or ?_
  | with_reducible refine i_not ?_
  | with_reducible refine i_andV ?_
  | with_reducible refine i_orV ?_
  | with_reducible refine i_notV ?_
  | with_reducible refine i_ifE ?_
  | with_reducible refine i_chain ?_
  | with_reducible refine i_bl ?_
  | with_reducible refine i_nil ?_
  | with_reducible refine i_cons ?_
  | with_reducible refine i_call ?_
  | with_reducible refine i_cb ?_
  | with_reducible refine i_rI0 ?_
  | with_reducible refine i_rU ?_
  | ((with_reducible refine i_rEq ?hs ?_); (case hs => exact rfl))
  | ((with_reducible refine i_rNe ?hs ?_); (case hs => exact rfl))
  | ((with_reducible refine i_rI ?hc ?_); (case hc => walk_at "sd"))
  | ((with_reducible refine i_ixL (xs := ?xs) (v := ?vv) ?hS ?he ?_); (case hS => walk_at "sq"); (case he => exact rfl))
  | ((with_reducible refine i_setL (xs := ?xs) (j := ?jj) ?hS ?he ?_); (case hS => walk_at "hp"); (case he => exact rfl))
  | with_reducible refine i_tup ?_
  | with_reducible refine i_lst ?_
  | with_reducible refine i_bm ?_
  | with_reducible refine i_bm0 ?_
  | with_reducible refine i_m1 ?_
  | with_reducible refine i_sl ?_
  | with_reducible refine i_nopart ?_
  | with_reducible refine i_part ?_
  | with_reducible refine i_int ?_
  | with_reducible refine i_str ?_
  | with_reducible refine i_for ?_
  | with_reducible refine i_yes ?_
  | ((with_reducible refine i_lenL (xs := ?xs) ?hS ?_); (case hS => walk_at "sq"))
  | ((with_reducible refine i_room ?hz ?_); (case hz => walk_at "len"))
  | with_reducible refine i_leT ?_
  | with_reducible refine i_notInS ?_
  | with_reducible refine i_inS ?_
  | with_reducible refine i_find ?_
  | with_reducible refine i_isB ?_
  | with_reducible refine i_max2 ?_
  | with_reducible refine i_min2 ?_
  | with_reducible exact trivial
  | with_reducible refine iteT ?_
  | with_reducible refine iteF ?_
  | with_reducible refine i_isstr ?_
  | with_reducible refine i_lc ?_
  | ((with_reducible refine i_cat (xs := ?xs) (zs := ?zs) ?ha ?hb ?hz ?_); (case ha => walk_at "hp"); (case hb => walk_at "hp"); (case hz => walk_at "len"))
  | ((with_reducible refine i_tyL (xs := ?xs) ?ha ?_); (case ha => walk_at "hp"))
  | with_reducible refine i_list ?_
  | with_reducible refine i_disp ?_
  | with_reducible refine i_pairs0 ?_
  | with_reducible refine i_pairs ?_
  | with_reducible refine i_newK ?_
  | with_reducible refine i_gcons ?_
  | with_reducible refine i_gnil ?_
  | with_reducible refine i_revL ?_
  | with_reducible refine i_rng1 ?_
  | ((with_reducible refine i_wipe ?hw ?_); (case hw => exact rfl))
  | with_reducible refine iteNT ?_
  | with_reducible refine iteNF ?_)
local macro_rules | `(tactic| walk_at "sx") => `(tactic| first
  | walk_at "st"
  | with_reducible refine i_kinit ?_
  | with_reducible refine i_ost ?_
  | with_reducible refine i_mkO ?_
  | with_reducible refine i_callE ?_
  | with_reducible refine i_makeE ?_
  | with_reducible refine i_xf ?_
  | with_reducible refine i_sfld ?_
  | with_reducible refine i_fld ?_
  | ((with_reducible refine i_ixT (xs := ?xs) (v := ?vv) ?hS ?he ?_); (case hS => exact SqT.tup (by walk_at "hp")); (case he => exact rfl))
  | with_reducible refine i_intB ?_
  | with_reducible refine i_runS ?_
  | with_reducible refine i_runN ?_
  | ((with_reducible refine i_xf1 (fs := ?ff) (v := ?vv) ?hx ?hl ?_); (case hx => walk_at "hp"); (case hl => exact rfl))
  | with_reducible refine i_methE ?_
  | with_reducible refine i_meth ?_
  | with_reducible refine i_make ?_
  | ((with_reducible refine i_obj (dx := ?dd) (fs := ?ff) ?hx ?hl ?_); (case hx => walk_at "hp"); (case hl => exact rfl))
  | ((with_reducible refine i_fld1 (C := ?CC) (dx := ?dd) (fs := ?ff) (v := ?vv) ?hx ?cl ?na ?hl ?_); (case hx => walk_at "hp"); (case cl => assumption); (case na => assumption); (case hl => exact rfl)))
local macro_rules | `(tactic| walk_at "rd") => `(tactic| repeat (walk_at "sx"))

section
variable {K : PySem.W.Frag} {σ : L2.St} {H : Hp}
theorem i_tupI {te : TE} {R : It → Hp → Prop} (h : te σ H fun x H1 => ∃ a, x = .ref a ∧ (∃ xs, SqT K H1 a xs) ∧ R (Itt K a) H1) : iTup K te σ H R := h
theorem i_zipM {ta : TA} {R : It → Hp → Prop} (h : ta σ H fun vs H1 => ∃ a b xs ys, vs = [.ref a, .ref b] ∧ SqT K H1 a xs ∧ SqL K H1 b ys ∧ R (ItM K a b) H1) : iZipM K ta σ H R := h
end
section
variable {P : Program} {w : World} {K : PySem.W.Frag} {mg : Str → Option Value} {base : Heap}
theorem not_bad {v : V} (h : bad v = false) : isN v = true := by simpa [bad] using h
theorem ok_due (T : Top K mg) : FnG P w K mg base CX0 2 T.a_due T.d_due ["_law_row"] (spTell K) := by
  have G_is_number := ok_is_number (P := P) (w := w) (base := base) T
  have G_l_is_name := ok_l_is_name (P := P) (w := w) (base := base) T
  refine okG T.F_due sc_due (fun vs H Q E h => ?_) (fun cdv A outer s H vs Q E hr hgd h => ?_)
  · obtain ⟨p, n, o, t, h, d, f, g, m, R, rfl, _⟩ := h
    rfl
  · obtain ⟨p, n, o, t, h, d, f, g, m, R, rfl, hp, al, q⟩ := h
    have hu110 := un110 hr
    refine ⟨_, (pss_cons (ps_for PassesOwn.never rfl (pi_tup (pe_slice sl_tupA (pv 0) po_none (po_some pe_int))) (pg_name (i := 1) sc_due.nd rfl (by first | exact Or.inl rfl | exact Or.inr rfl))
        (pss_one (ps_if (pt_not (pt_val (g_call G_l_is_name (hr.mono (by decide)) hgd (by rfl) T.m_l_is_name T.F_l_is_name.kp T.b_l_is_name .nil pass0 (pa_cons (pv 1) pa_nil))))
        (pss_one (ps_ret (pe_tup (pa_cons pe_str (pa_cons (pe_callB (c_repr hgd hu110) (by rfl) T.n_repr (by decide +kernel) (pa_cons (pv 1) pa_nil)) pa_nil)))))
        pss_nil)))
      (pss_cons (ps_if (pt_cmpR op_eq (pe_ix ix_tup (pv 0) pe_int (fun _ _ => rfl)) (pe_ix ix_tup (pv 0) pe_int (fun _ _ => rfl)) (nomark _))
        (pss_one (ps_ret (pe_tup (pa_cons pe_str (pa_cons (pe_callB (c_repr hgd hu110) (by rfl) T.n_repr (by decide +kernel) (pa_cons (pe_ix ix_tup (pv 0) pe_int (fun _ _ => rfl)) pa_nil)) pa_nil)))))
        pss_nil)
      (pss_cons (ps_set (i := 2) sc_due.nd rfl (by first | exact Or.inl rfl | exact Or.inr rfl) (pe_lst (pa_cons (pe_tup (pa_cons pe_int (pa_cons pe_int pa_nil))) (pa_cons (pe_tup (pa_cons pe_int (pa_cons pe_int pa_nil))) (pa_cons (pe_tup (pa_cons pe_int (pa_cons (pe_op op_pow pe_int pe_int) pa_nil))) (pa_cons (pe_tup (pa_cons pe_int (pa_cons pe_int pa_nil))) (pa_cons (pe_tup (pa_cons (pe_ix ix_tup (pv 0) pe_int (fun _ _ => rfl)) (pa_cons (pe_op op_pow pe_int pe_int) pa_nil))) pa_nil)))))))
      (pss_cons (ps_for PassesOwn.never rfl (pi_zipM (by rfl) T.n_zip (pa_cons (pe_slice sl_tupA (pv 0) (po_some pe_int) (po_some pe_int)) (pa_cons (pv 2) pa_nil))) (pg_tup rfl (pgs_cons (pg_name (i := 1) sc_due.nd rfl (by first | exact Or.inl rfl | exact Or.inr rfl)) (pgs_cons (pg_tup rfl (pgs_cons (pg_name (i := 3) sc_due.nd rfl (by first | exact Or.inl rfl | exact Or.inr rfl)) (pgs_cons (pg_name (i := 4) sc_due.nd rfl (by first | exact Or.inl rfl | exact Or.inr rfl)) pgs_nil))) pgs_nil)))
        (pss_one (ps_if (pt_not (pt_val (g_call G_is_number (hr.mono (by decide)) hgd (by rfl) T.m_is_number T.F_is_number.kp T.b_is_number .nil pass0 (pa_cons (pv 1) (pa_cons (pv 3) (pa_cons (pv 4) pa_nil))))))
        (pss_one (ps_ret (pe_tup (pa_cons pe_str (pa_cons (pe_callB (c_repr hgd hu110) (by rfl) T.n_repr (by decide +kernel) (pa_cons (pv 1) pa_nil)) pa_nil)))))
        pss_nil)))
      (pss_cons (ps_if (pt_not (pt_val (g_call G_is_number (hr.mono (by decide)) hgd (by rfl) T.m_is_number T.F_is_number.kp T.b_is_number .nil pass0 (pa_cons (pe_ix ix_tup (pv 0) pe_int (fun _ _ => rfl)) (pa_cons (pe_ix ix_tup (pv 0) pe_int (fun _ _ => rfl)) (pa_cons (pe_op op_pow pe_int pe_int) pa_nil))))))
        (pss_one (ps_ret (pe_tup (pa_cons pe_str (pa_cons (pe_callB (c_repr hgd hu110) (by rfl) T.n_repr (by decide +kernel) (pa_cons (pe_ix ix_tup (pv 0) pe_int (fun _ _ => rfl)) pa_nil)) pa_nil)))))
        pss_nil)
      (pss_one (ps_ret (pe_tup (pa_cons pe_str (pa_cons pe_str pa_nil)))))))))), ?_⟩
    walk_at "rd"
    refine i_tupI ?_
    walk_at "rd"
    refine i_slA hp (fun r1 J1 s1 k1 => ?_)
    have c1 : cutV [n, o, t, h, d, f, g, m] none (some 3) = [n, o, t] := (cutV_to [n, o, t, h, d, f, g, m] (a := 3) (by simp)).trans rfl
    rw [c1] at k1
    refine ⟨r1, rfl, ⟨_, SqT.tup k1⟩, ?_⟩
    refine for_tup (K := K) (a := r1) (xs := [n, o, t]) (fun i σ H' => Same J1 H' ∧ ([n, o, t].take i).find? bad = none ∧ ∃ s1 s2 s3 s4, σ = [some (.ref p), s1, s2, s3, s4])
      ⟨Same.refl _, rfl, _, _, _, _, rfl⟩ (fun i σ H' _ h => SqT.tup (h.1 _ _ k1)) ?_ ?_
    · rintro i v σ H1 hi ⟨sH, hf, z1, z2, z3, z4, rfl⟩
      obtain ⟨f1, f2⟩ := find_take hf hi
      have hv := al v (by have := List.mem_of_getElem? hi; simp at this ⊢; rcases this with h | h | h <;> simp [h])
      have sHH := s1.trans sH
      walk_at "rd"
      refine ⟨v, rfl, hv.1.same sHH, hv.2.1, fun H2 s2 => ?_⟩
      walk_at "rd"
      refine ifs (fun h1 => ?_) (fun h1 => ?_)
      · walk_at "rd"
        refine i_repr (hv.2.2.same (sHH.trans s2)) ?_
        walk_at "rd"
        (intro u hu; generalize eu : upd _ u _ = J8; have N8 := New.of eu hu; clear eu hu)
        unfold resC at q
        rw [f1 h1] at q
        exact q u _ (L2.Same.trans (sHH.trans s2) N8.same) N8.at_
      · exact ⟨sH.trans s2, f2 (by simpa [bad] using h1), _, _, _, _, rfl⟩
    · rintro σ H1 ⟨sH, hf, z1, z2, z3, z4, rfl⟩
      have hf' : [n, o, t].find? bad = none := hf
      have sHH := s1.trans sH
      obtain ⟨bo, bt⟩ : bad o = false ∧ bad t = false := by simp at hf'; exact ⟨hf'.2.1, hf'.2.2⟩
      obtain ⟨so, rfl⟩ := name_of (H := H) bo
      obtain ⟨st, rfl⟩ := name_of (H := H) bt
      have hp1 := sHH _ _ hp
      walk_at "rd"
      refine ifs (fun h1 => ?_) (fun h1 => ?_)
      · walk_at "rd"
        refine i_repr ((al (.str so) (by simp)).2.2.same sHH) ?_
        walk_at "rd"
        (intro u hu; generalize eu : upd _ u _ = J8; have N8 := New.of eu hu; clear eu hu)
        unfold resC at q
        rw [hf'] at q
        dsimp only at q
        rw [if_pos (of_decide_eq_true h1)] at q
        exact q u _ (L2.Same.trans sHH N8.same) N8.at_
      · walk_at "rd"
        have hne : ¬ V.str so = V.str st := of_decide_eq_false h1
        have hR : resC n (.str so) (.str st) h d f g m = (if inB 1 1000 h = false then .number h else if inB 0 1000 d = false then .number d else if inB 0 1000000 f = false then .number f else if inB 0 1000 g = false then .number g else if inV6 f m = false then .number m else .made) := by
          unfold resC
          rw [hf']
          dsimp only
          rw [if_neg hne]
        rw [hR] at q
        have e6 : (10 : Int) ^ Int.toNat 6 = 1000000 := by decide
        (intro t1 ht1; generalize et1 : upd _ t1 _ = I1; have M1 := New.of et1 ht1; clear et1 ht1)
        walk_at "rd"
        (intro t2 ht2; generalize et2 : upd _ t2 _ = I2; have M2 := New.of et2 ht2; clear et2 ht2)
        walk_at "rd"
        (intro t3 ht3; generalize et3 : upd _ t3 _ = I3; have M3 := New.of et3 ht3; clear et3 ht3)
        walk_at "rd"
        (intro t4 ht4; generalize et4 : upd _ t4 _ = I4; have M4 := New.of et4 ht4; clear et4 ht4)
        have hp4 := M4.app (M3.app (M2.app (M1.app hp1)))
        walk_at "rd"
        (intro t5 ht5; generalize et5 : upd _ t5 _ = I5; have M5 := New.of et5 ht5; clear et5 ht5)
        walk_at "rd"
        (intro L hL; generalize eL : upd _ L _ = I6; have M6 := New.of eL hL; clear eL hL)
        have hp6 := M6.app (M5.app hp4)
        have k1' : I6 t1 = some _ := M6.app (M5.app (M4.app (M3.app (M2.app M1.at_))))
        have k2' : I6 t2 = some _ := M6.app (M5.app (M4.app (M3.app M2.at_)))
        have k3' : I6 t3 = some _ := M6.app (M5.app (M4.app M3.at_))
        have k4' : I6 t4 = some _ := M6.app (M5.app M4.at_)
        have s16 : Same H1 I6 := M1.same.trans (M2.same.trans (M3.same.trans (M4.same.trans (M5.same.trans M6.same))))
        walk_at "rd"
        refine i_zipM ?_
        walk_at "rd"
        refine i_slA hp6 (fun r2 J2 s2 k2 => ?_)
        have c2 : cutV [n, V.str so, V.str st, h, d, f, g, m] (some 3) (some 7) = [h, d, f, g] := rfl
        rw [c2] at k2
        walk_at "rd"
        have sH2 := (sHH.trans s16).trans s2
        refine ⟨r2, L, [h, d, f, g], [.ref t1, .ref t2, .ref t3, .ref t4, .ref t5], rfl, SqT.tup k2, SqL.lst (s2 _ _ M6.at_), ?_⟩
        refine for_zipM (K := K) (a := r2) (b := L) (xs := [h, d, f, g]) (ys := [.ref t1, .ref t2, .ref t3, .ref t4, .ref t5]) (by simp)
          (fun i σ H' => Same J2 H' ∧ ((0 < i → inB 1 1000 h = true) ∧ (1 < i → inB 0 1000 d = true) ∧ (2 < i → inB 0 1000000 f = true) ∧ (3 < i → inB 0 1000 g = true)) ∧ ∃ z1 z2 z3 z4, σ = [some (.ref p), z1, z2, z3, z4])
          ⟨Same.refl _, ⟨by omega, by omega, by omega, by omega⟩, _, _, _, _, rfl⟩ (fun i σ H' h => ⟨SqT.tup (h.1 _ _ k2), SqL.lst (h.1 _ _ (s2 _ _ M6.at_))⟩) ?_ ?_
        · rintro i x y U σ H3 hx hy ⟨s3, ⟨b1, b2, b3, b4⟩, z1, z2, z3, z4, rfl⟩ hU
          obtain ⟨tk, lo, hi, rfl, htk, g1, g2⟩ : ∃ (tk : Addr) (lo hi : Int), y = .ref tk ∧ I6 tk = some (.tup [.int lo, .int hi]) ∧
              (inB lo hi x = true → ((0 < i + 1 → inB 1 1000 h = true) ∧ (1 < i + 1 → inB 0 1000 d = true) ∧ (2 < i + 1 → inB 0 1000000 f = true) ∧ (3 < i + 1 → inB 0 1000 g = true))) ∧
              (inB lo hi x = false → resC n (.str so) (.str st) h d f g m = .number x) := by
            rw [hR]
            match i, hx, hy with
            | 0, hx, hy =>
              cases hx; cases hy
              exact ⟨t1, _, _, rfl, k1', fun z => ⟨fun _ => z, by omega, by omega, by omega⟩, fun z => by rw [if_pos z]⟩
            | 1, hx, hy =>
              cases hx; cases hy
              exact ⟨t2, _, _, rfl, k2', fun z => ⟨fun _ => b1 (by omega), fun _ => z, by omega, by omega⟩, fun z => by rw [if_neg (by rw [b1 (by omega)]; decide), if_pos z]⟩
            | 2, hx, hy =>
              cases hx; cases hy
              rw [e6] at k3'
              exact ⟨t3, _, _, rfl, k3', fun z => ⟨fun _ => b1 (by omega), fun _ => b2 (by omega), fun _ => z, by omega⟩, fun z => by rw [if_neg (by rw [b1 (by omega)]; decide), if_neg (by rw [b2 (by omega)]; decide), if_pos z]⟩
            | 3, hx, hy =>
              cases hx; cases hy
              exact ⟨t4, _, _, rfl, k4', fun z => ⟨fun _ => b1 (by omega), fun _ => b2 (by omega), fun _ => b3 (by omega), fun _ => z⟩, fun z => by rw [if_neg (by rw [b1 (by omega)]; decide), if_neg (by rw [b2 (by omega)]; decide), if_neg (by rw [b3 (by omega)]; decide), if_pos z]⟩
            | k + 4, hx, hy => simp at hx
          have hv := al x (by have := List.mem_of_getElem? hx; simp at this ⊢; rcases this with h | h | h | h <;> simp [h])
          have sN : Same H3 (upd H3 U (.tup [x, .ref tk])) := Same.new _ hU
          have sHN := sH2.trans (s3.trans sN)
          refine i_gtup (xs := [x, .ref tk]) (SqT.tup upd_same) rfl ?_
          walk_at "rd"
          refine i_gtup (xs := [.int lo, .int hi]) (SqT.tup (sN _ _ (s3 _ _ (s2 _ _ htk)))) rfl ?_
          walk_at "rd"
          refine ⟨x, lo, hi, rfl, hv.1.same sHN, ?_⟩
          walk_at "rd"
          refine ifs (fun h1 => ?_) (fun h1 => ?_)
          · walk_at "rd"
            refine i_repr (hv.2.2.same sHN) ?_
            walk_at "rd"
            (intro u hu; generalize eu : upd _ u _ = J8; have N8 := New.of eu hu; clear eu hu)
            rw [← hR, g2 (by simpa using h1)] at q
            exact q u _ (L2.Same.trans sHN N8.same) N8.at_
          · exact ⟨s3.trans sN, g1 (by simpa using h1), _, _, _, _, rfl⟩
        · rintro σ H3 ⟨s3, ⟨b1, b2, b3, b4⟩, z1, z2, z3, z4, rfl⟩
          have l0 : (0 : Nat) < 4 := by decide
          have l1 : (1 : Nat) < 4 := by decide
          have l2 : (2 : Nat) < 4 := by decide
          have l3 : (3 : Nat) < 4 := by decide
          have w1 := b1 l0
          have w2 := b2 l1
          have w3 := b3 l2
          have w4 := b4 l3
          have sHN := sH2.trans s3
          have hpN := sHN _ _ hp
          obtain ⟨lo, rfl⟩ : ∃ i, f = .int i := by cases f <;> first | exact ⟨_, rfl⟩ | cases w3
          have hv := al m (by simp)
          rw [if_neg (by rw [w1]; decide), if_neg (by rw [w2]; decide), if_neg (by rw [w3]; decide), if_neg (by rw [w4]; decide)] at q
          walk_at "rd"
          refine ⟨m, lo, _, rfl, hv.1.same sHN, ?_⟩
          walk_at "rd"
          rw [e6]
          refine ifs (fun h1 => ?_) (fun h1 => ?_)
          · walk_at "rd"
            refine i_repr (hv.2.2.same sHN) ?_
            walk_at "rd"
            (intro u hu; generalize eu : upd _ u _ = J8; have N8 := New.of eu hu; clear eu hu)
            rw [if_pos (show inV6 (.int lo) m = false from (by simpa using h1 : inB lo 1000000 m = false))] at q
            exact q u _ (L2.Same.trans sHN N8.same) N8.at_
          · walk_at "rd"
            (intro u hu; generalize eu : upd _ u _ = J8; have N8 := New.of eu hu; clear eu hu)
            rw [if_neg (show ¬ inV6 (.int lo) m = false from (by simpa using h1 : ¬ inB lo 1000000 m = false))] at q
            exact q u _ (L2.Same.trans sHN N8.same) N8.at_
end
end Ice

set_option Elab.async false
set_option linter.all false
set_option maxRecDepth 100000
set_option maxHeartbeats 4000000
namespace Ice
open PySem PySem.Spec PyProof.Rows L2 TL
/-! side conditions, heaps, one step of a reading, and many -/
local macro_rules | `(tactic| walk_at "hp") => `(tactic| first | assumption | exact upd_same | exact New.at_ (by assumption) | (refine keepU ?_ (by assumption); walk_at "hp") | (refine New.app (by assumption) ?_; walk_at "hp") | (refine Same.app (by assumption) ?_; walk_at "hp") | (refine But.app (by assumption) (by assumption) ?_; walk_at "hp"))
local macro_rules | `(tactic| walk_at "sq") => `(tactic| first | assumption | exact SqL.lst (by walk_at "hp") | exact L2.Same.seq (New.same (by assumption)) (by assumption) | exact L2.Same.seq (by assumption) (by assumption))
local macro_rules | `(tactic| walk_at "len") => `(tactic| first | assumption | (simp only [List.length_cons, List.length_nil, List.length_append, List.length_map]; decide) | (refine Ice.sz_of ?_; simp only [List.length_cons, List.length_nil, List.length_append, List.length_map]; omega))
local macro_rules | `(tactic| walk_at "fresh") => `(tactic| (simp only [List.map_append, List.map_cons, List.map_nil, List.nil_append, List.cons_append]; decide +kernel))
local macro_rules | `(tactic| walk_at "sd") => `(tactic| first | assumption | (show _ ≠ _; omega) | exact Or.inl ⟨by omega, by omega⟩ | exact Or.inr ⟨by omega, by omega⟩ | exact ⟨by decide, by decide⟩ | exact ⟨by decide, by decide, by decide⟩ | exact ⟨by omega, by omega, by omega⟩)
/-! one step of a reading, and many -/
local macro_rules | `(tactic| walk_at "st") => `(tactic| first
  | with_reducible refine i_seq ?_
  | with_reducible refine i_if ?_
  | with_reducible refine i_next ?_
  | with_reducible refine i_ret ?_
  | with_reducible refine i_retN ?_
  | with_reducible refine i_drop ?_
  | with_reducible refine i_asg ?_
  | with_reducible refine i_gname ?_
  | with_reducible refine i_gsub ?_
  | ((with_reducible refine i_var (v := ?vv) ?hv ?_); (case hv => exact rfl))
  | with_reducible refine i_c ?_
  | with_reducible refine i_op ?_
  | with_reducible refine i_un ?_
  | with_reducible refine i_test ?_
  | with_reducible refine i_tB ?_
  | with_reducible refine i_and ?_
  | with_reducible refine i_or ?_
  | with_reducible refine i_not ?_
  | with_reducible refine i_andV ?_
  | with_reducible refine i_orV ?_
  | with_reducible refine i_notV ?_
  | with_reducible refine i_ifE ?_
  | with_reducible refine i_chain ?_
  | with_reducible refine i_bl ?_
  | with_reducible refine i_nil ?_
  | with_reducible refine i_cons ?_
  | with_reducible refine i_call ?_
  | with_reducible refine i_cb ?_
  | with_reducible refine i_rI0 ?_
  | with_reducible refine i_rU ?_
  | ((with_reducible refine i_rEq ?hs ?_); (case hs => exact rfl))
  | ((with_reducible refine i_rNe ?hs ?_); (case hs => exact rfl))
  | ((with_reducible refine i_rI ?hc ?_); (case hc => walk_at "sd"))
  | ((with_reducible refine i_ixL (xs := ?xs) (v := ?vv) ?hS ?he ?_); (case hS => walk_at "sq"); (case he => exact rfl))
  | ((with_reducible refine i_setL (xs := ?xs) (j := ?jj) ?hS ?he ?_); (case hS => walk_at "hp"); (case he => exact rfl))
  | with_reducible refine i_tup ?_
  | with_reducible refine i_lst ?_
  | with_reducible refine i_bm ?_
  | with_reducible refine i_bm0 ?_
  | with_reducible refine i_m1 ?_
  | with_reducible refine i_sl ?_
  | with_reducible refine i_nopart ?_
  | with_reducible refine i_part ?_
  | with_reducible refine i_int ?_
  | with_reducible refine i_str ?_
  | with_reducible refine i_for ?_
  | with_reducible refine i_yes ?_
  | ((with_reducible refine i_lenL (xs := ?xs) ?hS ?_); (case hS => walk_at "sq"))
  | ((with_reducible refine i_room ?hz ?_); (case hz => walk_at "len"))
  | with_reducible refine i_leT ?_
  | with_reducible refine i_notInS ?_
  | with_reducible refine i_inS ?_
  | with_reducible refine i_find ?_
  | with_reducible refine i_isB ?_
  | with_reducible refine i_max2 ?_
  | with_reducible refine i_min2 ?_
  | with_reducible exact trivial
  | with_reducible refine iteT ?_
  | with_reducible refine iteF ?_
  | with_reducible refine i_isstr ?_
  | with_reducible refine i_lc ?_
  | ((with_reducible refine i_cat (xs := ?xs) (zs := ?zs) ?ha ?hb ?hz ?_); (case ha => walk_at "hp"); (case hb => walk_at "hp"); (case hz => walk_at "len"))
  | ((with_reducible refine i_tyL (xs := ?xs) ?ha ?_); (case ha => walk_at "hp"))
  | with_reducible refine i_list ?_
  | with_reducible refine i_disp ?_
  | with_reducible refine i_pairs0 ?_
  | with_reducible refine i_pairs ?_
  | with_reducible refine i_newK ?_
  | with_reducible refine i_gcons ?_
  | with_reducible refine i_gnil ?_
  | with_reducible refine i_revL ?_
  | with_reducible refine i_rng1 ?_
  | ((with_reducible refine i_wipe ?hw ?_); (case hw => exact rfl))
  | with_reducible refine iteNT ?_
  | with_reducible refine iteNF ?_)
local macro_rules | `(tactic| walk_at "sx") => `(tactic| first
  | walk_at "st"
  | with_reducible refine i_kinit ?_
  | with_reducible refine i_ost ?_
  | with_reducible refine i_mkO ?_
  | with_reducible refine i_callE ?_
  | with_reducible refine i_makeE ?_
  | with_reducible refine i_xf ?_
  | with_reducible refine i_sfld ?_
  | with_reducible refine i_fld ?_
  | ((with_reducible refine i_ixT (xs := ?xs) (v := ?vv) ?hS ?he ?_); (case hS => exact SqT.tup (by walk_at "hp")); (case he => exact rfl))
  | with_reducible refine i_intB ?_
  | with_reducible refine i_runS ?_
  | with_reducible refine i_runN ?_
  | ((with_reducible refine i_xf1 (fs := ?ff) (v := ?vv) ?hx ?hl ?_); (case hx => walk_at "hp"); (case hl => exact rfl))
  | with_reducible refine i_methE ?_
  | with_reducible refine i_meth ?_
  | with_reducible refine i_make ?_
  | ((with_reducible refine i_obj (dx := ?dd) (fs := ?ff) ?hx ?hl ?_); (case hx => walk_at "hp"); (case hl => exact rfl))
  | ((with_reducible refine i_fld1 (C := ?CC) (dx := ?dd) (fs := ?ff) (v := ?vv) ?hx ?cl ?na ?hl ?_); (case hx => walk_at "hp"); (case cl => assumption); (case na => assumption); (case hl => exact rfl)))
local macro_rules | `(tactic| walk_at "rd") => `(tactic| repeat (walk_at "sx"))

section
variable {P : Program} {w : World} {K : PySem.W.Frag} {mg : Str → Option Value} {base : Heap}
def spChRow : Sp := fun vs H Q _ => ∃ (b : Addr) (x y z : V) (n : Nat), vs = [.ref b, x, y, z] ∧ Box H b n ∧ n ≤ 700 ∧ ∀ (p : Addr) (h d f g m : Int) (H' : Hp), H p = none → But b H H' → Box H' b (n + 10) →
  H' p = some (.tup [x, y, z, .int h, .int d, .int f, .int g, .int m]) → (1 ≤ h ∧ h ≤ 1000) → (0 ≤ d ∧ d ≤ 1000) → (0 ≤ f ∧ f ≤ 1000000) → (0 ≤ g ∧ g ≤ 1000) → (f ≤ m ∧ m ≤ 1000000) → Q (.ref p) H'
theorem ok_channel_row (T : Top K mg) : FnG P w K mg base CX0 3 T.a_channel_row T.d_channel_row ["_law_box_here", "_law_name", "_law_one", "_law_other"] spChRow := by
  have G_number := ok_number (P := P) (w := w) (base := base) T
  refine okG T.F_channel_row sc_channel_row (fun vs H Q E h => ?_) (fun cdv A outer s H vs Q E hr hgd h => ?_)
  · obtain ⟨b, x, y, z, n, rfl, _⟩ := h
    rfl
  · obtain ⟨b, x, y, z, n, rfl, hB, hn, q⟩ := h
    refine ⟨_, (pss_cons (ps_set (i := 4) sc_channel_row.nd rfl (by first | exact Or.inl rfl | exact Or.inr rfl) (g_call G_number (hr.mono (by decide)) hgd (by rfl) T.m_number T.F_number.kp T.b_number .nil pass0 (pa_cons (pv 0) (pa_cons pe_int (pa_cons (pe_op op_pow pe_int pe_int) pa_nil)))))
      (pss_cons (ps_set (i := 5) sc_channel_row.nd rfl (by first | exact Or.inl rfl | exact Or.inr rfl) (g_call G_number (hr.mono (by decide)) hgd (by rfl) T.m_number T.F_number.kp T.b_number .nil pass0 (pa_cons (pv 0) (pa_cons pe_int (pa_cons pe_int pa_nil)))))
      (pss_cons (ps_set (i := 6) sc_channel_row.nd rfl (by first | exact Or.inl rfl | exact Or.inr rfl) (g_call G_number (hr.mono (by decide)) hgd (by rfl) T.m_number T.F_number.kp T.b_number .nil pass0 (pa_cons (pv 0) (pa_cons pe_int (pa_cons pe_int pa_nil)))))
      (pss_cons (ps_set (i := 7) sc_channel_row.nd rfl (by first | exact Or.inl rfl | exact Or.inr rfl) (g_call G_number (hr.mono (by decide)) hgd (by rfl) T.m_number T.F_number.kp T.b_number .nil pass0 (pa_cons (pv 0) (pa_cons pe_int (pa_cons pe_int pa_nil)))))
      (pss_one (ps_ret (pe_tup (pa_cons (pv 1) (pa_cons (pv 2) (pa_cons (pv 3) (pa_cons (pv 5) (pa_cons (pv 6) (pa_cons (pv 4) (pa_cons (pv 7) (pa_cons (g_call G_number (hr.mono (by decide)) hgd (by rfl) T.m_number T.F_number.kp T.b_number .nil pass0 (pa_cons (pv 0) (pa_cons (pv 4) (pa_cons (pe_op op_pow pe_int pe_int) pa_nil)))) pa_nil))))))))))))))), ?_⟩
    walk_at "rd"
    refine ⟨b, 0, _, n, rfl, hB, by omega, by decide, by decide, by decide, fun f H1 f0 f1 e1 B1 => ?_⟩
    walk_at "rd"
    refine ⟨b, 1, 1000, _, rfl, B1, by omega, by decide, by decide, by decide, fun h H2 h0 h1 e2 B2 => ?_⟩
    walk_at "rd"
    refine ⟨b, 0, 1000, _, rfl, B2, by omega, by decide, by decide, by decide, fun d H3 d0 d1 e3 B3 => ?_⟩
    walk_at "rd"
    refine ⟨b, 0, 1000, _, rfl, B3, by omega, by decide, by decide, by decide, fun g H4 g0 g1 e4 B4 => ?_⟩
    walk_at "rd"
    have f1' : f ≤ 10 ^ 6 := f1
    refine ⟨b, f, _, _, rfl, B4, by omega, by omega, f1', by decide, fun m H5 m0 m1 e5 B5 => ?_⟩
    walk_at "rd"
    (intro p hp; generalize ep : upd _ p _ = J; have N := New.of ep hp; clear ep hp)
    have e := e1.trans (e2.trans (e3.trans (e4.trans e5)))
    exact q p h d f g m J (e.free (B5.off N) N.free) (e.trans N.but) ((B5.nw N).mono (by omega)) N.at_ ⟨h0, h1⟩ ⟨d0, d1⟩ ⟨f0, f1⟩ ⟨g0, g1⟩ ⟨m0, m1⟩

def Asc (x : Str) : Prop := ∀ c ∈ x.cps.toList, c < 128
theorem name_asc {x : Str} (h : isN (.str x) = true) : (1 ≤ x.length ∧ x.length ≤ 8 ∧ ∀ c ∈ tl x, 97 ≤ c ∧ c ≤ 122) := of_decide_eq_true h
theorem name_Asc {x : Str} (h : isN (.str x) = true) : Asc x := fun c hc => by have := (name_asc h).2.2 c hc; omega
theorem name_ps {x : Str} (h : isN (.str x) = true) : Ps (.str x) (.str x) := .str (by have := (name_asc h).2.1; omega) (name_Asc h)
theorem res_made {n o t : Str} {h d f g m : Int} (hn : isN (.str n) = true) (ho : isN (.str o) = true) (ht : isN (.str t) = true) (ne : o ≠ t) (bh : 1 ≤ h ∧ h ≤ 1000) (bd : 0 ≤ d ∧ d ≤ 1000) (bf : 0 ≤ f ∧ f ≤ 1000000)
    (bg : 0 ≤ g ∧ g ≤ 1000) (bm : f ≤ m ∧ m ≤ 1000000) : resC (.str n) (.str o) (.str t) (.int h) (.int d) (.int f) (.int g) (.int m) = .made := by
  have e : [V.str n, V.str o, V.str t].find? bad = none := by simp [bad, hn, ho, ht]
  have i1 : ∀ {lo hi i : Int}, lo ≤ i ∧ i ≤ hi → ¬ inB lo hi (.int i) = false := fun {lo hi i} z => by
    show ¬ (decide (lo ≤ i) && decide (i ≤ hi)) = false
    rw [decide_eq_true z.1, decide_eq_true z.2]; decide
  unfold resC
  rw [e]
  dsimp only
  rw [if_neg (fun z => ne (by injection z)), if_neg (i1 bh), if_neg (i1 bd), if_neg (i1 bf), if_neg (i1 bg), if_neg (show ¬ inV6 (.int f) (.int m) = false from i1 bm)]

theorem OddC.rpS {b : Addr} {H : Hp} {v : V} (h : OddC b H v) : ∃ r, Rp K H v r ∧ PySem.PyData.strOk r.shown = true := by
  cases h with
  | ps h =>
    refine ⟨_, h.rp, ?_⟩
    cases h with
    | non => decide +kernel
    | bl b => cases b <;> decide +kernel
    | int h => exact strOk_of _
    | str h1 h2 => exact strOk_asc (repr_asc h2)
  | lst0 n h => exact ⟨_, Rp.lstP h .nil (by simp), by decide +kernel⟩
  | lst1 n h => exact ⟨_, Rp.lstP h (.cons ps_a .nil) (by simp), by decide +kernel⟩
  | tup0 n h => exact ⟨_, Rp.tupP h .nil (by simp), by decide +kernel⟩
  | dct0 n h => exact ⟨_, Rp.dct0 h, by decide +kernel⟩
open Classical in
/-- what repr reads of the thing v -/
noncomputable def rdOf (K : PySem.W.Frag) (H : Hp) (v : V) : PyData := if h : ∃ r, Rp K H v r ∧ PySem.PyData.strOk r.shown = true then h.choose else .none
theorem rdOf_spec {b : Addr} {H : Hp} {v : V} (h : OddC b H v) : Rp K H v (rdOf K H v) ∧ PySem.PyData.strOk (rdOf K H v).shown = true := by
  unfold rdOf
  rw [dif_pos (h.rpS (K := K))]
  exact (h.rpS (K := K)).choose_spec
theorem two_eq {H : Hp} {a b : Addr} {x y : Str} (ha : H a = some (.tup [.str x, .str y])) (hb : H b = some (.tup [.str x, .str y])) (hx : PySem.PyData.strOk x = true) (hy : PySem.PyData.strOk y = true) {Q : VK} (q : Q (.bl false) H) :
    rNeD K (.ref a) (.ref b) H Q := by
  have lay : PyData.canLay0 (.tuple [.str x, .str y]) = true := by
    show (PySem.PyData.strOk x && (PySem.PyData.strOk y && true)) = true
    rw [hx, hy]; rfl
  have sh : SeqAt.shaped (.tuple [.str x, .str y]) = true := by
    show (PyData.canLay0 (.tuple [.str x, .str y]) && decide (_ ≤ 64)) = true
    rw [lay]; rfl
  refine ⟨.tuple [.str x, .str y], .tuple [.str x, .str y], .tup (SqT.tup ha) (.cons (.str _) (.cons (.str _) .nil)), .tup (SqT.tup hb) (.cons (.str _) (.cons (.str _) .nil)), sh, sh, ?_⟩
  rw [SeqAt.eqv_refl _ lay]
  exact q
theorem tell_ok {R : V → PyData} {n o t h d f g m : V} (al : ∀ v ∈ [n, o, t, h, d, f, g, m], PySem.PyData.strOk (R v).shown = true) :
    PySem.PyData.strOk (tellR R (resC n o t h d f g m)).1 = true ∧ PySem.PyData.strOk (tellR R (resC n o t h d f g m)).2 = true := by
  have mem := @resC_mem n o t h d f g m
  generalize resC n o t h d f g m = r at mem
  cases r with
  | made => exact ⟨strOk_of _, strOk_of _⟩
  | name v => exact ⟨strOk_of _, al v (mem (.inl rfl))⟩
  | doubled v => exact ⟨strOk_of _, al v (mem (.inr (.inl rfl)))⟩
  | number v => exact ⟨strOk_of _, al v (mem (.inr (.inr rfl)))⟩
theorem OddC.al {b : Addr} {H : Hp} {v : V} (h : OddC b H v) : Th H v ∧ (∀ s, v = .str s → ∀ c ∈ s.cps.toList, c < 128) ∧ Rp K H v (rdOf K H v) := ⟨h.th, h.asc, (rdOf_spec h).1⟩
theorem ok_law (T : Top K mg) : FnG P w K mg base CX0 7 T.a_law T.d_law ["_law_script"] (spLaw K) := by
  have G_box := ok_box (P := P) (w := w) (base := base) T
  have G_names := ok_names (P := P) (w := w) (base := base) T
  have G_channel_row := ok_channel_row (P := P) (w := w) (base := base) T
  have G_cell := ok_cell (P := P) (w := w) (base := base) T
  have G_take := ok_take (P := P) (w := w) (base := base) T
  have G_found := ok_found (P := P) (w := w) (base := base) T
  have G_spoilt := ok_spoilt (P := P) (w := w) (base := base) T
  have G_due := ok_due (P := P) (w := w) (base := base) T
  refine okG T.F_law sc_law (fun vs H Q E h => ?_) (fun cdv A outer s H vs Q E hr hgd h => ?_)
  · obtain ⟨a, ns, rfl, _⟩ := h
    rfl
  · obtain ⟨a, ns, rfl, hS, hlen, _, hO, q⟩ := h
    have hu64 := un64 hr
    refine ⟨_, (pss_cons (ps_for PassesOwn.never rfl (pi_range1 (by rfl) T.n_range (pa_cons (pe_callB (c_max2) (by rfl) T.n_max (by decide +kernel) (pa_cons pe_int (pa_cons (pe_callB (c_min2) (by rfl) T.n_min (by decide +kernel) (pa_cons pe_int (pa_cons (pe_callB c_len (by rfl) T.n_len (by decide +kernel) (pa_cons (pv 0) pa_nil)) pa_nil))) pa_nil))) pa_nil)) (pg_name (i := 1) sc_law.nd rfl (by first | exact Or.inl rfl | exact Or.inr rfl))
        (pss_cons (ps_set (i := 2) sc_law.nd rfl (by first | exact Or.inl rfl | exact Or.inr rfl) (g_call G_box (hr.mono (by decide)) hgd (by rfl) T.m_box T.F_box.kp T.b_box .nil pass0 (pa_cons (g_call G_cell (hr.mono (by decide)) hgd (by rfl) T.m_cell T.F_cell.kp T.b_cell .nil pass0 (pa_cons (pv 0) (pa_cons (pv 1) pa_nil))) pa_nil)))
      (pss_cons (ps_set (i := 3) sc_law.nd rfl (by first | exact Or.inl rfl | exact Or.inr rfl) (pe_ix ix_list (pe_lst (pa_cons pe_int (pa_cons pe_int (pa_cons pe_int (pa_cons pe_int (pa_cons pe_int pa_nil)))))) (g_call G_take (hr.mono (by decide)) hgd (by rfl) T.m_take T.F_take.kp T.b_take .nil pass0 (pa_cons (pv 2) (pa_cons pe_int pa_nil))) (fun _ _ => rfl)))
      (pss_cons (ps_asg (g_call G_names (hr.mono (by decide)) hgd (by rfl) T.m_names T.F_names.kp T.b_names .nil pass0 (pa_cons (pv 2) (pa_cons pe_int pa_nil))) (pg_lst rfl (pgs_cons (pg_name (i := 4) sc_law.nd rfl (by first | exact Or.inl rfl | exact Or.inr rfl)) (pgs_cons (pg_name (i := 5) sc_law.nd rfl (by first | exact Or.inl rfl | exact Or.inr rfl)) (pgs_cons (pg_name (i := 6) sc_law.nd rfl (by first | exact Or.inl rfl | exact Or.inr rfl)) pgs_nil)))))
      (pss_cons (ps_set (i := 7) sc_law.nd rfl (by first | exact Or.inl rfl | exact Or.inr rfl) (g_call G_channel_row (hr.mono (by decide)) hgd (by rfl) T.m_channel_row T.F_channel_row.kp T.b_channel_row .nil pass0 (pa_cons (pv 2) (pa_cons (pv 4) (pa_cons (pv 5) (pa_cons (pv 6) pa_nil))))))
      (pss_cons (ps_if (pt_cmpR (op_neD hu64) (g_call G_found (hr.mono (by decide)) hgd (by rfl) T.m_found T.F_found.kp T.b_found .nil pass0 (pa_cons (pv 7) pa_nil)) (pe_tup (pa_cons pe_str (pa_cons pe_str pa_nil))) (nomark _))
        (pss_one (ps_ret pe_bl))
        pss_nil)
      (pss_one (ps_for PassesOwn.never rfl (pi_range1 (by rfl) T.n_range (pa_cons (pv 3) pa_nil)) (pg_name (i := 8) sc_law.nd rfl (by first | exact Or.inl rfl | exact Or.inr rfl))
        (pss_cons (ps_set (i := 7) sc_law.nd rfl (by first | exact Or.inl rfl | exact Or.inr rfl) (g_call G_spoilt (hr.mono (by decide)) hgd (by rfl) T.m_spoilt T.F_spoilt.kp T.b_spoilt .nil pass0 (pa_cons (pv 2) (pa_cons (pv 7) pa_nil))))
      (pss_one (ps_if (pt_cmpR (op_neD hu64) (g_call G_found (hr.mono (by decide)) hgd (by rfl) T.m_found T.F_found.kp T.b_found .nil pass0 (pa_cons (pv 7) pa_nil)) (g_call G_due (hr.mono (by decide)) hgd (by rfl) T.m_due T.F_due.kp T.b_due .nil pass0 (pa_cons (pv 7) pa_nil)) (nomark _))
        (pss_one (ps_ret pe_bl))
        pss_nil)))))))))))
      (pss_one (ps_ret pe_bl))), ?_⟩
    walk_at "rd"
    generalize hN : (if (if ((ns.map V.int).length : Int) < 12 then ((ns.map V.int).length : Int) else 12) > 2 then (if ((ns.map V.int).length : Int) < 12 then ((ns.map V.int).length : Int) else 12) else 2) = N
    have hN2 : 2 ≤ N ∧ N ≤ 12 := by rw [← hN]; split <;> split <;> omega
    refine ⟨N, rfl, by omega, by omega, ?_⟩
    refine for_range (lo := 0) (n := N.toNat) (fun i σ H' => Same H H' ∧ ∃ s1 s2 s3 s4 s5 s6 s7 s8, σ = [some (.ref a), s1, s2, s3, s4, s5, s6, s7, s8])
      ⟨Same.refl _, _, _, _, _, _, _, _, _, rfl⟩ ?_ ?_
    · rintro i σ H1 hi ⟨s1, z1, z2, z3, z4, z5, z6, z7, z8, rfl⟩
      walk_at "rd"
      refine ⟨a, ns, _, rfl, s1.seq hS, by omega, by omega, fun z => ?_⟩
      walk_at "rd"
      refine ⟨z, rfl, fun b H2 hb sm B => ?_⟩
      walk_at "rd"
      (intro p1 hp1; generalize ep1 : upd _ p1 _ = J1; have N1 := New.of ep1 hp1; clear ep1 hp1)
      walk_at "rd"
      refine ⟨b, 5, _, rfl, B.nw N1, by omega, by decide, by decide, fun d3 H3 d30 d31 e3 B3 => ?_⟩
      obtain ⟨mv, hv, hm, _⟩ := atI_some (xs := [V.int 1, V.int 1, V.int 2, V.int 3, V.int 0]) d30 (by simpa using d31)
      obtain ⟨many, rfl, many3⟩ : ∃ k : Nat, mv = .int k ∧ k ≤ 3 := by
        simp only [List.mem_cons, List.not_mem_nil, or_false] at hm
        rcases hm with h | h | h | h | h
        · exact ⟨1, h, by decide⟩
        · exact ⟨1, h, by decide⟩
        · exact ⟨2, h, by decide⟩
        · exact ⟨3, h, by decide⟩
        · exact ⟨0, h, by decide⟩
      refine i_ixL (SqL.lst (e3 p1 _ (B.off N1) N1.at_)) hv ?_
      walk_at "rd"
      refine ⟨b, 3, _, rfl, B3, by omega, by omega, fun pn names H4 hpn e4 B4 k4 hl4 hnd hall => ?_⟩
      obtain ⟨n, o, t, rfl⟩ : ∃ n o t, names = [n, o, t] := by
        match names, hl4 with
        | [n, o, t], _ => exact ⟨n, o, t, rfl⟩
      have hn := hall n (by simp); have ho := hall o (by simp); have ht := hall t (by simp)
      have ne : o ≠ t := by simp at hnd; exact hnd.2
      refine i_glst (xs := [V.str n, V.str o, V.str t]) (SqL.lst k4) rfl ?_
      walk_at "rd"
      refine ⟨b, .str n, .str o, .str t, _, rfl, B4, by omega, fun p h d f g m H6 hp6 e6 B6 k6 bh bd bf bg bm => ?_⟩
      walk_at "rd"
      have oddN : ∀ {H' : Hp} {x : Str}, isN (.str x) = true → OddC b H' (.str x) := fun {H' x} z => .ps (name_ps z)
      have al6 : ∀ v ∈ [V.str n, V.str o, V.str t, V.int h, V.int d, V.int f, V.int g, V.int m], OddC b H6 v := by
        intro v hv
        simp only [List.mem_cons, List.not_mem_nil, or_false] at hv
        rcases hv with rfl | rfl | rfl | rfl | rfl | rfl | rfl | rfl
        · exact oddN hn
        · exact oddN ho
        · exact oddN ht
        all_goals exact .int (by omega)
      refine ⟨p, .str n, .str o, .str t, .int h, .int d, .int f, .int g, .int m, rdOf K H6, rfl, k6, fun v hv => (al6 v hv).al, fun p7 H7 s7 k7 => ?_⟩
      rw [res_made hn ho ht ne bh bd bf bg bm] at k7
      walk_at "rd"
      (intro p8 hp8; generalize ep8 : upd _ p8 _ = J8; have N8 := New.of ep8 hp8; clear ep8 hp8)
      refine two_eq (N8.app k7) N8.at_ (strOk_of _) (strOk_of _) ?_
      walk_at "rd"
      have e28 : But b H2 J8 := N1.but.trans (e3.trans (e4.trans (e6.trans ((Ice.Same.but s7).trans N8.but))))
      have e68 : But b H6 J8 := (Ice.Same.but s7).trans N8.but
      refine ⟨many, rfl, by omega, by omega, ?_⟩
      refine for_range (lo := 0) (n := ((many : Int)).toNat) (fun i σ H' => But b H2 H' ∧ Box H' b (50 + 5 * i) ∧ (∃ (pr : Addr) (xs : List V), H' pr = some (.tup xs) ∧ xs.length = 8 ∧ (∀ v ∈ xs, OddC b H' v) ∧ ∃ z1 z4 z5 z6 z8, σ = [some (.ref a), z1, some (.ref b), some (.int many), z4, z5, z6, some (.ref pr), z8]))
        ⟨e28, ((B6.same s7).nw N8).mono (by omega), p, _, N8.app (s7 _ _ k6), rfl, fun v hv => (al6 v hv).but e68, _, _, _, _, _, rfl⟩ ?_ ?_
      · rintro i2 σ H8 hi2 ⟨e8, B8, pr, xs, k8, l8, al8, z1, z4, z5, z6, z8, rfl⟩
        have hi3 : i2 < 3 := by
          have : i2 < many := by simpa using hi2
          omega
        walk_at "rd"
        refine ⟨b, pr, xs, _, rfl, B8, by omega, k8, l8, al8, fun p9 ys H9 e9 B9 k9 l9 al9 => ?_⟩
        obtain ⟨y1, y2, y3, y4, y5, y6, y7, y8, rfl⟩ : ∃ y1 y2 y3 y4 y5 y6 y7 y8, ys = [y1, y2, y3, y4, y5, y6, y7, y8] := by
          match ys, l9 with
          | [y1, y2, y3, y4, y5, y6, y7, y8], _ => exact ⟨y1, y2, y3, y4, y5, y6, y7, y8, rfl⟩
        walk_at "rd"
        refine ⟨p9, y1, y2, y3, y4, y5, y6, y7, y8, rdOf K H9, rfl, k9, fun v hv => (al9 v hv).al, fun p10 H10 s10 k10 => ?_⟩
        walk_at "rd"
        refine ⟨p9, y1, y2, y3, y4, y5, y6, y7, y8, rdOf K H9, rfl, s10 _ _ k9, fun v hv => ⟨(al9 v hv).th.same s10, (al9 v hv).asc, ((al9 v hv).al (K := K)).2.2.same s10⟩, fun p11 H11 s11 k11 => ?_⟩
        have tok := tell_ok (R := rdOf K H9) (n := y1) (o := y2) (t := y3) (h := y4) (d := y5) (f := y6) (g := y7) (m := y8) fun v hv => (rdOf_spec (al9 v hv)).2
        refine two_eq (s11 _ _ k10) k11 tok.1 tok.2 ?_
        walk_at "rd"
        have e911 : But b H9 H11 := Ice.Same.but (s10.trans s11)
        exact ⟨e8.trans (e9.trans e911), (B9.same (s10.trans s11)).mono (by omega), p9, _, s11 _ _ (s10 _ _ k9), rfl, fun v hv => (al9 v hv).but e911, _, _, _, _, _, rfl⟩
      · rintro σ H8 ⟨e8, B8, pr, xs, k8, l8, al8, z1, z4, z5, z6, z8, rfl⟩
        exact ⟨s1.trans (But.to sm e8 hb), _, _, _, _, _, _, _, _, rfl⟩
    · rintro σ H1 ⟨s1, z1, z2, z3, z4, z5, z6, z7, z8, rfl⟩
      walk_at "rd"
      exact q _
end
end Ice

set_option Elab.async false
set_option linter.all false
set_option maxRecDepth 100000
set_option maxHeartbeats 4000000
namespace Ice
open PySem PySem.Spec PyProof.Rows L2 TL
/-! side conditions, heaps, one step of a reading, and many -/
local macro_rules | `(tactic| walk_at "hp") => `(tactic| first | assumption | exact upd_same | exact New.at_ (by assumption) | (refine keepU ?_ (by assumption); walk_at "hp") | (refine New.app (by assumption) ?_; walk_at "hp") | (refine Same.app (by assumption) ?_; walk_at "hp") | (refine But.app (by assumption) (by assumption) ?_; walk_at "hp"))
local macro_rules | `(tactic| walk_at "sq") => `(tactic| first | assumption | exact SqL.lst (by walk_at "hp") | exact L2.Same.seq (New.same (by assumption)) (by assumption) | exact L2.Same.seq (by assumption) (by assumption))
local macro_rules | `(tactic| walk_at "len") => `(tactic| first | assumption | (simp only [List.length_cons, List.length_nil, List.length_append, List.length_map]; decide) | (refine Ice.sz_of ?_; simp only [List.length_cons, List.length_nil, List.length_append, List.length_map]; omega))
local macro_rules | `(tactic| walk_at "fresh") => `(tactic| (simp only [List.map_append, List.map_cons, List.map_nil, List.nil_append, List.cons_append]; decide +kernel))
local macro_rules | `(tactic| walk_at "sd") => `(tactic| first | assumption | (show _ ≠ _; omega) | exact Or.inl ⟨by omega, by omega⟩ | exact Or.inr ⟨by omega, by omega⟩ | exact ⟨by decide, by decide⟩ | exact ⟨by decide, by decide, by decide⟩ | exact ⟨by omega, by omega, by omega⟩)
/-! one step of a reading, and many -/
local macro_rules | `(tactic| walk_at "st") => `(tactic| first
  | with_reducible refine i_seq ?_
  | with_reducible refine i_if ?_
  | with_reducible refine i_next ?_
  | with_reducible refine i_ret ?_
  | with_reducible refine i_retN ?_
  | with_reducible refine i_drop ?_
  | with_reducible refine i_asg ?_
  | with_reducible refine i_gname ?_
  | with_reducible refine i_gsub ?_
  | ((with_reducible refine i_var (v := ?vv) ?hv ?_); (case hv => exact rfl))
  | with_reducible refine i_c ?_
  | with_reducible refine i_op ?_
  | with_reducible refine i_un ?_
  | with_reducible refine i_test ?_
  | with_reducible refine i_tB ?_
  | with_reducible refine i_and ?_
  | with_reducible refine i_or ?_
  | with_reducible refine i_not ?_
  | with_reducible refine i_andV ?_
  | with_reducible refine i_orV ?_
  | with_reducible refine i_notV ?_
  | with_reducible refine i_ifE ?_
  | with_reducible refine i_chain ?_
  | with_reducible refine i_bl ?_
  | with_reducible refine i_nil ?_
  | with_reducible refine i_cons ?_
  | with_reducible refine i_call ?_
  | with_reducible refine i_cb ?_
  | with_reducible refine i_rI0 ?_
  | with_reducible refine i_rU ?_
  | ((with_reducible refine i_rEq ?hs ?_); (case hs => exact rfl))
  | ((with_reducible refine i_rNe ?hs ?_); (case hs => exact rfl))
  | ((with_reducible refine i_rI ?hc ?_); (case hc => walk_at "sd"))
  | ((with_reducible refine i_ixL (xs := ?xs) (v := ?vv) ?hS ?he ?_); (case hS => walk_at "sq"); (case he => exact rfl))
  | ((with_reducible refine i_setL (xs := ?xs) (j := ?jj) ?hS ?he ?_); (case hS => walk_at "hp"); (case he => exact rfl))
  | with_reducible refine i_tup ?_
  | with_reducible refine i_lst ?_
  | with_reducible refine i_bm ?_
  | with_reducible refine i_bm0 ?_
  | with_reducible refine i_m1 ?_
  | with_reducible refine i_sl ?_
  | with_reducible refine i_nopart ?_
  | with_reducible refine i_part ?_
  | with_reducible refine i_int ?_
  | with_reducible refine i_str ?_
  | with_reducible refine i_for ?_
  | with_reducible refine i_yes ?_
  | ((with_reducible refine i_lenL (xs := ?xs) ?hS ?_); (case hS => walk_at "sq"))
  | ((with_reducible refine i_room ?hz ?_); (case hz => walk_at "len"))
  | with_reducible refine i_leT ?_
  | with_reducible refine i_notInS ?_
  | with_reducible refine i_inS ?_
  | with_reducible refine i_find ?_
  | with_reducible refine i_isB ?_
  | with_reducible refine i_max2 ?_
  | with_reducible refine i_min2 ?_
  | with_reducible exact trivial
  | with_reducible refine iteT ?_
  | with_reducible refine iteF ?_
  | with_reducible refine i_isstr ?_
  | with_reducible refine i_lc ?_
  | ((with_reducible refine i_cat (xs := ?xs) (zs := ?zs) ?ha ?hb ?hz ?_); (case ha => walk_at "hp"); (case hb => walk_at "hp"); (case hz => walk_at "len"))
  | ((with_reducible refine i_tyL (xs := ?xs) ?ha ?_); (case ha => walk_at "hp"))
  | with_reducible refine i_list ?_
  | with_reducible refine i_disp ?_
  | with_reducible refine i_pairs0 ?_
  | with_reducible refine i_pairs ?_
  | with_reducible refine i_newK ?_
  | with_reducible refine i_gcons ?_
  | with_reducible refine i_gnil ?_
  | with_reducible refine i_revL ?_
  | with_reducible refine i_rng1 ?_
  | ((with_reducible refine i_wipe ?hw ?_); (case hw => exact rfl))
  | with_reducible refine iteNT ?_
  | with_reducible refine iteNF ?_)
local macro_rules | `(tactic| walk_at "rd") => `(tactic| repeat (walk_at "st"))

theorem all_mk {l : PySem.W.OpenLaw} {w : World} {K : PySem.W.Frag} {h : Heap} {mg : Str → Option Value} {fa : Addr} (X : K.In h) (G : h.Ns mainGlobals mg) (hfa : mg "law" = some (.ref fa))
    {f0 : Addr} {od0 an0 : Option Addr} {sl0 : Array (Option Value)} {oc0 kV0 dc0 pm0 cd0 ct0 : Value}
    {f1 : Addr} {od1 an1 : Option Addr} {sl1 : Array (Option Value)} {oc1 kV1 dc1 pm1 cd1 ct1 : Value}
    {f2 : Addr} {od2 an2 : Option Addr} {sl2 : Array (Option Value)} {oc2 kV2 dc2 pm2 cd2 ct2 : Value}
    {f3 : Addr} {od3 an3 : Option Addr} {sl3 : Array (Option Value)} {oc3 kV3 dc3 pm3 cd3 ct3 : Value}
    {f4 : Addr} {od4 an4 : Option Addr} {sl4 : Array (Option Value)} {oc4 kV4 dc4 pm4 cd4 ct4 : Value}
    {f5 : Addr} {od5 an5 : Option Addr} {sl5 : Array (Option Value)} {oc5 kV5 dc5 pm5 cd5 ct5 : Value}
    {f6 : Addr} {od6 an6 : Option Addr} {sl6 : Array (Option Value)} {oc6 kV6 dc6 pm6 cd6 ct6 : Value}
    {f7 : Addr} {od7 an7 : Option Addr} {sl7 : Array (Option Value)} {oc7 kV7 dc7 pm7 cd7 ct7 : Value}
    {f8 : Addr} {od8 an8 : Option Addr} {sl8 : Array (Option Value)} {oc8 kV8 dc8 pm8 cd8 ct8 : Value}
    {f9 : Addr} {od9 an9 : Option Addr} {sl9 : Array (Option Value)} {oc9 kV9 dc9 pm9 cd9 ct9 : Value}
    {f10 : Addr} {od10 an10 : Option Addr} {sl10 : Array (Option Value)} {oc10 kV10 dc10 pm10 cd10 ct10 : Value}
    {f11 : Addr} {od11 an11 : Option Addr} {sl11 : Array (Option Value)} {oc11 kV11 dc11 pm11 cd11 ct11 : Value}
    {f12 : Addr} {od12 an12 : Option Addr} {sl12 : Array (Option Value)} {oc12 kV12 dc12 pm12 cd12 ct12 : Value}
    {f13 : Addr} {od13 an13 : Option Addr} {sl13 : Array (Option Value)} {oc13 kV13 dc13 pm13 cd13 ct13 : Value}
    {f14 : Addr} {od14 an14 : Option Addr} {sl14 : Array (Option Value)} {oc14 kV14 dc14 pm14 cd14 ct14 : Value}
    {f15 : Addr} {od15 an15 : Option Addr} {sl15 : Array (Option Value)} {oc15 kV15 dc15 pm15 cd15 ct15 : Value}
    {f16 : Addr} {od16 an16 : Option Addr} {sl16 : Array (Option Value)} {oc16 kV16 dc16 pm16 cd16 ct16 : Value}
    {f17 : Addr} {od17 an17 : Option Addr} {sl17 : Array (Option Value)} {oc17 kV17 dc17 pm17 cd17 ct17 : Value}
    {f18 : Addr} {od18 an18 : Option Addr} {sl18 : Array (Option Value)} {oc18 kV18 dc18 pm18 cd18 ct18 : Value}
    {f19 : Addr} {od19 an19 : Option Addr} {sl19 : Array (Option Value)} {oc19 kV19 dc19 pm19 cd19 ct19 : Value}
    {f20 : Addr} {od20 an20 : Option Addr} {sl20 : Array (Option Value)} {oc20 kV20 dc20 pm20 cd20 ct20 : Value}
    {f21 : Addr} {od21 an21 : Option Addr} {sl21 : Array (Option Value)} {oc21 kV21 dc21 pm21 cd21 ct21 : Value}
    {f22 : Addr} {od22 an22 : Option Addr} {sl22 : Array (Option Value)} {oc22 kV22 dc22 pm22 cd22 ct22 : Value}
    {t_NAME_MOST : Tok}
    {t_HOURS_MOST : Tok}
    {t_DEPTH_MOST : Tok}
    {t_GROWTH_MOST : Tok}
    {t_THICK_MOST : Tok}
    {C_IceError : Addr}
    {C_NoName : Addr}
    {nm_NoName q_NoName : Str} {N_NoName : Addr} {bs_NoName bm_NoName : List Value} {sn_NoName : List Str} {su_NoName : List Value} {ab_NoName : Bool} {co_NoName : Option Bool} {dd_NoName : Option Addr} {m0_NoName m1_NoName m2_NoName m3_NoName m5_NoName : Option Value}
    {C_NoNumber : Addr}
    {nm_NoNumber q_NoNumber : Str} {N_NoNumber : Addr} {bs_NoNumber bm_NoNumber : List Value} {sn_NoNumber : List Str} {su_NoNumber : List Value} {ab_NoNumber : Bool} {co_NoNumber : Option Bool} {dd_NoNumber : Option Addr} {m0_NoNumber m1_NoNumber m2_NoNumber m3_NoNumber m5_NoNumber : Option Value}
    {C_Doubled : Addr}
    {nm_Doubled q_Doubled : Str} {N_Doubled : Addr} {bs_Doubled bm_Doubled : List Value} {sn_Doubled : List Str} {su_Doubled : List Value} {ab_Doubled : Bool} {co_Doubled : Option Bool} {dd_Doubled : Option Addr} {m0_Doubled m1_Doubled m2_Doubled m3_Doubled m5_Doubled : Option Value}
    {C_Channel : Addr}
    (g_IceError : PySem.W.nsIn K mainGlobals "IceError" = some (some (.ref C_IceError)))
    (sp_IceError : PySem.W.specialIn K (.ref C_IceError) "__getattribute__" = some (some (.builtin "type.__getattribute__")))
    (ty_IceError : PySem.W.typeIn K (.ref C_IceError) = some (.type "type"))
    (rd_IceError : PySem.W.readsIn K C_IceError (.type "type") = true)
    (fc_IceError : PySem.W.findCls K (.ref C_IceError) (.type "type") "__init__" = some (.val (.builtin "ValueError.__init__")))
    (g_NoName : PySem.W.nsIn K mainGlobals "NoName" = some (some (.ref C_NoName)))
    (xl_NoName : K.lookup C_NoName = some (excClassObj nm_NoName q_NoName C_NoName N_NoName bs_NoName bm_NoName true sn_NoName su_NoName ab_NoName co_NoName dd_NoName m0_NoName m1_NoName m2_NoName m3_NoName m5_NoName "ValueError.__new__"))
    (hb_NoName : PySem.HandSPX.refsVE bm_NoName = true)
    (sa_NoName : PySem.W.findIn K (.ref C_NoName) "__setattr__" = some (some (.builtin "object.__setattr__")))
    (ec_NoName : PySem.W.subIn K (.ref C_NoName) (.type "BaseException") = some true)
    (tc_NoName : PySem.W.typeIn K (.ref C_NoName) = some (.type "type"))
    (kc_NoName : PySem.W.keepIn K (.ref C_NoName) = true)
    (ga_NoName : PySem.W.findIn K (.ref C_NoName) "__getattribute__" = some (some (.builtin "BaseException.__getattribute__")))
    (gg_NoName : PySem.W.findIn K (.ref C_NoName) "__getattr__" = some none)
    (hd_NoName : PySem.W.hasDictIn K C_NoName = true)
    (in_NoName : PySem.W.findIn K (.ref C_NoName) "__init__" = some (some (.ref f19)))
    (tf_NoName : PySem.W.typeIn K (.ref f19) = some (.type "function"))
    (nf_NoName_found : PySem.W.findIn K (.ref C_NoName) "found" = some none)
    (g_NoNumber : PySem.W.nsIn K mainGlobals "NoNumber" = some (some (.ref C_NoNumber)))
    (xl_NoNumber : K.lookup C_NoNumber = some (excClassObj nm_NoNumber q_NoNumber C_NoNumber N_NoNumber bs_NoNumber bm_NoNumber true sn_NoNumber su_NoNumber ab_NoNumber co_NoNumber dd_NoNumber m0_NoNumber m1_NoNumber m2_NoNumber m3_NoNumber m5_NoNumber "ValueError.__new__"))
    (hb_NoNumber : PySem.HandSPX.refsVE bm_NoNumber = true)
    (sa_NoNumber : PySem.W.findIn K (.ref C_NoNumber) "__setattr__" = some (some (.builtin "object.__setattr__")))
    (ec_NoNumber : PySem.W.subIn K (.ref C_NoNumber) (.type "BaseException") = some true)
    (tc_NoNumber : PySem.W.typeIn K (.ref C_NoNumber) = some (.type "type"))
    (kc_NoNumber : PySem.W.keepIn K (.ref C_NoNumber) = true)
    (ga_NoNumber : PySem.W.findIn K (.ref C_NoNumber) "__getattribute__" = some (some (.builtin "BaseException.__getattribute__")))
    (gg_NoNumber : PySem.W.findIn K (.ref C_NoNumber) "__getattr__" = some none)
    (hd_NoNumber : PySem.W.hasDictIn K C_NoNumber = true)
    (in_NoNumber : PySem.W.findIn K (.ref C_NoNumber) "__init__" = some (some (.ref f20)))
    (tf_NoNumber : PySem.W.typeIn K (.ref f20) = some (.type "function"))
    (nf_NoNumber_found : PySem.W.findIn K (.ref C_NoNumber) "found" = some none)
    (g_Doubled : PySem.W.nsIn K mainGlobals "Doubled" = some (some (.ref C_Doubled)))
    (xl_Doubled : K.lookup C_Doubled = some (excClassObj nm_Doubled q_Doubled C_Doubled N_Doubled bs_Doubled bm_Doubled true sn_Doubled su_Doubled ab_Doubled co_Doubled dd_Doubled m0_Doubled m1_Doubled m2_Doubled m3_Doubled m5_Doubled "ValueError.__new__"))
    (hb_Doubled : PySem.HandSPX.refsVE bm_Doubled = true)
    (sa_Doubled : PySem.W.findIn K (.ref C_Doubled) "__setattr__" = some (some (.builtin "object.__setattr__")))
    (ec_Doubled : PySem.W.subIn K (.ref C_Doubled) (.type "BaseException") = some true)
    (tc_Doubled : PySem.W.typeIn K (.ref C_Doubled) = some (.type "type"))
    (kc_Doubled : PySem.W.keepIn K (.ref C_Doubled) = true)
    (ga_Doubled : PySem.W.findIn K (.ref C_Doubled) "__getattribute__" = some (some (.builtin "BaseException.__getattribute__")))
    (gg_Doubled : PySem.W.findIn K (.ref C_Doubled) "__getattr__" = some none)
    (hd_Doubled : PySem.W.hasDictIn K C_Doubled = true)
    (in_Doubled : PySem.W.findIn K (.ref C_Doubled) "__init__" = some (some (.ref f21)))
    (tf_Doubled : PySem.W.typeIn K (.ref f21) = some (.type "function"))
    (nf_Doubled_name : PySem.W.findIn K (.ref C_Doubled) "name" = some none)
    (g_Channel : PySem.W.nsIn K mainGlobals "Channel" = some (some (.ref C_Channel)))
    (pg_Channel : PySem.W.plainGet K C_Channel Str.empty = true)
    (hd_Channel : PySem.W.hasDictIn K C_Channel = true)
    (po_Channel : PySem.W.plainOver K C_Channel = true)
    (sa_Channel : PySem.W.findIn K (.ref C_Channel) "__setattr__" = some (some (.builtin "object.__setattr__")))
    (mk_Channel : PySem.W.makesIn K C_Channel = true)
    (in_Channel : PySem.W.findIn K (.ref C_Channel) "__init__" = some (some (.ref f22)))
    (if_Channel : PySem.W.isFn K (.ref f22) = true)
    (kc_Channel : PySem.W.keepIn K (.ref C_Channel) = true)
    (na_Channel_name : PySem.W.findIn K (.ref C_Channel) "name" = some none)
    (na_Channel_one : PySem.W.findIn K (.ref C_Channel) "one" = some none)
    (na_Channel_other : PySem.W.findIn K (.ref C_Channel) "other" = some none)
    (na_Channel_hours : PySem.W.findIn K (.ref C_Channel) "hours" = some none)
    (na_Channel_depth : PySem.W.findIn K (.ref C_Channel) "depth" = some none)
    (na_Channel_first : PySem.W.findIn K (.ref C_Channel) "first" = some none)
    (na_Channel_growth : PySem.W.findIn K (.ref C_Channel) "growth" = some none)
    (na_Channel_most : PySem.W.findIn K (.ref C_Channel) "most" = some none)
    (ex_NoName_NoName : PySem.W.exmOne K (.ref C_NoName) (.ref C_NoName) = some true)
    (ex_NoName_Doubled : PySem.W.exmOne K (.ref C_NoName) (.ref C_Doubled) = some false)
    (ex_NoName_NoNumber : PySem.W.exmOne K (.ref C_NoName) (.ref C_NoNumber) = some false)
    (ex_NoName_IceError : PySem.W.exmOne K (.ref C_NoName) (.ref C_IceError) = some true)
    (ex_NoNumber_NoName : PySem.W.exmOne K (.ref C_NoNumber) (.ref C_NoName) = some false)
    (ex_NoNumber_Doubled : PySem.W.exmOne K (.ref C_NoNumber) (.ref C_Doubled) = some false)
    (ex_NoNumber_NoNumber : PySem.W.exmOne K (.ref C_NoNumber) (.ref C_NoNumber) = some true)
    (ex_NoNumber_IceError : PySem.W.exmOne K (.ref C_NoNumber) (.ref C_IceError) = some true)
    (ex_Doubled_NoName : PySem.W.exmOne K (.ref C_Doubled) (.ref C_NoName) = some false)
    (ex_Doubled_Doubled : PySem.W.exmOne K (.ref C_Doubled) (.ref C_Doubled) = some true)
    (ex_Doubled_NoNumber : PySem.W.exmOne K (.ref C_Doubled) (.ref C_NoNumber) = some false)
    (ex_Doubled_IceError : PySem.W.exmOne K (.ref C_Doubled) (.ref C_IceError) = some true)
    (a0 : PySem.W.nsIn K mainGlobals "is_whole" = some (some (.ref f0)))
    (l0 : K.lookup f0 = some ⟨oc0, od0, .func (PySem.W.fnOf "is_whole" "is_whole" (defArgs s_is_whole) (defBody s_is_whole) (defScope s_is_whole) .none kV0 dc0 pm0 an0 cd0 ct0), sl0⟩)
    (p0 : PySem.W.codeIn K cd0 "is_whole" = true)
    (k0 : PySem.W.keepIn K (.ref f0) = true)
    (a1 : PySem.W.nsIn K mainGlobals "is_within" = some (some (.ref f1)))
    (l1 : K.lookup f1 = some ⟨oc1, od1, .func (PySem.W.fnOf "is_within" "is_within" (defArgs s_is_within) (defBody s_is_within) (defScope s_is_within) .none kV1 dc1 pm1 an1 cd1 ct1), sl1⟩)
    (p1 : PySem.W.codeIn K cd1 "is_within" = true)
    (k1 : PySem.W.keepIn K (.ref f1) = true)
    (a2 : PySem.W.nsIn K mainGlobals "is_name" = some (some (.ref f2)))
    (l2 : K.lookup f2 = some ⟨oc2, od2, .func (PySem.W.fnOf "is_name" "is_name" (defArgs s_is_name) (defBody s_is_name) (defScope s_is_name) .none kV2 dc2 pm2 an2 cd2 ct2), sl2⟩)
    (p2 : PySem.W.codeIn K cd2 "is_name" = true)
    (k2 : PySem.W.keepIn K (.ref f2) = true)
    (a3 : PySem.W.nsIn K mainGlobals "_all_between" = some (some (.ref f3)))
    (l3 : K.lookup f3 = some ⟨oc3, od3, .func (PySem.W.fnOf "_all_between" "_all_between" (defArgs s_all_between) (defBody s_all_between) (defScope s_all_between) .none kV3 dc3 pm3 an3 cd3 ct3), sl3⟩)
    (p3 : PySem.W.codeIn K cd3 "_all_between" = true)
    (k3 : PySem.W.keepIn K (.ref f3) = true)
    (a4 : PySem.W.nsIn K mainGlobals "check_number" = some (some (.ref f4)))
    (l4 : K.lookup f4 = some ⟨oc4, od4, .func (PySem.W.fnOf "check_number" "check_number" (defArgs s_check_number) (defBody s_check_number) (defScope s_check_number) .none kV4 dc4 pm4 an4 cd4 ct4), sl4⟩)
    (p4 : PySem.W.codeIn K cd4 "check_number" = true)
    (k4 : PySem.W.keepIn K (.ref f4) = true)
    (a5 : PySem.W.nsIn K mainGlobals "_check_names" = some (some (.ref f5)))
    (l5 : K.lookup f5 = some ⟨oc5, od5, .func (PySem.W.fnOf "_check_names" "_check_names" (defArgs s_check_names) (defBody s_check_names) (defScope s_check_names) .none kV5 dc5 pm5 an5 cd5 ct5), sl5⟩)
    (p5 : PySem.W.codeIn K cd5 "_check_names" = true)
    (k5 : PySem.W.keepIn K (.ref f5) = true)
    (a6 : PySem.W.nsIn K mainGlobals "_law_cell" = some (some (.ref f6)))
    (l6 : K.lookup f6 = some ⟨oc6, od6, .func (PySem.W.fnOf "_law_cell" "_law_cell" (defArgs s_cell) (defBody s_cell) (defScope s_cell) .none kV6 dc6 pm6 an6 cd6 ct6), sl6⟩)
    (p6 : PySem.W.codeIn K cd6 "_law_cell" = true)
    (k6 : PySem.W.keepIn K (.ref f6) = true)
    (a7 : PySem.W.nsIn K mainGlobals "_law_box" = some (some (.ref f7)))
    (l7 : K.lookup f7 = some ⟨oc7, od7, .func (PySem.W.fnOf "_law_box" "_law_box" (defArgs s_box) (defBody s_box) (defScope s_box) .none kV7 dc7 pm7 an7 cd7 ct7), sl7⟩)
    (p7 : PySem.W.codeIn K cd7 "_law_box" = true)
    (k7 : PySem.W.keepIn K (.ref f7) = true)
    (a8 : PySem.W.nsIn K mainGlobals "_law_take" = some (some (.ref f8)))
    (l8 : K.lookup f8 = some ⟨oc8, od8, .func (PySem.W.fnOf "_law_take" "_law_take" (defArgs s_take) (defBody s_take) (defScope s_take) .none kV8 dc8 pm8 an8 cd8 ct8), sl8⟩)
    (p8 : PySem.W.codeIn K cd8 "_law_take" = true)
    (k8 : PySem.W.keepIn K (.ref f8) = true)
    (a9 : PySem.W.nsIn K mainGlobals "_law_names" = some (some (.ref f9)))
    (l9 : K.lookup f9 = some ⟨oc9, od9, .func (PySem.W.fnOf "_law_names" "_law_names" (defArgs s_names) (defBody s_names) (defScope s_names) .none kV9 dc9 pm9 an9 cd9 ct9), sl9⟩)
    (p9 : PySem.W.codeIn K cd9 "_law_names" = true)
    (k9 : PySem.W.keepIn K (.ref f9) = true)
    (a10 : PySem.W.nsIn K mainGlobals "_law_number" = some (some (.ref f10)))
    (l10 : K.lookup f10 = some ⟨oc10, od10, .func (PySem.W.fnOf "_law_number" "_law_number" (defArgs s_number) (defBody s_number) (defScope s_number) .none kV10 dc10 pm10 an10 cd10 ct10), sl10⟩)
    (p10 : PySem.W.codeIn K cd10 "_law_number" = true)
    (k10 : PySem.W.keepIn K (.ref f10) = true)
    (a11 : PySem.W.nsIn K mainGlobals "_law_odd" = some (some (.ref f11)))
    (l11 : K.lookup f11 = some ⟨oc11, od11, .func (PySem.W.fnOf "_law_odd" "_law_odd" (defArgs s_odd) (defBody s_odd) (defScope s_odd) .none kV11 dc11 pm11 an11 cd11 ct11), sl11⟩)
    (p11 : PySem.W.codeIn K cd11 "_law_odd" = true)
    (k11 : PySem.W.keepIn K (.ref f11) = true)
    (a12 : PySem.W.nsIn K mainGlobals "_law_channel_row" = some (some (.ref f12)))
    (l12 : K.lookup f12 = some ⟨oc12, od12, .func (PySem.W.fnOf "_law_channel_row" "_law_channel_row" (defArgs s_channel_row) (defBody s_channel_row) (defScope s_channel_row) .none kV12 dc12 pm12 an12 cd12 ct12), sl12⟩)
    (p12 : PySem.W.codeIn K cd12 "_law_channel_row" = true)
    (k12 : PySem.W.keepIn K (.ref f12) = true)
    (a13 : PySem.W.nsIn K mainGlobals "_law_is_name" = some (some (.ref f13)))
    (l13 : K.lookup f13 = some ⟨oc13, od13, .func (PySem.W.fnOf "_law_is_name" "_law_is_name" (defArgs s_l_is_name) (defBody s_l_is_name) (defScope s_l_is_name) .none kV13 dc13 pm13 an13 cd13 ct13), sl13⟩)
    (p13 : PySem.W.codeIn K cd13 "_law_is_name" = true)
    (k13 : PySem.W.keepIn K (.ref f13) = true)
    (a14 : PySem.W.nsIn K mainGlobals "_law_is_number" = some (some (.ref f14)))
    (l14 : K.lookup f14 = some ⟨oc14, od14, .func (PySem.W.fnOf "_law_is_number" "_law_is_number" (defArgs s_is_number) (defBody s_is_number) (defScope s_is_number) .none kV14 dc14 pm14 an14 cd14 ct14), sl14⟩)
    (p14 : PySem.W.codeIn K cd14 "_law_is_number" = true)
    (k14 : PySem.W.keepIn K (.ref f14) = true)
    (a15 : PySem.W.nsIn K mainGlobals "_law_due" = some (some (.ref f15)))
    (l15 : K.lookup f15 = some ⟨oc15, od15, .func (PySem.W.fnOf "_law_due" "_law_due" (defArgs s_due) (defBody s_due) (defScope s_due) .none kV15 dc15 pm15 an15 cd15 ct15), sl15⟩)
    (p15 : PySem.W.codeIn K cd15 "_law_due" = true)
    (k15 : PySem.W.keepIn K (.ref f15) = true)
    (a16 : PySem.W.nsIn K mainGlobals "_law_found" = some (some (.ref f16)))
    (l16 : K.lookup f16 = some ⟨oc16, od16, .func (PySem.W.fnOf "_law_found" "_law_found" (defArgs s_found) (defBody s_found) (defScope s_found) .none kV16 dc16 pm16 an16 cd16 ct16), sl16⟩)
    (p16 : PySem.W.codeIn K cd16 "_law_found" = true)
    (k16 : PySem.W.keepIn K (.ref f16) = true)
    (a17 : PySem.W.nsIn K mainGlobals "_law_spoilt" = some (some (.ref f17)))
    (l17 : K.lookup f17 = some ⟨oc17, od17, .func (PySem.W.fnOf "_law_spoilt" "_law_spoilt" (defArgs s_spoilt) (defBody s_spoilt) (defScope s_spoilt) .none kV17 dc17 pm17 an17 cd17 ct17), sl17⟩)
    (p17 : PySem.W.codeIn K cd17 "_law_spoilt" = true)
    (k17 : PySem.W.keepIn K (.ref f17) = true)
    (a18 : PySem.W.nsIn K mainGlobals "law" = some (some (.ref f18)))
    (l18 : K.lookup f18 = some ⟨oc18, od18, .func (PySem.W.fnOf "law" "law" (defArgs s_law) (defBody s_law) (defScope s_law) .none kV18 dc18 pm18 an18 cd18 ct18), sl18⟩)
    (p18 : PySem.W.codeIn K cd18 "law" = true)
    (k18 : PySem.W.keepIn K (.ref f18) = true)
    (l19 : K.lookup f19 = some ⟨oc19, od19, .func (PySem.W.fnOf "__init__" "NoName.__init__" (defArgs s_NoName___init__) (defBody s_NoName___init__) (defScope s_NoName___init__) .none kV19 dc19 pm19 an19 cd19 ct19), sl19⟩)
    (p19 : PySem.W.codeIn K cd19 "NoName.__init__" = true)
    (k19 : PySem.W.keepIn K (.ref f19) = true)
    (l20 : K.lookup f20 = some ⟨oc20, od20, .func (PySem.W.fnOf "__init__" "NoNumber.__init__" (defArgs s_NoNumber___init__) (defBody s_NoNumber___init__) (defScope s_NoNumber___init__) .none kV20 dc20 pm20 an20 cd20 ct20), sl20⟩)
    (p20 : PySem.W.codeIn K cd20 "NoNumber.__init__" = true)
    (k20 : PySem.W.keepIn K (.ref f20) = true)
    (l21 : K.lookup f21 = some ⟨oc21, od21, .func (PySem.W.fnOf "__init__" "Doubled.__init__" (defArgs s_Doubled___init__) (defBody s_Doubled___init__) (defScope s_Doubled___init__) .none kV21 dc21 pm21 an21 cd21 ct21), sl21⟩)
    (p21 : PySem.W.codeIn K cd21 "Doubled.__init__" = true)
    (k21 : PySem.W.keepIn K (.ref f21) = true)
    (l22 : K.lookup f22 = some ⟨oc22, od22, .func (PySem.W.fnOf "__init__" "Channel.__init__" (defArgs s_Channel___init__) (defBody s_Channel___init__) (defScope s_Channel___init__) .none kV22 dc22 pm22 an22 cd22 ct22), sl22⟩)
    (p22 : PySem.W.codeIn K cd22 "Channel.__init__" = true)
    (k22 : PySem.W.keepIn K (.ref f22) = true)
    (c_NAME_MOST : PySem.W.nsIn K mainGlobals "NAME_MOST" = some (some (.int 8 t_NAME_MOST)))
    (c_HOURS_MOST : PySem.W.nsIn K mainGlobals "HOURS_MOST" = some (some (.int 1000 t_HOURS_MOST)))
    (c_DEPTH_MOST : PySem.W.nsIn K mainGlobals "DEPTH_MOST" = some (some (.int 1000 t_DEPTH_MOST)))
    (c_GROWTH_MOST : PySem.W.nsIn K mainGlobals "GROWTH_MOST" = some (some (.int 1000 t_GROWTH_MOST)))
    (c_THICK_MOST : PySem.W.nsIn K mainGlobals "THICK_MOST" = some (some (.int 1000000 t_THICK_MOST)))
    (n_isinstance : PySem.W.nsIn K mainGlobals "isinstance" = some none)
    (n_int : PySem.W.nsIn K mainGlobals "int" = some none)
    (n_bool : PySem.W.nsIn K mainGlobals "bool" = some none)
    (n_str : PySem.W.nsIn K mainGlobals "str" = some none)
    (n_len : PySem.W.nsIn K mainGlobals "len" = some none)
    (n_max : PySem.W.nsIn K mainGlobals "max" = some none)
    (n_range : PySem.W.nsIn K mainGlobals "range" = some none)
    (n_min : PySem.W.nsIn K mainGlobals "min" = some none)
    (n_zip : PySem.W.nsIn K mainGlobals "zip" = some none)
    (n_repr : PySem.W.nsIn K mainGlobals "repr" = some none)
    : ∃ fd : FuncData, (∀ (s : Shared) (v : Value), BindsTo s fd ⟨[v], []⟩ [("_law_script", v)]) ∧ ∀ base : Heap, K.In base → base.Ns mainGlobals mg → FnG l.prog w K mg base CX0 7 fa fd ["_law_script"] (spLaw K) := by
  cases hfa.symm.trans (PySem.W.mg_of X G a18)
  have F0 := fun_mk (st := s_is_whole) l0 p0 k0
  have b0 := F0.binds (ps := ["thing"]) fun _ _ _ _ _ _ us hl => match us, hl with | [_], _ => rfl
  have F1 := fun_mk (st := s_is_within) l1 p1 k1
  have b1 := F1.binds (ps := ["thing", "low", "high"]) fun _ _ _ _ _ _ us hl => match us, hl with | [_, _, _], _ => rfl
  have F2 := fun_mk (st := s_is_name) l2 p2 k2
  have b2 := F2.binds (ps := ["thing"]) fun _ _ _ _ _ _ us hl => match us, hl with | [_], _ => rfl
  have F3 := fun_mk (st := s_all_between) l3 p3 k3
  have b3 := F3.binds (ps := ["text", "low", "high"]) fun _ _ _ _ _ _ us hl => match us, hl with | [_, _, _], _ => rfl
  have F4 := fun_mk (st := s_check_number) l4 p4 k4
  have b4 := F4.binds (ps := ["thing", "low", "high"]) fun _ _ _ _ _ _ us hl => match us, hl with | [_, _, _], _ => rfl
  have F5 := fun_mk (st := s_check_names) l5 p5 k5
  have b5 := F5.binds (ps := ["things"]) fun _ _ _ _ _ _ us hl => match us, hl with | [_], _ => rfl
  have F6 := fun_mk (st := s_cell) l6 p6 k6
  have b6 := F6.binds (ps := ["_law_script", "_law_k"]) fun _ _ _ _ _ _ us hl => match us, hl with | [_, _], _ => rfl
  have F7 := fun_mk (st := s_box) l7 p7 k7
  have b7 := F7.binds (ps := ["_law_cell_here"]) fun _ _ _ _ _ _ us hl => match us, hl with | [_], _ => rfl
  have F8 := fun_mk (st := s_take) l8 p8 k8
  have b8 := F8.binds (ps := ["_law_box_here", "_law_many"]) fun _ _ _ _ _ _ us hl => match us, hl with | [_, _], _ => rfl
  have F9 := fun_mk (st := s_names) l9 p9 k9
  have b9 := F9.binds (ps := ["_law_box_here", "_law_many"]) fun _ _ _ _ _ _ us hl => match us, hl with | [_, _], _ => rfl
  have F10 := fun_mk (st := s_number) l10 p10 k10
  have b10 := F10.binds (ps := ["_law_box_here", "_law_low", "_law_high"]) fun _ _ _ _ _ _ us hl => match us, hl with | [_, _, _], _ => rfl
  have F11 := fun_mk (st := s_odd) l11 p11 k11
  have b11 := F11.binds (ps := ["_law_box_here"]) fun _ _ _ _ _ _ us hl => match us, hl with | [_], _ => rfl
  have F12 := fun_mk (st := s_channel_row) l12 p12 k12
  have b12 := F12.binds (ps := ["_law_box_here", "_law_name", "_law_one", "_law_other"]) fun _ _ _ _ _ _ us hl => match us, hl with | [_, _, _, _], _ => rfl
  have F13 := fun_mk (st := s_l_is_name) l13 p13 k13
  have b13 := F13.binds (ps := ["_law_thing"]) fun _ _ _ _ _ _ us hl => match us, hl with | [_], _ => rfl
  have F14 := fun_mk (st := s_is_number) l14 p14 k14
  have b14 := F14.binds (ps := ["_law_thing", "_law_low", "_law_high"]) fun _ _ _ _ _ _ us hl => match us, hl with | [_, _, _], _ => rfl
  have F15 := fun_mk (st := s_due) l15 p15 k15
  have b15 := F15.binds (ps := ["_law_row"]) fun _ _ _ _ _ _ us hl => match us, hl with | [_], _ => rfl
  have F16 := fun_mk (st := s_found) l16 p16 k16
  have b16 := F16.binds (ps := ["_law_row"]) fun _ _ _ _ _ _ us hl => match us, hl with | [_], _ => rfl
  have F17 := fun_mk (st := s_spoilt) l17 p17 k17
  have b17 := F17.binds (ps := ["_law_box_here", "_law_row"]) fun _ _ _ _ _ _ us hl => match us, hl with | [_, _], _ => rfl
  have F18 := fun_mk (st := s_law) l18 p18 k18
  have b18 := F18.binds (ps := ["_law_script"]) fun _ _ _ _ _ _ us hl => match us, hl with | [_], _ => rfl
  have F19 := fun_mk (st := s_NoName___init__) l19 p19 k19
  have b19 := F19.binds (ps := ["self", "found"]) fun _ _ _ _ _ _ us hl => match us, hl with | [_, _], _ => rfl
  have F20 := fun_mk (st := s_NoNumber___init__) l20 p20 k20
  have b20 := F20.binds (ps := ["self", "found"]) fun _ _ _ _ _ _ us hl => match us, hl with | [_, _], _ => rfl
  have F21 := fun_mk (st := s_Doubled___init__) l21 p21 k21
  have b21 := F21.binds (ps := ["self", "name"]) fun _ _ _ _ _ _ us hl => match us, hl with | [_, _], _ => rfl
  have F22 := fun_mk (st := s_Channel___init__) l22 p22 k22
  have b22 := F22.binds (ps := ["self", "name", "one", "other", "hours", "depth", "first", "growth", "most"]) fun _ _ _ _ _ _ us hl => match us, hl with | [_, _, _, _, _, _, _, _, _], _ => rfl
  let T : Top K mg := { a_IceError := C_IceError, c_IceError := PySem.W.mg_of X G g_IceError, sp_IceError := sp_IceError, ty_IceError := ty_IceError, rd_IceError := rd_IceError, fc_IceError := fc_IceError, a_NoName := C_NoName, c_NoName := PySem.W.mg_of X G g_NoName, ox_NoName := ⟨⟨nm_NoName, q_NoName, N_NoName, bs_NoName, bm_NoName, sn_NoName, su_NoName, ab_NoName, co_NoName, dd_NoName, m0_NoName, m1_NoName, m2_NoName, m3_NoName, m5_NoName, xl_NoName, hb_NoName⟩, sa_NoName, ec_NoName, tc_NoName, kc_NoName⟩, xf_NoName := ⟨ga_NoName, gg_NoName, ec_NoName, hd_NoName⟩, in_NoName := in_NoName, tf_NoName := tf_NoName, nf_NoName_found := nf_NoName_found, a_NoNumber := C_NoNumber, c_NoNumber := PySem.W.mg_of X G g_NoNumber, ox_NoNumber := ⟨⟨nm_NoNumber, q_NoNumber, N_NoNumber, bs_NoNumber, bm_NoNumber, sn_NoNumber, su_NoNumber, ab_NoNumber, co_NoNumber, dd_NoNumber, m0_NoNumber, m1_NoNumber, m2_NoNumber, m3_NoNumber, m5_NoNumber, xl_NoNumber, hb_NoNumber⟩, sa_NoNumber, ec_NoNumber, tc_NoNumber, kc_NoNumber⟩, xf_NoNumber := ⟨ga_NoNumber, gg_NoNumber, ec_NoNumber, hd_NoNumber⟩, in_NoNumber := in_NoNumber, tf_NoNumber := tf_NoNumber, nf_NoNumber_found := nf_NoNumber_found, a_Doubled := C_Doubled, c_Doubled := PySem.W.mg_of X G g_Doubled, ox_Doubled := ⟨⟨nm_Doubled, q_Doubled, N_Doubled, bs_Doubled, bm_Doubled, sn_Doubled, su_Doubled, ab_Doubled, co_Doubled, dd_Doubled, m0_Doubled, m1_Doubled, m2_Doubled, m3_Doubled, m5_Doubled, xl_Doubled, hb_Doubled⟩, sa_Doubled, ec_Doubled, tc_Doubled, kc_Doubled⟩, xf_Doubled := ⟨ga_Doubled, gg_Doubled, ec_Doubled, hd_Doubled⟩, in_Doubled := in_Doubled, tf_Doubled := tf_Doubled, nf_Doubled_name := nf_Doubled_name, a_Channel := C_Channel, c_Channel := PySem.W.mg_of X G g_Channel, cl_Channel := ⟨pg_Channel, hd_Channel, po_Channel, sa_Channel⟩, mk_Channel := ⟨mk_Channel, in_Channel, if_Channel, kc_Channel⟩, na_Channel_name := na_Channel_name, na_Channel_one := na_Channel_one, na_Channel_other := na_Channel_other, na_Channel_hours := na_Channel_hours, na_Channel_depth := na_Channel_depth, na_Channel_first := na_Channel_first, na_Channel_growth := na_Channel_growth, na_Channel_most := na_Channel_most, ex_NoName_NoName := ex_NoName_NoName, ex_NoName_Doubled := ex_NoName_Doubled, ex_NoName_NoNumber := ex_NoName_NoNumber, ex_NoName_IceError := ex_NoName_IceError, ex_NoNumber_NoName := ex_NoNumber_NoName, ex_NoNumber_Doubled := ex_NoNumber_Doubled, ex_NoNumber_NoNumber := ex_NoNumber_NoNumber, ex_NoNumber_IceError := ex_NoNumber_IceError, ex_Doubled_NoName := ex_Doubled_NoName, ex_Doubled_Doubled := ex_Doubled_Doubled, ex_Doubled_NoNumber := ex_Doubled_NoNumber, ex_Doubled_IceError := ex_Doubled_IceError, a_is_whole := f0, d_is_whole := _, F_is_whole := F0, b_is_whole := b0, m_is_whole := PySem.W.mg_of X G a0, a_is_within := f1, d_is_within := _, F_is_within := F1, b_is_within := b1, m_is_within := PySem.W.mg_of X G a1, a_is_name := f2, d_is_name := _, F_is_name := F2, b_is_name := b2, m_is_name := PySem.W.mg_of X G a2, a_all_between := f3, d_all_between := _, F_all_between := F3, b_all_between := b3, m_all_between := PySem.W.mg_of X G a3, a_check_number := f4, d_check_number := _, F_check_number := F4, b_check_number := b4, m_check_number := PySem.W.mg_of X G a4, a_check_names := f5, d_check_names := _, F_check_names := F5, b_check_names := b5, m_check_names := PySem.W.mg_of X G a5, a_cell := f6, d_cell := _, F_cell := F6, b_cell := b6, m_cell := PySem.W.mg_of X G a6, a_box := f7, d_box := _, F_box := F7, b_box := b7, m_box := PySem.W.mg_of X G a7, a_take := f8, d_take := _, F_take := F8, b_take := b8, m_take := PySem.W.mg_of X G a8, a_names := f9, d_names := _, F_names := F9, b_names := b9, m_names := PySem.W.mg_of X G a9, a_number := f10, d_number := _, F_number := F10, b_number := b10, m_number := PySem.W.mg_of X G a10, a_odd := f11, d_odd := _, F_odd := F11, b_odd := b11, m_odd := PySem.W.mg_of X G a11, a_channel_row := f12, d_channel_row := _, F_channel_row := F12, b_channel_row := b12, m_channel_row := PySem.W.mg_of X G a12, a_l_is_name := f13, d_l_is_name := _, F_l_is_name := F13, b_l_is_name := b13, m_l_is_name := PySem.W.mg_of X G a13, a_is_number := f14, d_is_number := _, F_is_number := F14, b_is_number := b14, m_is_number := PySem.W.mg_of X G a14, a_due := f15, d_due := _, F_due := F15, b_due := b15, m_due := PySem.W.mg_of X G a15, a_found := f16, d_found := _, F_found := F16, b_found := b16, m_found := PySem.W.mg_of X G a16, a_spoilt := f17, d_spoilt := _, F_spoilt := F17, b_spoilt := b17, m_spoilt := PySem.W.mg_of X G a17, a_law := fa, d_law := _, F_law := F18, b_law := b18, m_law := PySem.W.mg_of X G a18, a_NoName___init__ := f19, d_NoName___init__ := _, F_NoName___init__ := F19, b_NoName___init__ := b19, a_NoNumber___init__ := f20, d_NoNumber___init__ := _, F_NoNumber___init__ := F20, b_NoNumber___init__ := b20, a_Doubled___init__ := f21, d_Doubled___init__ := _, F_Doubled___init__ := F21, b_Doubled___init__ := b21, a_Channel___init__ := f22, d_Channel___init__ := _, F_Channel___init__ := F22, b_Channel___init__ := b22, t_NAME_MOST := t_NAME_MOST, c_NAME_MOST := PySem.W.mg_of X G c_NAME_MOST, t_HOURS_MOST := t_HOURS_MOST, c_HOURS_MOST := PySem.W.mg_of X G c_HOURS_MOST, t_DEPTH_MOST := t_DEPTH_MOST, c_DEPTH_MOST := PySem.W.mg_of X G c_DEPTH_MOST, t_GROWTH_MOST := t_GROWTH_MOST, c_GROWTH_MOST := PySem.W.mg_of X G c_GROWTH_MOST, t_THICK_MOST := t_THICK_MOST, c_THICK_MOST := PySem.W.mg_of X G c_THICK_MOST, n_isinstance := PySem.W.mg_none_of X G n_isinstance, n_int := PySem.W.mg_none_of X G n_int, n_bool := PySem.W.mg_none_of X G n_bool, n_str := PySem.W.mg_none_of X G n_str, n_len := PySem.W.mg_none_of X G n_len, n_max := PySem.W.mg_none_of X G n_max, n_range := PySem.W.mg_none_of X G n_range, n_min := PySem.W.mg_none_of X G n_min, n_zip := PySem.W.mg_none_of X G n_zip, n_repr := PySem.W.mg_none_of X G n_repr }
  exact ⟨_, fun s v => .of_eq rfl, fun base _ _ => ok_law (P := l.prog) (w := w) (base := base) T⟩
end Ice
open PySem PySem.W PyProof.Rows
set_option maxRecDepth 100000 in
set_option maxHeartbeats 0 in
theorem PySem.Challenge.cw_iceopened_k07_channels_refused_holds : PySem.Challenge.rw_iceopened_k07_channels_refused.Holds := by
  w_on; o_law; k_head; (case hw => w_witness2)
  k_fill
  refine Ice.walkG (l := PySem.Challenge.rw_iceopened_k07_channels_refused) (n := 63) (k := 7) (x := "_law_script") (sp := Ice.spLaw) rfl (by decide) rfl ⟨rfl, by decide, by decide⟩ (fun w h Y => PySem.W.kIn_of Y) ?F Ice.law_sp
  case F =>
    intro w mg fa h KX G hmg
    refine' Ice.all_mk KX G hmg ?g_IceError ?sp_IceError ?ty_IceError ?rd_IceError ?fc_IceError ?g_NoName ?xl_NoName ?hb_NoName ?sa_NoName ?ec_NoName ?tc_NoName ?kc_NoName ?ga_NoName ?gg_NoName ?hd_NoName ?in_NoName ?tf_NoName ?nf_NoName_found ?g_NoNumber ?xl_NoNumber ?hb_NoNumber ?sa_NoNumber ?ec_NoNumber ?tc_NoNumber ?kc_NoNumber ?ga_NoNumber ?gg_NoNumber ?hd_NoNumber ?in_NoNumber ?tf_NoNumber ?nf_NoNumber_found ?g_Doubled ?xl_Doubled ?hb_Doubled ?sa_Doubled ?ec_Doubled ?tc_Doubled ?kc_Doubled ?ga_Doubled ?gg_Doubled ?hd_Doubled ?in_Doubled ?tf_Doubled ?nf_Doubled_name ?g_Channel ?pg_Channel ?hd_Channel ?po_Channel ?sa_Channel ?mk_Channel ?in_Channel ?if_Channel ?kc_Channel ?na_Channel_name ?na_Channel_one ?na_Channel_other ?na_Channel_hours ?na_Channel_depth ?na_Channel_first ?na_Channel_growth ?na_Channel_most ?ex_NoName_NoName ?ex_NoName_Doubled ?ex_NoName_NoNumber ?ex_NoName_IceError ?ex_NoNumber_NoName ?ex_NoNumber_Doubled ?ex_NoNumber_NoNumber ?ex_NoNumber_IceError ?ex_Doubled_NoName ?ex_Doubled_Doubled ?ex_Doubled_NoNumber ?ex_Doubled_IceError ?a0 ?l0 ?p0 ?k0 ?a1 ?l1 ?p1 ?k1 ?a2 ?l2 ?p2 ?k2 ?a3 ?l3 ?p3 ?k3 ?a4 ?l4 ?p4 ?k4 ?a5 ?l5 ?p5 ?k5 ?a6 ?l6 ?p6 ?k6 ?a7 ?l7 ?p7 ?k7 ?a8 ?l8 ?p8 ?k8 ?a9 ?l9 ?p9 ?k9 ?a10 ?l10 ?p10 ?k10 ?a11 ?l11 ?p11 ?k11 ?a12 ?l12 ?p12 ?k12 ?a13 ?l13 ?p13 ?k13 ?a14 ?l14 ?p14 ?k14 ?a15 ?l15 ?p15 ?k15 ?a16 ?l16 ?p16 ?k16 ?a17 ?l17 ?p17 ?k17 ?a18 ?l18 ?p18 ?k18 ?l19 ?p19 ?k19 ?l20 ?p20 ?k20 ?l21 ?p21 ?k21 ?l22 ?p22 ?k22 ?c_NAME_MOST ?c_HOURS_MOST ?c_DEPTH_MOST ?c_GROWTH_MOST ?c_THICK_MOST ?n_isinstance ?n_int ?n_bool ?n_str ?n_len ?n_max ?n_range ?n_min ?n_zip ?n_repr
    (case g_IceError => k_is)
    (case sp_IceError => k_is)
    (case ty_IceError => k_is)
    (case rd_IceError => k_is)
    (case fc_IceError => k_is)
    (case g_NoName => k_is)
    (case xl_NoName => k_is)
    (case hb_NoName => decide +kernel)
    (case sa_NoName => k_is)
    (case ec_NoName => k_is)
    (case tc_NoName => k_is)
    (case kc_NoName => k_is)
    (case ga_NoName => k_is)
    (case gg_NoName => k_is)
    (case hd_NoName => k_is)
    (case in_NoName => k_is)
    (case tf_NoName => k_is)
    (case nf_NoName_found => k_is)
    (case g_NoNumber => k_is)
    (case xl_NoNumber => k_is)
    (case hb_NoNumber => decide +kernel)
    (case sa_NoNumber => k_is)
    (case ec_NoNumber => k_is)
    (case tc_NoNumber => k_is)
    (case kc_NoNumber => k_is)
    (case ga_NoNumber => k_is)
    (case gg_NoNumber => k_is)
    (case hd_NoNumber => k_is)
    (case in_NoNumber => k_is)
    (case tf_NoNumber => k_is)
    (case nf_NoNumber_found => k_is)
    (case g_Doubled => k_is)
    (case xl_Doubled => k_is)
    (case hb_Doubled => decide +kernel)
    (case sa_Doubled => k_is)
    (case ec_Doubled => k_is)
    (case tc_Doubled => k_is)
    (case kc_Doubled => k_is)
    (case ga_Doubled => k_is)
    (case gg_Doubled => k_is)
    (case hd_Doubled => k_is)
    (case in_Doubled => k_is)
    (case tf_Doubled => k_is)
    (case nf_Doubled_name => k_is)
    (case g_Channel => k_is)
    (case pg_Channel => k_is)
    (case hd_Channel => k_is)
    (case po_Channel => k_is)
    (case sa_Channel => k_is)
    (case mk_Channel => k_is)
    (case in_Channel => k_is)
    (case if_Channel => k_is)
    (case kc_Channel => k_is)
    (case na_Channel_name => k_is)
    (case na_Channel_one => k_is)
    (case na_Channel_other => k_is)
    (case na_Channel_hours => k_is)
    (case na_Channel_depth => k_is)
    (case na_Channel_first => k_is)
    (case na_Channel_growth => k_is)
    (case na_Channel_most => k_is)
    (case ex_NoName_NoName => first | k_is | (first | rfl | decide +kernel))
    (case ex_NoName_Doubled => first | k_is | (first | rfl | decide +kernel))
    (case ex_NoName_NoNumber => first | k_is | (first | rfl | decide +kernel))
    (case ex_NoName_IceError => first | k_is | (first | rfl | decide +kernel))
    (case ex_NoNumber_NoName => first | k_is | (first | rfl | decide +kernel))
    (case ex_NoNumber_Doubled => first | k_is | (first | rfl | decide +kernel))
    (case ex_NoNumber_NoNumber => first | k_is | (first | rfl | decide +kernel))
    (case ex_NoNumber_IceError => first | k_is | (first | rfl | decide +kernel))
    (case ex_Doubled_NoName => first | k_is | (first | rfl | decide +kernel))
    (case ex_Doubled_Doubled => first | k_is | (first | rfl | decide +kernel))
    (case ex_Doubled_NoNumber => first | k_is | (first | rfl | decide +kernel))
    (case ex_Doubled_IceError => first | k_is | (first | rfl | decide +kernel))
    (case a0 => k_is)
    (case l0 => k_is)
    (case p0 => k_is)
    (case k0 => k_is)
    (case a1 => k_is)
    (case l1 => k_is)
    (case p1 => k_is)
    (case k1 => k_is)
    (case a2 => k_is)
    (case l2 => k_is)
    (case p2 => k_is)
    (case k2 => k_is)
    (case a3 => k_is)
    (case l3 => k_is)
    (case p3 => k_is)
    (case k3 => k_is)
    (case a4 => k_is)
    (case l4 => k_is)
    (case p4 => k_is)
    (case k4 => k_is)
    (case a5 => k_is)
    (case l5 => k_is)
    (case p5 => k_is)
    (case k5 => k_is)
    (case a6 => k_is)
    (case l6 => k_is)
    (case p6 => k_is)
    (case k6 => k_is)
    (case a7 => k_is)
    (case l7 => k_is)
    (case p7 => k_is)
    (case k7 => k_is)
    (case a8 => k_is)
    (case l8 => k_is)
    (case p8 => k_is)
    (case k8 => k_is)
    (case a9 => k_is)
    (case l9 => k_is)
    (case p9 => k_is)
    (case k9 => k_is)
    (case a10 => k_is)
    (case l10 => k_is)
    (case p10 => k_is)
    (case k10 => k_is)
    (case a11 => k_is)
    (case l11 => k_is)
    (case p11 => k_is)
    (case k11 => k_is)
    (case a12 => k_is)
    (case l12 => k_is)
    (case p12 => k_is)
    (case k12 => k_is)
    (case a13 => k_is)
    (case l13 => k_is)
    (case p13 => k_is)
    (case k13 => k_is)
    (case a14 => k_is)
    (case l14 => k_is)
    (case p14 => k_is)
    (case k14 => k_is)
    (case a15 => k_is)
    (case l15 => k_is)
    (case p15 => k_is)
    (case k15 => k_is)
    (case a16 => k_is)
    (case l16 => k_is)
    (case p16 => k_is)
    (case k16 => k_is)
    (case a17 => k_is)
    (case l17 => k_is)
    (case p17 => k_is)
    (case k17 => k_is)
    (case a18 => k_is)
    (case l18 => k_is)
    (case p18 => k_is)
    (case k18 => k_is)
    (case l19 => k_is)
    (case p19 => k_is)
    (case k19 => k_is)
    (case l20 => k_is)
    (case p20 => k_is)
    (case k20 => k_is)
    (case l21 => k_is)
    (case p21 => k_is)
    (case k21 => k_is)
    (case l22 => k_is)
    (case p22 => k_is)
    (case k22 => k_is)
    (case c_NAME_MOST => k_is)
    (case c_HOURS_MOST => k_is)
    (case c_DEPTH_MOST => k_is)
    (case c_GROWTH_MOST => k_is)
    (case c_THICK_MOST => k_is)
    (case n_isinstance => k_is)
    (case n_int => k_is)
    (case n_bool => k_is)
    (case n_str => k_is)
    (case n_len => k_is)
    (case n_max => k_is)
    (case n_range => k_is)
    (case n_min => k_is)
    (case n_zip => k_is)
    (case n_repr => k_is)

