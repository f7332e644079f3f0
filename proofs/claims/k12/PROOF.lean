import PyProof.Rows.All
import Wide.All
import OpenK.AllK
import Wide.FinOn
import HandS.ForMost
import HandS.Wide
import HandS.Style
import HandS.IsInst
import HandS.Codes
import HandS.Steps
import PyProof.ReprRoads
import HandS.ForExc
import HandS.EndBits
import KE.IntTextLaws
import HandS.ExcInit
import HandS.ExcField
import HandS.TryMany
import KE.KEqDict
import HandS.TryOnly
import KE.KEqNest
import HandS.More
import HandS.Iter
import HandS.Walk
import HandS.DictComp
import HandS.TupAny
import KE.RegKIsAll
import PySem.Challenge.RW_iceopened_k12_worlds_refused
set_option Elab.async false
set_option linter.all false
set_option maxRecDepth 100000
set_option maxHeartbeats 4000000
/-! The steps of a reading, one lemma for each construct; facts of heaps. -/
namespace Ice
open PySem PySem.Spec PyProof.Rows L2
section
variable {σ : L2.St} {H H' : Hp} {D : Ends} {t u : TS} {c tt tu : TT} {te ta tb tc : TE} {tA : TA} {Q : VK} {QA : List V → Hp → Prop} {QT : Bool → Hp → Prop} {i : Nat} {v x y : V} {g : TG} {r : R2}
theorem i_seq (h : t { D with nx := u D } σ H) : tSeq t u D σ H := h
theorem i_if (h : c σ H fun b H1 => if b = true then t D σ H1 else u D σ H1) : tIfS c t u D σ H := h
theorem i_next (h : D.nx σ H) : tNext D σ H := h
theorem i_brk (h : D.bk σ H) : tBreak D σ H := h
theorem i_cont (h : D.ct σ H) : tCont D σ H := h
theorem i_ret (h : te σ H D.rt) : tRet te D σ H := h
theorem i_retN (h : D.rt .non H) : tRetN D σ H := h
theorem i_drop (h : te σ H fun _ H1 => D.nx σ H1) : tDrop te D σ H := h
theorem i_asg (h : te σ H fun x H1 => g x σ H1 D.nx) : tAsg te g D σ H := h
theorem i_gname {q : L2.St → Hp → Prop} (h : q (σ.set i (some v)) H) : gName i v σ H q := h
theorem i_gsub {to ti : TE} {s : TSet} {q : L2.St → Hp → Prop} (h : to σ H fun o H1 => ti σ H1 fun i H2 => s o i v H2 fun H3 => q σ H3) : gSub to ti s v σ H q := h
theorem i_var (h : σ[i]? = some (some v)) (q : Q v H) : tVar i σ H Q := ⟨v, h, q⟩
theorem i_c (q : Q v H) : tC v σ H Q := q
theorem i_op (h : ta σ H fun x H1 => tb σ H1 fun y H2 => r x y H2 Q) : tOp r ta tb σ H Q := h
theorem i_un {r : V → Hp → VK → Prop} (h : ta σ H fun x H1 => r x H1 Q) : tUn r ta σ H Q := h
theorem i_test (h : te σ H fun x H' => ∃ k, x = .bl k ∧ QT k H') : tTest te σ H QT := h
theorem i_tB (h : te σ H fun x H' => ∃ k, x = .bl k ∧ QT k H') : tB te σ H QT := h
theorem i_and (h : c σ H fun b H1 => if b = true then tt σ H1 QT else QT false H1) : tAnd c tt σ H QT := h
theorem i_or (h : c σ H fun b H1 => if b = true then QT true H1 else tt σ H1 QT) : tOr c tt σ H QT := h
theorem i_not (h : c σ H fun b H1 => QT (!b) H1) : tNot c σ H QT := h
theorem i_andV (h : ta σ H fun x H1 => ∃ c, x = .bl c ∧ if c = true then tb σ H1 Q else Q (.bl false) H1) : tAndV ta tb σ H Q := h
theorem i_orV (h : ta σ H fun x H1 => ∃ c, x = .bl c ∧ if c = true then Q (.bl true) H1 else tb σ H1 Q) : tOrV ta tb σ H Q := h
theorem i_notV (h : ta σ H fun x H1 => ∃ c, x = .bl c ∧ Q (.bl (!c)) H1) : tNotV ta σ H Q := h
theorem i_ifE (h : c σ H fun b H1 => if b = true then ta σ H1 Q else tb σ H1 Q) : tIf c ta tb σ H Q := h
theorem i_bl {b : Bool} {q : Bool → Prop} (h : q b) : ∃ k, V.bl b = .bl k ∧ q k := ⟨b, rfl, h⟩
theorem i_nil (q : QA [] H) : tNil σ H QA := q
theorem i_cons (h : te σ H fun x H1 => tA σ H1 fun xs H2 => QA (x :: xs) H2) : tCons te tA σ H QA := h
theorem i_call {sp : Sp} {dvs : List V} {E : XK} (h : tA σ H fun vs H1 => sp (vs ++ dvs) H1 Q E) : tCall sp dvs E tA σ H Q := h
theorem i_cb {r : List V → Hp → VK → Prop} (h : tA σ H fun vs H1 => r vs H1 Q) : tCB r tA σ H Q := h
theorem i_rI0 {f : Int → Int → V} {a b : Int} (q : Q (f a b) H) : rI0 f (.int a) (.int b) H Q := ⟨a, b, rfl, rfl, q⟩
theorem i_rI {C : Int → Int → Prop} {f : Int → Int → V} {a b : Int} (hc : C a b) (q : Q (f a b) H) : rI C f (.int a) (.int b) H Q := ⟨a, b, rfl, rfl, hc, q⟩
theorem i_rU {f : Int → V} {a : Int} (q : Q (f a) H) : rU f (.int a) H Q := ⟨a, rfl, q⟩
theorem i_rEq (h : scal x y = true) (q : Q (.bl (decide (x = y))) H) : rEq x y H Q := ⟨h, q⟩
theorem i_rNe (h : scal x y = true) (q : Q (.bl (!decide (x = y))) H) : rNe x y H Q := ⟨h, q⟩
theorem i_chain {r' : R2} (h : ta σ H fun x H1 => tb σ H1 fun y H2 => r x y H2 fun z H3 => ∃ k, z = .bl k ∧ (if k = true then tc σ H3 fun w' H4 => r' y w' H4 Q else Q (.bl false) H3)) : tChain r r' ta tb tc σ H Q := h
theorem i_tup (h : tA σ H fun xs H1 => xs.length ≤ sizeLine ∧ ∀ p, H1 p = none → Q (.ref p) (upd H1 p (.tup xs))) : tTup tA σ H Q := h
theorem i_lst (h : tA σ H fun xs H1 => xs.length ≤ sizeLine ∧ ∀ p, H1 p = none → Q (.ref p) (upd H1 p (.lst xs))) : tLst tA σ H Q := h
theorem i_bm {K : PySem.W.Frag} {T : String} {r : V → List V → Hp → VK → Prop} (h : te σ H fun x H1 => tyV K T x H1 ∧ tA σ H1 fun xs H2 => r x xs H2 Q) : tBM K T r te tA σ H Q := h
theorem i_bm0 {K : PySem.W.Frag} {T : String} {r : V → List V → Hp → VK → Prop} (h : te σ H fun x H1 => tyV K T x H1 ∧ r x [] H1 Q) : tBM0 K T r te σ H Q := h
theorem i_m1 {r : V → List V → Hp → VK → Prop} (h : te σ H fun x H1 => (∃ a, x = .str a) ∧ tb σ H1 fun y H2 => r x [y] H2 Q) : tM1 r te tb σ H Q := h
theorem i_sl {r : V → Option Int → Option Int → Hp → VK → Prop} {tl th : TO} (h : te σ H fun x H1 => tl σ H1 fun a H2 => th σ H2 fun b H3 => r x a b H3 Q) : tSl r te tl th σ H Q := h
theorem i_nopart {q : Option Int → Hp → Prop} (h : q none H) : tNoPart σ H q := h
theorem i_part {q : Option Int → Hp → Prop} (h : te σ H fun x H1 => ∃ i, x = .int i ∧ q (some i) H1) : tPart te σ H q := h
theorem i_int {a : Int} {q : Int → Prop} (h : q a) : ∃ k, V.int a = .int k ∧ q k := ⟨a, rfl, h⟩
theorem i_str {a : Str} {q : Str → Prop} (h : q a) : ∃ k, V.str a = .str k ∧ q k := ⟨a, rfl, h⟩
theorem i_for {wi : TI} {tb : TS} (h : wi σ H fun J H1 => ∃ W : Nat → Nat → L2.St → Hp → Prop, (∃ m, W 0 m σ H1) ∧ ∀ i m σ H, W i m σ H →
      (J.stop i H ∧ D.nx σ H) ∨ (J.go i H ∧ ∃ N : L2.St → Hp → Prop, (∀ σ' H', N σ' H' → ∃ m', m' < m ∧ W (i + 1) m' σ' H') ∧ ∀ x H', J.yld i H x H' → g x σ H' fun σ2 H2 => tb { D with nx := N, ct := N, bk := D.nx } σ2 H2)) : tFor wi g tb D σ H := h
theorem i_yes {q : Bool → Hp → Prop} (h : q true H) : tYes σ H q := h
theorem ifs {b : Bool} {A B : Prop} (h1 : b = true → A) (h2 : b = false → B) : if b = true then A else B := by
  cases b with
  | true => exact h1 rfl
  | false => exact h2 rfl
end
/-! ### heaps -/
/-- all but what stands at b is as it was -/
def But (b : Addr) (H H' : Hp) : Prop := ∀ a o, a ≠ b → H a = some o → H' a = some o
theorem But.refl (b : Addr) (H : Hp) : But b H H := fun _ _ _ h => h
theorem But.trans {b : Addr} {H H1 H2 : Hp} (e : But b H H1) (e' : But b H1 H2) : But b H H2 := fun a o n h => e' a o n (e a o n h)
theorem But.set {b : Addr} {H : Hp} (o : HO) : But b H (upd H b o) := fun a u n h => by rw [upd_ne n]; exact h
theorem But.new {b p : Addr} {H : Hp} (o : HO) (hp : H p = none) : But b H (upd H p o) := fun a u n h => by rw [upd_ne (ne_of_none h hp)]; exact h
theorem Same.new {p : Addr} {H : Hp} (o : HO) (hp : H p = none) : Same H (upd H p o) := fun a u h => by rw [upd_ne (ne_of_none h hp)]; exact h
theorem Same.but {b : Addr} {H H' : Hp} (e : Same H H') : But b H H' := fun a o _ h => e a o h
/-- behind a change at b that H doesn't know -/
theorem But.same {b : Addr} {H H' : Hp} (e : But b H H') (hb : H b = none) : Same H H' := fun a o h => e a o (ne_of_none h hb) h
theorem keepU {H : Hp} {b p : Addr} {o u : HO} (h : H b = some o) (n : H p = none) : upd H p u b = some o := by rw [upd_ne (ne_of_none h n)]; exact h
theorem freeU {H : Hp} {b p : Addr} {u : HO} (h : upd H p u b = none) : H b = none := by
  by_cases e : b = p
  · subst e; rw [upd_same] at h; cases h
  · rw [upd_ne e] at h; exact h
theorem freeNe {H : Hp} {b p : Addr} {u : HO} (h : upd H p u b = none) : b ≠ p := fun e => by subst e; rw [upd_same] at h; cases h
theorem But.free {b p : Addr} {H H' : Hp} (e : But b H H') (n : p ≠ b) (h : H' p = none) : H p = none := by
  cases q : H p with
  | none => rfl
  | some o => rw [e p o n q] at h; cases h
theorem SqL.lst {K : PySem.W.Frag} {H : Hp} {a : Addr} {xs : List V} (h : H a = some (.lst xs)) : SqL K H a xs := .inl (.inl h)
theorem SqT.tup {K : PySem.W.Frag} {H : Hp} {a : Addr} {xs : List V} (h : H a = some (.tup xs)) : SqT K H a xs := .inl (.inl h)
/-- a law's script: what is read never changes -/
theorem SqL.but {K : PySem.W.Frag} {b : Addr} {H H' : Hp} {a : Addr} {xs : List V} (e : But b H H') (n : a ≠ b) (h : SqL K H a xs) : SqL K H' a xs := by
  rcases h with (h | ⟨o, h⟩) | h
  · exact .inl (.inl (e _ _ n h))
  · exact .inl (.inr ⟨o, e _ _ n h⟩)
  · exact .inr h
section
variable {H H' : Hp} {Q : VK} {K : PySem.W.Frag}
theorem i_ixL {p : Addr} {xs : List V} {i : Int} {v : V} (hS : SqL K H p xs) (he : atI xs i = some v) (q : Q v H) : rIxL K (.ref p) (.int i) H Q := ⟨p, xs, i, v, rfl, rfl, hS, he, q⟩
theorem i_ixT {p : Addr} {xs : List V} {i : Int} {v : V} (hS : SqT K H p xs) (he : atI xs i = some v) (q : Q v H) : rIxT K (.ref p) (.int i) H Q := ⟨p, xs, i, v, rfl, rfl, hS, he, q⟩
theorem i_ixS {z : Str} {i : Int} {c : Nat} (hz : z.length ≤ sizeLine) (he : atI z.cps.toList i = some c) (q : Q (.str ⟨#[c]⟩) H) : rIxS (.str z) (.int i) H Q := ⟨z, i, c, rfl, rfl, hz, he, q⟩
theorem i_setL {p : Addr} {xs : List V} {k : Int} {j : Nat} {v : V} {q : Hp → Prop} (h : H p = some (.lst xs)) (hj : ixN xs.length k = some j) (hq : q (upd H p (.lst (xs.set j v)))) : rSetL (.ref p) (.int k) v H q := ⟨p, xs, k, j, rfl, rfl, h, hj, hq⟩
end
/-! ### rules by name -/
def rLen (K : PySem.W.Frag) : List V → Hp → VK → Prop := fun xs H Q => ∃ p ys, xs = [.ref p] ∧ (SqL K H p ys ∨ SqT K H p ys) ∧ Q (.int ys.length) H
def rLenS : List V → Hp → VK → Prop := fun xs H Q => ∃ x, xs = [.str x] ∧ x.length ≤ sizeLine ∧ Q (.int x.length) H
def rMax2 : List V → Hp → VK → Prop := fun xs H Q => ∃ i j, xs = [.int i, .int j] ∧ Q (.int (if j > i then j else i)) H
def rMin2 : List V → Hp → VK → Prop := fun xs H Q => ∃ i j, xs = [.int i, .int j] ∧ Q (.int (if j < i then j else i)) H
def rStrI : List V → Hp → VK → Prop := fun xs H Q => ∃ i, xs = [.int i] ∧ i.natAbs.log2 < 1920 ∧ Q (.str (toString i)) H
def rAddT : R2 := fun x y H Q => ∃ i j, x = .str i ∧ y = .str j ∧ i.length + j.length ≤ sizeLine ∧ Q (.str (i ++ j)) H
section
variable {X : Cx} {H H' : Hp} {Q : VK} {K : PySem.W.Frag}
theorem c_len : CallR X (.builtin "len") (rLen X.K) := call_len_seq
theorem c_lenS : CallR X (.builtin "len") rLenS := call_len_str
theorem c_max2 (hc : X.calm = true := by rfl) : CallR X (.builtin "max") rMax2 := call_max2 hc
theorem c_min2 (hc : X.calm = true := by rfl) : CallR X (.builtin "min") rMin2 := call_min2 hc
theorem c_strI : CallR X (.type "str") rStrI := call_str_int
theorem o_addT : OpR X (binaryOp .Add) rAddT := op_add_str
theorem i_lenL {p : Addr} {xs : List V} (hS : SqL K H p xs) (q : Q (.int xs.length) H) : rLen K [.ref p] H Q := ⟨p, xs, rfl, .inl hS, q⟩
theorem i_lenT {p : Addr} {xs : List V} (hS : SqT K H p xs) (q : Q (.int xs.length) H) : rLen K [.ref p] H Q := ⟨p, xs, rfl, .inr hS, q⟩
theorem i_lenS {x : Str} (hz : x.length ≤ sizeLine) (q : Q (.int x.length) H) : rLenS [.str x] H Q := ⟨x, rfl, hz, q⟩
theorem i_max2 {i j : Int} (q : Q (.int (if j > i then j else i)) H) : rMax2 [.int i, .int j] H Q := ⟨i, j, rfl, q⟩
theorem i_min2 {i j : Int} (q : Q (.int (if j < i then j else i)) H) : rMin2 [.int i, .int j] H Q := ⟨i, j, rfl, q⟩
theorem i_strI {i : Int} (h : i.natAbs.log2 < 1920) (q : Q (.str (toString i)) H) : rStrI [.int i] H Q := ⟨i, rfl, h, q⟩
theorem i_addT {x y : Str} (h : x.length + y.length ≤ sizeLine) (q : Q (.str (x ++ y)) H) : rAddT (.str x) (.str y) H Q := ⟨x, y, rfl, rfl, h, q⟩
end
/-- the box that numbers are drawn from -/
structure Box (H : Hp) (b : Addr) (n : Nat) : Prop where
  ex : ∃ (x y z : Int), H b = some (.lst [.int x, .int y, .int z]) ∧ 0 ≤ x ∧ 0 ≤ y ∧ y < 2147483629 ∧ 0 ≤ z ∧ z ≤ n
theorem Box.mono {H : Hp} {b : Addr} {n m : Nat} (h : Box H b n) (e : n ≤ m) : Box H b m := by
  obtain ⟨x, y, z, h1, h2, h3, h4, h5, h6⟩ := h
  exact ⟨x, y, z, h1, h2, h3, h4, h5, by omega⟩
theorem Box.same {H H' : Hp} {b : Addr} {n : Nat} (h : Box H b n) (e : Same H H') : Box H' b n := by
  obtain ⟨x, y, z, h1, h2⟩ := h
  exact ⟨x, y, z, e _ _ h1, h2⟩
/-- the law's own promise -/
def spLaw (K : PySem.W.Frag) : Sp := fun vs H Q _ => ∃ (a : Addr) (ns : List Int), vs = [.ref a] ∧ SqL K H a (ns.map V.int) ∧ ns.length ≤ 63 ∧ (∀ z ∈ ns, Builtin.Int.intBits z ≤ 1048576) ∧ Only H ∧ ∀ H', Q (.bl true) H'
theorem law_sp (K : PySem.W.Frag) (H : Hp) (a : Addr) (ns : List Int) (h1 : ns.length ≤ 63) (h2 : ∀ z ∈ ns, Builtin.Int.intBits z ≤ 1048576) (h3 : Only H) (h4 : SqL K H a (ns.map V.int)) :
    spLaw K [.ref a] H (fun v _ => v = .bl true) fun _ _ _ => False := ⟨a, ns, rfl, h4, h1, h2, h3, fun _ => rfl⟩
theorem sz_of {n : Nat} (h : n ≤ 100000) : n ≤ sizeLine := Nat.le_trans h (by decide)
theorem i_room {n : Nat} {B : Prop} (h : n ≤ sizeLine) (q : B) : n ≤ sizeLine ∧ B := ⟨h, q⟩
theorem iteNT {A B : Prop} (h : B) : if (!true) = true then A else B := h
theorem iteNF {A B : Prop} (h : A) : if (!false) = true then A else B := h
theorem i_cut {t u : TS} {D : Ends} {σ : L2.St} {H : Hp} (Mid : L2.St → Hp → Prop) (h1 : t { D with nx := Mid } σ H) (h2 : ∀ σ' H', Mid σ' H' → u D σ' H') : C8.tCut t u D σ H := ⟨Mid, h1, h2⟩
theorem i_isstr {x : Str} {B : Prop} (h : B) : (∃ a, V.str x = .str a) ∧ B := ⟨⟨x, rfl⟩, h⟩
theorem i_wipe {a b : L2.St} {vs : List Nat} {B : Prop} (h : wipe a vs = wipe b vs) (q : B) : wipe a vs = wipe b vs ∧ B := ⟨h, q⟩
theorem i_rng1 {tA : TA} {σ : L2.St} {H : Hp} {R : It → Hp → Prop} (h : tA σ H fun vs H1 => ∃ j : Int, vs = [.int j] ∧ -(2 ^ 62) ≤ j ∧ j < 2 ^ 62 ∧ R (Itr 0 j.toNat) H1) : iRng1 tA σ H R := h
theorem i_lc {wi : TI} {g : TG} {tt : TT} {te : TE} {vs : List Nat} {σ : L2.St} {H : Hp} {Q : VK} (h : wi σ H fun J H1 => ∀ D, H1 D = none → ∃ W : Nat → Nat → Hp → Prop, (∃ m, W 0 m (upd H1 D (.lst []))) ∧ ∀ i m H, W i m H →
    (J.stop i H ∧ Q (.ref D) H) ∨ (J.go i H ∧ ∃ Nx : Hp → Prop, (∀ H', Nx H' → ∃ m', m' < m ∧ W (i + 1) m' H') ∧ ∀ x H', J.yld i H x H' → g x (wipe σ vs) H' fun σ2 H2 => wipe σ2 vs = wipe σ vs ∧ tt σ2 H2 fun b H3 =>
      if b = true then te σ2 H3 fun y H4 => ∃ acc, H4 D = some (.lst acc) ∧ acc.length < sizeLine ∧ Nx (upd H4 D (.lst (acc ++ [y]))) else Nx H3)) : tLc wi g tt te vs σ H Q := h
theorem Box.ne {H : Hp} {b p : Addr} {n : Nat} (h : Box H b n) (hp : H p = none) : p ≠ b := by
  obtain ⟨x, y, z, h1, _⟩ := h
  exact (ne_of_none h1 hp).symm
theorem Box.upd {H : Hp} {b p : Addr} {n : Nat} {o : HO} (h : Box H b n) (hp : p ≠ b) : Box (upd H p o) b n := by
  obtain ⟨x, y, z, h1, h2⟩ := h
  exact ⟨x, y, z, by rw [upd_ne hp.symm]; exact h1, h2⟩
theorem But.upd {H H' : Hp} {b p : Addr} {o : HO} (e : But b H H') (hp : H p = none) : But b H (upd H' p o) := fun a u n h => by rw [upd_ne (ne_of_none h hp)]; exact e a u n h
theorem Box.new {H : Hp} {b p : Addr} {n : Nat} {o : HO} (h : Box H b n) (hp : H p = none) : Box (L2.upd H p o) b n := h.upd (h.ne hp)
theorem i_list {K : PySem.W.Frag} {te : TE} {σ : L2.St} {H : Hp} {R : It → Hp → Prop} (h : te σ H fun x H1 => ∃ a, x = .ref a ∧ (∃ xs, SqL K H1 a xs) ∧ R (Itl K a) H1) : iList K te σ H R := h
theorem i_revL {K : PySem.W.Frag} {te : TE} {σ : L2.St} {H : Hp} {Q : VK} (h : te σ H fun x H1 => ∃ a xs, x = .ref a ∧ SqL K H1 a xs ∧ ∀ p, H1 p = none → Q (.ref p) (upd H1 p (.lst xs.reverse))) : tRevL K te σ H Q := h
theorem But.to {b : Addr} {H H1 H2 : Hp} (s : Same H H1) (e : But b H1 H2) (hb : H b = none) : Same H H2 := fun a o h => e a o (ne_of_none h hb) (s a o h)
theorem Same.upd {H H' : Hp} {p : Addr} {o : HO} (s : Same H H') (hp : H p = none) : Same H (L2.upd H' p o) := fun a u h => by rw [upd_ne (ne_of_none h hp)]; exact s a u h
theorem i_disp {trs : List (TE × TE)} {σ : L2.St} {H : Hp} {Q : VK} (h : ∀ p, H p = none → tPairs trs σ (upd H p (.dK [])) fun ps H2 => H2 p = some (.dK []) ∧ ∃ kvs : List (Key × V), ps = kvs.map (fun kv => (kV kv.1, kv.2)) ∧ kvs.length ≤ 15 ∧ Q (.ref p) (upd H2 p (.dK (mergeK [] kvs)))) : tDisp trs σ H Q := h
theorem i_pairs0 {σ : L2.St} {H : Hp} {Q : List (V × V) → Hp → Prop} (h : Q [] H) : tPairs [] σ H Q := h
theorem i_pairs {tk tv : TE} {r : List (TE × TE)} {σ : L2.St} {H : Hp} {Q : List (V × V) → Hp → Prop} (h : tk σ H fun x H1 => tv σ H1 fun y H2 => tPairs r σ H2 fun ps H3 => Q ((x, y) :: ps) H3) : tPairs ((tk, tv) :: r) σ H Q := h
theorem i_newK {σ : L2.St} {H : Hp} {Q : VK} (h : ∀ p, H p = none → Q (.ref p) (upd H p (.dK []))) : tDNewK σ H Q := h
theorem i_gtup {K : PySem.W.Frag} {n : Nat} {t : TGs} {a : Addr} {xs : List V} {σ : L2.St} {H : Hp} {Q : L2.St → Hp → Prop} (hS : SqT K H a xs) (hl : xs.length = n) (q : t xs σ H Q) : gTup K n t (.ref a) σ H Q := ⟨a, xs, rfl, hS, hl, q⟩
theorem i_gcons {t : TG} {u : TGs} {v : V} {r : List V} {σ : L2.St} {H : Hp} {Q : L2.St → Hp → Prop} (q : t v σ H fun σ' H' => u r σ' H' Q) : gCons t u (v :: r) σ H Q := ⟨v, r, rfl, q⟩
theorem i_gnil {σ : L2.St} {H : Hp} {Q : L2.St → Hp → Prop} (q : Q σ H) : gNil [] σ H Q := ⟨rfl, q⟩
/-- p is new in H', and holds o -/
structure New (H : Hp) (p : Addr) (o : HO) (H' : Hp) : Prop where
  free : H p = none
  same : Same H H'
  at_ : H' p = some o
theorem New.mk' {H : Hp} {p : Addr} {o : HO} (hp : H p = none) : New H p o (upd H p o) := ⟨hp, Same.new o hp, upd_same⟩
theorem i_new {H : Hp} {o : HO} {G : Addr → Hp → Prop} (h : ∀ p H', New H p o H' → G p H') : ∀ p, H p = none → G p (upd H p o) := fun p hp => h p _ (.mk' hp)
theorem Box.nw {H H' : Hp} {b p : Addr} {n : Nat} {o : HO} (h : Box H b n) (N : New H p o H') : Box H' b n := h.same N.same
theorem Box.off {H H' : Hp} {b p : Addr} {n : Nat} {o : HO} (h : Box H b n) (N : New H p o H') : p ≠ b := h.ne N.free
theorem New.but {H H' : Hp} {b p : Addr} {o : HO} (N : New H p o H') : But b H H' := Same.but N.same
theorem Same.app {H H' : Hp} {a : Addr} {o : HO} (s : Same H H') (h : H a = some o) : H' a = some o := s a o h
theorem But.app {H H' : Hp} {a b : Addr} {o : HO} (s : But b H H') (n : a ≠ b) (h : H a = some o) : H' a = some o := s a o n h
theorem New.app {H H' : Hp} {a p : Addr} {o u : HO} (N : New H p o H') (h : H a = some u) : H' a = some u := N.same a u h
theorem i_cat {H : Hp} {Q : VK} {l b : Addr} {xs zs : List V} (hl : H l = some (.lst xs)) (hb : H b = some (.lst zs)) (hz : xs.length + zs.length ≤ sizeLine) (h : ∀ p, H p = none → Q (.ref p) (upd H p (.lst (xs ++ zs)))) : rCat (.ref l) (.ref b) H Q := ⟨l, b, xs, zs, rfl, rfl, hl, hb, hz, h⟩
theorem New.of {H H' : Hp} {p : Addr} {o : HO} (e : upd H p o = H') (hp : H p = none) : New H p o H' := e ▸ .mk' hp
theorem i_tyL {K : PySem.W.Frag} {H : Hp} {l : Addr} {xs : List V} {B : Prop} (h : H l = some (.lst xs)) (q : B) : tyV K "list" (.ref l) H ∧ B := ⟨.inl ⟨rfl, _, SqL.lst h⟩, q⟩
theorem i_append {H : Hp} {Q : VK} {l : Addr} {xs : List V} {v : V} (h : H l = some (.lst xs)) (hz : xs.length ≤ 100000) (q : Q .non (upd H l (.lst (xs ++ [v])))) : rAppend (.ref l) [v] H Q := ⟨l, xs, v, rfl, rfl, h, Nat.lt_of_le_of_lt hz (by decide), q⟩
theorem i_rng1v {j : Int} {R : It → Hp → Prop} {H : Hp} (h0 : 0 ≤ j) (h1 : j ≤ 1000000) (q : R (Itr 0 j.toNat) H) : ∃ j' : Int, [V.int j] = [.int j'] ∧ -(2 ^ 62) ≤ j' ∧ j' < 2 ^ 62 ∧ R (Itr 0 j'.toNat) H := ⟨j, rfl, by omega, by omega, q⟩
end Ice

set_option Elab.async false
set_option linter.all false
set_option maxRecDepth 100000
set_option maxHeartbeats 4000000
/-! A def's promise where no repr is under way (guards are none): as the layer's, with that one fact more. -/
namespace Ice
open PySem PySem.Spec PyProof.Rows L2
/-- as the layer's promise of a def, called where no repr is under way -/
structure FnG (P : Program) (w : World) (K : PySem.W.Frag) (mg : Str → Option Value) (base : Heap) (X0 : CXT) (k : Nat) (f : Addr) (fd : FuncData) (ps : List Str) (sp : Sp) : Prop where
  len : ∀ vs H Q E, sp vs H Q E → vs.length = ps.length
  run : ∀ (A : Around) (outer : List Env) (s : Shared) (H : Hp) (args : Args) (us : List Value) (vs : List V) (Q : VK) (E : XK),
    Room k A → A.guards = some [] → Env0 P w K mg base A outer s H → BindsTo s fd args (ps.zip us) → Vals vs us → sp vs H Q E →
      codeAny (model P w) A (.call (.ref f) args) (CR X0 outer P w H s Q E) s
section
variable {P : Program} {w : World} {K : PySem.W.Frag} {mg : Str → Option Value} {base : Heap} {X0 : CXT} {k j : Nat} {f : Addr} {fd : FuncData} {ps : List Str} {sp : Sp}
theorem FnG.of (F : FnOk P w K mg base X0 k f fd ps sp) : FnG P w K mg base X0 k f fd ps sp :=
  ⟨F.len, fun A outer s H args us vs Q E hr _ => F.run A outer s H args us vs Q E hr⟩
theorem FnG.mono (F : FnG P w K mg base X0 j f fd ps sp) (h : j ≤ k) : FnG P w K mg base X0 k f fd ps sp :=
  ⟨F.len, fun A outer s H args us vs Q E hr => F.run A outer s H args us vs Q E (hr.mono h)⟩
/-- a def of the text by its body, told where no repr is under way -/
theorem fn_ofG {name qual : Str} {params : Arguments} {body : List Stmt} {scope : Scope} {dV kV doc pm cdv ct oc : Value} {an od : Option Addr} {osl : Array (Option Value)} {N : List Str}
    (lk : K.lookup f = some ⟨oc, od, .func (PySem.W.fnOf name qual params body scope dV kV doc pm an cdv ct), osl⟩) (hcd : PySem.W.codeIn K cdv qual = true)
    (S : FnScope N ps scope) (len : ∀ vs H Q E, sp vs H Q E → vs.length = ps.length)
    (hbody : ∀ (A : Around) (outer : List Env) (s : Shared) (H : Hp) (vs : List V) (Q : VK) (E : XK), Room k (A.deeper (envOfC qual scope s.heap.objs.size f cdv)) → A.guards = some [] → sp vs H Q E →
      ∃ t, PSs (cxOf X0 P w K mg base N qual scope f cdv A outer s H E) body t ∧ t { nx := fun _ H' => Q .non H', rt := Q } (start N vs) H) :
    FnG P w K mg base X0 (k + 1) f (PySem.W.fnOf name qual params body scope dV kV doc pm an cdv ct) ps sp := by
  refine ⟨len, fun A outer s H args us vs Q E hr hgd e0 hb r hsp => ?_⟩
  have hl := len _ _ _ _ hsp
  have KX : K.In s.heap := e0.mod.kin.keeps (fun b o e => And.left (e0.bs b o e))
  have lim : s.heap.NoLimit := e0.mod.nolimit.keeps (fun b o e => And.left (e0.bs b o e))
  have hk2 : ∀ y ∈ ps.zip us, scope.names.lookup y.1 = some .local ∨
      (scope.names.lookup y.1 = some .cell ∧ ((cellsFrom (s.heap.objs.size + 1) scope.names []).lookup y.1).isSome = true) := by
    rintro ⟨n, v⟩ hy
    rcases S.par n (List.of_mem_zip hy).1 with q | q
    · exact Or.inl q
    · exact Or.inr ⟨q, PySem.W.cellsFrom_some _ _ _ (Or.inl q)⟩
  refine codeAny_call_function hr.depth (KX _ _ lk) rfl S.co S.gen rfl (PySem.W.codeRec_of KX hcd) (hb _ _ _ _ (wpAny_newFunctionEnv_cells S.kind hk2 (fun env he s1 x => ?_)))
  subst he
  refine And.intro (lim.keeps x.toInCall.keep) (codeAny_func ?_)
  obtain ⟨t, ht, hq⟩ := hbody A outer s H vs Q E (hr.deeper _) hgd hsp
  have I := inv_start (CX := X0) (P := P) (w := w) (K := K) (mg := mg) (base := base) (f := f) (cd := cdv) (A := A) (outer := outer) (E := E) S hr.hd e0 hl r x
  refine wpAny_mono (ht.run [] s1 (start N vs) H _ I hq) (fun fl s' hs => ?_) (fun e s' hs => hs)
  cases fl with
  | ret u => obtain ⟨v, σ', H', J, rv, q⟩ := hs; exact ⟨v, H', J.os, J.bare, J.base, J.hok, rv, q⟩
  | next => obtain ⟨σ', H', J, q⟩ := hs; exact ⟨V.non, H', J.os, J.bare, J.base, J.hok, rfl, q⟩
  | brk => obtain ⟨_, _, _, q⟩ := hs; exact q.elim
  | cont => obtain ⟨_, _, _, q⟩ := hs; exact q.elim
end
section
variable {P : Program} {w : World} {K : PySem.W.Frag} {mg : Str → Option Value} {base : Heap} {x qual : Str} {st : Stmt} {f : Addr} {fd : FuncData} {N ps : List Str} {k : Nat} {sp : Sp}
theorem okG (F : Fun K x qual st f fd) (S : FnScope N ps (defScope st)) (len : ∀ vs H Q E, sp vs H Q E → vs.length = ps.length)
    (hbody : ∀ (cdv : Value) (A : Around) (outer : List Env) (s : Shared) (H : Hp) (vs : List V) (Q : VK) (E : XK), Room k (A.deeper (envOfC qual (defScope st) s.heap.objs.size f cdv)) → A.guards = some [] → sp vs H Q E →
      ∃ t, PSs (cxOf CX0 P w K mg base N qual (defScope st) f cdv A outer s H E).nox (defBody st) t ∧ t { nx := fun _ H' => Q .non H', rt := Q } (start N vs) H) :
    FnG P w K mg base CX0 (k + 1) f fd ps sp := by
  obtain ⟨oc, od, kV, doc, pm, an, cdv, ct, osl, rfl, lk, hcd⟩ := F.ex
  refine fn_ofG lk hcd S len (fun A outer s H vs Q E hr hgd hsp => ?_)
  obtain ⟨t, h, q⟩ := hbody cdv A outer s H vs Q E hr hgd hsp
  exact ⟨t, h.nox, q⟩
theorem okGX (F : Fun K x qual st f fd) (S : FnScope N ps (defScope st)) (len : ∀ vs H Q E, sp vs H Q E → vs.length = ps.length)
    (hbody : ∀ (cdv : Value) (A : Around) (outer : List Env) (s : Shared) (H : Hp) (vs : List V) (Q : VK) (E : XK), Room k (A.deeper (envOfC qual (defScope st) s.heap.objs.size f cdv)) → A.guards = some [] → sp vs H Q E →
      ∃ t, PSs (cxOf (L2.CX P w) P w K mg base N qual (defScope st) f cdv A outer s H E) (defBody st) t ∧ t { nx := fun _ H' => Q .non H', rt := Q } (start N vs) H) :
    FnG P w K mg base (L2.CX P w) (k + 1) f fd ps sp := by
  obtain ⟨oc, od, kV, doc, pm, an, cdv, ct, osl, rfl, lk, hcd⟩ := F.ex
  exact fn_ofG lk hcd S len (fun A outer s H vs Q E hr hgd hsp => hbody cdv A outer s H vs Q E hr hgd hsp)
end
/-! ### calls of such defs -/
section
variable {X : Cx} {X0 : CXT} {k : Nat} {f C : Addr} {fd : FuncData} {ps : List Str} {sp : Sp} {dvs : List V} {ds : List Value} {E : XK} {x m : Str} {p pos apos : Pos} {e o : Expr} {es : List Expr} {ta : TE} {t : TA}
theorem run_g {pins : List (Addr × Obj)} {σ : L2.St} {H : Hp} {s : Shared} {Q : VK} {us : List Value} {vs : List V} (F : FnG X.prog X.w X.K X.mg X.base X0 k f fd ps sp) (hr : Room k X.A) (hgd : X.A.guards = some [])
    (hb : Binds X.K fd ps ds) (hd : Vals dvs ds) (hx : Passes X0 X E) (I : Inv X pins σ H s) (r : Vals vs us) (h : sp (vs ++ dvs) H Q E) :
    wpAny (model X.prog X.w) X.A (call (.ref f) us) (EP X pins σ Q) X.xe s := by
  have r2 := Vals.append r hd
  have hl : (us ++ ds).length = ps.length := (Vals.length r2).symm.trans (F.len _ _ _ _ h)
  refine wpAny_call (codeAny_mono (F.run X.A X.stack s H ⟨us, []⟩ (us ++ ds) (vs ++ dvs) Q E hr hgd I.env0 (hb s us I.kIn hl) r2 h) (fun r s' hq => ?_))
  match r, hq with
  | .error e, hq => exact hx pins σ H s e s' I hq
  | .ok (.ret u), hq => exact I.after hq
  | .ok .next, hq => exact False.elim hq
  | .ok .brk, hq => exact False.elim hq
  | .ok .cont, hq => exact False.elim hq
theorem g_call (F : FnG X.prog X.w X.K X.mg X.base X0 k f fd ps sp) (hr : Room k X.A) (hgd : X.A.guards = some []) (hg : Gl X x) (hm : X.mg x = some (.ref f)) (hk : PySem.W.keepIn X.K (.ref f) = true) (hb : Binds X.K fd ps ds) (hd : Vals dvs ds)
    (hx : Passes X0 X E) (ha : PA X (e :: es) t) (hdb : (x == ("__debug__" : Str)) = false := by decide) (he : starEach (e :: es) X.env = (false, eval e X.env) :: starEach es X.env := by rfl)
    (hpl : (backTo pos (starEach es X.env)).any (·.1) = false := by rfl) : PE X (.Call (.Name x p) (e :: es) [] pos) (tCall sp dvs E t) := by
  constructor
  intro pins s σ H Q I h
  refine wpAny_Call_Name_kw (ld_glob I hg hm (PySem.W.callWith_K (h₀ := X.base) I.ok.mod.kin hk ?_ he hpl) hdb)
  exact thn (ha.run pos pins s σ H _ I h) (fun us s1 ⟨vs, H1, I1, r, q⟩ => ⟨I1.kIn, run_g F hr hgd hb hd hx I1 r q⟩)
theorem g_call0 (F : FnG X.prog X.w X.K X.mg X.base X0 k f fd ps sp) (hr : Room k X.A) (hgd : X.A.guards = some []) (hg : Gl X x) (hm : X.mg x = some (.ref f)) (hk : PySem.W.keepIn X.K (.ref f) = true) (hb : Binds X.K fd ps ds) (hd : Vals dvs ds)
    (hx : Passes X0 X E) (hdb : (x == ("__debug__" : Str)) = false := by decide) : PE X (.Call (.Name x p) [] [] pos) (tCall sp dvs E tNil) := by
  constructor
  intro pins s σ H Q I h
  exact wpAny_Call_Name_kw (ld_glob I hg hm (PySem.W.callWith_K0 I.kIn hk (run_g (us := []) F hr hgd hb hd hx I .nil h)) hdb)
theorem g_meth {pl : Sem Bool} (he : PE X o ta) (c : Cls X.K C) (hm : Meth X.K C m f) (F : FnG X.prog X.w X.K X.mg X.base X0 k f fd ps sp) (hr : Room k X.A) (hgd : X.A.guards = some []) (hb : Binds X.K fd ps ds) (hd : Vals dvs ds)
    (hx : Passes X0 X E) (ha : PA X (e :: es) t) (hst : starEach (e :: es) X.env = (false, eval e X.env) :: starEach es X.env := by rfl) (hpl : (backTo pos (starEach es X.env)).any (·.1) = false := by rfl)
    (ht : eval (.Call (.Attribute o m apos) (e :: es) [] pos) X.env =
      (do let ov ← eval o X.env; standAt apos.atName; let (f, first) ← holding [ov] (getMethod ov m pl); callWith pos f first (backTo pos (starEach (e :: es) X.env)) (backToKw pos (keywordEach [] X.env))) := by rfl) :
    PE X (.Call (.Attribute o m apos) (e :: es) [] pos) (tMeth C m sp dvs E ta t) := by
  constructor
  intro pins s σ H Q I h
  refine PySem.W.methodCall_KW (pl := pl) (thn (he.run pins s σ H _ I h) (fun u s1 ⟨x, H1, I1, rx, a, dx, fs, ex, ea, l, q⟩ => ?_)) ht
  subst ex
  cases (show u = Value.ref a from rx)
  refine getmeth_ok I1 ea c hm l (PySem.W.callWith_K (first := [.ref a]) (h₀ := X.base) I.ok.mod.kin hm.kp ?_ hst hpl)
  exact thn (ha.run pos pins s1 σ H1 _ I1 q) (fun us s2 ⟨vs, H2, I2, r, q2⟩ => ⟨I2.kIn, run_g (us := .ref a :: us) (vs := .ref a :: vs) F hr hgd hb hd hx I2 (.cons rfl r) q2⟩)
theorem g_meth0 {pl : Sem Bool} (he : PE X o ta) (c : Cls X.K C) (hm : Meth X.K C m f) (F : FnG X.prog X.w X.K X.mg X.base X0 k f fd ps sp) (hr : Room k X.A) (hgd : X.A.guards = some []) (hb : Binds X.K fd ps ds) (hd : Vals dvs ds)
    (hx : Passes X0 X E)
    (ht : eval (.Call (.Attribute o m apos) [] [] pos) X.env =
      (do let ov ← eval o X.env; standAt apos.atName; let (f, first) ← holding [ov] (getMethod ov m pl); callWith pos f first (backTo pos (starEach [] X.env)) (backToKw pos (keywordEach [] X.env))) := by rfl) :
    PE X (.Call (.Attribute o m apos) [] [] pos) (tMeth C m sp dvs E ta tNil) := by
  constructor
  intro pins s σ H Q I h
  refine PySem.W.methodCall_KW (pl := pl) (thn (he.run pins s σ H _ I h) (fun u s1 ⟨x, H1, I1, rx, a, dx, fs, ex, ea, l, q⟩ => ?_)) ht
  subst ex
  cases (show u = Value.ref a from rx)
  exact getmeth_ok I1 ea c hm l (PySem.W.callWith_K0 (first := [.ref a]) I1.kIn hm.kp (run_g (us := [.ref a]) (vs := [.ref a]) F hr hgd hb hd hx I1 (.cons rfl .nil) q))
theorem make_guards {A : Around} {C : Addr} {us : List Value} {kw : List (Str × Value)} (h : A.guards = some []) : (A.under (.builtin "type.__call__" ⟨.ref C :: us, kw⟩)).guards = some [] := by
  show pushGuards (Code.guards (.builtin "type.__call__" ⟨.ref C :: us, kw⟩)) A.guards = some []
  rw [h]; rfl
theorem run_mk {pins : List (Addr × Obj)} {σ : L2.St} {H : Hp} {s : Shared} {Q : VK} {us : List Value} {vs : List V} (M : Mk X.K C f) (F : FnG X.prog X.w X.K X.mg X.base X0 k f fd ps sp) (hr : Room (k + 1) X.A) (hgd : X.A.guards = some [])
    (hb : Binds X.K fd ps ds) (hd : Vals dvs ds) (hx : Passes X0 X E) (I : Inv X pins σ H s) (r : Vals vs us)
    (h : ∀ x dx, H x = none → H dx = none → dx ≠ x → sp (.ref x :: (vs ++ dvs)) (upd (upd H dx (.own x)) x (.ins C dx [])) (fun v H2 => v = .non ∧ Q (.ref x) H2) E) :
    wpAny (model X.prog X.w) X.A (call (.ref C) us) (EP X pins σ Q) X.xe s := by
  have hq := h (s.heap.objs.size + 1) s.heap.objs.size (I.hok.fresh (Nat.le_succ _)) (I.hok.fresh (Nat.le_refl _)) (by simp)
  have I2 := Inv.made (C := C) I
  have r2 : Vals (V.ref (s.heap.objs.size + 1) :: (vs ++ dvs)) (Value.ref (s.heap.objs.size + 1) :: (us ++ ds)) := .cons rfl (Vals.append r hd)
  have hl : (Value.ref (s.heap.objs.size + 1) :: us ++ ds).length = ps.length := (Vals.length r2).symm.trans (F.len _ _ _ _ hq)
  have run := F.run _ X.stack _ _ ⟨Value.ref (s.heap.objs.size + 1) :: us, []⟩ (Value.ref (s.heap.objs.size + 1) :: (us ++ ds)) _ _ E (hr.make C us []) (make_guards hgd) (I2.env0.make C us [])
    (hb _ (Value.ref (s.heap.objs.size + 1) :: us) I2.kIn hl) r2 hq
  refine wpAny_call (make_map (f := f) I.kIn M.makes M.init (beq_iff_eq.mp M.fn) (codeAny_mono run (fun r s' hq' => ?_)))
  match r, hq' with
  | .error e, hq' => exact hx pins σ _ _ e s' I2 hq'
  | .ok (.ret u), hq' =>
    obtain ⟨v, H', I3, rv, ev, q3⟩ := I2.after hq'
    subst ev
    exact ⟨rv, V.ref (s.heap.objs.size + 1), H', I3, rfl, q3⟩
  | .ok .next, hq' => exact False.elim hq'
  | .ok .brk, hq' => exact False.elim hq'
  | .ok .cont, hq' => exact False.elim hq'
theorem g_make (M : Mk X.K C f) (F : FnG X.prog X.w X.K X.mg X.base X0 k f fd ps sp) (hr : Room (k + 1) X.A) (hgd : X.A.guards = some []) (hg : Gl X x) (hm : X.mg x = some (.ref C)) (hb : Binds X.K fd ps ds) (hd : Vals dvs ds) (hx : Passes X0 X E)
    (ha : PA X (e :: es) t) (hdb : (x == ("__debug__" : Str)) = false := by decide) (he : starEach (e :: es) X.env = (false, eval e X.env) :: starEach es X.env := by rfl)
    (hpl : (backTo pos (starEach es X.env)).any (·.1) = false := by rfl) : PE X (.Call (.Name x p) (e :: es) [] pos) (tMake C sp dvs E t) := by
  constructor
  intro pins s σ H Q I h
  refine wpAny_Call_Name_kw (ld_glob I hg hm (PySem.W.callWith_K (h₀ := X.base) I.ok.mod.kin M.kp ?_ he hpl) hdb)
  exact thn (ha.run pos pins s σ H _ I h) (fun us s1 ⟨vs, H1, I1, r, q⟩ => ⟨I1.kIn, run_mk M F hr hgd hb hd hx I1 r q⟩)
end
end Ice

set_option Elab.async false
set_option linter.all false
set_option maxRecDepth 100000
set_option maxHeartbeats 4000000
/-! The law's own call, where its def is told with no repr under way. -/
namespace Ice
open PySem PySem.Spec PyProof.Rows L2
section
variable {P : Program} {w : World} {K : PySem.W.Frag} {mg mb : Str → Option Value} {X0 : CXT} {k : Nat} {fa a : Addr} {fd : FuncData} {x : Str} {sp : Sp} {s : Shared} {vs : List Value} {ns : List Int}
/-- the heap at the law's entry, where at most the script at a is tracked -/
theorem law_at (KX : K.In s.heap) (hns : s.heap.Ns mainGlobals mg) (hb : s.heap.Ns builtinsNs mb) (hbb : ∀ y : Str, y ≠ "__name__" → mb y = bootBuiltins y) (hlim : s.heap.NoLimit) (hg : s.gens = #[])
    (ha : s.heap.get? a = some { cls := .type "list", data := .seq vs.toArray }) (hr : Room k callerA)
    (F : ∀ base : Heap, K.In base → base.Ns mainGlobals mg → FnG P w K mg base X0 k fa fd [x] sp) (hbind : ∀ (s : Shared) (u : Value), BindsTo s fd ⟨[u], []⟩ [(x, u)])
    (hX : ∀ H e s', X0 [] H s (fun _ _ _ => False) e s' → False) (H : Hp) (hO : Only H) (hsp : sp [.ref a] H (fun v _ => v = .bl true) fun _ _ _ => False)
    (ok : HOk P w H s.heap) (hA : ∀ b u, H b = some u → b = a) (hK : ∀ u, H a = some u → K.lookup a = none) :
    codeAny (model P w) callerA (.call (.ref fa) ⟨[.ref a], []⟩) (fun r s' => r = .ok (.ret (.bool true)) ∧ OldK s.heap s'.heap ∧ s'.os = s.os ∧ AllBare s'.gens) s := by
  -- a dict's object is not the script's
  have nd : ∀ {b : Addr} {o : Obj} {es : Array DictEntry} {ep : Nat}, s.heap.get? b = some o → o.data = .dict es ep → H b = none := by
    intro b o es ep e d
    match q : H b with
    | none => rfl
    | some u =>
      cases hA b u q
      rw [ha] at e
      cases e
      cases (show Data.seq vs.toArray _ = Data.dict es ep from d)
  have up : ∀ {b : Addr} {m : Str → Option Value}, s.heap.Ns b m → (hidT s.heap H).Ns b m := by
    rintro b m ⟨o, es, ep, e, d, r⟩
    exact ⟨o, es, ep, hidT_get e (nd e d), d, r⟩
  have KB : K.In (hidT s.heap H) := by
    intro b o e
    refine hidT_get (KX b o e) ?_
    match q : H b with
    | none => rfl
    | some u =>
      cases hA b u q
      rw [hK u q] at e
      cases e
  have md : Mod K mg (hidT s.heap H) := by
    obtain ⟨mc, l1, l2⟩ := hlim
    exact ⟨KB, up hns, ⟨mb, up hb, hbb⟩, mc, up l1, l2⟩
  have e0 : Env0 P w K mg (hidT s.heap H) callerA [] s H := by
    refine ⟨rfl, md, fun b o e => of_hidT e, Nat.le_of_eq (hidT_size _ _), trivial, ?_, ok, .of_eq hg⟩
    intro b z
    cases (show b ∈ ([] : List Addr) from z)
  have R := (F (hidT s.heap H) KB (up hns)).run callerA [] s H ⟨[.ref a], []⟩ [.ref a] [.ref a] _ _ hr rfl e0 (hbind s (.ref a)) (.cons rfl .nil) hsp
  refine codeAny_mono R ?_
  intro r s' h
  match r, h with
  | .error e, h => exact (hX H e s' h).elim
  | .ok .next, h => exact False.elim h
  | .ok .brk, h => exact False.elim h
  | .ok .cont, h => exact False.elim h
  | .ok (.ret u), h =>
    obtain ⟨v, H', os, bare, un, ok', r', q⟩ := h
    cases (show v = V.bl true from q)
    cases (show u = Value.bool true from r')
    refine ⟨rfl, OldK.of_keep ?_, os, bare⟩
    intro b o e
    match q : H b with
    | none => exact un.keep b o e q (fun z => by cases (show b ∈ ([] : List Addr) from z)) (by simp)
    | some u =>
      rcases hO b with z | ⟨ob, xs, z⟩
      · rw [q] at z; cases z
      · have e1 := (ok b _ z).1
        have e2 := (ok' b _ (un.frzs b ob _ z)).1
        rw [e] at e1
        cases e1
        exact e2
theorem law_callG (KX : K.In s.heap) (hns : s.heap.Ns mainGlobals mg) (hb : s.heap.Ns builtinsNs mb) (hbb : ∀ y : Str, y ≠ "__name__" → mb y = bootBuiltins y) (hlim : s.heap.NoLimit) (hg : s.gens = #[])
    (ha : s.heap.get? a = some { cls := .type "list", data := .seq vs.toArray }) (hi : IntsAre vs ns) (hl : ns.length ≤ sizeLine) (hr : Room k callerA)
    (F : ∀ base : Heap, K.In base → base.Ns mainGlobals mg → FnG P w K mg base X0 k fa fd [x] sp) (hbind : ∀ (s : Shared) (u : Value), BindsTo s fd ⟨[u], []⟩ [(x, u)])
    (hsp : ∀ H : Hp, Only H → SqL K H a (ns.map V.int) → sp [.ref a] H (fun v _ => v = .bl true) fun _ _ _ => False) (hX : ∀ H e s', X0 [] H s (fun _ _ _ => False) e s' → False) :
    codeAny (model P w) callerA (.call (.ref fa) ⟨[.ref a], []⟩) (fun r s' => r = .ok (.ret (.bool true)) ∧ OldK s.heap s'.heap ∧ s'.os = s.os ∧ AllBare s'.gens) s := by
  have rv := vals_ints hi
  have lv : vs.length = ns.length := hi.length
  match hk : K.lookup a with
  | some o =>
    have e := KX a o hk
    rw [ha] at e
    cases e
    have hS : SqL K (fun _ => none) a (ns.map V.int) := .inr ⟨_, vs.toArray, _, hk, rfl, rfl, rfl, (by rw [List.size_toArray, lv]; exact hl), by simpa using rv⟩
    have z : ∀ (b : Addr) (u : HO), ((fun _ => none : Hp) b = some u) → False := fun _ _ h => by cases h
    exact law_at KX hns hb hbb hlim hg ha hr F hbind hX _ (fun _ => .inl rfl) (hsp _ (fun _ => .inl rfl) hS) (fun b u q => (z b u q).elim) (fun b u q => (z b u q).elim) (fun u q => (z a u q).elim)
  | none =>
    let o : HO := .frz { cls := .type "list", data := .seq vs.toArray } (.lst (ns.map V.int))
    let H : Hp := fun b => if b = a then some o else none
    have at_a : H a = some o := if_pos rfl
    have only : ∀ b u, H b = some u → b = a ∧ u = o := by
      intro b u q
      by_cases e : b = a
      · subst e; rw [at_a] at q; exact ⟨rfl, (Option.some.inj q).symm⟩
      · rw [show H b = none from if_neg e] at q; cases q
    have hO : Only H := by
      intro b
      by_cases e : b = a
      · subst e; exact .inr ⟨_, _, at_a⟩
      · exact .inl (if_neg e)
    have hok : HOk P w H s.heap := by
      intro b u q
      obtain ⟨rfl, rfl⟩ := only b u q
      exact ⟨ha, by rw [List.length_map]; exact hl, vs, _, rv, ha⟩
    exact law_at KX hns hb hbb hlim hg ha hr F hbind hX H hO (hsp H hO (.inl (.inr ⟨_, at_a⟩))) hok (fun b u q => (only b u q).1) (fun _ _ => hk)
end
/-- the end of a law, with the bits of its script told -/
theorem walkG {l : PySem.W.OpenLaw} {n k : Nat} {q : Program} {loose : List Str} {XP : (Str → Option Value) → Heap → Prop} {YP : World → Heap → Prop} {d : DefRec} {K : Params → PySem.W.Frag} {sp : PySem.W.Frag → Sp} {x : Str}
    (hn : l.most = some n) (hn2 : n ≤ sizeLine) (hdf : d.params.defaults = []) (hr : Room k callerA) (hY : ∀ (w : World) (h : Heap), YP w h → (K w.params).In h)
    (F : ∀ (w : World) (mg : Str → Option Value) (fa : Addr) (h : Heap), (K w.params).In h → h.Ns mainGlobals mg → mg d.name = some (.ref fa) →
      ∃ fd : FuncData, (∀ (s : Shared) (u : Value), BindsTo s fd ⟨[u], []⟩ [(x, u)]) ∧
        ∀ base : Heap, (K w.params).In base → base.Ns mainGlobals mg → FnG l.prog w (K w.params) mg base CX0 k fa fd [x] (sp (K w.params)))
    (hsp : ∀ (K : PySem.W.Frag) (H : Hp) (a : Addr) (ns : List Int), ns.length ≤ n → (∀ z ∈ ns, Builtin.Int.intBits z ≤ 1048576) → Only H → SqL K H a (ns.map V.int) → sp K [.ref a] H (fun v _ => v = .bl true) fun _ _ _ => False) :
    PySem.W.WalkO q loose XP YP l.row.toRowW d [] (fun f vs => PySem.call f vs) := by
  refine Att.attach_callB hn hdf (fun w s₀ s₁ mg mb fa o pm cd doc a vs ns G Y ho hd hcd hmg hobj hints hlen hbits hg => ?_)
  obtain ⟨fd, hb, hF⟩ := F w mg fa _ (hY w _ Y) G.T.g hmg
  exact law_callG (hY w _ Y) G.T.g G.T.b G.T.builtins G.T.nolimit hg hobj hints (Nat.le_trans hlen hn2) hr hF hb (fun H hO hS => hsp _ H a ns hlen hbits hO hS) (fun H e s' h => h)
end Ice

set_option Elab.async false
set_option linter.all false
set_option maxRecDepth 100000
set_option maxHeartbeats 4000000
/-! repr of data at any depth, dicts of plain things within tuples among them. -/
namespace Ice
open PySem PySem.Spec PyProof.Rows L2
/-- a plain thing -/
inductive Ds : V → PyData → Prop
  | non : Ds .non .none
  | bl (b : Bool) : Ds (.bl b) (.bool b)
  | int (i : Int) : Ds (.int i) (.int i)
  | str (x : Str) : Ds (.str x) (.str x)
def kD : Key → PyData
  | .inl i => .int i
  | .inr x => .str x
mutual
/-- data without lists; dicts hold plain things -/
inductive Dd (K : PySem.W.Frag) (H : Hp) : V → PyData → Prop
  | sc {v : V} {d : PyData} : Ds v d → Dd K H v d
  | tup {a : Addr} {xs : List V} {ds : List PyData} : SqT K H a xs → DdAll K H xs ds → Dd K H (.ref a) (.tuple ds)
  | dct {a : Addr} {kvs : List (Key × V)} {ds : List PyData} : H a = some (.dK kvs) → Paired Ds (kvs.map (·.2)) ds → Dd K H (.ref a) (.dict ((kvs.map fun kv => kD kv.1).zip ds))
inductive DdAll (K : PySem.W.Frag) (H : Hp) : List V → List PyData → Prop
  | nil : DdAll K H [] []
  | cons {v : V} {vs : List V} {d : PyData} {ds : List PyData} : Dd K H v d → DdAll K H vs ds → DdAll K H (v :: vs) (d :: ds)
end
theorem Ds.reads {h : Heap} {v : V} {u : Value} {d : PyData} (s : Ds v d) (r : RelV v u) : Reads h u d [] := by
  cases s with
  | non => cases (show u = .none from r); exact .none
  | bl b => cases (show u = .bool b from r); exact .bool b
  | int i => obtain ⟨t, rfl⟩ := (show ∃ t, u = .int i t from r); exact .int i t
  | str x => obtain ⟨t, rfl⟩ := (show ∃ t, u = .str x t from r); exact .str x t
theorem Ds.readsAll {h : Heap} : ∀ {vs : List V} {us : List Value} {ds : List PyData}, Paired Ds vs ds → Vals vs us → ReadsAll h us ds []
  | [], _, _, .nil, .nil => .nil
  | _ :: _, _, _, .cons s t, .cons r q => .cons (Ds.reads s r) (Ds.readsAll t q)
theorem kD_reads {h : Heap} {k : Key} {u : Value} (e : keyIs k u = true) : Reads h u (kD k) [] := by
  rcases keyIs_shape e with ⟨i, t, rfl, rfl⟩ | ⟨x, t, rfl, rfl⟩
  · exact .int i t
  · exact .str x t
theorem kv_reads {P : Program} {w : World} {h : Heap} {es : List DictEntry} {us : List (Key × Value)} (p : Pairs (mixKind P w) es us) : ∀ (kvs : List (Key × V)) (ds : List PyData), KV kvs us → Paired Ds (kvs.map (·.2)) ds →
    ReadsAll h (es.map (·.key)) (((kvs.map fun kv => kD kv.1).zip ds).map (·.1)) [] ∧ ReadsAll h (es.map (·.val)) (((kvs.map fun kv => kD kv.1).zip ds).map (·.2)) [] := by
  induction p with
  | nil =>
    intro kvs ds hk hd
    cases kvs with
    | cons _ _ => cases hk
    | nil => exact ⟨.nil, .nil⟩
  | @cons e u es us h1 h2 h3 ih =>
    intro kvs ds hk hd
    cases kvs with
    | nil => cases hk
    | cons kv kvs =>
      cases hk with
      | cons e1 hk =>
        cases ds with
        | nil => cases hd
        | cons d ds =>
          cases hd with
          | cons s1 hd =>
            obtain ⟨r1, r2⟩ := ih kvs ds hk hd
            have k1 : keyIs kv.1 e.key = true := by rw [e1.1]; exact h1
            have v1 : RelV kv.2 e.val := by rw [h2]; exact e1.2
            exact ⟨ReadsAll.cons (as := []) (kD_reads k1) r1, ReadsAll.cons (as := []) (Ds.reads s1 v1) r2⟩
section
variable {X : Cx} {pins : List (Addr × Obj)} {σ : L2.St} {H : Hp} {s : Shared}
mutual
theorem Dd.reads (I : Inv X pins σ H s) : ∀ (d : PyData) (v : V) (u : Value), Dd X.K H v d → RelV v u → ∃ as, Reads s.heap u d as ∧ sysModules ∉ as
  | d, v, u, .sc z, r => ⟨[], z.reads r, by simp⟩
  | .tuple ds, _, u, .tup (a := a) hs ha, r => by
    cases (show u = .ref a from r)
    obtain ⟨its, rv, ⟨o, ho, hc, n, hd⟩, _⟩ := I.tuple hs
    obtain ⟨as, hr, hn⟩ := Dd.readsAll I ds _ its ha rv
    exact ⟨as, Reads.tuple ho hc hd hr, hn⟩
  | .dict _, _, u, .dct (a := a) (kvs := kvs) hk hd, r => by
    cases (show u = .ref a from r)
    obtain ⟨_, hn, us, rv, o, es, ep, e1, e2, e3, _, e4, _⟩ := I.hok a _ hk
    obtain ⟨r1, r2⟩ := kv_reads (h := s.heap) e4 _ _ rv hd
    refine ⟨_, Reads.dict (n := ep) e1 e2.1 e3 r1 r2, ?_⟩
    intro z
    have : sysModules = a := by simpa using z
    rw [this] at hn
    simp at hn
theorem Dd.readsAll (I : Inv X pins σ H s) : ∀ (ds : List PyData) (vs : List V) (us : List Value), DdAll X.K H vs ds → Vals vs us → ∃ as, ReadsAll s.heap us ds as ∧ sysModules ∉ as
  | [], _, _, .nil, .nil => ⟨_, .nil, by simp⟩
  | d :: ds, _, _, .cons h1 h2, .cons r1 r2 => by
    obtain ⟨as, q1, n1⟩ := Dd.reads I d _ _ h1 r1
    obtain ⟨bs, q2, n2⟩ := Dd.readsAll I ds _ _ h2 r2
    exact ⟨_, .cons q1 q2, by simp [n1, n2]⟩
end
mutual
theorem Dp.noDict {K : PySem.W.Frag} {H : Hp} : ∀ (d : PyData) (v : V), Dp K H v d → d.hasDict = false
  | .none, _, _ => rfl
  | .bool _, _, _ => rfl
  | .int _, _, _ => rfl
  | .str _, _, _ => rfl
  | .list ds, _, h => by
    cases h with
    | lst hs ha => exact Dp.noDictAll ds _ ha
  | .tuple ds, _, h => by
    cases h with
    | tup hs ha => exact Dp.noDictAll ds _ ha
  | .dict _, _, h => by cases h
theorem Dp.noDictAll {K : PySem.W.Frag} {H : Hp} : ∀ (ds : List PyData) (vs : List V), DpAll K H vs ds → PyData.hasDictAll ds = false
  | [], _, _ => rfl
  | d :: ds, _, h => by
    cases h with
    | cons h1 h2 => rw [PyData.hasDictAll, Dp.noDict d _ h1, Dp.noDictAll ds _ h2]; rfl
end
end
/-- what repr tells -/
def Rp (K : PySem.W.Frag) (H : Hp) (v : V) (d : PyData) : Prop := (Dp K H v d ∨ Dd K H v d) ∧ d.showable = true ∧ d.depth ≤ 100 ∧ d.shown.length ≤ sizeLine
def rRepr (K : PySem.W.Frag) : List V → Hp → VK → Prop := fun xs H Q => ∃ v d, xs = [v] ∧ Rp K H v d ∧ Q (.str d.shown) H
theorem i_repr {K : PySem.W.Frag} {H : Hp} {Q : VK} {v : V} {d : PyData} (h : Rp K H v d) (q : Q (.str d.shown) H) : rRepr K [v] H Q := ⟨v, d, rfl, h, q⟩
section
variable {X : Cx}
theorem c_repr (hgd : X.A.guards = some []) (hu : X.A.units + 110 < cLine) : CallR X (.builtin "repr") (rRepr X.K) := by
  intro pins s σ H xs us Q I r h
  obtain ⟨v, d, rfl, ⟨hD, hs, hp, hz⟩, q⟩ := h
  obtain ⟨u, rfl, rx⟩ := vals1 r
  have red : ∃ as, Reads s.heap u d as ∧ (d.hasDict = true → sysModules ∉ as) := by
    rcases hD with hD | hD
    · obtain ⟨as, h1⟩ := Dp.reads I d v u hD rx
      exact ⟨as, h1, fun z => by rw [Dp.noDict d v hD] at z; cases z⟩
    · obtain ⟨as, h1, h2⟩ := Dd.reads I d v u hD rx
      exact ⟨as, h1, fun _ => h2⟩
  obtain ⟨as, rd, hsm⟩ := red
  have fin : ∀ (tk : Nat), EP X pins σ Q (.str d.shown s.toks) { s with toks := tk } := fun tk => ⟨.str d.shown, H, I.tok _, ⟨_, rfl⟩, q⟩
  cases rd with
  | none => exact P.repr_of_none (fin _)
  | bool b => exact P.repr_of_bool (fin _)
  | int i t => exact P.repr_of_int (of_decide_eq_true hs) (fin _)
  | str x t => exact P.repr_of_str (fin _) hz
  | list h1 h2 h3 h4 => exact repr_of_reads' (.list h1 h2 h3 h4) hs hsm hgd (by omega) (fun _ _ e => e) (fun h' t tk hk => ⟨.str _, H, I.kept hk, ⟨_, rfl⟩, q⟩) hz
  | tuple h1 h2 h3 h4 => exact repr_of_reads' (.tuple h1 h2 h3 h4) hs hsm hgd (by omega) (fun _ _ e => e) (fun h' t tk hk => ⟨.str _, H, I.kept hk, ⟨_, rfl⟩, q⟩) hz
  | dict h1 h2 h3 h4 h5 => exact repr_of_reads' (.dict h1 h2 h3 h4 h5) hs hsm hgd (by omega) (fun _ _ e => e) (fun h' t tk hk => ⟨.str _, H, I.kept hk, ⟨_, rfl⟩, q⟩) hz
end
section
variable {K : PySem.W.Frag} {H : Hp}
theorem Rp.int {i : Int} (h : i.natAbs.log2 < 1920) : Rp K H (.int i) (.int i) := ⟨.inl (.int i), decide_eq_true h, Nat.zero_le _, int_text_fits h⟩
theorem Rp.non : Rp K H .non .none := ⟨.inl .non, rfl, by decide, by decide +kernel⟩
theorem Rp.bl (b : Bool) : Rp K H (.bl b) (.bool b) := ⟨.inl (.bl b), rfl, Nat.zero_le _, by cases b <;> decide +kernel⟩
end
end Ice
namespace Ice
open PySem PySem.Spec PyProof.Rows L2
/-! ### what is told stays told -/
section
variable {K : PySem.W.Frag} {H H' : Hp}
theorem SqL.same (s : Same H H') {a : Addr} {xs : List V} (h : SqL K H a xs) : SqL K H' a xs := s.seq h
theorem SqT.same (s : Same H H') {a : Addr} {xs : List V} (h : SqT K H a xs) : SqT K H' a xs := by
  rcases h with (h | ⟨o, h⟩) | h
  · exact .inl (.inl (s _ _ h))
  · exact .inl (.inr ⟨o, s _ _ h⟩)
  · exact .inr h
mutual
theorem Dp.same (s : Same H H') : ∀ (d : PyData) (v : V), Dp K H v d → Dp K H' v d
  | .none, _, h => by cases h; exact .non
  | .bool _, _, h => by cases h; exact .bl _
  | .int _, _, h => by cases h; exact .int _
  | .str _, _, h => by cases h; exact .str _
  | .list ds, _, h => by
    cases h with
    | lst hs ha => exact .lst (SqL.same s hs) (Dp.sameAll s ds _ ha)
  | .tuple ds, _, h => by
    cases h with
    | tup hs ha => exact .tup (SqT.same s hs) (Dp.sameAll s ds _ ha)
  | .dict _, _, h => by cases h
theorem Dp.sameAll (s : Same H H') : ∀ (ds : List PyData) (vs : List V), DpAll K H vs ds → DpAll K H' vs ds
  | [], _, h => by cases h; exact .nil
  | d :: ds, _, h => by
    cases h with
    | cons h1 h2 => exact .cons (Dp.same s d _ h1) (Dp.sameAll s ds _ h2)
end
mutual
theorem Dd.same (s : Same H H') : ∀ (d : PyData) (v : V), Dd K H v d → Dd K H' v d
  | _, _, .sc z => .sc z
  | .tuple ds, _, .tup hs ha => .tup (SqT.same s hs) (Dd.sameAll s ds _ ha)
  | .dict _, _, .dct hk hd => .dct (s _ _ hk) hd
theorem Dd.sameAll (s : Same H H') : ∀ (ds : List PyData) (vs : List V), DdAll K H vs ds → DdAll K H' vs ds
  | [], _, .nil => .nil
  | d :: ds, _, .cons h1 h2 => .cons (Dd.same s d _ h1) (Dd.sameAll s ds _ h2)
end
theorem Rp.same (s : Same H H') {v : V} {d : PyData} (h : Rp K H v d) : Rp K H' v d :=
  ⟨h.1.imp (Dp.same s d v) (Dd.same s d v), h.2⟩
theorem Rp.str {x : Str} (hl : x.length ≤ 1000) (hc : ∀ c ∈ x.cps.toList, c < 128) : Rp K H (.str x) (.str x) := by
  refine ⟨.inl (.str x), rfl, Nat.zero_le _, ?_⟩
  have b := PySem.StrLaws.reprText_len x (fun c h => Nat.lt_trans (hc c h) (by decide))
  show (reprText x).length ≤ _
  exact sz_of (by omega)
end
end Ice

set_option Elab.async false
set_option linter.all false
set_option maxRecDepth 100000
set_option maxHeartbeats 4000000
set_option autoImplicit false
/-! Texts: walked sign by sign, compared, joined, cut, repeated. -/
namespace Ice
open PySem PySem.Spec PyProof.Rows L2 TL
theorem tl_len (x : Str) : (tl x).length = x.length := by show x.cps.toList.length = x.cps.size; simp
/-- a for over a text's signs -/
theorem for_text {x : Str} {g : TG} {tb : TS} {D : Ends} {σ : L2.St} {H : Hp} (Pv : Nat → L2.St → Hp → Prop) (h0 : Pv 0 σ H)
    (hs : ∀ i c σ H, (tl x)[i]? = some c → Pv i σ H → g (.str ⟨#[c]⟩) σ H fun σ2 H2 => tb { D with nx := Pv (i + 1), ct := Pv (i + 1), bk := D.nx } σ2 H2) (hd : ∀ σ H, Pv (tl x).length σ H → D.nx σ H) :
    ∃ W : Nat → Nat → L2.St → Hp → Prop, (∃ m, W 0 m σ H) ∧ ∀ i m σ H, W i m σ H →
      ((Its x).stop i H ∧ D.nx σ H) ∨ ((Its x).go i H ∧ ∃ N : L2.St → Hp → Prop, (∀ σ' H', N σ' H' → ∃ m', m' < m ∧ W (i + 1) m' σ' H') ∧ ∀ v H', (Its x).yld i H v H' → g v σ H' fun σ2 H2 => tb { D with nx := N, ct := N, bk := D.nx } σ2 H2) := by
  have sz : (tl x).length = x.cps.size := by show x.cps.toList.length = _; simp
  refine ⟨fun i m σ H => m = (tl x).length - i ∧ i ≤ (tl x).length ∧ Pv i σ H, ⟨(tl x).length, by simp, Nat.zero_le _, h0⟩, ?_⟩
  rintro i m σ H ⟨rfl, hi, p⟩
  by_cases lt : i < (tl x).length
  · refine .inr ⟨by show i < x.cps.size; omega, Pv (i + 1), fun σ' H' p' => ⟨(tl x).length - (i + 1), by omega, rfl, lt, p'⟩, ?_⟩
    rintro v H' ⟨rfl, c, hc, rfl⟩
    exact hs i c σ H' (by show x.cps.toList[i]? = some c; rw [Array.getElem?_toList]; exact hc) p
  · have e : i = (tl x).length := by omega
    subst e
    exact .inl ⟨by show x.cps.size ≤ _; omega, hd σ H p⟩
/-- a comprehension over a text's signs -/
theorem lc_text {x : Str} {g : TG} {tt : TT} {te : TE} {vs : List Nat} {σ : L2.St} {H1 : Hp} {D : Addr} {Qd : Hp → Prop} (Pv : Nat → Hp → Prop) (h0 : Pv 0 (upd H1 D (.lst [])))
    (hs : ∀ i c H, (tl x)[i]? = some c → Pv i H → g (.str ⟨#[c]⟩) (wipe σ vs) H fun σ2 H2 => wipe σ2 vs = wipe σ vs ∧ tt σ2 H2 fun b H3 =>
      if b = true then te σ2 H3 fun y H4 => ∃ acc, H4 D = some (.lst acc) ∧ acc.length < sizeLine ∧ Pv (i + 1) (upd H4 D (.lst (acc ++ [y]))) else Pv (i + 1) H3) (hd : ∀ H, Pv (tl x).length H → Qd H) :
    ∃ W : Nat → Nat → Hp → Prop, (∃ m, W 0 m (upd H1 D (.lst []))) ∧ ∀ i m H, W i m H →
      ((Its x).stop i H ∧ Qd H) ∨ ((Its x).go i H ∧ ∃ Nx : Hp → Prop, (∀ H', Nx H' → ∃ m', m' < m ∧ W (i + 1) m' H') ∧ ∀ v H', (Its x).yld i H v H' → g v (wipe σ vs) H' fun σ2 H2 => wipe σ2 vs = wipe σ vs ∧ tt σ2 H2 fun b H3 =>
        if b = true then te σ2 H3 fun y H4 => ∃ acc, H4 D = some (.lst acc) ∧ acc.length < sizeLine ∧ Nx (upd H4 D (.lst (acc ++ [y]))) else Nx H3) := by
  have sz : (tl x).length = x.cps.size := by show x.cps.toList.length = _; simp
  refine ⟨fun i m H => m = (tl x).length - i ∧ i ≤ (tl x).length ∧ Pv i H, ⟨(tl x).length, by simp, Nat.zero_le _, h0⟩, ?_⟩
  rintro i m H ⟨rfl, hi, p⟩
  by_cases lt : i < (tl x).length
  · refine .inr ⟨by show i < x.cps.size; omega, Pv (i + 1), fun H' p' => ⟨(tl x).length - (i + 1), by omega, rfl, lt, p'⟩, ?_⟩
    rintro v H' ⟨rfl, c, hc, rfl⟩
    exact hs i c H' (by show x.cps.toList[i]? = some c; rw [Array.getElem?_toList]; exact hc) p
  · have e : i = (tl x).length := by omega
    subst e
    exact .inl ⟨by show x.cps.size ≤ _; omega, hd H p⟩
/-! ### joined with nothing between -/
theorem joinL_nil : ∀ ps : List (List Nat), joinL [] ps = ps.flatten
  | [] => rfl
  | [p] => by simp [joinL]
  | p :: q :: r => by
    show p ++ ([] ++ joinL [] (q :: r)) = _
    rw [joinL_nil (q :: r)]
    simp
theorem tl_joined {e : Str} (he : tl e = []) (ys : List Str) : tl (Txt.join e ys) = (ys.map tl).flatten := by rw [join_eq, tl_join, he, joinL_nil]
theorem flat_ones : ∀ (ys : List Str), (∀ y ∈ ys, y.length = 1) → ((ys.map tl).flatten).length = ys.length
  | [], _ => rfl
  | y :: ys, h => by
    have h1 := h y (List.mem_cons_self ..)
    rw [List.map_cons, List.flatten_cons, List.length_append, tl_len, h1, flat_ones ys fun z hz => h z (List.mem_cons_of_mem _ hz), List.length_cons]
    omega
theorem len_joined {e : Str} (he : tl e = []) {ys : List Str} (h : ∀ y ∈ ys, y.length = 1) : (Txt.join e ys).length = ys.length := by rw [← tl_len, tl_joined he, flat_ones ys h]
theorem sum_ones : ∀ {ys : List Str}, (∀ y ∈ ys, y.length = 1) → (ys.map (·.length)).sum = ys.length
  | [], _ => rfl
  | y :: ys, h => by
    rw [List.map_cons, List.sum_cons, h y (List.mem_cons_self ..), sum_ones fun z hz => h z (List.mem_cons_of_mem _ hz), List.length_cons]
    omega
/-! ### cut, put together -/
theorem len_add (x y : Str) : (x ++ y).length = x.length + y.length := by rw [← tl_len, tl_append, List.length_append, tl_len, tl_len]
theorem tl_cut (z : Str) (lo hi : Option Int) : tl (cutS z lo hi) = ((tl z).drop (HT.sIx z.length 0 lo)).take (HT.sIx z.length z.length hi - HT.sIx z.length 0 lo) := rfl
theorem tl_cut_to (z : Str) (k : Nat) : tl (cutS z none (some (k : Int))) = (tl z).take k := by
  rw [tl_cut, HT.sIx_none, HT.sIx_nat, List.drop_zero, Nat.sub_zero]
  by_cases h : k ≤ z.length
  · rw [Nat.min_eq_left h]
  · rw [Nat.min_eq_right (by omega), List.take_of_length_le (by rw [tl_len]; omega), List.take_of_length_le (by rw [tl_len]; omega)]
theorem tl_cut_from (z : Str) (k : Nat) : tl (cutS z (some (k : Int)) none) = (tl z).drop k := by
  rw [tl_cut, HT.sIx_none, HT.sIx_nat]
  by_cases h : k ≤ z.length
  · rw [Nat.min_eq_left h, List.take_of_length_le (by rw [List.length_drop, tl_len]; omega)]
  · rw [Nat.min_eq_right (by omega), List.drop_of_length_le (by rw [tl_len]; omega), List.drop_of_length_le (by rw [tl_len]; omega)]
    simp
theorem len_cut_to (z : Str) (k : Nat) : (cutS z none (some (k : Int))).length = min k z.length := by rw [← tl_len, tl_cut_to, List.length_take, tl_len]
theorem len_cut_from (z : Str) (k : Nat) : (cutS z (some (k : Int)) none).length = z.length - k := by rw [← tl_len, tl_cut_from, List.length_drop, tl_len]
/-! ### items -/
theorem atI_some {α : Type} {xs : List α} {i : Int} (h0 : 0 ≤ i) (h1 : i < xs.length) : ∃ v, atI xs i = some v ∧ v ∈ xs ∧ xs[i.toNat]? = some v := by
  obtain ⟨k, rfl⟩ := Int.eq_ofNat_of_zero_le h0
  have hk : k < xs.length := by omega
  exact ⟨xs[k], atI_nat (List.getElem?_eq_getElem hk), List.getElem_mem _, by simp [List.getElem?_eq_getElem hk]⟩
/-! ### rules -/
def repS (x : Str) (k : Int) : Str := ⟨((List.replicate k.toNat (tl x)).flatten).toArray⟩
theorem tl_rep (x : Str) (k : Int) : tl (repS x k) = (List.replicate k.toNat (tl x)).flatten := by show ((List.replicate k.toNat (tl x)).flatten).toArray.toList = _; simp
theorem len_rep (x : Str) (k : Int) : (repS x k).length = k.toNat * x.length := by rw [← tl_len, tl_rep, List.length_flatten, List.map_replicate, List.sum_replicate_nat, tl_len]
def rMulT : R2 := fun x y H Q => ∃ i k, x = .str i ∧ y = .int k ∧ 0 ≤ k ∧ k ≤ 1000 ∧ i.length ≤ 1000 ∧ Q (.str (repS i k)) H
def rFind : V → List V → Hp → VK → Prop := fun x xs H Q => ∃ a b, x = .str a ∧ xs = [.str b] ∧ Q (.int (Txt.find a b)) H
def rJoin (K : PySem.W.Frag) : V → List V → Hp → VK → Prop := fun x xs H Q => ∃ a p, ∃ ys : List Str, x = .str a ∧ xs = [.ref p] ∧ (SqL K H p (ys.map V.str) ∨ SqT K H p (ys.map V.str)) ∧ (ys.map (·.length)).sum + ys.length * a.length ≤ 16777216 ∧ Q (.str (Txt.join a ys)) H
def rLeT : R2 := fun x y H Q => ∃ i j, x = .str i ∧ y = .str j ∧ Q (.bl (!decide (j.cps.toList < i.cps.toList))) H
def rIsBl : R2 := fun x y H Q => ∃ b, y = .bl b ∧ Q (.bl (decide (x = .bl b))) H
theorem fold_flat : ∀ (l : List (Array Nat)) (acc : Array Nat), (l.foldl (· ++ ·) acc).toList = acc.toList ++ (l.map (·.toList)).flatten
  | [], acc => by simp
  | a :: l, acc => by rw [List.foldl_cons, fold_flat l, Array.toList_append, List.map_cons, List.flatten_cons, List.append_assoc]
theorem rep_fold (x : Str) (k : Int) : (⟨(List.replicate k.toNat x.cps).foldl (· ++ ·) #[]⟩ : Str) = repS x k := by
  have e : ((List.replicate k.toNat x.cps).foldl (· ++ ·) #[]) = ((List.replicate k.toNat (tl x)).flatten).toArray := by
    apply Array.toList_inj.mp
    rw [fold_flat, List.map_replicate]
    simp
  rw [e]
  rfl
section
variable {X : Cx} {H : Hp} {Q : VK} {K : PySem.W.Frag}
theorem o_leT : OpR X (compareOp .LtE) rLeT := op_le_str
theorem m_join : MtR X "str.join" (rJoin X.K) := mt_join
theorem m_find : MtR X "str.find" rFind := mt_find
theorem c_isi : CallR X (.builtin "isinstance") (rIsi X.K) := call_isi
theorem c_intS : CallR X (.type "int") (fun xs H Q => ∃ a n, xs = [.str a] ∧ PySem.intText? a = some n ∧ a.length ≤ 640 ∧ Q (.int n) H) := call_int_str
theorem o_mulT : OpR X (binaryOp .Mult) rMulT := by
  intro pins s σ H x y v u Q I rx ry h
  obtain ⟨i, k, rfl, rfl, h0, h1, hz, q⟩ := h
  obtain ⟨t, rfl⟩ := rx
  obtain ⟨t', rfl⟩ := ry
  have big : i.length * k.toNat ≤ 1000 * 1000 := Nat.mul_le_mul hz (by omega)
  have lim : (1000 : Int) * 1000 ≤ (2 ^ 63 - 1) := by decide
  refine PySem.P.mul_str ?_ ?_ ?_ ?_
  · rw [decide_eq_false (by omega), decide_eq_false (by omega)]; rfl
  · intro h2 _ h3
    have k0 : 0 < k := by omega
    have a1 : (i.length : Int) * k ≤ 1000 * 1000 := Int.mul_le_mul (by omega) h1 (by omega) (by omega)
    have a2 : (2 ^ 63 - 1 : Int) / k < i.length := h3
    have a3 : (2 ^ 63 - 1 : Int) < i.length * k := Int.lt_mul_of_ediv_lt k0 a2
    omega
  · intro _ _
    unfold Builtin.Str.tooLong
    exact decide_eq_false (by rw [sizeLine_eq]; omega)
  · have fin : ∀ (z : Str) (tk1 tk2 : Nat), z = repS i k → EP X pins σ Q (.str z tk1) { s with toks := tk2 } := fun z a b e => ⟨.str z, H, I.tok _, ⟨_, rfl⟩, by rw [e]; exact q⟩
    by_cases k1 : k < 1
    · rw [if_pos k1]
      have k0 : k = 0 := by omega
      exact ⟨by decide, fin _ _ _ (by subst k0; rfl)⟩
    · rw [if_neg k1]
      by_cases k2 : (k == 1 || i.length == 0) = true
      · rw [if_pos k2]
        refine fin i t s.toks ?_
        rw [← mk_tl i]
        show _ = (⟨((List.replicate k.toNat (tl i)).flatten).toArray⟩ : Str)
        rcases Bool.or_eq_true _ _ ▸ k2 with e | e
        · rw [beq_iff_eq.mp e]; simp
        · have e0 : tl i = [] := List.eq_nil_of_length_eq_zero (by rw [tl_len]; exact beq_iff_eq.mp e)
          rw [e0]; simp
      · rw [if_neg k2]
        refine ⟨?_, fin _ _ _ (rep_fold i k)⟩
        rw [rep_fold]
        rw [len_rep, sizeLine_eq]
        have : k.toNat * i.length ≤ 1000 * 1000 := Nat.mul_le_mul (by omega) hz
        omega
theorem o_isB : OpR X (compareOp .Is) rIsBl := by
  intro pins s σ H x y v u Q I rx ry h
  obtain ⟨b, rfl, q⟩ := h
  cases (show u = Value.bool b from ry)
  by_cases e : x = .bl b
  · subst e
    cases (show v = Value.bool b from rx)
    exact wpAny_is_self rfl ⟨.bl true, H, I, rfl, by simpa using q⟩
  · have q' : Q (.bl false) H := by simpa [e] using q
    have fin : ∀ s', s' = s → EP X pins σ Q (.bool false) s' := fun s' z => ⟨.bl false, H, z ▸ I, rfl, q'⟩
    cases x with
    | bl c => cases (show v = Value.bool c from rx); exact wpAny_is_other rfl (fun z => e (by cases z; rfl)) (fin _ rfl)
    | non => cases (show v = Value.none from rx); exact wpAny_is_other rfl (fun z => by cases z) (fin _ rfl)
    | int i => obtain ⟨t, rfl⟩ := (show ∃ t, v = Value.int i t from rx); exact wpAny_is_other rfl (fun z => by cases z) (fin _ rfl)
    | str i => obtain ⟨t, rfl⟩ := (show ∃ t, v = Value.str i t from rx); exact wpAny_is_other rfl (fun z => by cases z) (fin _ rfl)
    | byt i => obtain ⟨t, rfl⟩ := (show ∃ t, v = Value.bytes i t from rx); exact wpAny_is_other rfl (fun z => by cases z) (fin _ rfl)
    | flt i => obtain ⟨t, rfl⟩ := (show ∃ t, v = Value.float i t from rx); exact wpAny_is_other rfl (fun z => by cases z) (fin _ rfl)
    | ref a => cases (show v = Value.ref a from rx); exact wpAny_is_other rfl (fun z => by cases z) (fin _ rfl)
    | ty n => cases (show v = Value.type n from rx); exact wpAny_is_other rfl (fun z => by cases z) (fin _ rfl)
theorem i_isi {v : V} {n m : String} {b : Bool} (h : TyX K H v (.type n)) (e : kitB n m = some b) (q : Q (.bl b) H) : rIsi K [v, .ty m] H Q := ⟨v, .ty m, .type n, .type m, b, rfl, .ty m, h, kit_ty e, q⟩
theorem i_mulT {i : Str} {k : Int} (h0 : 0 ≤ k) (h1 : k ≤ 1000) (hz : i.length ≤ 1000) (q : Q (.str (repS i k)) H) : rMulT (.str i) (.int k) H Q := ⟨i, k, rfl, rfl, h0, h1, hz, q⟩
theorem i_find {a b : Str} (q : Q (.int (Txt.find a b)) H) : rFind (.str a) [.str b] H Q := ⟨a, b, rfl, rfl, q⟩
theorem i_leT {a b : Str} (q : Q (.bl (!decide (tl b < tl a))) H) : rLeT (.str a) (.str b) H Q := ⟨a, b, rfl, rfl, q⟩
theorem i_isB {x : V} {b : Bool} (q : Q (.bl (decide (x = .bl b))) H) : rIsBl x (.bl b) H Q := ⟨b, rfl, q⟩
theorem i_notInS {c : Nat} {z : Str} (q : Q (.bl (!decide (c ∈ z.cps.toList))) H) : rNotInS (.str ⟨#[c]⟩) (.str z) H Q := ⟨c, z, rfl, rfl, q⟩
theorem i_inS {c : Nat} {z : Str} (q : Q (.bl (decide (c ∈ z.cps.toList))) H) : rInS (.str ⟨#[c]⟩) (.str z) H Q := ⟨c, z, rfl, rfl, q⟩
theorem i_slS {z : Str} {lo hi : Option Int} (hz : z.length ≤ sizeLine) (q : Q (.str (cutS z lo hi)) H) : rSlS (.str z) lo hi H Q := ⟨z, rfl, hz, q⟩
end
end Ice

set_option Elab.async false
set_option linter.all false
set_option maxRecDepth 100000
set_option maxHeartbeats 4000000
set_option autoImplicit false
/-! Things of any kind. -/
namespace Ice
open PySem PySem.Spec PyProof.Rows L2 TL
theorem one_lt (c l : Nat) : ([c] < [l]) ↔ c < l := by rw [List.cons_lt_cons_iff]; simp
theorem str_ext {x y : Str} (h : tl x = tl y) : x = y := by rw [← mk_tl x, ← mk_tl y, h]
theorem take_all {P : Nat → Prop} {l : List Nat} {i c : Nat} (h : ∀ x ∈ l.take i, P x) (hc : l[i]? = some c) (hp : P c) : ∀ x ∈ l.take (i + 1), P x := by
  intro x hx
  rw [List.take_add_one, hc] at hx
  rcases List.mem_append.mp hx with z | z
  · exact h x z
  · have : x = c := by simpa using z
    rw [this]; exact hp
theorem empty_eq (s : Str) : (V.str s = V.str (Str.ofString "")) ↔ s.length = 0 := by
  constructor
  · intro h; injection h with h; rw [h]; decide +kernel
  · intro h
    have : tl s = tl (Str.ofString "") := by rw [List.eq_nil_of_length_eq_zero (by rw [tl_len]; exact h : (tl s).length = 0)]; decide +kernel
    rw [str_ext this]
theorem sign_eq (c d : Nat) : (V.str ⟨#[c]⟩ = V.str ⟨#[d]⟩) ↔ c = d := by
  constructor
  · intro h; injection h with h; injection h with h; simpa using h
  · rintro rfl; rfl
/-- what is no text -/
inductive NoTx (H : Hp) : V → String → Prop
  | non : NoTx H .non "NoneType"
  | int (i : Int) : NoTx H (.int i) "int"
  | bl (b : Bool) : NoTx H (.bl b) "bool"
  | lst {p : Addr} {xs : List V} (h : H p = some (.lst xs)) : NoTx H (.ref p) "list"
  | tup {p : Addr} {xs : List V} (h : H p = some (.tup xs)) : NoTx H (.ref p) "tuple"
  | dct {p : Addr} {xs : List (Key × V)} (h : H p = some (.dK xs)) : NoTx H (.ref p) "dict"
def Th (H : Hp) (v : V) : Prop := (∃ s, v = .str s ∧ s.length ≤ 64) ∨ ∃ n, NoTx H v n
theorem NoTx.same {H H' : Hp} {v : V} {n : String} (e : Same H H') (h : NoTx H v n) : NoTx H' v n := by
  cases h with
  | non => exact .non
  | int i => exact .int i
  | bl b => exact .bl b
  | lst h => exact .lst (e _ _ h)
  | tup h => exact .tup (e _ _ h)
  | dct h => exact .dct (e _ _ h)
theorem Th.same {H H' : Hp} {v : V} (e : Same H H') (h : Th H v) : Th H' v := by
  rcases h with h | ⟨n, h⟩
  · exact .inl h
  · exact .inr ⟨n, h.same e⟩
theorem Th.updL {H : Hp} {D : Addr} {xs ys : List V} {v : V} (hD : H D = some (.lst xs)) (h : Th H v) : Th (upd H D (.lst ys)) v := by
  rcases h with h | ⟨n, h⟩
  · exact .inl h
  · refine .inr ?_
    cases h with
    | non => exact ⟨_, .non⟩
    | int i => exact ⟨_, .int i⟩
    | bl b => exact ⟨_, .bl b⟩
    | @lst p xs h =>
      by_cases e : p = D
      · subst e; exact ⟨_, .lst upd_same⟩
      · exact ⟨_, .lst (by rw [upd_ne e]; exact h)⟩
    | tup h => exact ⟨_, .tup (by rw [upd_ne (ne_of h hD (by intro z; cases z))]; exact h)⟩
    | dct h => exact ⟨_, .dct (by rw [upd_ne (ne_of h hD (by intro z; cases z))]; exact h)⟩
section
variable {K : PySem.W.Frag} {H : Hp}
theorem ty_str {s : Str} : TyX K H (.str s) (.type "str") := .base (.str s)
theorem NoTx.tyx {v : V} {n : String} (h : NoTx H v n) : TyX K H v (.type n) := by
  cases h with
  | non => exact .base .non
  | int i => exact .base (.int i)
  | bl b => exact .base (.bl b)
  | lst h => exact .base (.lst h)
  | tup h => exact .base (.tup h)
  | dct h => exact .base (.dK h)
theorem NoTx.noStr {v : V} {n : String} (h : NoTx H v n) : kitB n "str" = some false := by cases h <;> decide +kernel
theorem NoTx.ty {v : V} {n : String} (h : NoTx H v n) : TyX K H v (.type n) ∧ kitB n "str" = some false := ⟨h.tyx, h.noStr⟩
end
/-- a whole number; one within bounds; a name -/
def isW : V → Bool
  | .int _ => true
  | _ => false
def inB (lo hi : Int) : V → Bool
  | .int i => decide (lo ≤ i) && decide (i ≤ hi)
  | _ => false
def isN : V → Bool
  | .str s => decide (1 ≤ s.length ∧ s.length ≤ 8 ∧ ∀ c ∈ tl s, 97 ≤ c ∧ c ≤ 122)
  | _ => false
theorem NoTx.isN {H : Hp} {v : V} {n : String} (h : NoTx H v n) : isN v = false := by cases h <;> rfl
theorem Th.ty {K : PySem.W.Frag} {H : Hp} {v : V} (h : Th H v) : ∃ n, TyX K H v (.type n) ∧ kitB n "int" = some (isW v || decide (n = "bool")) ∧ kitB n "bool" = some (decide (n = "bool")) ∧ (n = "bool" → ∃ b, v = .bl b) := by
  rcases h with ⟨s, rfl, _⟩ | ⟨n, h⟩
  · exact ⟨"str", ty_str, (by decide +kernel : kitB "str" "int" = some (false || decide ("str" = "bool"))), by decide +kernel, fun z => absurd z (by decide)⟩
  · refine ⟨n, h.tyx, ?_⟩
    cases h with
    | non => exact ⟨(by decide +kernel : kitB "NoneType" "int" = some (false || decide ("NoneType" = "bool"))), by decide +kernel, fun z => absurd z (by decide)⟩
    | int i => exact ⟨(by decide +kernel : kitB "int" "int" = some (true || decide ("int" = "bool"))), by decide +kernel, fun z => absurd z (by decide)⟩
    | bl b => exact ⟨(by decide +kernel : kitB "bool" "int" = some (false || decide ("bool" = "bool"))), by decide +kernel, fun _ => ⟨b, rfl⟩⟩
    | lst h => exact ⟨(by decide +kernel : kitB "list" "int" = some (false || decide ("list" = "bool"))), by decide +kernel, fun z => absurd z (by decide)⟩
    | tup h => exact ⟨(by decide +kernel : kitB "tuple" "int" = some (false || decide ("tuple" = "bool"))), by decide +kernel, fun z => absurd z (by decide)⟩
    | dct h => exact ⟨(by decide +kernel : kitB "dict" "int" = some (false || decide ("dict" = "bool"))), by decide +kernel, fun z => absurd z (by decide)⟩
end Ice

set_option Elab.async false
set_option linter.all false
set_option maxRecDepth 100000
set_option maxHeartbeats 4000000
set_option autoImplicit false
/-! Texts drawn sign by sign from a box. -/
namespace Ice
open PySem PySem.Spec PyProof.Rows L2 TL
/-- a comprehension over a range whose element draws one sign from the box b -/
theorem lc_draw {b : Addr} {n size : Nat} {P : Nat → Prop} {g : TG} {tt : TT} {te : TE} {vs : List Nat} {σ : L2.St} {H1 : Hp} {D : Addr} {Qd : Hp → Prop} (hB : Box H1 b n) (hD : H1 D = none) (hz : size ≤ 1000)
    (hs : ∀ i H, i < size → But b H1 H → Box H b (n + i) → ∀ N : V → Hp → Prop, (∀ c H4, P c → But b H H4 → Box H4 b (n + i + 1) → N (.str ⟨#[c]⟩) H4) →
      g (.int (0 + i)) (wipe σ vs) H fun σ2 H2 => wipe σ2 vs = wipe σ vs ∧ tt σ2 H2 fun b H3 => if b = true then te σ2 H3 N else False)
    (mono : ∀ i H (N : V → Hp → Prop) (M : Hp → Prop), (g (.int (0 + i)) (wipe σ vs) H fun σ2 H2 => wipe σ2 vs = wipe σ vs ∧ tt σ2 H2 fun b H3 => if b = true then te σ2 H3 N else False) →
      g (.int (0 + i)) (wipe σ vs) H fun σ2 H2 => wipe σ2 vs = wipe σ vs ∧ tt σ2 H2 fun b H3 => if b = true then te σ2 H3 N else M H3)
    (hd : ∀ (acc : List Str) H, But b H1 H → Box H b (n + size) → H D = some (.lst (acc.map V.str)) → acc.length = size → (∀ y ∈ acc, ∃ c, y = ⟨#[c]⟩ ∧ P c) → Qd H) :
    ∃ W : Nat → Nat → Hp → Prop, (∃ m, W 0 m (upd H1 D (.lst []))) ∧ ∀ i m H, W i m H →
      ((Itr 0 size).stop i H ∧ Qd H) ∨ ((Itr 0 size).go i H ∧ ∃ Nx : Hp → Prop, (∀ H', Nx H' → ∃ m', m' < m ∧ W (i + 1) m' H') ∧ ∀ x H', (Itr 0 size).yld i H x H' → g x (wipe σ vs) H' fun σ2 H2 => wipe σ2 vs = wipe σ vs ∧ tt σ2 H2 fun b H3 =>
        if b = true then te σ2 H3 fun y H4 => ∃ acc, H4 D = some (.lst acc) ∧ acc.length < sizeLine ∧ Nx (upd H4 D (.lst (acc ++ [y]))) else Nx H3) := by
  have bD := hB.ne hD
  refine lc_range (lo := 0) (n := size) (fun i H' => But b H1 H' ∧ Box H' b (n + i) ∧ ∃ acc : List Str, H' D = some (.lst (acc.map V.str)) ∧ acc.length = i ∧ ∀ y ∈ acc, ∃ c, y = ⟨#[c]⟩ ∧ P c)
    ⟨But.new _ hD, hB.new hD, [], upd_same, rfl, by simp⟩ ?_ ?_
  · rintro i H' hi ⟨e6, B6, acc, hA, hl, h1⟩
    refine mono i H' _ _ (hs i H' hi e6 B6 _ ?_)
    intro c H4 pc e7 B7
    refine ⟨_, e7 D _ bD hA, by rw [List.length_map]; exact small1000 (by omega), fun a o na ha => ?_, B7.upd bD, acc ++ [⟨#[c]⟩], by rw [upd_same, List.map_append]; rfl, by simp [hl], ?_⟩
    · rw [upd_ne (ne_of_none ha hD)]
      exact e7 a o na (e6 a o na ha)
    · intro y hy
      rcases List.mem_append.mp hy with z | z
      · exact h1 y z
      · simp at z; exact ⟨c, z, pc⟩
  · rintro H' ⟨e6, B6, acc, hA, hl, h1⟩
    exact hd acc H' e6 B6 hA hl h1
/-- what is joined of such signs -/
theorem join_draw {K : PySem.W.Frag} {P : Nat → Prop} {e : Str} {D : Addr} {acc : List Str} {H : Hp} {Q : VK} (he : tl e = []) (hA : H D = some (.lst (acc.map V.str))) (hz : acc.length ≤ 1000) (h1 : ∀ y ∈ acc, ∃ c, y = ⟨#[c]⟩ ∧ P c)
    (q : ∀ t : Str, t.length = acc.length → (∀ c ∈ tl t, P c) → Q (.str t) H) :
    rJoin K (.str e) [.ref D] H Q := by
  have one : ∀ y ∈ acc, y.length = 1 := fun y hy => by obtain ⟨c, rfl, _⟩ := h1 y hy; rfl
  have e0 : e.length = 0 := by rw [← tl_len, he]; rfl
  refine ⟨e, D, acc, rfl, rfl, .inl (SqL.lst hA), by rw [sum_ones one, e0]; omega, q _ (len_joined he one) ?_⟩
  intro c hc
  rw [tl_joined he] at hc
  obtain ⟨l, hl, hcl⟩ := List.mem_flatten.mp hc
  obtain ⟨y, hy, rfl⟩ := List.mem_map.mp hl
  obtain ⟨d, rfl, pd⟩ := h1 y hy
  have : c = d := by simpa using (show c ∈ [d] from hcl)
  rw [this]; exact pd
/-- a sign of a written text at a drawn place -/
theorem sign_at {P : Nat → Prop} {x : Str} {d : Int} (h0 : 0 ≤ d) (h1 : d < x.length) (hp : ∀ c ∈ tl x, P c) : ∃ c, atI x.cps.toList d = some c ∧ P c := by
  obtain ⟨c, hc, hm, _⟩ := atI_some (xs := x.cps.toList) h0 (by simp only [Array.length_toList]; exact h1)
  exact ⟨c, hc, hp c hm⟩
theorem cut_all {P : Nat → Prop} {z : Str} {lo hi : Option Int} (h : ∀ c ∈ tl z, P c) : ∀ c ∈ tl (cutS z lo hi), P c := by
  intro c hc
  rw [tl_cut] at hc
  exact h c (List.mem_of_mem_drop (List.mem_of_mem_take hc))
theorem add_all {P : Nat → Prop} {x y : Str} (h1 : ∀ c ∈ tl x, P c) (h2 : ∀ c ∈ tl y, P c) : ∀ c ∈ tl (x ++ y), P c := by
  intro c hc
  rw [tl_append] at hc
  rcases List.mem_append.mp hc with z | z
  · exact h1 c z
  · exact h2 c z
theorem one_all {P : Nat → Prop} {d : Nat} (h : P d) : ∀ c ∈ tl (⟨#[d]⟩ : Str), P c := by
  intro c hc
  have : c = d := by simpa using (show c ∈ [d] from hc)
  rw [this]; exact h
end Ice

set_option Elab.async false
set_option linter.all false
set_option maxRecDepth 100000
set_option maxHeartbeats 4000000
set_option autoImplicit false
/-! Own errors over an own error over ValueError; several except clauses, with names or without. -/
namespace Ice
open PySem PySem.Spec PyProof.Rows L2
/-- one except clause: its class, the slot of its name, its suite -/
structure Hd where
  c : Value
  i : Option Nat
  ts : Addr → Value → Option Addr → TS
/-- the slots behind a suite whose name is gone -/
def goneE (i : Nat) (D : Ends) : Ends := { nx := fun σ' H' => D.nx (σ'.set i none) H', rt := D.rt, bk := fun σ' H' => D.bk (σ'.set i none) H', ct := fun σ' H' => D.ct (σ'.set i none) H' }
def Hd.run (h : Hd) (a : Addr) (cls : Value) (d : Option Addr) (D : Ends) (σ : L2.St) (H : Hp) : Prop :=
  match h.i with
  | none => h.ts a cls d D σ H
  | some i => h.ts a cls d (goneE i D) (σ.set i (some (.ref a))) H
def wHds (K : PySem.W.Frag) (Wout : WX) (D : Ends) : List Hd → WX
  | [] => Wout
  | h :: r => fun cls d σ H => ∃ b, PySem.W.exmOne K cls h.c = some b ∧ (b = true → ∀ a, H a = none → h.run a cls d D σ H) ∧ (b = false → wHds K Wout D r cls d σ H)
inductive HdOk (X : Cx) : List ExceptHandler → List Hd → Prop
  | nil : HdOk X [] []
  | plain {x : Str} {c : Value} {ts : Addr → Value → Option Addr → TS} {b₀ : Stmt} {suite : List Stmt} {np pos' : Pos} {hds : List ExceptHandler} {l : List Hd} (hc : Names X x c)
      (hsu : ∀ (a : Addr) (oe : Obj) (cls : Value) (d : Option Addr) (pn : List (Addr × Obj)), Zc cls d oe → (∃ vs, oe.data = .fields vs) → PSs (X.suite a ((a, oe) :: pn)) (b₀ :: suite) (ts a cls d)) (r : HdOk X hds l) :
      HdOk X (.ExceptHandler (some (.Name x np)) none (b₀ :: suite) pos' :: hds) (⟨c, none, ts⟩ :: l)
  | named {x n : Str} {i : Nat} {c : Value} {ts : Addr → Value → Option Addr → TS} {b₀ : Stmt} {suite : List Stmt} {np pos' : Pos} {hds : List ExceptHandler} {l : List Hd} (hi : X.N[i]? = some n) (hln : X.env.kindOf n = some .local) (hc : Names X x c)
      (hsu : ∀ (a : Addr) (oe : Obj) (cls : Value) (d : Option Addr) (pn : List (Addr × Obj)), Zc cls d oe → (∃ vs, oe.data = .fields vs) → PSs (X.suite a ((a, oe) :: pn)) (b₀ :: suite) (ts a cls d)) (r : HdOk X hds l) :
      HdOk X (.ExceptHandler (some (.Name x np)) (some n) (b₀ :: suite) pos' :: hds) (⟨c, some i, ts⟩ :: l)
section
variable {X : Cx} {body : List Stmt} {h₀ : ExceptHandler} {hds : List ExceptHandler} {l : List Hd} {pos : Pos} {tb : WX → TS} {Wout : WX}
/-- the exception at a is caught by one of the clauses, or goes on -/
theorem handled {pins : List (Addr × Obj)} {D : Ends} (hs : X.stack = X.env :: X.outer) (hf : X.env.frame = some X.env.locals) (hN : X.N.Nodup) (tk : Takes X Wout) (ok : X.Ok)
    {a : Addr} {B : Heap} {sI s' : Shared} {σ' : L2.St} {H' : Hp} {cls : Value} {d : Option Addr} {h3 : Heap} (J : Inv X pins σ' H' sI) (nb : ∀ b o, sI.heap.get? b = some o → b ∉ frs X.stack → B.get? b = some o)
    (up : sI.heap.UpToSlots s'.heap) (na : H' a = none) (os : s'.os = sI.os) (ag : AllBare s'.gens) (fl3 : HandSPX.FlyingZ B (X.env :: X.outer) a (Zc cls d) h3) (up3 : s'.heap.UpToSlots h3)
    {hds' : List ExceptHandler} {l' : List Hd} (hk : HdOk X hds' l') :
    wHds X.K Wout D l' cls d σ' H' → wpAny (model X.prog X.w) X.A (handleBy (.ref a) X.env hds') (SP X pins D) X.xe { s' with heap := h3 } := by
  have J3 : Inv X pins σ' H' { s' with heap := h3 } := J.landed nb fl3.1 (up.trans up3) os ag
  obtain ⟨oe3, vs3, he3, hz3, hd3⟩ := fl3.there
  have nfr : a ∉ frs (X.env :: X.outer) := by
    intro hm
    obtain ⟨_, o', e', hnf⟩ := fl3.2.2.1.mem hm
    rw [he3] at e'; cases e'
    exact hnf _ hd3
  have nL : a ≠ X.env.locals := fun z => nfr (List.mem_filterMap.mpr ⟨X.env, List.mem_cons_self, by rw [hf, z]⟩)
  have nF : a ∉ X.fs := by
    intro hm
    obtain ⟨e, he, q⟩ := List.mem_filterMap.mp hm
    exact nfr (List.mem_filterMap.mpr ⟨e, List.mem_cons_of_mem _ he, q⟩)
  have S3 := J3.suite he3 hd3 na nL nF
  have LT : PySem.W.Looks (model X.prog X.w) h3 (typeOf (.ref a)) cls := fun A Q E s k q => wpAny_typeOf_ref (k _ _ he3) (by rw [hz3.1]; exact q)
  have test : ∀ {x : Str} {c : Value} {np : Pos} {Q : Value → Shared → Prop} {E : Value → Shared → Prop}, Names X x c → Q c { s' with heap := h3 } →
      wpAny (model X.prog X.w) (X.A.mark (some (.ref a))) (eval (.Name x np) X.env) Q E { s' with heap := h3 } := by
    rintro x c np Q E ⟨hg, hdbg, hm | ⟨hm, hv, hnn⟩⟩ q
    · exact ld_glob (X := X.suite a ((a, oe3) :: (X.pn ++ pins))) S3 hg hm q hdbg
    · exact ld_blt (X := X.suite a ((a, oe3) :: (X.pn ++ pins))) S3 hg hm hv q hnn hdbg
  have land : ∀ {R : Shared → Prop}, (∀ h4 oe4, (∃ vs, oe4.data = .fields vs) → Zc cls d oe4 → Inv (X.suite a ((a, oe4) :: (X.pn ++ pins))) [] σ' H' { s' with heap := h4 } → R { s' with heap := h4 }) →
      ∀ h4, HandSPX.FlyingZ B (X.env :: X.outer) a (Zc cls d) h4 → s'.heap.UpToSlots h4 → R { s' with heap := h4 } := by
    intro R hR h4 fl4 up4
    have J4 : Inv X pins σ' H' { s' with heap := h4 } := J.landed nb fl4.1 (up.trans up4) os ag
    obtain ⟨oe4, vs4, he4, hz4, hd4⟩ := fl4.there
    exact hR h4 oe4 ⟨_, hd4⟩ hz4 (J4.suite he4 hd4 na nL nF)
  induction hk with
  | nil =>
    intro w
    refine wpAny_handleBy_nil ?_
    obtain ⟨k1, k2, k3, oe, vs, T, oT, ts', he, hz, hd, h1, hr⟩ := id fl3
    unfold PySem.passOn
    refine wpAny_bind (wpAny_field he hd h1 ?_)
    rw [if_neg (show ¬ ((Value.ref T == Value.none) = true) from by simp)]
    have fin : wpAny (model X.prog X.w) X.A (setFlight (.ref a) X.env.frame) (fun _ s4 => wpAny (model X.prog X.w) X.A (throw (.ref a) : Sem Flow) (SP X pins D) X.xe s4) X.xe { s' with heap := h3 } := by
      rw [hf]
      exact HandSPX.setFlight_upZ fl3 (fun h4 hh4 up4 => wpAny_throw (tk _ _ ⟨a, B, sI, pins, σ', H', cls, d, rfl, J, nb, (up.trans up3).trans up4, .inr (.inr (by rw [hs]; exact hh4)), na, os, ag, w⟩))
    first
      | exact wpAny_bind (wpAny_pure (wpAny_bind fin))
      | exact wpAny_bind fin
  | @plain x c ts b₀ suite np pos' hds2 l2 hc hsu r ih =>
    rintro ⟨b, hb1, hyes, hno⟩
    refine wpAny_handleBy_cons (codeAny_handlers_test ?_) (by intro q; cases q)
    refine test hc ((PySem.W.exm_one (M := model X.prog X.w) J3.kIn LT hb1).here ?_)
    match b, hyes, hno with
    | true, hyes, _ =>
      refine codeAny_handlers_suite (HandSPX.lands_againZ fl3 (fun h4 fl4 up4 => ?_))
      refine land ?_ h4 fl4 (up3.trans up4)
      intro h5 oe5 hd5 hz5 S5
      refine wpAny_mono ((hsu a oe5 cls d (X.pn ++ pins) hz5 hd5).run [] _ _ H' _ S5 (hyes rfl a na)) (fun f s6 hsp => ?_) (fun _ _ z => False.elim z)
      match f, hsp with
      | .next, ⟨σ6, H6, S6, q6⟩ => exact ⟨_, _, S6.unsuite ok, q6⟩
      | .brk, ⟨σ6, H6, S6, q6⟩ => exact ⟨_, _, S6.unsuite ok, q6⟩
      | .cont, ⟨σ6, H6, S6, q6⟩ => exact ⟨_, _, S6.unsuite ok, q6⟩
      | .ret u, ⟨v6, σ6, H6, S6, r6, q6⟩ => exact ⟨_, _, _, S6.unsuite ok, r6, q6⟩
    | false, _, hno => exact ih (hno rfl)
  | @named x n i c ts b₀ suite np pos' hds2 l2 hi hln hc hsu r ih =>
    rintro ⟨b, hb1, hyes, hno⟩
    refine wpAny_handleBy_cons (codeAny_handlers_test ?_) (by intro q; cases q)
    refine test hc ((PySem.W.exm_one (M := model X.prog X.w) J3.kIn LT hb1).here ?_)
    match b, hyes, hno with
    | true, hyes, _ =>
      refine codeAny_handlers_suite_as (HandSPX.lands_againZ fl3 (fun h4 fl4 up4 => ?_))
      refine land ?_ h4 fl4 (up3.trans up4)
      intro h5 oe5 hd5 hz5 S5
      refine store_ok (X := X.suite a ((a, oe5) :: (X.pn ++ pins))) (v := .ref a) S5 hN hi (.inl hln) rfl (fun s6 S6 => ?_) (.inr hln)
      refine wpAny_mono ((hsu a oe5 cls d (X.pn ++ pins) hz5 hd5).run [] s6 _ H' _ S6 (hyes rfl a na)) (fun f s7 hsp => ?_) (fun _ _ z => False.elim z)
      match f, hsp with
      | .next, ⟨σ6, H6, S7, q6⟩ => exact gone_ok (S7.unsuite ok) hN hi hln (fun s8 J8 => ⟨_, _, J8, q6⟩)
      | .brk, ⟨σ6, H6, S7, q6⟩ => exact gone_ok (S7.unsuite ok) hN hi hln (fun s8 J8 => ⟨_, _, J8, q6⟩)
      | .cont, ⟨σ6, H6, S7, q6⟩ => exact gone_ok (S7.unsuite ok) hN hi hln (fun s8 J8 => ⟨_, _, J8, q6⟩)
      | .ret u, ⟨v6, σ6, H6, S7, r6, q6⟩ => exact gone_ok (S7.unsuite ok) hN hi hln (fun s8 J8 => ⟨_, _, _, J8, r6, q6⟩)
    | false, _, hno => exact ih (hno rfl)
theorem ps_try_hds (hs : X.stack = X.env :: X.outer) (hf : X.env.frame = some X.env.locals) (hN : X.N.Nodup) (tk : Takes X Wout)
    (hb : ∀ (W : WX) (pn : List (Addr × Obj)) (xe : Value → Shared → Prop), Takes (X.tr pn xe) W → PassesOwn (model X.prog X.w) X.A X.env xe → PSs (X.tr pn xe) body (tb W))
    (hh : HdOk X (h₀ :: hds) l) : PS X (.Try body (h₀ :: hds) [] [] pos) (fun D σ H => tb (wHds X.K Wout D l) D σ H) := by
  constructor
  intro pins s σ H D I h
  have ok := I.ok
  have hfr : X.A.frames = some (X.env :: X.outer) := by rw [ok.frames, hs]
  refine wpAny_Try_except ?_
  have run := (hb (wHds X.K Wout D l) (X.pn ++ pins) (fun e s₁ => wpAny (model X.prog X.w) X.A (noteFrame e X.env)
    (fun _ s₂ => wpAny (model X.prog X.w) X.A (setFlight e none) (fun _ s₃ => wpAny (model X.prog X.w) X.A (handleBy e X.env (h₀ :: hds)) (SP X pins D) X.xe s₃) X.xe s₂) X.xe s₁) ?_ PassesOwn.looking).run [] s σ H D (I.toTry _) h
  · refine wpAny_mono run (fun f s1 hsp => ?_) (fun e s1 he => he)
    match f, hsp with
    | .next, ⟨σ', H', J', q⟩ => exact wpAny_execs_nil ⟨σ', H', J'.ofTry ok, q⟩
    | .brk, ⟨σ', H', J', q⟩ => exact ⟨σ', H', J'.ofTry ok, q⟩
    | .cont, ⟨σ', H', J', q⟩ => exact ⟨σ', H', J'.ofTry ok, q⟩
    | .ret u, ⟨v, σ', H', J', r, q⟩ => exact ⟨v, σ', H', J'.ofTry ok, r, q⟩
  · rintro u s' ⟨a, B, sI, pins', σ', H', cls, d, rfl, J', nb, up, sky, na, os, ag, w⟩
    have sky' : Sky B (X.env :: X.outer) a (Zc cls d) X.env.locals s'.heap := by rw [← hs]; exact sky
    exact Sky.land Zc.steady hfr hf sky' (fun h3 fl3 up3 => handled hs hf hN tk ok (J'.ofTry ok) nb up na os ag fl3 up3 hh w)
end
/-! ### Base.__init__(self, ..), Base an own error class over ValueError -/
section
variable {X : Cx} {e : Expr} {es : List Expr} {ta : TA} {p1 p2 pos : Pos} {x : Str} {B : Addr}
theorem pe_kinit {pl : Sem Bool} (hg : Gl X x) (hm : X.mg x = some (.ref B)) (hsp : PySem.W.specialIn X.K (.ref B) "__getattribute__" = some (some (.builtin "type.__getattribute__"))) (ht : PySem.W.typeIn X.K (.ref B) = some (.type "type"))
    (hr : PySem.W.readsIn X.K B (.type "type") = true) (hF : PySem.W.findCls X.K (.ref B) (.type "type") "__init__" = some (.val (.builtin "ValueError.__init__"))) (ha : PA X (e :: es) ta)
    (hdb : (x == ("__debug__" : Str)) = false := by decide)
    (hc : eval (.Call (.Attribute (.Name x p1) "__init__" p2) (e :: es) [] pos) X.env =
      (do let ov ← eval (.Name x p1) X.env; standAt p2.atName; let (f, first) ← holding [ov] (getMethod ov "__init__" pl); callWith pos f first (backTo pos (starEach (e :: es) X.env)) (backToKw pos (keywordEach [] X.env))) := by rfl)
    (he : starEach (e :: es) X.env = (false, eval e X.env) :: starEach es X.env := by rfl) (hpl : (backTo pos (starEach es X.env)).any (·.1) = false := by rfl) :
    PE X (.Call (.Attribute (.Name x p1) "__init__" p2) (e :: es) [] pos) (tVeI X.K ta) := by
  constructor
  intro pins s σ H Q I h
  refine PySem.W.methodCall_KW (ld_glob I hg hm ?_ hdb) hc
  obtain ⟨m, fr⟩ := I.fr
  refine PySem.W.method_of_cls fr I.ok.mod.kin hsp (PySem.W.cls_val fr I.ok.mod.kin ht hr hF (by decide +kernel) ?_)
  show wpAny _ _ (callWith pos (Value.builtin "ValueError.__init__") [] (backTo pos (starEach (e :: es) X.env)) []) _ _ _
  refine PyProof.Rows.callWith_method1 (thn (ha.run pos pins _ σ H _ (I.tok _) h) (fun us s1 ⟨vs, H1, I1, r1, a, C, ws, ev, hl, T, ea, q⟩ => ?_)) he hpl
  subst ev
  cases r1 with
  | @cons _ u0 _ ur ra rw' =>
    cases (show u0 = Value.ref a from ra)
    exact oinit_ok T I1 ea (by rw [← Paired.length rw', sizeLine_eq]; omega) (fun s' J => ⟨.non, H1, J, rfl, q⟩)
end
end Ice
namespace Ice
open PySem PySem.Spec PyProof.Rows L2
/-! ### calls whose errors are wished for at the caller's slots -/
section
variable {X : Cx} {X0 : CXT} {k : Nat} {f C : Addr} {fd : FuncData} {ps : List Str} {sp : Sp} {dvs : List V} {ds : List Value} {E : L2.St → XK} {x m : Str} {p pos apos : Pos} {e o : Expr} {es : List Expr} {ta : TE} {t : TA}
def tCallE (sp : Sp) (dvs : List V) (E : L2.St → XK) (t : TA) : TE := fun σ H Q => t σ H fun vs H1 => sp (vs ++ dvs) H1 Q (E σ)
def tMakeE (C : Addr) (sp : Sp) (dvs : List V) (E : L2.St → XK) (t : TA) : TE := fun σ H Q => t σ H fun vs H1 => ∀ x dx, H1 x = none → H1 dx = none → dx ≠ x →
  sp (.ref x :: (vs ++ dvs)) (upd (upd H1 dx (.own x)) x (.ins C dx [])) (fun v H2 => v = .non ∧ Q (.ref x) H2) (E σ)
def tMethE (C : Addr) (m : Str) (sp : Sp) (dvs : List V) (E : L2.St → XK) (ta : TE) (t : TA) : TE := fun σ H Q => ta σ H fun x H1 => ∃ a dx fs, x = .ref a ∧ H1 a = some (.ins C dx fs) ∧ fs.lookup m = none ∧
  t σ H1 fun vs H2 => sp (x :: (vs ++ dvs)) H2 Q (E σ)
theorem run_ge {pins : List (Addr × Obj)} {σ : L2.St} {H : Hp} {s : Shared} {Q : VK} {us : List Value} {vs : List V} (F : FnG X.prog X.w X.K X.mg X.base X0 k f fd ps sp) (hr : Room k X.A) (hgd : X.A.guards = some [])
    (hb : Binds X.K fd ps ds) (hd : Vals dvs ds) (hx : PassesAt X0 X σ (E σ)) (I : Inv X pins σ H s) (r : Vals vs us) (h : sp (vs ++ dvs) H Q (E σ)) :
    wpAny (model X.prog X.w) X.A (call (.ref f) us) (EP X pins σ Q) X.xe s := by
  have r2 := Vals.append r hd
  have hl : (us ++ ds).length = ps.length := (Vals.length r2).symm.trans (F.len _ _ _ _ h)
  refine wpAny_call (codeAny_mono (F.run X.A X.stack s H ⟨us, []⟩ (us ++ ds) (vs ++ dvs) Q (E σ) hr hgd I.env0 (hb s us I.kIn hl) r2 h) (fun r s' hq => ?_))
  match r, hq with
  | .error e, hq => exact hx pins H s e s' I hq
  | .ok (.ret u), hq => exact I.after hq
  | .ok .next, hq => exact False.elim hq
  | .ok .brk, hq => exact False.elim hq
  | .ok .cont, hq => exact False.elim hq
theorem g_callE (F : FnG X.prog X.w X.K X.mg X.base X0 k f fd ps sp) (hr : Room k X.A) (hgd : X.A.guards = some []) (hg : Gl X x) (hm : X.mg x = some (.ref f)) (hk : PySem.W.keepIn X.K (.ref f) = true) (hb : Binds X.K fd ps ds) (hd : Vals dvs ds)
    (hx : ∀ σ, PassesAt X0 X σ (E σ)) (ha : PA X (e :: es) t) (hdb : (x == ("__debug__" : Str)) = false := by decide) (he : starEach (e :: es) X.env = (false, eval e X.env) :: starEach es X.env := by rfl)
    (hpl : (backTo pos (starEach es X.env)).any (·.1) = false := by rfl) : PE X (.Call (.Name x p) (e :: es) [] pos) (tCallE sp dvs E t) := by
  constructor
  intro pins s σ H Q I h
  refine wpAny_Call_Name_kw (ld_glob I hg hm (PySem.W.callWith_K (h₀ := X.base) I.ok.mod.kin hk ?_ he hpl) hdb)
  exact thn (ha.run pos pins s σ H _ I h) (fun us s1 ⟨vs, H1, I1, r, q⟩ => ⟨I1.kIn, run_ge F hr hgd hb hd (hx σ) I1 r q⟩)
theorem g_methE {pl : Sem Bool} (he : PE X o ta) (c : Cls X.K C) (hm : Meth X.K C m f) (F : FnG X.prog X.w X.K X.mg X.base X0 k f fd ps sp) (hr : Room k X.A) (hgd : X.A.guards = some []) (hb : Binds X.K fd ps ds) (hd : Vals dvs ds)
    (hx : ∀ σ, PassesAt X0 X σ (E σ)) (ha : PA X (e :: es) t) (hst : starEach (e :: es) X.env = (false, eval e X.env) :: starEach es X.env := by rfl) (hpl : (backTo pos (starEach es X.env)).any (·.1) = false := by rfl)
    (ht : eval (.Call (.Attribute o m apos) (e :: es) [] pos) X.env =
      (do let ov ← eval o X.env; standAt apos.atName; let (f, first) ← holding [ov] (getMethod ov m pl); callWith pos f first (backTo pos (starEach (e :: es) X.env)) (backToKw pos (keywordEach [] X.env))) := by rfl) :
    PE X (.Call (.Attribute o m apos) (e :: es) [] pos) (tMethE C m sp dvs E ta t) := by
  constructor
  intro pins s σ H Q I h
  refine PySem.W.methodCall_KW (pl := pl) (thn (he.run pins s σ H _ I h) (fun u s1 ⟨x, H1, I1, rx, a, dx, fs, ex, ea, l, q⟩ => ?_)) ht
  subst ex
  cases (show u = Value.ref a from rx)
  refine getmeth_ok I1 ea c hm l (PySem.W.callWith_K (first := [.ref a]) (h₀ := X.base) I.ok.mod.kin hm.kp ?_ hst hpl)
  exact thn (ha.run pos pins s1 σ H1 _ I1 q) (fun us s2 ⟨vs, H2, I2, r, q2⟩ => ⟨I2.kIn, run_ge (us := .ref a :: us) (vs := .ref a :: vs) F hr hgd hb hd (hx σ) I2 (.cons rfl r) q2⟩)
theorem run_mke {pins : List (Addr × Obj)} {σ : L2.St} {H : Hp} {s : Shared} {Q : VK} {us : List Value} {vs : List V} (M : Mk X.K C f) (F : FnG X.prog X.w X.K X.mg X.base X0 k f fd ps sp) (hr : Room (k + 1) X.A) (hgd : X.A.guards = some [])
    (hb : Binds X.K fd ps ds) (hd : Vals dvs ds) (hx : PassesAt X0 X σ (E σ)) (hx2 : ∀ {H2 : Hp} {e : Value} {s2 s' : Shared}, Inv X pins σ H2 s2 → X0 X.stack H2 s2 (E σ) e s' → X.xe e s') (I : Inv X pins σ H s) (r : Vals vs us)
    (h : ∀ x dx, H x = none → H dx = none → dx ≠ x → sp (.ref x :: (vs ++ dvs)) (upd (upd H dx (.own x)) x (.ins C dx [])) (fun v H2 => v = .non ∧ Q (.ref x) H2) (E σ)) :
    wpAny (model X.prog X.w) X.A (call (.ref C) us) (EP X pins σ Q) X.xe s := by
  have hq := h (s.heap.objs.size + 1) s.heap.objs.size (I.hok.fresh (Nat.le_succ _)) (I.hok.fresh (Nat.le_refl _)) (by simp)
  have I2 := Inv.made (C := C) I
  have r2 : Vals (V.ref (s.heap.objs.size + 1) :: (vs ++ dvs)) (Value.ref (s.heap.objs.size + 1) :: (us ++ ds)) := .cons rfl (Vals.append r hd)
  have hl : (Value.ref (s.heap.objs.size + 1) :: us ++ ds).length = ps.length := (Vals.length r2).symm.trans (F.len _ _ _ _ hq)
  have run := F.run _ X.stack _ _ ⟨Value.ref (s.heap.objs.size + 1) :: us, []⟩ (Value.ref (s.heap.objs.size + 1) :: (us ++ ds)) _ _ (E σ) (hr.make C us []) (make_guards hgd) (I2.env0.make C us [])
    (hb _ (Value.ref (s.heap.objs.size + 1) :: us) I2.kIn hl) r2 hq
  refine wpAny_call (make_map (f := f) I.kIn M.makes M.init (beq_iff_eq.mp M.fn) (codeAny_mono run (fun r s' hq' => ?_)))
  match r, hq' with
  | .error e, hq' => exact hx2 I2 hq'
  | .ok (.ret u), hq' =>
    obtain ⟨v, H', I3, rv, ev, q3⟩ := I2.after hq'
    subst ev
    exact ⟨rv, V.ref (s.heap.objs.size + 1), H', I3, rfl, q3⟩
  | .ok .next, hq' => exact False.elim hq'
  | .ok .brk, hq' => exact False.elim hq'
  | .ok .cont, hq' => exact False.elim hq'
theorem g_makeE (M : Mk X.K C f) (F : FnG X.prog X.w X.K X.mg X.base X0 k f fd ps sp) (hr : Room (k + 1) X.A) (hgd : X.A.guards = some []) (hg : Gl X x) (hm : X.mg x = some (.ref C)) (hb : Binds X.K fd ps ds) (hd : Vals dvs ds) (hx : ∀ σ, PassesAt X0 X σ (E σ))
    (ha : PA X (e :: es) t) (hdb : (x == ("__debug__" : Str)) = false := by decide) (he : starEach (e :: es) X.env = (false, eval e X.env) :: starEach es X.env := by rfl)
    (hpl : (backTo pos (starEach es X.env)).any (·.1) = false := by rfl) : PE X (.Call (.Name x p) (e :: es) [] pos) (tMakeE C sp dvs E t) := by
  constructor
  intro pins s σ H Q I h
  refine wpAny_Call_Name_kw (ld_glob I hg hm (PySem.W.callWith_K (h₀ := X.base) I.ok.mod.kin M.kp ?_ he hpl) hdb)
  exact thn (ha.run pos pins s σ H _ I h) (fun us s1 ⟨vs, H1, I1, r, q⟩ => ⟨I1.kIn, run_mke M F hr hgd hb hd (hx σ) (fun {H2 e s2 s'} J c => hx σ _ H2 s2 e s' J c) I1 r q⟩)
end
/-! ### an own error's __init__, and its raise -/
def spErr (K : PySem.W.Frag) (f : Str) : Sp := fun vs H Q _ => ∃ (a C : Addr) (v : V), vs = [.ref a, v] ∧ OexC K C ∧ PySem.W.findIn K (.ref C) f = some none ∧ H a = some (exo a C none) ∧
  ∀ dx, H dx = none → dx ≠ a → Q .non (upd (upd H dx (exd dx [(f, v)])) a (exo a C (some dx)))
section
variable {K : PySem.W.Frag} {σ : L2.St} {H : Hp} {Q : VK}
theorem i_mkE {C : Addr} {f : Str} {v : V} {W : XK} (T : OexC K C) (hf : PySem.W.findIn K (.ref C) f = some none) (q : ∀ d, H d = none → W (.ref C) (some d) (upd H d (.xd [(f, v)]))) :
    [v].length ≤ 1000 ∧ ∀ a, H a = none → spErr K f (.ref a :: ([v] ++ [])) (upd H a (exo a C none))
      (fun v H2 => v = .non ∧ ∃ (d : Addr) (fs : List (Str × V)), H2 a = some (exo a C (some d)) ∧ H2 d = some (exd d fs) ∧ H d = none ∧ W (.ref C) (some d) (upd (del H2 a) d (.xd fs))) (fun _ _ _ => False) := by
  refine ⟨by show 1 ≤ 1000; decide, fun a ha => ⟨a, C, v, rfl, T, hf, upd_same, fun dx hdx ne => ⟨rfl, dx, [(f, v)], upd_same, by rw [upd_ne ne, upd_same], freeU hdx, ?_⟩⟩⟩
  have e : upd (del (upd (upd (upd H a (exo a C none)) dx (exd dx [(f, v)])) a (exo a C (some dx))) a) dx (.xd [(f, v)]) = upd H dx (.xd [(f, v)]) := by
    funext b
    by_cases h1 : b = dx
    · rw [h1, upd_same, upd_same]
    · rw [upd_ne h1, upd_ne h1]
      by_cases h2 : b = a
      · rw [h2, del_same, ha]
      · rw [del_ne h2, upd_ne h2, upd_ne h1, upd_ne h2]
  rw [e]
  exact q dx (freeU hdx)
theorem i_kinit {ta : TA} (h : ta σ H fun vs H1 => ∃ (a C : Addr) (ws : List V), vs = .ref a :: ws ∧ ws.length ≤ 1000 ∧ OexC K C ∧ H1 a = some (exo a C none) ∧ Q .non H1) : tVeI K ta σ H Q := h
theorem i_ost {f : Str} {to te : TE} {D : Ends} (h : te σ H fun y H1 => to σ H1 fun x H2 => ∃ a C : Addr, x = .ref a ∧ OexC K C ∧ PySem.W.findIn K (.ref C) f = some none ∧
    ((H2 a = some (exo a C none) ∧ ∀ dx, H2 dx = none → dx ≠ a → D.nx σ (upd (upd H2 dx (exd dx [(f, y)])) a (exo a C (some dx)))) ∨
      ∃ (dx : Addr) (fs : List (Str × V)), H2 a = some (exo a C (some dx)) ∧ H2 dx = some (exd dx fs) ∧ fs.length ≤ 900 ∧ D.nx σ (upd H2 dx (exd dx ((f, y) :: fs))))) : tOst K f to te D σ H := h
theorem i_mkO {C : Addr} {sp : Sp} {dvs : List V} {ta : TA} {W : XK} (h : ta σ H fun vs H1 => vs.length ≤ 1000 ∧ ∀ a, H1 a = none → sp (.ref a :: (vs ++ dvs)) (upd H1 a (exo a C none))
    (fun v H2 => v = .non ∧ ∃ (d : Addr) (fs : List (Str × V)), H2 a = some (exo a C (some d)) ∧ H2 d = some (exd d fs) ∧ H1 d = none ∧ W (.ref C) (some d) (upd (del H2 a) d (.xd fs))) (fun _ _ _ => False)) : tMkO C sp dvs ta σ H W := h
theorem i_callE {sp : Sp} {dvs : List V} {E : L2.St → XK} {t : TA} (h : t σ H fun vs H1 => sp (vs ++ dvs) H1 Q (E σ)) : tCallE sp dvs E t σ H Q := h
theorem i_makeE {C : Addr} {sp : Sp} {dvs : List V} {E : L2.St → XK} {t : TA} (h : t σ H fun vs H1 => ∀ x dx, H1 x = none → H1 dx = none → dx ≠ x →
    sp (.ref x :: (vs ++ dvs)) (upd (upd H1 dx (.own x)) x (.ins C dx [])) (fun v H2 => v = .non ∧ Q (.ref x) H2) (E σ)) : tMakeE C sp dvs E t σ H Q := h
theorem i_xf {a C dd : Addr} {cls : Value} {f : Str} {te : TE} (h : te σ H fun x H1 => x = .ref a ∧ cls = .ref C ∧ ∃ (d' : Addr) (fs : List (Str × V)) (v : V), some dd = some d' ∧ H1 d' = some (.xd fs) ∧ fs.lookup f = some v ∧ Q v H1) : tXf a cls (some dd) C f te σ H Q := h
theorem i_sfld {ta tv : TE} {f : Str} {D : Ends} (h : tv σ H fun y H1 => ta σ H1 fun x H2 => ∃ a C dx fs, x = .ref a ∧ H2 a = some (.ins C dx fs) ∧ Cls K C ∧ NoAttr K C f ∧ fs.length < 1000 ∧ D.nx σ (upd H2 a (.ins C dx (putF f y fs)))) : sFld K ta tv f D σ H := h
end
end Ice
namespace Ice
open PySem PySem.Spec PyProof.Rows L2
theorem putF_new {f : Str} {v : V} : ∀ {fs : List (Str × V)}, f ∉ fs.map (·.1) → putF f v fs = fs ++ [(f, v)]
  | [], _ => rfl
  | (g, u) :: r, h => by
    have h1 : ¬ g = f := fun e => h (by rw [e]; exact List.mem_cons_self ..)
    have h2 : f ∉ r.map (·.1) := fun e => h (List.mem_cons_of_mem _ e)
    show (if g = f then (g, v) :: r else (g, u) :: putF f v r) = _
    rw [if_neg h1, putF_new h2]
    rfl
theorem i_store {K : PySem.W.Frag} {H : Hp} {x C dx : Addr} {fs : List (Str × V)} {f : Str} {y : V} {N : Hp → Prop} (hx : H x = some (.ins C dx fs)) (cl : Cls K C) (na : NoAttr K C f) (hl : fs.length ≤ 900) (hf : f ∉ fs.map (·.1))
    (q : N (upd H x (.ins C dx (fs ++ [(f, y)])))) : ∃ a C dx fs, V.ref x = .ref a ∧ H a = some (.ins C dx fs) ∧ Cls K C ∧ NoAttr K C f ∧ fs.length < 1000 ∧ N (upd H a (.ins C dx (putF f y fs))) :=
  ⟨x, C, dx, fs, rfl, hx, cl, na, by omega, by rw [putF_new hf]; exact q⟩
end Ice

set_option Elab.async false
set_option linter.all false
set_option maxRecDepth 100000
set_option maxHeartbeats 4000000
set_option autoImplicit false
/-! repr of rows of plain things; a thing compared with a text. -/
namespace Ice
open PySem PySem.Spec PyProof.Rows L2
/-- a plain thing whose repr is short -/
inductive Ps : V → PyData → Prop
  | non : Ps .non .none
  | bl (b : Bool) : Ps (.bl b) (.bool b)
  | int {i : Int} : i.natAbs < 10 ^ 60 → Ps (.int i) (.int i)
  | str {x : Str} : x.length ≤ 64 → (∀ c ∈ x.cps.toList, c < 128) → Ps (.str x) (.str x)
inductive PsAll : List V → List PyData → Prop
  | nil : PsAll [] []
  | cons {v : V} {vs : List V} {d : PyData} {ds : List PyData} : Ps v d → PsAll vs ds → PsAll (v :: vs) (d :: ds)
section
variable {K : PySem.W.Frag} {H : Hp}
theorem Ps.dp {v : V} {d : PyData} (h : Ps v d) : Dp K H v d := by
  cases h with
  | non => exact .non
  | bl b => exact .bl b
  | int _ => exact .int _
  | str _ _ => exact .str _
theorem Ps.show {v : V} {d : PyData} (h : Ps v d) : d.showable = true ∧ d.depth = 0 ∧ d.shown.length ≤ 650 := by
  cases h with
  | non => exact ⟨rfl, rfl, by decide +kernel⟩
  | bl b => exact ⟨rfl, rfl, by cases b <;> decide +kernel⟩
  | @int i h =>
    refine ⟨decide_eq_true (Nat.lt_trans (PySem.Flt.log2_lt_of (k := 200) (by decide) (Nat.lt_trans h (by decide))) (by decide)), rfl, ?_⟩
    have := int_text_length_le10 (a := i) (k := 60) (by decide) h
    show (Str.ofString (toString i)).length ≤ _
    rw [PySem.ofString_length]; omega
  | @str x h1 h2 =>
    have b := PySem.StrLaws.reprText_len x (fun c h => Nat.lt_trans (h2 c h) (by decide))
    refine ⟨rfl, rfl, ?_⟩
    show (reprText x).length ≤ _
    omega
theorem PsAll.dp : ∀ {vs : List V} {ds : List PyData}, PsAll vs ds → DpAll K H vs ds
  | _, _, .nil => .nil
  | _, _, .cons h t => .cons h.dp t.dp
theorem PsAll.show {vs : List V} {ds : List PyData} (h : PsAll vs ds) : PyData.showableAll ds = true ∧ PyData.depthAll ds = 0 ∧ ((PyData.shownAll ds).map (·.length)).sum ≤ 650 * ds.length ∧ (PyData.shownAll ds).length = ds.length := by
  induction h with
  | nil => exact ⟨rfl, rfl, by decide +kernel, rfl⟩
  | @cons v vs d ds h t ih =>
    obtain ⟨a1, a2, a3, a4⟩ := ih
    obtain ⟨b1, b2, b3⟩ := h.show
    refine ⟨?_, ?_, ?_, ?_⟩
    · show (d.showable && PyData.showableAll ds) = true
      rw [b1, a1]; rfl
    · show max d.depth (PyData.depthAll ds) = 0
      rw [b2, a2]; rfl
    · show ((d.shown :: PyData.shownAll ds).map (·.length)).sum ≤ _
      rw [List.map_cons, List.sum_cons, List.length_cons]
      omega
    · show (d.shown :: PyData.shownAll ds).length = _
      rw [List.length_cons, a4, List.length_cons]
theorem PsAll.len {vs : List V} {ds : List PyData} (h : PsAll vs ds) : ds.length = vs.length := by
  induction h with
  | nil => rfl
  | cons _ _ ih => rw [List.length_cons, List.length_cons, ih]
theorem Ps.rp {v : V} {d : PyData} (h : Ps v d) : Rp K H v d := by
  obtain ⟨b1, b2, b3⟩ := h.show
  exact ⟨.inl h.dp, b1, by omega, sz_of (by omega)⟩
theorem Rp.tupP {p : Addr} {vs : List V} {ds : List PyData} (hp : H p = some (.tup vs)) (h : PsAll vs ds) (hl : vs.length ≤ 20) : Rp K H (.ref p) (.tuple ds) := by
  obtain ⟨a1, a2, a3, a4⟩ := h.show
  have hl2 := h.len
  have b := PySem.tupleText_len_le (PyData.shownAll ds)
  refine ⟨.inl (.tup (SqT.tup hp) h.dp), a1, ?_, ?_⟩
  · show PyData.depthAll ds + 1 ≤ _
    omega
  · show (PySem.tupleText (PyData.shownAll ds)).length ≤ _
    exact sz_of (by omega)
theorem Rp.lstP {p : Addr} {vs : List V} {ds : List PyData} (hp : H p = some (.lst vs)) (h : PsAll vs ds) (hl : vs.length ≤ 20) : Rp K H (.ref p) (.list ds) := by
  obtain ⟨a1, a2, a3, a4⟩ := h.show
  have hl2 := h.len
  have b := PySem.listText_len_le (PyData.shownAll ds)
  refine ⟨.inl (.lst (SqL.lst hp) h.dp), a1, ?_, ?_⟩
  · show PyData.depthAll ds + 1 ≤ _
    omega
  · show (PySem.listText (PyData.shownAll ds)).length ≤ _
    exact sz_of (by omega)
theorem Rp.dct0 {p : Addr} (hp : H p = some (.dK [])) : Rp K H (.ref p) (.dict []) :=
  ⟨.inr (.dct (ds := []) hp .nil), rfl, by decide, by decide +kernel⟩
end
section
variable {P : Program} {w : World} {A : Around} {E : Value → Shared → Prop} {s : Shared}
theorem str_declines_dict (b : Str) (u : Tok) (l : Addr) (c : Value) (es : Array DictEntry) (n : Nat) (dd : Option Addr) (sl : Array (Option Value)) :
    Meets (Builtin.«str.__eq__» ⟨[.str b u, .ref l], []⟩) (fun _ R s => s.heap.get? l = some { cls := c, dict := dd, data := .dict es n, slots := sl } ∧ R (.ok (.ret .notImplemented)) s) :=
  .of_wp fun prog w A R s h => by obtain ⟨hp, g, d, tk, os⟩ := s; obtain ⟨hl, h⟩ := h; wp_walk using PySem.AutoSeq1.wpAny_loadPart' hl, wpAny_load hl; exact ⟨_, rfl, h⟩
theorem dict_eq_str {l : Addr} {b : Str} {u : Tok} {o : Obj} {es : Array DictEntry} {n : Nat} (ho : s.heap.get? l = some o) (hc : o.cls = .type "dict") (hd : o.data = .dict es n) (hu : A.units < cLine) {Q : Value → Shared → Prop} (h : Q (.bool false) s) :
    wpAny (model P w) A (compareOp .Eq (.ref l) (.str b u)) Q E s := by
  have ht : s.TypeIs (.ref l) "dict" := ⟨o, ho, hc⟩
  refine PySem.SeqAt.rc_eq_decline_or (k := false) ht (typeIs_str s b u) (by decide) PySem.F.sub_str_dict PySem.F.slot_dict_eq PySem.F.slot_str_eq_refl ?_ ?_ ?_ (.inr hu) h
  · intro Q' hq
    refine wpAny_call_entry PySem.F.slot_dict_eq ht PySem.F.entry_dict_eq ?_ (PySem.F.args_dict_eq_2 _ _)
    show wpAny _ _ (Builtin.Dict.dictSlotArgs "__eq__" ⟨[.ref l, .str b u], []⟩ >>= _) _ _ s
    refine wpAny_bind ?_
    unfold Builtin.Dict.dictSlotArgs
    refine wpAny_bind (wpAny_notOrdered_dict ht ?_)
    show wpAny _ _ (pure (Value.ref l, Value.str b u)) _ _ s
    refine wpAny_pure ?_
    refine wpAny_bind (wpAny_isInstance (T := "str") (typeIs_str s b u) PySem.F.sub_str_dict ?_)
    refine wpAny_bind (wpAny_rule ?_)
    exact wpAny_pure ⟨_, rfl, hq⟩
  · intro Q' hq
    obtain ⟨cls, dd, data, sl⟩ := o
    simp only at hc hd
    subst hc hd
    exact call_meets PySem.F.slot_str_eq_refl (typeIs_str s b u) PySem.F.entry_str_eq (PySem.F.args_str_eq_2 _ _) (str_declines_dict b u l (.type "dict") es n dd sl) ⟨ho, hq⟩
  · intro Q' hq
    exact wpAny_of_eq (rfl : isSame (.ref l) (.str b u) = pure false) hq
end
theorem strOk_asc {x : Str} (h : ∀ c ∈ x.cps.toList, c < 128) : PySem.PyData.strOk x = true := by
  show x.cps.all (· < 0x110000) = true
  rw [Array.all_eq_true']
  intro c hc
  have := h c (by simpa using hc)
  simp
  omega
theorem shaped_str {x : Str} (h : ∀ c ∈ x.cps.toList, c < 128) : SeqAt.shaped (.str x) = true := by
  show (PySem.PyData.strOk x && decide (0 ≤ 64)) = true
  rw [strOk_asc h]; rfl
theorem Ps.lay {v : V} {d : PyData} (h : Ps v d) : d.canLay0 = true := by
  cases h with
  | str h1 h2 => exact strOk_asc h2
  | _ => rfl
theorem PsAll.lay {vs : List V} {ds : List PyData} (h : PsAll vs ds) : PyData.canLayAll0 ds = true := by
  induction h with
  | nil => rfl
  | @cons v vs d ds h t ih =>
    show (d.canLay0 && PyData.canLayAll0 ds) = true
    rw [h.lay, ih]; rfl
theorem Ps.shaped {v : V} {d : PyData} (h : Ps v d) : SeqAt.shaped d = true := by
  show (d.canLay0 && decide (d.depth ≤ 64)) = true
  rw [h.lay, h.show.2.1]; rfl
theorem PsAll.shapedL {vs : List V} {ds : List PyData} (h : PsAll vs ds) : SeqAt.shaped (.list ds) = true := by
  show (PyData.canLayAll0 ds && decide (PyData.depthAll ds + 1 ≤ 64)) = true
  rw [h.lay, h.show.2.1]; rfl
theorem PsAll.shapedT {vs : List V} {ds : List PyData} (h : PsAll vs ds) : SeqAt.shaped (.tuple ds) = true := by
  show (PyData.canLayAll0 ds && decide (PyData.depthAll ds + 1 ≤ 64)) = true
  rw [h.lay, h.show.2.1]; rfl
/-- a thing that may be compared with a text -/
def Tq (K : PySem.W.Frag) (H : Hp) (v : V) : Prop := (∃ d, Dp K H v d ∧ SeqAt.shaped d = true) ∨ ∃ a kvs, v = .ref a ∧ H a = some (.dK kvs)
def rEqS (K : PySem.W.Frag) : R2 := fun x y H Q => ∃ s, y = .str s ∧ (∀ c ∈ s.cps.toList, c < 128) ∧ Tq K H x ∧ Q (.bl (decide (x = .str s))) H
theorem eqv_str {K : PySem.W.Frag} {H : Hp} {v : V} {d : PyData} {s : Str} (h : Dp K H v d) : PyData.eqv d (.str s) = decide (v = .str s) := by
  cases h with
  | str x =>
    show (x == s) = _
    by_cases e : x = s
    · subst e; simp
    · rw [decide_eq_false (fun z => e (by injection z))]
      exact beq_eq_false_iff_ne.mpr e
  | non => rfl
  | bl b => cases b <;> rfl
  | int i => rfl
  | lst _ _ => rfl
  | tup _ _ => rfl
section
variable {K : PySem.W.Frag} {H : Hp}
theorem Tq.ps {v : V} {d : PyData} (h : Ps v d) : Tq K H v := .inl ⟨d, h.dp, h.shaped⟩
theorem Tq.lst {p : Addr} {vs : List V} {ds : List PyData} (hp : H p = some (.lst vs)) (h : PsAll vs ds) : Tq K H (.ref p) := .inl ⟨_, .lst (SqL.lst hp) h.dp, h.shapedL⟩
theorem Tq.tup {p : Addr} {vs : List V} {ds : List PyData} (hp : H p = some (.tup vs)) (h : PsAll vs ds) : Tq K H (.ref p) := .inl ⟨_, .tup (SqT.tup hp) h.dp, h.shapedT⟩
theorem Tq.dct {p : Addr} {kvs : List (Key × V)} (hp : H p = some (.dK kvs)) : Tq K H (.ref p) := .inr ⟨_, _, rfl, hp⟩
theorem i_eqS {x : V} {z : Str} {Q : VK} (hz : ∀ c ∈ z.cps.toList, c < 128) (h : Tq K H x) (q : Q (.bl (decide (x = .str z))) H) : rEqS K x (.str z) H Q := ⟨z, rfl, hz, h, q⟩
end
section
variable {X : Cx}
theorem o_eqS (hu : X.A.units + 110 < cLine) : OpR X (compareOp .Eq) (rEqS X.K) := by
  intro pins s σ H x y v u Q I rx ry h
  obtain ⟨z, rfl, hz, hx, q⟩ := h
  rcases hx with ⟨d, hd, sd⟩ | ⟨a, kvs, rfl, ha⟩
  · refine op_eqD (by omega) pins s σ H x _ v u Q I rx ry ⟨d, .str z, hd, .str z, sd, shaped_str hz, ?_⟩
    rw [eqv_str hd]
    exact q
  · cases (show v = .ref a from rx)
    obtain ⟨t, rfl⟩ := (show ∃ t, u = .str z t from ry)
    obtain ⟨_, hn, us, rv, o, es, ep, e1, e2, e3, _, e4, _⟩ := I.hok a _ ha
    exact dict_eq_str e1 e2.1 e3 (by omega) ⟨.bl false, H, I, rfl, by rw [decide_eq_false (by intro z; cases z)] at q; exact q⟩
end
section
variable {K : PySem.W.Frag} {σ : L2.St} {H : Hp} {Q : VK}
theorem i_fld {ta : TE} {f : Str} (h : ta σ H fun x H1 => ∃ a C dx fs v, x = .ref a ∧ H1 a = some (.ins C dx fs) ∧ Cls K C ∧ NoAttr K C f ∧ fs.lookup f = some v ∧ Q v H1) : tFld K ta f σ H Q := h
theorem i_fld1 {x C dx : Addr} {fs : List (Str × V)} {f : Str} {v : V} (hx : H x = some (.ins C dx fs)) (cl : Cls K C) (na : NoAttr K C f) {B : V → Prop} (hl : fs.lookup f = some v) (q : B v) :
    ∃ a C dx fs v, V.ref x = .ref a ∧ H a = some (.ins C dx fs) ∧ Cls K C ∧ NoAttr K C f ∧ fs.lookup f = some v ∧ B v := ⟨x, C, dx, fs, v, rfl, hx, cl, na, hl, q⟩
end
theorem un110 {k : Nat} {A : Around} (hr : Room k A) : A.units + 110 < cLine := by have := hr.un; omega
theorem c_reprS {X : Cx} {a : Addr} {pn : List (Addr × Obj)} (hgd : X.A.guards = some []) (hu : X.A.units + 110 < cLine) : CallR (X.suite a pn) (.builtin "repr") (rRepr X.K) := c_repr (X := X.suite a pn) hgd hu
section
variable {K : PySem.W.Frag} {σ : L2.St} {H : Hp} {Q : VK}
theorem i_methE {C : Addr} {m : Str} {sp : Sp} {dvs : List V} {E : L2.St → XK} {ta : TE} {t : TA} (h : ta σ H fun x H1 => ∃ a dx fs, x = .ref a ∧ H1 a = some (.ins C dx fs) ∧ fs.lookup m = none ∧ t σ H1 fun vs H2 => sp (x :: (vs ++ dvs)) H2 Q (E σ)) : tMethE C m sp dvs E ta t σ H Q := h
theorem i_meth {C : Addr} {m : Str} {sp : Sp} {dvs : List V} {E : XK} {ta : TE} {t : TA} (h : ta σ H fun x H1 => ∃ a dx fs, x = .ref a ∧ H1 a = some (.ins C dx fs) ∧ fs.lookup m = none ∧ t σ H1 fun vs H2 => sp (x :: (vs ++ dvs)) H2 Q E) : tMeth C m sp dvs E ta t σ H Q := h
theorem i_make {C : Addr} {sp : Sp} {dvs : List V} {E : XK} {t : TA} (h : t σ H fun vs H1 => ∀ x dx, H1 x = none → H1 dx = none → dx ≠ x → sp (.ref x :: (vs ++ dvs)) (upd (upd H1 dx (.own x)) x (.ins C dx [])) (fun v H2 => v = .non ∧ Q (.ref x) H2) E) : tMake C sp dvs E t σ H Q := h
theorem i_obj {x C dx : Addr} {fs : List (Str × V)} {m : Str} {B : Prop} (hx : H x = some (.ins C dx fs)) (hl : fs.lookup m = none) (q : B) : ∃ a dx fs, V.ref x = .ref a ∧ H a = some (.ins C dx fs) ∧ fs.lookup m = none ∧ B := ⟨x, dx, fs, rfl, hx, hl, q⟩
end
section
variable {K : PySem.W.Frag} {σ : L2.St} {H : Hp} {D : Ends}
theorem i_runS {c : Value} {i : Nat} {ts : Addr → Value → Option Addr → TS} {a : Addr} {cls : Value} {d : Option Addr} (h : ts a cls d (goneE i D) (σ.set i (some (.ref a))) H) : (Hd.mk c (some i) ts).run a cls d D σ H := h
theorem i_runN {c : Value} {ts : Addr → Value → Option Addr → TS} {a : Addr} {cls : Value} {d : Option Addr} (h : ts a cls d D σ H) : (Hd.mk c none ts).run a cls d D σ H := h
theorem i_xf1 {a C dd : Addr} {fs : List (Str × V)} {f : Str} {v : V} {B : V → Prop} (hd : H dd = some (.xd fs)) (hl : fs.lookup f = some v) (q : B v) :
    V.ref a = .ref a ∧ Value.ref C = .ref C ∧ ∃ (d' : Addr) (fs : List (Str × V)) (v : V), some dd = some d' ∧ H d' = some (.xd fs) ∧ fs.lookup f = some v ∧ B v := ⟨rfl, rfl, dd, fs, v, rfl, hd, hl, q⟩
end
def rIntB : List V → Hp → VK → Prop := fun xs H Q => ∃ k, xs = [.bl k] ∧ Q (.int (if k then 1 else 0)) H
theorem c_intB {X : Cx} : CallR X (.type "int") rIntB := fun pins s σ H xs us Q I r h => call_int1 pins s σ H xs us Q I r (.inr h)
theorem i_intB {k : Bool} {H : Hp} {Q : VK} (q : Q (.int (if k then 1 else 0)) H) : rIntB [.bl k] H Q := ⟨k, rfl, q⟩
theorem i_glst {K : PySem.W.Frag} {n : Nat} {t : TGs} {a : Addr} {xs : List V} {σ : L2.St} {H : Hp} {Q : L2.St → Hp → Prop} (hS : SqL K H a xs) (hl : xs.length = n) (q : t xs σ H Q) : gLst K n t (.ref a) σ H Q := ⟨a, xs, rfl, hS, hl, q⟩
end Ice

set_option Elab.async false
set_option linter.all false
set_option maxRecDepth 100000
set_option maxHeartbeats 4000000
set_option autoImplicit false
/-! Base.__init__(self, ..) of an own class, where Base is an own class with an own __init__. -/
namespace Ice
open PySem PySem.Spec PyProof.Rows L2
section
variable {X : Cx} {X0 : CXT} {k : Nat} {f B : Addr} {fd : FuncData} {ps : List Str} {sp : Sp} {dvs : List V} {ds : List Value} {E : L2.St → XK} {x : Str} {p1 p2 pos : Pos} {e : Expr} {es : List Expr} {t : TA}
/-- what is known of a class whose __init__ is read of itself -/
structure Kin (K : PySem.W.Frag) (B f : Addr) : Prop where
  sp : PySem.W.specialIn K (.ref B) "__getattribute__" = some (some (.builtin "type.__getattribute__"))
  ty : PySem.W.typeIn K (.ref B) = some (.type "type")
  rd : PySem.W.readsIn K B (.type "type") = true
  fc : PySem.W.findCls K (.ref B) (.type "type") "__init__" = some (.val (.ref f))
  kp : PySem.W.keepIn K (.ref f) = true
theorem g_kinitE {pl : Sem Bool} (kin : Kin X.K B f) (F : FnG X.prog X.w X.K X.mg X.base X0 k f fd ps sp) (hr : Room k X.A) (hgd : X.A.guards = some []) (hg : Gl X x) (hm : X.mg x = some (.ref B)) (hb : Binds X.K fd ps ds) (hd : Vals dvs ds)
    (hx : ∀ σ, PassesAt X0 X σ (E σ)) (ha : PA X (e :: es) t) (hdb : (x == ("__debug__" : Str)) = false := by decide)
    (hc : eval (.Call (.Attribute (.Name x p1) "__init__" p2) (e :: es) [] pos) X.env =
      (do let ov ← eval (.Name x p1) X.env; standAt p2.atName; let (f, first) ← holding [ov] (getMethod ov "__init__" pl); callWith pos f first (backTo pos (starEach (e :: es) X.env)) (backToKw pos (keywordEach [] X.env))) := by rfl)
    (he : starEach (e :: es) X.env = (false, eval e X.env) :: starEach es X.env := by rfl) (hpl : (backTo pos (starEach es X.env)).any (·.1) = false := by rfl) :
    PE X (.Call (.Attribute (.Name x p1) "__init__" p2) (e :: es) [] pos) (tCallE sp dvs E t) := by
  constructor
  intro pins s σ H Q I h
  refine PySem.W.methodCall_KW (ld_glob I hg hm ?_ hdb) hc
  obtain ⟨m, fr⟩ := I.fr
  refine PySem.W.method_of_cls fr I.ok.mod.kin kin.sp (PySem.W.cls_val fr I.ok.mod.kin kin.ty kin.rd kin.fc (by rfl) ?_)
  show wpAny _ _ (callWith pos (Value.ref f) [] (backTo pos (starEach (e :: es) X.env)) []) _ _ _
  refine PySem.W.callWith_K (h₀ := X.base) I.ok.mod.kin kin.kp ?_ he hpl
  exact thn (ha.run pos pins _ σ H _ (I.tok _) h) (fun us s1 ⟨vs, H1, I1, r, q⟩ => ⟨I1.kIn, run_ge F hr hgd hb hd (hx σ) I1 r q⟩)
end
end Ice

set_option Elab.async false
set_option linter.all false
set_option maxRecDepth 100000
set_option maxHeartbeats 4000000
set_option autoImplicit false
/-! things that equal themselves; one expression read in two ways. -/
namespace Ice
open PySem PySem.Spec PyProof.Rows L2 SeqAt
/-- one reading or another -/
def tAlt (t1 t2 : TE) : TE := fun σ H Q => t1 σ H Q ∨ t2 σ H Q
theorem pe_alt {X : Cx} {e : Expr} {t1 t2 : TE} (h1 : PE X e t1) (h2 : PE X e t2) : PE X e (tAlt t1 t2) :=
  ⟨fun pins s σ H Q I h => h.elim (h1.run pins s σ H Q I) (h2.run pins s σ H Q I)⟩
theorem i_altL {t1 t2 : TE} {σ : L2.St} {H : Hp} {Q : VK} (h : t1 σ H Q) : tAlt t1 t2 σ H Q := .inl h
theorem i_altR {t1 t2 : TE} {σ : L2.St} {H : Hp} {Q : VK} (h : t2 σ H Q) : tAlt t1 t2 σ H Q := .inr h
theorem i_aug {i : Nat} {te : TE} {ti : TIp} {D : Ends} {σ : L2.St} {H : Hp} {x : V} (hx : σ[i]? = some (some x)) (h : te σ H fun y H1 => ti x y H1 fun z H2 => D.nx (σ.set i (some z)) H2) : tAug i te ti D σ H := ⟨x, hx, h⟩
theorem i_ipI {f : Int → Int → Int} {i j : Int} {H : Hp} {Q : VK} (q : Q (.int (f i j)) H) : ipI f (.int i) (.int j) H Q := ⟨i, j, rfl, rfl, q⟩
theorem ps_alt {X : Cx} {st : Stmt} {t1 t2 : TS} (h1 : PS X st t1) (h2 : PS X st t2) : PS X st (fun D σ H => t1 D σ H ∨ t2 D σ H) :=
  ⟨fun pins s σ H D I h => h.elim (h1.run pins s σ H D I) (h2.run pins s σ H D I)⟩
/-- rules within a comprehension: their readings may not name its frame -/
theorem pe_fldB {X : Cx} {s : Shared} {H : Hp} {scope : Scope} {env : Env} {fp : List Addr} {e : Expr} {te : TE} {f : Str} {pos : Pos} (he : PE (X.blk s H scope env fp) e te) (hb : attributeBase e f env (eval e env) = eval e env := by rfl) : PE (X.blk s H scope env fp) (.Attribute e f pos) (tFld X.K te f) := pe_fld he hb
/-- an item that is the same on both sides -/
def It1 (v : V) : Prop := (∃ b, v = .ref b) ∨ ∃ d, Ps v d
theorem eqAt_item {A : Around} {s : Shared} {v : V} {u u' : Value} (h : It1 v) (r : RelV v u) (r' : RelV v u') : EqAt A s u u' true := by
  rcases h with ⟨b, rfl⟩ | ⟨d, h⟩
  · cases (show u = .ref b from r)
    cases (show u' = .ref b from r')
    exact EqAt.same _
  · cases h with
    | non =>
      cases (show u = .none from r)
      cases (show u' = .none from r')
      exact EqAt.same _
    | bl b =>
      cases (show u = .bool b from r)
      cases (show u' = .bool b from r')
      exact EqAt.same _
    | @int i _ =>
      obtain ⟨t, rfl⟩ := (show ∃ t, u = .int i t from r)
      obtain ⟨t', rfl⟩ := (show ∃ t, u' = .int i t from r')
      have := (MeetsSeq.EqGives.int i i t t').at A s
      rwa [show (i == i) = true by simp] at this
    | @str x _ _ =>
      obtain ⟨t, rfl⟩ := (show ∃ t, u = .str x t from r)
      obtain ⟨t', rfl⟩ := (show ∃ t, u' = .str x t from r')
      have := (SeqRoads2.EqGives.str x x t t').at A s
      rwa [show (x.cps.toList == x.cps.toList) = true by simp] at this
theorem eqAt_items {A : Around} {s : Shared} {vs : List V} {as bs : List Value} (h : ∀ v ∈ vs, It1 v) (ra : Vals vs as) (rb : Vals vs bs) (j : Nat) (h1 : j < as.toArray.size) (h2 : j < bs.toArray.size) : EqAt A s as.toArray[j] bs.toArray[j] true := by
  have l1 : vs.length = as.length := ra.length
  have hj : j < vs.length := by rw [l1]; simpa using h1
  obtain ⟨u, hu, ru⟩ := ra.get (List.getElem?_eq_getElem hj)
  obtain ⟨u2, hu2, ru2⟩ := rb.get (List.getElem?_eq_getElem hj)
  have e1 : as.toArray[j] = u := by
    have : as[j]? = some as.toArray[j] := by simp
    exact Option.some.inj (this.symm.trans hu)
  have e2 : bs.toArray[j] = u2 := by
    have : bs[j]? = some bs.toArray[j] := by simp
    exact Option.some.inj (this.symm.trans hu2)
  rw [e1, e2]
  exact eqAt_item (h _ (List.getElem_mem hj)) ru ru2
theorem all_true (n : Nat) : ((List.range n).all fun _ => true) = true := by simp
/-- two lists of the same items -/
def rEqSm (K : PySem.W.Frag) : R2 := fun x y H Q => ∃ a b vs, x = .ref a ∧ y = .ref b ∧ SqL K H a vs ∧ SqL K H b vs ∧ (∀ v ∈ vs, It1 v) ∧ Q (.bl true) H
def rNeSm (K : PySem.W.Frag) : R2 := fun x y H Q => ∃ a b vs, x = .ref a ∧ y = .ref b ∧ SqL K H a vs ∧ SqL K H b vs ∧ (∀ v ∈ vs, It1 v) ∧ Q (.bl false) H
section
variable {X : Cx}
theorem op_neSm (hu : X.A.units + 64 < cLine) : OpR X (compareOp .NotEq) (rNeSm X.K) := by
  intro pins s σ H x y v u Q I rx ry h
  obtain ⟨a, b, vs, rfl, rfl, ha, hb, hv, q⟩ := h
  cases (show v = .ref a from rx)
  cases (show u = .ref b from ry)
  obtain ⟨as, ra, p1, _⟩ := I.list ha
  obtain ⟨bs, rb, p2, _⟩ := I.list hb
  have hsz : as.toArray.size = bs.toArray.size := by
    have l1 := ra.length; have l2 := rb.length
    simp; omega
  have z := RcNeAt.lists (A := X.A) (e := fun _ => true) p1.isList p2.isList hsz (by omega) (fun j h1 h2 => eqAt_items hv ra rb j h1 h2)
  rw [all_true] at z
  exact z X.prog X.w X.xe _ ⟨.bl false, H, I, rfl, q⟩
end
/-- what equals itself -/
inductive Self (K : PySem.W.Frag) (H : Hp) : V → Prop
  | ps {v : V} {d : PyData} : Ps v d → Self K H v
  | lst {a : Addr} {vs : List V} : SqL K H a vs → (∀ v ∈ vs, It1 v) → Self K H (.ref a)
  | tup {a : Addr} {vs : List V} : SqT K H a vs → (∀ v ∈ vs, It1 v) → Self K H (.ref a)
  | dct {a : Addr} : H a = some (.dK []) → Self K H (.ref a)
  | ins {a C dx : Addr} {fs : List (Str × V)} : H a = some (.ins C dx fs) → PySem.W.mroIn K C (.type "object") = some true → PySem.W.findIn K (.ref C) "__eq__" = some (some (.builtin "object.__eq__")) → Self K H (.ref a)
section
variable {M : Model} {prog : Program} {w : World} {A : Around} {E : Value → Shared → Prop} {s : Shared} {K : PySem.W.Frag} {x C : Addr} {ox : Obj} {od : Option Obj}
theorem rc_self (hu : A.units < cLine) (X : K.In s.heap) (I : PySem.W.InstAt s.heap x ox C od) (hm : PySem.W.mroIn K C (.type "object") = some true) (hs : PySem.W.findIn K (.ref C) "__eq__" = some (some (.builtin "object.__eq__"))) :
    RcAt A s (.ref x) (.ref x) true := fun prog w E Q h => by
  have one : ∀ {E : Value → Shared → Prop}, wpAny (model prog w) A (tryCompare (.ref x) "__eq__" (.ref x)) (fun r s' => r = some (.bool true) ∧ s' = s) E s := by
    intro E
    unfold tryCompare
    refine wpAny_bind (HN.ifBound_objEq X I hs ?_)
    exact wpAny_call (codeAny_call_builtin F.cmp_object.eq.plain F.cmpEntry_eq (PySem.W.check_slot F.cmpKind_eq F.cmpSplit_eq (I.type.andThen (PySem.W.looks_mroIn X hm)) (F.cmpArgs_eq _ _) (PySem.objEq_entry_same (wpAny_pure ⟨rfl, rfl⟩))))
  simp only [richCompare, cmpInfo_Eq, oneThing_ref]
  refine wpAny_holding (wpAny_bind (wpAny_cRoomFor hu ?_))
  refine wpAny_bind (I.type.here ?_)
  refine wpAny_bind (I.type.here ?_)
  rw [if_neg (by simp)]
  refine wpAny_bind (m := tryCompare (.ref x) _ (.ref x)) (wpAny_mono one (fun r s1 z => ?_) fun _ _ e => e)
  obtain ⟨z1, z2⟩ := z
  subst z1
  subst z2
  exact wpAny_pure h
end
/-- x == y where both are one thing, or alike plain ones -/
def rEqSf (K : PySem.W.Frag) : R2 := fun x y H Q => x = y ∧ Self K H x ∧ Q (.bl true) H
section
variable {X : Cx}
theorem op_eqSf (hu : X.A.units + 64 < cLine) : OpR X (compareOp .Eq) (rEqSf X.K) := by
  intro pins s σ H x y v u Q I rx ry h
  obtain ⟨rfl, hs, q⟩ := h
  cases hs with
  | @ps v d h =>
    refine op_eqD hu pins s σ H x x _ _ Q I rx ry ⟨d, d, h.dp, h.dp, h.shaped, h.shaped, ?_⟩
    rw [SeqAt.eqv_refl _ h.lay]
    exact q
  | @lst a vs ha hv =>
    cases (show v = .ref a from rx)
    cases (show u = .ref a from ry)
    obtain ⟨as, ra, p1, _⟩ := I.list ha
    have z := RcAt.lists (A := X.A) (e := fun _ => true) p1.isList p1.isList rfl (by omega) (fun j h1 h2 => eqAt_items hv ra ra j h1 h2)
    rw [all_true] at z
    exact z X.prog X.w X.xe _ ⟨.bl true, H, I, rfl, q⟩
  | @tup a vs ha hv =>
    cases (show v = .ref a from rx)
    cases (show u = .ref a from ry)
    obtain ⟨as, ra, p1, _⟩ := I.tuple ha
    have p2 : s.heap.IsTuple a as.toArray := p1
    have z := RcAt.tuples (A := X.A) (e := fun _ => true) p2 p2 (by omega) (fun j h1 h2 => eqAt_items hv ra ra j h1 h2)
    rw [all_true] at z
    simp only [beq_self_eq_true, Bool.and_self] at z
    exact z X.prog X.w X.xe _ ⟨.bl true, H, I, rfl, q⟩
  | @dct a ha =>
    cases (show v = .ref a from rx)
    cases (show u = .ref a from ry)
    obtain ⟨_, hn, vs, kv, hm⟩ := dk_of I.hok ha
    have : vs = [] := by cases kv; rfl
    subst this
    refine PySem.W.eq_dictsT (e := fun _ => true) hn hn hm hm (n := 0) (fun k v y h => by cases h) (by omega) ?_
    exact ⟨.bl true, H, I, rfl, q⟩
  | @ins a C dx fs ha hm he =>
    cases (show v = .ref a from rx)
    cases (show u = .ref a from ry)
    obtain ⟨mA, O, _⟩ := ins_get I.hok ha
    obtain ⟨od, J, _⟩ := O.look
    exact rc_self (by omega) I.kIn J hm he X.prog X.w X.xe _ ⟨.bl true, H, I, rfl, q⟩
end
end Ice

set_option Elab.async false
set_option linter.all false
set_option maxRecDepth 100000
set_option maxHeartbeats 4000000
set_option autoImplicit false
/-! readings of dicts, step by step. -/
namespace Ice
open PySem PySem.Spec PyProof.Rows L2
section
variable {σ : L2.St} {H : Hp} {Q : VK} {td ty tx tv : TE} {D : Ends}
theorem i_dget (h : td σ H fun x H1 => ty σ H1 fun y H2 => ∃ a v, x = .ref a ∧ DGet H2 a y (some v) ∧ Q v H2) : tDGet td ty σ H Q := h
theorem i_dget1 (h : td σ H fun x H1 => ∃ a, x = .ref a ∧ IsD H1 a ∧ ty σ H1 fun y H2 => ∃ o, DGet H2 a y o ∧ Q (o.getD .non) H2) : tDGet1 td ty σ H Q := h
theorem i_dget2 (h : td σ H fun x H1 => ∃ a, x = .ref a ∧ IsD H1 a ∧ ty σ H1 fun y H2 => tx σ H2 fun z H3 => ∃ o, DGet H3 a y o ∧ Q (o.getD z) H3) : tDGet2 td ty tx σ H Q := h
theorem i_dput (h : tv σ H fun v H1 => td σ H1 fun x H2 => ty σ H2 fun y H3 => ∃ a H4, x = .ref a ∧ DPut H3 a y v H4 ∧ D.nx σ H4) : sDPut td ty tv D σ H := h
theorem i_lockE {t : TE} (h : ∃ d u, H d = some u ∧ Mut (some u) ∧ ∀ od, t σ (upd H d (.frz od u)) fun v H' => H' d = some (.frz od u) ∧ Q v (upd H' d u)) : tLockE t σ H Q := h
theorem i_keysV {i : Nat} {d : Addr} {o : Obj} {kvs : List (Key × V)} {R : It → Hp → Prop} (h1 : σ[i]? = some (some (.ref d))) (h2 : H d = some (.frz o (.dK kvs))) (q : R (Itk d o kvs) H) : iKeys (tVar i) σ H R := ⟨_, h1, d, o, rfl, .inl ⟨kvs, h2, q⟩⟩
theorem i_din (h : ty σ H fun y H1 => td σ H1 fun x H2 => ∃ a o, x = .ref a ∧ DGet H2 a y o ∧ Q (.bl o.isSome) H2) : tDIn ty td σ H Q := h
theorem isD {a : Addr} {kvs : List (Key × V)} (h : H a = some (.dK kvs)) : IsD H a := .inl ⟨kvs, .inl h⟩
theorem i_isD {a : Addr} {kvs : List (Key × V)} {B : Prop} (h : H a = some (.dK kvs)) (q : B) : ∃ a', V.ref a = .ref a' ∧ IsD H a' ∧ (a' = a → B) := ⟨a, rfl, isD h, fun _ => q⟩
theorem dgetI {a : Addr} {kvs : List (Key × V)} {i : Int} {o : Option V} (h : H a = some (.dK kvs)) (e : valV kvs (Sum.inl i) = o) : DGet H a (.int i) o := by rw [← e]; exact DGet.k (k := Sum.inl i) h
theorem dgetS {a : Addr} {kvs : List (Key × V)} {x : Str} {o : Option V} (h : H a = some (.dK kvs)) (e : valV kvs (Sum.inr x) = o) : DGet H a (.str x) o := by rw [← e]; exact DGet.k (k := Sum.inr x) h
theorem dgetF {a : Addr} {kvs : List (Key × V)} {od : Obj} {i : Int} {o : Option V} (h : H a = some (.frz od (.dK kvs))) (e : valV kvs (Sum.inl i) = o) : DGet H a (.int i) o := by rw [← e]; exact .inl ⟨kvs, Sum.inl i, .inr ⟨_, h⟩, rfl, rfl⟩
theorem mutK {kvs : List (Key × V)} : Mut (some (HO.dK kvs)) := by first | exact True.intro | trivial
end
end Ice

set_option Elab.async false
set_option linter.all false
set_option maxRecDepth 100000
set_option maxHeartbeats 4000000
set_option autoImplicit false
/-! What is a list or a tuple; comprehensions that only add to the heap. -/
namespace Ice
open PySem PySem.Spec PyProof.Rows L2
def SqS (K : PySem.W.Frag) (H : Hp) (a : Addr) (xs : List V) : Prop := SqL K H a xs ∨ SqT K H a xs
theorem SqT.but {K : PySem.W.Frag} {b : Addr} {H H' : Hp} {a : Addr} {xs : List V} (e : But b H H') (n : a ≠ b) (h : SqT K H a xs) : SqT K H' a xs := by
  rcases h with (h | ⟨o, h⟩) | h
  · exact .inl (.inl (e _ _ n h))
  · exact .inl (.inr ⟨o, e _ _ n h⟩)
  · exact .inr h
theorem SqS.but {K : PySem.W.Frag} {b : Addr} {H H' : Hp} {a : Addr} {xs : List V} (e : But b H H') (n : a ≠ b) (h : SqS K H a xs) : SqS K H' a xs := h.elim (fun h => .inl (SqL.but e n h)) (fun h => .inr (SqT.but e n h))
theorem SqS.same {K : PySem.W.Frag} {H H' : Hp} {a : Addr} {xs : List V} (e : Same H H') (h : SqS K H a xs) : SqS K H' a xs := h.elim (fun h => .inl (L2.Same.seq e h)) (fun h => .inr (SqT.same e h))
theorem SqS.lst {K : PySem.W.Frag} {H : Hp} {a : Addr} {xs : List V} (h : H a = some (.lst xs)) : SqS K H a xs := .inl (SqL.lst h)
theorem SqS.tup {K : PySem.W.Frag} {H : Hp} {a : Addr} {xs : List V} (h : H a = some (.tup xs)) : SqS K H a xs := .inr (SqT.tup h)
/-- what was in the heap at a is there -/
def Kep (H H' : Hp) (a : Addr) : Prop := ∀ o, H a = some o → H' a = some o
theorem SqL.kep {K : PySem.W.Frag} {H H' : Hp} {a : Addr} {xs : List V} (e : Kep H H' a) (h : SqL K H a xs) : SqL K H' a xs := by
  rcases h with (h | ⟨o, h⟩) | h
  · exact .inl (.inl (e _ h))
  · exact .inl (.inr ⟨o, e _ h⟩)
  · exact .inr h
theorem SqT.kep {K : PySem.W.Frag} {H H' : Hp} {a : Addr} {xs : List V} (e : Kep H H' a) (h : SqT K H a xs) : SqT K H' a xs := by
  rcases h with (h | ⟨o, h⟩) | h
  · exact .inl (.inl (e _ h))
  · exact .inl (.inr ⟨o, e _ h⟩)
  · exact .inr h
/-- an iteration over a list or a tuple -/
def iSeq (K : PySem.W.Frag) (tl : TE) : TI := fun σ H R => tl σ H fun x H1 => ∃ a, x = .ref a ∧ (((∃ xs, SqL K H1 a xs) ∧ R (Itl K a) H1) ∨ ((∃ xs, SqT K H1 a xs) ∧ R (Itt K a) H1))
theorem pi_seq {X : Cx} {tg l : Expr} {tl : TE} (hl : PE X l tl) : PI X tg l (iSeq X.K tl) := by
  refine ⟨fun pins s σ H R I h => ?_⟩
  refine thn (hl.run pins s σ H _ I h) fun v s1 ⟨x, H1, I1, r1, q1⟩ => ?_
  obtain ⟨a, e, q⟩ := q1
  subst e
  cases r1
  rcases q with ⟨⟨xs, hq⟩, q⟩ | ⟨⟨xs, hq⟩, q⟩
  · obtain ⟨its, rv, p, hz⟩ := I1.list hq
    refine wpAny_pyIter_list p.isList ?_
    refine ⟨s1.heap.objs.size, [s1.heap.objs.size], _, _, H1, rfl, I1.kept (t' := s1.toks) fun b o e => Heap.get?_push_of_some _ e, turn_list a _, ⟨_, Heap.get?_push_size _ rfl, rfl, rfl⟩, fun b hb => ?_, q⟩
    have e : b = s1.heap.objs.size := by simpa using hb
    subst e
    exact I1.fpOk (Nat.le_refl _) (I1.hok.fresh (Nat.le_refl _))
  · obtain ⟨its, rv, p, hz⟩ := I1.tuple hq
    refine wpAny_pyIter_tuple (show s1.heap.IsTuple a its.toArray from p) ?_
    refine ⟨s1.heap.objs.size, [s1.heap.objs.size], _, _, H1, rfl, I1.kept (t' := s1.toks) fun b o e => Heap.get?_push_of_some _ e, turn_tuple a _, ⟨_, Heap.get?_push_size _ rfl, rfl, rfl⟩, fun b hb => ?_, q⟩
    have e : b = s1.heap.objs.size := by simpa using hb
    subst e
    exact I1.fpOk (Nat.le_refl _) (I1.hok.fresh (Nat.le_refl _))
theorem i_iseq {K : PySem.W.Frag} {te : TE} {σ : L2.St} {H : Hp} {R : It → Hp → Prop} (h : te σ H fun x H1 => ∃ a, x = .ref a ∧ (((∃ xs, SqL K H1 a xs) ∧ R (Itl K a) H1) ∨ ((∃ xs, SqT K H1 a xs) ∧ R (Itt K a) H1))) : iSeq K te σ H R := h
/-- a for over a list or a tuple -/
theorem for_seq {K : PySem.W.Frag} {a : Addr} {xs : List V} {g : TG} {tb : TS} {D : Ends} {σ : L2.St} {H : Hp} (hS : SqS K H a xs) (Pv : Nat → L2.St → Hp → Prop) (h0 : Pv 0 σ H) (hl : ∀ i σ' H', i ≤ xs.length → Pv i σ' H' → Kep H H' a)
    (hs : ∀ i x σ H, xs[i]? = some x → Pv i σ H → g x σ H fun σ2 H2 => tb { D with nx := Pv (i + 1), ct := Pv (i + 1), bk := D.nx } σ2 H2) (hd : ∀ σ H, Pv xs.length σ H → D.nx σ H) :
    ∃ a', V.ref a = .ref a' ∧ (((∃ xs, SqL K H a' xs) ∧ ∃ W : Nat → Nat → L2.St → Hp → Prop, (∃ m, W 0 m σ H) ∧ ∀ i m σ H, W i m σ H →
      ((Itl K a').stop i H ∧ D.nx σ H) ∨ ((Itl K a').go i H ∧ ∃ N : L2.St → Hp → Prop, (∀ σ' H', N σ' H' → ∃ m', m' < m ∧ W (i + 1) m' σ' H') ∧ ∀ x H', (Itl K a').yld i H x H' → g x σ H' fun σ2 H2 => tb { D with nx := N, ct := N, bk := D.nx } σ2 H2)) ∨
     ((∃ xs, SqT K H a' xs) ∧ ∃ W : Nat → Nat → L2.St → Hp → Prop, (∃ m, W 0 m σ H) ∧ ∀ i m σ H, W i m σ H →
      ((Itt K a').stop i H ∧ D.nx σ H) ∨ ((Itt K a').go i H ∧ ∃ N : L2.St → Hp → Prop, (∀ σ' H', N σ' H' → ∃ m', m' < m ∧ W (i + 1) m' σ' H') ∧ ∀ x H', (Itt K a').yld i H x H' → g x σ H' fun σ2 H2 => tb { D with nx := N, ct := N, bk := D.nx } σ2 H2))) := by
  refine ⟨a, rfl, ?_⟩
  rcases hS with h | h
  · exact .inl ⟨⟨xs, h⟩, for_list Pv h0 (fun i σ' H' hi p => SqL.kep (hl i σ' H' hi p) h) hs hd⟩
  · exact .inr ⟨⟨xs, h⟩, for_tup Pv h0 (fun i σ' H' hi p => SqT.kep (hl i σ' H' hi p) h) hs hd⟩
theorem for_listK {K : PySem.W.Frag} {a : Addr} {xs : List V} {g : TG} {tb : TS} {D : Ends} {σ : L2.St} {H : Hp} (hS : SqL K H a xs) (Pv : Nat → L2.St → Hp → Prop) (h0 : Pv 0 σ H) (hl : ∀ i σ' H', i ≤ xs.length → Pv i σ' H' → Kep H H' a)
    (hs : ∀ i x σ H, xs[i]? = some x → Pv i σ H → g x σ H fun σ2 H2 => tb { D with nx := Pv (i + 1), ct := Pv (i + 1), bk := D.nx } σ2 H2) (hd : ∀ σ H, Pv xs.length σ H → D.nx σ H) :
    ∃ a', V.ref a = .ref a' ∧ (∃ xs, SqL K H a' xs) ∧ ∃ W : Nat → Nat → L2.St → Hp → Prop, (∃ m, W 0 m σ H) ∧ ∀ i m σ H, W i m σ H →
      ((Itl K a').stop i H ∧ D.nx σ H) ∨ ((Itl K a').go i H ∧ ∃ N : L2.St → Hp → Prop, (∀ σ' H', N σ' H' → ∃ m', m' < m ∧ W (i + 1) m' σ' H') ∧ ∀ x H', (Itl K a').yld i H x H' → g x σ H' fun σ2 H2 => tb { D with nx := N, ct := N, bk := D.nx } σ2 H2) :=
  ⟨a, rfl, ⟨xs, hS⟩, for_list Pv h0 (fun i σ' H' hi p => SqL.kep (hl i σ' H' hi p) hS) hs hd⟩
/-- the list of what stands so far -/
def gath (os : List (Option V)) : List V := os.filterMap id
theorem gath_snoc {os : List (Option V)} {i : Nat} {o : Option V} (h : os[i]? = some o) : gath (os.take (i + 1)) = gath (os.take i) ++ o.toList := by
  unfold gath
  rw [List.take_add_one, h, List.filterMap_append]
  cases o <;> rfl
theorem gath_len (os : List (Option V)) : (gath os).length ≤ os.length := List.length_filterMap_le _ _
theorem gath_some (ys : List V) : gath (ys.map some) = ys := by
  unfold gath
  induction ys with
  | nil => rfl
  | cons y r ih => simp only [List.map_cons, List.filterMap_cons_some (f := id) (a := some y) rfl, ih]
section
variable {K : PySem.W.Frag} {a : Addr} {xs : List V} {g : TG} {tt : TT} {te : TE} {vs : List Nat} {σ : L2.St} {H1 : Hp} {Q : Addr → Hp → Prop}
theorem lc_gathL (hS : SqL K H1 a xs) (os : List (Option V)) (hl : os.length = xs.length) (hz : xs.length < sizeLine)
    (hs : ∀ (i : Nat) (x : V) (o : Option V) (H' : Hp) (NY : VK) (NN : Hp → Prop), xs[i]? = some x → os[i]? = some o → Same H1 H' → (∀ y H4, o = some y → Same H' H4 → NY y H4) → (∀ H3, o = none → Same H' H3 → NN H3) →
      g x (wipe σ vs) H' (fun σ2 H2 => wipe σ2 vs = wipe σ vs ∧ tt σ2 H2 fun b H3 => if b = true then te σ2 H3 NY else NN H3))
    (hd : ∀ D H', H1 D = none → Same H1 H' → H' D = some (.lst (gath os)) → Q D H') {D : Addr} (hD : H1 D = none) :
    ∃ W : Nat → Nat → Hp → Prop, (∃ m, W 0 m (upd H1 D (.lst []))) ∧ ∀ i m H, W i m H →
      ((Itl K a).stop i H ∧ Q D H) ∨ ((Itl K a).go i H ∧ ∃ Nx : Hp → Prop, (∀ H', Nx H' → ∃ m', m' < m ∧ W (i + 1) m' H') ∧ ∀ x H', (Itl K a).yld i H x H' → g x (wipe σ vs) H' fun σ2 H2 => wipe σ2 vs = wipe σ vs ∧ tt σ2 H2 fun b H3 =>
        if b = true then te σ2 H3 fun y H4 => ∃ acc, H4 D = some (.lst acc) ∧ acc.length < sizeLine ∧ Nx (upd H4 D (.lst (acc ++ [y]))) else Nx H3) := by
  refine lc_list (fun i H' => Same H1 H' ∧ H' D = some (.lst (gath (os.take i)))) ⟨Same.new _ hD, upd_same⟩ (fun i H' _ p => SqL.kep (fun o e => p.1 _ _ e) hS) ?_ ?_
  · rintro i x H' hx ⟨s, k⟩
    have lt : i < os.length := by rw [hl]; exact (List.getElem?_eq_some_iff.mp hx).1
    have ho : os[i]? = some os[i] := List.getElem?_eq_getElem lt
    refine hs i x _ H' _ _ hx ho s (fun y H4 e s4 => ?_) (fun H3 e s3 => ?_)
    · have k4 := s4 _ _ k
      refine ⟨_, k4, ?_, fun b u hb => ?_, ?_⟩
      · have l1 := gath_len (os.take i)
        have l2 := List.length_take_le i os
        omega
      · rw [upd_ne (ne_of_none hb hD)]; exact s4 _ _ (s _ _ hb)
      · rw [upd_same, gath_snoc ho, e]; rfl
    · refine ⟨s.trans s3, ?_⟩
      rw [gath_snoc ho, e]
      show _ = some (HO.lst (_ ++ []))
      rw [List.append_nil]
      exact s3 _ _ k
  · rintro H' ⟨s, k⟩
    rw [← hl, List.take_length] at k
    exact hd D H' hD s k
theorem lc_gathT (hS : SqT K H1 a xs) (os : List (Option V)) (hl : os.length = xs.length) (hz : xs.length < sizeLine)
    (hs : ∀ (i : Nat) (x : V) (o : Option V) (H' : Hp) (NY : VK) (NN : Hp → Prop), xs[i]? = some x → os[i]? = some o → Same H1 H' → (∀ y H4, o = some y → Same H' H4 → NY y H4) → (∀ H3, o = none → Same H' H3 → NN H3) →
      g x (wipe σ vs) H' (fun σ2 H2 => wipe σ2 vs = wipe σ vs ∧ tt σ2 H2 fun b H3 => if b = true then te σ2 H3 NY else NN H3))
    (hd : ∀ D H', H1 D = none → Same H1 H' → H' D = some (.lst (gath os)) → Q D H') {D : Addr} (hD : H1 D = none) :
    ∃ W : Nat → Nat → Hp → Prop, (∃ m, W 0 m (upd H1 D (.lst []))) ∧ ∀ i m H, W i m H →
      ((Itt K a).stop i H ∧ Q D H) ∨ ((Itt K a).go i H ∧ ∃ Nx : Hp → Prop, (∀ H', Nx H' → ∃ m', m' < m ∧ W (i + 1) m' H') ∧ ∀ x H', (Itt K a).yld i H x H' → g x (wipe σ vs) H' fun σ2 H2 => wipe σ2 vs = wipe σ vs ∧ tt σ2 H2 fun b H3 =>
        if b = true then te σ2 H3 fun y H4 => ∃ acc, H4 D = some (.lst acc) ∧ acc.length < sizeLine ∧ Nx (upd H4 D (.lst (acc ++ [y]))) else Nx H3) := by
  refine lc_tup (fun i H' => Same H1 H' ∧ H' D = some (.lst (gath (os.take i)))) ⟨Same.new _ hD, upd_same⟩ (fun i H' _ p => SqT.kep (fun o e => p.1 _ _ e) hS) ?_ ?_
  · rintro i x H' hx ⟨s, k⟩
    have lt : i < os.length := by rw [hl]; exact (List.getElem?_eq_some_iff.mp hx).1
    have ho : os[i]? = some os[i] := List.getElem?_eq_getElem lt
    refine hs i x _ H' _ _ hx ho s (fun y H4 e s4 => ?_) (fun H3 e s3 => ?_)
    · have k4 := s4 _ _ k
      refine ⟨_, k4, ?_, fun b u hb => ?_, ?_⟩
      · have l1 := gath_len (os.take i)
        have l2 := List.length_take_le i os
        omega
      · rw [upd_ne (ne_of_none hb hD)]; exact s4 _ _ (s _ _ hb)
      · rw [upd_same, gath_snoc ho, e]; rfl
    · refine ⟨s.trans s3, ?_⟩
      rw [gath_snoc ho, e]
      show _ = some (HO.lst (_ ++ []))
      rw [List.append_nil]
      exact s3 _ _ k
  · rintro H' ⟨s, k⟩
    rw [← hl, List.take_length] at k
    exact hd D H' hD s k
/-- a comprehension that only adds to the heap, over a list or a tuple -/
theorem lc_gather (hS : SqS K H1 a xs) (os : List (Option V)) (hl : os.length = xs.length) (hz : xs.length < sizeLine)
    (hs : ∀ (i : Nat) (x : V) (o : Option V) (H' : Hp) (NY : VK) (NN : Hp → Prop), xs[i]? = some x → os[i]? = some o → Same H1 H' → (∀ y H4, o = some y → Same H' H4 → NY y H4) → (∀ H3, o = none → Same H' H3 → NN H3) →
      g x (wipe σ vs) H' (fun σ2 H2 => wipe σ2 vs = wipe σ vs ∧ tt σ2 H2 fun b H3 => if b = true then te σ2 H3 NY else NN H3))
    (hd : ∀ D H', H1 D = none → Same H1 H' → H' D = some (.lst (gath os)) → Q D H') :
    ∃ a', V.ref a = .ref a' ∧ (((∃ xs, SqL K H1 a' xs) ∧ (∀ D, H1 D = none → ∃ W : Nat → Nat → Hp → Prop, (∃ m, W 0 m (upd H1 D (.lst []))) ∧ ∀ i m H, W i m H →
      ((Itl K a').stop i H ∧ Q D H) ∨ ((Itl K a').go i H ∧ ∃ Nx : Hp → Prop, (∀ H', Nx H' → ∃ m', m' < m ∧ W (i + 1) m' H') ∧ ∀ x H', (Itl K a').yld i H x H' → g x (wipe σ vs) H' fun σ2 H2 => wipe σ2 vs = wipe σ vs ∧ tt σ2 H2 fun b H3 =>
        if b = true then te σ2 H3 fun y H4 => ∃ acc, H4 D = some (.lst acc) ∧ acc.length < sizeLine ∧ Nx (upd H4 D (.lst (acc ++ [y]))) else Nx H3))) ∨
     ((∃ xs, SqT K H1 a' xs) ∧ (∀ D, H1 D = none → ∃ W : Nat → Nat → Hp → Prop, (∃ m, W 0 m (upd H1 D (.lst []))) ∧ ∀ i m H, W i m H →
      ((Itt K a').stop i H ∧ Q D H) ∨ ((Itt K a').go i H ∧ ∃ Nx : Hp → Prop, (∀ H', Nx H' → ∃ m', m' < m ∧ W (i + 1) m' H') ∧ ∀ x H', (Itt K a').yld i H x H' → g x (wipe σ vs) H' fun σ2 H2 => wipe σ2 vs = wipe σ vs ∧ tt σ2 H2 fun b H3 =>
        if b = true then te σ2 H3 fun y H4 => ∃ acc, H4 D = some (.lst acc) ∧ acc.length < sizeLine ∧ Nx (upd H4 D (.lst (acc ++ [y]))) else Nx H3)))) := by
  refine ⟨a, rfl, ?_⟩
  rcases hS with h | h
  · exact .inl ⟨⟨xs, h⟩, fun D hD => lc_gathL h os hl hz hs hd hD⟩
  · exact .inr ⟨⟨xs, h⟩, fun D hD => lc_gathT h os hl hz hs hd hD⟩
theorem lc_gatherL (hS : SqL K H1 a xs) (os : List (Option V)) (hl : os.length = xs.length) (hz : xs.length < sizeLine)
    (hs : ∀ (i : Nat) (x : V) (o : Option V) (H' : Hp) (NY : VK) (NN : Hp → Prop), xs[i]? = some x → os[i]? = some o → Same H1 H' → (∀ y H4, o = some y → Same H' H4 → NY y H4) → (∀ H3, o = none → Same H' H3 → NN H3) →
      g x (wipe σ vs) H' (fun σ2 H2 => wipe σ2 vs = wipe σ vs ∧ tt σ2 H2 fun b H3 => if b = true then te σ2 H3 NY else NN H3))
    (hd : ∀ D H', H1 D = none → Same H1 H' → H' D = some (.lst (gath os)) → Q D H') :
    ∃ a', V.ref a = .ref a' ∧ (∃ xs, SqL K H1 a' xs) ∧ (∀ D, H1 D = none → ∃ W : Nat → Nat → Hp → Prop, (∃ m, W 0 m (upd H1 D (.lst []))) ∧ ∀ i m H, W i m H →
      ((Itl K a').stop i H ∧ Q D H) ∨ ((Itl K a').go i H ∧ ∃ Nx : Hp → Prop, (∀ H', Nx H' → ∃ m', m' < m ∧ W (i + 1) m' H') ∧ ∀ x H', (Itl K a').yld i H x H' → g x (wipe σ vs) H' fun σ2 H2 => wipe σ2 vs = wipe σ vs ∧ tt σ2 H2 fun b H3 =>
        if b = true then te σ2 H3 fun y H4 => ∃ acc, H4 D = some (.lst acc) ∧ acc.length < sizeLine ∧ Nx (upd H4 D (.lst (acc ++ [y]))) else Nx H3)) := ⟨a, rfl, ⟨xs, hS⟩, fun D hD => lc_gathL hS os hl hz hs hd hD⟩
theorem lc_gatherT (hS : SqT K H1 a xs) (os : List (Option V)) (hl : os.length = xs.length) (hz : xs.length < sizeLine)
    (hs : ∀ (i : Nat) (x : V) (o : Option V) (H' : Hp) (NY : VK) (NN : Hp → Prop), xs[i]? = some x → os[i]? = some o → Same H1 H' → (∀ y H4, o = some y → Same H' H4 → NY y H4) → (∀ H3, o = none → Same H' H3 → NN H3) →
      g x (wipe σ vs) H' (fun σ2 H2 => wipe σ2 vs = wipe σ vs ∧ tt σ2 H2 fun b H3 => if b = true then te σ2 H3 NY else NN H3))
    (hd : ∀ D H', H1 D = none → Same H1 H' → H' D = some (.lst (gath os)) → Q D H') :
    ∃ a', V.ref a = .ref a' ∧ (∃ xs, SqT K H1 a' xs) ∧ (∀ D, H1 D = none → ∃ W : Nat → Nat → Hp → Prop, (∃ m, W 0 m (upd H1 D (.lst []))) ∧ ∀ i m H, W i m H →
      ((Itt K a').stop i H ∧ Q D H) ∨ ((Itt K a').go i H ∧ ∃ Nx : Hp → Prop, (∀ H', Nx H' → ∃ m', m' < m ∧ W (i + 1) m' H') ∧ ∀ x H', (Itt K a').yld i H x H' → g x (wipe σ vs) H' fun σ2 H2 => wipe σ2 vs = wipe σ vs ∧ tt σ2 H2 fun b H3 =>
        if b = true then te σ2 H3 fun y H4 => ∃ acc, H4 D = some (.lst acc) ∧ acc.length < sizeLine ∧ Nx (upd H4 D (.lst (acc ++ [y]))) else Nx H3)) := ⟨a, rfl, ⟨xs, hS⟩, fun D hD => lc_gathT hS os hl hz hs hd hD⟩
end
theorem put_free {kzs : List (Key × V)} (nd : (kzs.map (·.1)).Nodup) {i : Nat} {kz : Key × V} (h : kzs[i]? = some kz) : valV (kzs.take i) kz.1 = none := by
  unfold valV
  rw [List.find?_eq_none.mpr ?_]; rfl
  intro p hp e
  have e : p.1 = kz.1 := of_decide_eq_true e
  obtain ⟨j, hj⟩ := List.mem_iff_getElem?.mp hp
  have hji : j < i := by
    have := (List.getElem?_eq_some_iff.mp hj).1
    rw [List.length_take] at this; omega
  rw [List.getElem?_take_of_lt hji] at hj
  have lj := (List.getElem?_eq_some_iff.mp hj).1
  have li := (List.getElem?_eq_some_iff.mp h).1
  have := (List.pairwise_iff_getElem.mp nd) j i (by rw [List.length_map]; exact lj) (by rw [List.length_map]; exact li) hji
  apply this
  rw [List.getElem_map, List.getElem_map]
  rw [List.getElem?_eq_getElem lj] at hj
  rw [List.getElem?_eq_getElem li] at h
  rw [Option.some.inj hj, Option.some.inj h, e]
/-- over a list that stays -/
theorem dc_list {K : PySem.W.Frag} {a : Addr} {xs : List V} {g : TG} {tt : TT} {tk tv : TE} {vs : List Nat} {σ : L2.St} {H1 : Hp} {D : Addr} {Qd : Hp → Prop} (Pv : Nat → Hp → Prop) (h0 : Pv 0 (upd H1 D (.dK []))) (hl : ∀ i H, i ≤ xs.length → Pv i H → SqL K H a xs)
    (hs : ∀ i x H, xs[i]? = some x → Pv i H → g x (wipe σ vs) H fun σ2 H2 => wipe σ2 vs = wipe σ vs ∧ tt σ2 H2 fun b H3 =>
      if b = true then tk σ2 H3 fun y H4 => tv σ2 H4 fun z H5 => ∃ kvs k, y = kV k ∧ H5 D = some (.dK kvs) ∧ kvs.length < sizeLine ∧ Pv (i + 1) (upd H5 D (.dK (putK kvs k z))) else Pv (i + 1) H3) (hd : ∀ H, Pv xs.length H → Qd H) :
    ∃ W : Nat → Nat → Hp → Prop, (∃ m, W 0 m (upd H1 D (.dK []))) ∧ ∀ i m H, W i m H →
      ((Itl K a).stop i H ∧ Qd H) ∨ ((Itl K a).go i H ∧ ∃ Nx : Hp → Prop, (∀ H', Nx H' → ∃ m', m' < m ∧ W (i + 1) m' H') ∧ ∀ x H', (Itl K a).yld i H x H' → g x (wipe σ vs) H' fun σ2 H2 => wipe σ2 vs = wipe σ vs ∧ tt σ2 H2 fun b H3 =>
        if b = true then tk σ2 H3 fun y H4 => tv σ2 H4 fun z H5 => ∃ kvs k, y = kV k ∧ H5 D = some (.dK kvs) ∧ kvs.length < sizeLine ∧ Nx (upd H5 D (.dK (putK kvs k z))) else Nx H3) := by
  refine ⟨fun i m H => m = xs.length - i ∧ i ≤ xs.length ∧ Pv i H, ⟨xs.length, by simp, Nat.zero_le _, h0⟩, ?_⟩
  rintro i m H ⟨rfl, hi, p⟩
  have q := hl i H hi p
  by_cases hlt : i < xs.length
  · refine .inr ⟨⟨xs, xs[i], q, by simp [hlt]⟩, Pv (i + 1), fun H' p' => ⟨xs.length - (i + 1), by omega, rfl, hlt, p'⟩, fun x H' y => ?_⟩
    obtain ⟨e, y⟩ := y
    subst e
    exact hs i x _ (y xs q) p
  · have e : i = xs.length := by omega
    subst e
    exact .inl ⟨⟨xs, q, Nat.le_refl _⟩, hd H p⟩
section
variable {K : PySem.W.Frag} {a : Addr} {xs : List V} {g : TG} {tt : TT} {tk tv : TE} {vs : List Nat} {σ : L2.St} {H1 : Hp} {Q : Addr → Hp → Prop}
theorem dc_pureL (hS : SqL K H1 a xs) (kzs : List (Key × V)) (hl : kzs.length = xs.length) (hz : xs.length < sizeLine) (nd : (kzs.map (·.1)).Nodup)
    (hs : ∀ (i : Nat) (x : V) (kz : Key × V) (H' : Hp) (NY : V → V → Hp → Prop) (NN : Hp → Prop), xs[i]? = some x → kzs[i]? = some kz → Same H1 H' → (∀ H5, Same H' H5 → NY (kV kz.1) kz.2 H5) →
      g x (wipe σ vs) H' (fun σ2 H2 => wipe σ2 vs = wipe σ vs ∧ tt σ2 H2 fun b H3 => if b = true then tk σ2 H3 fun y H4 => tv σ2 H4 fun z H5 => NY y z H5 else NN H3))
    (hd : ∀ D H', H1 D = none → Same H1 H' → H' D = some (.dK kzs) → Q D H') {D : Addr} (hD : H1 D = none) :
    ∃ W : Nat → Nat → Hp → Prop, (∃ m, W 0 m (upd H1 D (.dK []))) ∧ ∀ i m H, W i m H →
      ((Itl K a).stop i H ∧ Q D H) ∨ ((Itl K a).go i H ∧ ∃ Nx : Hp → Prop, (∀ H', Nx H' → ∃ m', m' < m ∧ W (i + 1) m' H') ∧ ∀ x H', (Itl K a).yld i H x H' → g x (wipe σ vs) H' fun σ2 H2 => wipe σ2 vs = wipe σ vs ∧ tt σ2 H2 fun b H3 =>
        if b = true then tk σ2 H3 fun y H4 => tv σ2 H4 fun z H5 => ∃ kvs k, y = kV k ∧ H5 D = some (.dK kvs) ∧ kvs.length < sizeLine ∧ Nx (upd H5 D (.dK (putK kvs k z))) else Nx H3) := by
  refine dc_list (fun i H' => Same H1 H' ∧ H' D = some (.dK (kzs.take i))) ⟨Same.new _ hD, upd_same⟩ (fun i H' _ p => SqL.kep (fun o e => p.1 _ _ e) hS) ?_ ?_
  · rintro i x H' hx ⟨s, k⟩
    have lt : i < kzs.length := by rw [hl]; exact (List.getElem?_eq_some_iff.mp hx).1
    have ho : kzs[i]? = some kzs[i] := List.getElem?_eq_getElem lt
    refine hs i x _ H' (fun y z H5 => ∃ kvs k, y = kV k ∧ H5 D = some (.dK kvs) ∧ kvs.length < sizeLine ∧ _) _ hx ho s (fun H5 s5 => ?_)
    refine ⟨_, _, rfl, s5 _ _ k, ?_, fun b u hb => ?_, ?_⟩
    · have l2 := List.length_take_le i kzs
      omega
    · rw [upd_ne (ne_of_none hb hD)]; exact s5 _ _ (s _ _ hb)
    · rw [upd_same, putK_new _ (put_free nd ho), List.take_add_one, ho]; rfl
  · rintro H' ⟨s, k⟩
    rw [← hl, List.take_length] at k
    exact hd D H' hD s k
theorem dc_pureT (hS : SqT K H1 a xs) (kzs : List (Key × V)) (hl : kzs.length = xs.length) (hz : xs.length < sizeLine) (nd : (kzs.map (·.1)).Nodup)
    (hs : ∀ (i : Nat) (x : V) (kz : Key × V) (H' : Hp) (NY : V → V → Hp → Prop) (NN : Hp → Prop), xs[i]? = some x → kzs[i]? = some kz → Same H1 H' → (∀ H5, Same H' H5 → NY (kV kz.1) kz.2 H5) →
      g x (wipe σ vs) H' (fun σ2 H2 => wipe σ2 vs = wipe σ vs ∧ tt σ2 H2 fun b H3 => if b = true then tk σ2 H3 fun y H4 => tv σ2 H4 fun z H5 => NY y z H5 else NN H3))
    (hd : ∀ D H', H1 D = none → Same H1 H' → H' D = some (.dK kzs) → Q D H') {D : Addr} (hD : H1 D = none) :
    ∃ W : Nat → Nat → Hp → Prop, (∃ m, W 0 m (upd H1 D (.dK []))) ∧ ∀ i m H, W i m H →
      ((Itt K a).stop i H ∧ Q D H) ∨ ((Itt K a).go i H ∧ ∃ Nx : Hp → Prop, (∀ H', Nx H' → ∃ m', m' < m ∧ W (i + 1) m' H') ∧ ∀ x H', (Itt K a).yld i H x H' → g x (wipe σ vs) H' fun σ2 H2 => wipe σ2 vs = wipe σ vs ∧ tt σ2 H2 fun b H3 =>
        if b = true then tk σ2 H3 fun y H4 => tv σ2 H4 fun z H5 => ∃ kvs k, y = kV k ∧ H5 D = some (.dK kvs) ∧ kvs.length < sizeLine ∧ Nx (upd H5 D (.dK (putK kvs k z))) else Nx H3) := by
  refine dc_tup (fun i H' => Same H1 H' ∧ H' D = some (.dK (kzs.take i))) ⟨Same.new _ hD, upd_same⟩ (fun i H' _ p => SqT.kep (fun o e => p.1 _ _ e) hS) ?_ ?_
  · rintro i x H' hx ⟨s, k⟩
    have lt : i < kzs.length := by rw [hl]; exact (List.getElem?_eq_some_iff.mp hx).1
    have ho : kzs[i]? = some kzs[i] := List.getElem?_eq_getElem lt
    refine hs i x _ H' (fun y z H5 => ∃ kvs k, y = kV k ∧ H5 D = some (.dK kvs) ∧ kvs.length < sizeLine ∧ _) _ hx ho s (fun H5 s5 => ?_)
    refine ⟨_, _, rfl, s5 _ _ k, ?_, fun b u hb => ?_, ?_⟩
    · have l2 := List.length_take_le i kzs
      omega
    · rw [upd_ne (ne_of_none hb hD)]; exact s5 _ _ (s _ _ hb)
    · rw [upd_same, putK_new _ (put_free nd ho), List.take_add_one, ho]; rfl
  · rintro H' ⟨s, k⟩
    rw [← hl, List.take_length] at k
    exact hd D H' hD s k
/-- a dict comprehension that only adds to the heap, over a list or a tuple -/
theorem dc_pure (hS : SqS K H1 a xs) (kzs : List (Key × V)) (hl : kzs.length = xs.length) (hz : xs.length < sizeLine) (nd : (kzs.map (·.1)).Nodup)
    (hs : ∀ (i : Nat) (x : V) (kz : Key × V) (H' : Hp) (NY : V → V → Hp → Prop) (NN : Hp → Prop), xs[i]? = some x → kzs[i]? = some kz → Same H1 H' → (∀ H5, Same H' H5 → NY (kV kz.1) kz.2 H5) →
      g x (wipe σ vs) H' (fun σ2 H2 => wipe σ2 vs = wipe σ vs ∧ tt σ2 H2 fun b H3 => if b = true then tk σ2 H3 fun y H4 => tv σ2 H4 fun z H5 => NY y z H5 else NN H3))
    (hd : ∀ D H', H1 D = none → Same H1 H' → H' D = some (.dK kzs) → Q D H') :
    ∃ a', V.ref a = .ref a' ∧ (((∃ xs, SqL K H1 a' xs) ∧ (∀ D, H1 D = none → ∃ W : Nat → Nat → Hp → Prop, (∃ m, W 0 m (upd H1 D (.dK []))) ∧ ∀ i m H, W i m H →
      ((Itl K a').stop i H ∧ Q D H) ∨ ((Itl K a').go i H ∧ ∃ Nx : Hp → Prop, (∀ H', Nx H' → ∃ m', m' < m ∧ W (i + 1) m' H') ∧ ∀ x H', (Itl K a').yld i H x H' → g x (wipe σ vs) H' fun σ2 H2 => wipe σ2 vs = wipe σ vs ∧ tt σ2 H2 fun b H3 =>
        if b = true then tk σ2 H3 fun y H4 => tv σ2 H4 fun z H5 => ∃ kvs k, y = kV k ∧ H5 D = some (.dK kvs) ∧ kvs.length < sizeLine ∧ Nx (upd H5 D (.dK (putK kvs k z))) else Nx H3))) ∨
     ((∃ xs, SqT K H1 a' xs) ∧ (∀ D, H1 D = none → ∃ W : Nat → Nat → Hp → Prop, (∃ m, W 0 m (upd H1 D (.dK []))) ∧ ∀ i m H, W i m H →
      ((Itt K a').stop i H ∧ Q D H) ∨ ((Itt K a').go i H ∧ ∃ Nx : Hp → Prop, (∀ H', Nx H' → ∃ m', m' < m ∧ W (i + 1) m' H') ∧ ∀ x H', (Itt K a').yld i H x H' → g x (wipe σ vs) H' fun σ2 H2 => wipe σ2 vs = wipe σ vs ∧ tt σ2 H2 fun b H3 =>
        if b = true then tk σ2 H3 fun y H4 => tv σ2 H4 fun z H5 => ∃ kvs k, y = kV k ∧ H5 D = some (.dK kvs) ∧ kvs.length < sizeLine ∧ Nx (upd H5 D (.dK (putK kvs k z))) else Nx H3)))) := by
  refine ⟨a, rfl, ?_⟩
  rcases hS with h | h
  · exact .inl ⟨⟨xs, h⟩, fun D hD => dc_pureL h kzs hl hz nd hs hd hD⟩
  · exact .inr ⟨⟨xs, h⟩, fun D hD => dc_pureT h kzs hl hz nd hs hd hD⟩
theorem dc_pureLI (hS : SqL K H1 a xs) (kzs : List (Key × V)) (hl : kzs.length = xs.length) (hz : xs.length < sizeLine) (nd : (kzs.map (·.1)).Nodup)
    (hs : ∀ (i : Nat) (x : V) (kz : Key × V) (H' : Hp) (NY : V → V → Hp → Prop) (NN : Hp → Prop), xs[i]? = some x → kzs[i]? = some kz → Same H1 H' → (∀ H5, Same H' H5 → NY (kV kz.1) kz.2 H5) →
      g x (wipe σ vs) H' (fun σ2 H2 => wipe σ2 vs = wipe σ vs ∧ tt σ2 H2 fun b H3 => if b = true then tk σ2 H3 fun y H4 => tv σ2 H4 fun z H5 => NY y z H5 else NN H3))
    (hd : ∀ D H', H1 D = none → Same H1 H' → H' D = some (.dK kzs) → Q D H') :
    ∃ a', V.ref a = .ref a' ∧ (∃ xs, SqL K H1 a' xs) ∧ (∀ D, H1 D = none → ∃ W : Nat → Nat → Hp → Prop, (∃ m, W 0 m (upd H1 D (.dK []))) ∧ ∀ i m H, W i m H →
      ((Itl K a').stop i H ∧ Q D H) ∨ ((Itl K a').go i H ∧ ∃ Nx : Hp → Prop, (∀ H', Nx H' → ∃ m', m' < m ∧ W (i + 1) m' H') ∧ ∀ x H', (Itl K a').yld i H x H' → g x (wipe σ vs) H' fun σ2 H2 => wipe σ2 vs = wipe σ vs ∧ tt σ2 H2 fun b H3 =>
        if b = true then tk σ2 H3 fun y H4 => tv σ2 H4 fun z H5 => ∃ kvs k, y = kV k ∧ H5 D = some (.dK kvs) ∧ kvs.length < sizeLine ∧ Nx (upd H5 D (.dK (putK kvs k z))) else Nx H3)) := ⟨a, rfl, ⟨xs, hS⟩, fun D hD => dc_pureL hS kzs hl hz nd hs hd hD⟩
theorem i_dc {Q : VK} {wi : TI} (h : wi σ H1 fun J H1 => ∀ D, H1 D = none → ∃ W : Nat → Nat → Hp → Prop, (∃ m, W 0 m (upd H1 D (.dK []))) ∧ ∀ i m H, W i m H →
  (J.stop i H ∧ Q (.ref D) H) ∨ (J.go i H ∧ ∃ Nx : Hp → Prop, (∀ H', Nx H' → ∃ m', m' < m ∧ W (i + 1) m' H') ∧ ∀ x H', J.yld i H x H' → g x (wipe σ vs) H' fun σ2 H2 => wipe σ2 vs = wipe σ vs ∧ tt σ2 H2 fun b H3 =>
    if b = true then tk σ2 H3 fun y H4 => tv σ2 H4 fun z H5 => ∃ kvs k, y = kV k ∧ H5 D = some (.dK kvs) ∧ kvs.length < sizeLine ∧ Nx (upd H5 D (.dK (putK kvs k z))) else Nx H3)) : tDc wi g tt tk tv vs σ H1 Q := h
end
/-- all of a list of truths -/
theorem i_all {K : PySem.W.Frag} {H : Hp} {Q : VK} {p : Addr} {bs : List Bool} (hS : SqL K H p (bs.map V.bl)) (q : Q (.bl (bs.all id)) H) : rAll K [.ref p] H Q := ⟨p, bs, rfl, hS, q⟩
theorem i_lenS2 {K : PySem.W.Frag} {H : Hp} {Q : VK} {p : Addr} {xs : List V} (hS : SqS K H p xs) (q : Q (.int xs.length) H) : rLen K [.ref p] H Q := ⟨p, xs, rfl, hS, q⟩
/-- xs += ys -/
theorem i_ext2 {H : Hp} {Q : VK} {l b : Addr} {xs zs : List V} (h1 : H l = some (.lst xs)) (h2 : H b = some (.lst zs)) (hz : xs.length + zs.length ≤ sizeLine) (q : Q (.ref l) (upd H l (.lst (xs ++ zs)))) : rExt2 (.ref l) (.ref b) H Q := ⟨l, b, xs, zs, rfl, rfl, h1, h2, hz, q⟩
theorem i_isiC {K : PySem.W.Frag} {H : Hp} {Q : VK} {v : V} {t : Value} {m : String} {b : Bool} (h : TyX K H v t) (e : PySem.W.kitOne K t (.type m) = some b) (q : Q (.bl b) H) : rIsi K [v, .ty m] H Q := ⟨v, .ty m, t, .type m, b, rfl, .ty m, h, e, q⟩
/-- a list or a tuple of the heap -/
def SqO (H : Hp) (a : Addr) (xs : List V) : Prop := H a = some (.lst xs) ∨ H a = some (.tup xs)
theorem SqO.sq {K : PySem.W.Frag} {H : Hp} {a : Addr} {xs : List V} (h : SqO H a xs) : SqS K H a xs := h.elim .lst .tup
theorem SqO.same {H H' : Hp} {a : Addr} {xs : List V} (h : SqO H a xs) (e : Same H H') : SqO H' a xs := h.imp (e _ _) (e _ _)
theorem SqO.ne {H : Hp} {a p : Addr} {xs : List V} (h : SqO H a xs) (e : H p = none) : a ≠ p := by rintro rfl; rcases h with h | h <;> rw [e] at h <;> cases h
theorem SqO.but {H H' : Hp} {a b : Addr} {xs : List V} (h : SqO H a xs) (n : a ≠ b) (e : But b H H') : SqO H' a xs := h.imp (e _ _ n) (e _ _ n)
/-- tuple(xs) -/
def rTupOf (K : PySem.W.Frag) : List V → Hp → VK → Prop := fun xs H Q => ∃ p ys, xs = [.ref p] ∧ ((SqL K H p ys ∧ ∀ l, H l = none → Q (.ref l) (upd H l (.tup ys))) ∨ (SqT K H p ys ∧ Q (.ref p) H))
theorem c_tupleOf {X : Cx} : CallR X (.type "tuple") (rTupOf X.K) := call_tuple_of
theorem i_tupOf {K : PySem.W.Frag} {H : Hp} {Q : VK} {p : Addr} {xs : List V} (h : SqO H p xs) (q : ∀ l H', Same H H' → H' l = some (.tup xs) → Q (.ref l) H') : rTupOf K [.ref p] H Q := by
  rcases h with h | h
  · exact ⟨p, xs, rfl, .inl ⟨SqL.lst h, fun l hl => q l _ (Same.new _ hl) upd_same⟩⟩
  · exact ⟨p, xs, rfl, .inr ⟨SqT.tup h, q p _ (Same.refl _) h⟩⟩
open SeqAt in
/-- xs != [] -/
def rNeNil (K : PySem.W.Frag) : R2 := fun x y H Q => ∃ a b vs, x = .ref a ∧ y = .ref b ∧ SqL K H a vs ∧ SqL K H b [] ∧ Q (.bl (!vs.isEmpty)) H
section
open SeqAt
variable {X : Cx}
theorem op_neNil (hu : X.A.units + 64 < cLine) : OpR X (compareOp .NotEq) (rNeNil X.K) := by
  intro pins s σ H x y v u Q I rx ry h
  obtain ⟨a, b, vs, rfl, rfl, ha, hb, q⟩ := h
  cases (show v = .ref a from rx)
  cases (show u = .ref b from ry)
  obtain ⟨as, ra, p1, _⟩ := I.list ha
  obtain ⟨bs, rb, p2, _⟩ := I.list hb
  have l1 := ra.length
  have l2 := rb.length
  cases vs with
  | nil =>
    have z := RcNeAt.lists (A := X.A) (e := fun _ => true) p1.isList p2.isList (by simp at l1 l2 ⊢; omega) (by omega) (fun j h1 h2 => by simp at l1 h1; omega)
    rw [all_true] at z
    exact z X.prog X.w X.xe _ ⟨.bl false, H, I, rfl, q⟩
  | cons c r =>
    have z := RcNeAt.lists_lengths (A := X.A) p1.isList p2.isList (by simp at l1 l2 ⊢; omega) (by omega)
    exact z X.prog X.w X.xe _ ⟨.bl true, H, I, rfl, q⟩
/-- x != x of plain things -/
inductive SelfP (K : PySem.W.Frag) (H : Hp) : V → Prop
  | ps {v : V} {d : PyData} : Ps v d → SelfP K H v
  | lst {a : Addr} {vs : List V} : SqL K H a vs → (∀ v ∈ vs, It1 v) → SelfP K H (.ref a)
  | tup {a : Addr} {vs : List V} : SqT K H a vs → (∀ v ∈ vs, It1 v) → SelfP K H (.ref a)
  | dct {a : Addr} : H a = some (.dK []) → SelfP K H (.ref a)
def rNeSf (K : PySem.W.Frag) : R2 := fun x y H Q => x = y ∧ SelfP K H x ∧ Q (.bl false) H
theorem op_neSf (hu : X.A.units + 64 < cLine) : OpR X (compareOp .NotEq) (rNeSf X.K) := by
  intro pins s σ H x y v u Q I rx ry h
  obtain ⟨rfl, hs, q⟩ := h
  cases hs with
  | @ps v d h =>
    refine op_neD hu pins s σ H x x _ _ Q I rx ry ⟨d, d, h.dp, h.dp, h.shaped, h.shaped, ?_⟩
    rw [SeqAt.eqv_refl _ h.lay]
    exact q
  | @lst a vs ha hv =>
    cases (show v = .ref a from rx)
    cases (show u = .ref a from ry)
    obtain ⟨as, ra, p1, _⟩ := I.list ha
    have z := RcNeAt.lists (A := X.A) (e := fun _ => true) p1.isList p1.isList rfl (by omega) (fun j h1 h2 => eqAt_items hv ra ra j h1 h2)
    rw [all_true] at z
    exact z X.prog X.w X.xe _ ⟨.bl false, H, I, rfl, q⟩
  | @tup a vs ha hv =>
    cases (show v = .ref a from rx)
    cases (show u = .ref a from ry)
    obtain ⟨as, ra, p1, _⟩ := I.tuple ha
    have p2 : s.heap.IsTuple a as.toArray := p1
    have z := RcNeAt.tuples (A := X.A) (e := fun _ => true) p2 p2 (by omega) (fun j h1 h2 => eqAt_items hv ra ra j h1 h2)
    rw [all_true] at z
    simp only [beq_self_eq_true, Bool.and_self, Bool.not_true] at z
    exact z X.prog X.w X.xe _ ⟨.bl false, H, I, rfl, q⟩
  | @dct a ha => exact op_ne_dictA (by omega) pins s σ H _ _ v u Q I rx ry ⟨a, a, [], [], rfl, rfl, ha, ha, rfl, by simp, q⟩
end
end Ice

set_option Elab.async false
set_option linter.all false
set_option maxRecDepth 100000
set_option maxHeartbeats 4000000
set_option autoImplicit false
/-! Comprehensions whose items are made. -/
namespace Ice
open PySem PySem.Spec PyProof.Rows L2
section
variable {K : PySem.W.Frag} {a : Addr} {xs : List V} {g : TG} {tt : TT} {te : TE} {vs : List Nat} {σ : L2.St} {H1 : Hp} {Q : Addr → Hp → Prop}
theorem lc_relL (hS : SqL K H1 a xs) (hz : xs.length < sizeLine) (Rl : Nat → V → Hp → Prop) (mono : ∀ i y H H', Same H H' → Rl i y H → Rl i y H') (off : ∀ i y H D us ws, H D = some (.lst us) → Rl i y H → Rl i y (upd H D (.lst ws)))
    (hs : ∀ (i : Nat) (x : V) (H' : Hp) (NY : VK) (NN : Hp → Prop), xs[i]? = some x → Same H1 H' → (∀ y H4, Same H' H4 → Rl i y H4 → NY y H4) →
      g x (wipe σ vs) H' (fun σ2 H2 => wipe σ2 vs = wipe σ vs ∧ tt σ2 H2 fun b H3 => if b = true then te σ2 H3 NY else NN H3))
    (hd : ∀ D H' ys, H1 D = none → Same H1 H' → H' D = some (.lst ys) → ys.length = xs.length → (∀ i y, ys[i]? = some y → Rl i y H') → Q D H') :
    ∃ a', V.ref a = .ref a' ∧ (∃ xs, SqL K H1 a' xs) ∧ ∀ D, H1 D = none → ∃ W : Nat → Nat → Hp → Prop, (∃ m, W 0 m (upd H1 D (.lst []))) ∧ ∀ i m H, W i m H →
      ((Itl K a').stop i H ∧ Q D H) ∨ ((Itl K a').go i H ∧ ∃ Nx : Hp → Prop, (∀ H', Nx H' → ∃ m', m' < m ∧ W (i + 1) m' H') ∧ ∀ x H', (Itl K a').yld i H x H' → g x (wipe σ vs) H' fun σ2 H2 => wipe σ2 vs = wipe σ vs ∧ tt σ2 H2 fun b H3 =>
        if b = true then te σ2 H3 fun y H4 => ∃ acc, H4 D = some (.lst acc) ∧ acc.length < sizeLine ∧ Nx (upd H4 D (.lst (acc ++ [y]))) else Nx H3) := by
  refine ⟨a, rfl, ⟨xs, hS⟩, fun D hD => ?_⟩
  refine lc_list (fun i H' => Same H1 H' ∧ ∃ ys, H' D = some (.lst ys) ∧ ys.length = i ∧ ∀ j y, ys[j]? = some y → Rl j y H') ⟨Same.new _ hD, [], upd_same, rfl, fun j y h => by simp at h⟩ (fun i H' _ p => SqL.kep (fun o e => p.1 _ _ e) hS) ?_ ?_
  · rintro i x H' hx ⟨s, ys, k, hl, hr⟩
    have lt := (List.getElem?_eq_some_iff.mp hx).1
    refine hs i x H' _ _ hx s (fun y H4 s4 r4 => ?_)
    have k4 := s4 _ _ k
    refine ⟨_, k4, by omega, fun b u hb => ?_, ys ++ [y], upd_same, by simp [hl], fun j z hz => ?_⟩
    · rw [upd_ne (ne_of_none hb hD)]; exact s4 _ _ (s _ _ hb)
    · refine off _ _ _ _ _ _ k4 ?_
      rw [List.getElem?_append] at hz
      split at hz
      · exact mono _ _ _ _ s4 (hr j z hz)
      · rename_i nl
        have : j - ys.length = 0 := by
          have := (List.getElem?_eq_some_iff.mp hz).1
          simp at this; omega
        rw [this] at hz
        have e : j = i := by omega
        subst e
        rw [← Option.some.inj hz]
        exact r4
  · rintro H' ⟨s, ys, k, hl, hr⟩
    exact hd D H' ys hD s k hl hr
end
/-- what was made, item by item -/
theorem made_list {α : Type} {P : Addr → α → Prop} : ∀ (ys : List V) (L : List α), ys.length = L.length → (∀ (i : Nat) (y : V), ys[i]? = some y → ∃ (x : Addr) (z : α), y = V.ref x ∧ L[i]? = some z ∧ P x z) →
    ∃ L' : List (Addr × α), ys = L'.map (fun z => V.ref z.1) ∧ L'.map (·.2) = L ∧ ∀ z ∈ L', P z.1 z.2
  | [], [], _, _ => ⟨[], rfl, rfl, by simp⟩
  | [], _ :: _, h, _ => by simp at h
  | _ :: _, [], h, _ => by simp at h
  | y :: ys, c :: L, h, hi => by
    obtain ⟨x, z, rfl, hz, p⟩ := hi 0 y rfl
    obtain rfl := Option.some.inj hz
    obtain ⟨L', e1, e2, h3⟩ := made_list (P := P) ys L (by simpa using h) (fun i y hy => hi (i + 1) y hy)
    exact ⟨(x, c) :: L', by rw [e1]; rfl, by rw [← e2]; rfl, by
      intro z hz
      rcases List.mem_cons.mp hz with rfl | hz
      · exact p
      · exact h3 z hz⟩
end Ice

set_option Elab.async false
set_option linter.all false
set_option maxRecDepth 100000
set_option maxHeartbeats 4000000
namespace Ice
open PySem PySem.Spec PyProof.Rows L2 TL
/-! side conditions, heaps, one step of a reading, and many -/
local macro_rules | `(tactic| walk_at "hp") => `(tactic| first | assumption | exact upd_same | exact New.at_ (by assumption) | (refine keepU ?_ (by assumption); walk_at "hp") | (refine New.app (by assumption) ?_; walk_at "hp") | (refine Same.app (by assumption) ?_; walk_at "hp") | (refine But.app (by assumption) (by assumption) ?_; walk_at "hp"))
local macro_rules | `(tactic| walk_at "sq") => `(tactic| first | assumption | exact SqL.lst (by walk_at "hp") | exact L2.Same.seq (New.same (by assumption)) (by assumption) | exact L2.Same.seq (by assumption) (by assumption))
local macro_rules | `(tactic| walk_at "len") => `(tactic| first | assumption | (simp only [List.length_cons, List.length_nil, List.length_append, List.length_map]; decide) | (refine Ice.sz_of ?_; simp only [List.length_cons, List.length_nil, List.length_append, List.length_map]; omega))
local macro_rules | `(tactic| walk_at "fresh") => `(tactic| (simp only [List.map_append, List.map_cons, List.map_nil, List.nil_append, List.cons_append]; decide +kernel))
local macro_rules | `(tactic| walk_at "sd") => `(tactic| first | assumption | (show _ ≠ _; omega) | exact Or.inl ⟨by omega, by omega⟩ | exact Or.inr ⟨by omega, by omega⟩ | exact ⟨by decide, by decide⟩ | exact ⟨by decide, by decide, by decide⟩ | exact ⟨by omega, by omega, by omega⟩)
/-! one step of a reading, and many -/
local macro_rules | `(tactic| walk_at "st") => `(tactic| first
  | with_reducible refine i_seq ?_
  | with_reducible refine i_if ?_
  | with_reducible refine i_next ?_
  | with_reducible refine i_ret ?_
  | with_reducible refine i_retN ?_
  | with_reducible refine i_drop ?_
  | with_reducible refine i_asg ?_
  | with_reducible refine i_gname ?_
  | with_reducible refine i_gsub ?_
  | ((with_reducible refine i_var (v := ?vv) ?hv ?_); (case hv => exact rfl))
  | with_reducible refine i_c ?_
  | with_reducible refine i_op ?_
  | with_reducible refine i_un ?_
  | with_reducible refine i_test ?_
  | with_reducible refine i_tB ?_
  | with_reducible refine i_and ?_
  | with_reducible refine i_or ?_
  | with_reducible refine i_not ?_
  | with_reducible refine i_andV ?_
  | with_reducible refine i_orV ?_
  | with_reducible refine i_notV ?_
  | with_reducible refine i_ifE ?_
  | with_reducible refine i_chain ?_
  | with_reducible refine i_bl ?_
  | with_reducible refine i_nil ?_
  | with_reducible refine i_cons ?_
  | with_reducible refine i_call ?_
  | with_reducible refine i_cb ?_
  | with_reducible refine i_rI0 ?_
  | with_reducible refine i_rU ?_
  | ((with_reducible refine i_rEq ?hs ?_); (case hs => exact rfl))
  | ((with_reducible refine i_rNe ?hs ?_); (case hs => exact rfl))
  | ((with_reducible refine i_rI ?hc ?_); (case hc => walk_at "sd"))
  | ((with_reducible refine i_ixL (xs := ?xs) (v := ?vv) ?hS ?he ?_); (case hS => walk_at "sq"); (case he => exact rfl))
  | ((with_reducible refine i_setL (xs := ?xs) (j := ?jj) ?hS ?he ?_); (case hS => walk_at "hp"); (case he => exact rfl))
  | with_reducible refine i_tup ?_
  | with_reducible refine i_lst ?_
  | with_reducible refine i_bm ?_
  | with_reducible refine i_bm0 ?_
  | with_reducible refine i_m1 ?_
  | with_reducible refine i_sl ?_
  | with_reducible refine i_nopart ?_
  | with_reducible refine i_part ?_
  | with_reducible refine i_int ?_
  | with_reducible refine i_str ?_
  | with_reducible refine i_for ?_
  | with_reducible refine i_yes ?_
  | ((with_reducible refine i_lenL (xs := ?xs) ?hS ?_); (case hS => walk_at "sq"))
  | ((with_reducible refine i_room ?hz ?_); (case hz => walk_at "len"))
  | with_reducible refine i_leT ?_
  | with_reducible refine i_notInS ?_
  | with_reducible refine i_inS ?_
  | with_reducible refine i_find ?_
  | with_reducible refine i_isB ?_
  | with_reducible refine i_max2 ?_
  | with_reducible refine i_min2 ?_
  | with_reducible exact trivial
  | with_reducible refine iteT ?_
  | with_reducible refine iteF ?_
  | with_reducible refine i_isstr ?_
  | with_reducible refine i_lc ?_
  | ((with_reducible refine i_cat (xs := ?xs) (zs := ?zs) ?ha ?hb ?hz ?_); (case ha => walk_at "hp"); (case hb => walk_at "hp"); (case hz => walk_at "len"))
  | ((with_reducible refine i_tyL (xs := ?xs) ?ha ?_); (case ha => walk_at "hp"))
  | with_reducible refine i_list ?_
  | with_reducible refine i_disp ?_
  | with_reducible refine i_pairs0 ?_
  | with_reducible refine i_pairs ?_
  | with_reducible refine i_newK ?_
  | with_reducible refine i_gcons ?_
  | with_reducible refine i_gnil ?_
  | with_reducible refine i_revL ?_
  | with_reducible refine i_rng1 ?_
  | ((with_reducible refine i_wipe ?hw ?_); (case hw => exact rfl))
  | with_reducible refine iteNT ?_
  | with_reducible refine iteNF ?_)
local macro_rules | `(tactic| walk_at "sx") => `(tactic| first
  | walk_at "st"
  | with_reducible refine i_kinit ?_
  | with_reducible refine i_ost ?_
  | with_reducible refine i_mkO ?_
  | with_reducible refine i_callE ?_
  | with_reducible refine i_makeE ?_
  | with_reducible refine i_xf ?_
  | with_reducible refine i_sfld ?_
  | with_reducible refine i_fld ?_
  | ((with_reducible refine i_ixT (xs := ?xs) (v := ?vv) ?hS ?he ?_); (case hS => exact SqT.tup (by walk_at "hp")); (case he => exact rfl))
  | with_reducible refine i_intB ?_
  | with_reducible refine i_runS ?_
  | with_reducible refine i_runN ?_
  | ((with_reducible refine i_xf1 (fs := ?ff) (v := ?vv) ?hx ?hl ?_); (case hx => walk_at "hp"); (case hl => exact rfl))
  | with_reducible refine i_methE ?_
  | with_reducible refine i_meth ?_
  | with_reducible refine i_make ?_
  | ((with_reducible refine i_obj (dx := ?dd) (fs := ?ff) ?hx ?hl ?_); (case hx => walk_at "hp"); (case hl => exact rfl))
  | ((with_reducible refine i_fld1 (C := ?CC) (dx := ?dd) (fs := ?ff) (v := ?vv) ?hx ?cl ?na ?hl ?_); (case hx => walk_at "hp"); (case cl => assumption); (case na => assumption); (case hl => exact rfl)))
local macro_rules | `(tactic| walk_at "sy") => `(tactic| first
  | walk_at "sx"
  | with_reducible refine i_dget ?_
  | with_reducible refine i_dget2 ?_
  | with_reducible refine i_dput ?_
  | with_reducible refine i_din ?_
  | ((with_reducible refine i_aug (x := ?vv) ?hx ?_); (case hx => exact rfl)))
local macro_rules | `(tactic| walk_at "rd") => `(tactic| repeat (walk_at "sy"))
def topS (i : Nat) : Stmt := PySem.Challenge.pw_iceopened_k12_worlds_refused.main.body.getD i (.Pass ⟨0, 0, 0, 0⟩)
abbrev s_is_whole : Stmt := topS 13
theorem sc_is_whole : FnScope ["thing"] ["thing"] (defScope s_is_whole) := ⟨rfl, rfl, rfl, by decide +kernel, rfl, by decide +kernel, by decide +kernel⟩
abbrev s_is_within : Stmt := topS 14
theorem sc_is_within : FnScope ["thing", "low", "high"] ["thing", "low", "high"] (defScope s_is_within) := ⟨rfl, rfl, rfl, by decide +kernel, rfl, by decide +kernel, by decide +kernel⟩
abbrev s_is_name : Stmt := topS 15
theorem sc_is_name : FnScope ["thing"] ["thing"] (defScope s_is_name) := ⟨rfl, rfl, rfl, by decide +kernel, rfl, by decide +kernel, by decide +kernel⟩
abbrev s_all_between : Stmt := topS 16
theorem sc_all_between : FnScope ["text", "low", "high", "sign"] ["text", "low", "high"] (defScope s_all_between) := ⟨rfl, rfl, rfl, by decide +kernel, rfl, by decide +kernel, by decide +kernel⟩
abbrev s_check_number : Stmt := topS 18
theorem sc_check_number : FnScope ["thing", "low", "high"] ["thing", "low", "high"] (defScope s_check_number) := ⟨rfl, rfl, rfl, by decide +kernel, rfl, by decide +kernel, by decide +kernel⟩
abbrev s_check_names : Stmt := topS 33
theorem sc_check_names : FnScope ["things", "thing"] ["things"] (defScope s_check_names) := ⟨rfl, rfl, rfl, by decide +kernel, rfl, by decide +kernel, by decide +kernel⟩
abbrev s_can_be_train : Stmt := topS 34
theorem sc_can_be_train : FnScope ["thing", "vessel"] ["thing"] (defScope s_can_be_train) := ⟨rfl, rfl, rfl, by decide +kernel, rfl, by decide +kernel, by decide +kernel⟩
abbrev s_strength_together : Stmt := topS 35
theorem sc_strength_together : FnScope ["vessels", "thinned", "strengths", "vessel"] ["vessels"] (defScope s_strength_together) := ⟨rfl, rfl, rfl, by decide +kernel, rfl, by decide +kernel, by decide +kernel⟩
abbrev s_check_kinds : Stmt := topS 43
theorem sc_check_kinds : FnScope ["ports", "channels", "breakers", "ships", "each"] ["ports", "channels", "breakers", "ships"] (defScope s_check_kinds) := ⟨rfl, rfl, rfl, by decide +kernel, rfl, by decide +kernel, by decide +kernel⟩
abbrev s_holds_at_most : Stmt := topS 44
theorem sc_holds_at_most : FnScope ["thing", "many"] ["thing", "many"] (defScope s_holds_at_most) := ⟨rfl, rfl, rfl, by decide +kernel, rfl, by decide +kernel, by decide +kernel⟩
abbrev s_check_unlike : Stmt := topS 45
theorem sc_check_unlike : FnScope ["names", "ahead", "name"] ["names"] (defScope s_check_unlike) := ⟨rfl, rfl, rfl, by decide +kernel, rfl, by decide +kernel, by decide +kernel⟩
abbrev s_check_ports : Stmt := topS 46
theorem sc_check_ports : FnScope ["ports", "channels", "breakers", "ships", "wanted", "channel", "breaker", "ship", "port"] ["ports", "channels", "breakers", "ships"] (defScope s_check_ports) := ⟨rfl, rfl, rfl, by decide +kernel, rfl, by decide +kernel, by decide +kernel⟩
abbrev s_cell : Stmt := topS 48
theorem sc_cell : FnScope ["_law_script", "_law_k"] ["_law_script", "_law_k"] (defScope s_cell) := ⟨rfl, rfl, rfl, by decide +kernel, rfl, by decide +kernel, by decide +kernel⟩
abbrev s_box : Stmt := topS 49
theorem sc_box : FnScope ["_law_cell_here"] ["_law_cell_here"] (defScope s_box) := ⟨rfl, rfl, rfl, by decide +kernel, rfl, by decide +kernel, by decide +kernel⟩
abbrev s_take : Stmt := topS 50
theorem sc_take : FnScope ["_law_box_here", "_law_many", "_law_digit", "_law_one", "_law_other"] ["_law_box_here", "_law_many"] (defScope s_take) := ⟨rfl, rfl, rfl, by decide +kernel, rfl, by decide +kernel, by decide +kernel⟩
abbrev s_names : Stmt := topS 51
theorem sc_names : FnScope ["_law_box_here", "_law_many", "_law_letters", "_law_way", "_law_first", "_law_step", "_law_at", "_law_size", "_law_stem", "_law_k"] ["_law_box_here", "_law_many"] (defScope s_names) := ⟨rfl, rfl, rfl, by decide +kernel, rfl, by decide +kernel, by decide +kernel⟩
abbrev s_number : Stmt := topS 52
theorem sc_number : FnScope ["_law_box_here", "_law_low", "_law_high", "_law_way"] ["_law_box_here", "_law_low", "_law_high"] (defScope s_number) := ⟨rfl, rfl, rfl, by decide +kernel, rfl, by decide +kernel, by decide +kernel⟩
abbrev s_odd : Stmt := topS 53
theorem sc_odd : FnScope ["_law_box_here", "_law_some"] ["_law_box_here"] (defScope s_odd) := ⟨rfl, rfl, rfl, by decide +kernel, rfl, by decide +kernel, by decide +kernel⟩
abbrev s_channel_row : Stmt := topS 54
theorem sc_channel_row : FnScope ["_law_box_here", "_law_name", "_law_one", "_law_other", "_law_first", "_law_hours", "_law_depth", "_law_growth"] ["_law_box_here", "_law_name", "_law_one", "_law_other"] (defScope s_channel_row) := ⟨rfl, rfl, rfl, by decide +kernel, rfl, by decide +kernel, by decide +kernel⟩
abbrev s_vessel_row : Stmt := topS 55
theorem sc_vessel_row : FnScope ["_law_box_here", "_law_kind", "_law_name", "_law_ports", "_law_names_here", "_law_numbers"] ["_law_box_here", "_law_kind", "_law_name", "_law_ports"] (defScope s_vessel_row) := ⟨rfl, rfl, rfl, by decide +kernel, rfl, by decide +kernel, by decide +kernel⟩
abbrev s_vessel : Stmt := topS 56
theorem sc_vessel : FnScope ["_law_kind", "_law_row"] ["_law_kind", "_law_row"] (defScope s_vessel) := ⟨rfl, rfl, rfl, by decide +kernel, rfl, by decide +kernel, by decide +kernel⟩
abbrev s_world_rows : Stmt := topS 57
theorem sc_world_rows : FnScope ["_law_box_here", "_law_begin", "_law_many", "_law_ports", "_law_channels", "_law_name", "_law_at", "_law_other", "_law_names_here", "_law_backward", "_law_breakers", "_law_ships"] ["_law_box_here"] (defScope s_world_rows) := ⟨rfl, rfl, rfl, by decide +kernel, rfl, by decide +kernel, by decide +kernel⟩
abbrev s_channel : Stmt := topS 58
theorem sc_channel : FnScope ["_law_row"] ["_law_row"] (defScope s_channel) := ⟨rfl, rfl, rfl, by decide +kernel, rfl, by decide +kernel, by decide +kernel⟩
abbrev s_l_is_name : Stmt := topS 59
theorem sc_l_is_name : FnScope ["_law_thing", "_law_sign"] ["_law_thing"] (defScope s_l_is_name) := ⟨rfl, rfl, rfl, by decide +kernel, rfl, by decide +kernel, by decide +kernel⟩
abbrev s_of_kind : Stmt := topS 60
theorem sc_of_kind : FnScope ["_law_word", "_law_thing"] ["_law_word", "_law_thing"] (defScope s_of_kind) := ⟨rfl, rfl, rfl, by decide +kernel, rfl, by decide +kernel, by decide +kernel⟩
abbrev s_doubled : Stmt := topS 61
theorem sc_doubled : FnScope ["_law_names_here", "_law_at", "_law_name"] ["_law_names_here"] (defScope s_doubled) := ⟨rfl, rfl, rfl, by decide +kernel, rfl, by decide +kernel, by decide +kernel⟩
abbrev s_due : Stmt := topS 62
theorem sc_due : FnScope ["_law_things", "_law_begin", "_law_at", "_law_word", "_law_some", "_law_most", "_law_ports", "_law_channels", "_law_breakers", "_law_ships", "_law_names_here", "_law_wanted", "_law_channel_here", "_law_ship", "_law_strange", "_law_thing", "_law_one", "_law_breaker", "_law_name"] ["_law_things"] (defScope s_due) := ⟨rfl, rfl, rfl, by decide +kernel, rfl, by decide +kernel, by decide +kernel⟩
abbrev s_found : Stmt := topS 63
theorem sc_found : FnScope ["_law_things", "e"] ["_law_things"] (defScope s_found) := ⟨rfl, rfl, rfl, by decide +kernel, rfl, by decide +kernel, by decide +kernel⟩
abbrev s_stranger : Stmt := topS 64
theorem sc_stranger : FnScope ["_law_box_here", "_law_word", "_law_ports", "_law_name", "_law_others", "_law_some", "_law_two"] ["_law_box_here", "_law_word", "_law_ports"] (defScope s_stranger) := ⟨rfl, rfl, rfl, by decide +kernel, rfl, by decide +kernel, by decide +kernel⟩
abbrev s_spoilt : Stmt := topS 65
theorem sc_spoilt : FnScope ["_law_box_here", "_law_things", "_law_at", "_law_way", "_law_word", "_law_odd_here", "_law_found_here", "_law_some", "_law_place", "_law_more", "_law_kinds", "_law_port"] ["_law_box_here", "_law_things"] (defScope s_spoilt) := ⟨rfl, rfl, rfl, by decide +kernel, rfl, by decide +kernel, by decide +kernel⟩
abbrev s_made : Stmt := topS 66
theorem sc_made : FnScope ["_law_rows", "_law_made_here", "_law_row"] ["_law_rows"] (defScope s_made) := ⟨rfl, rfl, rfl, by decide +kernel, rfl, by decide +kernel, by decide +kernel⟩
abbrev s_same : Stmt := topS 67
theorem sc_same : FnScope ["_law_found_here", "_law_due_here"] ["_law_found_here", "_law_due_here"] (defScope s_same) := ⟨rfl, rfl, rfl, by decide +kernel, rfl, by decide +kernel, by decide +kernel⟩
abbrev s_law : Stmt := topS 68
theorem sc_law : FnScope ["_law_script", "_law_k", "_law_box_here", "_law_many", "_law_things", "_law_turn", "_law_others", "_law_some", "_law_due_here"] ["_law_script"] (defScope s_law) := ⟨rfl, rfl, rfl, by decide +kernel, rfl, by decide +kernel, by decide +kernel⟩
abbrev s_NoName___init__ : Stmt := inClass (topS 3) 0
theorem sc_NoName___init__ : FnScope ["self", "found"] ["self", "found"] (defScope s_NoName___init__) := ⟨rfl, rfl, rfl, by decide +kernel, rfl, by decide +kernel, by decide +kernel⟩
abbrev s_NoNumber___init__ : Stmt := inClass (topS 4) 0
theorem sc_NoNumber___init__ : FnScope ["self", "found"] ["self", "found"] (defScope s_NoNumber___init__) := ⟨rfl, rfl, rfl, by decide +kernel, rfl, by decide +kernel, by decide +kernel⟩
abbrev s_Doubled___init__ : Stmt := inClass (topS 5) 0
theorem sc_Doubled___init__ : FnScope ["self", "name"] ["self", "name"] (defScope s_Doubled___init__) := ⟨rfl, rfl, rfl, by decide +kernel, rfl, by decide +kernel, by decide +kernel⟩
abbrev s_NoPort___init__ : Stmt := inClass (topS 6) 0
theorem sc_NoPort___init__ : FnScope ["self", "found"] ["self", "found"] (defScope s_NoPort___init__) := ⟨rfl, rfl, rfl, by decide +kernel, rfl, by decide +kernel, by decide +kernel⟩
abbrev s_NoChannel___init__ : Stmt := inClass (topS 7) 0
theorem sc_NoChannel___init__ : FnScope ["self", "found"] ["self", "found"] (defScope s_NoChannel___init__) := ⟨rfl, rfl, rfl, by decide +kernel, rfl, by decide +kernel, by decide +kernel⟩
abbrev s_NoVessel___init__ : Stmt := inClass (topS 8) 0
theorem sc_NoVessel___init__ : FnScope ["self", "found"] ["self", "found"] (defScope s_NoVessel___init__) := ⟨rfl, rfl, rfl, by decide +kernel, rfl, by decide +kernel, by decide +kernel⟩
abbrev s_NoKind___init__ : Stmt := inClass (topS 9) 0
theorem sc_NoKind___init__ : FnScope ["self", "found"] ["self", "found"] (defScope s_NoKind___init__) := ⟨rfl, rfl, rfl, by decide +kernel, rfl, by decide +kernel, by decide +kernel⟩
abbrev s_NoWorld___init__ : Stmt := inClass (topS 10) 0
theorem sc_NoWorld___init__ : FnScope ["self", "found"] ["self", "found"] (defScope s_NoWorld___init__) := ⟨rfl, rfl, rfl, by decide +kernel, rfl, by decide +kernel, by decide +kernel⟩
abbrev s_Channel___init__ : Stmt := inClass (topS 28) 0
theorem sc_Channel___init__ : FnScope ["self", "name", "one", "other", "hours", "depth", "first", "growth", "most"] ["self", "name", "one", "other", "hours", "depth", "first", "growth", "most"] (defScope s_Channel___init__) := ⟨rfl, rfl, rfl, by decide +kernel, rfl, by decide +kernel, by decide +kernel⟩
abbrev s_Vessel___init__ : Stmt := inClass (topS 29) 0
theorem sc_Vessel___init__ : FnScope ["self", "name", "port", "hour", "strength", "draught"] ["self", "name", "port", "hour", "strength", "draught"] (defScope s_Vessel___init__) := ⟨rfl, rfl, rfl, by decide +kernel, rfl, by decide +kernel, by decide +kernel⟩
abbrev s_Vessel_kind : Stmt := inClass (topS 29) 1
theorem sc_Vessel_kind : FnScope ["self"] ["self"] (defScope s_Vessel_kind) := ⟨rfl, rfl, rfl, by decide +kernel, rfl, by decide +kernel, by decide +kernel⟩
abbrev s_Vessel_thins : Stmt := inClass (topS 29) 2
theorem sc_Vessel_thins : FnScope ["self"] ["self"] (defScope s_Vessel_thins) := ⟨rfl, rfl, rfl, by decide +kernel, rfl, by decide +kernel, by decide +kernel⟩
abbrev s_Breaker___init__ : Stmt := inClass (topS 30) 0
theorem sc_Breaker___init__ : FnScope ["self", "name", "port", "hour", "strength", "draught", "cut"] ["self", "name", "port", "hour", "strength", "draught", "cut"] (defScope s_Breaker___init__) := ⟨rfl, rfl, rfl, by decide +kernel, rfl, by decide +kernel, by decide +kernel⟩
abbrev s_Breaker_kind : Stmt := inClass (topS 30) 1
theorem sc_Breaker_kind : FnScope ["self"] ["self"] (defScope s_Breaker_kind) := ⟨rfl, rfl, rfl, by decide +kernel, rfl, by decide +kernel, by decide +kernel⟩
abbrev s_Breaker_thins : Stmt := inClass (topS 30) 2
theorem sc_Breaker_thins : FnScope ["self"] ["self"] (defScope s_Breaker_thins) := ⟨rfl, rfl, rfl, by decide +kernel, rfl, by decide +kernel, by decide +kernel⟩
abbrev s_Ship___init__ : Stmt := inClass (topS 31) 0
theorem sc_Ship___init__ : FnScope ["self", "name", "port", "goal", "hour", "strength", "draught"] ["self", "name", "port", "goal", "hour", "strength", "draught"] (defScope s_Ship___init__) := ⟨rfl, rfl, rfl, by decide +kernel, rfl, by decide +kernel, by decide +kernel⟩
abbrev s_Ship_kind : Stmt := inClass (topS 31) 1
theorem sc_Ship_kind : FnScope ["self"] ["self"] (defScope s_Ship_kind) := ⟨rfl, rfl, rfl, by decide +kernel, rfl, by decide +kernel, by decide +kernel⟩
abbrev s_Train___init__ : Stmt := inClass (topS 32) 0
theorem sc_Train___init__ : FnScope ["self", "vessels", "leader", "hour", "draught", "vessel"] ["self", "vessels"] (defScope s_Train___init__) := ⟨rfl, rfl, rfl, by decide +kernel, rfl, by decide +kernel, by decide +kernel⟩
abbrev s_Train_kind : Stmt := inClass (topS 32) 1
theorem sc_Train_kind : FnScope ["self"] ["self"] (defScope s_Train_kind) := ⟨rfl, rfl, rfl, by decide +kernel, rfl, by decide +kernel, by decide +kernel⟩
abbrev s_Train_thins : Stmt := inClass (topS 32) 2
theorem sc_Train_thins : FnScope ["self", "vessel"] ["self"] (defScope s_Train_thins) := ⟨rfl, rfl, rfl, by decide +kernel, rfl, by decide +kernel, by decide +kernel⟩
abbrev s_Train_names : Stmt := inClass (topS 32) 3
theorem sc_Train_names : FnScope ["self", "vessel"] ["self"] (defScope s_Train_names) := ⟨rfl, rfl, rfl, by decide +kernel, rfl, by decide +kernel, by decide +kernel⟩
abbrev s_World___init__ : Stmt := inClass (topS 42) 0
theorem sc_World___init__ : FnScope ["self", "begin", "ports", "channels", "breakers", "ships", "vessels", "each"] ["self", "begin", "ports", "channels", "breakers", "ships"] (defScope s_World___init__) := ⟨rfl, rfl, rfl, by decide +kernel, rfl, by decide +kernel, by decide +kernel⟩
abbrev s_World_ports : Stmt := inClass (topS 42) 2
theorem sc_World_ports : FnScope ["self"] ["self"] (defScope s_World_ports) := ⟨rfl, rfl, rfl, by decide +kernel, rfl, by decide +kernel, by decide +kernel⟩
abbrev s_World_channels : Stmt := inClass (topS 42) 3
theorem sc_World_channels : FnScope ["self"] ["self"] (defScope s_World_channels) := ⟨rfl, rfl, rfl, by decide +kernel, rfl, by decide +kernel, by decide +kernel⟩
abbrev s_World_breakers : Stmt := inClass (topS 42) 4
theorem sc_World_breakers : FnScope ["self"] ["self"] (defScope s_World_breakers) := ⟨rfl, rfl, rfl, by decide +kernel, rfl, by decide +kernel, by decide +kernel⟩
abbrev s_World_ships : Stmt := inClass (topS 42) 5
theorem sc_World_ships : FnScope ["self"] ["self"] (defScope s_World_ships) := ⟨rfl, rfl, rfl, by decide +kernel, rfl, by decide +kernel, by decide +kernel⟩
abbrev s_World_vessels : Stmt := inClass (topS 42) 6
theorem sc_World_vessels : FnScope ["self"] ["self"] (defScope s_World_vessels) := ⟨rfl, rfl, rfl, by decide +kernel, rfl, by decide +kernel, by decide +kernel⟩
abbrev s_World_channel : Stmt := inClass (topS 42) 7
theorem sc_World_channel : FnScope ["self", "name"] ["self", "name"] (defScope s_World_channel) := ⟨rfl, rfl, rfl, by decide +kernel, rfl, by decide +kernel, by decide +kernel⟩
abbrev s_World_vessel : Stmt := inClass (topS 42) 8
theorem sc_World_vessel : FnScope ["self", "name"] ["self", "name"] (defScope s_World_vessel) := ⟨rfl, rfl, rfl, by decide +kernel, rfl, by decide +kernel, by decide +kernel⟩

structure Top (K : PySem.W.Frag) (mg : Str → Option Value) where
  a_is_whole : Addr
  d_is_whole : FuncData
  F_is_whole : Fun K "is_whole" "is_whole" s_is_whole a_is_whole d_is_whole
  b_is_whole : Binds K d_is_whole ["thing"] []
  m_is_whole : mg "is_whole" = some (.ref a_is_whole)
  a_is_within : Addr
  d_is_within : FuncData
  F_is_within : Fun K "is_within" "is_within" s_is_within a_is_within d_is_within
  b_is_within : Binds K d_is_within ["thing", "low", "high"] []
  m_is_within : mg "is_within" = some (.ref a_is_within)
  a_is_name : Addr
  d_is_name : FuncData
  F_is_name : Fun K "is_name" "is_name" s_is_name a_is_name d_is_name
  b_is_name : Binds K d_is_name ["thing"] []
  m_is_name : mg "is_name" = some (.ref a_is_name)
  a_all_between : Addr
  d_all_between : FuncData
  F_all_between : Fun K "_all_between" "_all_between" s_all_between a_all_between d_all_between
  b_all_between : Binds K d_all_between ["text", "low", "high"] []
  m_all_between : mg "_all_between" = some (.ref a_all_between)
  a_check_number : Addr
  d_check_number : FuncData
  F_check_number : Fun K "check_number" "check_number" s_check_number a_check_number d_check_number
  b_check_number : Binds K d_check_number ["thing", "low", "high"] []
  m_check_number : mg "check_number" = some (.ref a_check_number)
  a_check_names : Addr
  d_check_names : FuncData
  F_check_names : Fun K "_check_names" "_check_names" s_check_names a_check_names d_check_names
  b_check_names : Binds K d_check_names ["things"] []
  m_check_names : mg "_check_names" = some (.ref a_check_names)
  a_can_be_train : Addr
  d_can_be_train : FuncData
  F_can_be_train : Fun K "_can_be_train" "_can_be_train" s_can_be_train a_can_be_train d_can_be_train
  b_can_be_train : Binds K d_can_be_train ["thing"] []
  m_can_be_train : mg "_can_be_train" = some (.ref a_can_be_train)
  a_strength_together : Addr
  d_strength_together : FuncData
  F_strength_together : Fun K "_strength_together" "_strength_together" s_strength_together a_strength_together d_strength_together
  b_strength_together : Binds K d_strength_together ["vessels"] []
  m_strength_together : mg "_strength_together" = some (.ref a_strength_together)
  a_check_kinds : Addr
  d_check_kinds : FuncData
  F_check_kinds : Fun K "_check_kinds" "_check_kinds" s_check_kinds a_check_kinds d_check_kinds
  b_check_kinds : Binds K d_check_kinds ["ports", "channels", "breakers", "ships"] []
  m_check_kinds : mg "_check_kinds" = some (.ref a_check_kinds)
  a_holds_at_most : Addr
  d_holds_at_most : FuncData
  F_holds_at_most : Fun K "_holds_at_most" "_holds_at_most" s_holds_at_most a_holds_at_most d_holds_at_most
  b_holds_at_most : Binds K d_holds_at_most ["thing", "many"] []
  m_holds_at_most : mg "_holds_at_most" = some (.ref a_holds_at_most)
  a_check_unlike : Addr
  d_check_unlike : FuncData
  F_check_unlike : Fun K "_check_unlike" "_check_unlike" s_check_unlike a_check_unlike d_check_unlike
  b_check_unlike : Binds K d_check_unlike ["names"] []
  m_check_unlike : mg "_check_unlike" = some (.ref a_check_unlike)
  a_check_ports : Addr
  d_check_ports : FuncData
  F_check_ports : Fun K "_check_ports" "_check_ports" s_check_ports a_check_ports d_check_ports
  b_check_ports : Binds K d_check_ports ["ports", "channels", "breakers", "ships"] []
  m_check_ports : mg "_check_ports" = some (.ref a_check_ports)
  a_cell : Addr
  d_cell : FuncData
  F_cell : Fun K "_law_cell" "_law_cell" s_cell a_cell d_cell
  b_cell : Binds K d_cell ["_law_script", "_law_k"] []
  m_cell : mg "_law_cell" = some (.ref a_cell)
  a_box : Addr
  d_box : FuncData
  F_box : Fun K "_law_box" "_law_box" s_box a_box d_box
  b_box : Binds K d_box ["_law_cell_here"] []
  m_box : mg "_law_box" = some (.ref a_box)
  a_take : Addr
  d_take : FuncData
  F_take : Fun K "_law_take" "_law_take" s_take a_take d_take
  b_take : Binds K d_take ["_law_box_here", "_law_many"] []
  m_take : mg "_law_take" = some (.ref a_take)
  a_names : Addr
  d_names : FuncData
  F_names : Fun K "_law_names" "_law_names" s_names a_names d_names
  b_names : Binds K d_names ["_law_box_here", "_law_many"] []
  m_names : mg "_law_names" = some (.ref a_names)
  a_number : Addr
  d_number : FuncData
  F_number : Fun K "_law_number" "_law_number" s_number a_number d_number
  b_number : Binds K d_number ["_law_box_here", "_law_low", "_law_high"] []
  m_number : mg "_law_number" = some (.ref a_number)
  a_odd : Addr
  d_odd : FuncData
  F_odd : Fun K "_law_odd" "_law_odd" s_odd a_odd d_odd
  b_odd : Binds K d_odd ["_law_box_here"] []
  m_odd : mg "_law_odd" = some (.ref a_odd)
  a_channel_row : Addr
  d_channel_row : FuncData
  F_channel_row : Fun K "_law_channel_row" "_law_channel_row" s_channel_row a_channel_row d_channel_row
  b_channel_row : Binds K d_channel_row ["_law_box_here", "_law_name", "_law_one", "_law_other"] []
  m_channel_row : mg "_law_channel_row" = some (.ref a_channel_row)
  a_vessel_row : Addr
  d_vessel_row : FuncData
  F_vessel_row : Fun K "_law_vessel_row" "_law_vessel_row" s_vessel_row a_vessel_row d_vessel_row
  b_vessel_row : Binds K d_vessel_row ["_law_box_here", "_law_kind", "_law_name", "_law_ports"] []
  m_vessel_row : mg "_law_vessel_row" = some (.ref a_vessel_row)
  a_vessel : Addr
  d_vessel : FuncData
  F_vessel : Fun K "_law_vessel" "_law_vessel" s_vessel a_vessel d_vessel
  b_vessel : Binds K d_vessel ["_law_kind", "_law_row"] []
  m_vessel : mg "_law_vessel" = some (.ref a_vessel)
  a_world_rows : Addr
  d_world_rows : FuncData
  F_world_rows : Fun K "_law_world_rows" "_law_world_rows" s_world_rows a_world_rows d_world_rows
  b_world_rows : Binds K d_world_rows ["_law_box_here"] []
  m_world_rows : mg "_law_world_rows" = some (.ref a_world_rows)
  a_channel : Addr
  d_channel : FuncData
  F_channel : Fun K "_law_channel" "_law_channel" s_channel a_channel d_channel
  b_channel : Binds K d_channel ["_law_row"] []
  m_channel : mg "_law_channel" = some (.ref a_channel)
  a_l_is_name : Addr
  d_l_is_name : FuncData
  F_l_is_name : Fun K "_law_is_name" "_law_is_name" s_l_is_name a_l_is_name d_l_is_name
  b_l_is_name : Binds K d_l_is_name ["_law_thing"] []
  m_l_is_name : mg "_law_is_name" = some (.ref a_l_is_name)
  a_of_kind : Addr
  d_of_kind : FuncData
  F_of_kind : Fun K "_law_of_kind" "_law_of_kind" s_of_kind a_of_kind d_of_kind
  b_of_kind : Binds K d_of_kind ["_law_word", "_law_thing"] []
  m_of_kind : mg "_law_of_kind" = some (.ref a_of_kind)
  a_doubled : Addr
  d_doubled : FuncData
  F_doubled : Fun K "_law_doubled" "_law_doubled" s_doubled a_doubled d_doubled
  b_doubled : Binds K d_doubled ["_law_names_here"] []
  m_doubled : mg "_law_doubled" = some (.ref a_doubled)
  a_due : Addr
  d_due : FuncData
  F_due : Fun K "_law_due" "_law_due" s_due a_due d_due
  b_due : Binds K d_due ["_law_things"] []
  m_due : mg "_law_due" = some (.ref a_due)
  a_found : Addr
  d_found : FuncData
  F_found : Fun K "_law_found" "_law_found" s_found a_found d_found
  b_found : Binds K d_found ["_law_things"] []
  m_found : mg "_law_found" = some (.ref a_found)
  a_stranger : Addr
  d_stranger : FuncData
  F_stranger : Fun K "_law_stranger" "_law_stranger" s_stranger a_stranger d_stranger
  b_stranger : Binds K d_stranger ["_law_box_here", "_law_word", "_law_ports"] []
  m_stranger : mg "_law_stranger" = some (.ref a_stranger)
  a_spoilt : Addr
  d_spoilt : FuncData
  F_spoilt : Fun K "_law_spoilt" "_law_spoilt" s_spoilt a_spoilt d_spoilt
  b_spoilt : Binds K d_spoilt ["_law_box_here", "_law_things"] []
  m_spoilt : mg "_law_spoilt" = some (.ref a_spoilt)
  a_made : Addr
  d_made : FuncData
  F_made : Fun K "_law_made" "_law_made" s_made a_made d_made
  b_made : Binds K d_made ["_law_rows"] []
  m_made : mg "_law_made" = some (.ref a_made)
  a_same : Addr
  d_same : FuncData
  F_same : Fun K "_law_same" "_law_same" s_same a_same d_same
  b_same : Binds K d_same ["_law_found_here", "_law_due_here"] []
  m_same : mg "_law_same" = some (.ref a_same)
  a_law : Addr
  d_law : FuncData
  F_law : Fun K "law" "law" s_law a_law d_law
  b_law : Binds K d_law ["_law_script"] []
  m_law : mg "law" = some (.ref a_law)
  a_NoName___init__ : Addr
  d_NoName___init__ : FuncData
  F_NoName___init__ : Fun K "__init__" "NoName.__init__" s_NoName___init__ a_NoName___init__ d_NoName___init__
  b_NoName___init__ : Binds K d_NoName___init__ ["self", "found"] []
  a_NoNumber___init__ : Addr
  d_NoNumber___init__ : FuncData
  F_NoNumber___init__ : Fun K "__init__" "NoNumber.__init__" s_NoNumber___init__ a_NoNumber___init__ d_NoNumber___init__
  b_NoNumber___init__ : Binds K d_NoNumber___init__ ["self", "found"] []
  a_Doubled___init__ : Addr
  d_Doubled___init__ : FuncData
  F_Doubled___init__ : Fun K "__init__" "Doubled.__init__" s_Doubled___init__ a_Doubled___init__ d_Doubled___init__
  b_Doubled___init__ : Binds K d_Doubled___init__ ["self", "name"] []
  a_NoPort___init__ : Addr
  d_NoPort___init__ : FuncData
  F_NoPort___init__ : Fun K "__init__" "NoPort.__init__" s_NoPort___init__ a_NoPort___init__ d_NoPort___init__
  b_NoPort___init__ : Binds K d_NoPort___init__ ["self", "found"] []
  a_NoChannel___init__ : Addr
  d_NoChannel___init__ : FuncData
  F_NoChannel___init__ : Fun K "__init__" "NoChannel.__init__" s_NoChannel___init__ a_NoChannel___init__ d_NoChannel___init__
  b_NoChannel___init__ : Binds K d_NoChannel___init__ ["self", "found"] []
  a_NoVessel___init__ : Addr
  d_NoVessel___init__ : FuncData
  F_NoVessel___init__ : Fun K "__init__" "NoVessel.__init__" s_NoVessel___init__ a_NoVessel___init__ d_NoVessel___init__
  b_NoVessel___init__ : Binds K d_NoVessel___init__ ["self", "found"] []
  a_NoKind___init__ : Addr
  d_NoKind___init__ : FuncData
  F_NoKind___init__ : Fun K "__init__" "NoKind.__init__" s_NoKind___init__ a_NoKind___init__ d_NoKind___init__
  b_NoKind___init__ : Binds K d_NoKind___init__ ["self", "found"] []
  a_NoWorld___init__ : Addr
  d_NoWorld___init__ : FuncData
  F_NoWorld___init__ : Fun K "__init__" "NoWorld.__init__" s_NoWorld___init__ a_NoWorld___init__ d_NoWorld___init__
  b_NoWorld___init__ : Binds K d_NoWorld___init__ ["self", "found"] []
  a_Channel___init__ : Addr
  d_Channel___init__ : FuncData
  F_Channel___init__ : Fun K "__init__" "Channel.__init__" s_Channel___init__ a_Channel___init__ d_Channel___init__
  b_Channel___init__ : Binds K d_Channel___init__ ["self", "name", "one", "other", "hours", "depth", "first", "growth", "most"] []
  a_Vessel___init__ : Addr
  d_Vessel___init__ : FuncData
  F_Vessel___init__ : Fun K "__init__" "Vessel.__init__" s_Vessel___init__ a_Vessel___init__ d_Vessel___init__
  b_Vessel___init__ : Binds K d_Vessel___init__ ["self", "name", "port", "hour", "strength", "draught"] []
  a_Vessel_kind : Addr
  d_Vessel_kind : FuncData
  F_Vessel_kind : Fun K "kind" "Vessel.kind" s_Vessel_kind a_Vessel_kind d_Vessel_kind
  b_Vessel_kind : Binds K d_Vessel_kind ["self"] []
  a_Vessel_thins : Addr
  d_Vessel_thins : FuncData
  F_Vessel_thins : Fun K "thins" "Vessel.thins" s_Vessel_thins a_Vessel_thins d_Vessel_thins
  b_Vessel_thins : Binds K d_Vessel_thins ["self"] []
  a_Breaker___init__ : Addr
  d_Breaker___init__ : FuncData
  F_Breaker___init__ : Fun K "__init__" "Breaker.__init__" s_Breaker___init__ a_Breaker___init__ d_Breaker___init__
  b_Breaker___init__ : Binds K d_Breaker___init__ ["self", "name", "port", "hour", "strength", "draught", "cut"] []
  a_Breaker_kind : Addr
  d_Breaker_kind : FuncData
  F_Breaker_kind : Fun K "kind" "Breaker.kind" s_Breaker_kind a_Breaker_kind d_Breaker_kind
  b_Breaker_kind : Binds K d_Breaker_kind ["self"] []
  a_Breaker_thins : Addr
  d_Breaker_thins : FuncData
  F_Breaker_thins : Fun K "thins" "Breaker.thins" s_Breaker_thins a_Breaker_thins d_Breaker_thins
  b_Breaker_thins : Binds K d_Breaker_thins ["self"] []
  a_Ship___init__ : Addr
  d_Ship___init__ : FuncData
  F_Ship___init__ : Fun K "__init__" "Ship.__init__" s_Ship___init__ a_Ship___init__ d_Ship___init__
  b_Ship___init__ : Binds K d_Ship___init__ ["self", "name", "port", "goal", "hour", "strength", "draught"] []
  a_Ship_kind : Addr
  d_Ship_kind : FuncData
  F_Ship_kind : Fun K "kind" "Ship.kind" s_Ship_kind a_Ship_kind d_Ship_kind
  b_Ship_kind : Binds K d_Ship_kind ["self"] []
  a_Train___init__ : Addr
  d_Train___init__ : FuncData
  F_Train___init__ : Fun K "__init__" "Train.__init__" s_Train___init__ a_Train___init__ d_Train___init__
  b_Train___init__ : Binds K d_Train___init__ ["self", "vessels"] []
  a_Train_kind : Addr
  d_Train_kind : FuncData
  F_Train_kind : Fun K "kind" "Train.kind" s_Train_kind a_Train_kind d_Train_kind
  b_Train_kind : Binds K d_Train_kind ["self"] []
  a_Train_thins : Addr
  d_Train_thins : FuncData
  F_Train_thins : Fun K "thins" "Train.thins" s_Train_thins a_Train_thins d_Train_thins
  b_Train_thins : Binds K d_Train_thins ["self"] []
  a_Train_names : Addr
  d_Train_names : FuncData
  F_Train_names : Fun K "names" "Train.names" s_Train_names a_Train_names d_Train_names
  b_Train_names : Binds K d_Train_names ["self"] []
  a_World___init__ : Addr
  d_World___init__ : FuncData
  F_World___init__ : Fun K "__init__" "World.__init__" s_World___init__ a_World___init__ d_World___init__
  b_World___init__ : Binds K d_World___init__ ["self", "begin", "ports", "channels", "breakers", "ships"] []
  a_World_ports : Addr
  d_World_ports : FuncData
  F_World_ports : Fun K "ports" "World.ports" s_World_ports a_World_ports d_World_ports
  b_World_ports : Binds K d_World_ports ["self"] []
  a_World_channels : Addr
  d_World_channels : FuncData
  F_World_channels : Fun K "channels" "World.channels" s_World_channels a_World_channels d_World_channels
  b_World_channels : Binds K d_World_channels ["self"] []
  a_World_breakers : Addr
  d_World_breakers : FuncData
  F_World_breakers : Fun K "breakers" "World.breakers" s_World_breakers a_World_breakers d_World_breakers
  b_World_breakers : Binds K d_World_breakers ["self"] []
  a_World_ships : Addr
  d_World_ships : FuncData
  F_World_ships : Fun K "ships" "World.ships" s_World_ships a_World_ships d_World_ships
  b_World_ships : Binds K d_World_ships ["self"] []
  a_World_vessels : Addr
  d_World_vessels : FuncData
  F_World_vessels : Fun K "vessels" "World.vessels" s_World_vessels a_World_vessels d_World_vessels
  b_World_vessels : Binds K d_World_vessels ["self"] []
  a_World_channel : Addr
  d_World_channel : FuncData
  F_World_channel : Fun K "channel" "World.channel" s_World_channel a_World_channel d_World_channel
  b_World_channel : Binds K d_World_channel ["self", "name"] []
  a_World_vessel : Addr
  d_World_vessel : FuncData
  F_World_vessel : Fun K "vessel" "World.vessel" s_World_vessel a_World_vessel d_World_vessel
  b_World_vessel : Binds K d_World_vessel ["self", "name"] []
  a_IceError : Addr
  c_IceError : mg "IceError" = some (.ref a_IceError)
  sp_IceError : PySem.W.specialIn K (.ref a_IceError) "__getattribute__" = some (some (.builtin "type.__getattribute__"))
  ty_IceError : PySem.W.typeIn K (.ref a_IceError) = some (.type "type")
  rd_IceError : PySem.W.readsIn K a_IceError (.type "type") = true
  fc_IceError : PySem.W.findCls K (.ref a_IceError) (.type "type") "__init__" = some (.val (.builtin "ValueError.__init__"))
  a_NoName : Addr
  c_NoName : mg "NoName" = some (.ref a_NoName)
  ox_NoName : OexC K a_NoName
  xf_NoName : XfC K a_NoName
  in_NoName : PySem.W.findIn K (.ref a_NoName) "__init__" = some (some (.ref a_NoName___init__))
  tf_NoName : PySem.W.typeIn K (.ref a_NoName___init__) = some (.type "function")
  nf_NoName_found : PySem.W.findIn K (.ref a_NoName) "found" = some none
  a_NoNumber : Addr
  c_NoNumber : mg "NoNumber" = some (.ref a_NoNumber)
  ox_NoNumber : OexC K a_NoNumber
  xf_NoNumber : XfC K a_NoNumber
  in_NoNumber : PySem.W.findIn K (.ref a_NoNumber) "__init__" = some (some (.ref a_NoNumber___init__))
  tf_NoNumber : PySem.W.typeIn K (.ref a_NoNumber___init__) = some (.type "function")
  nf_NoNumber_found : PySem.W.findIn K (.ref a_NoNumber) "found" = some none
  a_Doubled : Addr
  c_Doubled : mg "Doubled" = some (.ref a_Doubled)
  ox_Doubled : OexC K a_Doubled
  xf_Doubled : XfC K a_Doubled
  in_Doubled : PySem.W.findIn K (.ref a_Doubled) "__init__" = some (some (.ref a_Doubled___init__))
  tf_Doubled : PySem.W.typeIn K (.ref a_Doubled___init__) = some (.type "function")
  nf_Doubled_name : PySem.W.findIn K (.ref a_Doubled) "name" = some none
  a_NoPort : Addr
  c_NoPort : mg "NoPort" = some (.ref a_NoPort)
  ox_NoPort : OexC K a_NoPort
  xf_NoPort : XfC K a_NoPort
  in_NoPort : PySem.W.findIn K (.ref a_NoPort) "__init__" = some (some (.ref a_NoPort___init__))
  tf_NoPort : PySem.W.typeIn K (.ref a_NoPort___init__) = some (.type "function")
  nf_NoPort_found : PySem.W.findIn K (.ref a_NoPort) "found" = some none
  a_NoChannel : Addr
  c_NoChannel : mg "NoChannel" = some (.ref a_NoChannel)
  ox_NoChannel : OexC K a_NoChannel
  xf_NoChannel : XfC K a_NoChannel
  in_NoChannel : PySem.W.findIn K (.ref a_NoChannel) "__init__" = some (some (.ref a_NoChannel___init__))
  tf_NoChannel : PySem.W.typeIn K (.ref a_NoChannel___init__) = some (.type "function")
  nf_NoChannel_found : PySem.W.findIn K (.ref a_NoChannel) "found" = some none
  a_NoVessel : Addr
  c_NoVessel : mg "NoVessel" = some (.ref a_NoVessel)
  ox_NoVessel : OexC K a_NoVessel
  xf_NoVessel : XfC K a_NoVessel
  in_NoVessel : PySem.W.findIn K (.ref a_NoVessel) "__init__" = some (some (.ref a_NoVessel___init__))
  tf_NoVessel : PySem.W.typeIn K (.ref a_NoVessel___init__) = some (.type "function")
  nf_NoVessel_found : PySem.W.findIn K (.ref a_NoVessel) "found" = some none
  a_NoKind : Addr
  c_NoKind : mg "NoKind" = some (.ref a_NoKind)
  ox_NoKind : OexC K a_NoKind
  xf_NoKind : XfC K a_NoKind
  in_NoKind : PySem.W.findIn K (.ref a_NoKind) "__init__" = some (some (.ref a_NoKind___init__))
  tf_NoKind : PySem.W.typeIn K (.ref a_NoKind___init__) = some (.type "function")
  nf_NoKind_found : PySem.W.findIn K (.ref a_NoKind) "found" = some none
  a_NoWorld : Addr
  c_NoWorld : mg "NoWorld" = some (.ref a_NoWorld)
  ox_NoWorld : OexC K a_NoWorld
  xf_NoWorld : XfC K a_NoWorld
  in_NoWorld : PySem.W.findIn K (.ref a_NoWorld) "__init__" = some (some (.ref a_NoWorld___init__))
  tf_NoWorld : PySem.W.typeIn K (.ref a_NoWorld___init__) = some (.type "function")
  nf_NoWorld_found : PySem.W.findIn K (.ref a_NoWorld) "found" = some none
  a_Channel : Addr
  c_Channel : mg "Channel" = some (.ref a_Channel)
  cl_Channel : Cls K a_Channel
  mk_Channel : Mk K a_Channel a_Channel___init__
  na_Channel_name : NoAttr K a_Channel "name"
  na_Channel_one : NoAttr K a_Channel "one"
  na_Channel_other : NoAttr K a_Channel "other"
  na_Channel_hours : NoAttr K a_Channel "hours"
  na_Channel_depth : NoAttr K a_Channel "depth"
  na_Channel_first : NoAttr K a_Channel "first"
  na_Channel_growth : NoAttr K a_Channel "growth"
  na_Channel_most : NoAttr K a_Channel "most"
  a_Vessel : Addr
  c_Vessel : mg "Vessel" = some (.ref a_Vessel)
  cl_Vessel : Cls K a_Vessel
  mk_Vessel : Mk K a_Vessel a_Vessel___init__
  ki_Vessel : Kin K a_Vessel a_Vessel___init__
  na_Vessel_name : NoAttr K a_Vessel "name"
  na_Vessel_port : NoAttr K a_Vessel "port"
  na_Vessel_hour : NoAttr K a_Vessel "hour"
  na_Vessel_strength : NoAttr K a_Vessel "strength"
  na_Vessel_draught : NoAttr K a_Vessel "draught"
  me_Vessel_kind : Meth K a_Vessel "kind" a_Vessel_kind
  me_Vessel_thins : Meth K a_Vessel "thins" a_Vessel_thins
  a_Breaker : Addr
  c_Breaker : mg "Breaker" = some (.ref a_Breaker)
  cl_Breaker : Cls K a_Breaker
  mk_Breaker : Mk K a_Breaker a_Breaker___init__
  na_Breaker_name : NoAttr K a_Breaker "name"
  na_Breaker_port : NoAttr K a_Breaker "port"
  na_Breaker_hour : NoAttr K a_Breaker "hour"
  na_Breaker_strength : NoAttr K a_Breaker "strength"
  na_Breaker_draught : NoAttr K a_Breaker "draught"
  na_Breaker_cut : NoAttr K a_Breaker "cut"
  me_Breaker_kind : Meth K a_Breaker "kind" a_Breaker_kind
  me_Breaker_thins : Meth K a_Breaker "thins" a_Breaker_thins
  a_Ship : Addr
  c_Ship : mg "Ship" = some (.ref a_Ship)
  cl_Ship : Cls K a_Ship
  mk_Ship : Mk K a_Ship a_Ship___init__
  na_Ship_name : NoAttr K a_Ship "name"
  na_Ship_port : NoAttr K a_Ship "port"
  na_Ship_hour : NoAttr K a_Ship "hour"
  na_Ship_strength : NoAttr K a_Ship "strength"
  na_Ship_draught : NoAttr K a_Ship "draught"
  na_Ship_goal : NoAttr K a_Ship "goal"
  me_Ship_kind : Meth K a_Ship "kind" a_Ship_kind
  me_Ship_thins : Meth K a_Ship "thins" a_Vessel_thins
  a_Train : Addr
  c_Train : mg "Train" = some (.ref a_Train)
  cl_Train : Cls K a_Train
  mk_Train : Mk K a_Train a_Train___init__
  na_Train_name : NoAttr K a_Train "name"
  na_Train_port : NoAttr K a_Train "port"
  na_Train_hour : NoAttr K a_Train "hour"
  na_Train_strength : NoAttr K a_Train "strength"
  na_Train_draught : NoAttr K a_Train "draught"
  na_Train__vessels : NoAttr K a_Train "_vessels"
  me_Train_kind : Meth K a_Train "kind" a_Train_kind
  me_Train_thins : Meth K a_Train "thins" a_Train_thins
  me_Train_names : Meth K a_Train "names" a_Train_names
  a_World : Addr
  c_World : mg "World" = some (.ref a_World)
  cl_World : Cls K a_World
  mk_World : Mk K a_World a_World___init__
  na_World__begin : NoAttr K a_World "_begin"
  na_World__ports : NoAttr K a_World "_ports"
  na_World__channels : NoAttr K a_World "_channels"
  na_World__breakers : NoAttr K a_World "_breakers"
  na_World__ships : NoAttr K a_World "_ships"
  na_World__channel_of : NoAttr K a_World "_channel_of"
  na_World__vessel_of : NoAttr K a_World "_vessel_of"
  me_World_ports : Meth K a_World "ports" a_World_ports
  me_World_channels : Meth K a_World "channels" a_World_channels
  me_World_breakers : Meth K a_World "breakers" a_World_breakers
  me_World_ships : Meth K a_World "ships" a_World_ships
  me_World_vessels : Meth K a_World "vessels" a_World_vessels
  me_World_channel : Meth K a_World "channel" a_World_channel
  me_World_vessel : Meth K a_World "vessel" a_World_vessel
  ex_NoName_NoNumber : PySem.W.exmOne K (.ref a_NoName) (.ref a_NoNumber) = some false
  ex_NoName_NoWorld : PySem.W.exmOne K (.ref a_NoName) (.ref a_NoWorld) = some false
  ex_NoName_Doubled : PySem.W.exmOne K (.ref a_NoName) (.ref a_Doubled) = some false
  ex_NoName_NoPort : PySem.W.exmOne K (.ref a_NoName) (.ref a_NoPort) = some false
  ex_NoName_IceError : PySem.W.exmOne K (.ref a_NoName) (.ref a_IceError) = some true
  ex_NoNumber_NoNumber : PySem.W.exmOne K (.ref a_NoNumber) (.ref a_NoNumber) = some true
  ex_NoNumber_NoWorld : PySem.W.exmOne K (.ref a_NoNumber) (.ref a_NoWorld) = some false
  ex_NoNumber_Doubled : PySem.W.exmOne K (.ref a_NoNumber) (.ref a_Doubled) = some false
  ex_NoNumber_NoPort : PySem.W.exmOne K (.ref a_NoNumber) (.ref a_NoPort) = some false
  ex_NoNumber_IceError : PySem.W.exmOne K (.ref a_NoNumber) (.ref a_IceError) = some true
  ex_Doubled_NoNumber : PySem.W.exmOne K (.ref a_Doubled) (.ref a_NoNumber) = some false
  ex_Doubled_NoWorld : PySem.W.exmOne K (.ref a_Doubled) (.ref a_NoWorld) = some false
  ex_Doubled_Doubled : PySem.W.exmOne K (.ref a_Doubled) (.ref a_Doubled) = some true
  ex_Doubled_NoPort : PySem.W.exmOne K (.ref a_Doubled) (.ref a_NoPort) = some false
  ex_Doubled_IceError : PySem.W.exmOne K (.ref a_Doubled) (.ref a_IceError) = some true
  ex_NoPort_NoNumber : PySem.W.exmOne K (.ref a_NoPort) (.ref a_NoNumber) = some false
  ex_NoPort_NoWorld : PySem.W.exmOne K (.ref a_NoPort) (.ref a_NoWorld) = some false
  ex_NoPort_Doubled : PySem.W.exmOne K (.ref a_NoPort) (.ref a_Doubled) = some false
  ex_NoPort_NoPort : PySem.W.exmOne K (.ref a_NoPort) (.ref a_NoPort) = some true
  ex_NoPort_IceError : PySem.W.exmOne K (.ref a_NoPort) (.ref a_IceError) = some true
  ex_NoChannel_NoNumber : PySem.W.exmOne K (.ref a_NoChannel) (.ref a_NoNumber) = some false
  ex_NoChannel_NoWorld : PySem.W.exmOne K (.ref a_NoChannel) (.ref a_NoWorld) = some false
  ex_NoChannel_Doubled : PySem.W.exmOne K (.ref a_NoChannel) (.ref a_Doubled) = some false
  ex_NoChannel_NoPort : PySem.W.exmOne K (.ref a_NoChannel) (.ref a_NoPort) = some false
  ex_NoChannel_IceError : PySem.W.exmOne K (.ref a_NoChannel) (.ref a_IceError) = some true
  ex_NoVessel_NoNumber : PySem.W.exmOne K (.ref a_NoVessel) (.ref a_NoNumber) = some false
  ex_NoVessel_NoWorld : PySem.W.exmOne K (.ref a_NoVessel) (.ref a_NoWorld) = some false
  ex_NoVessel_Doubled : PySem.W.exmOne K (.ref a_NoVessel) (.ref a_Doubled) = some false
  ex_NoVessel_NoPort : PySem.W.exmOne K (.ref a_NoVessel) (.ref a_NoPort) = some false
  ex_NoVessel_IceError : PySem.W.exmOne K (.ref a_NoVessel) (.ref a_IceError) = some true
  ex_NoKind_NoNumber : PySem.W.exmOne K (.ref a_NoKind) (.ref a_NoNumber) = some false
  ex_NoKind_NoWorld : PySem.W.exmOne K (.ref a_NoKind) (.ref a_NoWorld) = some false
  ex_NoKind_Doubled : PySem.W.exmOne K (.ref a_NoKind) (.ref a_Doubled) = some false
  ex_NoKind_NoPort : PySem.W.exmOne K (.ref a_NoKind) (.ref a_NoPort) = some false
  ex_NoKind_IceError : PySem.W.exmOne K (.ref a_NoKind) (.ref a_IceError) = some true
  ex_NoWorld_NoNumber : PySem.W.exmOne K (.ref a_NoWorld) (.ref a_NoNumber) = some false
  ex_NoWorld_NoWorld : PySem.W.exmOne K (.ref a_NoWorld) (.ref a_NoWorld) = some true
  ex_NoWorld_Doubled : PySem.W.exmOne K (.ref a_NoWorld) (.ref a_Doubled) = some false
  ex_NoWorld_NoPort : PySem.W.exmOne K (.ref a_NoWorld) (.ref a_NoPort) = some false
  ex_NoWorld_IceError : PySem.W.exmOne K (.ref a_NoWorld) (.ref a_IceError) = some true
  sgc : PySem.W.specialIn K (.builtin "object.__class__") "__get__" = some (some (.builtin "getset_descriptor.__get__"))
  tkc : PySem.W.takesIn K (.builtin "object.__class__") = some true
  ca_Channel : PySem.W.findIn K (.ref a_Channel) "__class__" = some (some (.builtin "object.__class__"))
  mo_Channel : PySem.W.mroIn K a_Channel (.type "object") = some true
  io_Channel_Train : PySem.W.kitOne K (.ref a_Channel) (.ref a_Train) = some false
  io_Channel_Vessel : PySem.W.kitOne K (.ref a_Channel) (.ref a_Vessel) = some false
  io_Channel_Channel : PySem.W.kitOne K (.ref a_Channel) (.ref a_Channel) = some true
  io_Channel_Breaker : PySem.W.kitOne K (.ref a_Channel) (.ref a_Breaker) = some false
  io_Channel_Ship : PySem.W.kitOne K (.ref a_Channel) (.ref a_Ship) = some false
  ca_Vessel : PySem.W.findIn K (.ref a_Vessel) "__class__" = some (some (.builtin "object.__class__"))
  mo_Vessel : PySem.W.mroIn K a_Vessel (.type "object") = some true
  io_Vessel_Train : PySem.W.kitOne K (.ref a_Vessel) (.ref a_Train) = some false
  io_Vessel_Vessel : PySem.W.kitOne K (.ref a_Vessel) (.ref a_Vessel) = some true
  io_Vessel_Channel : PySem.W.kitOne K (.ref a_Vessel) (.ref a_Channel) = some false
  io_Vessel_Breaker : PySem.W.kitOne K (.ref a_Vessel) (.ref a_Breaker) = some false
  io_Vessel_Ship : PySem.W.kitOne K (.ref a_Vessel) (.ref a_Ship) = some false
  ca_Breaker : PySem.W.findIn K (.ref a_Breaker) "__class__" = some (some (.builtin "object.__class__"))
  mo_Breaker : PySem.W.mroIn K a_Breaker (.type "object") = some true
  io_Breaker_Train : PySem.W.kitOne K (.ref a_Breaker) (.ref a_Train) = some false
  io_Breaker_Vessel : PySem.W.kitOne K (.ref a_Breaker) (.ref a_Vessel) = some true
  io_Breaker_Channel : PySem.W.kitOne K (.ref a_Breaker) (.ref a_Channel) = some false
  io_Breaker_Breaker : PySem.W.kitOne K (.ref a_Breaker) (.ref a_Breaker) = some true
  io_Breaker_Ship : PySem.W.kitOne K (.ref a_Breaker) (.ref a_Ship) = some false
  ca_Ship : PySem.W.findIn K (.ref a_Ship) "__class__" = some (some (.builtin "object.__class__"))
  mo_Ship : PySem.W.mroIn K a_Ship (.type "object") = some true
  io_Ship_Train : PySem.W.kitOne K (.ref a_Ship) (.ref a_Train) = some false
  io_Ship_Vessel : PySem.W.kitOne K (.ref a_Ship) (.ref a_Vessel) = some true
  io_Ship_Channel : PySem.W.kitOne K (.ref a_Ship) (.ref a_Channel) = some false
  io_Ship_Breaker : PySem.W.kitOne K (.ref a_Ship) (.ref a_Breaker) = some false
  io_Ship_Ship : PySem.W.kitOne K (.ref a_Ship) (.ref a_Ship) = some true
  ca_Train : PySem.W.findIn K (.ref a_Train) "__class__" = some (some (.builtin "object.__class__"))
  mo_Train : PySem.W.mroIn K a_Train (.type "object") = some true
  io_Train_Train : PySem.W.kitOne K (.ref a_Train) (.ref a_Train) = some true
  io_Train_Vessel : PySem.W.kitOne K (.ref a_Train) (.ref a_Vessel) = some true
  io_Train_Channel : PySem.W.kitOne K (.ref a_Train) (.ref a_Channel) = some false
  io_Train_Breaker : PySem.W.kitOne K (.ref a_Train) (.ref a_Breaker) = some false
  io_Train_Ship : PySem.W.kitOne K (.ref a_Train) (.ref a_Ship) = some false
  ca_World : PySem.W.findIn K (.ref a_World) "__class__" = some (some (.builtin "object.__class__"))
  mo_World : PySem.W.mroIn K a_World (.type "object") = some true
  io_World_Train : PySem.W.kitOne K (.ref a_World) (.ref a_Train) = some false
  io_World_Vessel : PySem.W.kitOne K (.ref a_World) (.ref a_Vessel) = some false
  io_World_Channel : PySem.W.kitOne K (.ref a_World) (.ref a_Channel) = some false
  io_World_Breaker : PySem.W.kitOne K (.ref a_World) (.ref a_Breaker) = some false
  io_World_Ship : PySem.W.kitOne K (.ref a_World) (.ref a_Ship) = some false
  io_Channel_list : PySem.W.kitOne K (.ref a_Channel) (.type "list") = some false
  io_Channel_tuple : PySem.W.kitOne K (.ref a_Channel) (.type "tuple") = some false
  io_Channel_str : PySem.W.kitOne K (.ref a_Channel) (.type "str") = some false
  eq_Channel : PySem.W.findIn K (.ref a_Channel) "__eq__" = some (some (.builtin "object.__eq__"))
  io_Vessel_list : PySem.W.kitOne K (.ref a_Vessel) (.type "list") = some false
  io_Vessel_tuple : PySem.W.kitOne K (.ref a_Vessel) (.type "tuple") = some false
  io_Vessel_str : PySem.W.kitOne K (.ref a_Vessel) (.type "str") = some false
  eq_Vessel : PySem.W.findIn K (.ref a_Vessel) "__eq__" = some (some (.builtin "object.__eq__"))
  io_Breaker_list : PySem.W.kitOne K (.ref a_Breaker) (.type "list") = some false
  io_Breaker_tuple : PySem.W.kitOne K (.ref a_Breaker) (.type "tuple") = some false
  io_Breaker_str : PySem.W.kitOne K (.ref a_Breaker) (.type "str") = some false
  eq_Breaker : PySem.W.findIn K (.ref a_Breaker) "__eq__" = some (some (.builtin "object.__eq__"))
  io_Ship_list : PySem.W.kitOne K (.ref a_Ship) (.type "list") = some false
  io_Ship_tuple : PySem.W.kitOne K (.ref a_Ship) (.type "tuple") = some false
  io_Ship_str : PySem.W.kitOne K (.ref a_Ship) (.type "str") = some false
  eq_Ship : PySem.W.findIn K (.ref a_Ship) "__eq__" = some (some (.builtin "object.__eq__"))
  io_Train_list : PySem.W.kitOne K (.ref a_Train) (.type "list") = some false
  io_Train_tuple : PySem.W.kitOne K (.ref a_Train) (.type "tuple") = some false
  io_Train_str : PySem.W.kitOne K (.ref a_Train) (.type "str") = some false
  eq_Train : PySem.W.findIn K (.ref a_Train) "__eq__" = some (some (.builtin "object.__eq__"))
  io_World_list : PySem.W.kitOne K (.ref a_World) (.type "list") = some false
  io_World_tuple : PySem.W.kitOne K (.ref a_World) (.type "tuple") = some false
  io_World_str : PySem.W.kitOne K (.ref a_World) (.type "str") = some false
  eq_World : PySem.W.findIn K (.ref a_World) "__eq__" = some (some (.builtin "object.__eq__"))
  ib_NoneType_Train : PySem.W.kitOne K (.type "NoneType") (.ref a_Train) = some false
  ib_NoneType_Vessel : PySem.W.kitOne K (.type "NoneType") (.ref a_Vessel) = some false
  ib_NoneType_Channel : PySem.W.kitOne K (.type "NoneType") (.ref a_Channel) = some false
  ib_NoneType_Breaker : PySem.W.kitOne K (.type "NoneType") (.ref a_Breaker) = some false
  ib_NoneType_Ship : PySem.W.kitOne K (.type "NoneType") (.ref a_Ship) = some false
  ib_int_Train : PySem.W.kitOne K (.type "int") (.ref a_Train) = some false
  ib_int_Vessel : PySem.W.kitOne K (.type "int") (.ref a_Vessel) = some false
  ib_int_Channel : PySem.W.kitOne K (.type "int") (.ref a_Channel) = some false
  ib_int_Breaker : PySem.W.kitOne K (.type "int") (.ref a_Breaker) = some false
  ib_int_Ship : PySem.W.kitOne K (.type "int") (.ref a_Ship) = some false
  ib_str_Train : PySem.W.kitOne K (.type "str") (.ref a_Train) = some false
  ib_str_Vessel : PySem.W.kitOne K (.type "str") (.ref a_Vessel) = some false
  ib_str_Channel : PySem.W.kitOne K (.type "str") (.ref a_Channel) = some false
  ib_str_Breaker : PySem.W.kitOne K (.type "str") (.ref a_Breaker) = some false
  ib_str_Ship : PySem.W.kitOne K (.type "str") (.ref a_Ship) = some false
  ib_list_Train : PySem.W.kitOne K (.type "list") (.ref a_Train) = some false
  ib_list_Vessel : PySem.W.kitOne K (.type "list") (.ref a_Vessel) = some false
  ib_list_Channel : PySem.W.kitOne K (.type "list") (.ref a_Channel) = some false
  ib_list_Breaker : PySem.W.kitOne K (.type "list") (.ref a_Breaker) = some false
  ib_list_Ship : PySem.W.kitOne K (.type "list") (.ref a_Ship) = some false
  ib_bool_Train : PySem.W.kitOne K (.type "bool") (.ref a_Train) = some false
  ib_bool_Vessel : PySem.W.kitOne K (.type "bool") (.ref a_Vessel) = some false
  ib_bool_Channel : PySem.W.kitOne K (.type "bool") (.ref a_Channel) = some false
  ib_bool_Breaker : PySem.W.kitOne K (.type "bool") (.ref a_Breaker) = some false
  ib_bool_Ship : PySem.W.kitOne K (.type "bool") (.ref a_Ship) = some false
  ib_dict_Train : PySem.W.kitOne K (.type "dict") (.ref a_Train) = some false
  ib_dict_Vessel : PySem.W.kitOne K (.type "dict") (.ref a_Vessel) = some false
  ib_dict_Channel : PySem.W.kitOne K (.type "dict") (.ref a_Channel) = some false
  ib_dict_Breaker : PySem.W.kitOne K (.type "dict") (.ref a_Breaker) = some false
  ib_dict_Ship : PySem.W.kitOne K (.type "dict") (.ref a_Ship) = some false
  ib_tuple_Train : PySem.W.kitOne K (.type "tuple") (.ref a_Train) = some false
  ib_tuple_Vessel : PySem.W.kitOne K (.type "tuple") (.ref a_Vessel) = some false
  ib_tuple_Channel : PySem.W.kitOne K (.type "tuple") (.ref a_Channel) = some false
  ib_tuple_Breaker : PySem.W.kitOne K (.type "tuple") (.ref a_Breaker) = some false
  ib_tuple_Ship : PySem.W.kitOne K (.type "tuple") (.ref a_Ship) = some false
  t_NAME_MOST : Tok
  c_NAME_MOST : mg "NAME_MOST" = some (.int 8 t_NAME_MOST)
  t_HOURS_MOST : Tok
  c_HOURS_MOST : mg "HOURS_MOST" = some (.int 1000 t_HOURS_MOST)
  t_DEPTH_MOST : Tok
  c_DEPTH_MOST : mg "DEPTH_MOST" = some (.int 1000 t_DEPTH_MOST)
  t_GROWTH_MOST : Tok
  c_GROWTH_MOST : mg "GROWTH_MOST" = some (.int 1000 t_GROWTH_MOST)
  t_THICK_MOST : Tok
  c_THICK_MOST : mg "THICK_MOST" = some (.int 1000000 t_THICK_MOST)
  t_HOUR_MOST : Tok
  c_HOUR_MOST : mg "HOUR_MOST" = some (.int 1000000 t_HOUR_MOST)
  t_STRENGTH_MOST : Tok
  c_STRENGTH_MOST : mg "STRENGTH_MOST" = some (.int 1000000 t_STRENGTH_MOST)
  t_CUT_MOST : Tok
  c_CUT_MOST : mg "CUT_MOST" = some (.int 1000000 t_CUT_MOST)
  t_TRAIN_MOST : Tok
  c_TRAIN_MOST : mg "TRAIN_MOST" = some (.int 6 t_TRAIN_MOST)
  t_BEGIN_MOST : Tok
  c_BEGIN_MOST : mg "BEGIN_MOST" = some (.int 1000000 t_BEGIN_MOST)
  t_PORTS_MOST : Tok
  c_PORTS_MOST : mg "PORTS_MOST" = some (.int 8 t_PORTS_MOST)
  t_CHANNELS_MOST : Tok
  c_CHANNELS_MOST : mg "CHANNELS_MOST" = some (.int 12 t_CHANNELS_MOST)
  t_BREAKERS_MOST : Tok
  c_BREAKERS_MOST : mg "BREAKERS_MOST" = some (.int 4 t_BREAKERS_MOST)
  t_SHIPS_MOST : Tok
  c_SHIPS_MOST : mg "SHIPS_MOST" = some (.int 6 t_SHIPS_MOST)
  n_isinstance : mg "isinstance" = none
  n_int : mg "int" = none
  n_bool : mg "bool" = none
  n_str : mg "str" = none
  n_len : mg "len" = none
  n_list : mg "list" = none
  n_tuple : mg "tuple" = none
  n_min : mg "min" = none
  n_all : mg "all" = none
  n_max : mg "max" = none
  n_range : mg "range" = none
  n_enumerate : mg "enumerate" = none
  n_sum : mg "sum" = none

section
variable {P : Program} {w : World} {K : PySem.W.Frag} {mg : Str → Option Value} {base : Heap}
def spCell (K : PySem.W.Frag) : Sp := fun vs H Q _ => ∃ (a : Addr) (ns : List Int) (k : Int), vs = [.ref a, .int k] ∧ SqL K H a (ns.map V.int) ∧ 0 ≤ k ∧ k ≤ 1000 ∧ ∀ z : Int, Q (.int z) H
theorem ok_cell (T : Top K mg) : FnG P w K mg base CX0 1 T.a_cell T.d_cell ["_law_script", "_law_k"] (spCell K) := by
  refine okG T.F_cell sc_cell (fun vs H Q E h => ?_) (fun cdv A outer s H vs Q E hr hgd h => ?_)
  · obtain ⟨a, ns, k, rfl, _⟩ := h
    rfl
  · obtain ⟨a, ns, k, rfl, hS, k0, hk, q⟩ := h
    obtain ⟨k, rfl⟩ := Int.eq_ofNat_of_zero_le k0
    refine ⟨_, (pss_cons (ps_if (pt_cmpR op_lt (pv 1) (pe_callB c_len (by rfl) T.n_len (by decide +kernel) (pa_cons (pv 0) pa_nil)) (nomark _))
        (pss_one (ps_ret (pe_ix ix_list (pv 0) (pv 1) (fun _ _ => rfl))))
        pss_nil)
      (pss_one (ps_ret (pe_op op_add (pe_op op_mul pe_int (pv 1)) pe_int)))), ?_⟩
    walk_at "rd"
    refine ifs (fun hc => ?_) (fun hc => ?_)
    · walk_at "rd"
      simp only [decide_eq_true_eq, List.length_map] at hc
      have hc' : k < ns.length := by omega
      exact i_ixL hS (atI_nat (by rw [List.getElem?_map, List.getElem?_eq_getElem hc']; rfl)) (q _)
    · walk_at "rd"
      exact q _
def spBox : Sp := fun vs H Q _ => ∃ z : Int, vs = [.int z] ∧ ∀ (p : Addr) (H' : Hp), H p = none → Same H H' → Box H' p 0 → Q (.ref p) H'
theorem ok_box (T : Top K mg) : FnG P w K mg base CX0 1 T.a_box T.d_box ["_law_cell_here"] spBox := by
  refine okG T.F_box sc_box (fun vs H Q E h => ?_) (fun cdv A outer s H vs Q E hr hgd h => ?_)
  · obtain ⟨z, rfl, _⟩ := h
    rfl
  · obtain ⟨z, rfl, q⟩ := h
    refine ⟨_, (pss_one (ps_ret (pe_lst (pa_cons (pe_callB (c_max2) (by rfl) T.n_max (by decide +kernel) (pa_cons pe_int (pa_cons (pe_op op_sub (pv 0) (pe_op op_pow pe_int pe_int)) pa_nil))) (pa_cons (pe_op op_modN (pv 0) pe_int) (pa_cons pe_int pa_nil)))))), ?_⟩
    walk_at "rd"
    (intro p hp; generalize ep : upd _ p _ = J; have N := New.of ep hp; clear ep hp)
    walk_at "rd"
    refine q p _ N.free N.same ⟨_, _, _, N.at_, ?_, Int.fmod_nonneg_of_pos _ (by decide), Int.fmod_lt_of_pos _ (by decide), by omega, by omega⟩
    split <;> omega
theorem sq_bound {z : Int} (h0 : 0 ≤ z) (h1 : z ≤ 1000) : 0 ≤ 104729 * (z + 1) * (z + 1) ∧ 104729 * (z + 1) * (z + 1) ≤ 104729 * 1001 * 1001 := by
  have a : 0 ≤ (z + 1) * (z + 1) := Int.mul_nonneg (by omega) (by omega)
  have b : (z + 1) * (z + 1) ≤ 1001 * 1001 := Int.mul_le_mul (by omega) (by omega) (by omega) (by omega)
  rw [Int.mul_assoc]
  omega
def spTake : Sp := fun vs H Q _ => ∃ (b : Addr) (m : Int) (n : Nat), vs = [.ref b, .int m] ∧ Box H b n ∧ n ≤ 900 ∧ 0 < m ∧ m.natAbs < 2 ^ 100 ∧
  ∀ (d : Int) (H' : Hp), 0 ≤ d → d < m → But b H H' → Box H' b (n + 1) → Q (.int d) H'
theorem ok_take (T : Top K mg) : FnG P w K mg base CX0 1 T.a_take T.d_take ["_law_box_here", "_law_many"] spTake := by
  refine okG T.F_take sc_take (fun vs H Q E h => ?_) (fun cdv A outer s H vs Q E hr hgd h => ?_)
  · obtain ⟨b, m, n, rfl, _⟩ := h
    rfl
  · obtain ⟨b, m, n, rfl, ⟨x, y, z, hb, x0, y0, y1, z0, z1⟩, hn, m0, m1, q⟩ := h
    refine ⟨_, (pss_cons (ps_if (pt_cmpR op_gt (pe_ix ix_list (pv 0) pe_int (fun _ _ => rfl)) pe_int (nomark _))
        (pss_cons (ps_set (i := 2) sc_take.nd rfl (by first | exact Or.inl rfl | exact Or.inr rfl) (pe_op op_modN (pe_ix ix_list (pv 0) pe_int (fun _ _ => rfl)) (pv 1)))
      (pss_cons (ps_asg (pe_op op_fdivW (pe_ix ix_list (pv 0) pe_int (fun _ _ => rfl)) (pv 1)) (pg_sub (pv 0) pe_int set_list))
      (pss_one (ps_ret (pv 2)))))
        pss_nil)
      (pss_cons (ps_asg (pe_op op_add (pe_ix ix_list (pv 0) pe_int (fun _ _ => rfl)) pe_int) (pg_sub (pv 0) pe_int set_list))
      (pss_cons (ps_set (i := 3) sc_take.nd rfl (by first | exact Or.inl rfl | exact Or.inr rfl) (pe_op op_modN (pe_op op_pow (pe_op op_add (pe_op op_add (pe_ix ix_list (pv 0) pe_int (fun _ _ => rfl)) (pe_op op_mul pe_int (pe_ix ix_list (pv 0) pe_int (fun _ _ => rfl)))) pe_int) pe_int) pe_int))
      (pss_cons (ps_set (i := 4) sc_take.nd rfl (by first | exact Or.inl rfl | exact Or.inr rfl) (pe_op op_modN (pe_op op_pow (pe_op op_add (pe_op op_add (pe_op op_fdivN (pv 3) pe_int) (pe_op op_mul (pe_op op_mul pe_int (pe_ix ix_list (pv 0) pe_int (fun _ _ => rfl))) (pe_ix ix_list (pv 0) pe_int (fun _ _ => rfl)))) pe_int) pe_int) pe_int))
      (pss_one (ps_ret (pe_op op_modN (pe_op op_add (pe_op op_fdivN (pv 3) pe_int) (pe_op op_mul pe_int (pe_op op_fdivN (pv 4) pe_int))) (pv 1)))))))), ?_⟩
    walk_at "rd"
    refine ifs (fun hc => ?_) (fun hc => ?_)
    · have hx : 0 < x := of_decide_eq_true hc
      walk_at "rd"
      refine i_rI (wide_div m0 m1 (by decide) (by decide)) ?_
      walk_at "rd"
      exact q _ _ (Int.fmod_nonneg_of_pos _ m0) (Int.fmod_lt_of_pos _ m0) (But.set _) ⟨_, _, _, upd_same, Int.ediv_nonneg x0 (by omega), y0, y1, z0, by omega⟩
    · walk_at "rd"
      have o0 : 0 ≤ ((y + 7919 * (z + 1) + 101) ^ Int.toNat 5).fmod 2147483647 := Int.fmod_nonneg_of_pos _ (by decide)
      have o1 : ((y + 7919 * (z + 1) + 101) ^ Int.toNat 5).fmod 2147483647 < 2147483647 := Int.fmod_lt_of_pos _ (by decide)
      have s2 := sq_bound z0 (by omega)
      refine i_rI ⟨by decide, by decide, ?_⟩ ?_
      · generalize ((y + 7919 * (z + 1) + 101) ^ Int.toNat 5).fmod 2147483647 = o at o0 o1 ⊢
        rw [Int.fdiv_eq_ediv_of_nonneg _ (by decide)]
        omega
      · walk_at "rd"
        exact q _ _ (Int.fmod_nonneg_of_pos _ m0) (Int.fmod_lt_of_pos _ m0) (But.set _) ⟨_, _, _, upd_same, x0, y0, y1, by omega, by omega⟩
end

section
variable {P : Program} {w : World} {K : PySem.W.Frag} {mg : Str → Option Value} {base : Heap}
def spBetween : Sp := fun vs H Q _ => ∃ (s lo hi : Str) (l h : Nat), vs = [.str s, .str lo, .str hi] ∧ tl lo = [l] ∧ tl hi = [h] ∧ Q (.bl (decide (∀ c ∈ tl s, l ≤ c ∧ c ≤ h))) H
theorem ok_all_between (T : Top K mg) : FnG P w K mg base CX0 1 T.a_all_between T.d_all_between ["text", "low", "high"] spBetween := by
  refine okG T.F_all_between sc_all_between (fun vs H Q E h => ?_) (fun cdv A outer s H vs Q E hr hgd h => ?_)
  · obtain ⟨s, lo, hi, l, h, rfl, _⟩ := h
    rfl
  · obtain ⟨s, lo, hi, l, h, rfl, hl, hh, q⟩ := h
    refine ⟨_, (pss_cons (ps_for PassesOwn.never rfl (pi_str (pv 0)) (pg_name (i := 3) sc_all_between.nd rfl (by first | exact Or.inl rfl | exact Or.inr rfl))
        (pss_one (ps_if (pt_not (pt_chain o_leT o_leT (pv 1) (pv 3) (pv 2)))
        (pss_one (ps_ret pe_bl))
        pss_nil)))
      (pss_one (ps_ret pe_bl))), ?_⟩
    walk_at "rd"
    refine ⟨.str s, rfl, s, rfl, for_text (fun i σ H' => H' = H ∧ (∃ v, σ = [some (.str s), some (.str lo), some (.str hi), v]) ∧ ∀ c ∈ (tl s).take i, l ≤ c ∧ c ≤ h) ⟨rfl, ⟨none, rfl⟩, by simp⟩ ?_ ?_⟩
    · rintro i c σ H' hc ⟨rfl, ⟨v, rfl⟩, hi'⟩
      have mem : c ∈ tl s := List.mem_of_getElem? hc
      have no : ¬ (l ≤ c ∧ c ≤ h) → Q (.bl false) H' := fun n => by rw [decide_eq_false (fun z => n (z c mem))] at q; exact q
      walk_at "rd"
      have e1 : (tl { cps := #[c] } < tl lo) ↔ c < l := by rw [hl]; exact one_lt c l
      have e2 : (tl hi < tl { cps := #[c] }) ↔ h < c := by rw [hh]; exact one_lt h c
      simp only [e1]
      refine ifs (fun h1 => ?_) (fun h1 => ?_)
      · walk_at "rd"
        simp only [e2]
        refine ifs (fun h2 => ?_) (fun h2 => ?_)
        · walk_at "rd"
          exact no (by simp at h1 h2; omega)
        · refine ⟨rfl, ⟨_, rfl⟩, take_all hi' hc ?_⟩
          simp at h1 h2; omega
      · walk_at "rd"
        exact no (by simp at h1; omega)
    · rintro σ H' ⟨rfl, ⟨v, rfl⟩, hi'⟩
      walk_at "rd"
      rw [List.take_length] at hi'
      rw [decide_eq_true hi'] at q
      exact q
end

section
variable {P : Program} {w : World} {K : PySem.W.Frag} {mg : Str → Option Value} {base : Heap}
def spWhole : Sp := fun vs H Q _ => ∃ v, vs = [v] ∧ Th H v ∧ Q (.bl (isW v)) H
theorem ok_is_whole (T : Top K mg) : FnG P w K mg base CX0 1 T.a_is_whole T.d_is_whole ["thing"] spWhole := by
  refine okG T.F_is_whole sc_is_whole (fun vs H Q E h => ?_) (fun cdv A outer s H vs Q E hr hgd h => ?_)
  · obtain ⟨v, rfl, _⟩ := h
    rfl
  · obtain ⟨v, rfl, th, q⟩ := h
    obtain ⟨n, ty, k1, k2, k3⟩ := th.ty (K := K)
    refine ⟨_, (pss_one (ps_ret (pe_and (pe_callB c_isi (by rfl) T.n_isinstance (by decide +kernel) (pa_cons (pv 0) (pa_cons (pe_bltn (v := .ty "int") (by rfl) T.n_int (by decide +kernel) rfl) pa_nil))) (pe_one (pe_not (pe_callB c_isi (by rfl) T.n_isinstance (by decide +kernel) (pa_cons (pv 0) (pa_cons (pe_bltn (v := .ty "bool") (by rfl) T.n_bool (by decide +kernel) rfl) pa_nil)))))))), ?_⟩
    walk_at "rd"
    refine i_isi ty k1 ?_
    walk_at "rd"
    refine ifs (fun h1 => ?_) (fun h1 => ?_)
    · walk_at "rd"
      refine i_isi ty k2 ?_
      walk_at "rd"
      have e : isW v = !decide (n = "bool") := by
        by_cases z : n = "bool"
        · obtain ⟨b, rfl⟩ := k3 z
          rw [decide_eq_true z]; rfl
        · rw [decide_eq_false z] at h1 ⊢
          simpa using h1
      rw [← e]
      exact q
    · have e : isW v = false := by simp at h1; exact h1.1
      rw [e] at q
      exact q
def spWithin : Sp := fun vs H Q _ => ∃ (v : V) (lo hi : Int), vs = [v, .int lo, .int hi] ∧ Th H v ∧ Q (.bl (inB lo hi v)) H
theorem ok_is_within (T : Top K mg) : FnG P w K mg base CX0 2 T.a_is_within T.d_is_within ["thing", "low", "high"] spWithin := by
  have G_is_whole := ok_is_whole (P := P) (w := w) (base := base) T
  refine okG T.F_is_within sc_is_within (fun vs H Q E h => ?_) (fun cdv A outer s H vs Q E hr hgd h => ?_)
  · obtain ⟨v, lo, hi, rfl, _⟩ := h
    rfl
  · obtain ⟨v, lo, hi, rfl, th, q⟩ := h
    refine ⟨_, (pss_one (ps_ret (pe_and (g_call G_is_whole (hr.mono (by decide)) hgd (by rfl) T.m_is_whole T.F_is_whole.kp T.b_is_whole .nil pass0 (pa_cons (pv 0) pa_nil)) (pe_one (pe_chain op_le op_le (pv 1) (pv 0) (pv 2)))))), ?_⟩
    walk_at "rd"
    refine ⟨v, rfl, th, ?_⟩
    walk_at "rd"
    refine ifs (fun h1 => ?_) (fun h1 => ?_)
    · obtain ⟨i, rfl⟩ : ∃ i, v = .int i := by cases v <;> first | exact ⟨_, rfl⟩ | cases h1
      have e : inB lo hi (.int i) = (decide (lo ≤ i) && decide (i ≤ hi)) := rfl
      rw [e] at q
      walk_at "rd"
      refine ifs (fun h2 => ?_) (fun h2 => ?_)
      · walk_at "rd"
        rw [h2] at q
        exact q
      · rw [h2] at q
        exact q
    · have e : inB lo hi v = false := by cases v <;> first | rfl | cases h1
      rw [e] at q
      exact q
/-- what is no text, an object too -/
def NoT (K : PySem.W.Frag) (H : Hp) (v : V) : Prop := ∃ t, TyX K H v t ∧ PySem.W.kitOne K t (.type "str") = some false ∧ isN v = false
def spName (K : PySem.W.Frag) : Sp := fun vs H Q _ => ∃ v, vs = [v] ∧ (Th H v ∨ NoT K H v) ∧ Q (.bl (isN v)) H
theorem ok_is_name (T : Top K mg) : FnG P w K mg base CX0 2 T.a_is_name T.d_is_name ["thing"] (spName K) := by
  have G_all_between := ok_all_between (P := P) (w := w) (base := base) T
  refine okG T.F_is_name sc_is_name (fun vs H Q E h => ?_) (fun cdv A outer s H vs Q E hr hgd h => ?_)
  · obtain ⟨v, rfl, _⟩ := h
    rfl
  · obtain ⟨v, rfl, th, q⟩ := h
    refine ⟨_, (pss_cons (ps_if (PW.pt (pw_or (pt_not (pt_val (pe_callB c_isi (by rfl) T.n_isinstance (by decide +kernel) (pa_cons (pv 0) (pa_cons (pe_bltn (v := .ty "str") (by rfl) T.n_str (by decide +kernel) rfl) pa_nil))))) (pw_or1 (pt_not (pt_chain op_le op_le pe_int (pe_callB c_lenS (by rfl) T.n_len (by decide +kernel) (pa_cons (pv 0) pa_nil)) (pe_glob (v := .int 8) (by rfl) T.c_NAME_MOST ⟨_, rfl⟩))))))
        (pss_one (ps_ret pe_bl))
        pss_nil)
      (pss_one (ps_ret (g_call G_all_between (hr.mono (by decide)) hgd (by rfl) T.m_all_between T.F_all_between.kp T.b_all_between .nil pass0 (pa_cons (pv 0) (pa_cons pe_str (pa_cons pe_str pa_nil))))))), ?_⟩
    rcases th with (⟨s, rfl, hs⟩ | ⟨n, hn⟩) | ⟨t, ty, kk, en⟩
    · have hz : s.length ≤ sizeLine := sz_of (by omega)
      have e : isN (.str s) = decide (1 ≤ s.length ∧ s.length ≤ 8 ∧ ∀ c ∈ tl s, 97 ≤ c ∧ c ≤ 122) := rfl
      rw [e] at q
      walk_at "rd"
      refine i_isi ty_str (b := true) (by decide +kernel) ?_
      walk_at "rd"
      refine i_lenS hz ?_
      walk_at "rd"
      refine ifs (fun h1 => ?_) (fun h1 => ?_)
      · walk_at "rd"
        refine ifs (fun h2 => ?_) (fun h2 => ?_)
        · walk_at "rd"
          rw [decide_eq_false (fun z => by simp at h1 h2; omega)] at q
          exact q
        · walk_at "rd"
          refine ⟨s, _, _, 97, 122, rfl, by decide +kernel, by decide +kernel, ?_⟩
          have e2 : decide (1 ≤ s.length ∧ s.length ≤ 8 ∧ ∀ c ∈ tl s, 97 ≤ c ∧ c ≤ 122) = decide (∀ c ∈ tl s, 97 ≤ c ∧ c ≤ 122) := by
            rw [decide_eq_decide]
            exact ⟨fun z => z.2.2, fun z => ⟨by simp at h1 h2; omega, by simp at h1 h2; omega, z⟩⟩
          rw [e2] at q
          exact q
      · walk_at "rd"
        rw [decide_eq_false (fun z => by simp at h1; omega)] at q
        exact q
    · rw [hn.isN] at q
      walk_at "rd"
      refine i_isi hn.tyx hn.noStr ?_
      walk_at "rd"
      exact q
    · rw [en] at q
      walk_at "rd"
      refine i_isiC ty kk ?_
      walk_at "rd"
      exact q
end

section
variable {P : Program} {w : World} {K : PySem.W.Frag} {mg : Str → Option Value} {base : Heap}
theorem ok_NoName___init__ (T : Top K mg) : FnOk P w K mg base CX0 1 T.a_NoName___init__ T.d_NoName___init__ ["self", "found"] (spErr K "found") := by
  refine T.F_NoName___init__.ok sc_NoName___init__ (fun vs H Q E h => ?_) (fun cdv A outer s H vs Q E hr h => ?_)
  · obtain ⟨a, C, v, rfl, _⟩ := h
    rfl
  · obtain ⟨a, C, v, rfl, O, hno, ha, q⟩ := h
    refine ⟨_, (pss_cons (ps_expr (pe_kinit (by rfl) T.c_IceError T.sp_IceError T.ty_IceError T.rd_IceError T.fc_IceError (pa_cons (pv 0) (pa_cons pe_str pa_nil))))
      (pss_one (ps_ost (pv 0) (pv 1)))), ?_⟩
    walk_at "rd"
    refine ⟨a, C, _, rfl, by show 1 ≤ 1000; decide, O, ha, ?_⟩
    walk_at "rd"
    exact ⟨a, C, rfl, O, hno, .inl ⟨ha, q⟩⟩

theorem ok_NoNumber___init__ (T : Top K mg) : FnOk P w K mg base CX0 1 T.a_NoNumber___init__ T.d_NoNumber___init__ ["self", "found"] (spErr K "found") := by
  refine T.F_NoNumber___init__.ok sc_NoNumber___init__ (fun vs H Q E h => ?_) (fun cdv A outer s H vs Q E hr h => ?_)
  · obtain ⟨a, C, v, rfl, _⟩ := h
    rfl
  · obtain ⟨a, C, v, rfl, O, hno, ha, q⟩ := h
    refine ⟨_, (pss_cons (ps_expr (pe_kinit (by rfl) T.c_IceError T.sp_IceError T.ty_IceError T.rd_IceError T.fc_IceError (pa_cons (pv 0) (pa_cons pe_str pa_nil))))
      (pss_one (ps_ost (pv 0) (pv 1)))), ?_⟩
    walk_at "rd"
    refine ⟨a, C, _, rfl, by show 1 ≤ 1000; decide, O, ha, ?_⟩
    walk_at "rd"
    exact ⟨a, C, rfl, O, hno, .inl ⟨ha, q⟩⟩

theorem ok_Doubled___init__ (T : Top K mg) : FnOk P w K mg base CX0 1 T.a_Doubled___init__ T.d_Doubled___init__ ["self", "name"] (spErr K "name") := by
  refine T.F_Doubled___init__.ok sc_Doubled___init__ (fun vs H Q E h => ?_) (fun cdv A outer s H vs Q E hr h => ?_)
  · obtain ⟨a, C, v, rfl, _⟩ := h
    rfl
  · obtain ⟨a, C, v, rfl, O, hno, ha, q⟩ := h
    refine ⟨_, (pss_cons (ps_expr (pe_kinit (by rfl) T.c_IceError T.sp_IceError T.ty_IceError T.rd_IceError T.fc_IceError (pa_cons (pv 0) (pa_cons pe_str pa_nil))))
      (pss_one (ps_ost (pv 0) (pv 1)))), ?_⟩
    walk_at "rd"
    refine ⟨a, C, _, rfl, by show 1 ≤ 1000; decide, O, ha, ?_⟩
    walk_at "rd"
    exact ⟨a, C, rfl, O, hno, .inl ⟨ha, q⟩⟩

theorem ok_NoKind___init__ (T : Top K mg) : FnOk P w K mg base CX0 1 T.a_NoKind___init__ T.d_NoKind___init__ ["self", "found"] (spErr K "found") := by
  refine T.F_NoKind___init__.ok sc_NoKind___init__ (fun vs H Q E h => ?_) (fun cdv A outer s H vs Q E hr h => ?_)
  · obtain ⟨a, C, v, rfl, _⟩ := h
    rfl
  · obtain ⟨a, C, v, rfl, O, hno, ha, q⟩ := h
    refine ⟨_, (pss_cons (ps_expr (pe_kinit (by rfl) T.c_IceError T.sp_IceError T.ty_IceError T.rd_IceError T.fc_IceError (pa_cons (pv 0) (pa_cons pe_str pa_nil))))
      (pss_one (ps_ost (pv 0) (pv 1)))), ?_⟩
    walk_at "rd"
    refine ⟨a, C, _, rfl, by show 1 ≤ 1000; decide, O, ha, ?_⟩
    walk_at "rd"
    exact ⟨a, C, rfl, O, hno, .inl ⟨ha, q⟩⟩

theorem ok_NoPort___init__ (T : Top K mg) : FnOk P w K mg base CX0 1 T.a_NoPort___init__ T.d_NoPort___init__ ["self", "found"] (spErr K "found") := by
  refine T.F_NoPort___init__.ok sc_NoPort___init__ (fun vs H Q E h => ?_) (fun cdv A outer s H vs Q E hr h => ?_)
  · obtain ⟨a, C, v, rfl, _⟩ := h
    rfl
  · obtain ⟨a, C, v, rfl, O, hno, ha, q⟩ := h
    refine ⟨_, (pss_cons (ps_expr (pe_kinit (by rfl) T.c_IceError T.sp_IceError T.ty_IceError T.rd_IceError T.fc_IceError (pa_cons (pv 0) (pa_cons pe_str pa_nil))))
      (pss_one (ps_ost (pv 0) (pv 1)))), ?_⟩
    walk_at "rd"
    refine ⟨a, C, _, rfl, by show 1 ≤ 1000; decide, O, ha, ?_⟩
    walk_at "rd"
    exact ⟨a, C, rfl, O, hno, .inl ⟨ha, q⟩⟩

theorem ok_NoWorld___init__ (T : Top K mg) : FnOk P w K mg base CX0 1 T.a_NoWorld___init__ T.d_NoWorld___init__ ["self", "found"] (spErr K "found") := by
  refine T.F_NoWorld___init__.ok sc_NoWorld___init__ (fun vs H Q E h => ?_) (fun cdv A outer s H vs Q E hr h => ?_)
  · obtain ⟨a, C, v, rfl, _⟩ := h
    rfl
  · obtain ⟨a, C, v, rfl, O, hno, ha, q⟩ := h
    refine ⟨_, (pss_cons (ps_expr (pe_kinit (by rfl) T.c_IceError T.sp_IceError T.ty_IceError T.rd_IceError T.fc_IceError (pa_cons (pv 0) (pa_cons pe_str pa_nil))))
      (pss_one (ps_ost (pv 0) (pv 1)))), ?_⟩
    walk_at "rd"
    refine ⟨a, C, _, rfl, by show 1 ≤ 1000; decide, O, ha, ?_⟩
    walk_at "rd"
    exact ⟨a, C, rfl, O, hno, .inl ⟨ha, q⟩⟩

end
end Ice

set_option Elab.async false
set_option linter.all false
set_option maxRecDepth 100000
set_option maxHeartbeats 4000000
namespace Ice
open PySem PySem.Spec PyProof.Rows L2 TL
/-! side conditions, heaps, one step of a reading, and many -/
local macro_rules | `(tactic| walk_at "hp") => `(tactic| first | assumption | exact upd_same | exact New.at_ (by assumption) | (refine keepU ?_ (by assumption); walk_at "hp") | (refine New.app (by assumption) ?_; walk_at "hp") | (refine Same.app (by assumption) ?_; walk_at "hp") | (refine But.app (by assumption) (by assumption) ?_; walk_at "hp"))
local macro_rules | `(tactic| walk_at "sq") => `(tactic| first | assumption | exact SqL.lst (by walk_at "hp") | exact L2.Same.seq (New.same (by assumption)) (by assumption) | exact L2.Same.seq (by assumption) (by assumption))
local macro_rules | `(tactic| walk_at "len") => `(tactic| first | assumption | (simp only [List.length_cons, List.length_nil, List.length_append, List.length_map]; decide) | (refine Ice.sz_of ?_; simp only [List.length_cons, List.length_nil, List.length_append, List.length_map]; omega))
local macro_rules | `(tactic| walk_at "fresh") => `(tactic| (simp only [List.map_append, List.map_cons, List.map_nil, List.nil_append, List.cons_append]; decide +kernel))
local macro_rules | `(tactic| walk_at "sd") => `(tactic| first | assumption | (show _ ≠ _; omega) | exact Or.inl ⟨by omega, by omega⟩ | exact Or.inr ⟨by omega, by omega⟩ | exact ⟨by decide, by decide⟩ | exact ⟨by decide, by decide, by decide⟩ | exact ⟨by omega, by omega, by omega⟩)
/-! one step of a reading, and many -/
local macro_rules | `(tactic| walk_at "st") => `(tactic| first
  | with_reducible refine i_seq ?_
  | with_reducible refine i_if ?_
  | with_reducible refine i_next ?_
  | with_reducible refine i_ret ?_
  | with_reducible refine i_retN ?_
  | with_reducible refine i_drop ?_
  | with_reducible refine i_asg ?_
  | with_reducible refine i_gname ?_
  | with_reducible refine i_gsub ?_
  | ((with_reducible refine i_var (v := ?vv) ?hv ?_); (case hv => exact rfl))
  | with_reducible refine i_c ?_
  | with_reducible refine i_op ?_
  | with_reducible refine i_un ?_
  | with_reducible refine i_test ?_
  | with_reducible refine i_tB ?_
  | with_reducible refine i_and ?_
  | with_reducible refine i_or ?_
  | with_reducible refine i_not ?_
  | with_reducible refine i_andV ?_
  | with_reducible refine i_orV ?_
  | with_reducible refine i_notV ?_
  | with_reducible refine i_ifE ?_
  | with_reducible refine i_chain ?_
  | with_reducible refine i_bl ?_
  | with_reducible refine i_nil ?_
  | with_reducible refine i_cons ?_
  | with_reducible refine i_call ?_
  | with_reducible refine i_cb ?_
  | with_reducible refine i_rI0 ?_
  | with_reducible refine i_rU ?_
  | ((with_reducible refine i_rEq ?hs ?_); (case hs => exact rfl))
  | ((with_reducible refine i_rNe ?hs ?_); (case hs => exact rfl))
  | ((with_reducible refine i_rI ?hc ?_); (case hc => walk_at "sd"))
  | ((with_reducible refine i_ixL (xs := ?xs) (v := ?vv) ?hS ?he ?_); (case hS => walk_at "sq"); (case he => exact rfl))
  | ((with_reducible refine i_setL (xs := ?xs) (j := ?jj) ?hS ?he ?_); (case hS => walk_at "hp"); (case he => exact rfl))
  | with_reducible refine i_tup ?_
  | with_reducible refine i_lst ?_
  | with_reducible refine i_bm ?_
  | with_reducible refine i_bm0 ?_
  | with_reducible refine i_m1 ?_
  | with_reducible refine i_sl ?_
  | with_reducible refine i_nopart ?_
  | with_reducible refine i_part ?_
  | with_reducible refine i_int ?_
  | with_reducible refine i_str ?_
  | with_reducible refine i_for ?_
  | with_reducible refine i_yes ?_
  | ((with_reducible refine i_lenL (xs := ?xs) ?hS ?_); (case hS => walk_at "sq"))
  | ((with_reducible refine i_room ?hz ?_); (case hz => walk_at "len"))
  | with_reducible refine i_leT ?_
  | with_reducible refine i_notInS ?_
  | with_reducible refine i_inS ?_
  | with_reducible refine i_find ?_
  | with_reducible refine i_isB ?_
  | with_reducible refine i_max2 ?_
  | with_reducible refine i_min2 ?_
  | with_reducible exact trivial
  | with_reducible refine iteT ?_
  | with_reducible refine iteF ?_
  | with_reducible refine i_isstr ?_
  | with_reducible refine i_lc ?_
  | ((with_reducible refine i_cat (xs := ?xs) (zs := ?zs) ?ha ?hb ?hz ?_); (case ha => walk_at "hp"); (case hb => walk_at "hp"); (case hz => walk_at "len"))
  | ((with_reducible refine i_tyL (xs := ?xs) ?ha ?_); (case ha => walk_at "hp"))
  | with_reducible refine i_list ?_
  | with_reducible refine i_disp ?_
  | with_reducible refine i_pairs0 ?_
  | with_reducible refine i_pairs ?_
  | with_reducible refine i_newK ?_
  | with_reducible refine i_gcons ?_
  | with_reducible refine i_gnil ?_
  | with_reducible refine i_revL ?_
  | with_reducible refine i_rng1 ?_
  | ((with_reducible refine i_wipe ?hw ?_); (case hw => exact rfl))
  | with_reducible refine iteNT ?_
  | with_reducible refine iteNF ?_)
local macro_rules | `(tactic| walk_at "sx") => `(tactic| first
  | walk_at "st"
  | with_reducible refine i_kinit ?_
  | with_reducible refine i_ost ?_
  | with_reducible refine i_mkO ?_
  | with_reducible refine i_callE ?_
  | with_reducible refine i_makeE ?_
  | with_reducible refine i_xf ?_
  | with_reducible refine i_sfld ?_
  | with_reducible refine i_fld ?_
  | ((with_reducible refine i_ixT (xs := ?xs) (v := ?vv) ?hS ?he ?_); (case hS => exact SqT.tup (by walk_at "hp")); (case he => exact rfl))
  | with_reducible refine i_intB ?_
  | with_reducible refine i_runS ?_
  | with_reducible refine i_runN ?_
  | ((with_reducible refine i_xf1 (fs := ?ff) (v := ?vv) ?hx ?hl ?_); (case hx => walk_at "hp"); (case hl => exact rfl))
  | with_reducible refine i_methE ?_
  | with_reducible refine i_meth ?_
  | with_reducible refine i_make ?_
  | ((with_reducible refine i_obj (dx := ?dd) (fs := ?ff) ?hx ?hl ?_); (case hx => walk_at "hp"); (case hl => exact rfl))
  | ((with_reducible refine i_fld1 (C := ?CC) (dx := ?dd) (fs := ?ff) (v := ?vv) ?hx ?cl ?na ?hl ?_); (case hx => walk_at "hp"); (case cl => assumption); (case na => assumption); (case hl => exact rfl)))
local macro_rules | `(tactic| walk_at "sy") => `(tactic| first
  | walk_at "sx"
  | with_reducible refine i_dget ?_
  | with_reducible refine i_dget2 ?_
  | with_reducible refine i_dput ?_
  | with_reducible refine i_din ?_
  | ((with_reducible refine i_aug (x := ?vv) ?hx ?_); (case hx => exact rfl)))
local macro_rules | `(tactic| walk_at "rd") => `(tactic| repeat (walk_at "sy"))

section
variable {P : Program} {w : World} {K : PySem.W.Frag} {mg : Str → Option Value} {base : Heap}
def bad (v : V) : Bool := !isN v
def spNames (K : PySem.W.Frag) (C : Addr) : Sp := fun vs H Q E => ∃ (p : Addr) (xs : List V), vs = [.ref p] ∧ H p = some (.lst xs) ∧ (∀ v ∈ xs, Th H v) ∧
  ((xs.find? bad = none → Q .non H) ∧ ∀ v, xs.find? bad = some v → ∀ d, H d = none → E (.ref C) (some d) (upd H d (.xd [(Str.ofString "found", v)])))
theorem find_take {xs : List V} {i : Nat} {v : V} (h : (xs.take i).find? bad = none) (hi : xs[i]? = some v) : (bad v = true → xs.find? bad = some v) ∧ (bad v = false → (xs.take (i + 1)).find? bad = none) := by
  have e : xs.take (i + 1) = xs.take i ++ [v] := by rw [List.take_add_one, hi]; rfl
  refine ⟨fun z => ?_, fun z => ?_⟩
  · have e2 : xs = xs.take i ++ v :: xs.drop (i + 1) := by
      have hl := (List.getElem?_eq_some_iff.mp hi)
      rw [← hl.2, ← List.drop_eq_getElem_cons hl.1, List.take_append_drop]
    rw [e2, List.find?_append, h, List.find?_cons, z]; rfl
  · rw [e, List.find?_append, h, List.find?_cons, z]; rfl
theorem ok_check_names (T : Top K mg) : FnG P w K mg base (L2.CX P w) 3 T.a_check_names T.d_check_names ["things"] (spNames K T.a_NoName) := by
  have G_is_name := ok_is_name (P := P) (w := w) (base := base) T
  have G_NoName___init__ := ok_NoName___init__ (P := P) (w := w) (base := base) T
  refine okGX T.F_check_names sc_check_names (fun vs H Q E h => ?_) (fun cdv A outer s H vs Q E hr hgd h => ?_)
  · obtain ⟨p, xs, rfl, _⟩ := h
    rfl
  · obtain ⟨p, xs, rfl, hp, th, q0, q1⟩ := h
    have G_NoName___init__ := ok_NoName___init__ (P := P) (w := w) (base := base) T
    refine ⟨_, (pss_one (ps_for (passes_of rfl) rfl (pi_list (pv 0)) (pg_name (i := 1) sc_check_names.nd rfl (by first | exact Or.inl rfl | exact Or.inr rfl))
        (pss_one (ps_if (pt_not (pt_val (g_call G_is_name (hr.mono (by decide)) hgd (by rfl) T.m_is_name T.F_is_name.kp T.b_is_name .nil pass0 (pa_cons (pv 1) pa_nil))))
        (pss_one (ps_raise rfl (takes_of rfl rfl rfl rfl) (pmk_oex T.ox_NoName T.in_NoName T.tf_NoName G_NoName___init__ (hr.mono (by decide)) T.b_NoName___init__ .nil pass0 (by rfl) T.c_NoName (pa_cons (pv 1) pa_nil))))
        pss_nil)))), ?_⟩
    walk_at "rd"
    refine ⟨p, rfl, ⟨_, SqL.lst hp⟩, ?_⟩
    refine for_list (K := K) (a := p) (xs := xs) (fun i σ H' => H' = H ∧ (∃ v, σ = [some (.ref p), v]) ∧ (xs.take i).find? bad = none) ⟨rfl, ⟨none, rfl⟩, rfl⟩ (fun i σ H' _ h => by rw [h.1]; exact SqL.lst hp) ?_ ?_
    · rintro i v σ H' hi ⟨rfl, ⟨_, rfl⟩, hf⟩
      obtain ⟨f1, f2⟩ := find_take hf hi
      walk_at "rd"
      refine ⟨v, rfl, .inl (th v (List.mem_of_getElem? hi)), ?_⟩
      walk_at "rd"
      refine ifs (fun h1 => ?_) (fun h1 => ?_)
      · walk_at "rd"
        exact i_mkE T.ox_NoName T.nf_NoName_found (q1 v (f1 h1))
      · exact ⟨rfl, ⟨_, rfl⟩, f2 (by simpa [bad] using h1)⟩
    · rintro σ H' ⟨rfl, ⟨_, rfl⟩, hf⟩
      walk_at "rd"
      rw [List.take_length] at hf
      exact q0 hf
def spNumber (K : PySem.W.Frag) (C : Addr) : Sp := fun vs H Q E => ∃ (v : V) (lo hi : Int), vs = [v, .int lo, .int hi] ∧ Th H v ∧
  ((inB lo hi v = true → Q .non H) ∧ (inB lo hi v = false → ∀ d, H d = none → E (.ref C) (some d) (upd H d (.xd [(Str.ofString "found", v)]))))
theorem ok_check_number (T : Top K mg) : FnG P w K mg base (L2.CX P w) 3 T.a_check_number T.d_check_number ["thing", "low", "high"] (spNumber K T.a_NoNumber) := by
  have G_is_within := ok_is_within (P := P) (w := w) (base := base) T
  have G_NoNumber___init__ := ok_NoNumber___init__ (P := P) (w := w) (base := base) T
  refine okGX T.F_check_number sc_check_number (fun vs H Q E h => ?_) (fun cdv A outer s H vs Q E hr hgd h => ?_)
  · obtain ⟨v, lo, hi, rfl, _⟩ := h
    rfl
  · obtain ⟨v, lo, hi, rfl, th, q0, q1⟩ := h
    have G_NoNumber___init__ := ok_NoNumber___init__ (P := P) (w := w) (base := base) T
    refine ⟨_, (pss_one (ps_if (pt_not (pt_val (g_call G_is_within (hr.mono (by decide)) hgd (by rfl) T.m_is_within T.F_is_within.kp T.b_is_within .nil pass0 (pa_cons (pv 0) (pa_cons (pv 1) (pa_cons (pv 2) pa_nil))))))
        (pss_one (ps_raise rfl (takes_of rfl rfl rfl rfl) (pmk_oex T.ox_NoNumber T.in_NoNumber T.tf_NoNumber G_NoNumber___init__ (hr.mono (by decide)) T.b_NoNumber___init__ .nil pass0 (by rfl) T.c_NoNumber (pa_cons (pv 0) pa_nil))))
        pss_nil)), ?_⟩
    walk_at "rd"
    refine ⟨v, lo, hi, rfl, th, ?_⟩
    walk_at "rd"
    refine ifs (fun h1 => ?_) (fun h1 => ?_)
    · walk_at "rd"
      exact i_mkE T.ox_NoNumber T.nf_NoNumber_found (q1 (by simpa using h1))
    · exact q0 (by simpa using h1)
end

/-- what comes of names and numbers: a vessel, or what is refused -/
inductive ResV
  | made | name (v : V) | number (v : V)
def offB (z : V × Int × Int) : Bool := !inB z.2.1 z.2.2 z.1
def resV (names : List V) (nums : List (V × Int × Int)) : ResV :=
  match names.find? bad with
  | some v => .name v
  | none => match nums.find? offB with
    | some z => .number z.1
    | none => .made
section
variable {P : Program} {w : World} {K : PySem.W.Frag} {mg : Str → Option Value} {base : Heap}
def fldV (n p h s d : V) : List (Str × V) := [(Str.ofString "name", n), (Str.ofString "port", p), (Str.ofString "hour", h), (Str.ofString "strength", s), (Str.ofString "draught", d)]
/-- what is wanted of each outcome -/
def WantsV (x : Addr) (r : ResV) (cN cR : Addr) (E : XK) (H : Hp) (made : Prop) : Prop := match r with
  | .made => made
  | .name v => ∀ d H', But x H H' → H' d = some (.xd [(Str.ofString "found", v)]) → E (.ref cN) (some d) H'
  | .number v => ∀ d H', But x H H' → H' d = some (.xd [(Str.ofString "found", v)]) → E (.ref cR) (some d) H'
/-- what is known of the class of an object that is being made -/
structure KnV (K : PySem.W.Frag) (C : Addr) : Prop where
  cl : Cls K C
  n1 : NoAttr K C "name"
  n2 : NoAttr K C "port"
  n3 : NoAttr K C "hour"
  n4 : NoAttr K C "strength"
  n5 : NoAttr K C "draught"
def spInitV (K : PySem.W.Frag) (cN cR : Addr) : Sp := fun vs H Q E => ∃ (x C dx : Addr) (n p h s d : V) (fs0 : List (Str × V)), vs = [.ref x, n, p, h, s, d] ∧ H x = some (.ins C dx fs0) ∧ (fs0 = [] ∨ ∃ v0, fs0 = [(Str.ofString "_vessels", v0)]) ∧ KnV K C ∧ (∀ v ∈ [n, p, h, s, d], Th H v) ∧
  WantsV x (resV [n, p] [(h, 0, 1000000), (s, 0, 1000000), (d, 0, 1000)]) cN cR E H (∀ H', But x H H' → H' x = some (.ins C dx (fs0 ++ fldV n p h s d)) → Q .non H')
theorem ok_Vessel___init__ (T : Top K mg) : FnG P w K mg base (L2.CX P w) 4 T.a_Vessel___init__ T.d_Vessel___init__ ["self", "name", "port", "hour", "strength", "draught"] (spInitV K T.a_NoName T.a_NoNumber) := by
  have G_check_names := ok_check_names (P := P) (w := w) (base := base) T
  have G_check_number := ok_check_number (P := P) (w := w) (base := base) T
  refine okGX T.F_Vessel___init__ sc_Vessel___init__ (fun vs H Q E h => ?_) (fun cdv A outer s H vs Q E hr hgd h => ?_)
  · obtain ⟨x, C, dx, n, p, h, s, d, fs0, rfl, _⟩ := h
    rfl
  · obtain ⟨x, C, dx, n, p, h, s', d, fs0, rfl, hx, hfs, kn, th, q⟩ := h
    have thn := th n (by simp); have thp := th p (by simp); have thh := th h (by simp); have ths := th s' (by simp); have thd := th d (by simp)
    refine ⟨_, (pss_cons (ps_expr (g_callE (E := WE _) G_check_names (hr.mono (by decide)) hgd (by rfl) T.m_check_names T.F_check_names.kp T.b_check_names .nil (passAt (takes_of rfl rfl rfl rfl)) (pa_cons (pe_lst (pa_cons (pv 1) (pa_cons (pv 2) pa_nil))) pa_nil)))
      (pss_cons (ps_expr (g_callE (E := WE _) G_check_number (hr.mono (by decide)) hgd (by rfl) T.m_check_number T.F_check_number.kp T.b_check_number .nil (passAt (takes_of rfl rfl rfl rfl)) (pa_cons (pv 3) (pa_cons pe_int (pa_cons (pe_glob (v := .int 1000000) (by rfl) T.c_HOUR_MOST ⟨_, rfl⟩) pa_nil)))))
      (pss_cons (ps_expr (g_callE (E := WE _) G_check_number (hr.mono (by decide)) hgd (by rfl) T.m_check_number T.F_check_number.kp T.b_check_number .nil (passAt (takes_of rfl rfl rfl rfl)) (pa_cons (pv 4) (pa_cons pe_int (pa_cons (pe_glob (v := .int 1000000) (by rfl) T.c_STRENGTH_MOST ⟨_, rfl⟩) pa_nil)))))
      (pss_cons (ps_expr (g_callE (E := WE _) G_check_number (hr.mono (by decide)) hgd (by rfl) T.m_check_number T.F_check_number.kp T.b_check_number .nil (passAt (takes_of rfl rfl rfl rfl)) (pa_cons (pv 5) (pa_cons pe_int (pa_cons (pe_glob (v := .int 1000) (by rfl) T.c_DEPTH_MOST ⟨_, rfl⟩) pa_nil)))))
      (pss_cons (ps_fld (pv 0) (pv 1) rfl)
      (pss_cons (ps_fld (pv 0) (pv 2) rfl)
      (pss_cons (ps_fld (pv 0) (pv 3) rfl)
      (pss_cons (ps_fld (pv 0) (pv 4) rfl)
      (pss_one (ps_fld (pv 0) (pv 5) rfl)))))))))), ?_⟩
    walk_at "rd"
    (intro p1 hp1; generalize ep1 : upd _ p1 _ = J; have N := New.of ep1 hp1; clear ep1 hp1)
    walk_at "rd"
    have xp : x ≠ p1 := ne_of_none hx N.free
    refine ⟨p1, [n, p], rfl, N.at_, ?_, ?_, ?_⟩
    · intro v hv
      simp at hv
      rcases hv with rfl | rfl
      · exact thn.same N.same
      · exact thp.same N.same
    · intro nb
      unfold resV at q
      rw [nb] at q
      dsimp only at q
      walk_at "rd"
      refine ⟨h, _, _, rfl, thh.same N.same, fun b1 => ?_, fun b1 dd hd => ?_⟩
      · walk_at "rd"
        rw [List.find?_cons_of_neg (by show ¬ (!inB 0 1000000 h) = true; rw [b1]; decide)] at q
        refine ⟨s', _, _, rfl, ths.same N.same, fun b2 => ?_, fun b2 dd hd => ?_⟩
        · walk_at "rd"
          rw [List.find?_cons_of_neg (by show ¬ (!inB 0 1000000 s') = true; rw [b2]; decide)] at q
          refine ⟨d, _, _, rfl, thd.same N.same, fun b3 => ?_, fun b3 dd hd => ?_⟩
          · rw [List.find?_cons_of_neg (by show ¬ (!inB 0 1000 d) = true; rw [b3]; decide), List.find?_nil] at q
            have hx0 : J x = some (.ins C dx fs0) := N.app hx
            walk_at "rd"
            rcases hfs with rfl | ⟨v0, rfl⟩
            all_goals
              (refine i_store hx0 kn.cl kn.n1 (by simp) (by walk_at "fresh") ?_
               walk_at "rd"
               refine i_store upd_same kn.cl kn.n2 (by simp) (by walk_at "fresh") ?_
               walk_at "rd"
               refine i_store upd_same kn.cl kn.n3 (by simp) (by walk_at "fresh") ?_
               walk_at "rd"
               refine i_store upd_same kn.cl kn.n4 (by simp) (by walk_at "fresh") ?_
               walk_at "rd"
               refine i_store upd_same kn.cl kn.n5 (by simp) (by walk_at "fresh") ?_
               refine q _ ?_ upd_same
               intro b u nb hb
               repeat rw [upd_ne nb]
               exact N.app hb)
          · rw [List.find?_cons_of_pos (by show (!inB 0 1000 d) = true; rw [b3]; decide)] at q
            exact q dd _ (Ice.Same.but (N.same.trans (Same.new _ hd))) upd_same
        · rw [List.find?_cons_of_pos (by show (!inB 0 1000000 s') = true; rw [b2]; decide)] at q
          exact q dd _ (Ice.Same.but (N.same.trans (Same.new _ hd))) upd_same
      · rw [List.find?_cons_of_pos (by show (!inB 0 1000000 h) = true; rw [b1]; decide)] at q
        exact q dd _ (Ice.Same.but (N.same.trans (Same.new _ hd))) upd_same
    · intro v hv dd hd
      unfold resV at q
      rw [hv] at q
      exact q dd _ (Ice.Same.but (N.same.trans (Same.new _ hd))) upd_same
end

/-- what comes of eight things: a channel, or what is refused -/
inductive Res
  | made | name (v : V) | doubled (v : V) | number (v : V)
def inV6 (f m : V) : Bool := match f with
  | .int lo => inB lo 1000000 m
  | _ => false
def resC (n o t h d f g m : V) : Res :=
  match [n, o, t].find? bad with
  | some v => .name v
  | none => if o = t then .doubled o else if inB 1 1000 h = false then .number h else if inB 0 1000 d = false then .number d
    else if inB 0 1000000 f = false then .number f else if inB 0 1000 g = false then .number g else if inV6 f m = false then .number m else .made
section
variable {P : Program} {w : World} {K : PySem.W.Frag} {mg : Str → Option Value} {base : Heap}
def fldC (n o t h d f g m : V) : List (Str × V) := [(Str.ofString "name", n), (Str.ofString "one", o), (Str.ofString "other", t), (Str.ofString "hours", h), (Str.ofString "depth", d), (Str.ofString "first", f), (Str.ofString "growth", g), (Str.ofString "most", m)]
/-- what is wanted of each outcome -/
def Wants (r : Res) (cN cD cR : Addr) (E : XK) (H : Hp) (made : Prop) : Prop := match r with
  | .made => made
  | .name v => ∀ d H', Same H H' → H' d = some (.xd [(Str.ofString "found", v)]) → E (.ref cN) (some d) H'
  | .doubled v => ∀ d H', Same H H' → H' d = some (.xd [(Str.ofString "name", v)]) → E (.ref cD) (some d) H'
  | .number v => ∀ d H', Same H H' → H' d = some (.xd [(Str.ofString "found", v)]) → E (.ref cR) (some d) H'
def spInitC (C cN cD cR : Addr) : Sp := fun vs H Q E => ∃ (x dx : Addr) (n o t h d f g m : V), vs = [.ref x, n, o, t, h, d, f, g, m] ∧ H x = some (.ins C dx []) ∧ (∀ v ∈ [n, o, t, h, d, f, g, m], Th H v) ∧
  Wants (resC n o t h d f g m) cN cD cR E H (∀ H', But x H H' → H' x = some (.ins C dx (fldC n o t h d f g m)) → Q .non H')
theorem name_of {H : Hp} {v : V} (h : bad v = false) : ∃ s, v = .str s := by
  cases v <;> first | exact ⟨_, rfl⟩ | cases h
theorem ok_Channel___init__ (T : Top K mg) : FnG P w K mg base (L2.CX P w) 4 T.a_Channel___init__ T.d_Channel___init__ ["self", "name", "one", "other", "hours", "depth", "first", "growth", "most"] (spInitC T.a_Channel T.a_NoName T.a_Doubled T.a_NoNumber) := by
  have G_check_names := ok_check_names (P := P) (w := w) (base := base) T
  have G_check_number := ok_check_number (P := P) (w := w) (base := base) T
  have G_Doubled___init__ := ok_Doubled___init__ (P := P) (w := w) (base := base) T
  refine okGX T.F_Channel___init__ sc_Channel___init__ (fun vs H Q E h => ?_) (fun cdv A outer s H vs Q E hr hgd h => ?_)
  · obtain ⟨x, dx, n, o, t, h, d, f, g, m, rfl, _⟩ := h
    rfl
  · obtain ⟨x, dx, n, o, t, h, d, f, g, m, rfl, hx, th, q⟩ := h
    have G_Doubled___init__ := ok_Doubled___init__ (P := P) (w := w) (base := base) T
    have thn := th n (by simp); have tho := th o (by simp); have tht := th t (by simp); have thh := th h (by simp)
    have thd := th d (by simp); have thf := th f (by simp); have thg := th g (by simp); have thm := th m (by simp)
    refine ⟨_, (pss_cons (ps_expr (g_callE (E := WE _) G_check_names (hr.mono (by decide)) hgd (by rfl) T.m_check_names T.F_check_names.kp T.b_check_names .nil (passAt (takes_of rfl rfl rfl rfl)) (pa_cons (pe_lst (pa_cons (pv 1) (pa_cons (pv 2) (pa_cons (pv 3) pa_nil)))) pa_nil)))
      (pss_cons (ps_if (pt_cmpR op_eq (pv 2) (pv 3) (nomark _))
        (pss_one (ps_raise rfl (takes_of rfl rfl rfl rfl) (pmk_oex T.ox_Doubled T.in_Doubled T.tf_Doubled G_Doubled___init__ (hr.mono (by decide)) T.b_Doubled___init__ .nil pass0 (by rfl) T.c_Doubled (pa_cons (pv 2) pa_nil))))
        pss_nil)
      (pss_cons (ps_expr (g_callE (E := WE _) G_check_number (hr.mono (by decide)) hgd (by rfl) T.m_check_number T.F_check_number.kp T.b_check_number .nil (passAt (takes_of rfl rfl rfl rfl)) (pa_cons (pv 4) (pa_cons pe_int (pa_cons (pe_glob (v := .int 1000) (by rfl) T.c_HOURS_MOST ⟨_, rfl⟩) pa_nil)))))
      (pss_cons (ps_expr (g_callE (E := WE _) G_check_number (hr.mono (by decide)) hgd (by rfl) T.m_check_number T.F_check_number.kp T.b_check_number .nil (passAt (takes_of rfl rfl rfl rfl)) (pa_cons (pv 5) (pa_cons pe_int (pa_cons (pe_glob (v := .int 1000) (by rfl) T.c_DEPTH_MOST ⟨_, rfl⟩) pa_nil)))))
      (pss_cons (ps_expr (g_callE (E := WE _) G_check_number (hr.mono (by decide)) hgd (by rfl) T.m_check_number T.F_check_number.kp T.b_check_number .nil (passAt (takes_of rfl rfl rfl rfl)) (pa_cons (pv 6) (pa_cons pe_int (pa_cons (pe_glob (v := .int 1000000) (by rfl) T.c_THICK_MOST ⟨_, rfl⟩) pa_nil)))))
      (pss_cons (ps_expr (g_callE (E := WE _) G_check_number (hr.mono (by decide)) hgd (by rfl) T.m_check_number T.F_check_number.kp T.b_check_number .nil (passAt (takes_of rfl rfl rfl rfl)) (pa_cons (pv 7) (pa_cons pe_int (pa_cons (pe_glob (v := .int 1000) (by rfl) T.c_GROWTH_MOST ⟨_, rfl⟩) pa_nil)))))
      (pss_cons (ps_expr (g_callE (E := WE _) G_check_number (hr.mono (by decide)) hgd (by rfl) T.m_check_number T.F_check_number.kp T.b_check_number .nil (passAt (takes_of rfl rfl rfl rfl)) (pa_cons (pv 8) (pa_cons (pv 6) (pa_cons (pe_glob (v := .int 1000000) (by rfl) T.c_THICK_MOST ⟨_, rfl⟩) pa_nil)))))
      (pss_cons (ps_fld (pv 0) (pv 1) rfl)
      (pss_cons (ps_fld (pv 0) (pv 2) rfl)
      (pss_cons (ps_fld (pv 0) (pv 3) rfl)
      (pss_cons (ps_fld (pv 0) (pv 4) rfl)
      (pss_cons (ps_fld (pv 0) (pv 5) rfl)
      (pss_cons (ps_fld (pv 0) (pv 6) rfl)
      (pss_cons (ps_fld (pv 0) (pv 7) rfl)
      (pss_one (ps_fld (pv 0) (pv 8) rfl)))))))))))))))), ?_⟩
    walk_at "rd"
    (intro p hp; generalize ep : upd _ p _ = J; have N := New.of ep hp; clear ep hp)
    walk_at "rd"
    have xp : x ≠ p := ne_of_none hx N.free
    refine ⟨p, [n, o, t], rfl, N.at_, ?_, ?_, ?_⟩
    · intro v hv
      simp at hv
      rcases hv with rfl | rfl | rfl
      · exact thn.same N.same
      · exact tho.same N.same
      · exact tht.same N.same
    · intro nb
      obtain ⟨bo, bt⟩ : bad o = false ∧ bad t = false := by simp at nb; exact ⟨nb.2.1, nb.2.2⟩
      obtain ⟨so, rfl⟩ := name_of (H := H) bo
      obtain ⟨st, rfl⟩ := name_of (H := H) bt
      unfold resC at q
      rw [nb] at q
      walk_at "rd"
      refine ifs (fun h1 => ?_) (fun h1 => ?_)
      · walk_at "rd"
        dsimp only at q
        rw [if_pos (of_decide_eq_true h1)] at q
        exact i_mkE T.ox_Doubled T.nf_Doubled_name (fun d hd => q d _ (N.same.trans (Same.new _ hd)) upd_same)
      · walk_at "rd"
        dsimp only at q
        rw [if_neg (of_decide_eq_false h1)] at q
        refine ⟨h, 1, 1000, rfl, thh.same N.same, fun b1 => ?_, fun b1 d hd => ?_⟩
        · walk_at "rd"
          rw [if_neg (by rw [b1]; simp)] at q
          refine ⟨d, 0, 1000, rfl, thd.same N.same, fun b2 => ?_, fun b2 d hd => ?_⟩
          · walk_at "rd"
            rw [if_neg (by rw [b2]; simp)] at q
            refine ⟨f, 0, 1000000, rfl, thf.same N.same, fun b3 => ?_, fun b3 d hd => ?_⟩
            · walk_at "rd"
              rw [if_neg (by rw [b3]; simp)] at q
              refine ⟨g, 0, 1000, rfl, thg.same N.same, fun b4 => ?_, fun b4 d hd => ?_⟩
              · walk_at "rd"
                rw [if_neg (by rw [b4]; simp)] at q
                obtain ⟨lo, rfl⟩ : ∃ i, f = .int i := by cases f <;> first | exact ⟨_, rfl⟩ | cases b3
                refine ⟨m, lo, 1000000, rfl, thm.same N.same, fun b5 => ?_, fun b5 d hd => ?_⟩
                · rw [if_neg (by show ¬ inB lo 1000000 m = false; rw [b5]; simp)] at q
                  have hx0 : J x = some (.ins T.a_Channel dx []) := N.app hx
                  walk_at "rd"
                  refine i_store hx0 T.cl_Channel T.na_Channel_name (by decide) (by decide +kernel) ?_
                  walk_at "rd"
                  refine i_store upd_same T.cl_Channel T.na_Channel_one (by simp) (by walk_at "fresh") ?_
                  walk_at "rd"
                  refine i_store upd_same T.cl_Channel T.na_Channel_other (by simp) (by walk_at "fresh") ?_
                  walk_at "rd"
                  refine i_store upd_same T.cl_Channel T.na_Channel_hours (by simp) (by walk_at "fresh") ?_
                  walk_at "rd"
                  refine i_store upd_same T.cl_Channel T.na_Channel_depth (by simp) (by walk_at "fresh") ?_
                  walk_at "rd"
                  refine i_store upd_same T.cl_Channel T.na_Channel_first (by simp) (by walk_at "fresh") ?_
                  walk_at "rd"
                  refine i_store upd_same T.cl_Channel T.na_Channel_growth (by simp) (by walk_at "fresh") ?_
                  walk_at "rd"
                  refine i_store upd_same T.cl_Channel T.na_Channel_most (by simp) (by walk_at "fresh") ?_
                  refine q _ ?_ upd_same
                  intro b u nb hb
                  repeat rw [upd_ne nb]
                  exact N.app hb
                · rw [if_pos (show inV6 (.int lo) m = false from b5)] at q
                  exact q d _ (N.same.trans (Same.new _ hd)) upd_same
              · rw [if_pos b4] at q
                exact q d _ (N.same.trans (Same.new _ hd)) upd_same
            · rw [if_pos b3] at q
              exact q d _ (N.same.trans (Same.new _ hd)) upd_same
          · rw [if_pos b2] at q
            exact q d _ (N.same.trans (Same.new _ hd)) upd_same
        · rw [if_pos b1] at q
          exact q d _ (N.same.trans (Same.new _ hd)) upd_same
    · intro v hv d hd
      unfold resC at q
      rw [hv] at q
      exact q d _ (N.same.trans (Same.new _ hd)) upd_same
end

end Ice

set_option Elab.async false
set_option linter.all false
set_option maxRecDepth 100000
set_option maxHeartbeats 4000000
namespace Ice
open PySem PySem.Spec PyProof.Rows L2 TL
/-! side conditions, heaps, one step of a reading, and many -/
local macro_rules | `(tactic| walk_at "hp") => `(tactic| first | assumption | exact upd_same | exact New.at_ (by assumption) | (refine keepU ?_ (by assumption); walk_at "hp") | (refine New.app (by assumption) ?_; walk_at "hp") | (refine Same.app (by assumption) ?_; walk_at "hp") | (refine But.app (by assumption) (by assumption) ?_; walk_at "hp"))
local macro_rules | `(tactic| walk_at "sq") => `(tactic| first | assumption | exact SqL.lst (by walk_at "hp") | exact L2.Same.seq (New.same (by assumption)) (by assumption) | exact L2.Same.seq (by assumption) (by assumption))
local macro_rules | `(tactic| walk_at "len") => `(tactic| first | assumption | (simp only [List.length_cons, List.length_nil, List.length_append, List.length_map]; decide) | (refine Ice.sz_of ?_; simp only [List.length_cons, List.length_nil, List.length_append, List.length_map]; omega))
local macro_rules | `(tactic| walk_at "fresh") => `(tactic| (simp only [List.map_append, List.map_cons, List.map_nil, List.nil_append, List.cons_append]; decide +kernel))
local macro_rules | `(tactic| walk_at "sd") => `(tactic| first | assumption | (show _ ≠ _; omega) | exact Or.inl ⟨by omega, by omega⟩ | exact Or.inr ⟨by omega, by omega⟩ | exact ⟨by decide, by decide⟩ | exact ⟨by decide, by decide, by decide⟩ | exact ⟨by omega, by omega, by omega⟩)
/-! one step of a reading, and many -/
local macro_rules | `(tactic| walk_at "st") => `(tactic| first
  | with_reducible refine i_seq ?_
  | with_reducible refine i_if ?_
  | with_reducible refine i_next ?_
  | with_reducible refine i_ret ?_
  | with_reducible refine i_retN ?_
  | with_reducible refine i_drop ?_
  | with_reducible refine i_asg ?_
  | with_reducible refine i_gname ?_
  | with_reducible refine i_gsub ?_
  | ((with_reducible refine i_var (v := ?vv) ?hv ?_); (case hv => exact rfl))
  | with_reducible refine i_c ?_
  | with_reducible refine i_op ?_
  | with_reducible refine i_un ?_
  | with_reducible refine i_test ?_
  | with_reducible refine i_tB ?_
  | with_reducible refine i_and ?_
  | with_reducible refine i_or ?_
  | with_reducible refine i_not ?_
  | with_reducible refine i_andV ?_
  | with_reducible refine i_orV ?_
  | with_reducible refine i_notV ?_
  | with_reducible refine i_ifE ?_
  | with_reducible refine i_chain ?_
  | with_reducible refine i_bl ?_
  | with_reducible refine i_nil ?_
  | with_reducible refine i_cons ?_
  | with_reducible refine i_call ?_
  | with_reducible refine i_cb ?_
  | with_reducible refine i_rI0 ?_
  | with_reducible refine i_rU ?_
  | ((with_reducible refine i_rEq ?hs ?_); (case hs => exact rfl))
  | ((with_reducible refine i_rNe ?hs ?_); (case hs => exact rfl))
  | ((with_reducible refine i_rI ?hc ?_); (case hc => walk_at "sd"))
  | ((with_reducible refine i_ixL (xs := ?xs) (v := ?vv) ?hS ?he ?_); (case hS => walk_at "sq"); (case he => exact rfl))
  | ((with_reducible refine i_setL (xs := ?xs) (j := ?jj) ?hS ?he ?_); (case hS => walk_at "hp"); (case he => exact rfl))
  | with_reducible refine i_tup ?_
  | with_reducible refine i_lst ?_
  | with_reducible refine i_bm ?_
  | with_reducible refine i_bm0 ?_
  | with_reducible refine i_m1 ?_
  | with_reducible refine i_sl ?_
  | with_reducible refine i_nopart ?_
  | with_reducible refine i_part ?_
  | with_reducible refine i_int ?_
  | with_reducible refine i_str ?_
  | with_reducible refine i_for ?_
  | with_reducible refine i_yes ?_
  | ((with_reducible refine i_lenL (xs := ?xs) ?hS ?_); (case hS => walk_at "sq"))
  | ((with_reducible refine i_room ?hz ?_); (case hz => walk_at "len"))
  | with_reducible refine i_leT ?_
  | with_reducible refine i_notInS ?_
  | with_reducible refine i_inS ?_
  | with_reducible refine i_find ?_
  | with_reducible refine i_isB ?_
  | with_reducible refine i_max2 ?_
  | with_reducible refine i_min2 ?_
  | with_reducible exact trivial
  | with_reducible refine iteT ?_
  | with_reducible refine iteF ?_
  | with_reducible refine i_isstr ?_
  | with_reducible refine i_lc ?_
  | ((with_reducible refine i_cat (xs := ?xs) (zs := ?zs) ?ha ?hb ?hz ?_); (case ha => walk_at "hp"); (case hb => walk_at "hp"); (case hz => walk_at "len"))
  | ((with_reducible refine i_tyL (xs := ?xs) ?ha ?_); (case ha => walk_at "hp"))
  | with_reducible refine i_list ?_
  | with_reducible refine i_disp ?_
  | with_reducible refine i_pairs0 ?_
  | with_reducible refine i_pairs ?_
  | with_reducible refine i_newK ?_
  | with_reducible refine i_gcons ?_
  | with_reducible refine i_gnil ?_
  | with_reducible refine i_revL ?_
  | with_reducible refine i_rng1 ?_
  | ((with_reducible refine i_wipe ?hw ?_); (case hw => exact rfl))
  | with_reducible refine iteNT ?_
  | with_reducible refine iteNF ?_)
local macro_rules | `(tactic| walk_at "sx") => `(tactic| first
  | walk_at "st"
  | with_reducible refine i_kinit ?_
  | with_reducible refine i_ost ?_
  | with_reducible refine i_mkO ?_
  | with_reducible refine i_callE ?_
  | with_reducible refine i_makeE ?_
  | with_reducible refine i_xf ?_
  | with_reducible refine i_sfld ?_
  | with_reducible refine i_fld ?_
  | ((with_reducible refine i_ixT (xs := ?xs) (v := ?vv) ?hS ?he ?_); (case hS => exact SqT.tup (by walk_at "hp")); (case he => exact rfl))
  | with_reducible refine i_intB ?_
  | with_reducible refine i_runS ?_
  | with_reducible refine i_runN ?_
  | ((with_reducible refine i_xf1 (fs := ?ff) (v := ?vv) ?hx ?hl ?_); (case hx => walk_at "hp"); (case hl => exact rfl))
  | with_reducible refine i_methE ?_
  | with_reducible refine i_meth ?_
  | with_reducible refine i_make ?_
  | ((with_reducible refine i_obj (dx := ?dd) (fs := ?ff) ?hx ?hl ?_); (case hx => walk_at "hp"); (case hl => exact rfl))
  | ((with_reducible refine i_fld1 (C := ?CC) (dx := ?dd) (fs := ?ff) (v := ?vv) ?hx ?cl ?na ?hl ?_); (case hx => walk_at "hp"); (case cl => assumption); (case na => assumption); (case hl => exact rfl)))
local macro_rules | `(tactic| walk_at "sy") => `(tactic| first
  | walk_at "sx"
  | with_reducible refine i_dget ?_
  | with_reducible refine i_dget2 ?_
  | with_reducible refine i_dput ?_
  | with_reducible refine i_din ?_
  | ((with_reducible refine i_aug (x := ?vv) ?hx ?_); (case hx => exact rfl)))
local macro_rules | `(tactic| walk_at "rd") => `(tactic| repeat (walk_at "sy"))

theorem Th.butI {H H' : Hp} {x C dx : Addr} {fs : List (Str × V)} {v : V} (h : Th H v) (hx : H x = some (.ins C dx fs)) (e : But x H H') : Th H' v := by
  rcases h with h | ⟨n, h⟩
  · exact .inl h
  · refine .inr ?_
    cases h with
    | non => exact ⟨_, .non⟩
    | int i => exact ⟨_, .int i⟩
    | bl b => exact ⟨_, .bl b⟩
    | lst h => exact ⟨_, .lst (e _ _ (ne_of h hx (by intro z; cases z)) h)⟩
    | tup h => exact ⟨_, .tup (e _ _ (ne_of h hx (by intro z; cases z)) h)⟩
    | dct h => exact ⟨_, .dct (e _ _ (ne_of h hx (by intro z; cases z)) h)⟩

theorem resV_snoc (names : List V) (l : List (V × Int × Int)) (z : V × Int × Int) : resV names (l ++ [z]) = match resV names l with
    | .made => if offB z = true then .number z.1 else .made
    | .name v => .name v
    | .number v => .number v := by
  unfold resV
  cases names.find? bad with
  | some v => rfl
  | none =>
    dsimp only
    rw [List.find?_append]
    cases l.find? offB with
    | some u => rfl
    | none =>
      dsimp only [Option.none_or]
      by_cases e : offB z = true
      · rw [List.find?_cons_of_pos e, if_pos e]
      · rw [List.find?_cons_of_neg e, if_neg e]; rfl
section
variable {P : Program} {w : World} {K : PySem.W.Frag} {mg : Str → Option Value} {base : Heap}
def spInitB (C cN cR : Addr) : Sp := fun vs H Q E => ∃ (x dx : Addr) (n p h s d c : V), vs = [.ref x, n, p, h, s, d, c] ∧ H x = some (.ins C dx []) ∧ (∀ v ∈ [n, p, h, s, d, c], Th H v) ∧
  WantsV x (resV [n, p] ([(h, 0, 1000000), (s, 0, 1000000), (d, 0, 1000)] ++ [(c, 1, 1000000)])) cN cR E H (∀ H', But x H H' → H' x = some (.ins C dx (fldV n p h s d ++ [(Str.ofString "cut", c)])) → Q .non H')
theorem kn_Breaker (T : Top K mg) : KnV K T.a_Breaker := ⟨T.cl_Breaker, T.na_Breaker_name, T.na_Breaker_port, T.na_Breaker_hour, T.na_Breaker_strength, T.na_Breaker_draught⟩
theorem kn_Ship (T : Top K mg) : KnV K T.a_Ship := ⟨T.cl_Ship, T.na_Ship_name, T.na_Ship_port, T.na_Ship_hour, T.na_Ship_strength, T.na_Ship_draught⟩
theorem ok_Breaker___init__ (T : Top K mg) : FnG P w K mg base (L2.CX P w) 5 T.a_Breaker___init__ T.d_Breaker___init__ ["self", "name", "port", "hour", "strength", "draught", "cut"] (spInitB T.a_Breaker T.a_NoName T.a_NoNumber) := by
  have G_check_number := ok_check_number (P := P) (w := w) (base := base) T
  have G_Vessel___init__ := ok_Vessel___init__ (P := P) (w := w) (base := base) T
  refine okGX T.F_Breaker___init__ sc_Breaker___init__ (fun vs H Q E h => ?_) (fun cdv A outer s H vs Q E hr hgd h => ?_)
  · obtain ⟨x, dx, n, p, h, s, d, c, rfl, _⟩ := h
    rfl
  · obtain ⟨x, dx, n, p, h, s', d, c, rfl, hx, th, q⟩ := h
    refine ⟨_, (pss_cons (ps_expr (g_kinitE (E := WE _) T.ki_Vessel G_Vessel___init__ (hr.mono (by decide)) hgd (by rfl) T.c_Vessel T.b_Vessel___init__ .nil (passAt (takes_of rfl rfl rfl rfl)) (pa_cons (pv 0) (pa_cons (pv 1) (pa_cons (pv 2) (pa_cons (pv 3) (pa_cons (pv 4) (pa_cons (pv 5) pa_nil))))))))
      (pss_cons (ps_expr (g_callE (E := WE _) G_check_number (hr.mono (by decide)) hgd (by rfl) T.m_check_number T.F_check_number.kp T.b_check_number .nil (passAt (takes_of rfl rfl rfl rfl)) (pa_cons (pv 6) (pa_cons pe_int (pa_cons (pe_glob (v := .int 1000000) (by rfl) T.c_CUT_MOST ⟨_, rfl⟩) pa_nil)))))
      (pss_one (ps_fld (pv 0) (pv 6) rfl)))), ?_⟩
    walk_at "rd"
    refine ⟨x, T.a_Breaker, dx, n, p, h, s', d, [], rfl, hx, .inl rfl, kn_Breaker T, fun v hv => th v (by simp at hv ⊢; rcases hv with h | h | h | h | h <;> simp [h]), ?_⟩
    rw [resV_snoc] at q
    generalize resV [n, p] [(h, 0, 1000000), (s', 0, 1000000), (d, 0, 1000)] = r at q ⊢
    cases r with
    | name v => exact q
    | number v => exact q
    | made =>
      intro H1 b1 k1
      have thc : Th H1 c := (th c (by simp)).butI hx b1
      walk_at "rd"
      refine ⟨c, _, _, rfl, thc, fun e1 => ?_, fun e1 dd hd => ?_⟩
      · walk_at "rd"
        dsimp only at q
        rw [if_neg (by show ¬ (!inB 1 1000000 c) = true; rw [e1]; decide)] at q
        refine i_store k1 T.cl_Breaker T.na_Breaker_cut (by simp [fldV]) (by simp only [fldV, List.nil_append, List.map_cons, List.map_nil]; decide +kernel) ?_
        refine q _ ?_ upd_same
        intro a o na ha
        rw [upd_ne na]
        exact b1 a o na ha
      · dsimp only at q
        rw [if_pos (by show (!inB 1 1000000 c) = true; rw [e1]; decide)] at q
        refine q dd _ (fun a o na ha => ?_) upd_same
        rw [upd_ne (ne_of_none (b1 a o na ha) hd)]
        exact b1 a o na ha
theorem resV_goal {n p g : V} {l : List (V × Int × Int)} (h : [n, p, g].find? bad = none) : resV [n, p, g] l = resV [n, p] l := by
  have h2 : [n, p].find? bad = none := by
    simp at h ⊢
    exact ⟨h.1, h.2.1⟩
  unfold resV
  rw [h, h2]
def spInitS (C cN cR : Addr) : Sp := fun vs H Q E => ∃ (x dx : Addr) (n p g h s d : V), vs = [.ref x, n, p, g, h, s, d] ∧ H x = some (.ins C dx []) ∧ (∀ v ∈ [n, p, g, h, s, d], Th H v) ∧
  WantsV x (resV [n, p, g] [(h, 0, 1000000), (s, 0, 1000000), (d, 0, 1000)]) cN cR E H (∀ H', But x H H' → H' x = some (.ins C dx (fldV n p h s d ++ [(Str.ofString "goal", g)])) → Q .non H')
theorem ok_Ship___init__ (T : Top K mg) : FnG P w K mg base (L2.CX P w) 5 T.a_Ship___init__ T.d_Ship___init__ ["self", "name", "port", "goal", "hour", "strength", "draught"] (spInitS T.a_Ship T.a_NoName T.a_NoNumber) := by
  have G_check_names := ok_check_names (P := P) (w := w) (base := base) T
  have G_Vessel___init__ := ok_Vessel___init__ (P := P) (w := w) (base := base) T
  refine okGX T.F_Ship___init__ sc_Ship___init__ (fun vs H Q E h => ?_) (fun cdv A outer s H vs Q E hr hgd h => ?_)
  · obtain ⟨x, dx, n, p, g, h, s, d, rfl, _⟩ := h
    rfl
  · obtain ⟨x, dx, n, p, g, h, s', d, rfl, hx, th, q⟩ := h
    refine ⟨_, (pss_cons (ps_expr (g_callE (E := WE _) G_check_names (hr.mono (by decide)) hgd (by rfl) T.m_check_names T.F_check_names.kp T.b_check_names .nil (passAt (takes_of rfl rfl rfl rfl)) (pa_cons (pe_lst (pa_cons (pv 1) (pa_cons (pv 2) (pa_cons (pv 3) pa_nil)))) pa_nil)))
      (pss_cons (ps_expr (g_kinitE (E := WE _) T.ki_Vessel G_Vessel___init__ (hr.mono (by decide)) hgd (by rfl) T.c_Vessel T.b_Vessel___init__ .nil (passAt (takes_of rfl rfl rfl rfl)) (pa_cons (pv 0) (pa_cons (pv 1) (pa_cons (pv 2) (pa_cons (pv 4) (pa_cons (pv 5) (pa_cons (pv 6) pa_nil))))))))
      (pss_one (ps_fld (pv 0) (pv 3) rfl)))), ?_⟩
    walk_at "rd"
    (intro p1 hp1; generalize ep1 : upd _ p1 _ = J; have N := New.of ep1 hp1; clear ep1 hp1)
    walk_at "rd"
    refine ⟨p1, [n, p, g], rfl, N.at_, fun v hv => (th v (by simp at hv ⊢; rcases hv with h | h | h <;> simp [h])).same N.same, fun nb => ?_, fun v hv dd hd => ?_⟩
    · rw [resV_goal nb] at q
      walk_at "rd"
      refine ⟨x, T.a_Ship, dx, n, p, h, s', d, [], rfl, N.app hx, .inl rfl, kn_Ship T, fun v hv => (th v (by simp at hv ⊢; rcases hv with h | h | h | h | h <;> simp [h])).same N.same, ?_⟩
      generalize resV [n, p] [(h, 0, 1000000), (s', 0, 1000000), (d, 0, 1000)] = r at q ⊢
      cases r with
      | name v => exact fun d' H' b k => q d' H' ((Ice.Same.but N.same).trans b) k
      | number v => exact fun d' H' b k => q d' H' ((Ice.Same.but N.same).trans b) k
      | made =>
        intro H1 b1 k1
        walk_at "rd"
        refine i_store k1 T.cl_Ship T.na_Ship_goal (by simp [fldV]) (by simp only [fldV, List.nil_append, List.map_cons, List.map_nil]; decide +kernel) ?_
        refine q _ ?_ upd_same
        intro a o na ha
        rw [upd_ne na]
        exact b1 a o na (N.app ha)
    · unfold resV at q
      rw [hv] at q
      exact q dd _ (Ice.Same.but (N.same.trans (Same.new _ hd))) upd_same
end

section
variable {P : Program} {w : World} {K : PySem.W.Frag} {mg : Str → Option Value} {base : Heap}
/-- the kinds -/
inductive Kd | v | b | s
def Kd.txt : Kd → Str
  | .v => Str.ofString "vessel"
  | .b => Str.ofString "breaker"
  | .s => Str.ofString "ship"
theorem resV_made {names : List V} {nums : List (V × Int × Int)} (h1 : ∀ v ∈ names, isN v = true) (h2 : ∀ z ∈ nums, inB z.2.1 z.2.2 z.1 = true) : resV names nums = .made := by
  unfold resV
  rw [List.find?_eq_none.mpr (fun v hv => by simp [bad, h1 v hv])]
  dsimp only
  rw [List.find?_eq_none.mpr (fun z hz => by simp [offB, h2 z hz])]
theorem inB_of {lo hi i : Int} (h0 : lo ≤ i) (h1 : i ≤ hi) : inB lo hi (.int i) = true := by
  show (decide (lo ≤ i) && decide (i ≤ hi)) = true
  rw [decide_eq_true h0, decide_eq_true h1]; rfl
/-- a row that stands -/
structure Five (n p : Str) (h s d : Int) : Prop where
  nn : isN (.str n) = true
  np : isN (.str p) = true
  bh : 0 ≤ h ∧ h ≤ 1000000
  bs : 0 ≤ s ∧ s ≤ 1000000
  bd : 0 ≤ d ∧ d ≤ 1000
def RowK : Kd → List V → Prop
  | .v, xs => ∃ n p h s d, Five n p h s d ∧ xs = [.str n, .str p, .int h, .int s, .int d]
  | .b, xs => ∃ n p h s d c, Five n p h s d ∧ (1 ≤ c ∧ c ≤ 1000000) ∧ xs = [.str n, .str p, .int h, .int s, .int d, .int c]
  | .s, xs => ∃ n p h s d g, Five n p h s d ∧ isN (.str g) = true ∧ xs = [.str n, .str p, .str g, .int h, .int s, .int d]
theorem Five.made {n p : Str} {h s d : Int} (f : Five n p h s d) : resV [.str n, .str p] [(.int h, 0, 1000000), (.int s, 0, 1000000), (.int d, 0, 1000)] = .made := by
  refine resV_made ?_ ?_
  · intro v hv
    simp only [List.mem_cons, List.not_mem_nil, or_false] at hv
    rcases hv with rfl | rfl
    · exact f.nn
    · exact f.np
  · intro z hz
    simp only [List.mem_cons, List.not_mem_nil, or_false] at hz
    rcases hz with rfl | rfl | rfl
    · exact inB_of f.bh.1 f.bh.2
    · exact inB_of f.bs.1 f.bs.2
    · exact inB_of f.bd.1 f.bd.2
theorem name_asc {x : Str} (h : isN (.str x) = true) : (1 ≤ x.length ∧ x.length ≤ 8 ∧ ∀ c ∈ tl x, 97 ≤ c ∧ c ≤ 122) := of_decide_eq_true h
theorem name_Asc {x : Str} (h : isN (.str x) = true) : ∀ c ∈ x.cps.toList, c < 128 := fun c hc => by have := (name_asc h).2.2 c hc; omega
theorem name_ps {x : Str} (h : isN (.str x) = true) : Ps (.str x) (.str x) := .str (by have := (name_asc h).2.1; omega) (name_Asc h)
theorem name_th {x : Str} (H : Hp) (h : isN (.str x) = true) : Th H (.str x) := .inl ⟨x, rfl, by have := (name_asc h).2.1; omega⟩
theorem RowK.th {k : Kd} {xs : List V} (H : Hp) (r : RowK k xs) : ∀ v ∈ xs, Th H v := by
  intro v hv
  cases k with
  | v =>
    obtain ⟨n, p, h, s, d, f, rfl⟩ := r
    simp only [List.mem_cons, List.not_mem_nil, or_false] at hv
    rcases hv with rfl | rfl | rfl | rfl | rfl
    · exact name_th H f.nn
    · exact name_th H f.np
    all_goals exact .inr ⟨_, .int _⟩
  | b =>
    obtain ⟨n, p, h, s, d, c, f, _, rfl⟩ := r
    simp only [List.mem_cons, List.not_mem_nil, or_false] at hv
    rcases hv with rfl | rfl | rfl | rfl | rfl | rfl
    · exact name_th H f.nn
    · exact name_th H f.np
    all_goals exact .inr ⟨_, .int _⟩
  | s =>
    obtain ⟨n, p, h, s, d, g, f, hg, rfl⟩ := r
    simp only [List.mem_cons, List.not_mem_nil, or_false] at hv
    rcases hv with rfl | rfl | rfl | rfl | rfl | rfl
    · exact name_th H f.nn
    · exact name_th H f.np
    · exact name_th H hg
    all_goals exact .inr ⟨_, .int _⟩
/-- an object's fields, by its row -/
def fldK : Kd → List V → List (Str × V)
  | .v, [n, p, h, s, d] => fldV n p h s d
  | .b, [n, p, h, s, d, c] => fldV n p h s d ++ [(Str.ofString "cut", c)]
  | .s, [n, p, g, h, s, d] => fldV n p h s d ++ [(Str.ofString "goal", g)]
  | _, _ => []
def clsK (aV aB aS : Addr) : Kd → Addr
  | .v => aV
  | .b => aB
  | .s => aS

end
end Ice

set_option Elab.async false
set_option linter.all false
set_option maxRecDepth 100000
set_option maxHeartbeats 4000000
namespace Ice
open PySem PySem.Spec PyProof.Rows L2 TL
/-! side conditions, heaps, one step of a reading, and many -/
local macro_rules | `(tactic| walk_at "hp") => `(tactic| first | assumption | exact upd_same | exact New.at_ (by assumption) | (refine keepU ?_ (by assumption); walk_at "hp") | (refine New.app (by assumption) ?_; walk_at "hp") | (refine Same.app (by assumption) ?_; walk_at "hp") | (refine But.app (by assumption) (by assumption) ?_; walk_at "hp"))
local macro_rules | `(tactic| walk_at "sq") => `(tactic| first | assumption | exact SqL.lst (by walk_at "hp") | exact L2.Same.seq (New.same (by assumption)) (by assumption) | exact L2.Same.seq (by assumption) (by assumption))
local macro_rules | `(tactic| walk_at "len") => `(tactic| first | assumption | (simp only [List.length_cons, List.length_nil, List.length_append, List.length_map]; decide) | (refine Ice.sz_of ?_; simp only [List.length_cons, List.length_nil, List.length_append, List.length_map]; omega))
local macro_rules | `(tactic| walk_at "fresh") => `(tactic| (simp only [List.map_append, List.map_cons, List.map_nil, List.nil_append, List.cons_append]; decide +kernel))
local macro_rules | `(tactic| walk_at "sd") => `(tactic| first | assumption | (show _ ≠ _; omega) | exact Or.inl ⟨by omega, by omega⟩ | exact Or.inr ⟨by omega, by omega⟩ | exact ⟨by decide, by decide⟩ | exact ⟨by decide, by decide, by decide⟩ | exact ⟨by omega, by omega, by omega⟩)
/-! one step of a reading, and many -/
local macro_rules | `(tactic| walk_at "st") => `(tactic| first
  | with_reducible refine i_seq ?_
  | with_reducible refine i_if ?_
  | with_reducible refine i_next ?_
  | with_reducible refine i_ret ?_
  | with_reducible refine i_retN ?_
  | with_reducible refine i_drop ?_
  | with_reducible refine i_asg ?_
  | with_reducible refine i_gname ?_
  | with_reducible refine i_gsub ?_
  | ((with_reducible refine i_var (v := ?vv) ?hv ?_); (case hv => exact rfl))
  | with_reducible refine i_c ?_
  | with_reducible refine i_op ?_
  | with_reducible refine i_un ?_
  | with_reducible refine i_test ?_
  | with_reducible refine i_tB ?_
  | with_reducible refine i_and ?_
  | with_reducible refine i_or ?_
  | with_reducible refine i_not ?_
  | with_reducible refine i_andV ?_
  | with_reducible refine i_orV ?_
  | with_reducible refine i_notV ?_
  | with_reducible refine i_ifE ?_
  | with_reducible refine i_chain ?_
  | with_reducible refine i_bl ?_
  | with_reducible refine i_nil ?_
  | with_reducible refine i_cons ?_
  | with_reducible refine i_call ?_
  | with_reducible refine i_cb ?_
  | with_reducible refine i_rI0 ?_
  | with_reducible refine i_rU ?_
  | ((with_reducible refine i_rEq ?hs ?_); (case hs => exact rfl))
  | ((with_reducible refine i_rNe ?hs ?_); (case hs => exact rfl))
  | ((with_reducible refine i_rI ?hc ?_); (case hc => walk_at "sd"))
  | ((with_reducible refine i_ixL (xs := ?xs) (v := ?vv) ?hS ?he ?_); (case hS => walk_at "sq"); (case he => exact rfl))
  | ((with_reducible refine i_setL (xs := ?xs) (j := ?jj) ?hS ?he ?_); (case hS => walk_at "hp"); (case he => exact rfl))
  | with_reducible refine i_tup ?_
  | with_reducible refine i_lst ?_
  | with_reducible refine i_bm ?_
  | with_reducible refine i_bm0 ?_
  | with_reducible refine i_m1 ?_
  | with_reducible refine i_sl ?_
  | with_reducible refine i_nopart ?_
  | with_reducible refine i_part ?_
  | with_reducible refine i_int ?_
  | with_reducible refine i_str ?_
  | with_reducible refine i_for ?_
  | with_reducible refine i_yes ?_
  | ((with_reducible refine i_lenL (xs := ?xs) ?hS ?_); (case hS => walk_at "sq"))
  | ((with_reducible refine i_room ?hz ?_); (case hz => walk_at "len"))
  | with_reducible refine i_leT ?_
  | with_reducible refine i_notInS ?_
  | with_reducible refine i_inS ?_
  | with_reducible refine i_find ?_
  | with_reducible refine i_isB ?_
  | with_reducible refine i_max2 ?_
  | with_reducible refine i_min2 ?_
  | with_reducible exact trivial
  | with_reducible refine iteT ?_
  | with_reducible refine iteF ?_
  | with_reducible refine i_isstr ?_
  | with_reducible refine i_lc ?_
  | ((with_reducible refine i_cat (xs := ?xs) (zs := ?zs) ?ha ?hb ?hz ?_); (case ha => walk_at "hp"); (case hb => walk_at "hp"); (case hz => walk_at "len"))
  | ((with_reducible refine i_tyL (xs := ?xs) ?ha ?_); (case ha => walk_at "hp"))
  | with_reducible refine i_list ?_
  | with_reducible refine i_disp ?_
  | with_reducible refine i_pairs0 ?_
  | with_reducible refine i_pairs ?_
  | with_reducible refine i_newK ?_
  | with_reducible refine i_gcons ?_
  | with_reducible refine i_gnil ?_
  | with_reducible refine i_revL ?_
  | with_reducible refine i_rng1 ?_
  | ((with_reducible refine i_wipe ?hw ?_); (case hw => exact rfl))
  | with_reducible refine iteNT ?_
  | with_reducible refine iteNF ?_)
local macro_rules | `(tactic| walk_at "sx") => `(tactic| first
  | walk_at "st"
  | with_reducible refine i_kinit ?_
  | with_reducible refine i_ost ?_
  | with_reducible refine i_mkO ?_
  | with_reducible refine i_callE ?_
  | with_reducible refine i_makeE ?_
  | with_reducible refine i_xf ?_
  | with_reducible refine i_sfld ?_
  | with_reducible refine i_fld ?_
  | ((with_reducible refine i_ixT (xs := ?xs) (v := ?vv) ?hS ?he ?_); (case hS => exact SqT.tup (by walk_at "hp")); (case he => exact rfl))
  | with_reducible refine i_intB ?_
  | with_reducible refine i_runS ?_
  | with_reducible refine i_runN ?_
  | ((with_reducible refine i_xf1 (fs := ?ff) (v := ?vv) ?hx ?hl ?_); (case hx => walk_at "hp"); (case hl => exact rfl))
  | with_reducible refine i_methE ?_
  | with_reducible refine i_meth ?_
  | with_reducible refine i_make ?_
  | ((with_reducible refine i_obj (dx := ?dd) (fs := ?ff) ?hx ?hl ?_); (case hx => walk_at "hp"); (case hl => exact rfl))
  | ((with_reducible refine i_fld1 (C := ?CC) (dx := ?dd) (fs := ?ff) (v := ?vv) ?hx ?cl ?na ?hl ?_); (case hx => walk_at "hp"); (case cl => assumption); (case na => assumption); (case hl => exact rfl)))
local macro_rules | `(tactic| walk_at "sy") => `(tactic| first
  | walk_at "sx"
  | with_reducible refine i_dget ?_
  | with_reducible refine i_dget2 ?_
  | with_reducible refine i_dput ?_
  | with_reducible refine i_din ?_
  | ((with_reducible refine i_aug (x := ?vv) ?hx ?_); (case hx => exact rfl)))
local macro_rules | `(tactic| walk_at "rd") => `(tactic| repeat (walk_at "sy"))

section
variable {P : Program} {w : World} {K : PySem.W.Frag} {mg : Str → Option Value} {base : Heap}
/-- a drawn number -/
def spDraw : Sp := fun vs H Q _ => ∃ (b : Addr) (lo hi : Int) (n : Nat), vs = [.ref b, .int lo, .int hi] ∧ Box H b n ∧ n ≤ 800 ∧ 0 ≤ lo ∧ lo ≤ hi ∧ hi ≤ 10 ^ 20 ∧ ∀ (d : Int) (H' : Hp), lo ≤ d → d ≤ hi → But b H H' → Box H' b (n + 2) → Q (.int d) H'
theorem ok_number (T : Top K mg) : FnG P w K mg base CX0 2 T.a_number T.d_number ["_law_box_here", "_law_low", "_law_high"] spDraw := by
  have G_take := ok_take (P := P) (w := w) (base := base) T
  refine okG T.F_number sc_number (fun vs H Q E h => ?_) (fun cdv A outer s H vs Q E hr hgd h => ?_)
  · obtain ⟨b, lo, hi, n, rfl, _⟩ := h
    rfl
  · obtain ⟨b, lo, hi, n, rfl, hB, hn, h0, h1, h2, q⟩ := h
    refine ⟨_, (pss_cons (ps_set (i := 3) sc_number.nd rfl (by first | exact Or.inl rfl | exact Or.inr rfl) (g_call G_take (hr.mono (by decide)) hgd (by rfl) T.m_take T.F_take.kp T.b_take .nil pass0 (pa_cons (pv 0) (pa_cons pe_int pa_nil))))
      (pss_cons (ps_if (pt_cmpR op_lt (pv 3) pe_int (nomark _))
        (pss_one (ps_ret (pe_ix ix_list (pe_lst (pa_cons (pv 1) (pa_cons (pv 2) pa_nil))) (pv 3) (fun _ _ => rfl))))
        pss_nil)
      (pss_one (ps_ret (pe_op op_add (pv 1) (g_call G_take (hr.mono (by decide)) hgd (by rfl) T.m_take T.F_take.kp T.b_take .nil pass0 (pa_cons (pv 0) (pa_cons (pe_ix ix_list (pe_lst (pa_cons (pe_callB (c_min2) (by rfl) T.n_min (by decide +kernel) (pa_cons pe_int (pa_cons (pe_op op_add (pe_op op_sub (pv 2) (pv 1)) pe_int) pa_nil))) (pa_cons (pe_op op_add (pe_op op_sub (pv 2) (pv 1)) pe_int) pa_nil))) (pe_op op_modN (pv 3) pe_int) (fun _ _ => rfl)) pa_nil)))))))), ?_⟩
    walk_at "rd"
    refine ⟨b, 5, n, rfl, hB, by omega, by decide, by decide, fun way H1 w0 w1 e1 B1 => ?_⟩
    walk_at "rd"
    refine ifs (fun hc => ?_) (fun hc => ?_)
    · simp only [decide_eq_true_eq] at hc
      walk_at "rd"
      (intro p hp; generalize ep : upd _ p _ = J; have N := New.of ep hp; clear ep hp)
      walk_at "rd"
      obtain ⟨v, hv, hm, _⟩ := atI_some (xs := [V.int lo, V.int hi]) w0 (by simpa using hc)
      refine i_ixL (SqL.lst N.at_) hv ?_
      simp only [List.mem_cons, List.not_mem_nil, or_false] at hm
      rcases hm with rfl | rfl
      · exact q _ _ (by omega) h1 (e1.trans N.but) ((B1.nw N).mono (by omega))
      · exact q _ _ h1 (by omega) (e1.trans N.but) ((B1.nw N).mono (by omega))
    · walk_at "rd"
      (intro p hp; generalize ep : upd _ p _ = J; have N := New.of ep hp; clear ep hp)
      walk_at "rd"
      generalize hm1 : (if hi - lo + 1 < 10 then hi - lo + 1 else (10 : Int)) = m1
      have m1b : 1 ≤ m1 ∧ m1 ≤ hi - lo + 1 := by rw [← hm1]; split <;> omega
      obtain ⟨v, hv, hm, _⟩ := atI_some (xs := [V.int m1, V.int (hi - lo + 1)]) (i := Int.fmod way 2) (Int.fmod_nonneg_of_pos _ (by decide)) (by simpa using Int.fmod_lt_of_pos way (by decide : (0:Int) < 2))
      obtain ⟨m, rfl, mb⟩ : ∃ m : Int, v = .int m ∧ 1 ≤ m ∧ m ≤ hi - lo + 1 := by
        simp only [List.mem_cons, List.not_mem_nil, or_false] at hm
        rcases hm with rfl | rfl
        · exact ⟨_, rfl, m1b⟩
        · exact ⟨_, rfl, by omega, by omega⟩
      rw [← hm1] at hv
      refine i_ixL (SqL.lst N.at_) hv ?_
      walk_at "rd"
      refine ⟨b, m, n + 1, rfl, B1.nw N, by omega, by omega, by omega, fun d H2 d0 d1 e2 B2 => ?_⟩
      walk_at "rd"
      exact q _ _ (by omega) (by omega) (e1.trans (N.but.trans e2)) (B2.mono (by omega))
/-- drawn names, unlike -/
theorem letters_len : (Str.ofString "abcdefghijklmnopqrstuvwxyz").length = 26 := by decide +kernel
def Low (c : Nat) : Prop := 97 ≤ c ∧ c ≤ 122
theorem low_all : ∀ c ∈ tl (Str.ofString "abcdefghijklmnopqrstuvwxyz"), Low c := by
  intro c hc
  rw [show tl (Str.ofString "abcdefghijklmnopqrstuvwxyz") = List.range' 97 26 by decide +kernel, List.mem_range'_1] at hc
  exact ⟨by omega, by omega⟩
theorem letter_at {d : Int} (h0 : 0 ≤ d) (h1 : d < 26) : atI (Str.ofString "abcdefghijklmnopqrstuvwxyz").cps.toList d = some (97 + d.toNat) := by
  obtain ⟨k, rfl⟩ := Int.eq_ofNat_of_zero_le h0
  have hk : k < 26 := by omega
  refine atI_nat ?_
  rw [show (Str.ofString "abcdefghijklmnopqrstuvwxyz").cps.toList = List.range' 97 26 by decide +kernel, List.getElem?_range' (by omega)]
  simp
/-- a comprehension over a range whose element changes nothing -/
theorem lc_map {n : Nat} {f : Nat → V} {g : TG} {tt : TT} {te : TE} {vs : List Nat} {σ : L2.St} {H1 : Hp} {D : Addr} {Qd : Hp → Prop} (hD : H1 D = none) (hz : n ≤ 1000)
    (hs : ∀ i H (N : V → Hp → Prop) (M : Hp → Prop), i < n → N (f i) H → g (.int (0 + i)) (wipe σ vs) H fun σ2 H2 => wipe σ2 vs = wipe σ vs ∧ tt σ2 H2 fun b H3 => if b = true then te σ2 H3 N else M H3)
    (hd : Qd (upd H1 D (.lst ((List.range n).map f)))) :
    ∃ W : Nat → Nat → Hp → Prop, (∃ m, W 0 m (upd H1 D (.lst []))) ∧ ∀ i m H, W i m H →
      ((Itr 0 n).stop i H ∧ Qd H) ∨ ((Itr 0 n).go i H ∧ ∃ Nx : Hp → Prop, (∀ H', Nx H' → ∃ m', m' < m ∧ W (i + 1) m' H') ∧ ∀ x H', (Itr 0 n).yld i H x H' → g x (wipe σ vs) H' fun σ2 H2 => wipe σ2 vs = wipe σ vs ∧ tt σ2 H2 fun b H3 =>
        if b = true then te σ2 H3 fun y H4 => ∃ acc, H4 D = some (.lst acc) ∧ acc.length < sizeLine ∧ Nx (upd H4 D (.lst (acc ++ [y]))) else Nx H3) := by
  refine lc_range (lo := 0) (n := n) (fun i H' => H' = upd H1 D (.lst ((List.range i).map f))) rfl ?_ ?_
  · rintro i H' hi rfl
    refine hs i _ _ _ hi ⟨_, upd_same, by simp; exact small1000 (by omega), ?_⟩
    rw [upd_upd, List.range_succ, List.map_append]
    rfl
  · rintro H' rfl
    exact hd
def spNamesD : Sp := fun vs H Q _ => ∃ (b : Addr) (M n : Nat), vs = [.ref b, .int M] ∧ Box H b n ∧ n ≤ 800 ∧ M ≤ 26 ∧
  ∀ (p : Addr) (xs : List Str) (H' : Hp), H p = none → But b H H' → Box H' b (n + 12) → H' p = some (.lst (xs.map V.str)) → xs.length = M → xs.Nodup → (∀ x ∈ xs, isN (.str x) = true) → Q (.ref p) H'
theorem nodup_map {f : Nat → Str} {n : Nat} (h : ∀ i j, i < n → j < n → f i = f j → i = j) : ((List.range n).map f).Nodup := by
  rw [List.nodup_iff_pairwise_ne, List.pairwise_map]
  refine List.Pairwise.imp_of_mem (fun {a b} ha hb n e => n (h a b (List.mem_range.mp ha) (List.mem_range.mp hb) e)) (List.nodup_iff_pairwise_ne.mp List.nodup_range)
theorem low_name {x : Str} (h1 : 1 ≤ x.length) (h2 : x.length ≤ 8) (h : ∀ c ∈ tl x, Low c) : isN (.str x) = true := decide_eq_true ⟨h1, h2, h⟩
theorem cut0 {x : Str} (hx : x.length = 8) {z : Int} (hz : 0 ≤ z) : (cutS x none (some (1 + z.fmod 8))).length = 1 + (z % 8).toNat := by
  rw [Int.fmod_eq_emod_of_nonneg _ (by decide)]
  obtain ⟨k, hk⟩ := Int.eq_ofNat_of_zero_le (show 0 ≤ 1 + z % 8 by omega)
  rw [hk, len_cut_to]; omega
theorem cut_len (x : Str) (a e : Nat) : (cutS x (some (a : Int)) (some ((a : Int) + (e : Int)))).length ≤ e ∧ (cutS x (some (a : Int)) (some ((a : Int) + (e : Int)))).length ≤ x.length - a := by
  rw [← tl_len, show ((a : Int) + (e : Int)) = ((a + e : Nat) : Int) by simp, tl_cut, HT.sIx_nat, HT.sIx_nat, List.length_take, List.length_drop, tl_len]
  have : x.cps.size = x.length := rfl
  omega
theorem mid_eq {x y : Str} {a i j : Nat} (ha : a ≤ x.length) (h : (cutS x none (some (a : Int)) ++ (⟨#[97 + i]⟩ : Str)) ++ y = (cutS x none (some (a : Int)) ++ (⟨#[97 + j]⟩ : Str)) ++ y) : i = j := by
  have key : ∀ c, (tl ((cutS x none (some (a : Int)) ++ (⟨#[c]⟩ : Str)) ++ y))[a]? = some c := by
    intro c
    rw [tl_append, tl_append, tl_cut_to, List.append_assoc, List.getElem?_append_right (by simp [tl_len]; omega), List.length_take, tl_len, Nat.min_eq_left ha, Nat.sub_self]
    rfl
  have e := (key (97 + i)).symm.trans ((congrArg (fun z => (tl z)[a]?) h).trans (key (97 + j)))
  have : 97 + i = 97 + j := by simpa using e
  omega
theorem step_inj {step first : Int} {i j : Nat} (hs : step = 1 ∨ step = 3 ∨ step = 5 ∨ step = 7 ∨ step = 9 ∨ step = 11) (f0 : 0 ≤ first) (hi : i < 26) (hj : j < 26)
    (e : ((first + step * (0 + (i : Int))).fmod 26).toNat = ((first + step * (0 + (j : Int))).fmod 26).toNat) : i = j := by
  rw [Int.fmod_eq_emod_of_nonneg _ (by decide), Int.fmod_eq_emod_of_nonneg _ (by decide)] at e
  rcases hs with rfl | rfl | rfl | rfl | rfl | rfl <;> omega
theorem ok_names (T : Top K mg) : FnG P w K mg base CX0 2 T.a_names T.d_names ["_law_box_here", "_law_many"] spNamesD := by
  have G_take := ok_take (P := P) (w := w) (base := base) T
  refine okG T.F_names sc_names (fun vs H Q E h => ?_) (fun cdv A outer s H vs Q E hr hgd h => ?_)
  · obtain ⟨b, M, n, rfl, _⟩ := h
    rfl
  · obtain ⟨b, M, n, rfl, hB, hn, hM, q⟩ := h
    refine ⟨_, (pss_cons (ps_set (i := 2) sc_names.nd rfl (by first | exact Or.inl rfl | exact Or.inr rfl) pe_str)
      (pss_cons (ps_set (i := 3) sc_names.nd rfl (by first | exact Or.inl rfl | exact Or.inr rfl) (g_call G_take (hr.mono (by decide)) hgd (by rfl) T.m_take T.F_take.kp T.b_take .nil pass0 (pa_cons (pv 0) (pa_cons pe_int pa_nil))))
      (pss_cons (ps_set (i := 4) sc_names.nd rfl (by first | exact Or.inl rfl | exact Or.inr rfl) (g_call G_take (hr.mono (by decide)) hgd (by rfl) T.m_take T.F_take.kp T.b_take .nil pass0 (pa_cons (pv 0) (pa_cons pe_int pa_nil))))
      (pss_cons (ps_set (i := 5) sc_names.nd rfl (by first | exact Or.inl rfl | exact Or.inr rfl) (pe_ix ix_list (pe_lst (pa_cons pe_int (pa_cons pe_int (pa_cons pe_int (pa_cons pe_int (pa_cons pe_int (pa_cons pe_int pa_nil))))))) (g_call G_take (hr.mono (by decide)) hgd (by rfl) T.m_take T.F_take.kp T.b_take .nil pass0 (pa_cons (pv 0) (pa_cons pe_int pa_nil))) (fun _ _ => rfl)))
      (pss_cons (ps_set (i := 6) sc_names.nd rfl (by first | exact Or.inl rfl | exact Or.inr rfl) (g_call G_take (hr.mono (by decide)) hgd (by rfl) T.m_take T.F_take.kp T.b_take .nil pass0 (pa_cons (pv 0) (pa_cons pe_int pa_nil))))
      (pss_cons (ps_set (i := 7) sc_names.nd rfl (by first | exact Or.inl rfl | exact Or.inr rfl) (pe_op op_add (pv 6) (g_call G_take (hr.mono (by decide)) hgd (by rfl) T.m_take T.F_take.kp T.b_take .nil pass0 (pa_cons (pv 0) (pa_cons (pe_op op_sub pe_int (pv 6)) pa_nil)))))
      (pss_cons (ps_set (i := 8) sc_names.nd rfl (by first | exact Or.inl rfl | exact Or.inr rfl) (pe_m1 PySem.F.slot_str_join PySem.F.type_str_join m_join pe_str (pe_lc (own := [("_law_k", 9)]) (g := gName 9) rfl sc_names.nd (pi_range1 (by rfl) T.n_range (pa_cons pe_int pa_nil)) (blkOk_by (own := [("_law_k", 9)]) (N := ["_law_box_here", "_law_many", "_law_letters", "_law_way", "_law_first", "_law_step", "_law_at", "_law_size", "_law_stem", "_law_k"]) (sc := defScope s_names) (by decide +kernel)) (fun _ _ _ _ _ => (pg_name (i := 9) sc_names.nd rfl (by first | exact Or.inl rfl | exact Or.inr rfl))) (fun _ _ _ _ _ => pts_nil) (fun _ _ _ _ _ => (pe_ix ix_str (pv 2) (g_call G_take (hr.mono (by decide)) hgd (by rfl) T.m_take T.F_take.kp T.b_take .nil pass0 (pa_cons (pv 0) (pa_cons pe_int pa_nil))) (fun _ _ => rfl))))))
      (pss_cons (ps_if (PW.pt (pw_and (pt_cmpR op_eq (pv 3) pe_int (nomark _)) (pw_and1 (pt_cmpR op_lt (pv 1) pe_int (nomark _)))))
        (pss_one (ps_ret (pe_lc (own := [("_law_k", 9)]) (g := gName 9) rfl sc_names.nd (pi_range1 (by rfl) T.n_range (pa_cons (pv 1) pa_nil)) (blkOk_by (own := [("_law_k", 9)]) (N := ["_law_box_here", "_law_many", "_law_letters", "_law_way", "_law_first", "_law_step", "_law_at", "_law_size", "_law_stem", "_law_k"]) (sc := defScope s_names) (by decide +kernel)) (fun _ _ _ _ _ => (pg_name (i := 9) sc_names.nd rfl (by first | exact Or.inl rfl | exact Or.inr rfl))) (fun _ _ _ _ _ => pts_nil) (fun _ _ _ _ _ => (pe_slice sl_str (pe_op o_addT (pe_ix ix_str (pv 2) (pv 4) (fun _ _ => rfl)) (pv 8)) po_none (po_some (pe_op op_add pe_int (pe_op op_modN (pe_op op_add (pv 4) (pe_op op_mul pe_int (pv 9))) pe_int))))))))
        pss_nil)
      (pss_one (ps_ret (pe_lc (own := [("_law_k", 9)]) (g := gName 9) rfl sc_names.nd (pi_range1 (by rfl) T.n_range (pa_cons (pv 1) pa_nil)) (blkOk_by (own := [("_law_k", 9)]) (N := ["_law_box_here", "_law_many", "_law_letters", "_law_way", "_law_first", "_law_step", "_law_at", "_law_size", "_law_stem", "_law_k"]) (sc := defScope s_names) (by decide +kernel)) (fun _ _ _ _ _ => (pg_name (i := 9) sc_names.nd rfl (by first | exact Or.inl rfl | exact Or.inr rfl))) (fun _ _ _ _ _ => pts_nil) (fun _ _ _ _ _ => (pe_op o_addT (pe_op o_addT (pe_slice sl_str (pv 8) po_none (po_some (pv 6))) (pe_ix ix_str (pv 2) (pe_op op_modN (pe_op op_add (pv 4) (pe_op op_mul (pv 5) (pv 9))) pe_int) (fun _ _ => rfl))) (pe_slice sl_str (pv 8) (po_some (pv 6)) (po_some (pv 7)))))))))))))))), ?_⟩
    walk_at "rd"
    refine ⟨b, 3, n, rfl, hB, by omega, by decide, by decide, fun way H1 w0 w1 e1 B1 => ?_⟩
    walk_at "rd"
    refine ⟨b, 26, n + 1, rfl, B1, by omega, by decide, by decide, fun first H2 f0 f1 e2 B2 => ?_⟩
    walk_at "rd"
    (intro p hp; generalize ep : upd _ p _ = J; have N := New.of ep hp; clear ep hp)
    walk_at "rd"
    refine ⟨b, 6, n + 2, rfl, B2.nw N, by omega, by decide, by decide, fun d3 H3 d30 d31 e3 B3 => ?_⟩
    obtain ⟨v, hv, hm, _⟩ := atI_some (xs := [V.int 1, V.int 3, V.int 5, V.int 7, V.int 9, V.int 11]) d30 (by simpa using d31)
    refine i_ixL (SqL.lst (e3 p _ (B2.off N) N.at_)) hv ?_
    obtain ⟨step, rfl, hs⟩ : ∃ s : Int, v = .int s ∧ (s = 1 ∨ s = 3 ∨ s = 5 ∨ s = 7 ∨ s = 9 ∨ s = 11) := by
      simp only [List.mem_cons, List.not_mem_nil, or_false] at hm
      rcases hm with h | h | h | h | h | h
      all_goals exact ⟨_, h, by decide⟩
    walk_at "rd"
    refine ⟨b, 4, n + 3, rfl, B3, by omega, by decide, by decide, fun at_ H4 a0 a1 e4 B4 => ?_⟩
    walk_at "rd"
    refine ⟨b, 8 - at_, n + 4, rfl, B4, by omega, by omega, by omega, fun d5 H5 d50 d51 e5 B5 => ?_⟩
    walk_at "rd"
    refine ⟨7, rfl, by decide, by decide, fun D hD => ?_⟩
    refine lc_draw (P := Low) B5 hD (by decide) ?_ (fun i H N M h => ⟨h.1, h.2⟩) ?_
    · intro i H' hi e6 B6 N hN
      walk_at "rd"
      refine ⟨b, 26, _, rfl, B6, by omega, by decide, by decide, fun d H7 d0 d1 e7 B7 => ?_⟩
      obtain ⟨c, hc, pc⟩ := sign_at (P := Low) (x := Str.ofString "abcdefghijklmnopqrstuvwxyz") d0 (by rw [letters_len]; exact d1) low_all
      exact i_ixS (by decide +kernel) hc (hN c _ pc e7 B7)
    · intro acc H6 e6 B6 hA hl h1
      refine join_draw (e := Str.ofString "") (by decide +kernel) hA (by omega) h1 fun stem slen sall => ?_
      rw [hl] at slen
      have e06 : But b H H6 := e1.trans (e2.trans (N.but.trans (e3.trans (e4.trans (e5.trans e6)))))
      walk_at "rd"
      have sb : 1 ≤ step ∧ step ≤ 11 := by omega
      obtain ⟨sb0, sb1⟩ := sb
      obtain ⟨a, rfl⟩ := Int.eq_ofNat_of_zero_le a0
      obtain ⟨e, rfl⟩ := Int.eq_ofNat_of_zero_le d50
      refine ifs (fun h1 => ?_) (fun h1 => ?_)
      focus (walk_at "rd"; refine ifs (fun h2 => ?_) (fun h2 => ?_))
      focus
        (walk_at "rd"
         refine ⟨M, rfl, by omega, by omega, fun D2 hD2 => ?_⟩
         have b2 := B6.ne hD2
         have l8 : ((⟨#[97 + first.toNat]⟩ : Str) ++ stem).length = 8 := by rw [len_add, slen]; rfl
         have h2' : M < 9 := by have := of_decide_eq_true h2; omega
         refine lc_map (f := fun k => V.str (cutS ((⟨#[97 + first.toNat]⟩ : Str) ++ stem) none (some (1 + (first + 3 * (0 + (k : Int))).fmod 8)))) hD2 (by omega) ?_ ?_
         · intro i H9 N9 M9 hi hN
           have hi' : i < M := by simpa using hi
           walk_at "rd"
           refine i_ixS (by decide +kernel) (letter_at f0 f1) ?_
           walk_at "rd"
           refine i_addT (sz_of (by rw [slen]; show 1 + 7 ≤ _; decide)) ?_
           walk_at "rd"
           refine i_slS (sz_of (by rw [l8]; decide)) ?_
           exact hN
         · refine q D2 ((List.range (M : Int).toNat).map fun (k : Nat) => cutS ((⟨#[97 + first.toNat]⟩ : Str) ++ stem) none (some (1 + (first + 3 * (0 + (k : Int))).fmod 8))) _ (e06.free b2 hD2) (e06.trans (But.new _ hD2)) ((B6.new hD2).mono (by omega)) (by rw [upd_same, List.map_map]; rfl) (by simp) ?_ ?_
           · refine nodup_map fun i j hi hj e => ?_
             have hi' : i < M := by simpa using hi
             have hj' : j < M := by simpa using hj
             have e2 := congrArg Str.length e
             rw [cut0 l8 (by omega), cut0 l8 (by omega)] at e2
             omega
           · intro x hx
             obtain ⟨k, hk, rfl⟩ := List.mem_map.mp hx
             refine low_name (by rw [cut0 l8 (by omega)]; omega) (by rw [cut0 l8 (by omega)]; omega) (cut_all (add_all (one_all ⟨by omega, by omega⟩) sall)))
      all_goals
        (walk_at "rd"
         refine ⟨M, rfl, by omega, by omega, fun D2 hD2 => ?_⟩
         have b2 := B6.ne hD2
         refine lc_map (f := fun k => V.str ((cutS stem none (some (a : Int)) ++ (⟨#[97 + ((first + step * (0 + (k : Int))).fmod 26).toNat]⟩ : Str)) ++ cutS stem (some (a : Int)) (some ((a : Int) + (e : Int))))) hD2 (by omega) ?_ ?_
         · intro i H9 N9 M9 hi hN
           have hi' : i < M := by simpa using hi
           walk_at "rd"
           refine i_slS (sz_of (by omega)) ?_
           walk_at "rd"
           refine i_ixS (by decide +kernel) (letter_at (Int.fmod_nonneg_of_pos _ (by decide)) (Int.fmod_lt_of_pos _ (by decide))) ?_
           have l1 := len_cut_to stem a
           refine i_addT (sz_of (by rw [l1]; show _ + 1 ≤ _; omega)) ?_
           walk_at "rd"
           refine i_slS (sz_of (by omega)) ?_
           have l2 := cut_len stem a e
           refine i_addT (sz_of (by rw [len_add, l1]; show (_ + 1) + _ ≤ _; omega)) ?_
           exact hN
         · refine q D2 ((List.range (M : Int).toNat).map fun (k : Nat) => ((cutS stem none (some (a : Int)) ++ (⟨#[97 + ((first + step * (0 + (k : Int))).fmod 26).toNat]⟩ : Str)) ++ cutS stem (some (a : Int)) (some ((a : Int) + (e : Int))))) _ (e06.free b2 hD2) (e06.trans (But.new _ hD2)) ((B6.new hD2).mono (by omega)) (by rw [upd_same, List.map_map]; rfl) (by simp) ?_ ?_
           · refine nodup_map fun i j hi hj e => ?_
             have hi' : i < M := by simpa using hi
             have hj' : j < M := by simpa using hj
             have e2 := mid_eq (by rw [slen]; omega) e
             exact step_inj hs f0 (by omega) (by omega) e2
           · intro x hx
             obtain ⟨k, hk, rfl⟩ := List.mem_map.mp hx
             have l1 := len_cut_to stem a
             have l2 := cut_len stem a e
             have fl := Int.fmod_lt_of_pos (first + step * (0 + (k : Int))) (by decide : (0 : Int) < 26)
             refine low_name ?_ ?_ (add_all (add_all (cut_all sall) (one_all ⟨by omega, by omega⟩)) (cut_all sall))
             · rw [len_add, len_add, l1]; show 1 ≤ (_ + 1) + _; omega
             · rw [len_add, len_add, l1]; show (_ + 1) + _ ≤ 8; omega)
end

end Ice

set_option Elab.async false
set_option linter.all false
set_option maxRecDepth 100000
set_option maxHeartbeats 4000000
namespace Ice
open PySem PySem.Spec PyProof.Rows L2 TL
/-! side conditions, heaps, one step of a reading, and many -/
local macro_rules | `(tactic| walk_at "hp") => `(tactic| first | assumption | exact upd_same | exact New.at_ (by assumption) | (refine keepU ?_ (by assumption); walk_at "hp") | (refine New.app (by assumption) ?_; walk_at "hp") | (refine Same.app (by assumption) ?_; walk_at "hp") | (refine But.app (by assumption) (by assumption) ?_; walk_at "hp"))
local macro_rules | `(tactic| walk_at "sq") => `(tactic| first | assumption | exact SqL.lst (by walk_at "hp") | exact L2.Same.seq (New.same (by assumption)) (by assumption) | exact L2.Same.seq (by assumption) (by assumption))
local macro_rules | `(tactic| walk_at "len") => `(tactic| first | assumption | (simp only [List.length_cons, List.length_nil, List.length_append, List.length_map]; decide) | (refine Ice.sz_of ?_; simp only [List.length_cons, List.length_nil, List.length_append, List.length_map]; omega))
local macro_rules | `(tactic| walk_at "fresh") => `(tactic| (simp only [List.map_append, List.map_cons, List.map_nil, List.nil_append, List.cons_append]; decide +kernel))
local macro_rules | `(tactic| walk_at "sd") => `(tactic| first | assumption | (show _ ≠ _; omega) | exact Or.inl ⟨by omega, by omega⟩ | exact Or.inr ⟨by omega, by omega⟩ | exact ⟨by decide, by decide⟩ | exact ⟨by decide, by decide, by decide⟩ | exact ⟨by omega, by omega, by omega⟩)
/-! one step of a reading, and many -/
local macro_rules | `(tactic| walk_at "st") => `(tactic| first
  | with_reducible refine i_seq ?_
  | with_reducible refine i_if ?_
  | with_reducible refine i_next ?_
  | with_reducible refine i_ret ?_
  | with_reducible refine i_retN ?_
  | with_reducible refine i_drop ?_
  | with_reducible refine i_asg ?_
  | with_reducible refine i_gname ?_
  | with_reducible refine i_gsub ?_
  | ((with_reducible refine i_var (v := ?vv) ?hv ?_); (case hv => exact rfl))
  | with_reducible refine i_c ?_
  | with_reducible refine i_op ?_
  | with_reducible refine i_un ?_
  | with_reducible refine i_test ?_
  | with_reducible refine i_tB ?_
  | with_reducible refine i_and ?_
  | with_reducible refine i_or ?_
  | with_reducible refine i_not ?_
  | with_reducible refine i_andV ?_
  | with_reducible refine i_orV ?_
  | with_reducible refine i_notV ?_
  | with_reducible refine i_ifE ?_
  | with_reducible refine i_chain ?_
  | with_reducible refine i_bl ?_
  | with_reducible refine i_nil ?_
  | with_reducible refine i_cons ?_
  | with_reducible refine i_call ?_
  | with_reducible refine i_cb ?_
  | with_reducible refine i_rI0 ?_
  | with_reducible refine i_rU ?_
  | ((with_reducible refine i_rEq ?hs ?_); (case hs => exact rfl))
  | ((with_reducible refine i_rNe ?hs ?_); (case hs => exact rfl))
  | ((with_reducible refine i_rI ?hc ?_); (case hc => walk_at "sd"))
  | ((with_reducible refine i_ixL (xs := ?xs) (v := ?vv) ?hS ?he ?_); (case hS => walk_at "sq"); (case he => exact rfl))
  | ((with_reducible refine i_setL (xs := ?xs) (j := ?jj) ?hS ?he ?_); (case hS => walk_at "hp"); (case he => exact rfl))
  | with_reducible refine i_tup ?_
  | with_reducible refine i_lst ?_
  | with_reducible refine i_bm ?_
  | with_reducible refine i_bm0 ?_
  | with_reducible refine i_m1 ?_
  | with_reducible refine i_sl ?_
  | with_reducible refine i_nopart ?_
  | with_reducible refine i_part ?_
  | with_reducible refine i_int ?_
  | with_reducible refine i_str ?_
  | with_reducible refine i_for ?_
  | with_reducible refine i_yes ?_
  | ((with_reducible refine i_lenL (xs := ?xs) ?hS ?_); (case hS => walk_at "sq"))
  | ((with_reducible refine i_room ?hz ?_); (case hz => walk_at "len"))
  | with_reducible refine i_leT ?_
  | with_reducible refine i_notInS ?_
  | with_reducible refine i_inS ?_
  | with_reducible refine i_find ?_
  | with_reducible refine i_isB ?_
  | with_reducible refine i_max2 ?_
  | with_reducible refine i_min2 ?_
  | with_reducible exact trivial
  | with_reducible refine iteT ?_
  | with_reducible refine iteF ?_
  | with_reducible refine i_isstr ?_
  | with_reducible refine i_lc ?_
  | ((with_reducible refine i_cat (xs := ?xs) (zs := ?zs) ?ha ?hb ?hz ?_); (case ha => walk_at "hp"); (case hb => walk_at "hp"); (case hz => walk_at "len"))
  | ((with_reducible refine i_tyL (xs := ?xs) ?ha ?_); (case ha => walk_at "hp"))
  | with_reducible refine i_list ?_
  | with_reducible refine i_disp ?_
  | with_reducible refine i_pairs0 ?_
  | with_reducible refine i_pairs ?_
  | with_reducible refine i_newK ?_
  | with_reducible refine i_gcons ?_
  | with_reducible refine i_gnil ?_
  | with_reducible refine i_revL ?_
  | with_reducible refine i_rng1 ?_
  | ((with_reducible refine i_wipe ?hw ?_); (case hw => exact rfl))
  | with_reducible refine iteNT ?_
  | with_reducible refine iteNF ?_)
local macro_rules | `(tactic| walk_at "sx") => `(tactic| first
  | walk_at "st"
  | with_reducible refine i_kinit ?_
  | with_reducible refine i_ost ?_
  | with_reducible refine i_mkO ?_
  | with_reducible refine i_callE ?_
  | with_reducible refine i_makeE ?_
  | with_reducible refine i_xf ?_
  | with_reducible refine i_sfld ?_
  | with_reducible refine i_fld ?_
  | ((with_reducible refine i_ixT (xs := ?xs) (v := ?vv) ?hS ?he ?_); (case hS => exact SqT.tup (by walk_at "hp")); (case he => exact rfl))
  | with_reducible refine i_intB ?_
  | with_reducible refine i_runS ?_
  | with_reducible refine i_runN ?_
  | ((with_reducible refine i_xf1 (fs := ?ff) (v := ?vv) ?hx ?hl ?_); (case hx => walk_at "hp"); (case hl => exact rfl))
  | with_reducible refine i_methE ?_
  | with_reducible refine i_meth ?_
  | with_reducible refine i_make ?_
  | ((with_reducible refine i_obj (dx := ?dd) (fs := ?ff) ?hx ?hl ?_); (case hx => walk_at "hp"); (case hl => exact rfl))
  | ((with_reducible refine i_fld1 (C := ?CC) (dx := ?dd) (fs := ?ff) (v := ?vv) ?hx ?cl ?na ?hl ?_); (case hx => walk_at "hp"); (case cl => assumption); (case na => assumption); (case hl => exact rfl)))
local macro_rules | `(tactic| walk_at "sy") => `(tactic| first
  | walk_at "sx"
  | with_reducible refine i_dget ?_
  | with_reducible refine i_dget2 ?_
  | with_reducible refine i_dput ?_
  | with_reducible refine i_din ?_
  | ((with_reducible refine i_aug (x := ?vv) ?hx ?_); (case hx => exact rfl)))
local macro_rules | `(tactic| walk_at "rd") => `(tactic| repeat (walk_at "sy"))

section
variable {K : PySem.W.Frag} {H : Hp} {Q : VK}
theorem i_catA {a b : Addr} {xs ys : List V} (ha : H a = some (.tup xs)) (hb : H b = some (.tup ys)) (hz : xs.length + ys.length ≤ sizeLine) (q : ∀ r H', Same H H' → H' r = some (.tup (xs ++ ys)) → Q (.ref r) H') : rCatA K (.ref a) (.ref b) H Q :=
  ⟨a, b, xs, ys, rfl, rfl, SqT.tup ha, SqT.tup hb, hz, fun e => q b H (Same.refl _) (by rw [e]; exact hb), fun _ e => q a H (Same.refl _) (by rw [e, List.append_nil]; exact ha), fun _ _ p hp => q p _ (Same.new _ hp) upd_same⟩
theorem i_slA {a : Addr} {xs : List V} {lo hi : Option Int} (ha : H a = some (.tup xs)) (q : ∀ r H', Same H H' → H' r = some (.tup (cutV xs lo hi)) → Q (.ref r) H') : rSlA K (.ref a) lo hi H Q := by
  refine ⟨a, xs, rfl, SqT.tup ha, fun e => q a H (Same.refl _) ?_, fun _ p hp => q p _ (Same.new _ hp) upd_same⟩
  have : cutV xs lo hi = xs := by
    unfold cutV
    rw [e.1, e.2]
    simp
  rw [this]; exact ha
end
theorem cutV_to (xs : List V) {a : Nat} (h : a ≤ xs.length) : cutV xs none (some (a : Int)) = xs.take a := by
  unfold cutV
  rw [HT.sIx_none, HT.sIx_nat, Nat.min_eq_left h, List.drop_zero, Nat.sub_zero]
theorem cutV_from (xs : List V) {a : Nat} (h : a ≤ xs.length) : cutV xs (some (a : Int)) none = xs.drop a := by
  unfold cutV
  rw [HT.sIx_none, HT.sIx_nat, Nat.min_eq_left h, List.take_of_length_le (by rw [List.length_drop]; omega)]

section
variable {P : Program} {w : World} {K : PySem.W.Frag} {mg : Str → Option Value} {base : Heap}
theorem made_same {H H' : Hp} {x dx : Addr} {u v : HO} (hx : H x = none) (hd : H dx = none) (e : But x (upd (upd H dx u) x v) H') : Same H H' := fun a o h => e a o (ne_of_none h hx) (by rw [upd_ne (ne_of_none h hx), upd_ne (ne_of_none h hd)]; exact h)
def spVesselM (aV aB aS : Addr) : Sp := fun vs H Q _ => ∃ (k : Kd) (r : Addr) (xs : List V), vs = [.str k.txt, .ref r] ∧ H r = some (.tup xs) ∧ RowK k xs ∧
  ∀ x dx H', Same H H' → H x = none → H' x = some (.ins (clsK aV aB aS k) dx (fldK k xs)) → Q (.ref x) H'
theorem ok_vessel (T : Top K mg) : FnG P w K mg base CX0 7 T.a_vessel T.d_vessel ["_law_kind", "_law_row"] (spVesselM T.a_Vessel T.a_Breaker T.a_Ship) := by
  have G_Vessel___init__ := ok_Vessel___init__ (P := P) (w := w) (base := base) T
  have G_Ship___init__ := ok_Ship___init__ (P := P) (w := w) (base := base) T
  have G_Breaker___init__ := ok_Breaker___init__ (P := P) (w := w) (base := base) T
  refine okG T.F_vessel sc_vessel (fun vs H Q E h => ?_) (fun cdv A outer s H vs Q E hr hgd h => ?_)
  · obtain ⟨k, r, xs, rfl, _⟩ := h
    rfl
  · obtain ⟨k, r, xs, rfl, hr', rk, q⟩ := h
    refine ⟨_, (pss_cons (ps_if (pt_cmpR op_eq (pv 0) pe_str (nomark _))
        (pss_one (ps_ret (g_make T.mk_Ship G_Ship___init__ (hr.mono (by decide)) hgd (by rfl) T.c_Ship T.b_Ship___init__ .nil passL (pa_cons (pe_ix ix_tup (pv 1) pe_int (fun _ _ => rfl)) (pa_cons (pe_ix ix_tup (pv 1) pe_int (fun _ _ => rfl)) (pa_cons (pe_ix ix_tup (pv 1) pe_int (fun _ _ => rfl)) (pa_cons (pe_ix ix_tup (pv 1) pe_int (fun _ _ => rfl)) (pa_cons (pe_ix ix_tup (pv 1) pe_int (fun _ _ => rfl)) (pa_cons (pe_ix ix_tup (pv 1) pe_int (fun _ _ => rfl)) pa_nil)))))))))
        pss_nil)
      (pss_cons (ps_if (pt_cmpR op_eq (pv 0) pe_str (nomark _))
        (pss_one (ps_ret (g_make T.mk_Breaker G_Breaker___init__ (hr.mono (by decide)) hgd (by rfl) T.c_Breaker T.b_Breaker___init__ .nil passL (pa_cons (pe_ix ix_tup (pv 1) pe_int (fun _ _ => rfl)) (pa_cons (pe_ix ix_tup (pv 1) pe_int (fun _ _ => rfl)) (pa_cons (pe_ix ix_tup (pv 1) pe_int (fun _ _ => rfl)) (pa_cons (pe_ix ix_tup (pv 1) pe_int (fun _ _ => rfl)) (pa_cons (pe_ix ix_tup (pv 1) pe_int (fun _ _ => rfl)) (pa_cons (pe_ix ix_tup (pv 1) pe_int (fun _ _ => rfl)) pa_nil)))))))))
        pss_nil)
      (pss_one (ps_ret (g_make T.mk_Vessel G_Vessel___init__ (hr.mono (by decide)) hgd (by rfl) T.c_Vessel T.b_Vessel___init__ .nil passL (pa_cons (pe_ix ix_tup (pv 1) pe_int (fun _ _ => rfl)) (pa_cons (pe_ix ix_tup (pv 1) pe_int (fun _ _ => rfl)) (pa_cons (pe_ix ix_tup (pv 1) pe_int (fun _ _ => rfl)) (pa_cons (pe_ix ix_tup (pv 1) pe_int (fun _ _ => rfl)) (pa_cons (pe_ix ix_tup (pv 1) pe_int (fun _ _ => rfl)) pa_nil)))))))))), ?_⟩
    walk_at "rd"
    cases k with
    | s =>
      have th := fun H => rk.th H
      obtain ⟨n, p, h, s', d, g, f, hg, rfl⟩ := rk
      rw [show decide (V.str Kd.s.txt = V.str (Str.ofString "ship")) = true by decide +kernel]
      walk_at "rd"
      intro x dx hx hdx nex
      refine ⟨x, dx, _, _, _, _, _, _, rfl, upd_same, th _, ?_⟩
      have nb : [V.str n, V.str p, V.str g].find? bad = none := by simp [bad, f.nn, f.np, hg]
      rw [resV_goal nb, f.made]
      exact fun H1 b1 k1 => ⟨rfl, q x dx _ (made_same hx hdx b1) hx k1⟩
    | b =>
      have th := fun H => rk.th H
      obtain ⟨n, p, h, s', d, c, f, hc, rfl⟩ := rk
      rw [show decide (V.str Kd.b.txt = V.str (Str.ofString "ship")) = false by decide +kernel]
      walk_at "rd"
      rw [show decide (V.str Kd.b.txt = V.str (Str.ofString "breaker")) = true by decide +kernel]
      walk_at "rd"
      intro x dx hx hdx nex
      refine ⟨x, dx, _, _, _, _, _, _, rfl, upd_same, th _, ?_⟩
      rw [resV_snoc, f.made]
      dsimp only
      rw [if_neg (by show ¬ (!inB 1 1000000 (.int c)) = true; rw [inB_of hc.1 hc.2]; decide)]
      exact fun H1 b1 k1 => ⟨rfl, q x dx _ (made_same hx hdx b1) hx k1⟩
    | v =>
      have th := fun H => rk.th H
      obtain ⟨n, p, h, s', d, f, rfl⟩ := rk
      rw [show decide (V.str Kd.v.txt = V.str (Str.ofString "ship")) = false by decide +kernel]
      walk_at "rd"
      rw [show decide (V.str Kd.v.txt = V.str (Str.ofString "breaker")) = false by decide +kernel]
      walk_at "rd"
      intro x dx hx hdx nex
      refine ⟨x, T.a_Vessel, dx, _, _, _, _, _, [], rfl, upd_same, .inl rfl, ⟨T.cl_Vessel, T.na_Vessel_name, T.na_Vessel_port, T.na_Vessel_hour, T.na_Vessel_strength, T.na_Vessel_draught⟩, th _, ?_⟩
      rw [f.made]
      exact fun H1 b1 k1 => ⟨rfl, q x dx _ (made_same hx hdx b1) hx k1⟩

end
end Ice

set_option Elab.async false
set_option linter.all false
set_option maxRecDepth 100000
set_option maxHeartbeats 4000000
namespace Ice
open PySem PySem.Spec PyProof.Rows L2 TL
/-! side conditions, heaps, one step of a reading, and many -/
local macro_rules | `(tactic| walk_at "hp") => `(tactic| first | assumption | exact upd_same | exact New.at_ (by assumption) | (refine keepU ?_ (by assumption); walk_at "hp") | (refine New.app (by assumption) ?_; walk_at "hp") | (refine Same.app (by assumption) ?_; walk_at "hp") | (refine But.app (by assumption) (by assumption) ?_; walk_at "hp"))
local macro_rules | `(tactic| walk_at "sq") => `(tactic| first | assumption | exact SqL.lst (by walk_at "hp") | exact L2.Same.seq (New.same (by assumption)) (by assumption) | exact L2.Same.seq (by assumption) (by assumption))
local macro_rules | `(tactic| walk_at "len") => `(tactic| first | assumption | (simp only [List.length_cons, List.length_nil, List.length_append, List.length_map]; decide) | (refine Ice.sz_of ?_; simp only [List.length_cons, List.length_nil, List.length_append, List.length_map]; omega))
local macro_rules | `(tactic| walk_at "fresh") => `(tactic| (simp only [List.map_append, List.map_cons, List.map_nil, List.nil_append, List.cons_append]; decide +kernel))
local macro_rules | `(tactic| walk_at "sd") => `(tactic| first | assumption | (show _ ≠ _; omega) | exact Or.inl ⟨by omega, by omega⟩ | exact Or.inr ⟨by omega, by omega⟩ | exact ⟨by decide, by decide⟩ | exact ⟨by decide, by decide, by decide⟩ | exact ⟨by omega, by omega, by omega⟩)
/-! one step of a reading, and many -/
local macro_rules | `(tactic| walk_at "st") => `(tactic| first
  | with_reducible refine i_seq ?_
  | with_reducible refine i_if ?_
  | with_reducible refine i_next ?_
  | with_reducible refine i_ret ?_
  | with_reducible refine i_retN ?_
  | with_reducible refine i_drop ?_
  | with_reducible refine i_asg ?_
  | with_reducible refine i_gname ?_
  | with_reducible refine i_gsub ?_
  | ((with_reducible refine i_var (v := ?vv) ?hv ?_); (case hv => exact rfl))
  | with_reducible refine i_c ?_
  | with_reducible refine i_op ?_
  | with_reducible refine i_un ?_
  | with_reducible refine i_test ?_
  | with_reducible refine i_tB ?_
  | with_reducible refine i_and ?_
  | with_reducible refine i_or ?_
  | with_reducible refine i_not ?_
  | with_reducible refine i_andV ?_
  | with_reducible refine i_orV ?_
  | with_reducible refine i_notV ?_
  | with_reducible refine i_ifE ?_
  | with_reducible refine i_chain ?_
  | with_reducible refine i_bl ?_
  | with_reducible refine i_nil ?_
  | with_reducible refine i_cons ?_
  | with_reducible refine i_call ?_
  | with_reducible refine i_cb ?_
  | with_reducible refine i_rI0 ?_
  | with_reducible refine i_rU ?_
  | ((with_reducible refine i_rEq ?hs ?_); (case hs => exact rfl))
  | ((with_reducible refine i_rNe ?hs ?_); (case hs => exact rfl))
  | ((with_reducible refine i_rI ?hc ?_); (case hc => walk_at "sd"))
  | ((with_reducible refine i_ixL (xs := ?xs) (v := ?vv) ?hS ?he ?_); (case hS => walk_at "sq"); (case he => exact rfl))
  | ((with_reducible refine i_setL (xs := ?xs) (j := ?jj) ?hS ?he ?_); (case hS => walk_at "hp"); (case he => exact rfl))
  | with_reducible refine i_tup ?_
  | with_reducible refine i_lst ?_
  | with_reducible refine i_bm ?_
  | with_reducible refine i_bm0 ?_
  | with_reducible refine i_m1 ?_
  | with_reducible refine i_sl ?_
  | with_reducible refine i_nopart ?_
  | with_reducible refine i_part ?_
  | with_reducible refine i_int ?_
  | with_reducible refine i_str ?_
  | with_reducible refine i_for ?_
  | with_reducible refine i_yes ?_
  | ((with_reducible refine i_lenL (xs := ?xs) ?hS ?_); (case hS => walk_at "sq"))
  | ((with_reducible refine i_room ?hz ?_); (case hz => walk_at "len"))
  | with_reducible refine i_leT ?_
  | with_reducible refine i_notInS ?_
  | with_reducible refine i_inS ?_
  | with_reducible refine i_find ?_
  | with_reducible refine i_isB ?_
  | with_reducible refine i_max2 ?_
  | with_reducible refine i_min2 ?_
  | with_reducible exact trivial
  | with_reducible refine iteT ?_
  | with_reducible refine iteF ?_
  | with_reducible refine i_isstr ?_
  | with_reducible refine i_lc ?_
  | ((with_reducible refine i_cat (xs := ?xs) (zs := ?zs) ?ha ?hb ?hz ?_); (case ha => walk_at "hp"); (case hb => walk_at "hp"); (case hz => walk_at "len"))
  | ((with_reducible refine i_tyL (xs := ?xs) ?ha ?_); (case ha => walk_at "hp"))
  | with_reducible refine i_list ?_
  | with_reducible refine i_disp ?_
  | with_reducible refine i_pairs0 ?_
  | with_reducible refine i_pairs ?_
  | with_reducible refine i_newK ?_
  | with_reducible refine i_gcons ?_
  | with_reducible refine i_gnil ?_
  | with_reducible refine i_revL ?_
  | with_reducible refine i_rng1 ?_
  | ((with_reducible refine i_wipe ?hw ?_); (case hw => exact rfl))
  | with_reducible refine iteNT ?_
  | with_reducible refine iteNF ?_)
local macro_rules | `(tactic| walk_at "sx") => `(tactic| first
  | walk_at "st"
  | with_reducible refine i_kinit ?_
  | with_reducible refine i_ost ?_
  | with_reducible refine i_mkO ?_
  | with_reducible refine i_callE ?_
  | with_reducible refine i_makeE ?_
  | with_reducible refine i_xf ?_
  | with_reducible refine i_sfld ?_
  | with_reducible refine i_fld ?_
  | ((with_reducible refine i_ixT (xs := ?xs) (v := ?vv) ?hS ?he ?_); (case hS => exact SqT.tup (by walk_at "hp")); (case he => exact rfl))
  | with_reducible refine i_intB ?_
  | with_reducible refine i_runS ?_
  | with_reducible refine i_runN ?_
  | ((with_reducible refine i_xf1 (fs := ?ff) (v := ?vv) ?hx ?hl ?_); (case hx => walk_at "hp"); (case hl => exact rfl))
  | with_reducible refine i_methE ?_
  | with_reducible refine i_meth ?_
  | with_reducible refine i_make ?_
  | ((with_reducible refine i_obj (dx := ?dd) (fs := ?ff) ?hx ?hl ?_); (case hx => walk_at "hp"); (case hl => exact rfl))
  | ((with_reducible refine i_fld1 (C := ?CC) (dx := ?dd) (fs := ?ff) (v := ?vv) ?hx ?cl ?na ?hl ?_); (case hx => walk_at "hp"); (case cl => assumption); (case na => assumption); (case hl => exact rfl)))
local macro_rules | `(tactic| walk_at "sy") => `(tactic| first
  | walk_at "sx"
  | with_reducible refine i_dget ?_
  | with_reducible refine i_dget2 ?_
  | with_reducible refine i_dput ?_
  | with_reducible refine i_din ?_
  | ((with_reducible refine i_aug (x := ?vv) ?hx ?_); (case hx => exact rfl)))
local macro_rules | `(tactic| walk_at "rd") => `(tactic| repeat (walk_at "sy"))

/-- a vessel's data -/
structure Vd where
  k : Kd
  n : Str
  p : Str
  g : Str
  h : Int
  s : Int
  d : Int
  c : Int
structure Vd.ok (v : Vd) : Prop where
  five : Five v.n v.p v.h v.s v.d
  g : isN (.str v.g) = true
  c : 1 ≤ v.c ∧ v.c ≤ 1000000
def Vd.row (v : Vd) : List V := match v.k with
  | .v => [.str v.n, .str v.p, .int v.h, .int v.s, .int v.d]
  | .b => [.str v.n, .str v.p, .int v.h, .int v.s, .int v.d, .int v.c]
  | .s => [.str v.n, .str v.p, .str v.g, .int v.h, .int v.s, .int v.d]
def Vd.rowD (v : Vd) : List PyData := match v.k with
  | .v => [.str v.n, .str v.p, .int v.h, .int v.s, .int v.d]
  | .b => [.str v.n, .str v.p, .int v.h, .int v.s, .int v.d, .int v.c]
  | .s => [.str v.n, .str v.p, .str v.g, .int v.h, .int v.s, .int v.d]
def Vd.thin (v : Vd) : Int := match v.k with
  | .b => v.c
  | _ => 0
def Vd.flds (v : Vd) : List (Str × V) := fldK v.k v.row
theorem Vd.flds_eq (v : Vd) : ∃ r, v.flds = fldV (.str v.n) (.str v.p) (.int v.h) (.int v.s) (.int v.d) ++ r := by
  unfold Vd.flds Vd.row
  cases v.k with
  | v => exact ⟨[], rfl⟩
  | b => exact ⟨_, rfl⟩
  | s => exact ⟨_, rfl⟩
theorem Vd.l_name (v : Vd) : v.flds.lookup (Str.ofString "name") = some (.str v.n) := by obtain ⟨r, e⟩ := v.flds_eq; rw [e]; rfl
theorem Vd.l_port (v : Vd) : v.flds.lookup (Str.ofString "port") = some (.str v.p) := by obtain ⟨r, e⟩ := v.flds_eq; rw [e]; rfl
theorem Vd.l_hour (v : Vd) : v.flds.lookup (Str.ofString "hour") = some (.int v.h) := by obtain ⟨r, e⟩ := v.flds_eq; rw [e]; rfl
theorem Vd.l_strength (v : Vd) : v.flds.lookup (Str.ofString "strength") = some (.int v.s) := by obtain ⟨r, e⟩ := v.flds_eq; rw [e]; rfl
theorem Vd.l_draught (v : Vd) : v.flds.lookup (Str.ofString "draught") = some (.int v.d) := by obtain ⟨r, e⟩ := v.flds_eq; rw [e]; rfl
theorem Vd.l_none (v : Vd) : v.flds.lookup (Str.ofString "thins") = none ∧ v.flds.lookup (Str.ofString "row") = none := by
  unfold Vd.flds Vd.row
  cases v.k with
  | v => exact ⟨rfl, rfl⟩
  | b => exact ⟨rfl, rfl⟩
  | s => exact ⟨rfl, rfl⟩
theorem Vd.ps {v : Vd} (o : v.ok) : PsAll v.row v.rowD := by
  have f := o.five
  have := f.bh; have := f.bs; have := f.bd; have := o.c
  unfold Vd.row Vd.rowD
  cases v.k with
  | v => exact .cons (name_ps f.nn) (.cons (name_ps f.np) (.cons (.int (by omega)) (.cons (.int (by omega)) (.cons (.int (by omega)) .nil))))
  | b => exact .cons (name_ps f.nn) (.cons (name_ps f.np) (.cons (.int (by omega)) (.cons (.int (by omega)) (.cons (.int (by omega)) (.cons (.int (by omega)) .nil)))))
  | s => exact .cons (name_ps f.nn) (.cons (name_ps f.np) (.cons (name_ps o.g) (.cons (.int (by omega)) (.cons (.int (by omega)) (.cons (.int (by omega)) .nil)))))
theorem Vd.thin_le {v : Vd} (o : v.ok) : 0 ≤ v.thin ∧ v.thin ≤ 1000000 := by
  have := o.c
  unfold Vd.thin
  cases v.k with
  | v => exact ⟨Int.le_refl 0, by show (0 : Int) ≤ 1000000; decide⟩
  | s => exact ⟨Int.le_refl 0, by show (0 : Int) ≤ 1000000; decide⟩
  | b => exact ⟨by show 0 ≤ v.c; omega, by show v.c ≤ _; omega⟩
theorem Vd.of {k : Kd} {xs : List V} (r : RowK k xs) : ∃ v : Vd, v.ok ∧ v.k = k ∧ v.row = xs := by
  cases k with
  | v =>
    obtain ⟨n, p, h, s, d, f, rfl⟩ := r
    exact ⟨⟨.v, n, p, n, h, s, d, 1⟩, ⟨f, f.nn, (by decide : (1 : Int) ≤ 1 ∧ (1 : Int) ≤ 1000000)⟩, rfl, rfl⟩
  | b =>
    obtain ⟨n, p, h, s, d, c, f, hc, rfl⟩ := r
    exact ⟨⟨.b, n, p, n, h, s, d, c⟩, ⟨f, f.nn, hc⟩, rfl, rfl⟩
  | s =>
    obtain ⟨n, p, h, s, d, g, f, hg, rfl⟩ := r
    exact ⟨⟨.s, n, p, g, h, s, d, 1⟩, ⟨f, hg, (by decide : (1 : Int) ≤ 1 ∧ (1 : Int) ≤ 1000000)⟩, rfl, rfl⟩
abbrev VL := List (Addr × Vd)
def refs (L : VL) : List V := L.map fun z => .ref z.1
def IsMax (m : Int) (l : List Int) : Prop := m ∈ l ∧ ∀ y ∈ l, y ≤ m
def IsMin (m : Int) (l : List Int) : Prop := m ∈ l ∧ ∀ y ∈ l, m ≤ y
theorem IsMax.uniq {a b : Int} {l : List Int} (h : IsMax a l) (h' : IsMax b l) : a = b := by have := h.2 b h'.1; have := h'.2 a h.1; omega
def thins (L : VL) : Int := (L.map fun z => z.2.thin).sum
def hoursL (L : VL) : List Int := L.map fun z => z.2.h
def drL (L : VL) : List Int := L.map fun z => z.2.d
def strL : Int → VL → List Int
  | _, [] => []
  | t, z :: r => (z.2.s + t) :: strL (t + z.2.thin) r
def letsAll : VL → Int → Bool
  | [], _ => true
  | z :: r, t => decide (t ≤ z.2.s) && letsAll r (max 0 (t - z.2.thin))
theorem strL_app : ∀ (L M : VL) (t : Int), strL t (L ++ M) = strL t L ++ strL (t + thins L) M
  | [], M, t => by simp [strL, thins]
  | z :: r, M, t => by
    show (z.2.s + t) :: strL (t + z.2.thin) (r ++ M) = _
    rw [strL_app r M]
    have e : t + z.2.thin + thins r = t + thins (z :: r) := by unfold thins; simp; omega
    rw [e]; rfl
theorem thins_app (L M : VL) : thins (L ++ M) = thins L + thins M := by unfold thins; simp
theorem strL_len : ∀ (L : VL) (t : Int), (strL t L).length = L.length
  | [], _ => rfl
  | _ :: r, _ => by show (strL _ r).length + 1 = _; rw [strL_len r]; rfl
theorem thins_nonneg : ∀ {L : VL}, (∀ z ∈ L, z.2.ok) → 0 ≤ thins L ∧ thins L ≤ 1000000 * L.length
  | [], _ => ⟨by decide, by decide⟩
  | z :: r, h => by
    have := (h z (by simp)).c
    have t := Vd.thin_le (h z (by simp))
    have ih := thins_nonneg (L := r) fun y hy => h y (by simp [hy])
    have e : thins (z :: r) = z.2.thin + thins r := by unfold thins; simp
    have e2 : ((z :: r).length : Int) = r.length + 1 := by simp
    rw [e, e2]
    omega
theorem letsAll_iff : ∀ {L : VL} (T t : Int), (∀ z ∈ L, z.2.ok) → 0 ≤ T → letsAll L (max 0 (t - T)) = decide (∀ y ∈ strL T L, t ≤ y)
  | [], T, t, _, _ => by simp [letsAll, strL]
  | z :: r, T, t, h, hT => by
    have o := h z (by simp)
    have t1 := Vd.thin_le o
    have s0 := o.five.bs.1
    have ih := letsAll_iff (L := r) (T + z.2.thin) t (fun y hy => h y (by simp [hy])) (by omega)
    have e : max 0 (max 0 (t - T) - z.2.thin) = max 0 (t - (T + z.2.thin)) := by omega
    show (decide (max 0 (t - T) ≤ z.2.s) && letsAll r (max 0 (max 0 (t - T) - z.2.thin))) = decide (∀ y ∈ (z.2.s + T) :: strL (T + z.2.thin) r, t ≤ y)
    rw [e, ih, ← Bool.decide_and, decide_eq_decide, List.forall_mem_cons]
    constructor
    · rintro ⟨a, b⟩; exact ⟨by omega, b⟩
    · rintro ⟨a, b⟩; exact ⟨by omega, b⟩
theorem lets_min {L : VL} {m : Int} (h : ∀ z ∈ L, z.2.ok) (hm : IsMin m (strL 0 L)) (m0 : 0 ≤ m) : letsAll L m = true ∧ letsAll L (m + 1) = false := by
  have a := letsAll_iff (L := L) 0 m h (by decide)
  have b := letsAll_iff (L := L) 0 (m + 1) h (by decide)
  rw [show max 0 (m - 0) = m by omega] at a
  rw [show max 0 (m + 1 - 0) = m + 1 by omega] at b
  refine ⟨a.trans (decide_eq_true hm.2), b.trans (decide_eq_false fun z => ?_)⟩
  have := z m hm.1
  omega
section
variable {K : PySem.W.Frag}
/-- the vessel at x -/
def VesA (aV aB aS : Addr) (H : Hp) (x : Addr) (v : Vd) : Prop := v.ok ∧ ∃ dx, H x = some (.ins (clsK aV aB aS v.k) dx v.flds)
def VesL (aV aB aS : Addr) (H : Hp) (L : VL) : Prop := ∀ z ∈ L, VesA aV aB aS H z.1 z.2
variable {aV aB aS : Addr}
theorem VesA.same {H H' : Hp} {x : Addr} {v : Vd} (a : VesA aV aB aS H x v) (e : Same H H') : VesA aV aB aS H' x v := by obtain ⟨o, dx, h⟩ := a; exact ⟨o, dx, e _ _ h⟩
theorem VesL.same {H H' : Hp} {L : VL} (a : VesL aV aB aS H L) (e : Same H H') : VesL aV aB aS H' L := fun z hz => (a z hz).same e
theorem VesL.updL {H : Hp} {L : VL} {D : Addr} {xs ys : List V} (a : VesL aV aB aS H L) (hD : H D = some (.lst xs)) : VesL aV aB aS (upd H D (.lst ys)) L := fun z hz => by
  obtain ⟨o, dx, h⟩ := a z hz
  exact ⟨o, dx, by rw [upd_ne (ne_of h hD (by intro q; cases q))]; exact h⟩
theorem VesL.updN {H : Hp} {L : VL} {D : Addr} {o : HO} (a : VesL aV aB aS H L) (hD : H D = none) : VesL aV aB aS (upd H D o) L := a.same (Same.new _ hD)
theorem VesL.ok {H : Hp} {L : VL} (a : VesL aV aB aS H L) : ∀ z ∈ L, z.2.ok := fun z hz => (a z hz).1
theorem VesL.but {H H' : Hp} {L : VL} {b : Addr} {xs : List V} (a : VesL aV aB aS H L) (hb : H b = some (.lst xs)) (e : But b H H') : VesL aV aB aS H' L := fun z hz => by
  obtain ⟨o, dx, h⟩ := a z hz
  exact ⟨o, dx, e _ _ (ne_of h hb (by intro q; cases q)) h⟩
theorem refs_get {L : VL} {i : Nat} {v : V} (h : (refs L)[i]? = some v) : ∃ z, L[i]? = some z ∧ v = .ref z.1 := by
  unfold refs at h
  rw [List.getElem?_map] at h
  cases hz : L[i]? with
  | none => rw [hz] at h; cases h
  | some z => rw [hz] at h; exact ⟨z, rfl, (Option.some.inj h).symm⟩
theorem take_succ_of {α : Type} {L : List α} {i : Nat} {z : α} (h : L[i]? = some z) : L.take (i + 1) = L.take i ++ [z] := by rw [List.take_add_one, h]; rfl
end
/-- facts of the classes -/
theorem clsK_ok {K : PySem.W.Frag} {mg : Str → Option Value} (T : Top K mg) (k : Kd) : Cls K (clsK T.a_Vessel T.a_Breaker T.a_Ship k) ∧ NoAttr K (clsK T.a_Vessel T.a_Breaker T.a_Ship k) "name" ∧ NoAttr K (clsK T.a_Vessel T.a_Breaker T.a_Ship k) "port" ∧ NoAttr K (clsK T.a_Vessel T.a_Breaker T.a_Ship k) "hour" ∧
    NoAttr K (clsK T.a_Vessel T.a_Breaker T.a_Ship k) "strength" ∧ NoAttr K (clsK T.a_Vessel T.a_Breaker T.a_Ship k) "draught" := by
  cases k with
  | v => exact ⟨T.cl_Vessel, T.na_Vessel_name, T.na_Vessel_port, T.na_Vessel_hour, T.na_Vessel_strength, T.na_Vessel_draught⟩
  | b => exact ⟨T.cl_Breaker, T.na_Breaker_name, T.na_Breaker_port, T.na_Breaker_hour, T.na_Breaker_strength, T.na_Breaker_draught⟩
  | s => exact ⟨T.cl_Ship, T.na_Ship_name, T.na_Ship_port, T.na_Ship_hour, T.na_Ship_strength, T.na_Ship_draught⟩
section
variable {K : PySem.W.Frag} {mg : Str → Option Value} {H : Hp} {B : V → Prop}
abbrev VesT (T : Top K mg) (H : Hp) (x : Addr) (v : Vd) : Prop := VesA T.a_Vessel T.a_Breaker T.a_Ship H x v
theorem f_name (T : Top K mg) {x : Addr} {v : Vd} (h : VesT T H x v) (q : B (.str v.n)) : ∃ a C dx fs u, V.ref x = .ref a ∧ H a = some (.ins C dx fs) ∧ Cls K C ∧ NoAttr K C "name" ∧ fs.lookup (Str.ofString "name") = some u ∧ B u := by
  obtain ⟨_, dx, hx⟩ := h
  exact ⟨x, _, dx, _, _, rfl, hx, (clsK_ok T v.k).1, (clsK_ok T v.k).2.1, v.l_name, q⟩
theorem f_port (T : Top K mg) {x : Addr} {v : Vd} (h : VesT T H x v) (q : B (.str v.p)) : ∃ a C dx fs u, V.ref x = .ref a ∧ H a = some (.ins C dx fs) ∧ Cls K C ∧ NoAttr K C "port" ∧ fs.lookup (Str.ofString "port") = some u ∧ B u := by
  obtain ⟨_, dx, hx⟩ := h
  exact ⟨x, _, dx, _, _, rfl, hx, (clsK_ok T v.k).1, (clsK_ok T v.k).2.2.1, v.l_port, q⟩
theorem f_hour (T : Top K mg) {x : Addr} {v : Vd} (h : VesT T H x v) (q : B (.int v.h)) : ∃ a C dx fs u, V.ref x = .ref a ∧ H a = some (.ins C dx fs) ∧ Cls K C ∧ NoAttr K C "hour" ∧ fs.lookup (Str.ofString "hour") = some u ∧ B u := by
  obtain ⟨_, dx, hx⟩ := h
  exact ⟨x, _, dx, _, _, rfl, hx, (clsK_ok T v.k).1, (clsK_ok T v.k).2.2.2.1, v.l_hour, q⟩
theorem f_strength (T : Top K mg) {x : Addr} {v : Vd} (h : VesT T H x v) (q : B (.int v.s)) : ∃ a C dx fs u, V.ref x = .ref a ∧ H a = some (.ins C dx fs) ∧ Cls K C ∧ NoAttr K C "strength" ∧ fs.lookup (Str.ofString "strength") = some u ∧ B u := by
  obtain ⟨_, dx, hx⟩ := h
  exact ⟨x, _, dx, _, _, rfl, hx, (clsK_ok T v.k).1, (clsK_ok T v.k).2.2.2.2.1, v.l_strength, q⟩
theorem f_draught (T : Top K mg) {x : Addr} {v : Vd} (h : VesT T H x v) (q : B (.int v.d)) : ∃ a C dx fs u, V.ref x = .ref a ∧ H a = some (.ins C dx fs) ∧ Cls K C ∧ NoAttr K C "draught" ∧ fs.lookup (Str.ofString "draught") = some u ∧ B u := by
  obtain ⟨_, dx, hx⟩ := h
  exact ⟨x, _, dx, _, _, rfl, hx, (clsK_ok T v.k).1, (clsK_ok T v.k).2.2.2.2.2, v.l_draught, q⟩
end
section
variable {K : PySem.W.Frag} {H1 : Hp} {a D : Addr} {xs ys : List V} {g : TG} {tt : TT} {te : TE} {vs : List Nat} {σ : L2.St} {Qd : Hp → Prop}
theorem seqT {K : PySem.W.Frag} {H H' : Hp} {a : Addr} {xs : List V} (e : Same H H') (h : SqT K H a xs) : SqT K H' a xs := by
  rcases h with (h | ⟨o, h⟩) | h
  · exact .inl (.inl (e _ _ h))
  · exact .inl (.inr ⟨o, e _ _ h⟩)
  · exact .inr h
/-- a comprehension over a list or a tuple whose element changes nothing -/
theorem lc_pureL (hl : ys.length = xs.length) (hz : xs.length ≤ 1000) (hS : SqL K H1 a xs) (hD : H1 D = none)
    (hs : ∀ (i : Nat) (x y : V) (H : Hp) (N : V → Hp → Prop) (M : Hp → Prop), xs[i]? = some x → ys[i]? = some y → Same H1 H → N y H → g x (wipe σ vs) H fun σ2 H2 => wipe σ2 vs = wipe σ vs ∧ tt σ2 H2 fun b H3 => if b = true then te σ2 H3 N else M H3)
    (hd : Qd (upd H1 D (.lst ys))) :
    ∃ W : Nat → Nat → Hp → Prop, (∃ m, W 0 m (upd H1 D (.lst []))) ∧ ∀ i m H, W i m H →
      ((Itl K a).stop i H ∧ Qd H) ∨ ((Itl K a).go i H ∧ ∃ Nx : Hp → Prop, (∀ H', Nx H' → ∃ m', m' < m ∧ W (i + 1) m' H') ∧ ∀ x H', (Itl K a).yld i H x H' → g x (wipe σ vs) H' fun σ2 H2 => wipe σ2 vs = wipe σ vs ∧ tt σ2 H2 fun b H3 =>
        if b = true then te σ2 H3 fun y H4 => ∃ acc, H4 D = some (.lst acc) ∧ acc.length < sizeLine ∧ Nx (upd H4 D (.lst (acc ++ [y]))) else Nx H3) := by
  refine lc_list (fun i H' => H' = upd H1 D (.lst (ys.take i))) rfl (fun i H' _ e => by rw [e]; exact L2.Same.seq (Same.new _ hD) hS) ?_ ?_
  · rintro i x H' hx rfl
    have lt : i < ys.length := by rw [hl]; exact (List.getElem?_eq_some_iff.mp hx).1
    have hy : ys[i]? = some ys[i] := List.getElem?_eq_getElem lt
    refine hs i x _ _ _ _ hx hy (Same.new _ hD) ⟨_, upd_same, small1000 (by rw [List.length_take]; omega), ?_⟩
    rw [upd_upd, take_succ_of hy]
  · rintro H' rfl
    rw [← hl, List.take_length]; exact hd
theorem lc_pureT (hl : ys.length = xs.length) (hz : xs.length ≤ 1000) (hS : SqT K H1 a xs) (hD : H1 D = none)
    (hs : ∀ (i : Nat) (x y : V) (H : Hp) (N : V → Hp → Prop) (M : Hp → Prop), xs[i]? = some x → ys[i]? = some y → Same H1 H → N y H → g x (wipe σ vs) H fun σ2 H2 => wipe σ2 vs = wipe σ vs ∧ tt σ2 H2 fun b H3 => if b = true then te σ2 H3 N else M H3)
    (hd : Qd (upd H1 D (.lst ys))) :
    ∃ W : Nat → Nat → Hp → Prop, (∃ m, W 0 m (upd H1 D (.lst []))) ∧ ∀ i m H, W i m H →
      ((Itt K a).stop i H ∧ Qd H) ∨ ((Itt K a).go i H ∧ ∃ Nx : Hp → Prop, (∀ H', Nx H' → ∃ m', m' < m ∧ W (i + 1) m' H') ∧ ∀ x H', (Itt K a).yld i H x H' → g x (wipe σ vs) H' fun σ2 H2 => wipe σ2 vs = wipe σ vs ∧ tt σ2 H2 fun b H3 =>
        if b = true then te σ2 H3 fun y H4 => ∃ acc, H4 D = some (.lst acc) ∧ acc.length < sizeLine ∧ Nx (upd H4 D (.lst (acc ++ [y]))) else Nx H3) := by
  refine lc_tup (fun i H' => H' = upd H1 D (.lst (ys.take i))) rfl (fun i H' _ e => by
    rw [e]
    exact seqT (Same.new _ hD) hS) ?_ ?_
  · rintro i x H' hx rfl
    have lt : i < ys.length := by rw [hl]; exact (List.getElem?_eq_some_iff.mp hx).1
    have hy : ys[i]? = some ys[i] := List.getElem?_eq_getElem lt
    refine hs i x _ _ _ _ hx hy (Same.new _ hD) ⟨_, upd_same, small1000 (by rw [List.length_take]; omega), ?_⟩
    rw [upd_upd, take_succ_of hy]
  · rintro H' rfl
    rw [← hl, List.take_length]; exact hd
end
end Ice


set_option Elab.async false
set_option linter.all false
set_option maxRecDepth 100000
set_option maxHeartbeats 4000000
namespace Ice
open PySem PySem.Spec PyProof.Rows L2 TL
/-! side conditions, heaps, one step of a reading, and many -/
local macro_rules | `(tactic| walk_at "hp") => `(tactic| first | assumption | exact upd_same | exact New.at_ (by assumption) | (refine keepU ?_ (by assumption); walk_at "hp") | (refine New.app (by assumption) ?_; walk_at "hp") | (refine Same.app (by assumption) ?_; walk_at "hp") | (refine But.app (by assumption) (by assumption) ?_; walk_at "hp"))
local macro_rules | `(tactic| walk_at "sq") => `(tactic| first | assumption | exact SqL.lst (by walk_at "hp") | exact L2.Same.seq (New.same (by assumption)) (by assumption) | exact L2.Same.seq (by assumption) (by assumption))
local macro_rules | `(tactic| walk_at "len") => `(tactic| first | assumption | (simp only [List.length_cons, List.length_nil, List.length_append, List.length_map]; decide) | (refine Ice.sz_of ?_; simp only [List.length_cons, List.length_nil, List.length_append, List.length_map]; omega))
local macro_rules | `(tactic| walk_at "fresh") => `(tactic| (simp only [List.map_append, List.map_cons, List.map_nil, List.nil_append, List.cons_append]; decide +kernel))
local macro_rules | `(tactic| walk_at "sd") => `(tactic| first | assumption | (show _ ≠ _; omega) | exact Or.inl ⟨by omega, by omega⟩ | exact Or.inr ⟨by omega, by omega⟩ | exact ⟨by decide, by decide⟩ | exact ⟨by decide, by decide, by decide⟩ | exact ⟨by omega, by omega, by omega⟩)
/-! one step of a reading, and many -/
local macro_rules | `(tactic| walk_at "st") => `(tactic| first
  | with_reducible refine i_seq ?_
  | with_reducible refine i_if ?_
  | with_reducible refine i_next ?_
  | with_reducible refine i_ret ?_
  | with_reducible refine i_retN ?_
  | with_reducible refine i_drop ?_
  | with_reducible refine i_asg ?_
  | with_reducible refine i_gname ?_
  | with_reducible refine i_gsub ?_
  | ((with_reducible refine i_var (v := ?vv) ?hv ?_); (case hv => exact rfl))
  | with_reducible refine i_c ?_
  | with_reducible refine i_op ?_
  | with_reducible refine i_un ?_
  | with_reducible refine i_test ?_
  | with_reducible refine i_tB ?_
  | with_reducible refine i_and ?_
  | with_reducible refine i_or ?_
  | with_reducible refine i_not ?_
  | with_reducible refine i_andV ?_
  | with_reducible refine i_orV ?_
  | with_reducible refine i_notV ?_
  | with_reducible refine i_ifE ?_
  | with_reducible refine i_chain ?_
  | with_reducible refine i_bl ?_
  | with_reducible refine i_nil ?_
  | with_reducible refine i_cons ?_
  | with_reducible refine i_call ?_
  | with_reducible refine i_cb ?_
  | with_reducible refine i_rI0 ?_
  | with_reducible refine i_rU ?_
  | ((with_reducible refine i_rEq ?hs ?_); (case hs => exact rfl))
  | ((with_reducible refine i_rNe ?hs ?_); (case hs => exact rfl))
  | ((with_reducible refine i_rI ?hc ?_); (case hc => walk_at "sd"))
  | ((with_reducible refine i_ixL (xs := ?xs) (v := ?vv) ?hS ?he ?_); (case hS => walk_at "sq"); (case he => exact rfl))
  | ((with_reducible refine i_setL (xs := ?xs) (j := ?jj) ?hS ?he ?_); (case hS => walk_at "hp"); (case he => exact rfl))
  | with_reducible refine i_tup ?_
  | with_reducible refine i_lst ?_
  | with_reducible refine i_bm ?_
  | with_reducible refine i_bm0 ?_
  | with_reducible refine i_m1 ?_
  | with_reducible refine i_sl ?_
  | with_reducible refine i_nopart ?_
  | with_reducible refine i_part ?_
  | with_reducible refine i_int ?_
  | with_reducible refine i_str ?_
  | with_reducible refine i_for ?_
  | with_reducible refine i_yes ?_
  | ((with_reducible refine i_lenL (xs := ?xs) ?hS ?_); (case hS => walk_at "sq"))
  | ((with_reducible refine i_room ?hz ?_); (case hz => walk_at "len"))
  | with_reducible refine i_leT ?_
  | with_reducible refine i_notInS ?_
  | with_reducible refine i_inS ?_
  | with_reducible refine i_find ?_
  | with_reducible refine i_isB ?_
  | with_reducible refine i_max2 ?_
  | with_reducible refine i_min2 ?_
  | with_reducible exact trivial
  | with_reducible refine iteT ?_
  | with_reducible refine iteF ?_
  | with_reducible refine i_isstr ?_
  | with_reducible refine i_lc ?_
  | ((with_reducible refine i_cat (xs := ?xs) (zs := ?zs) ?ha ?hb ?hz ?_); (case ha => walk_at "hp"); (case hb => walk_at "hp"); (case hz => walk_at "len"))
  | ((with_reducible refine i_tyL (xs := ?xs) ?ha ?_); (case ha => walk_at "hp"))
  | with_reducible refine i_list ?_
  | with_reducible refine i_disp ?_
  | with_reducible refine i_pairs0 ?_
  | with_reducible refine i_pairs ?_
  | with_reducible refine i_newK ?_
  | with_reducible refine i_gcons ?_
  | with_reducible refine i_gnil ?_
  | with_reducible refine i_revL ?_
  | with_reducible refine i_rng1 ?_
  | ((with_reducible refine i_wipe ?hw ?_); (case hw => exact rfl))
  | with_reducible refine iteNT ?_
  | with_reducible refine iteNF ?_)
local macro_rules | `(tactic| walk_at "sx") => `(tactic| first
  | walk_at "st"
  | with_reducible refine i_kinit ?_
  | with_reducible refine i_ost ?_
  | with_reducible refine i_mkO ?_
  | with_reducible refine i_callE ?_
  | with_reducible refine i_makeE ?_
  | with_reducible refine i_xf ?_
  | with_reducible refine i_sfld ?_
  | with_reducible refine i_fld ?_
  | ((with_reducible refine i_ixT (xs := ?xs) (v := ?vv) ?hS ?he ?_); (case hS => exact SqT.tup (by walk_at "hp")); (case he => exact rfl))
  | with_reducible refine i_intB ?_
  | with_reducible refine i_runS ?_
  | with_reducible refine i_runN ?_
  | ((with_reducible refine i_xf1 (fs := ?ff) (v := ?vv) ?hx ?hl ?_); (case hx => walk_at "hp"); (case hl => exact rfl))
  | with_reducible refine i_methE ?_
  | with_reducible refine i_meth ?_
  | with_reducible refine i_make ?_
  | ((with_reducible refine i_obj (dx := ?dd) (fs := ?ff) ?hx ?hl ?_); (case hx => walk_at "hp"); (case hl => exact rfl))
  | ((with_reducible refine i_fld1 (C := ?CC) (dx := ?dd) (fs := ?ff) (v := ?vv) ?hx ?cl ?na ?hl ?_); (case hx => walk_at "hp"); (case cl => assumption); (case na => assumption); (case hl => exact rfl)))
local macro_rules | `(tactic| walk_at "sy") => `(tactic| first
  | walk_at "sx"
  | with_reducible refine i_dget ?_
  | with_reducible refine i_dget2 ?_
  | with_reducible refine i_dput ?_
  | with_reducible refine i_din ?_
  | ((with_reducible refine i_aug (x := ?vv) ?hx ?_); (case hx => exact rfl)))
local macro_rules | `(tactic| walk_at "rd") => `(tactic| repeat (walk_at "sy"))

section
variable {P : Program} {w : World} {K : PySem.W.Frag} {mg : Str → Option Value} {base : Heap}
theorem i_tupI {σ : L2.St} {H : Hp} {te : TE} {R : It → Hp → Prop} (h : te σ H fun x H1 => ∃ a, x = .ref a ∧ (∃ xs, SqT K H1 a xs) ∧ R (Itt K a) H1) : iTup K te σ H R := h
/-- a thing of a list that is to be a train -/
inductive ItT (T : Top K mg) (H : Hp) : V → Bool → Prop
  | ves {x : Addr} {v : Vd} : VesT T H x v → ItT T H (.ref x) true
  | oth {v : V} {t : Value} : TyX K H v t → PySem.W.kitOne K t (.ref T.a_Vessel) = some false → ItT T H v false
  | trn {x dx : Addr} {fs : List (Str × V)} : H x = some (.ins T.a_Train dx fs) → ItT T H (.ref x) false
theorem tyI {C a dx : Addr} {fs : List (Str × V)} {H : Hp} (e : H a = some (.ins C dx fs)) (cl : Cls K C) (ca : PySem.W.findIn K (.ref C) "__class__" = some (some (.builtin "object.__class__"))) (mo : PySem.W.mroIn K C (.type "object") = some true) (T : Top K mg) :
    TyX K H (.ref a) (.ref C) := .base (.ins e cl ca T.sgc T.tkc mo)
theorem ves_ty (T : Top K mg) {H : Hp} {x : Addr} {v : Vd} (h : VesT T H x v) : ∃ C, TyX K H (.ref x) (.ref C) ∧ PySem.W.kitOne K (.ref C) (.ref T.a_Vessel) = some true ∧ PySem.W.kitOne K (.ref C) (.ref T.a_Train) = some false := by
  obtain ⟨_, dx, hx⟩ := h
  cases hk : v.k with
  | v => rw [hk] at hx; exact ⟨_, tyI hx T.cl_Vessel T.ca_Vessel T.mo_Vessel T, T.io_Vessel_Vessel, T.io_Vessel_Train⟩
  | b => rw [hk] at hx; exact ⟨_, tyI hx T.cl_Breaker T.ca_Breaker T.mo_Breaker T, T.io_Breaker_Vessel, T.io_Breaker_Train⟩
  | s => rw [hk] at hx; exact ⟨_, tyI hx T.cl_Ship T.ca_Ship T.mo_Ship T, T.io_Ship_Vessel, T.io_Ship_Train⟩
theorem i_isiV {H : Hp} {Q : VK} {v : V} {D : Addr} {t : Value} {b : Bool} (h : TyX K H v t) (e : PySem.W.kitOne K t (.ref D) = some b) (q : Q (.bl b) H) : rIsi K [v, .ref D] H Q := ⟨v, .ref D, t, .ref D, b, rfl, .own D, h, e, q⟩
theorem tyx_same {H H' : Hp} {v : V} {t : Value} (h : TyX K H v t) (e : Same H H') : TyX K H' v t := by
  cases h with
  | base h =>
    refine .base ?_
    cases h with
    | non => exact .non
    | bl x => exact .bl x
    | int i => exact .int i
    | str x => exact .str x
    | flt x => exact .flt x
    | lst h => exact .lst (e _ _ h)
    | frz h => exact .frz (e _ _ h)
    | tup h => exact .tup (e _ _ h)
    | dK h => exact .dK (e _ _ h)
    | dT h => exact .dT (e _ _ h)
    | ins h cl a b c d => exact .ins (e _ _ h) cl a b c d
  | byt b => exact .byt b
  | set h => exact .set (e _ _ h)
  | kList h c => exact .kList h c
  | kTuple h c => exact .kTuple h c
  | kDict h c => exact .kDict h c
  | fTuple h => exact .fTuple (e _ _ h)
  | fDict h => exact .fDict (e _ _ h)
theorem ItT.same {T : Top K mg} {H H' : Hp} {v : V} {b : Bool} (h : ItT T H v b) (e : Same H H') : ItT T H' v b := by
  cases h with
  | ves h => exact .ves (h.same e)
  | oth h k => exact .oth (tyx_same h e) k
  | trn h => exact .trn (e _ _ h)
/-- what can be a train -/
inductive CanT (T : Top K mg) (H : Hp) : V → Bool → Prop
  | no {v : V} {t : Value} : TyX K H v t → PySem.W.kitAny K t [.type "list", .type "tuple"] = some false → CanT T H v false
  | lst {p : Addr} {xs : List V} {bs : List Bool} : SqL K H p xs → TyX K H (.ref p) (.type "list") → bs.length = xs.length → (∀ (i : Nat) (x : V) (b : Bool), xs[i]? = some x → bs[i]? = some b → ItT T H x b) → CanT T H (.ref p) (decide ((1 : Int) ≤ xs.length) && decide ((xs.length : Int) ≤ 6) && bs.all id)
  | tup {p : Addr} {xs : List V} {bs : List Bool} : SqT K H p xs → TyX K H (.ref p) (.type "tuple") → bs.length = xs.length → (∀ (i : Nat) (x : V) (b : Bool), xs[i]? = some x → bs[i]? = some b → ItT T H x b) → CanT T H (.ref p) (decide ((1 : Int) ≤ xs.length) && decide ((xs.length : Int) ≤ 6) && bs.all id)
def spCan (T : Top K mg) : Sp := fun vs H Q _ => ∃ (v : V) (b : Bool), vs = [v] ∧ CanT T H v b ∧ ∀ H', Same H H' → Q (.bl b) H'
theorem tail_all {bs : List Bool} {i : Nat} (h : (bs.take i).all id = true) {b : Bool} (hb : bs[i]? = some b) : (b = false → bs.all id = false) ∧ (b = true → (bs.take (i + 1)).all id = true) := by
  refine ⟨fun e => ?_, fun e => ?_⟩
  · subst e
    rw [List.all_eq_false]
    exact ⟨false, List.mem_of_getElem? hb, by decide⟩
  · rw [take_succ_of hb, List.all_append, h, e]; rfl
theorem i_isiTT {H : Hp} {Q : VK} {v : V} {tp : Addr} {t : Value} {b : Bool} (hT : H tp = some (.tup [.ty "list", .ty "tuple"])) (h : TyX K H v t) (e : PySem.W.kitAny K t [.type "list", .type "tuple"] = some b) (q : Q (.bl b) H) : rIsiT K [v, .ref tp] H Q :=
  ⟨v, tp, _, t, _, b, rfl, hT, .cons (.ty _) (.cons (.ty _) .nil), h, e, q⟩
theorem kitL : PySem.W.kitAny K (.type "list") [.type "list", .type "tuple"] = some true := rfl
theorem kitT : PySem.W.kitAny K (.type "tuple") [.type "list", .type "tuple"] = some true := by
  show (match PySem.W.kitOne K (.type "tuple") (.type "list") with | some true => some true | some false => PySem.W.kitAny K (.type "tuple") [.type "tuple"] | none => none) = some true
  rw [show PySem.W.kitOne K (.type "tuple") (.type "list") = some false from kit_ty (by decide +kernel)]
  rfl
theorem ok_can_be_train (T : Top K mg) : FnG P w K mg base CX0 1 T.a_can_be_train T.d_can_be_train ["thing"] (spCan T) := by
  refine okG T.F_can_be_train sc_can_be_train (fun vs H Q E h => ?_) (fun cdv A outer s H vs Q E hr hgd h => ?_)
  · obtain ⟨v, b, rfl, _⟩ := h
    rfl
  · obtain ⟨v, b, rfl, c, q⟩ := h
    cases c with
    | no ty k =>
      refine ⟨_, (pss_cons (ps_if (PW.pt (pw_or (pt_not (pt_val (pe_callB call_isiT (by rfl) T.n_isinstance (by decide +kernel) (pa_cons (pv 0) (pa_cons (pe_tup (pa_cons (pe_bltn (v := .ty "list") (by rfl) T.n_list (by decide +kernel) rfl) (pa_cons (pe_bltn (v := .ty "tuple") (by rfl) T.n_tuple (by decide +kernel) rfl) pa_nil))) pa_nil))))) (pw_or1 (pt_not (pt_chain op_le op_le pe_int (pe_callB c_len (by rfl) T.n_len (by decide +kernel) (pa_cons (pv 0) pa_nil)) (pe_glob (v := .int 6) (by rfl) T.c_TRAIN_MOST ⟨_, rfl⟩))))))
        (pss_one (ps_ret pe_bl))
        pss_nil)
      (pss_cons (ps_for PassesOwn.never rfl (pi_list (pv 0)) (pg_name (i := 1) sc_can_be_train.nd rfl (by first | exact Or.inl rfl | exact Or.inr rfl))
        (pss_one (ps_if (PW.pt (pw_or (pt_not (pt_val (pe_callB c_isi (by rfl) T.n_isinstance (by decide +kernel) (pa_cons (pv 1) (pa_cons (pe_glob (v := .ref T.a_Vessel) (by rfl) T.c_Vessel rfl) pa_nil))))) (pw_or1 (pt_val (pe_callB c_isi (by rfl) T.n_isinstance (by decide +kernel) (pa_cons (pv 1) (pa_cons (pe_glob (v := .ref T.a_Train) (by rfl) T.c_Train rfl) pa_nil)))))))
        (pss_one (ps_ret pe_bl))
        pss_nil)))
      (pss_one (ps_ret pe_bl)))), ?_⟩
      walk_at "rd"
      (intro p1 hp1; generalize ep1 : upd _ p1 _ = J1; have N1 := New.of ep1 hp1; clear ep1 hp1)
      walk_at "rd"
      refine i_isiTT N1.at_ (tyx_same ty N1.same) k ?_
      walk_at "rd"
      exact q _ N1.same
    | @lst p xs bs hS ty hl hit =>
      refine ⟨_, (pss_cons (ps_if (PW.pt (pw_or (pt_not (pt_val (pe_callB call_isiT (by rfl) T.n_isinstance (by decide +kernel) (pa_cons (pv 0) (pa_cons (pe_tup (pa_cons (pe_bltn (v := .ty "list") (by rfl) T.n_list (by decide +kernel) rfl) (pa_cons (pe_bltn (v := .ty "tuple") (by rfl) T.n_tuple (by decide +kernel) rfl) pa_nil))) pa_nil))))) (pw_or1 (pt_not (pt_chain op_le op_le pe_int (pe_callB c_len (by rfl) T.n_len (by decide +kernel) (pa_cons (pv 0) pa_nil)) (pe_glob (v := .int 6) (by rfl) T.c_TRAIN_MOST ⟨_, rfl⟩))))))
        (pss_one (ps_ret pe_bl))
        pss_nil)
      (pss_cons (ps_for PassesOwn.never rfl (pi_list (pv 0)) (pg_name (i := 1) sc_can_be_train.nd rfl (by first | exact Or.inl rfl | exact Or.inr rfl))
        (pss_one (ps_if (PW.pt (pw_or (pt_not (pt_val (pe_callB c_isi (by rfl) T.n_isinstance (by decide +kernel) (pa_cons (pv 1) (pa_cons (pe_glob (v := .ref T.a_Vessel) (by rfl) T.c_Vessel rfl) pa_nil))))) (pw_or1 (pt_val (pe_callB c_isi (by rfl) T.n_isinstance (by decide +kernel) (pa_cons (pv 1) (pa_cons (pe_glob (v := .ref T.a_Train) (by rfl) T.c_Train rfl) pa_nil)))))))
        (pss_one (ps_ret pe_bl))
        pss_nil)))
      (pss_one (ps_ret pe_bl)))), ?_⟩
      walk_at "rd"
      (intro p1 hp1; generalize ep1 : upd _ p1 _ = J1; have N1 := New.of ep1 hp1; clear ep1 hp1)
      walk_at "rd"
      refine i_isiTT N1.at_ (tyx_same ty N1.same) kitL ?_
      have hS1 := L2.Same.seq N1.same hS
      walk_at "rd"
      refine ifs (fun h1 => ?_) (fun h1 => ?_)
      · walk_at "rd"
        refine ifs (fun h2 => ?_) (fun h2 => ?_)
        · walk_at "rd"
          replace h2 : decide ((xs.length : Int) ≤ 6) = false := by simpa using h2
          rw [h2, Bool.and_false, Bool.false_and] at q
          exact q _ N1.same
        · walk_at "rd"
          replace h2 : decide ((xs.length : Int) ≤ 6) = true := by simpa using h2
          rw [h1, h2, Bool.and_self, Bool.true_and] at q
          refine ⟨p, rfl, ⟨_, hS1⟩, ?_⟩
          refine for_list (K := K) (a := p) (xs := xs) (fun i σ H' => Same J1 H' ∧ (bs.take i).all id = true ∧ ∃ z, σ = [some (.ref p), z])
            ⟨Same.refl _, rfl, _, rfl⟩ (fun i σ H' _ h => L2.Same.seq h.1 hS1) ?_ ?_
          · rintro i v σ H1 hi ⟨sH, hf, z, rfl⟩
            have lt : i < bs.length := by rw [hl]; exact (List.getElem?_eq_some_iff.mp hi).1
            have hb : bs[i]? = some bs[i] := List.getElem?_eq_getElem lt
            obtain ⟨t1, t2⟩ := tail_all hf hb
            have s01 := N1.same.trans sH
            have it := (hit i v _ hi hb).same s01
            generalize bs[i] = b at it t1 t2
            walk_at "rd"
            cases it with
            | ves h =>
              obtain ⟨C, ty1, k1, k2⟩ := ves_ty T h
              refine i_isiV ty1 k1 ?_
              walk_at "rd"
              refine i_isiV ty1 k2 ?_
              walk_at "rd"
              exact ⟨sH, t2 rfl, _, rfl⟩
            | oth h k =>
              refine i_isiV h k ?_
              walk_at "rd"
              rw [t1 rfl] at q
              exact q _ s01
            | trn h =>
              have ty1 := tyI h T.cl_Train T.ca_Train T.mo_Train T
              refine i_isiV ty1 T.io_Train_Vessel ?_
              walk_at "rd"
              refine i_isiV ty1 T.io_Train_Train ?_
              walk_at "rd"
              rw [t1 rfl] at q
              exact q _ s01
          · rintro σ H1 ⟨sH, hf, z, rfl⟩
            rw [← hl, List.take_length] at hf
            rw [hf] at q
            walk_at "rd"
            exact q _ (N1.same.trans sH)
      · walk_at "rd"
        rw [h1, Bool.false_and, Bool.false_and] at q
        exact q _ N1.same
    | @tup p xs bs hS ty hl hit =>
      refine ⟨_, (pss_cons (ps_if (PW.pt (pw_or (pt_not (pt_val (pe_callB call_isiT (by rfl) T.n_isinstance (by decide +kernel) (pa_cons (pv 0) (pa_cons (pe_tup (pa_cons (pe_bltn (v := .ty "list") (by rfl) T.n_list (by decide +kernel) rfl) (pa_cons (pe_bltn (v := .ty "tuple") (by rfl) T.n_tuple (by decide +kernel) rfl) pa_nil))) pa_nil))))) (pw_or1 (pt_not (pt_chain op_le op_le pe_int (pe_callB c_len (by rfl) T.n_len (by decide +kernel) (pa_cons (pv 0) pa_nil)) (pe_glob (v := .int 6) (by rfl) T.c_TRAIN_MOST ⟨_, rfl⟩))))))
        (pss_one (ps_ret pe_bl))
        pss_nil)
      (pss_cons (ps_for PassesOwn.never rfl (pi_tup (pv 0)) (pg_name (i := 1) sc_can_be_train.nd rfl (by first | exact Or.inl rfl | exact Or.inr rfl))
        (pss_one (ps_if (PW.pt (pw_or (pt_not (pt_val (pe_callB c_isi (by rfl) T.n_isinstance (by decide +kernel) (pa_cons (pv 1) (pa_cons (pe_glob (v := .ref T.a_Vessel) (by rfl) T.c_Vessel rfl) pa_nil))))) (pw_or1 (pt_val (pe_callB c_isi (by rfl) T.n_isinstance (by decide +kernel) (pa_cons (pv 1) (pa_cons (pe_glob (v := .ref T.a_Train) (by rfl) T.c_Train rfl) pa_nil)))))))
        (pss_one (ps_ret pe_bl))
        pss_nil)))
      (pss_one (ps_ret pe_bl)))), ?_⟩
      walk_at "rd"
      (intro p1 hp1; generalize ep1 : upd _ p1 _ = J1; have N1 := New.of ep1 hp1; clear ep1 hp1)
      walk_at "rd"
      refine i_isiTT N1.at_ (tyx_same ty N1.same) kitT ?_
      have hS1 := seqT N1.same hS
      walk_at "rd"
      refine ⟨p, xs, rfl, .inr hS1, ?_⟩
      walk_at "rd"
      refine ifs (fun h1 => ?_) (fun h1 => ?_)
      · walk_at "rd"
        refine ifs (fun h2 => ?_) (fun h2 => ?_)
        · walk_at "rd"
          replace h2 : decide ((xs.length : Int) ≤ 6) = false := by simpa using h2
          rw [h2, Bool.and_false, Bool.false_and] at q
          exact q _ N1.same
        · walk_at "rd"
          replace h2 : decide ((xs.length : Int) ≤ 6) = true := by simpa using h2
          rw [h1, h2, Bool.and_self, Bool.true_and] at q
          refine i_tupI ?_
          walk_at "rd"
          refine ⟨p, rfl, ⟨_, hS1⟩, ?_⟩
          refine for_tup (K := K) (a := p) (xs := xs) (fun i σ H' => Same J1 H' ∧ (bs.take i).all id = true ∧ ∃ z, σ = [some (.ref p), z])
            ⟨Same.refl _, rfl, _, rfl⟩ (fun i σ H' _ h => seqT h.1 hS1) ?_ ?_
          · rintro i v σ H1 hi ⟨sH, hf, z, rfl⟩
            have lt : i < bs.length := by rw [hl]; exact (List.getElem?_eq_some_iff.mp hi).1
            have hb : bs[i]? = some bs[i] := List.getElem?_eq_getElem lt
            obtain ⟨t1, t2⟩ := tail_all hf hb
            have s01 := N1.same.trans sH
            have it := (hit i v _ hi hb).same s01
            generalize bs[i] = b at it t1 t2
            walk_at "rd"
            cases it with
            | ves h =>
              obtain ⟨C, ty1, k1, k2⟩ := ves_ty T h
              refine i_isiV ty1 k1 ?_
              walk_at "rd"
              refine i_isiV ty1 k2 ?_
              walk_at "rd"
              exact ⟨sH, t2 rfl, _, rfl⟩
            | oth h k =>
              refine i_isiV h k ?_
              walk_at "rd"
              rw [t1 rfl] at q
              exact q _ s01
            | trn h =>
              have ty1 := tyI h T.cl_Train T.ca_Train T.mo_Train T
              refine i_isiV ty1 T.io_Train_Vessel ?_
              walk_at "rd"
              refine i_isiV ty1 T.io_Train_Train ?_
              walk_at "rd"
              rw [t1 rfl] at q
              exact q _ s01
          · rintro σ H1 ⟨sH, hf, z, rfl⟩
            rw [← hl, List.take_length] at hf
            rw [hf] at q
            walk_at "rd"
            exact q _ (N1.same.trans sH)
      · walk_at "rd"
        rw [h1, Bool.false_and, Bool.false_and] at q
        exact q _ N1.same
end
end Ice


set_option Elab.async false
set_option linter.all false
set_option maxRecDepth 100000
set_option maxHeartbeats 4000000
namespace Ice
open PySem PySem.Spec PyProof.Rows L2 TL
/-! side conditions, heaps, one step of a reading, and many -/
local macro_rules | `(tactic| walk_at "hp") => `(tactic| first | assumption | exact upd_same | exact New.at_ (by assumption) | (refine keepU ?_ (by assumption); walk_at "hp") | (refine New.app (by assumption) ?_; walk_at "hp") | (refine Same.app (by assumption) ?_; walk_at "hp") | (refine But.app (by assumption) (by assumption) ?_; walk_at "hp"))
local macro_rules | `(tactic| walk_at "sq") => `(tactic| first | assumption | exact SqL.lst (by walk_at "hp") | exact L2.Same.seq (New.same (by assumption)) (by assumption) | exact L2.Same.seq (by assumption) (by assumption))
local macro_rules | `(tactic| walk_at "len") => `(tactic| first | assumption | (simp only [List.length_cons, List.length_nil, List.length_append, List.length_map]; decide) | (refine Ice.sz_of ?_; simp only [List.length_cons, List.length_nil, List.length_append, List.length_map]; omega))
local macro_rules | `(tactic| walk_at "fresh") => `(tactic| (simp only [List.map_append, List.map_cons, List.map_nil, List.nil_append, List.cons_append]; decide +kernel))
local macro_rules | `(tactic| walk_at "sd") => `(tactic| first | assumption | (show _ ≠ _; omega) | exact Or.inl ⟨by omega, by omega⟩ | exact Or.inr ⟨by omega, by omega⟩ | exact ⟨by decide, by decide⟩ | exact ⟨by decide, by decide, by decide⟩ | exact ⟨by omega, by omega, by omega⟩)
/-! one step of a reading, and many -/
local macro_rules | `(tactic| walk_at "st") => `(tactic| first
  | with_reducible refine i_seq ?_
  | with_reducible refine i_if ?_
  | with_reducible refine i_next ?_
  | with_reducible refine i_ret ?_
  | with_reducible refine i_retN ?_
  | with_reducible refine i_drop ?_
  | with_reducible refine i_asg ?_
  | with_reducible refine i_gname ?_
  | with_reducible refine i_gsub ?_
  | ((with_reducible refine i_var (v := ?vv) ?hv ?_); (case hv => exact rfl))
  | with_reducible refine i_c ?_
  | with_reducible refine i_op ?_
  | with_reducible refine i_un ?_
  | with_reducible refine i_test ?_
  | with_reducible refine i_tB ?_
  | with_reducible refine i_and ?_
  | with_reducible refine i_or ?_
  | with_reducible refine i_not ?_
  | with_reducible refine i_andV ?_
  | with_reducible refine i_orV ?_
  | with_reducible refine i_notV ?_
  | with_reducible refine i_ifE ?_
  | with_reducible refine i_chain ?_
  | with_reducible refine i_bl ?_
  | with_reducible refine i_nil ?_
  | with_reducible refine i_cons ?_
  | with_reducible refine i_call ?_
  | with_reducible refine i_cb ?_
  | with_reducible refine i_rI0 ?_
  | with_reducible refine i_rU ?_
  | ((with_reducible refine i_rEq ?hs ?_); (case hs => exact rfl))
  | ((with_reducible refine i_rNe ?hs ?_); (case hs => exact rfl))
  | ((with_reducible refine i_rI ?hc ?_); (case hc => walk_at "sd"))
  | ((with_reducible refine i_ixL (xs := ?xs) (v := ?vv) ?hS ?he ?_); (case hS => walk_at "sq"); (case he => exact rfl))
  | ((with_reducible refine i_setL (xs := ?xs) (j := ?jj) ?hS ?he ?_); (case hS => walk_at "hp"); (case he => exact rfl))
  | with_reducible refine i_tup ?_
  | with_reducible refine i_lst ?_
  | with_reducible refine i_bm ?_
  | with_reducible refine i_bm0 ?_
  | with_reducible refine i_m1 ?_
  | with_reducible refine i_sl ?_
  | with_reducible refine i_nopart ?_
  | with_reducible refine i_part ?_
  | with_reducible refine i_int ?_
  | with_reducible refine i_str ?_
  | with_reducible refine i_for ?_
  | with_reducible refine i_yes ?_
  | ((with_reducible refine i_lenL (xs := ?xs) ?hS ?_); (case hS => walk_at "sq"))
  | ((with_reducible refine i_room ?hz ?_); (case hz => walk_at "len"))
  | with_reducible refine i_leT ?_
  | with_reducible refine i_notInS ?_
  | with_reducible refine i_inS ?_
  | with_reducible refine i_find ?_
  | with_reducible refine i_isB ?_
  | with_reducible refine i_max2 ?_
  | with_reducible refine i_min2 ?_
  | with_reducible exact trivial
  | with_reducible refine iteT ?_
  | with_reducible refine iteF ?_
  | with_reducible refine i_isstr ?_
  | with_reducible refine i_lc ?_
  | ((with_reducible refine i_cat (xs := ?xs) (zs := ?zs) ?ha ?hb ?hz ?_); (case ha => walk_at "hp"); (case hb => walk_at "hp"); (case hz => walk_at "len"))
  | ((with_reducible refine i_tyL (xs := ?xs) ?ha ?_); (case ha => walk_at "hp"))
  | with_reducible refine i_list ?_
  | with_reducible refine i_disp ?_
  | with_reducible refine i_pairs0 ?_
  | with_reducible refine i_pairs ?_
  | with_reducible refine i_newK ?_
  | with_reducible refine i_gcons ?_
  | with_reducible refine i_gnil ?_
  | with_reducible refine i_revL ?_
  | with_reducible refine i_rng1 ?_
  | ((with_reducible refine i_wipe ?hw ?_); (case hw => exact rfl))
  | with_reducible refine iteNT ?_
  | with_reducible refine iteNF ?_)
local macro_rules | `(tactic| walk_at "sx") => `(tactic| first
  | walk_at "st"
  | with_reducible refine i_kinit ?_
  | with_reducible refine i_ost ?_
  | with_reducible refine i_mkO ?_
  | with_reducible refine i_callE ?_
  | with_reducible refine i_makeE ?_
  | with_reducible refine i_xf ?_
  | with_reducible refine i_sfld ?_
  | with_reducible refine i_fld ?_
  | ((with_reducible refine i_ixT (xs := ?xs) (v := ?vv) ?hS ?he ?_); (case hS => exact SqT.tup (by walk_at "hp")); (case he => exact rfl))
  | with_reducible refine i_intB ?_
  | with_reducible refine i_runS ?_
  | with_reducible refine i_runN ?_
  | ((with_reducible refine i_xf1 (fs := ?ff) (v := ?vv) ?hx ?hl ?_); (case hx => walk_at "hp"); (case hl => exact rfl))
  | with_reducible refine i_methE ?_
  | with_reducible refine i_meth ?_
  | with_reducible refine i_make ?_
  | ((with_reducible refine i_obj (dx := ?dd) (fs := ?ff) ?hx ?hl ?_); (case hx => walk_at "hp"); (case hl => exact rfl))
  | ((with_reducible refine i_fld1 (C := ?CC) (dx := ?dd) (fs := ?ff) (v := ?vv) ?hx ?cl ?na ?hl ?_); (case hx => walk_at "hp"); (case cl => assumption); (case na => assumption); (case hl => exact rfl)))
local macro_rules | `(tactic| walk_at "sy") => `(tactic| first
  | walk_at "sx"
  | with_reducible refine i_dget ?_
  | with_reducible refine i_dget2 ?_
  | with_reducible refine i_dput ?_
  | with_reducible refine i_din ?_
  | ((with_reducible refine i_aug (x := ?vv) ?hx ?_); (case hx => exact rfl)))
local macro_rules | `(tactic| walk_at "rd") => `(tactic| repeat (walk_at "sy"))

/-- a channel's data -/
structure Cd where
  n : Str
  o : Str
  t : Str
  h : Int
  d : Int
  f : Int
  g : Int
  m : Int
structure Cd.ok (c : Cd) : Prop where
  nn : isN (.str c.n) = true
  no : isN (.str c.o) = true
  nt : isN (.str c.t) = true
  ne : c.o ≠ c.t
  bh : 1 ≤ c.h ∧ c.h ≤ 1000
  bd : 0 ≤ c.d ∧ c.d ≤ 1000
  bf : 0 ≤ c.f ∧ c.f ≤ 1000000
  bg : 0 ≤ c.g ∧ c.g ≤ 1000
  bm : c.f ≤ c.m ∧ c.m ≤ 1000000
def Cd.flds (c : Cd) : List (Str × V) := fldC (.str c.n) (.str c.o) (.str c.t) (.int c.h) (.int c.d) (.int c.f) (.int c.g) (.int c.m)
theorem Cd.made {c : Cd} (k : c.ok) : resC (.str c.n) (.str c.o) (.str c.t) (.int c.h) (.int c.d) (.int c.f) (.int c.g) (.int c.m) = .made := by
  have nb : [V.str c.n, V.str c.o, V.str c.t].find? bad = none := by simp [bad, k.nn, k.no, k.nt]
  have e : ¬ V.str c.o = V.str c.t := fun z => k.ne (by injection z)
  unfold resC
  rw [nb]
  show (if V.str c.o = V.str c.t then Res.doubled _ else _) = _
  rw [if_neg e, if_neg (by rw [inB_of k.bh.1 k.bh.2]; decide), if_neg (by rw [inB_of k.bd.1 k.bd.2]; decide), if_neg (by rw [inB_of k.bf.1 k.bf.2]; decide), if_neg (by rw [inB_of k.bg.1 k.bg.2]; decide),
    if_neg (by show ¬ inB c.f 1000000 (.int c.m) = false; rw [inB_of k.bm.1 k.bm.2]; decide)]
/-- a thing that stands in a list -/
inductive Mk where
  | data (v : V)
  | ch (x : Addr) (c : Cd)
  | ves (x : Addr) (d : Vd)
  | trn (x : Addr)
def Mk.v : Mk → V
  | .data v => v
  | .ch x _ => .ref x
  | .ves x _ => .ref x
  | .trn x => .ref x
def Mk.isN : Mk → Bool
  | .data v => Ice.isN v
  | _ => false
def Mk.isC : Mk → Bool
  | .ch _ _ => true
  | _ => false
def Mk.isB : Mk → Bool
  | .ves _ d => match d.k with
    | .b => true
    | _ => false
  | _ => false
def Mk.isS : Mk → Bool
  | .ves _ d => match d.k with
    | .s => true
    | _ => false
  | _ => false
/-- a thing's name, the ports that it wants -/
def Mk.nm : Mk → Str
  | .data (.str s) => s
  | .ch _ c => c.n
  | .ves _ d => d.n
  | _ => Str.ofString ""
def Mk.ends : Mk → List Str
  | .ch _ c => [c.o, c.t]
  | _ => []
def Mk.prt : Mk → List Str
  | .ves _ d => [d.p]
  | _ => []
def Mk.both : Mk → List Str
  | .ves _ d => [d.p, d.g]
  | _ => []
/-- the first name that stands ahead, of the first k -/
def dblAt (ns : List Str) : Nat → Option Str
  | 0 => none
  | k + 1 => match dblAt ns k with
    | some n => some n
    | none => match ns[k]? with
      | some n => if n ∈ ns.take k then some n else none
      | none => none
def firstDbl (ns : List Str) : Option Str := dblAt ns ns.length
theorem dblAt_some {ns : List Str} {n : Str} {k : Nat} (h : dblAt ns k = some n) : ∀ j, dblAt ns (k + j) = some n
  | 0 => h
  | j + 1 => by
    show (match dblAt ns (k + j) with
      | some n => some n
      | none => _) = _
    rw [dblAt_some h j]
theorem dbl_hit {ns : List Str} {n : Str} {k : Nat} (h : dblAt ns k = none) (hk : ns[k]? = some n) (hn : n ∈ ns.take k) : firstDbl ns = some n := by
  have lt := (List.getElem?_eq_some_iff.mp hk).1
  have e : dblAt ns (k + 1) = some n := by
    show (match dblAt ns k with
      | some n => some n
      | none => _) = _
    rw [h]
    show (match ns[k]? with
      | some n => if n ∈ ns.take k then some n else none
      | none => none) = _
    rw [hk]
    exact if_pos hn
  have := dblAt_some e (ns.length - (k + 1))
  rwa [show k + 1 + (ns.length - (k + 1)) = ns.length by omega] at this
theorem dbl_miss {ns : List Str} {n : Str} {k : Nat} (h : dblAt ns k = none) (hk : ns[k]? = some n) (hn : n ∉ ns.take k) : dblAt ns (k + 1) = none := by
  show (match dblAt ns k with
      | some n => some n
      | none => _) = _
  rw [h]
  show (match ns[k]? with
      | some n => if n ∈ ns.take k then some n else none
      | none => none) = _
  rw [hk]
  exact if_neg hn
theorem dbl_nodup {ns : List Str} (h : firstDbl ns = none) : ns.Nodup := by
  have key : ∀ k, k ≤ ns.length → dblAt ns k = none → (ns.take k).Nodup := by
    intro k
    induction k with
    | zero => intro _ _; simp
    | succ k ih =>
      intro hk e
      have lt : k < ns.length := hk
      have hg : ns[k]? = some ns[k] := List.getElem?_eq_getElem lt
      have e0 : dblAt ns k = none := by
        cases z : dblAt ns k with
        | none => rfl
        | some n => have := dblAt_some z 1; rw [e] at this; cases this
      have nm : ns[k] ∉ ns.take k := fun z => by
        have q : dblAt ns (k + 1) = some ns[k] := by
          show (match dblAt ns k with
            | some n => some n
            | none => _) = _
          rw [e0]
          show (match ns[k]? with
            | some n => if n ∈ ns.take k then some n else none
            | none => none) = _
          rw [hg]
          exact if_pos z
        rw [q] at e; cases e
      rw [List.take_add_one, hg]
      show (ns.take k ++ [ns[k]]).Nodup
      rw [List.nodup_append]
      refine ⟨ih (by omega) e0, by simp, ?_⟩
      intro a ha b hb
      have : b = ns[k] := by simpa using hb
      subst this
      exact fun z => nm (z ▸ ha)
  have := key ns.length (Nat.le_refl _) h
  rwa [List.take_length] at this
theorem nodup_dbl {ns : List Str} (h : ns.Nodup) : firstDbl ns = none := by
  have key : ∀ k, k ≤ ns.length → dblAt ns k = none := by
    intro k
    induction k with
    | zero => intro _; rfl
    | succ k ih =>
      intro hk
      have lt : k < ns.length := hk
      have hg : ns[k]? = some ns[k] := List.getElem?_eq_getElem lt
      refine dbl_miss (ih (by omega)) hg ?_
      intro z
      obtain ⟨j, hj⟩ := List.mem_iff_getElem?.mp z
      have lj := (List.getElem?_eq_some_iff.mp hj).1
      rw [List.length_take] at lj
      rw [List.getElem?_take_of_lt (by omega)] at hj
      have := (List.pairwise_iff_getElem.mp h) j k (by omega) lt (by omega)
      rw [List.getElem?_eq_getElem (by omega)] at hj
      exact this (Option.some.inj hj)
  exact key _ (Nat.le_refl _)
/-- what is refused, or not -/
inductive DueW where
  | number
  | world (w : Str)
  | doubled (n : Str)
  | port (p : Str)
  | made
abbrev OMk := Option (List Mk)
def seqOk (many : Nat) (p : Mk → Bool) : OMk → Bool
  | none => false
  | some ms => decide (ms.length ≤ many) && ms.all p
def portsOk : OMk → Bool
  | none => false
  | some ms => decide (ms.length ≤ 8) && (!decide (ms.length = 0) && ms.all Mk.isN)
def kindsW (p c b s : OMk) : Option Str :=
  if portsOk p = false then some (Str.ofString "ports") else if seqOk 12 Mk.isC c = false then some (Str.ofString "channels")
  else if seqOk 4 Mk.isB b = false then some (Str.ofString "breakers") else if seqOk 6 Mk.isS s = false then some (Str.ofString "ships") else none
def msO (o : OMk) : List Mk := o.getD []
def nmsO (o : OMk) : List Str := (msO o).map Mk.nm
def wantL (c b s : OMk) : List Str := (msO c).flatMap Mk.ends ++ (msO b).flatMap Mk.prt ++ (msO s).flatMap Mk.both
def noPort (ps : List Str) (n : Str) : Bool := !decide (n ∈ ps)
def dueW (vb : V) (p c b s : OMk) : DueW :=
  if inB 0 1000000 vb = false then .number else match kindsW p c b s with
  | some w => .world w
  | none => match firstDbl (nmsO p) with
    | some n => .doubled n
    | none => match firstDbl (nmsO c) with
      | some n => .doubled n
      | none => match firstDbl (nmsO b ++ nmsO s) with
        | some n => .doubled n
        | none => match (wantL c b s).find? (noPort (nmsO p)) with
          | some n => .port n
          | none => .made
section
variable {K : PySem.W.Frag} {mg : Str → Option Value}
def ChT (T : Top K mg) (H : Hp) (x : Addr) (c : Cd) : Prop := c.ok ∧ ∃ dx, H x = some (.ins T.a_Channel dx c.flds)
theorem ChT.same {T : Top K mg} {H H' : Hp} {x : Addr} {c : Cd} (a : ChT T H x c) (e : Same H H') : ChT T H' x c := by obtain ⟨o, dx, h⟩ := a; exact ⟨o, dx, e _ _ h⟩
def MkT (T : Top K mg) (H : Hp) : Mk → Prop
  | .data v => Th H v
  | .ch x c => ChT T H x c
  | .ves x d => VesT T H x d
  | .trn x => ∃ dx fs, H x = some (.ins T.a_Train dx fs)
theorem MkT.same {T : Top K mg} {H H' : Hp} {m : Mk} (a : MkT T H m) (e : Same H H') : MkT T H' m := by
  cases m with
  | data v => exact Th.same e a
  | ch x c => exact ChT.same a e
  | ves x d => exact VesA.same a e
  | trn x => obtain ⟨dx, fs, h⟩ := a; exact ⟨dx, fs, e _ _ h⟩
theorem Th.kinds (T : Top K mg) {H : Hp} {v : V} (h : Th H v) : ∃ n, TyX K H v (.type n) ∧ PySem.W.kitOne K (.type n) (.ref T.a_Channel) = some false ∧ PySem.W.kitOne K (.type n) (.ref T.a_Breaker) = some false ∧ PySem.W.kitOne K (.type n) (.ref T.a_Ship) = some false := by
  rcases h with ⟨s, rfl, _⟩ | ⟨n, h⟩
  · exact ⟨"str", ty_str, T.ib_str_Channel, T.ib_str_Breaker, T.ib_str_Ship⟩
  · refine ⟨n, h.tyx, ?_⟩
    cases h with
    | non => exact ⟨T.ib_NoneType_Channel, T.ib_NoneType_Breaker, T.ib_NoneType_Ship⟩
    | int i => exact ⟨T.ib_int_Channel, T.ib_int_Breaker, T.ib_int_Ship⟩
    | bl b => exact ⟨T.ib_bool_Channel, T.ib_bool_Breaker, T.ib_bool_Ship⟩
    | lst h => exact ⟨T.ib_list_Channel, T.ib_list_Breaker, T.ib_list_Ship⟩
    | tup h => exact ⟨T.ib_tuple_Channel, T.ib_tuple_Breaker, T.ib_tuple_Ship⟩
    | dct h => exact ⟨T.ib_dict_Channel, T.ib_dict_Breaker, T.ib_dict_Ship⟩
theorem MkT.ty {T : Top K mg} {H : Hp} {m : Mk} (a : MkT T H m) : ∃ t, TyX K H m.v t ∧ PySem.W.kitOne K t (.ref T.a_Channel) = some m.isC ∧ PySem.W.kitOne K t (.ref T.a_Breaker) = some m.isB ∧ PySem.W.kitOne K t (.ref T.a_Ship) = some m.isS := by
  cases m with
  | data v => obtain ⟨n, ty, a, b, c⟩ := Th.kinds T a; exact ⟨_, ty, a, b, c⟩
  | ch x c => obtain ⟨_, dx, h⟩ := a; exact ⟨_, tyI h T.cl_Channel T.ca_Channel T.mo_Channel T, T.io_Channel_Channel, T.io_Channel_Breaker, T.io_Channel_Ship⟩
  | ves x d =>
    obtain ⟨_, dx, h⟩ := a
    unfold Mk.isB Mk.isS
    dsimp only
    cases hk : d.k with
    | v => rw [hk] at h; exact ⟨_, tyI h T.cl_Vessel T.ca_Vessel T.mo_Vessel T, T.io_Vessel_Channel, T.io_Vessel_Breaker, T.io_Vessel_Ship⟩
    | b => rw [hk] at h; exact ⟨_, tyI h T.cl_Breaker T.ca_Breaker T.mo_Breaker T, T.io_Breaker_Channel, T.io_Breaker_Breaker, T.io_Breaker_Ship⟩
    | s => rw [hk] at h; exact ⟨_, tyI h T.cl_Ship T.ca_Ship T.mo_Ship T, T.io_Ship_Channel, T.io_Ship_Breaker, T.io_Ship_Ship⟩
  | trn x => obtain ⟨dx, fs, h⟩ := a; exact ⟨_, tyI h T.cl_Train T.ca_Train T.mo_Train T, T.io_Train_Channel, T.io_Train_Breaker, T.io_Train_Ship⟩
theorem MkT.name {T : Top K mg} {H : Hp} {m : Mk} (a : MkT T H m) : (Th H m.v ∨ NoT K H m.v) ∧ Ice.isN m.v = m.isN := by
  cases m with
  | data v => exact ⟨.inl a, rfl⟩
  | ch x c => obtain ⟨_, dx, h⟩ := a; exact ⟨.inr ⟨_, tyI h T.cl_Channel T.ca_Channel T.mo_Channel T, T.io_Channel_str, rfl⟩, rfl⟩
  | ves x d =>
    obtain ⟨_, dx, h⟩ := a
    refine ⟨.inr ?_, rfl⟩
    cases hk : d.k with
    | v => rw [hk] at h; exact ⟨_, tyI h T.cl_Vessel T.ca_Vessel T.mo_Vessel T, T.io_Vessel_str, rfl⟩
    | b => rw [hk] at h; exact ⟨_, tyI h T.cl_Breaker T.ca_Breaker T.mo_Breaker T, T.io_Breaker_str, rfl⟩
    | s => rw [hk] at h; exact ⟨_, tyI h T.cl_Ship T.ca_Ship T.mo_Ship T, T.io_Ship_str, rfl⟩
  | trn x => obtain ⟨dx, fs, h⟩ := a; exact ⟨.inr ⟨_, tyI h T.cl_Train T.ca_Train T.mo_Train T, T.io_Train_str, rfl⟩, rfl⟩
/-- an argument: a list or a tuple of things, or none -/
inductive ArgT (T : Top K mg) (H : Hp) : V → OMk → Prop
  | no {v : V} {t : Value} : TyX K H v t → PySem.W.kitAny K t [.type "list", .type "tuple"] = some false → ArgT T H v none
  | lst {p : Addr} {ms : List Mk} : H p = some (.lst (ms.map Mk.v)) → (∀ m ∈ ms, MkT T H m) → ArgT T H (.ref p) (some ms)
  | tup {p : Addr} {ms : List Mk} : H p = some (.tup (ms.map Mk.v)) → (∀ m ∈ ms, MkT T H m) → ArgT T H (.ref p) (some ms)
theorem ArgT.same {T : Top K mg} {H H' : Hp} {v : V} {o : OMk} (a : ArgT T H v o) (e : Same H H') : ArgT T H' v o := by
  cases a with
  | no h k => exact .no (tyx_same h e) k
  | lst h m => exact .lst (e _ _ h) fun x hx => (m x hx).same e
  | tup h m => exact .tup (e _ _ h) fun x hx => (m x hx).same e
theorem ArgT.sq {T : Top K mg} {H : Hp} {v : V} {ms : List Mk} (a : ArgT T H v (some ms)) : ∃ p, v = .ref p ∧ SqS K H p (ms.map Mk.v) ∧ ∀ m ∈ ms, MkT T H m := by
  cases a with
  | lst h m => exact ⟨_, rfl, .lst h, m⟩
  | tup h m => exact ⟨_, rfl, .tup h, m⟩
theorem ArgT.kit {T : Top K mg} {H : Hp} {v : V} {o : OMk} (a : ArgT T H v o) : ∃ t, TyX K H v t ∧ PySem.W.kitAny K t [.type "list", .type "tuple"] = some o.isSome := by
  cases a with
  | no h k => exact ⟨_, h, k⟩
  | lst h m => exact ⟨_, .base (.lst h), kitL⟩
  | tup h m => exact ⟨_, .base (.tup h), kitT⟩
end

end Ice

set_option Elab.async false
set_option linter.all false
set_option maxRecDepth 100000
set_option maxHeartbeats 4000000
namespace Ice
open PySem PySem.Spec PyProof.Rows L2 TL
/-! side conditions, heaps, one step of a reading, and many -/
local macro_rules | `(tactic| walk_at "hp") => `(tactic| first | assumption | exact upd_same | exact New.at_ (by assumption) | (refine keepU ?_ (by assumption); walk_at "hp") | (refine New.app (by assumption) ?_; walk_at "hp") | (refine Same.app (by assumption) ?_; walk_at "hp") | (refine But.app (by assumption) (by assumption) ?_; walk_at "hp"))
local macro_rules | `(tactic| walk_at "sq") => `(tactic| first | assumption | exact SqL.lst (by walk_at "hp") | exact L2.Same.seq (New.same (by assumption)) (by assumption) | exact L2.Same.seq (by assumption) (by assumption))
local macro_rules | `(tactic| walk_at "len") => `(tactic| first | assumption | (simp only [List.length_cons, List.length_nil, List.length_append, List.length_map]; decide) | (refine Ice.sz_of ?_; simp only [List.length_cons, List.length_nil, List.length_append, List.length_map]; omega))
local macro_rules | `(tactic| walk_at "fresh") => `(tactic| (simp only [List.map_append, List.map_cons, List.map_nil, List.nil_append, List.cons_append]; decide +kernel))
local macro_rules | `(tactic| walk_at "sd") => `(tactic| first | assumption | (show _ ≠ _; omega) | exact Or.inl ⟨by omega, by omega⟩ | exact Or.inr ⟨by omega, by omega⟩ | exact ⟨by decide, by decide⟩ | exact ⟨by decide, by decide, by decide⟩ | exact ⟨by omega, by omega, by omega⟩)
/-! one step of a reading, and many -/
local macro_rules | `(tactic| walk_at "st") => `(tactic| first
  | with_reducible refine i_seq ?_
  | with_reducible refine i_if ?_
  | with_reducible refine i_next ?_
  | with_reducible refine i_ret ?_
  | with_reducible refine i_retN ?_
  | with_reducible refine i_drop ?_
  | with_reducible refine i_asg ?_
  | with_reducible refine i_gname ?_
  | with_reducible refine i_gsub ?_
  | ((with_reducible refine i_var (v := ?vv) ?hv ?_); (case hv => exact rfl))
  | with_reducible refine i_c ?_
  | with_reducible refine i_op ?_
  | with_reducible refine i_un ?_
  | with_reducible refine i_test ?_
  | with_reducible refine i_tB ?_
  | with_reducible refine i_and ?_
  | with_reducible refine i_or ?_
  | with_reducible refine i_not ?_
  | with_reducible refine i_andV ?_
  | with_reducible refine i_orV ?_
  | with_reducible refine i_notV ?_
  | with_reducible refine i_ifE ?_
  | with_reducible refine i_chain ?_
  | with_reducible refine i_bl ?_
  | with_reducible refine i_nil ?_
  | with_reducible refine i_cons ?_
  | with_reducible refine i_call ?_
  | with_reducible refine i_cb ?_
  | with_reducible refine i_rI0 ?_
  | with_reducible refine i_rU ?_
  | ((with_reducible refine i_rEq ?hs ?_); (case hs => exact rfl))
  | ((with_reducible refine i_rNe ?hs ?_); (case hs => exact rfl))
  | ((with_reducible refine i_rI ?hc ?_); (case hc => walk_at "sd"))
  | ((with_reducible refine i_ixL (xs := ?xs) (v := ?vv) ?hS ?he ?_); (case hS => walk_at "sq"); (case he => exact rfl))
  | ((with_reducible refine i_setL (xs := ?xs) (j := ?jj) ?hS ?he ?_); (case hS => walk_at "hp"); (case he => exact rfl))
  | with_reducible refine i_tup ?_
  | with_reducible refine i_lst ?_
  | with_reducible refine i_bm ?_
  | with_reducible refine i_bm0 ?_
  | with_reducible refine i_m1 ?_
  | with_reducible refine i_sl ?_
  | with_reducible refine i_nopart ?_
  | with_reducible refine i_part ?_
  | with_reducible refine i_int ?_
  | with_reducible refine i_str ?_
  | with_reducible refine i_for ?_
  | with_reducible refine i_yes ?_
  | ((with_reducible refine i_lenL (xs := ?xs) ?hS ?_); (case hS => walk_at "sq"))
  | ((with_reducible refine i_room ?hz ?_); (case hz => walk_at "len"))
  | with_reducible refine i_leT ?_
  | with_reducible refine i_notInS ?_
  | with_reducible refine i_inS ?_
  | with_reducible refine i_find ?_
  | with_reducible refine i_isB ?_
  | with_reducible refine i_max2 ?_
  | with_reducible refine i_min2 ?_
  | with_reducible exact trivial
  | with_reducible refine iteT ?_
  | with_reducible refine iteF ?_
  | with_reducible refine i_isstr ?_
  | with_reducible refine i_lc ?_
  | ((with_reducible refine i_cat (xs := ?xs) (zs := ?zs) ?ha ?hb ?hz ?_); (case ha => walk_at "hp"); (case hb => walk_at "hp"); (case hz => walk_at "len"))
  | ((with_reducible refine i_tyL (xs := ?xs) ?ha ?_); (case ha => walk_at "hp"))
  | with_reducible refine i_list ?_
  | with_reducible refine i_disp ?_
  | with_reducible refine i_pairs0 ?_
  | with_reducible refine i_pairs ?_
  | with_reducible refine i_newK ?_
  | with_reducible refine i_gcons ?_
  | with_reducible refine i_gnil ?_
  | with_reducible refine i_revL ?_
  | with_reducible refine i_rng1 ?_
  | ((with_reducible refine i_wipe ?hw ?_); (case hw => exact rfl))
  | with_reducible refine iteNT ?_
  | with_reducible refine iteNF ?_)
local macro_rules | `(tactic| walk_at "sx") => `(tactic| first
  | walk_at "st"
  | with_reducible refine i_kinit ?_
  | with_reducible refine i_ost ?_
  | with_reducible refine i_mkO ?_
  | with_reducible refine i_callE ?_
  | with_reducible refine i_makeE ?_
  | with_reducible refine i_xf ?_
  | with_reducible refine i_sfld ?_
  | with_reducible refine i_fld ?_
  | ((with_reducible refine i_ixT (xs := ?xs) (v := ?vv) ?hS ?he ?_); (case hS => exact SqT.tup (by walk_at "hp")); (case he => exact rfl))
  | with_reducible refine i_intB ?_
  | with_reducible refine i_runS ?_
  | with_reducible refine i_runN ?_
  | ((with_reducible refine i_xf1 (fs := ?ff) (v := ?vv) ?hx ?hl ?_); (case hx => walk_at "hp"); (case hl => exact rfl))
  | with_reducible refine i_methE ?_
  | with_reducible refine i_meth ?_
  | with_reducible refine i_make ?_
  | ((with_reducible refine i_obj (dx := ?dd) (fs := ?ff) ?hx ?hl ?_); (case hx => walk_at "hp"); (case hl => exact rfl))
  | ((with_reducible refine i_fld1 (C := ?CC) (dx := ?dd) (fs := ?ff) (v := ?vv) ?hx ?cl ?na ?hl ?_); (case hx => walk_at "hp"); (case cl => assumption); (case na => assumption); (case hl => exact rfl)))
local macro_rules | `(tactic| walk_at "sy") => `(tactic| first
  | walk_at "sx"
  | with_reducible refine i_dget ?_
  | with_reducible refine i_dget2 ?_
  | with_reducible refine i_dput ?_
  | with_reducible refine i_din ?_
  | ((with_reducible refine i_aug (x := ?vv) ?hx ?_); (case hx => exact rfl)))
local macro_rules | `(tactic| walk_at "rd") => `(tactic| repeat (walk_at "sy"))

section
variable {P : Program} {w : World} {K : PySem.W.Frag} {mg : Str → Option Value} {base : Heap}
def heldO (many : Nat) : OMk → Bool
  | none => false
  | some ms => decide (ms.length ≤ many)
def spHolds (T : Top K mg) : Sp := fun vs H Q _ => ∃ (v : V) (many : Nat) (o : OMk), vs = [v, .int many] ∧ ArgT T H v o ∧ ∀ H', Same H H' → Q (.bl (heldO many o)) H'
theorem ok_holds_at_most (T : Top K mg) : FnG P w K mg base CX0 1 T.a_holds_at_most T.d_holds_at_most ["thing", "many"] (spHolds T) := by
  refine okG T.F_holds_at_most sc_holds_at_most (fun vs H Q E h => ?_) (fun cdv A outer s H vs Q E hr hgd h => ?_)
  · obtain ⟨v, many, o, rfl, _⟩ := h
    rfl
  · obtain ⟨v, many, o, rfl, a, q⟩ := h
    refine ⟨_, (pss_one (ps_ret (pe_and (pe_callB call_isiT (by rfl) T.n_isinstance (by decide +kernel) (pa_cons (pv 0) (pa_cons (pe_tup (pa_cons (pe_bltn (v := .ty "list") (by rfl) T.n_list (by decide +kernel) rfl) (pa_cons (pe_bltn (v := .ty "tuple") (by rfl) T.n_tuple (by decide +kernel) rfl) pa_nil))) pa_nil))) (pe_one (pe_cmpR op_le (pe_callB c_len (by rfl) T.n_len (by decide +kernel) (pa_cons (pv 0) pa_nil)) (pv 1) (nomark _)))))), ?_⟩
    cases o with
    | none =>
      obtain ⟨t, ty, kk⟩ := a.kit
      replace kk : PySem.W.kitAny K t [.type "list", .type "tuple"] = some false := kk
      walk_at "rd"
      (intro p1 hp1; generalize ep1 : upd _ p1 _ = J1; have N1 := New.of ep1 hp1; clear ep1 hp1)
      walk_at "rd"
      refine i_isiTT N1.at_ (tyx_same ty N1.same) kk ?_
      walk_at "rd"
      exact q _ N1.same
    | some ms =>
      obtain ⟨t, ty, kk⟩ := a.kit
      replace kk : PySem.W.kitAny K t [.type "list", .type "tuple"] = some true := kk
      obtain ⟨p, rfl, hS, _⟩ := a.sq
      walk_at "rd"
      (intro p1 hp1; generalize ep1 : upd _ p1 _ = J1; have N1 := New.of ep1 hp1; clear ep1 hp1)
      walk_at "rd"
      refine i_isiTT N1.at_ (tyx_same ty N1.same) kk ?_
      walk_at "rd"
      refine i_lenS2 (hS.same N1.same) ?_
      walk_at "rd"
      have e : decide (((ms.map Mk.v).length : Int) ≤ (many : Int)) = heldO many (some ms) := by
        show _ = decide (ms.length ≤ many)
        rw [List.length_map, decide_eq_decide]; omega
      rw [e]
      exact q _ N1.same
/-- the first refusal of a kind -/
theorem seqOk_false {many : Nat} {p : Mk → Bool} {o : OMk} (h : heldO many o = false) : seqOk many p o = false := by
  cases o with
  | none => rfl
  | some ms => show (decide (ms.length ≤ many) && _) = false; rw [show decide (ms.length ≤ many) = false from h]; rfl
theorem seqOk_of {many : Nat} {p : Mk → Bool} {ms : List Mk} (h : heldO many (some ms) = true) : seqOk many p (some ms) = ms.all p := by
  show (decide (ms.length ≤ many) && ms.all p) = _
  rw [show decide (ms.length ≤ many) = true from h]; rfl
theorem all_map {p : Mk → Bool} (ms : List Mk) : (ms.map p).all id = ms.all p := by rw [List.all_map]; rfl
theorem bl_some (p : Mk → Bool) (ms : List Mk) : gath (ms.map fun m => some (V.bl (p m))) = (ms.map p).map V.bl := by
  rw [show (ms.map fun m => some (V.bl (p m))) = (((ms.map p).map V.bl).map some) by simp, gath_some]
theorem mk_get {ms : List Mk} {p : Mk → Option V} {i : Nat} {x : V} {o : Option V} (hx : (ms.map Mk.v)[i]? = some x) (ho : (ms.map p)[i]? = some o) : ∃ m, m ∈ ms ∧ ms[i]? = some m ∧ x = m.v ∧ o = p m := by
  rw [List.getElem?_map] at hx ho
  cases hm : ms[i]? with
  | none => rw [hm] at hx; cases hx
  | some m =>
    rw [hm] at hx ho
    exact ⟨m, List.mem_of_getElem? hm, rfl, (Option.some.inj hx).symm, (Option.some.inj ho).symm⟩
def spKinds (T : Top K mg) : Sp := fun vs H Q E => ∃ (p c b s : V) (op oc ob os : OMk), vs = [p, c, b, s] ∧ ArgT T H p op ∧ ArgT T H c oc ∧ ArgT T H b ob ∧ ArgT T H s os ∧ (∀ o ∈ [op, oc, ob, os], ∀ ms, o = some ms → ms.length ≤ 1000) ∧
  match kindsW op oc ob os with
  | none => ∀ H', Same H H' → Q .non H'
  | some w => ∀ d H', Same H H' → H' d = some (.xd [(Str.ofString "found", .str w)]) → E (.ref T.a_NoWorld) (some d) H'
theorem holdsI (T : Top K mg) {H : Hp} {Q : VK} {E : XK} {v : V} {many : Nat} {o : OMk} (a : ArgT T H v o) (q : ∀ H', Same H H' → Q (.bl (heldO many o)) H') : spHolds T ([v, .int many] ++ []) H Q E := ⟨v, many, o, rfl, a, q⟩
theorem noteI (C : Addr) {d : Addr} : True := trivial
set_option maxHeartbeats 8000000 in
theorem ok_check_kinds (T : Top K mg) : FnG P w K mg base (L2.CX P w) 3 T.a_check_kinds T.d_check_kinds ["ports", "channels", "breakers", "ships"] (spKinds T) := by
  have G_holds_at_most := ok_holds_at_most (P := P) (w := w) (base := base) T
  have G_is_name := ok_is_name (P := P) (w := w) (base := base) T
  have G_NoWorld___init__ := ok_NoWorld___init__ (P := P) (w := w) (base := base) T
  have G_NoWorld___init__ := ok_NoWorld___init__ (P := P) (w := w) (base := base) T
  have G_NoWorld___init__ := ok_NoWorld___init__ (P := P) (w := w) (base := base) T
  have G_NoWorld___init__ := ok_NoWorld___init__ (P := P) (w := w) (base := base) T
  refine okGX T.F_check_kinds sc_check_kinds (fun vs H Q E h => ?_) (fun cdv A outer s H vs Q E hr hgd h => ?_)
  · obtain ⟨p, c, b, s, op, oc, ob, os, rfl, _⟩ := h
    rfl
  · obtain ⟨p, c, b, s', op, oc, ob, os, rfl, ap, ac, ab, as', hz, q⟩ := h
    have G_NoWorld___init__ := ok_NoWorld___init__ (P := P) (w := w) (base := base) T
    refine ⟨_, (pss_cons (ps_if (PW.pt (pw_or (pt_not (pt_val (g_call G_holds_at_most (hr.mono (by decide)) hgd (by rfl) T.m_holds_at_most T.F_holds_at_most.kp T.b_holds_at_most .nil pass0 (pa_cons (pv 0) (pa_cons (pe_glob (v := .int 8) (by rfl) T.c_PORTS_MOST ⟨_, rfl⟩) pa_nil))))) (pw_or (pt_cmpR op_eq (pe_callB c_len (by rfl) T.n_len (by decide +kernel) (pa_cons (pv 0) pa_nil)) pe_int (nomark _)) (pw_or1 (pt_not (pt_val (pe_callB (cr_all (by rfl)) (by rfl) T.n_all (by decide +kernel) (pa_cons (pe_lc (own := [("each", 4)]) (g := gName 4) rfl sc_check_kinds.nd (pi_seq (pv 0)) (blkOk_by (own := [("each", 4)]) (N := ["ports", "channels", "breakers", "ships", "each"]) (sc := defScope s_check_kinds) (by decide +kernel)) (fun _ _ _ _ _ => (pg_name (i := 4) sc_check_kinds.nd rfl (by first | exact Or.inl rfl | exact Or.inr rfl))) (fun _ _ _ _ _ => pts_nil) (fun _ _ _ _ _ => (g_call G_is_name (hr.mono (by decide)) hgd (by rfl) T.m_is_name T.F_is_name.kp T.b_is_name .nil pass0 (pa_cons (pv 4) pa_nil)))) pa_nil))))))))
        (pss_one (ps_raise rfl (takes_of rfl rfl rfl rfl) (pmk_oex T.ox_NoWorld T.in_NoWorld T.tf_NoWorld G_NoWorld___init__ (hr.mono (by decide)) T.b_NoWorld___init__ .nil pass0 (by rfl) T.c_NoWorld (pa_cons pe_str pa_nil))))
        pss_nil)
      (pss_cons (ps_if (PW.pt (pw_or (pt_not (pt_val (g_call G_holds_at_most (hr.mono (by decide)) hgd (by rfl) T.m_holds_at_most T.F_holds_at_most.kp T.b_holds_at_most .nil pass0 (pa_cons (pv 1) (pa_cons (pe_glob (v := .int 12) (by rfl) T.c_CHANNELS_MOST ⟨_, rfl⟩) pa_nil))))) (pw_or1 (pt_not (pt_val (pe_callB (cr_all (by rfl)) (by rfl) T.n_all (by decide +kernel) (pa_cons (pe_lc (own := [("each", 4)]) (g := gName 4) rfl sc_check_kinds.nd (pi_seq (pv 1)) (blkOk_by (own := [("each", 4)]) (N := ["ports", "channels", "breakers", "ships", "each"]) (sc := defScope s_check_kinds) (by decide +kernel)) (fun _ _ _ _ _ => (pg_name (i := 4) sc_check_kinds.nd rfl (by first | exact Or.inl rfl | exact Or.inr rfl))) (fun _ _ _ _ _ => pts_nil) (fun _ _ _ _ _ => (pe_callB (show CallR _ (.builtin "isinstance") (rIsi K) from c_isi) (by rfl) T.n_isinstance (by decide +kernel) (pa_cons (pv 4) (pa_cons (pe_glob (v := .ref T.a_Channel) (by rfl) T.c_Channel rfl) pa_nil))))) pa_nil)))))))
        (pss_one (ps_raise rfl (takes_of rfl rfl rfl rfl) (pmk_oex T.ox_NoWorld T.in_NoWorld T.tf_NoWorld G_NoWorld___init__ (hr.mono (by decide)) T.b_NoWorld___init__ .nil pass0 (by rfl) T.c_NoWorld (pa_cons pe_str pa_nil))))
        pss_nil)
      (pss_cons (ps_if (PW.pt (pw_or (pt_not (pt_val (g_call G_holds_at_most (hr.mono (by decide)) hgd (by rfl) T.m_holds_at_most T.F_holds_at_most.kp T.b_holds_at_most .nil pass0 (pa_cons (pv 2) (pa_cons (pe_glob (v := .int 4) (by rfl) T.c_BREAKERS_MOST ⟨_, rfl⟩) pa_nil))))) (pw_or1 (pt_not (pt_val (pe_callB (cr_all (by rfl)) (by rfl) T.n_all (by decide +kernel) (pa_cons (pe_lc (own := [("each", 4)]) (g := gName 4) rfl sc_check_kinds.nd (pi_seq (pv 2)) (blkOk_by (own := [("each", 4)]) (N := ["ports", "channels", "breakers", "ships", "each"]) (sc := defScope s_check_kinds) (by decide +kernel)) (fun _ _ _ _ _ => (pg_name (i := 4) sc_check_kinds.nd rfl (by first | exact Or.inl rfl | exact Or.inr rfl))) (fun _ _ _ _ _ => pts_nil) (fun _ _ _ _ _ => (pe_callB (show CallR _ (.builtin "isinstance") (rIsi K) from c_isi) (by rfl) T.n_isinstance (by decide +kernel) (pa_cons (pv 4) (pa_cons (pe_glob (v := .ref T.a_Breaker) (by rfl) T.c_Breaker rfl) pa_nil))))) pa_nil)))))))
        (pss_one (ps_raise rfl (takes_of rfl rfl rfl rfl) (pmk_oex T.ox_NoWorld T.in_NoWorld T.tf_NoWorld G_NoWorld___init__ (hr.mono (by decide)) T.b_NoWorld___init__ .nil pass0 (by rfl) T.c_NoWorld (pa_cons pe_str pa_nil))))
        pss_nil)
      (pss_one (ps_if (PW.pt (pw_or (pt_not (pt_val (g_call G_holds_at_most (hr.mono (by decide)) hgd (by rfl) T.m_holds_at_most T.F_holds_at_most.kp T.b_holds_at_most .nil pass0 (pa_cons (pv 3) (pa_cons (pe_glob (v := .int 6) (by rfl) T.c_SHIPS_MOST ⟨_, rfl⟩) pa_nil))))) (pw_or1 (pt_not (pt_val (pe_callB (cr_all (by rfl)) (by rfl) T.n_all (by decide +kernel) (pa_cons (pe_lc (own := [("each", 4)]) (g := gName 4) rfl sc_check_kinds.nd (pi_seq (pv 3)) (blkOk_by (own := [("each", 4)]) (N := ["ports", "channels", "breakers", "ships", "each"]) (sc := defScope s_check_kinds) (by decide +kernel)) (fun _ _ _ _ _ => (pg_name (i := 4) sc_check_kinds.nd rfl (by first | exact Or.inl rfl | exact Or.inr rfl))) (fun _ _ _ _ _ => pts_nil) (fun _ _ _ _ _ => (pe_callB (show CallR _ (.builtin "isinstance") (rIsi K) from c_isi) (by rfl) T.n_isinstance (by decide +kernel) (pa_cons (pv 4) (pa_cons (pe_glob (v := .ref T.a_Ship) (by rfl) T.c_Ship rfl) pa_nil))))) pa_nil)))))))
        (pss_one (ps_raise rfl (takes_of rfl rfl rfl rfl) (pmk_oex T.ox_NoWorld T.in_NoWorld T.tf_NoWorld G_NoWorld___init__ (hr.mono (by decide)) T.b_NoWorld___init__ .nil pass0 (by rfl) T.c_NoWorld (pa_cons pe_str pa_nil))))
        pss_nil))))), ?_⟩
    walk_at "rd"
    refine holdsI T (many := 8) ap fun H1 s1 => ?_
    walk_at "rd"
    have bad1 : portsOk op = false → kindsW op oc ob os = some (Str.ofString "ports") := fun z => by unfold kindsW; rw [if_pos z]
    refine ifs (fun h1 => ?_) (fun h1 => ?_)
    · walk_at "rd"
      rw [bad1 (by
        cases op with
        | none => rfl
        | some ms => show (decide (ms.length ≤ 8) && _) = false; rw [show decide (ms.length ≤ 8) = false by simpa [heldO] using h1]; rfl)] at q
      exact i_mkE T.ox_NoWorld T.nf_NoWorld_found (fun d hd => q d _ (s1.trans (Same.new _ hd)) upd_same)
    · cases op with
      | none => cases h1
      | some mp =>
        have l8 : mp.length ≤ 8 := by simpa [heldO] using h1
        obtain ⟨pp, rfl, hSp, mTp⟩ := ap.sq
        walk_at "rd"
        refine i_lenS2 (hSp.same s1) ?_
        walk_at "rd"
        refine ifs (fun h2 => ?_) (fun h2 => ?_)
        · walk_at "rd"
          have e0 : mp.length = 0 := by simpa using h2
          rw [bad1 (by show (decide (mp.length ≤ 8) && (!decide (mp.length = 0) && _)) = false; rw [decide_eq_true e0]; simp)] at q
          exact i_mkE T.ox_NoWorld T.nf_NoWorld_found (fun d hd => q d _ (s1.trans (Same.new _ hd)) upd_same)
        · have e0 : ¬ mp.length = 0 := by simpa using h2
          walk_at "rd"
          refine i_iseq ?_
          walk_at "rd"
          refine lc_gather (hSp.same s1) (mp.map fun m => some (V.bl m.isN)) (by simp) (by rw [List.length_map]; have := sz_of (n := mp.length + 1) (by omega); omega) ?_ ?_
          · intro i x o H' NY NN hx ho s hy hn
            obtain ⟨m, hm, _, rfl, rfl⟩ := mk_get hx ho
            walk_at "rd"
            obtain ⟨m1, m2⟩ := MkT.name ((mTp m hm).same (s1.trans s))
            refine ⟨_, rfl, m1, ?_⟩
            exact hy _ _ (by rw [m2]) (Same.refl _)
          · intro D H2 hD s2 k2
            rw [bl_some] at k2
            walk_at "rd"
            refine i_all (SqL.lst k2) ?_
            rw [all_map]
            walk_at "rd"
            refine ifs (fun h3 => ?_) (fun h3 => ?_)
            · walk_at "rd"
              rw [bad1 (by show (decide (mp.length ≤ 8) && (!decide (mp.length = 0) && mp.all Mk.isN)) = false; rw [show mp.all Mk.isN = false by simpa using h3]; simp)] at q
              exact i_mkE T.ox_NoWorld T.nf_NoWorld_found (fun d hd => q d _ ((s1.trans s2).trans (Same.new _ hd)) upd_same)
            · have g1 : portsOk (some mp) = true := by
                show (decide (mp.length ≤ 8) && (!decide (mp.length = 0) && mp.all Mk.isN)) = true
                rw [decide_eq_true l8, decide_eq_false e0, show mp.all Mk.isN = true by simpa using h3]; rfl
              have s12 := s1.trans s2
              clear k2
              walk_at "rd"
              have bad2 : seqOk 12 Mk.isC oc = false → kindsW (some mp) oc ob os = some (Str.ofString "channels") := fun z => by unfold kindsW; rw [if_neg (by rw [g1]; decide), if_pos z]
              refine holdsI T (many := 12) (ArgT.same ac s12) fun H2a s2a => ?_
              walk_at "rd"
              refine ifs (fun h2a => ?_) (fun h2a => ?_)
              · walk_at "rd"
                rw [bad2 (seqOk_false (by simpa using h2a))] at q
                exact i_mkE T.ox_NoWorld T.nf_NoWorld_found (fun d hd => q d _ ((s12.trans s2a).trans (Same.new _ hd)) upd_same)
              · cases oc with
                | none => cases h2a
                | some mc =>
                  have hh2 : heldO 12 (some mc) = true := by simpa using h2a
                  have l2 : mc.length ≤ 12 := of_decide_eq_true hh2
                  obtain ⟨pc, rfl, hSc, mTc⟩ := ac.sq
                  walk_at "rd"
                  refine i_iseq ?_
                  walk_at "rd"
                  refine lc_gather (hSc.same (s12.trans s2a)) (mc.map fun m => some (V.bl m.isC)) (by simp) (by rw [List.length_map]; have := sz_of (n := mc.length + 1) (by omega); omega) ?_ ?_
                  · intro i x o H' NY NN hx ho s hy hn
                    obtain ⟨m, hm, _, rfl, rfl⟩ := mk_get hx ho
                    walk_at "rd"
                    obtain ⟨t, ty, t1, t2, t3⟩ := MkT.ty ((mTc m hm).same ((s12.trans s2a).trans s))
                    refine i_isiV ty t1 ?_
                    exact hy _ _ rfl (Same.refl _)
                  · intro D H2 hD s2b k2
                    rw [bl_some] at k2
                    walk_at "rd"
                    refine i_all (SqL.lst k2) ?_
                    rw [all_map]
                    walk_at "rd"
                    have e2 : mc.all Mk.isC = seqOk 12 Mk.isC (some mc) := (seqOk_of hh2).symm
                    rw [e2]
                    refine ifs (fun h2b => ?_) (fun h2b => ?_)
                    · walk_at "rd"
                      rw [bad2 (by simpa using h2b)] at q
                      exact i_mkE T.ox_NoWorld T.nf_NoWorld_found (fun d hd => q d _ (((s12.trans s2a).trans s2b).trans (Same.new _ hd)) upd_same)
                    · have g2 : seqOk 12 Mk.isC (some mc) = true := by simpa using h2b
                      have s123 := (s12.trans s2a).trans s2b
                      clear k2
                      walk_at "rd"
                      have bad3 : seqOk 4 Mk.isB ob = false → kindsW (some mp) (some mc) ob os = some (Str.ofString "breakers") := fun z => by unfold kindsW; rw [if_neg (by rw [g1]; decide), if_neg (by rw [g2]; decide), if_pos z]
                      refine holdsI T (many := 4) (ArgT.same ab s123) fun H3a s3a => ?_
                      walk_at "rd"
                      refine ifs (fun h3a => ?_) (fun h3a => ?_)
                      · walk_at "rd"
                        rw [bad3 (seqOk_false (by simpa using h3a))] at q
                        exact i_mkE T.ox_NoWorld T.nf_NoWorld_found (fun d hd => q d _ ((s123.trans s3a).trans (Same.new _ hd)) upd_same)
                      · cases ob with
                        | none => cases h3a
                        | some mb =>
                          have hh3 : heldO 4 (some mb) = true := by simpa using h3a
                          have l3 : mb.length ≤ 4 := of_decide_eq_true hh3
                          obtain ⟨pb, rfl, hSb, mTb⟩ := ab.sq
                          walk_at "rd"
                          refine i_iseq ?_
                          walk_at "rd"
                          refine lc_gather (hSb.same (s123.trans s3a)) (mb.map fun m => some (V.bl m.isB)) (by simp) (by rw [List.length_map]; have := sz_of (n := mb.length + 1) (by omega); omega) ?_ ?_
                          · intro i x o H' NY NN hx ho s hy hn
                            obtain ⟨m, hm, _, rfl, rfl⟩ := mk_get hx ho
                            walk_at "rd"
                            obtain ⟨t, ty, t1, t2, t3⟩ := MkT.ty ((mTb m hm).same ((s123.trans s3a).trans s))
                            refine i_isiV ty t2 ?_
                            exact hy _ _ rfl (Same.refl _)
                          · intro D H2 hD s3b k2
                            rw [bl_some] at k2
                            walk_at "rd"
                            refine i_all (SqL.lst k2) ?_
                            rw [all_map]
                            walk_at "rd"
                            have e3 : mb.all Mk.isB = seqOk 4 Mk.isB (some mb) := (seqOk_of hh3).symm
                            rw [e3]
                            refine ifs (fun h3b => ?_) (fun h3b => ?_)
                            · walk_at "rd"
                              rw [bad3 (by simpa using h3b)] at q
                              exact i_mkE T.ox_NoWorld T.nf_NoWorld_found (fun d hd => q d _ (((s123.trans s3a).trans s3b).trans (Same.new _ hd)) upd_same)
                            · have g3 : seqOk 4 Mk.isB (some mb) = true := by simpa using h3b
                              have s1234 := (s123.trans s3a).trans s3b
                              clear k2
                              walk_at "rd"
                              have bad4 : seqOk 6 Mk.isS os = false → kindsW (some mp) (some mc) (some mb) os = some (Str.ofString "ships") := fun z => by unfold kindsW; rw [if_neg (by rw [g1]; decide), if_neg (by rw [g2]; decide), if_neg (by rw [g3]; decide), if_pos z]
                              refine holdsI T (many := 6) (ArgT.same as' s1234) fun H4a s4a => ?_
                              walk_at "rd"
                              refine ifs (fun h4a => ?_) (fun h4a => ?_)
                              · walk_at "rd"
                                rw [bad4 (seqOk_false (by simpa using h4a))] at q
                                exact i_mkE T.ox_NoWorld T.nf_NoWorld_found (fun d hd => q d _ ((s1234.trans s4a).trans (Same.new _ hd)) upd_same)
                              · cases os with
                                | none => cases h4a
                                | some ms =>
                                  have hh4 : heldO 6 (some ms) = true := by simpa using h4a
                                  have l4 : ms.length ≤ 6 := of_decide_eq_true hh4
                                  obtain ⟨ps, rfl, hSs, mTs⟩ := as'.sq
                                  walk_at "rd"
                                  refine i_iseq ?_
                                  walk_at "rd"
                                  refine lc_gather (hSs.same (s1234.trans s4a)) (ms.map fun m => some (V.bl m.isS)) (by simp) (by rw [List.length_map]; have := sz_of (n := ms.length + 1) (by omega); omega) ?_ ?_
                                  · intro i x o H' NY NN hx ho s hy hn
                                    obtain ⟨m, hm, _, rfl, rfl⟩ := mk_get hx ho
                                    walk_at "rd"
                                    obtain ⟨t, ty, t1, t2, t3⟩ := MkT.ty ((mTs m hm).same ((s1234.trans s4a).trans s))
                                    refine i_isiV ty t3 ?_
                                    exact hy _ _ rfl (Same.refl _)
                                  · intro D H2 hD s4b k2
                                    rw [bl_some] at k2
                                    walk_at "rd"
                                    refine i_all (SqL.lst k2) ?_
                                    rw [all_map]
                                    walk_at "rd"
                                    have e4 : ms.all Mk.isS = seqOk 6 Mk.isS (some ms) := (seqOk_of hh4).symm
                                    rw [e4]
                                    refine ifs (fun h4b => ?_) (fun h4b => ?_)
                                    · walk_at "rd"
                                      rw [bad4 (by simpa using h4b)] at q
                                      exact i_mkE T.ox_NoWorld T.nf_NoWorld_found (fun d hd => q d _ (((s1234.trans s4a).trans s4b).trans (Same.new _ hd)) upd_same)
                                    · have g4 : seqOk 6 Mk.isS (some ms) = true := by simpa using h4b
                                      have s12345 := (s1234.trans s4a).trans s4b
                                      clear k2
                                      have e : kindsW (some mp) (some mc) (some mb) (some ms) = none := by unfold kindsW; rw [if_neg (by rw [g1]; decide), if_neg (by rw [g2]; decide), if_neg (by rw [g3]; decide), if_neg (by rw [g4]; decide)]
                                      rw [e] at q
                                      walk_at "rd"
                                      exact q _ s12345
end

end Ice

set_option Elab.async false
set_option linter.all false
set_option maxRecDepth 100000
set_option maxHeartbeats 4000000
namespace Ice
open PySem PySem.Spec PyProof.Rows L2 TL
/-! side conditions, heaps, one step of a reading, and many -/
local macro_rules | `(tactic| walk_at "hp") => `(tactic| first | assumption | exact upd_same | exact New.at_ (by assumption) | (refine keepU ?_ (by assumption); walk_at "hp") | (refine New.app (by assumption) ?_; walk_at "hp") | (refine Same.app (by assumption) ?_; walk_at "hp") | (refine But.app (by assumption) (by assumption) ?_; walk_at "hp"))
local macro_rules | `(tactic| walk_at "sq") => `(tactic| first | assumption | exact SqL.lst (by walk_at "hp") | exact L2.Same.seq (New.same (by assumption)) (by assumption) | exact L2.Same.seq (by assumption) (by assumption))
local macro_rules | `(tactic| walk_at "len") => `(tactic| first | assumption | (simp only [List.length_cons, List.length_nil, List.length_append, List.length_map]; decide) | (refine Ice.sz_of ?_; simp only [List.length_cons, List.length_nil, List.length_append, List.length_map]; omega))
local macro_rules | `(tactic| walk_at "fresh") => `(tactic| (simp only [List.map_append, List.map_cons, List.map_nil, List.nil_append, List.cons_append]; decide +kernel))
local macro_rules | `(tactic| walk_at "sd") => `(tactic| first | assumption | (show _ ≠ _; omega) | exact Or.inl ⟨by omega, by omega⟩ | exact Or.inr ⟨by omega, by omega⟩ | exact ⟨by decide, by decide⟩ | exact ⟨by decide, by decide, by decide⟩ | exact ⟨by omega, by omega, by omega⟩)
/-! one step of a reading, and many -/
local macro_rules | `(tactic| walk_at "st") => `(tactic| first
  | with_reducible refine i_seq ?_
  | with_reducible refine i_if ?_
  | with_reducible refine i_next ?_
  | with_reducible refine i_ret ?_
  | with_reducible refine i_retN ?_
  | with_reducible refine i_drop ?_
  | with_reducible refine i_asg ?_
  | with_reducible refine i_gname ?_
  | with_reducible refine i_gsub ?_
  | ((with_reducible refine i_var (v := ?vv) ?hv ?_); (case hv => exact rfl))
  | with_reducible refine i_c ?_
  | with_reducible refine i_op ?_
  | with_reducible refine i_un ?_
  | with_reducible refine i_test ?_
  | with_reducible refine i_tB ?_
  | with_reducible refine i_and ?_
  | with_reducible refine i_or ?_
  | with_reducible refine i_not ?_
  | with_reducible refine i_andV ?_
  | with_reducible refine i_orV ?_
  | with_reducible refine i_notV ?_
  | with_reducible refine i_ifE ?_
  | with_reducible refine i_chain ?_
  | with_reducible refine i_bl ?_
  | with_reducible refine i_nil ?_
  | with_reducible refine i_cons ?_
  | with_reducible refine i_call ?_
  | with_reducible refine i_cb ?_
  | with_reducible refine i_rI0 ?_
  | with_reducible refine i_rU ?_
  | ((with_reducible refine i_rEq ?hs ?_); (case hs => exact rfl))
  | ((with_reducible refine i_rNe ?hs ?_); (case hs => exact rfl))
  | ((with_reducible refine i_rI ?hc ?_); (case hc => walk_at "sd"))
  | ((with_reducible refine i_ixL (xs := ?xs) (v := ?vv) ?hS ?he ?_); (case hS => walk_at "sq"); (case he => exact rfl))
  | ((with_reducible refine i_setL (xs := ?xs) (j := ?jj) ?hS ?he ?_); (case hS => walk_at "hp"); (case he => exact rfl))
  | with_reducible refine i_tup ?_
  | with_reducible refine i_lst ?_
  | with_reducible refine i_bm ?_
  | with_reducible refine i_bm0 ?_
  | with_reducible refine i_m1 ?_
  | with_reducible refine i_sl ?_
  | with_reducible refine i_nopart ?_
  | with_reducible refine i_part ?_
  | with_reducible refine i_int ?_
  | with_reducible refine i_str ?_
  | with_reducible refine i_for ?_
  | with_reducible refine i_yes ?_
  | ((with_reducible refine i_lenL (xs := ?xs) ?hS ?_); (case hS => walk_at "sq"))
  | ((with_reducible refine i_room ?hz ?_); (case hz => walk_at "len"))
  | with_reducible refine i_leT ?_
  | with_reducible refine i_notInS ?_
  | with_reducible refine i_inS ?_
  | with_reducible refine i_find ?_
  | with_reducible refine i_isB ?_
  | with_reducible refine i_max2 ?_
  | with_reducible refine i_min2 ?_
  | with_reducible exact trivial
  | with_reducible refine iteT ?_
  | with_reducible refine iteF ?_
  | with_reducible refine i_isstr ?_
  | with_reducible refine i_lc ?_
  | ((with_reducible refine i_cat (xs := ?xs) (zs := ?zs) ?ha ?hb ?hz ?_); (case ha => walk_at "hp"); (case hb => walk_at "hp"); (case hz => walk_at "len"))
  | ((with_reducible refine i_tyL (xs := ?xs) ?ha ?_); (case ha => walk_at "hp"))
  | with_reducible refine i_list ?_
  | with_reducible refine i_disp ?_
  | with_reducible refine i_pairs0 ?_
  | with_reducible refine i_pairs ?_
  | with_reducible refine i_newK ?_
  | with_reducible refine i_gcons ?_
  | with_reducible refine i_gnil ?_
  | with_reducible refine i_revL ?_
  | with_reducible refine i_rng1 ?_
  | ((with_reducible refine i_wipe ?hw ?_); (case hw => exact rfl))
  | with_reducible refine iteNT ?_
  | with_reducible refine iteNF ?_)
local macro_rules | `(tactic| walk_at "sx") => `(tactic| first
  | walk_at "st"
  | with_reducible refine i_kinit ?_
  | with_reducible refine i_ost ?_
  | with_reducible refine i_mkO ?_
  | with_reducible refine i_callE ?_
  | with_reducible refine i_makeE ?_
  | with_reducible refine i_xf ?_
  | with_reducible refine i_sfld ?_
  | with_reducible refine i_fld ?_
  | ((with_reducible refine i_ixT (xs := ?xs) (v := ?vv) ?hS ?he ?_); (case hS => exact SqT.tup (by walk_at "hp")); (case he => exact rfl))
  | with_reducible refine i_intB ?_
  | with_reducible refine i_runS ?_
  | with_reducible refine i_runN ?_
  | ((with_reducible refine i_xf1 (fs := ?ff) (v := ?vv) ?hx ?hl ?_); (case hx => walk_at "hp"); (case hl => exact rfl))
  | with_reducible refine i_methE ?_
  | with_reducible refine i_meth ?_
  | with_reducible refine i_make ?_
  | ((with_reducible refine i_obj (dx := ?dd) (fs := ?ff) ?hx ?hl ?_); (case hx => walk_at "hp"); (case hl => exact rfl))
  | ((with_reducible refine i_fld1 (C := ?CC) (dx := ?dd) (fs := ?ff) (v := ?vv) ?hx ?cl ?na ?hl ?_); (case hx => walk_at "hp"); (case cl => assumption); (case na => assumption); (case hl => exact rfl)))
local macro_rules | `(tactic| walk_at "sy") => `(tactic| first
  | walk_at "sx"
  | with_reducible refine i_dget ?_
  | with_reducible refine i_dget2 ?_
  | with_reducible refine i_dput ?_
  | with_reducible refine i_din ?_
  | ((with_reducible refine i_aug (x := ?vv) ?hx ?_); (case hx => exact rfl)))
local macro_rules | `(tactic| walk_at "rd") => `(tactic| repeat (walk_at "sy"))

section
variable {P : Program} {w : World} {K : PySem.W.Frag} {mg : Str → Option Value} {base : Heap}
theorem str_inV {ns : List Str} {n : Str} : inV (.str n) (ns.map V.str) = decide (n ∈ ns) := by
  unfold inV
  rw [List.any_map]
  induction ns with
  | nil => rfl
  | cons y r ih =>
    rw [List.any_cons, ih]
    by_cases e : n = y
    · subst e
      simp [eqV]
    · have : eqV (V.str y) (V.str n) = false := by simp [eqV, Ne.symm e]
      simp [this, e]
theorem flat_strs (ns : List Str) : (ns.map V.str).all flatV = true := by rw [List.all_map]; simp [flatV]
theorem strs_get {ns : List Str} {i : Nat} {x : V} (hx : (ns.map V.str)[i]? = some x) : ∃ n, ns[i]? = some n ∧ x = .str n := by
  rw [List.getElem?_map] at hx
  cases hn : ns[i]? with
  | none => rw [hn] at hx; cases hx
  | some n => rw [hn] at hx; exact ⟨n, rfl, (Option.some.inj hx).symm⟩
def spUnlike (T : Top K mg) : Sp := fun vs H Q E => ∃ (a : Addr) (ns : List Str), vs = [.ref a] ∧ SqO H a (ns.map V.str) ∧ ns.length ≤ 1000 ∧
  match firstDbl ns with
  | none => ∀ H', Same H H' → Q .non H'
  | some n => ∀ d H', Same H H' → H' d = some (.xd [(Str.ofString "name", .str n)]) → E (.ref T.a_Doubled) (some d) H'
theorem ok_check_unlike (T : Top K mg) : FnG P w K mg base (L2.CX P w) 3 T.a_check_unlike T.d_check_unlike ["names"] (spUnlike T) := by
  have G_Doubled___init__ := ok_Doubled___init__ (P := P) (w := w) (base := base) T
  refine okGX T.F_check_unlike sc_check_unlike (fun vs H Q E h => ?_) (fun cdv A outer s H vs Q E hr hgd h => ?_)
  · obtain ⟨a, ns, rfl, _⟩ := h
    rfl
  · obtain ⟨a, ns, rfl, hS, hz, q⟩ := h
    refine ⟨_, (pss_cons (ps_set (i := 1) sc_check_unlike.nd rfl (by first | exact Or.inl rfl | exact Or.inr rfl) (pe_lst pa_nil))
      (pss_one (ps_for (passes_of rfl) rfl (pi_seq (pv 0)) (pg_name (i := 2) sc_check_unlike.nd rfl (by first | exact Or.inl rfl | exact Or.inr rfl))
        (pss_cons (ps_if (pt_cmpR op_in_seq (pv 2) (pv 1) (by rfl))
        (pss_one (ps_raise rfl (takes_of rfl rfl rfl rfl) (pmk_oex T.ox_Doubled T.in_Doubled T.tf_Doubled G_Doubled___init__ (hr.mono (by decide)) T.b_Doubled___init__ .nil pass0 (by rfl) T.c_Doubled (pa_cons (pv 2) pa_nil))))
        pss_nil)
      (pss_one (ps_expr (pe_bm PySem.F.plainAttrs_list PySem.F.slot_list_append PySem.F.type_list_append mt_append (pv 1) (pa_cons (pv 2) pa_nil)))))))), ?_⟩
    walk_at "rd"
    (intro p1 hp1; generalize ep1 : upd _ p1 _ = J1; have N1 := New.of ep1 hp1; clear ep1 hp1)
    walk_at "rd"
    refine i_iseq ?_
    walk_at "rd"
    have hS1 : SqS K J1 a (ns.map V.str) := (hS.same N1.same).sq
    have ap : a ≠ p1 := hS.ne N1.free
    refine for_seq hS1 (fun i σ H' => But p1 J1 H' ∧ H' p1 = some (.lst ((ns.take i).map V.str)) ∧ dblAt ns i = none ∧ ∃ z, σ = [some (.ref a), some (.ref p1), z])
      ⟨But.refl _ _, N1.at_, rfl, _, rfl⟩ (fun i σ' H' _ h => fun o e => h.1 _ _ ap e) ?_ ?_
    · rintro i x σ H' hx ⟨s, hp, hd, z, rfl⟩
      obtain ⟨n, hn, rfl⟩ := strs_get hx
      have lt := (List.getElem?_eq_some_iff.mp hn).1
      have s0 : Same H H' := But.to N1.same s N1.free
      walk_at "rd"
      refine ⟨p1, _, rfl, .inl (SqL.lst hp), rfl, flat_strs _, ?_⟩
      simp only [Bool.false_eq_true, if_false]
      rw [str_inV]
      walk_at "rd"
      refine ifs (fun h1 => ?_) (fun h1 => ?_)
      · walk_at "rd"
        rw [dbl_hit hd hn (of_decide_eq_true h1)] at q
        exact i_mkE T.ox_Doubled T.nf_Doubled_name (fun d hd => q d _ (s0.trans (Same.new _ hd)) upd_same)
      · walk_at "rd"
        refine ⟨p1, _, _, rfl, rfl, hp, ?_, ?_⟩
        · have := List.length_take_le i ns
          have := sz_of (n := ns.length + 1) (by omega)
          rw [List.length_map]; omega
        · refine ⟨fun b u nb hb => by rw [upd_ne nb]; exact s _ _ nb hb, ?_, dbl_miss hd hn (of_decide_eq_false h1), _, rfl⟩
          rw [upd_same, List.take_add_one, hn, List.map_append]; rfl
    · rintro σ H' ⟨s, hp, hd, z, rfl⟩
      rw [List.length_map] at hd
      rw [show firstDbl ns = none from hd] at q
      walk_at "rd"
      exact q _ (But.to N1.same s N1.free)
theorem mk_isC {m : Mk} (h : m.isC = true) : ∃ x c, m = .ch x c := by cases m <;> first | exact ⟨_, _, rfl⟩ | cases h
theorem mk_isB {m : Mk} (h : m.isB = true) : ∃ x d, m = .ves x d ∧ d.k = .b := by
  cases m with
  | ves x d =>
    refine ⟨x, d, rfl, ?_⟩
    unfold Mk.isB at h
    dsimp only at h
    cases hk : d.k <;> rw [hk] at h <;> first | rfl | cases h
  | _ => cases h
theorem mk_isS {m : Mk} (h : m.isS = true) : ∃ x d, m = .ves x d ∧ d.k = .s := by
  cases m with
  | ves x d =>
    refine ⟨x, d, rfl, ?_⟩
    unfold Mk.isS at h
    dsimp only at h
    cases hk : d.k <;> rw [hk] at h <;> first | rfl | cases h
  | _ => cases h
theorem mks_get {ms : List Mk} {i : Nat} {x : V} (hx : (ms.map Mk.v)[i]? = some x) : ∃ m, ms[i]? = some m ∧ m ∈ ms ∧ x = m.v := by
  rw [List.getElem?_map] at hx
  cases hn : ms[i]? with
  | none => rw [hn] at hx; cases hx
  | some m => rw [hn] at hx; exact ⟨m, rfl, List.mem_of_getElem? hn, (Option.some.inj hx).symm⟩
theorem flat_snoc {ms : List Mk} {i : Nat} {m : Mk} {f : Mk → List Str} (h : ms[i]? = some m) : (ms.take (i + 1)).flatMap f = (ms.take i).flatMap f ++ f m := by
  rw [List.take_add_one, h, List.flatMap_append]; simp
theorem flat_len {f : Mk → List Str} (hf : ∀ m, (f m).length ≤ 2) : ∀ ms : List Mk, (ms.flatMap f).length ≤ 2 * ms.length
  | [] => by simp
  | m :: r => by
    rw [List.flatMap_cons, List.length_append, List.length_cons]
    have := flat_len hf r
    have := hf m
    omega
theorem ends_le (m : Mk) : m.ends.length ≤ 2 := by cases m <;> simp [Mk.ends]
theorem prt_le (m : Mk) : m.prt.length ≤ 2 := by cases m <;> simp [Mk.prt]
theorem both_le (m : Mk) : m.both.length ≤ 2 := by cases m <;> simp [Mk.both]
theorem ch_fld (T : Top K mg) {H : Hp} {x : Addr} {c : Cd} (h : ChT T H x c) {f : Str} {v : V} {B : V → Prop} (na : NoAttr K T.a_Channel f) (hl : c.flds.lookup f = some v) (q : B v) : ∃ a C dx fs u, V.ref x = .ref a ∧ H a = some (.ins C dx fs) ∧ Cls K C ∧ NoAttr K C f ∧ fs.lookup f = some u ∧ B u := by
  obtain ⟨_, dx, e⟩ := h
  exact ⟨x, _, dx, _, v, rfl, e, T.cl_Channel, na, hl, q⟩
theorem f_goal (T : Top K mg) {H : Hp} {B : V → Prop} {x : Addr} {v : Vd} (h : VesT T H x v) (hk : v.k = .s) (q : B (.str v.g)) : ∃ a C dx fs u, V.ref x = .ref a ∧ H a = some (.ins C dx fs) ∧ Cls K C ∧ NoAttr K C "goal" ∧ fs.lookup (Str.ofString "goal") = some u ∧ B u := by
  obtain ⟨_, dx, e⟩ := h
  rw [hk] at e
  refine ⟨x, _, dx, _, _, rfl, e, T.cl_Ship, T.na_Ship_goal, ?_, q⟩
  unfold Vd.flds Vd.row
  rw [hk]; rfl
def spPorts (T : Top K mg) : Sp := fun vs H Q E => ∃ (pp pc pb ps : Addr) (pns : List Str) (mc mb ms : List Mk), vs = [.ref pp, .ref pc, .ref pb, .ref ps] ∧ SqO H pp (pns.map V.str) ∧ SqO H pc (mc.map Mk.v) ∧ SqO H pb (mb.map Mk.v) ∧ SqO H ps (ms.map Mk.v) ∧
  (∀ m ∈ mc, MkT T H m ∧ m.isC = true) ∧ (∀ m ∈ mb, MkT T H m ∧ m.isB = true) ∧ (∀ m ∈ ms, MkT T H m ∧ m.isS = true) ∧ mc.length ≤ 1000 ∧ mb.length ≤ 1000 ∧ ms.length ≤ 1000 ∧
  match (wantL (some mc) (some mb) (some ms)).find? (noPort pns) with
  | none => ∀ H', Same H H' → Q .non H'
  | some n => ∀ d H', Same H H' → H' d = some (.xd [(Str.ofString "found", .str n)]) → E (.ref T.a_NoPort) (some d) H'
theorem find_takeS {ns : List Str} {p : Str → Bool} {i : Nat} {n : Str} (h : (ns.take i).find? p = none) (hi : ns[i]? = some n) : (p n = true → ns.find? p = some n) ∧ (p n = false → (ns.take (i + 1)).find? p = none) := by
  have e : ns.take (i + 1) = ns.take i ++ [n] := by rw [List.take_add_one, hi]; rfl
  refine ⟨fun z => ?_, fun z => ?_⟩
  · have e2 : ns = ns.take i ++ n :: ns.drop (i + 1) := by
      have hl := (List.getElem?_eq_some_iff.mp hi)
      rw [← hl.2, ← List.drop_eq_getElem_cons hl.1, List.take_append_drop]
    rw [e2, List.find?_append, h, List.find?_cons, z]; rfl
  · rw [e, List.find?_append, h, List.find?_cons, z]; rfl
theorem ok_check_ports (T : Top K mg) : FnG P w K mg base (L2.CX P w) 3 T.a_check_ports T.d_check_ports ["ports", "channels", "breakers", "ships"] (spPorts T) := by
  have G_NoPort___init__ := ok_NoPort___init__ (P := P) (w := w) (base := base) T
  refine okGX T.F_check_ports sc_check_ports (fun vs H Q E h => ?_) (fun cdv A outer s H vs Q E hr hgd h => ?_)
  · obtain ⟨pp, pc, pb, ps, pns, mc, mb, ms, rfl, _⟩ := h
    rfl
  · obtain ⟨pp, pc, pb, ps, pns, mc, mb, ms, rfl, hP, hC, hB, hS, tC, tB, tS, lc, lb, ls, q⟩ := h
    refine ⟨_, (pss_cons (ps_set (i := 4) sc_check_ports.nd rfl (by first | exact Or.inl rfl | exact Or.inr rfl) (pe_lst pa_nil))
      (pss_cons (ps_for (passes_of rfl) rfl (pi_seq (pv 1)) (pg_name (i := 5) sc_check_ports.nd rfl (by first | exact Or.inl rfl | exact Or.inr rfl))
        (pss_one (ps_aug (i := 4) sc_check_ports.nd rfl (by first | exact Or.inl rfl | exact Or.inr rfl) (pe_lst (pa_cons (pe_fld (pv 5) rfl) (pa_cons (pe_fld (pv 5) rfl) pa_nil))) (show PIp _ _ rExt2 from iop_ext))))
      (pss_cons (ps_for (passes_of rfl) rfl (pi_seq (pv 2)) (pg_name (i := 6) sc_check_ports.nd rfl (by first | exact Or.inl rfl | exact Or.inr rfl))
        (pss_one (ps_expr (pe_bm PySem.F.plainAttrs_list PySem.F.slot_list_append PySem.F.type_list_append mt_append (pv 4) (pa_cons (pe_fld (pv 6) rfl) pa_nil)))))
      (pss_cons (ps_for (passes_of rfl) rfl (pi_seq (pv 3)) (pg_name (i := 7) sc_check_ports.nd rfl (by first | exact Or.inl rfl | exact Or.inr rfl))
        (pss_one (ps_aug (i := 4) sc_check_ports.nd rfl (by first | exact Or.inl rfl | exact Or.inr rfl) (pe_lst (pa_cons (pe_fld (pv 7) rfl) (pa_cons (pe_fld (pv 7) rfl) pa_nil))) (show PIp _ _ rExt2 from iop_ext))))
      (pss_one (ps_for (passes_of rfl) rfl (pi_list (pv 4)) (pg_name (i := 8) sc_check_ports.nd rfl (by first | exact Or.inl rfl | exact Or.inr rfl))
        (pss_one (ps_if (pt_cmpR op_notIn_seq (pv 8) (pv 0) (by rfl))
        (pss_one (ps_raise rfl (takes_of rfl rfl rfl rfl) (pmk_oex T.ox_NoPort T.in_NoPort T.tf_NoPort G_NoPort___init__ (hr.mono (by decide)) T.b_NoPort___init__ .nil pass0 (by rfl) T.c_NoPort (pa_cons (pv 8) pa_nil))))
        pss_nil)))))))), ?_⟩
    walk_at "rd"
    (intro p1 hp1; generalize ep1 : upd _ p1 _ = J1; have N1 := New.of ep1 hp1; clear ep1 hp1)
    walk_at "rd"
    refine i_iseq ?_
    walk_at "rd"
    have nc : pc ≠ p1 := hC.ne N1.free
    have nb : pb ≠ p1 := hB.ne N1.free
    have ns : ps ≠ p1 := hS.ne N1.free
    have np : pp ≠ p1 := hP.ne N1.free
    refine for_seq (hC.same N1.same).sq (fun i σ H' => But p1 J1 H' ∧ H' p1 = some (.lst (((mc.take i).flatMap Mk.ends).map V.str)) ∧ ∃ z1 z2 z3 z4, σ = [some (.ref pp), some (.ref pc), some (.ref pb), some (.ref ps), some (.ref p1), z1, z2, z3, z4])
      ⟨But.refl _ _, N1.at_, _, _, _, _, rfl⟩ (fun i σ' H' _ h => fun o e => h.1 _ _ nc e) ?_ ?_
    · rintro i x σ H' hx ⟨s, hp, z1, z2, z3, z4, rfl⟩
      obtain ⟨m, hm, hmem, rfl⟩ := mks_get hx
      obtain ⟨mt, mi⟩ := tC m hmem
      obtain ⟨x, c, rfl⟩ := mk_isC mi
      have lt := (List.getElem?_eq_some_iff.mp hm).1
      have s0 : Same H H' := But.to N1.same s N1.free
      have ct : ChT T H' x c := ChT.same mt s0
      walk_at "rd"
      refine ch_fld T ct T.na_Channel_one rfl ?_
      walk_at "rd"
      refine ch_fld T ct T.na_Channel_other rfl ?_
      walk_at "rd"
      (intro p2 hp2; generalize ep2 : upd _ p2 _ = J2; have N2 := New.of ep2 hp2; clear ep2 hp2)
      have fl := flat_len ends_le (mc.take i)
      have tl := List.length_take_le i mc
      have z1' := sz_of (n := 2 * mc.length + 2) (by omega)
      refine i_ext2 (N2.app hp) N2.at_ (by rw [List.length_map]; show _ + 2 ≤ _; omega) ?_
      refine ⟨fun b u nb hb => by rw [upd_ne nb]; exact N2.app (s _ _ nb hb), ?_, _, _, _, _, rfl⟩
      rw [upd_same, flat_snoc hm, List.map_append]; rfl
    · rintro σ H0 ⟨s, hp, z1, z2, z3, z4, rfl⟩
      rw [List.length_map, List.take_length] at hp
      walk_at "rd"
      refine i_iseq ?_
      walk_at "rd"
      have s00 : Same H H0 := But.to N1.same s N1.free
      refine for_seq (hB.same s00).sq (fun i σ H' => But p1 J1 H' ∧ H' p1 = some (.lst ((mc.flatMap Mk.ends ++ (mb.take i).flatMap Mk.prt).map V.str)) ∧ Kep H0 H' pb ∧ ∃ z1 z2 z3 z4, σ = [some (.ref pp), some (.ref pc), some (.ref pb), some (.ref ps), some (.ref p1), z1, z2, z3, z4])
        ⟨s, by rw [hp]; simp, fun o e => e, _, _, _, _, rfl⟩ (fun i σ' H' _ h => h.2.2.1) ?_ ?_
      · rintro i x σ H' hx ⟨s, hp, kk, z1, z2, z3, z4, rfl⟩
        obtain ⟨m, hm, hmem, rfl⟩ := mks_get hx
        obtain ⟨mt, mi⟩ := tB m hmem
        obtain ⟨x, d, rfl, _⟩ := mk_isB mi
        have lt := (List.getElem?_eq_some_iff.mp hm).1
        have s0 : Same H H' := But.to N1.same s N1.free
        have ct : VesT T H' x d := VesA.same mt s0
        walk_at "rd"
        refine f_port T ct ?_
        walk_at "rd"
        have fl := flat_len ends_le mc
        have fl2 := flat_len prt_le (mb.take i)
        have tl := List.length_take_le i mb
        have z1' := sz_of (n := 2 * mc.length + 2 * mb.length + 2) (by omega)
        refine ⟨p1, _, _, rfl, rfl, hp, by rw [List.length_map, List.length_append]; omega, ?_⟩
        refine ⟨fun b u nb hb => by rw [upd_ne nb]; exact s _ _ nb hb, ?_, fun o e => by rw [upd_ne nb]; exact kk o e, _, _, _, _, rfl⟩
        rw [upd_same, flat_snoc hm, ← List.append_assoc, List.map_append (l₂ := Mk.prt _)]; rfl
      · rintro σ H0 ⟨s, hp, _, z1, z2, z3, z4, rfl⟩
        rw [List.length_map, List.take_length] at hp
        walk_at "rd"
        refine i_iseq ?_
        walk_at "rd"
        have s00 : Same H H0 := But.to N1.same s N1.free
        refine for_seq (hS.same s00).sq (fun i σ H' => But p1 J1 H' ∧ H' p1 = some (.lst ((mc.flatMap Mk.ends ++ mb.flatMap Mk.prt ++ (ms.take i).flatMap Mk.both).map V.str)) ∧ Kep H0 H' ps ∧ ∃ z1 z2 z3 z4, σ = [some (.ref pp), some (.ref pc), some (.ref pb), some (.ref ps), some (.ref p1), z1, z2, z3, z4])
          ⟨s, by rw [hp]; simp, fun o e => e, _, _, _, _, rfl⟩ (fun i σ' H' _ h => h.2.2.1) ?_ ?_
        · rintro i x σ H' hx ⟨s, hp, kk, z1, z2, z3, z4, rfl⟩
          obtain ⟨m, hm, hmem, rfl⟩ := mks_get hx
          obtain ⟨mt, mi⟩ := tS m hmem
          obtain ⟨x, d, rfl, dk⟩ := mk_isS mi
          have lt := (List.getElem?_eq_some_iff.mp hm).1
          have s0 : Same H H' := But.to N1.same s N1.free
          have ct : VesT T H' x d := VesA.same mt s0
          walk_at "rd"
          refine f_port T ct ?_
          walk_at "rd"
          refine f_goal T ct dk ?_
          walk_at "rd"
          (intro p2 hp2; generalize ep2 : upd _ p2 _ = J2; have N2 := New.of ep2 hp2; clear ep2 hp2)
          have fl := flat_len ends_le mc
          have fl2 := flat_len prt_le mb
          have fl3 := flat_len both_le (ms.take i)
          have tl := List.length_take_le i ms
          have z1' := sz_of (n := 2 * mc.length + 2 * mb.length + 2 * ms.length + 2) (by omega)
          refine i_ext2 (N2.app hp) N2.at_ (by rw [List.length_map, List.length_append, List.length_append]; show _ + 2 ≤ _; omega) ?_
          refine ⟨fun b u nb hb => by rw [upd_ne nb]; exact N2.app (s _ _ nb hb), ?_, fun o e => by rw [upd_ne ns]; exact N2.app (kk o e), _, _, _, _, rfl⟩
          rw [upd_same, flat_snoc hm, ← List.append_assoc, List.map_append (l₂ := Mk.both _)]; rfl
        · rintro σ H0 ⟨s, hp, _, z1, z2, z3, z4, rfl⟩
          rw [List.length_map, List.take_length] at hp
          have hw : mc.flatMap Mk.ends ++ mb.flatMap Mk.prt ++ ms.flatMap Mk.both = wantL (some mc) (some mb) (some ms) := rfl
          rw [hw] at hp
          have s00 : Same H H0 := But.to N1.same s N1.free
          walk_at "rd"
          refine ⟨p1, rfl, ⟨_, SqL.lst hp⟩, ?_⟩
          generalize wantL (some mc) (some mb) (some ms) = wl at hp q
          refine for_list (K := K) (a := p1) (xs := wl.map V.str) (fun i σ H' => H' = H0 ∧ (wl.take i).find? (noPort pns) = none ∧ ∃ z1 z2 z3 z4, σ = [some (.ref pp), some (.ref pc), some (.ref pb), some (.ref ps), some (.ref p1), z1, z2, z3, z4])
            ⟨rfl, rfl, _, _, _, _, rfl⟩ (fun i σ H' _ h => by rw [h.1]; exact SqL.lst hp) ?_ ?_
          · rintro i x σ H' hx ⟨rfl, hf, z1, z2, z3, z4, rfl⟩
            obtain ⟨n, hn, rfl⟩ := strs_get hx
            obtain ⟨f1, f2⟩ := find_takeS hf hn
            walk_at "rd"
            refine ⟨pp, _, rfl, (hP.same s00).sq, rfl, flat_strs _, ?_⟩
            rw [if_pos rfl, str_inV]
            walk_at "rd"
            refine ifs (fun h1 => ?_) (fun h1 => ?_)
            · walk_at "rd"
              rw [f1 h1] at q
              exact i_mkE T.ox_NoPort T.nf_NoPort_found (fun d hd => q d _ (s00.trans (Same.new _ hd)) upd_same)
            · exact ⟨rfl, f2 h1, _, _, _, _, rfl⟩
          · rintro σ H' ⟨rfl, hf, z1, z2, z3, z4, rfl⟩
            rw [List.length_map, List.take_length] at hf
            rw [hf] at q
            walk_at "rd"
            exact q _ s00
end

end Ice

set_option Elab.async false
set_option linter.all false
set_option maxRecDepth 100000
set_option maxHeartbeats 4000000
namespace Ice
open PySem PySem.Spec PyProof.Rows L2 TL
/-! side conditions, heaps, one step of a reading, and many -/
local macro_rules | `(tactic| walk_at "hp") => `(tactic| first | assumption | exact upd_same | exact New.at_ (by assumption) | (refine keepU ?_ (by assumption); walk_at "hp") | (refine New.app (by assumption) ?_; walk_at "hp") | (refine Same.app (by assumption) ?_; walk_at "hp") | (refine But.app (by assumption) (by assumption) ?_; walk_at "hp"))
local macro_rules | `(tactic| walk_at "sq") => `(tactic| first | assumption | exact SqL.lst (by walk_at "hp") | exact L2.Same.seq (New.same (by assumption)) (by assumption) | exact L2.Same.seq (by assumption) (by assumption))
local macro_rules | `(tactic| walk_at "len") => `(tactic| first | assumption | (simp only [List.length_cons, List.length_nil, List.length_append, List.length_map]; decide) | (refine Ice.sz_of ?_; simp only [List.length_cons, List.length_nil, List.length_append, List.length_map]; omega))
local macro_rules | `(tactic| walk_at "fresh") => `(tactic| (simp only [List.map_append, List.map_cons, List.map_nil, List.nil_append, List.cons_append]; decide +kernel))
local macro_rules | `(tactic| walk_at "sd") => `(tactic| first | assumption | (show _ ≠ _; omega) | exact Or.inl ⟨by omega, by omega⟩ | exact Or.inr ⟨by omega, by omega⟩ | exact ⟨by decide, by decide⟩ | exact ⟨by decide, by decide, by decide⟩ | exact ⟨by omega, by omega, by omega⟩)
/-! one step of a reading, and many -/
local macro_rules | `(tactic| walk_at "st") => `(tactic| first
  | with_reducible refine i_seq ?_
  | with_reducible refine i_if ?_
  | with_reducible refine i_next ?_
  | with_reducible refine i_ret ?_
  | with_reducible refine i_retN ?_
  | with_reducible refine i_drop ?_
  | with_reducible refine i_asg ?_
  | with_reducible refine i_gname ?_
  | with_reducible refine i_gsub ?_
  | ((with_reducible refine i_var (v := ?vv) ?hv ?_); (case hv => exact rfl))
  | with_reducible refine i_c ?_
  | with_reducible refine i_op ?_
  | with_reducible refine i_un ?_
  | with_reducible refine i_test ?_
  | with_reducible refine i_tB ?_
  | with_reducible refine i_and ?_
  | with_reducible refine i_or ?_
  | with_reducible refine i_not ?_
  | with_reducible refine i_andV ?_
  | with_reducible refine i_orV ?_
  | with_reducible refine i_notV ?_
  | with_reducible refine i_ifE ?_
  | with_reducible refine i_chain ?_
  | with_reducible refine i_bl ?_
  | with_reducible refine i_nil ?_
  | with_reducible refine i_cons ?_
  | with_reducible refine i_call ?_
  | with_reducible refine i_cb ?_
  | with_reducible refine i_rI0 ?_
  | with_reducible refine i_rU ?_
  | ((with_reducible refine i_rEq ?hs ?_); (case hs => exact rfl))
  | ((with_reducible refine i_rNe ?hs ?_); (case hs => exact rfl))
  | ((with_reducible refine i_rI ?hc ?_); (case hc => walk_at "sd"))
  | ((with_reducible refine i_ixL (xs := ?xs) (v := ?vv) ?hS ?he ?_); (case hS => walk_at "sq"); (case he => exact rfl))
  | ((with_reducible refine i_setL (xs := ?xs) (j := ?jj) ?hS ?he ?_); (case hS => walk_at "hp"); (case he => exact rfl))
  | with_reducible refine i_tup ?_
  | with_reducible refine i_lst ?_
  | with_reducible refine i_bm ?_
  | with_reducible refine i_bm0 ?_
  | with_reducible refine i_m1 ?_
  | with_reducible refine i_sl ?_
  | with_reducible refine i_nopart ?_
  | with_reducible refine i_part ?_
  | with_reducible refine i_int ?_
  | with_reducible refine i_str ?_
  | with_reducible refine i_for ?_
  | with_reducible refine i_yes ?_
  | ((with_reducible refine i_lenL (xs := ?xs) ?hS ?_); (case hS => walk_at "sq"))
  | ((with_reducible refine i_room ?hz ?_); (case hz => walk_at "len"))
  | with_reducible refine i_leT ?_
  | with_reducible refine i_notInS ?_
  | with_reducible refine i_inS ?_
  | with_reducible refine i_find ?_
  | with_reducible refine i_isB ?_
  | with_reducible refine i_max2 ?_
  | with_reducible refine i_min2 ?_
  | with_reducible exact trivial
  | with_reducible refine iteT ?_
  | with_reducible refine iteF ?_
  | with_reducible refine i_isstr ?_
  | with_reducible refine i_lc ?_
  | ((with_reducible refine i_cat (xs := ?xs) (zs := ?zs) ?ha ?hb ?hz ?_); (case ha => walk_at "hp"); (case hb => walk_at "hp"); (case hz => walk_at "len"))
  | ((with_reducible refine i_tyL (xs := ?xs) ?ha ?_); (case ha => walk_at "hp"))
  | with_reducible refine i_list ?_
  | with_reducible refine i_disp ?_
  | with_reducible refine i_pairs0 ?_
  | with_reducible refine i_pairs ?_
  | with_reducible refine i_newK ?_
  | with_reducible refine i_gcons ?_
  | with_reducible refine i_gnil ?_
  | with_reducible refine i_revL ?_
  | with_reducible refine i_rng1 ?_
  | ((with_reducible refine i_wipe ?hw ?_); (case hw => exact rfl))
  | with_reducible refine iteNT ?_
  | with_reducible refine iteNF ?_)
local macro_rules | `(tactic| walk_at "sx") => `(tactic| first
  | walk_at "st"
  | with_reducible refine i_kinit ?_
  | with_reducible refine i_ost ?_
  | with_reducible refine i_mkO ?_
  | with_reducible refine i_callE ?_
  | with_reducible refine i_makeE ?_
  | with_reducible refine i_xf ?_
  | with_reducible refine i_sfld ?_
  | with_reducible refine i_fld ?_
  | ((with_reducible refine i_ixT (xs := ?xs) (v := ?vv) ?hS ?he ?_); (case hS => exact SqT.tup (by walk_at "hp")); (case he => exact rfl))
  | with_reducible refine i_intB ?_
  | with_reducible refine i_runS ?_
  | with_reducible refine i_runN ?_
  | ((with_reducible refine i_xf1 (fs := ?ff) (v := ?vv) ?hx ?hl ?_); (case hx => walk_at "hp"); (case hl => exact rfl))
  | with_reducible refine i_methE ?_
  | with_reducible refine i_meth ?_
  | with_reducible refine i_make ?_
  | ((with_reducible refine i_obj (dx := ?dd) (fs := ?ff) ?hx ?hl ?_); (case hx => walk_at "hp"); (case hl => exact rfl))
  | ((with_reducible refine i_fld1 (C := ?CC) (dx := ?dd) (fs := ?ff) (v := ?vv) ?hx ?cl ?na ?hl ?_); (case hx => walk_at "hp"); (case cl => assumption); (case na => assumption); (case hl => exact rfl)))
local macro_rules | `(tactic| walk_at "sy") => `(tactic| first
  | walk_at "sx"
  | with_reducible refine i_dget ?_
  | with_reducible refine i_dget2 ?_
  | with_reducible refine i_dput ?_
  | with_reducible refine i_din ?_
  | ((with_reducible refine i_aug (x := ?vv) ?hx ?_); (case hx => exact rfl)))
local macro_rules | `(tactic| walk_at "rd") => `(tactic| repeat (walk_at "sy"))

section
variable {P : Program} {w : World} {K : PySem.W.Frag} {mg : Str → Option Value} {base : Heap}
theorem seqOk_some {many : Nat} {p : Mk → Bool} {o : OMk} (h : seqOk many p o = true) : ∃ ms, o = some ms ∧ ms.length ≤ many ∧ ∀ m ∈ ms, p m = true := by
  cases o with
  | none => cases h
  | some ms =>
    have h : (decide (ms.length ≤ many) && ms.all p) = true := h
    rw [Bool.and_eq_true, decide_eq_true_eq, List.all_eq_true] at h
    exact ⟨ms, rfl, h.1, h.2⟩
structure KindsOk (op oc ob os : OMk) (mp mc mb ms : List Mk) : Prop where
  ep : op = some mp
  ec : oc = some mc
  eb : ob = some mb
  es : os = some ms
  lp : mp.length ≤ 8
  l0 : mp.length ≠ 0
  lc : mc.length ≤ 12
  lb : mb.length ≤ 4
  ls : ms.length ≤ 6
  ip : ∀ m ∈ mp, m.isN = true
  ic : ∀ m ∈ mc, m.isC = true
  ib : ∀ m ∈ mb, m.isB = true
  is' : ∀ m ∈ ms, m.isS = true
theorem kindsW_none {op oc ob os : OMk} (h : kindsW op oc ob os = none) : ∃ mp mc mb ms, KindsOk op oc ob os mp mc mb ms := by
  unfold kindsW at h
  split at h
  · cases h
  · split at h
    · cases h
    · split at h
      · cases h
      · split at h
        · cases h
        · rename_i h1 h2 h3 h4
          obtain ⟨mc, ec, lc, ic⟩ := seqOk_some (by simpa using h2)
          obtain ⟨mb, eb, lb, ib⟩ := seqOk_some (by simpa using h3)
          obtain ⟨ms, es, ls, is'⟩ := seqOk_some (by simpa using h4)
          cases op with
          | none => exact absurd rfl h1
          | some mp =>
            have h1 : (decide (mp.length ≤ 8) && (!decide (mp.length = 0) && mp.all Mk.isN)) = true := by
              have : ¬ portsOk (some mp) = false := h1
              simpa [portsOk] using this
            rw [Bool.and_eq_true, Bool.and_eq_true, decide_eq_true_eq, List.all_eq_true] at h1
            exact ⟨mp, mc, mb, ms, rfl, ec, eb, es, h1.1, by simpa using h1.2.1, lc, lb, ls, h1.2.2, ic, ib, is'⟩
theorem isN_nm {m : Mk} (h : m.isN = true) : m.v = .str m.nm := by
  cases m with
  | data v => cases v <;> first | rfl | cases h
  | _ => cases h
theorem isN_map {ms : List Mk} (h : ∀ m ∈ ms, m.isN = true) : ms.map Mk.v = (ms.map Mk.nm).map V.str := by
  rw [List.map_map]
  exact List.map_congr_left fun m hm => isN_nm (h m hm)
def fldW (b : Int) (ap ac ab as_ ad av : Addr) : List (Str × V) := [(Str.ofString "_begin", .int b), (Str.ofString "_ports", .ref ap), (Str.ofString "_channels", .ref ac), (Str.ofString "_breakers", .ref ab), (Str.ofString "_ships", .ref as_), (Str.ofString "_channel_of", .ref ad), (Str.ofString "_vessel_of", .ref av)]
def nmD (ms : List Mk) : List (Key × V) := ms.map fun m => (Sum.inr m.nm, m.v)
/-- the world at x -/
structure WorldF (T : Top K mg) (H : Hp) (x dx ap ac ab as_ ad av : Addr) (b : Int) (mp mc mb ms : List Mk) : Prop where
  hx : H x = some (.ins T.a_World dx (fldW b ap ac ab as_ ad av))
  hp : H ap = some (.tup (mp.map Mk.v))
  hc : H ac = some (.tup (mc.map Mk.v))
  hb : H ab = some (.tup (mb.map Mk.v))
  hs : H as_ = some (.tup (ms.map Mk.v))
  hd : H ad = some (.dK (nmD mc))
  hv : H av = some (.dK (nmD (mb ++ ms)))
def WorldT (T : Top K mg) (H : Hp) (x : Addr) (b : Int) (mp mc mb ms : List Mk) : Prop := ∃ dx ap ac ab as_ ad av, WorldF T H x dx ap ac ab as_ ad av b mp mc mb ms
theorem WorldF.same {T : Top K mg} {H H' : Hp} {x dx ap ac ab as_ ad av : Addr} {b : Int} {mp mc mb ms : List Mk} (a : WorldF T H x dx ap ac ab as_ ad av b mp mc mb ms) (e : Same H H') : WorldF T H' x dx ap ac ab as_ ad av b mp mc mb ms :=
  ⟨e _ _ a.hx, e _ _ a.hp, e _ _ a.hc, e _ _ a.hb, e _ _ a.hs, e _ _ a.hd, e _ _ a.hv⟩
theorem WorldT.same {T : Top K mg} {H H' : Hp} {x : Addr} {b : Int} {mp mc mb ms : List Mk} (a : WorldT T H x b mp mc mb ms) (e : Same H H') : WorldT T H' x b mp mc mb ms := by
  obtain ⟨dx, ap, ac, ab, as_, ad, av, f⟩ := a
  exact ⟨dx, ap, ac, ab, as_, ad, av, f.same e⟩
/-- what is wanted of a world's making -/
def WantsW (T : Top K mg) (x : Addr) (vb : V) (op oc ob os : OMk) (H : Hp) (Q : VK) (E : XK) : Prop := match dueW vb op oc ob os with
  | .number => ∀ d H', Same H H' → H' d = some (.xd [(Str.ofString "found", vb)]) → E (.ref T.a_NoNumber) (some d) H'
  | .world w => ∀ d H', Same H H' → H' d = some (.xd [(Str.ofString "found", .str w)]) → E (.ref T.a_NoWorld) (some d) H'
  | .doubled n => ∀ d H', Same H H' → H' d = some (.xd [(Str.ofString "name", .str n)]) → E (.ref T.a_Doubled) (some d) H'
  | .port n => ∀ d H', Same H H' → H' d = some (.xd [(Str.ofString "found", .str n)]) → E (.ref T.a_NoPort) (some d) H'
  | .made => ∀ b H', vb = .int b → But x H H' → WorldT T H' x b (msO op) (msO oc) (msO ob) (msO os) → Q .non H'
def spInitW (T : Top K mg) : Sp := fun vs H Q E => ∃ (x dx : Addr) (vb p c b s : V) (op oc ob os : OMk), vs = [.ref x, vb, p, c, b, s] ∧ H x = some (.ins T.a_World dx []) ∧ Th H vb ∧ ArgT T H p op ∧ ArgT T H c oc ∧ ArgT T H b ob ∧ ArgT T H s os ∧ (∀ o ∈ [op, oc, ob, os], ∀ ms, o = some ms → ms.length ≤ 1000) ∧
  WantsW T x vb op oc ob os H Q E
theorem ArgT.sqO {T : Top K mg} {H : Hp} {v : V} {ms : List Mk} (a : ArgT T H v (some ms)) : ∃ p, v = .ref p ∧ SqO H p (ms.map Mk.v) ∧ ∀ m ∈ ms, MkT T H m := by
  cases a with
  | lst h m => exact ⟨_, rfl, .inl h, m⟩
  | tup h m => exact ⟨_, rfl, .inr h, m⟩
theorem nm_fld (T : Top K mg) {H : Hp} {B : V → Prop} {m : Mk} (a : MkT T H m) (h : m.isC = true ∨ m.isB = true ∨ m.isS = true) (q : B (.str m.nm)) : ∃ a C dx fs u, m.v = .ref a ∧ H a = some (.ins C dx fs) ∧ Cls K C ∧ NoAttr K C "name" ∧ fs.lookup (Str.ofString "name") = some u ∧ B u := by
  rcases h with h | h | h
  · obtain ⟨x, c, rfl⟩ := mk_isC h
    exact ch_fld T a T.na_Channel_name rfl q
  · obtain ⟨x, d, rfl, _⟩ := mk_isB h
    exact f_name T a q
  · obtain ⟨x, d, rfl, _⟩ := mk_isS h
    exact f_name T a q
theorem nm_gath (ms : List Mk) : gath (ms.map fun m => some (V.str m.nm)) = (ms.map Mk.nm).map V.str := by
  rw [show (ms.map fun m => some (V.str m.nm)) = (((ms.map Mk.nm).map V.str).map some) by simp, gath_some]
set_option maxHeartbeats 8000000 in
theorem ok_World___init__ (T : Top K mg) : FnG P w K mg base (L2.CX P w) 4 T.a_World___init__ T.d_World___init__ ["self", "begin", "ports", "channels", "breakers", "ships"] (spInitW T) := by
  have G_check_number := ok_check_number (P := P) (w := w) (base := base) T
  have G_check_kinds := ok_check_kinds (P := P) (w := w) (base := base) T
  have G_check_unlike := ok_check_unlike (P := P) (w := w) (base := base) T
  have G_check_ports := ok_check_ports (P := P) (w := w) (base := base) T
  refine okGX T.F_World___init__ sc_World___init__ (fun vs H Q E h => ?_) (fun cdv A outer s H vs Q E hr hgd h => ?_)
  · obtain ⟨x, dx, vb, p, c, b, s, op, oc, ob, os, rfl, _⟩ := h
    rfl
  · obtain ⟨x, dx, vb, p, c, b, s', op, oc, ob, os, rfl, hx, thb, ap, ac, ab, as', hz, q⟩ := h
    unfold WantsW dueW at q
    refine ⟨_, (pss_cons (ps_expr (g_callE (E := WE _) G_check_number (hr.mono (by decide)) hgd (by rfl) T.m_check_number T.F_check_number.kp T.b_check_number .nil (passAt (takes_of rfl rfl rfl rfl)) (pa_cons (pv 1) (pa_cons pe_int (pa_cons (pe_glob (v := .int 1000000) (by rfl) T.c_BEGIN_MOST ⟨_, rfl⟩) pa_nil)))))
      (pss_cons (ps_expr (g_callE (E := WE _) G_check_kinds (hr.mono (by decide)) hgd (by rfl) T.m_check_kinds T.F_check_kinds.kp T.b_check_kinds .nil (passAt (takes_of rfl rfl rfl rfl)) (pa_cons (pv 2) (pa_cons (pv 3) (pa_cons (pv 4) (pa_cons (pv 5) pa_nil))))))
      (pss_cons (ps_set (i := 6) sc_World___init__.nd rfl (by first | exact Or.inl rfl | exact Or.inr rfl) (pe_op op_cat (pe_callTy call_list_of (by rfl) T.n_list (by decide +kernel) (pa_cons (pv 4) pa_nil)) (pe_callTy call_list_of (by rfl) T.n_list (by decide +kernel) (pa_cons (pv 5) pa_nil))))
      (pss_cons (ps_expr (g_callE (E := WE _) G_check_unlike (hr.mono (by decide)) hgd (by rfl) T.m_check_unlike T.F_check_unlike.kp T.b_check_unlike .nil (passAt (takes_of rfl rfl rfl rfl)) (pa_cons (pv 2) pa_nil)))
      (pss_cons (ps_expr (g_callE (E := WE _) G_check_unlike (hr.mono (by decide)) hgd (by rfl) T.m_check_unlike T.F_check_unlike.kp T.b_check_unlike .nil (passAt (takes_of rfl rfl rfl rfl)) (pa_cons (pe_lc (own := [("each", 7)]) (g := gName 7) rfl sc_World___init__.nd (pi_seq (pv 3)) (blkOk_by (own := [("each", 7)]) (N := ["self", "begin", "ports", "channels", "breakers", "ships", "vessels", "each"]) (sc := defScope s_World___init__) (by decide +kernel)) (fun _ _ _ _ _ => (pg_name (i := 7) sc_World___init__.nd rfl (by first | exact Or.inl rfl | exact Or.inr rfl))) (fun _ _ _ _ _ => pts_nil) (fun _ _ _ _ _ => (pe_fldB (pv 7) rfl))) pa_nil)))
      (pss_cons (ps_expr (g_callE (E := WE _) G_check_unlike (hr.mono (by decide)) hgd (by rfl) T.m_check_unlike T.F_check_unlike.kp T.b_check_unlike .nil (passAt (takes_of rfl rfl rfl rfl)) (pa_cons (pe_lc (own := [("each", 7)]) (g := gName 7) rfl sc_World___init__.nd (pi_list (pv 6)) (blkOk_by (own := [("each", 7)]) (N := ["self", "begin", "ports", "channels", "breakers", "ships", "vessels", "each"]) (sc := defScope s_World___init__) (by decide +kernel)) (fun _ _ _ _ _ => (pg_name (i := 7) sc_World___init__.nd rfl (by first | exact Or.inl rfl | exact Or.inr rfl))) (fun _ _ _ _ _ => pts_nil) (fun _ _ _ _ _ => (pe_fldB (pv 7) rfl))) pa_nil)))
      (pss_cons (ps_expr (g_callE (E := WE _) G_check_ports (hr.mono (by decide)) hgd (by rfl) T.m_check_ports T.F_check_ports.kp T.b_check_ports .nil (passAt (takes_of rfl rfl rfl rfl)) (pa_cons (pv 2) (pa_cons (pv 3) (pa_cons (pv 4) (pa_cons (pv 5) pa_nil))))))
      (pss_cons (ps_fld (pv 0) (pv 1) rfl)
      (pss_cons (ps_fld (pv 0) (pe_callTy c_tupleOf (by rfl) T.n_tuple (by decide +kernel) (pa_cons (pv 2) pa_nil)) rfl)
      (pss_cons (ps_fld (pv 0) (pe_callTy c_tupleOf (by rfl) T.n_tuple (by decide +kernel) (pa_cons (pv 3) pa_nil)) rfl)
      (pss_cons (ps_fld (pv 0) (pe_callTy c_tupleOf (by rfl) T.n_tuple (by decide +kernel) (pa_cons (pv 4) pa_nil)) rfl)
      (pss_cons (ps_fld (pv 0) (pe_callTy c_tupleOf (by rfl) T.n_tuple (by decide +kernel) (pa_cons (pv 5) pa_nil)) rfl)
      (pss_cons (ps_fld (pv 0) (pe_dc (own := [("each", 7)]) (g := gName 7) rfl sc_World___init__.nd (pi_seq (pv 3)) (blkOk_by (own := [("each", 7)]) (N := ["self", "begin", "ports", "channels", "breakers", "ships", "vessels", "each"]) (sc := defScope s_World___init__) (by decide +kernel)) (fun _ _ _ _ _ => (pg_name (i := 7) sc_World___init__.nd rfl (by first | exact Or.inl rfl | exact Or.inr rfl))) (fun _ _ _ _ _ => pts_nil) (fun _ _ _ _ _ => (pe_fldB (pv 7) rfl)) (fun _ _ _ _ _ => (pv 7))) rfl)
      (pss_one (ps_fld (pv 0) (pe_dc (own := [("each", 7)]) (g := gName 7) rfl sc_World___init__.nd (pi_list (pv 6)) (blkOk_by (own := [("each", 7)]) (N := ["self", "begin", "ports", "channels", "breakers", "ships", "vessels", "each"]) (sc := defScope s_World___init__) (by decide +kernel)) (fun _ _ _ _ _ => (pg_name (i := 7) sc_World___init__.nd rfl (by first | exact Or.inl rfl | exact Or.inr rfl))) (fun _ _ _ _ _ => pts_nil) (fun _ _ _ _ _ => (pe_fldB (pv 7) rfl)) (fun _ _ _ _ _ => (pv 7))) rfl))))))))))))))), ?_⟩
    walk_at "rd"
    refine ⟨vb, 0, 1000000, rfl, thb, fun b1 => ?_, fun b1 d hd => ?_⟩
    · rw [if_neg (by rw [b1]; decide)] at q
      walk_at "rd"
      refine ⟨p, c, b, s', op, oc, ob, os, rfl, ap, ac, ab, as', hz, ?_⟩
      cases hk : kindsW op oc ob os with
      | some w =>
        rw [hk] at q
        exact q
      | none =>
        rw [hk] at q
        obtain ⟨mp, mc, mb, ms, ko⟩ := kindsW_none hk
        obtain ⟨rfl, rfl, rfl, rfl, lp, l0, lc, lb, ls, ip, ic, ib, is'⟩ := ko
        obtain ⟨pp, rfl, hP, tP⟩ := ap.sqO
        obtain ⟨pc, rfl, hC, tC⟩ := ac.sqO
        obtain ⟨pb, rfl, hB, tB⟩ := ab.sqO
        obtain ⟨ps, rfl, hS, tS⟩ := as'.sqO
        intro H1 s1
        walk_at "rd"
        refine ⟨pb, _, rfl, (hB.same s1).sq, ?_⟩
        (intro p2 hp2; generalize ep2 : upd _ p2 _ = J2; have N2 := New.of ep2 hp2; clear ep2 hp2)
        walk_at "rd"
        have s2 := s1.trans N2.same
        refine ⟨ps, _, rfl, (hS.same s2).sq, ?_⟩
        (intro p3 hp3; generalize ep3 : upd _ p3 _ = J3; have N3 := New.of ep3 hp3; clear ep3 hp3)
        walk_at "rd"
        have s3 := s2.trans N3.same
        have z1 := sz_of (n := mb.length + ms.length + 20) (by omega)
        (intro p4 hp4; generalize ep4 : upd _ p4 _ = J4; have N4 := New.of ep4 hp4; clear ep4 hp4)
        have s4 := s3.trans N4.same
        rw [← List.map_append] at N4
        have hV : SqO J4 p4 ((mb ++ ms).map Mk.v) := .inl N4.at_
        have tV : ∀ m ∈ mb ++ ms, MkT T H m ∧ (m.isC = true ∨ m.isB = true ∨ m.isS = true) := fun m hm => by
          rcases List.mem_append.mp hm with h | h
          · exact ⟨tB m h, .inr (.inl (ib m h))⟩
          · exact ⟨tS m h, .inr (.inr (is' m h))⟩
        walk_at "rd"
        refine ⟨pp, mp.map Mk.nm, rfl, ?_, by rw [List.length_map]; omega, ?_⟩
        · rw [← isN_map ip]; exact hP.same s4
        have eP : nmsO (some mp) = mp.map Mk.nm := rfl
        rw [eP] at q
        cases hd1 : firstDbl (mp.map Mk.nm) with
        | some n =>
          rw [hd1] at q
          exact fun d H' s h => q d H' (s4.trans s) h
        | none =>
        rw [hd1] at q
        intro H5 s5
        have s05 := s4.trans s5
        walk_at "rd"
        refine i_iseq ?_
        walk_at "rd"
        refine lc_gather (hC.same s05).sq (mc.map fun m => some (V.str m.nm)) (by simp) (by rw [List.length_map]; omega) ?_ ?_
        · intro i x o H' NY NN hx ho s hy hn
          obtain ⟨m, hm, _, rfl, rfl⟩ := mk_get hx ho
          walk_at "rd"
          refine nm_fld T ((tC m hm).same (s05.trans s)) (.inl (ic m hm)) ?_
          exact hy _ _ rfl (Same.refl _)
        intro D6 H6 hD6 s6 k6
        rw [nm_gath] at k6
        have s06 := s05.trans s6
        walk_at "rd"
        refine ⟨D6, mc.map Mk.nm, rfl, .inl k6, by rw [List.length_map]; omega, ?_⟩
        have eC : nmsO (some mc) = mc.map Mk.nm := rfl
        rw [eC] at q
        cases hd2 : firstDbl (mc.map Mk.nm) with
        | some n =>
          rw [hd2] at q
          exact fun d H' s h => q d H' (s06.trans s) h
        | none =>
        rw [hd2] at q
        intro H7 s7
        have s07 := s06.trans s7
        walk_at "rd"
        have hV7 : J4 p4 = some (.lst ((mb ++ ms).map Mk.v)) := N4.at_
        refine lc_gatherL (SqL.lst ((s5.trans (s6.trans s7)) _ _ hV7)) ((mb ++ ms).map fun m => some (V.str m.nm)) (by simp) (by rw [List.length_map, List.length_append]; omega) ?_ ?_
        · intro i x o H' NY NN hx ho s hy hn
          obtain ⟨m, hm, _, rfl, rfl⟩ := mk_get hx ho
          walk_at "rd"
          refine nm_fld T (((tV m hm).1).same (s07.trans s)) (tV m hm).2 ?_
          exact hy _ _ rfl (Same.refl _)
        intro D8 H8 hD8 s8 k8
        rw [nm_gath] at k8
        have s08 := s07.trans s8
        walk_at "rd"
        refine ⟨D8, (mb ++ ms).map Mk.nm, rfl, .inl k8, by rw [List.length_map, List.length_append]; omega, ?_⟩
        have eV : nmsO (some mb) ++ nmsO (some ms) = (mb ++ ms).map Mk.nm := by rw [List.map_append]; rfl
        rw [eV] at q
        cases hd3 : firstDbl ((mb ++ ms).map Mk.nm) with
        | some n =>
          rw [hd3] at q
          exact fun d H' s h => q d H' (s08.trans s) h
        | none =>
        rw [hd3] at q
        intro H9 s9
        have s09 := s08.trans s9
        walk_at "rd"
        refine ⟨pp, pc, pb, ps, mp.map Mk.nm, mc, mb, ms, rfl, ?_, hC.same s09, hB.same s09, hS.same s09, fun m hm => ⟨(tC m hm).same s09, ic m hm⟩, fun m hm => ⟨(tB m hm).same s09, ib m hm⟩, fun m hm => ⟨(tS m hm).same s09, is' m hm⟩, by omega, by omega, by omega, ?_⟩
        · rw [← isN_map ip]; exact hP.same s09
        cases hw : (wantL (some mc) (some mb) (some ms)).find? (noPort (mp.map Mk.nm)) with
        | some n =>
          rw [hw] at q
          exact fun d H' s h => q d H' (s09.trans s) h
        | none =>
        rw [hw] at q
        intro H10 s10
        have s010 := s09.trans s10
        obtain ⟨bi, rfl⟩ : ∃ i, vb = .int i := by cases vb <;> first | exact ⟨_, rfl⟩ | cases b1
        have hx10 := s010 _ _ hx
        have hV10 : H10 p4 = some (.lst ((mb ++ ms).map Mk.v)) := (s5.trans (s6.trans (s7.trans (s8.trans (s9.trans s10))))) _ _ hV7
        walk_at "rd"
        refine i_store hx10 T.cl_World T.na_World__begin (by simp) (by walk_at "fresh") ?_
        have nX : ∀ {p : Addr} {xs : List V}, SqO H10 p xs → p ≠ x := fun {p xs} h => by rintro rfl; rcases h with h | h <;> rw [hx10] at h <;> cases h
        have up : ∀ {p : Addr} {xs : List V} {H' : Hp} {o : HO}, p ≠ x → SqO H' p xs → SqO (upd H' x o) p xs := fun {p xs H' o} n h => by unfold SqO; rw [upd_ne n]; exact h
        have q10 : SqO H10 pp (mp.map Mk.v) := hP.same s010
        have c10 : SqO H10 pc (mc.map Mk.v) := hC.same s010
        have b10 : SqO H10 pb (mb.map Mk.v) := hB.same s010
        have z10 : SqO H10 ps (ms.map Mk.v) := hS.same s010
        have npx := nX q10; have ncx := nX c10; have nbx := nX b10; have nsx := nX z10
        have nvx := nX (.inl hV10)
        walk_at "rd"
        refine i_tupOf (up npx q10) fun l1 K1 t1 kp => ?_
        have kx1 := t1 _ _ upd_same
        walk_at "rd"
        refine i_store kx1 T.cl_World T.na_World__ports (by simp) (by walk_at "fresh") ?_
        have nl1 : l1 ≠ x := by rintro rfl; rw [kx1] at kp; cases kp
        have B1 : But x H10 K1 := (But.set _).trans (Ice.Same.but t1)
        walk_at "rd"
        refine i_tupOf (up ncx (c10.but ncx B1)) fun l2 K2 t2 kc => ?_
        have kx2 := t2 _ _ upd_same
        walk_at "rd"
        refine i_store kx2 T.cl_World T.na_World__channels (by simp) (by walk_at "fresh") ?_
        have nl2 : l2 ≠ x := by rintro rfl; rw [kx2] at kc; cases kc
        have B2 : But x K1 K2 := (But.set _).trans (Ice.Same.but t2)
        walk_at "rd"
        refine i_tupOf (up nbx ((b10.but nbx B1).but nbx B2)) fun l3 K3 t3 kb => ?_
        have kx3 := t3 _ _ upd_same
        walk_at "rd"
        refine i_store kx3 T.cl_World T.na_World__breakers (by simp) (by walk_at "fresh") ?_
        have nl3 : l3 ≠ x := by rintro rfl; rw [kx3] at kb; cases kb
        have B3 : But x K2 K3 := (But.set _).trans (Ice.Same.but t3)
        walk_at "rd"
        refine i_tupOf (up nsx (((z10.but nsx B1).but nsx B2).but nsx B3)) fun l4 K4 t4 ks => ?_
        have kx4 := t4 _ _ upd_same
        walk_at "rd"
        refine i_store kx4 T.cl_World T.na_World__ships (by simp) (by walk_at "fresh") ?_
        have nl4 : l4 ≠ x := by rintro rfl; rw [kx4] at ks; cases ks
        have B4 : But x K3 K4 := (But.set _).trans (Ice.Same.but t4)
        have B14 := B1.trans (B2.trans (B3.trans B4))
        have B15 := B14.trans (But.set (b := x) (HO.ins T.a_World dx ([] ++ [(Str.ofString "_begin", V.int bi)] ++ [(Str.ofString "_ports", V.ref l1)] ++ [(Str.ofString "_channels", V.ref l2)] ++ [(Str.ofString "_breakers", V.ref l3)] ++ [(Str.ofString "_ships", V.ref l4)])))
        walk_at "rd"
        refine i_dc ?_
        refine i_iseq ?_
        walk_at "rd"
        generalize e5 : upd K4 x _ = K5 at B15
        have kx5 : K5 x = some (.ins T.a_World dx ([] ++ [(Str.ofString "_begin", V.int bi)] ++ [(Str.ofString "_ports", V.ref l1)] ++ [(Str.ofString "_channels", V.ref l2)] ++ [(Str.ofString "_breakers", V.ref l3)] ++ [(Str.ofString "_ships", V.ref l4)])) := by rw [← e5]; exact upd_same
        have mB : ∀ {m : Mk}, MkT T H10 m → (m.isC = true ∨ m.isB = true ∨ m.isS = true) → MkT T K5 m := fun {m} a h => by
          rcases h with h | h | h
          · obtain ⟨y, c, rfl⟩ := mk_isC h
            obtain ⟨o, dy, hy⟩ := a
            exact ⟨o, dy, B15 _ _ (by rintro rfl; rw [hx10] at hy; have := congrArg (fun z => z) hy; injection this with h1; injection h1 with _ _ h3; exact absurd (congrArg List.length h3) (by simp [Cd.flds, fldC])) hy⟩
          · obtain ⟨y, d, rfl, dk⟩ := mk_isB h
            obtain ⟨o, dy, hy⟩ := a
            refine ⟨o, dy, B15 _ _ ?_ hy⟩
            rintro rfl
            rw [hx10] at hy; injection hy with h1; injection h1 with _ _ h3
            obtain ⟨r, er⟩ := d.flds_eq
            rw [er] at h3; cases h3
          · obtain ⟨y, d, rfl, dk⟩ := mk_isS h
            obtain ⟨o, dy, hy⟩ := a
            refine ⟨o, dy, B15 _ _ ?_ hy⟩
            rintro rfl
            rw [hx10] at hy; injection hy with h1; injection h1 with _ _ h3
            obtain ⟨r, er⟩ := d.flds_eq
            rw [er] at h3; cases h3
        refine dc_pure (c10.but ncx B15).sq (nmD mc) (by simp [nmD]) (by rw [List.length_map]; omega) (by
          have e : (nmD mc).map (·.1) = (mc.map Mk.nm).map Sum.inr := by simp [nmD]
          rw [e]
          exact (List.nodup_iff_pairwise_ne.mpr (List.pairwise_map.mpr ((List.nodup_iff_pairwise_ne.mp (dbl_nodup hd2)).imp fun n z => n (by injection z))))) ?_ ?_
        · intro i y kz H' NY NN hy' hk s hy
          obtain ⟨m, hm, hmem, rfl⟩ := mks_get hy'
          have : kz = (Sum.inr m.nm, m.v) := by
            unfold nmD at hk
            rw [List.getElem?_map, hm] at hk
            exact (Option.some.inj hk).symm
          subst this
          walk_at "rd"
          refine nm_fld T ((mB ((tC m hmem).same s010) (.inl (ic m hmem))).same s) (.inl (ic m hmem)) ?_
          walk_at "rd"
          exact hy _ (Same.refl _)
        intro D11 K6 hD11 t6 k11
        have kx6 := t6 _ _ kx5
        walk_at "rd"
        refine i_store kx6 T.cl_World T.na_World__channel_of (by simp) (by walk_at "fresh") ?_
        have nD11 : D11 ≠ x := by rintro rfl; rw [kx6] at k11; cases k11
        have B16 := B15.trans (Ice.Same.but (b := x) t6)
        generalize e7 : upd K6 x _ = K7
        have B17 : But x K6 K7 := by rw [← e7]; exact But.set _
        have kx7 : K7 x = some (.ins T.a_World dx ([] ++ [(Str.ofString "_begin", V.int bi)] ++ [(Str.ofString "_ports", V.ref l1)] ++ [(Str.ofString "_channels", V.ref l2)] ++ [(Str.ofString "_breakers", V.ref l3)] ++ [(Str.ofString "_ships", V.ref l4)] ++ [(Str.ofString "_channel_of", V.ref D11)])) := by rw [← e7]; exact upd_same
        walk_at "rd"
        refine i_dc ?_
        walk_at "rd"
        have hV17 : K7 p4 = some (.lst ((mb ++ ms).map Mk.v)) := B17 _ _ nvx (B16 _ _ nvx hV10)
        have mB7 : ∀ {m : Mk}, MkT T K5 m → (m.isC = true ∨ m.isB = true ∨ m.isS = true) → MkT T K7 m := fun {m} a h => by
          have a6 := MkT.same a t6
          rcases h with h | h | h
          · obtain ⟨y, c, rfl⟩ := mk_isC h
            obtain ⟨o, dy, hy⟩ := a6
            exact ⟨o, dy, B17 _ _ (by rintro rfl; rw [kx6] at hy; injection hy with h1; injection h1 with _ _ h3; exact absurd (congrArg List.length h3) (by simp [Cd.flds, fldC])) hy⟩
          · obtain ⟨y, d, rfl, dk⟩ := mk_isB h
            obtain ⟨o, dy, hy⟩ := a6
            refine ⟨o, dy, B17 _ _ ?_ hy⟩
            rintro rfl
            rw [kx6] at hy; injection hy with h1; injection h1 with _ _ h3
            obtain ⟨r, er⟩ := d.flds_eq
            rw [er] at h3; exact absurd (show some (Str.ofString "_begin") = some (Str.ofString "name") from congrArg (fun z => z.head?.map (·.1)) h3) (by decide +kernel)
          · obtain ⟨y, d, rfl, dk⟩ := mk_isS h
            obtain ⟨o, dy, hy⟩ := a6
            refine ⟨o, dy, B17 _ _ ?_ hy⟩
            rintro rfl
            rw [kx6] at hy; injection hy with h1; injection h1 with _ _ h3
            obtain ⟨r, er⟩ := d.flds_eq
            rw [er] at h3; exact absurd (show some (Str.ofString "_begin") = some (Str.ofString "name") from congrArg (fun z => z.head?.map (·.1)) h3) (by decide +kernel)
        refine dc_pureLI (SqL.lst hV17) (nmD (mb ++ ms)) (by simp [nmD]) (by rw [List.length_map, List.length_append]; omega) (by
          have e : (nmD (mb ++ ms)).map (·.1) = ((mb ++ ms).map Mk.nm).map Sum.inr := by unfold nmD; rw [List.map_map, List.map_map]; rfl
          rw [e]
          exact (List.nodup_iff_pairwise_ne.mpr (List.pairwise_map.mpr ((List.nodup_iff_pairwise_ne.mp (dbl_nodup hd3)).imp fun n z => n (by injection z))))) ?_ ?_
        · intro i y kz H' NY NN hy' hk s hy
          obtain ⟨m, hm, hmem, rfl⟩ := mks_get hy'
          have : kz = (Sum.inr m.nm, m.v) := by
            unfold nmD at hk
            rw [List.getElem?_map, hm] at hk
            exact (Option.some.inj hk).symm
          subst this
          walk_at "rd"
          refine nm_fld T ((mB7 (mB (((tV m hmem).1).same s010) (tV m hmem).2) (tV m hmem).2).same s) (tV m hmem).2 ?_
          walk_at "rd"
          exact hy _ (Same.refl _)
        intro D12 K8 hD12 t8 k12
        have kx8 := t8 _ _ kx7
        walk_at "rd"
        refine i_store kx8 T.cl_World T.na_World__vessel_of (by simp) (by walk_at "fresh") ?_
        have nD12 : D12 ≠ x := by rintro rfl; rw [kx8] at k12; cases k12
        have B18 : But x K6 K8 := B17.trans (Ice.Same.but t8)
        have B19 := B18.trans (But.set (b := x) (HO.ins T.a_World dx (([] ++ [(Str.ofString "_begin", V.int bi)] ++ [(Str.ofString "_ports", V.ref l1)] ++ [(Str.ofString "_channels", V.ref l2)] ++ [(Str.ofString "_breakers", V.ref l3)] ++ [(Str.ofString "_ships", V.ref l4)] ++ [(Str.ofString "_channel_of", V.ref D11)]) ++ [(Str.ofString "_vessel_of", V.ref D12)])))
        have B4s := But.set (b := x) (H := K4) (HO.ins T.a_World dx ([] ++ [(Str.ofString "_begin", V.int bi)] ++ [(Str.ofString "_ports", V.ref l1)] ++ [(Str.ofString "_channels", V.ref l2)] ++ [(Str.ofString "_breakers", V.ref l3)] ++ [(Str.ofString "_ships", V.ref l4)]))
        rw [e5] at B4s
        have B49 := B4s.trans ((Ice.Same.but (b := x) t6).trans B19)
        refine q bi _ rfl ((Ice.Same.but s010).trans (B15.trans ((Ice.Same.but (b := x) t6).trans B19))) ⟨dx, l1, l2, l3, l4, D11, D12, upd_same, ?_, ?_, ?_, ?_, ?_, ?_⟩
        · exact B49 _ _ nl1 (B4 _ _ nl1 (B3 _ _ nl1 (B2 _ _ nl1 kp)))
        · exact B49 _ _ nl2 (B4 _ _ nl2 (B3 _ _ nl2 kc))
        · exact B49 _ _ nl3 (B4 _ _ nl3 kb)
        · exact B49 _ _ nl4 ks
        · exact B19 _ _ nD11 k11
        · rw [upd_ne nD12]; exact k12
    · rw [if_pos b1] at q
      exact q d _ (Same.new _ hd) upd_same
end

end Ice

set_option Elab.async false
set_option linter.all false
set_option maxRecDepth 100000
set_option maxHeartbeats 4000000
namespace Ice
open PySem PySem.Spec PyProof.Rows L2 TL
/-! side conditions, heaps, one step of a reading, and many -/
local macro_rules | `(tactic| walk_at "hp") => `(tactic| first | assumption | exact upd_same | exact New.at_ (by assumption) | (refine keepU ?_ (by assumption); walk_at "hp") | (refine New.app (by assumption) ?_; walk_at "hp") | (refine Same.app (by assumption) ?_; walk_at "hp") | (refine But.app (by assumption) (by assumption) ?_; walk_at "hp"))
local macro_rules | `(tactic| walk_at "sq") => `(tactic| first | assumption | exact SqL.lst (by walk_at "hp") | exact L2.Same.seq (New.same (by assumption)) (by assumption) | exact L2.Same.seq (by assumption) (by assumption))
local macro_rules | `(tactic| walk_at "len") => `(tactic| first | assumption | (simp only [List.length_cons, List.length_nil, List.length_append, List.length_map]; decide) | (refine Ice.sz_of ?_; simp only [List.length_cons, List.length_nil, List.length_append, List.length_map]; omega))
local macro_rules | `(tactic| walk_at "fresh") => `(tactic| (simp only [List.map_append, List.map_cons, List.map_nil, List.nil_append, List.cons_append]; decide +kernel))
local macro_rules | `(tactic| walk_at "sd") => `(tactic| first | assumption | (show _ ≠ _; omega) | exact Or.inl ⟨by omega, by omega⟩ | exact Or.inr ⟨by omega, by omega⟩ | exact ⟨by decide, by decide⟩ | exact ⟨by decide, by decide, by decide⟩ | exact ⟨by omega, by omega, by omega⟩)
/-! one step of a reading, and many -/
local macro_rules | `(tactic| walk_at "st") => `(tactic| first
  | with_reducible refine i_seq ?_
  | with_reducible refine i_if ?_
  | with_reducible refine i_next ?_
  | with_reducible refine i_ret ?_
  | with_reducible refine i_retN ?_
  | with_reducible refine i_drop ?_
  | with_reducible refine i_asg ?_
  | with_reducible refine i_gname ?_
  | with_reducible refine i_gsub ?_
  | ((with_reducible refine i_var (v := ?vv) ?hv ?_); (case hv => exact rfl))
  | with_reducible refine i_c ?_
  | with_reducible refine i_op ?_
  | with_reducible refine i_un ?_
  | with_reducible refine i_test ?_
  | with_reducible refine i_tB ?_
  | with_reducible refine i_and ?_
  | with_reducible refine i_or ?_
  | with_reducible refine i_not ?_
  | with_reducible refine i_andV ?_
  | with_reducible refine i_orV ?_
  | with_reducible refine i_notV ?_
  | with_reducible refine i_ifE ?_
  | with_reducible refine i_chain ?_
  | with_reducible refine i_bl ?_
  | with_reducible refine i_nil ?_
  | with_reducible refine i_cons ?_
  | with_reducible refine i_call ?_
  | with_reducible refine i_cb ?_
  | with_reducible refine i_rI0 ?_
  | with_reducible refine i_rU ?_
  | ((with_reducible refine i_rEq ?hs ?_); (case hs => exact rfl))
  | ((with_reducible refine i_rNe ?hs ?_); (case hs => exact rfl))
  | ((with_reducible refine i_rI ?hc ?_); (case hc => walk_at "sd"))
  | ((with_reducible refine i_ixL (xs := ?xs) (v := ?vv) ?hS ?he ?_); (case hS => walk_at "sq"); (case he => exact rfl))
  | ((with_reducible refine i_setL (xs := ?xs) (j := ?jj) ?hS ?he ?_); (case hS => walk_at "hp"); (case he => exact rfl))
  | with_reducible refine i_tup ?_
  | with_reducible refine i_lst ?_
  | with_reducible refine i_bm ?_
  | with_reducible refine i_bm0 ?_
  | with_reducible refine i_m1 ?_
  | with_reducible refine i_sl ?_
  | with_reducible refine i_nopart ?_
  | with_reducible refine i_part ?_
  | with_reducible refine i_int ?_
  | with_reducible refine i_str ?_
  | with_reducible refine i_for ?_
  | with_reducible refine i_yes ?_
  | ((with_reducible refine i_lenL (xs := ?xs) ?hS ?_); (case hS => walk_at "sq"))
  | ((with_reducible refine i_room ?hz ?_); (case hz => walk_at "len"))
  | with_reducible refine i_leT ?_
  | with_reducible refine i_notInS ?_
  | with_reducible refine i_inS ?_
  | with_reducible refine i_find ?_
  | with_reducible refine i_isB ?_
  | with_reducible refine i_max2 ?_
  | with_reducible refine i_min2 ?_
  | with_reducible exact trivial
  | with_reducible refine iteT ?_
  | with_reducible refine iteF ?_
  | with_reducible refine i_isstr ?_
  | with_reducible refine i_lc ?_
  | ((with_reducible refine i_cat (xs := ?xs) (zs := ?zs) ?ha ?hb ?hz ?_); (case ha => walk_at "hp"); (case hb => walk_at "hp"); (case hz => walk_at "len"))
  | ((with_reducible refine i_tyL (xs := ?xs) ?ha ?_); (case ha => walk_at "hp"))
  | with_reducible refine i_list ?_
  | with_reducible refine i_disp ?_
  | with_reducible refine i_pairs0 ?_
  | with_reducible refine i_pairs ?_
  | with_reducible refine i_newK ?_
  | with_reducible refine i_gcons ?_
  | with_reducible refine i_gnil ?_
  | with_reducible refine i_revL ?_
  | with_reducible refine i_rng1 ?_
  | ((with_reducible refine i_wipe ?hw ?_); (case hw => exact rfl))
  | with_reducible refine iteNT ?_
  | with_reducible refine iteNF ?_)
local macro_rules | `(tactic| walk_at "sx") => `(tactic| first
  | walk_at "st"
  | with_reducible refine i_kinit ?_
  | with_reducible refine i_ost ?_
  | with_reducible refine i_mkO ?_
  | with_reducible refine i_callE ?_
  | with_reducible refine i_makeE ?_
  | with_reducible refine i_xf ?_
  | with_reducible refine i_sfld ?_
  | with_reducible refine i_fld ?_
  | ((with_reducible refine i_ixT (xs := ?xs) (v := ?vv) ?hS ?he ?_); (case hS => exact SqT.tup (by walk_at "hp")); (case he => exact rfl))
  | with_reducible refine i_intB ?_
  | with_reducible refine i_runS ?_
  | with_reducible refine i_runN ?_
  | ((with_reducible refine i_xf1 (fs := ?ff) (v := ?vv) ?hx ?hl ?_); (case hx => walk_at "hp"); (case hl => exact rfl))
  | with_reducible refine i_methE ?_
  | with_reducible refine i_meth ?_
  | with_reducible refine i_make ?_
  | ((with_reducible refine i_obj (dx := ?dd) (fs := ?ff) ?hx ?hl ?_); (case hx => walk_at "hp"); (case hl => exact rfl))
  | ((with_reducible refine i_fld1 (C := ?CC) (dx := ?dd) (fs := ?ff) (v := ?vv) ?hx ?cl ?na ?hl ?_); (case hx => walk_at "hp"); (case cl => assumption); (case na => assumption); (case hl => exact rfl)))
local macro_rules | `(tactic| walk_at "sy") => `(tactic| first
  | walk_at "sx"
  | with_reducible refine i_dget ?_
  | with_reducible refine i_dget2 ?_
  | with_reducible refine i_dput ?_
  | with_reducible refine i_din ?_
  | ((with_reducible refine i_aug (x := ?vv) ?hx ?_); (case hx => exact rfl)))
local macro_rules | `(tactic| walk_at "rd") => `(tactic| repeat (walk_at "sy"))

section
variable {P : Program} {w : World} {K : PySem.W.Frag} {mg : Str → Option Value} {base : Heap}
def spZero : Sp := fun vs H Q _ => ∃ x, vs = [.ref x] ∧ Q (.int 0) H
theorem ok_Vessel_thins (T : Top K mg) : FnG P w K mg base CX0 1 T.a_Vessel_thins T.d_Vessel_thins ["self"] spZero := by
  refine okG T.F_Vessel_thins sc_Vessel_thins (fun vs H Q E h => ?_) (fun cdv A outer s H vs Q E hr hgd h => ?_)
  · obtain ⟨x, rfl, _⟩ := h
    rfl
  · obtain ⟨x, rfl, q⟩ := h
    refine ⟨_, (pss_one (ps_ret pe_int)), ?_⟩
    walk_at "rd"
    exact q
def spCut (C : Addr) : Sp := fun vs H Q _ => ∃ (x dx : Addr) (fs : List (Str × V)) (v : V), vs = [.ref x] ∧ H x = some (.ins C dx fs) ∧ fs.lookup (Str.ofString "cut") = some v ∧ Q v H
theorem ok_Breaker_thins (T : Top K mg) : FnG P w K mg base CX0 1 T.a_Breaker_thins T.d_Breaker_thins ["self"] (spCut T.a_Breaker) := by
  refine okG T.F_Breaker_thins sc_Breaker_thins (fun vs H Q E h => ?_) (fun cdv A outer s H vs Q E hr hgd h => ?_)
  · obtain ⟨x, dx, fs, v, rfl, _⟩ := h
    rfl
  · obtain ⟨x, dx, fs, v, rfl, hx, hl, q⟩ := h
    refine ⟨_, (pss_one (ps_ret (pe_fld (pv 0) rfl))), ?_⟩
    walk_at "rd"
    exact ⟨x, _, dx, fs, v, rfl, hx, T.cl_Breaker, T.na_Breaker_cut, hl, q⟩

end
section
variable {P : Program} {w : World} {K : PySem.W.Frag} {mg : Str → Option Value} {base : Heap}
theorem VesL.get {T : Top K mg} {H : Hp} {L : VL} (h : VesL T.a_Vessel T.a_Breaker T.a_Ship H L) {i : Nat} {z : Addr × Vd} (hz : L[i]? = some z) : VesT T H z.1 z.2 := h z (List.mem_of_getElem? hz)
theorem i_thins (T : Top K mg) {H : Hp} {Q : VK} {E : XK} {i : Nat} {σ : L2.St} {x : Addr} {v : Vd} (h : VesT T H x v) (hx : σ[i]? = some (some (.ref x))) (q : Q (.int v.thin) H) :
    tAlt (tMeth T.a_Vessel (Str.ofString "thins") spZero [] E (tVar i) tNil) (tAlt (tMeth T.a_Breaker (Str.ofString "thins") (spCut T.a_Breaker) [] E (tVar i) tNil) (tMeth T.a_Ship (Str.ofString "thins") spZero [] E (tVar i) tNil)) σ H Q := by
  obtain ⟨_, dx, hO⟩ := h
  have hl := v.l_none.1
  unfold Vd.thin at q
  cases hk : v.k with
  | v =>
    rw [hk] at hO q
    exact .inl ⟨_, hx, x, dx, _, rfl, hO, hl, x, rfl, q⟩
  | b =>
    rw [hk] at hO q
    refine .inr (.inl ⟨_, hx, x, dx, _, rfl, hO, hl, x, dx, _, _, rfl, hO, ?_, q⟩)
    unfold Vd.flds Vd.row
    rw [hk]; rfl
  | s =>
    rw [hk] at hO q
    exact .inr (.inr ⟨_, hx, x, dx, _, rfl, hO, hl, x, rfl, q⟩)
def spStr (T : Top K mg) : Sp := fun vs H Q _ => ∃ (p : Addr) (L : VL), vs = [.ref p] ∧ (SqL K H p (refs L) ∨ SqT K H p (refs L)) ∧ 1 ≤ L.length ∧ L.length ≤ 6 ∧ VesL T.a_Vessel T.a_Breaker T.a_Ship H L ∧ ∀ m H', IsMin m (strL 0 L) → Same H H' → Q (.int m) H'
theorem ok_strength_together (T : Top K mg) : FnG P w K mg base CX0 2 T.a_strength_together T.d_strength_together ["vessels"] (spStr T) := by
  have G_Vessel_thins := ok_Vessel_thins (P := P) (w := w) (base := base) T
  have G_Breaker_thins := ok_Breaker_thins (P := P) (w := w) (base := base) T
  refine okG T.F_strength_together sc_strength_together (fun vs H Q E h => ?_) (fun cdv A outer s H vs Q E hr hgd h => ?_)
  · obtain ⟨p, L, rfl, _⟩ := h
    rfl
  · obtain ⟨p, L, rfl, hS, l1, l6, hv, q⟩ := h
    rcases hS with hS | hS
    · refine ⟨_, (pss_cons (ps_set (i := 1) sc_strength_together.nd rfl (by first | exact Or.inl rfl | exact Or.inr rfl) pe_int)
      (pss_cons (ps_set (i := 2) sc_strength_together.nd rfl (by first | exact Or.inl rfl | exact Or.inr rfl) (pe_lst pa_nil))
      (pss_cons (ps_for PassesOwn.never rfl (pi_list (pv 0)) (pg_name (i := 3) sc_strength_together.nd rfl (by first | exact Or.inl rfl | exact Or.inr rfl))
        (pss_cons (ps_expr (pe_bm PySem.F.plainAttrs_list PySem.F.slot_list_append PySem.F.type_list_append mt_append (pv 2) (pa_cons (pe_op op_add (pe_fld (pv 3) rfl) (pv 1)) pa_nil)))
      (pss_one (ps_aug (i := 1) sc_strength_together.nd rfl (by first | exact Or.inl rfl | exact Or.inr rfl) (pe_alt (g_meth0 (pv 3) T.cl_Vessel T.me_Vessel_thins G_Vessel_thins (hr.mono (by decide)) hgd T.b_Vessel_thins .nil pass0) (pe_alt (g_meth0 (pv 3) T.cl_Breaker T.me_Breaker_thins G_Breaker_thins (hr.mono (by decide)) hgd T.b_Breaker_thins .nil pass0) (g_meth0 (pv 3) T.cl_Ship T.me_Ship_thins G_Vessel_thins (hr.mono (by decide)) hgd T.b_Vessel_thins .nil pass0))) ip_add))))
      (pss_one (ps_ret (pe_callB (cr_min (by rfl)) (by rfl) T.n_min (by decide +kernel) (pa_cons (pv 2) pa_nil))))))), ?_⟩
      walk_at "rd"
      (intro D hD; generalize eD : upd _ D _ = J0; have N0 := New.of eD hD; clear eD hD)
      walk_at "rd"
      refine ⟨p, rfl, ⟨_, L2.Same.seq N0.same hS⟩, ?_⟩
      refine for_list (K := K) (a := p) (xs := refs L) (fun i σ H' => Same H H' ∧ H' D = some (.lst ((strL 0 (L.take i)).map V.int)) ∧ ∃ z, σ = [some (.ref p), some (.int (thins (L.take i))), some (.ref D), z])
        ⟨N0.same, N0.at_, _, rfl⟩ (fun i σ H' _ h => L2.Same.seq h.1 hS) ?_ ?_
      · rintro i v σ H1 hi ⟨sH, hD, z0, rfl⟩
        obtain ⟨z, hz, rfl⟩ := refs_get hi
        have vz := (hv.get hz).same sH
        walk_at "rd"
        refine f_strength T vz ?_
        walk_at "rd"
        refine i_append hD (by simp [strL_len]; omega) ?_
        walk_at "rd"
        have s1 : Same H (upd H1 D (.lst ((strL 0 (L.take i)).map V.int ++ [V.int (z.2.s + thins (L.take i))]))) := Same.upd sH N0.free
        try refine i_aug rfl ?_
        refine i_thins T ((hv.get hz).same s1) rfl ?_
        refine i_ipI ?_
        refine ⟨s1, ?_, some (.ref z.1), ?_⟩
        · rw [upd_same, take_succ_of hz, strL_app]
          simp [strL]
        · rw [take_succ_of hz, thins_app]
          have e : thins [z] = z.2.thin := by simp [thins]
          rw [e]; rfl
      · rintro σ H1 ⟨sH, hD, z0, rfl⟩
        rw [show (refs L).length = L.length by simp [refs], List.take_length] at hD
        walk_at "rd"
        refine ⟨D, _, rfl, SqL.lst hD, by rw [strL_len]; omega, fun m hm hall => ?_⟩
        exact q m H1 ⟨hm, hall⟩ sH
    · refine ⟨_, (pss_cons (ps_set (i := 1) sc_strength_together.nd rfl (by first | exact Or.inl rfl | exact Or.inr rfl) pe_int)
      (pss_cons (ps_set (i := 2) sc_strength_together.nd rfl (by first | exact Or.inl rfl | exact Or.inr rfl) (pe_lst pa_nil))
      (pss_cons (ps_for PassesOwn.never rfl (pi_tup (pv 0)) (pg_name (i := 3) sc_strength_together.nd rfl (by first | exact Or.inl rfl | exact Or.inr rfl))
        (pss_cons (ps_expr (pe_bm PySem.F.plainAttrs_list PySem.F.slot_list_append PySem.F.type_list_append mt_append (pv 2) (pa_cons (pe_op op_add (pe_fld (pv 3) rfl) (pv 1)) pa_nil)))
      (pss_one (ps_aug (i := 1) sc_strength_together.nd rfl (by first | exact Or.inl rfl | exact Or.inr rfl) (pe_alt (g_meth0 (pv 3) T.cl_Vessel T.me_Vessel_thins G_Vessel_thins (hr.mono (by decide)) hgd T.b_Vessel_thins .nil pass0) (pe_alt (g_meth0 (pv 3) T.cl_Breaker T.me_Breaker_thins G_Breaker_thins (hr.mono (by decide)) hgd T.b_Breaker_thins .nil pass0) (g_meth0 (pv 3) T.cl_Ship T.me_Ship_thins G_Vessel_thins (hr.mono (by decide)) hgd T.b_Vessel_thins .nil pass0))) ip_add))))
      (pss_one (ps_ret (pe_callB (cr_min (by rfl)) (by rfl) T.n_min (by decide +kernel) (pa_cons (pv 2) pa_nil))))))), ?_⟩
      walk_at "rd"
      (intro D hD; generalize eD : upd _ D _ = J0; have N0 := New.of eD hD; clear eD hD)
      walk_at "rd"
      refine i_tupI ?_
      walk_at "rd"
      refine ⟨p, rfl, ⟨_, seqT N0.same hS⟩, ?_⟩
      refine for_tup (K := K) (a := p) (xs := refs L) (fun i σ H' => Same H H' ∧ H' D = some (.lst ((strL 0 (L.take i)).map V.int)) ∧ ∃ z, σ = [some (.ref p), some (.int (thins (L.take i))), some (.ref D), z])
        ⟨N0.same, N0.at_, _, rfl⟩ (fun i σ H' _ h => seqT h.1 hS) ?_ ?_
      · rintro i v σ H1 hi ⟨sH, hD, z0, rfl⟩
        obtain ⟨z, hz, rfl⟩ := refs_get hi
        have vz := (hv.get hz).same sH
        walk_at "rd"
        refine f_strength T vz ?_
        walk_at "rd"
        refine i_append hD (by simp [strL_len]; omega) ?_
        walk_at "rd"
        have s1 : Same H (upd H1 D (.lst ((strL 0 (L.take i)).map V.int ++ [V.int (z.2.s + thins (L.take i))]))) := Same.upd sH N0.free
        try refine i_aug rfl ?_
        refine i_thins T ((hv.get hz).same s1) rfl ?_
        refine i_ipI ?_
        refine ⟨s1, ?_, some (.ref z.1), ?_⟩
        · rw [upd_same, take_succ_of hz, strL_app]
          simp [strL]
        · rw [take_succ_of hz, thins_app]
          have e : thins [z] = z.2.thin := by simp [thins]
          rw [e]; rfl
      · rintro σ H1 ⟨sH, hD, z0, rfl⟩
        rw [show (refs L).length = L.length by simp [refs], List.take_length] at hD
        walk_at "rd"
        refine ⟨D, _, rfl, SqL.lst hD, by rw [strL_len]; omega, fun m hm hall => ?_⟩
        exact q m H1 ⟨hm, hall⟩ sH
end
end Ice


set_option Elab.async false
set_option linter.all false
set_option maxRecDepth 100000
set_option maxHeartbeats 4000000
namespace Ice
open PySem PySem.Spec PyProof.Rows L2 TL
/-! side conditions, heaps, one step of a reading, and many -/
local macro_rules | `(tactic| walk_at "hp") => `(tactic| first | assumption | exact upd_same | exact New.at_ (by assumption) | (refine keepU ?_ (by assumption); walk_at "hp") | (refine New.app (by assumption) ?_; walk_at "hp") | (refine Same.app (by assumption) ?_; walk_at "hp") | (refine But.app (by assumption) (by assumption) ?_; walk_at "hp"))
local macro_rules | `(tactic| walk_at "sq") => `(tactic| first | assumption | exact SqL.lst (by walk_at "hp") | exact L2.Same.seq (New.same (by assumption)) (by assumption) | exact L2.Same.seq (by assumption) (by assumption))
local macro_rules | `(tactic| walk_at "len") => `(tactic| first | assumption | (simp only [List.length_cons, List.length_nil, List.length_append, List.length_map]; decide) | (refine Ice.sz_of ?_; simp only [List.length_cons, List.length_nil, List.length_append, List.length_map]; omega))
local macro_rules | `(tactic| walk_at "fresh") => `(tactic| (simp only [List.map_append, List.map_cons, List.map_nil, List.nil_append, List.cons_append]; decide +kernel))
local macro_rules | `(tactic| walk_at "sd") => `(tactic| first | assumption | (show _ ≠ _; omega) | exact Or.inl ⟨by omega, by omega⟩ | exact Or.inr ⟨by omega, by omega⟩ | exact ⟨by decide, by decide⟩ | exact ⟨by decide, by decide, by decide⟩ | exact ⟨by omega, by omega, by omega⟩)
/-! one step of a reading, and many -/
local macro_rules | `(tactic| walk_at "st") => `(tactic| first
  | with_reducible refine i_seq ?_
  | with_reducible refine i_if ?_
  | with_reducible refine i_next ?_
  | with_reducible refine i_ret ?_
  | with_reducible refine i_retN ?_
  | with_reducible refine i_drop ?_
  | with_reducible refine i_asg ?_
  | with_reducible refine i_gname ?_
  | with_reducible refine i_gsub ?_
  | ((with_reducible refine i_var (v := ?vv) ?hv ?_); (case hv => exact rfl))
  | with_reducible refine i_c ?_
  | with_reducible refine i_op ?_
  | with_reducible refine i_un ?_
  | with_reducible refine i_test ?_
  | with_reducible refine i_tB ?_
  | with_reducible refine i_and ?_
  | with_reducible refine i_or ?_
  | with_reducible refine i_not ?_
  | with_reducible refine i_andV ?_
  | with_reducible refine i_orV ?_
  | with_reducible refine i_notV ?_
  | with_reducible refine i_ifE ?_
  | with_reducible refine i_chain ?_
  | with_reducible refine i_bl ?_
  | with_reducible refine i_nil ?_
  | with_reducible refine i_cons ?_
  | with_reducible refine i_call ?_
  | with_reducible refine i_cb ?_
  | with_reducible refine i_rI0 ?_
  | with_reducible refine i_rU ?_
  | ((with_reducible refine i_rEq ?hs ?_); (case hs => exact rfl))
  | ((with_reducible refine i_rNe ?hs ?_); (case hs => exact rfl))
  | ((with_reducible refine i_rI ?hc ?_); (case hc => walk_at "sd"))
  | ((with_reducible refine i_ixL (xs := ?xs) (v := ?vv) ?hS ?he ?_); (case hS => walk_at "sq"); (case he => exact rfl))
  | ((with_reducible refine i_setL (xs := ?xs) (j := ?jj) ?hS ?he ?_); (case hS => walk_at "hp"); (case he => exact rfl))
  | with_reducible refine i_tup ?_
  | with_reducible refine i_lst ?_
  | with_reducible refine i_bm ?_
  | with_reducible refine i_bm0 ?_
  | with_reducible refine i_m1 ?_
  | with_reducible refine i_sl ?_
  | with_reducible refine i_nopart ?_
  | with_reducible refine i_part ?_
  | with_reducible refine i_int ?_
  | with_reducible refine i_str ?_
  | with_reducible refine i_for ?_
  | with_reducible refine i_yes ?_
  | ((with_reducible refine i_lenL (xs := ?xs) ?hS ?_); (case hS => walk_at "sq"))
  | ((with_reducible refine i_room ?hz ?_); (case hz => walk_at "len"))
  | with_reducible refine i_leT ?_
  | with_reducible refine i_notInS ?_
  | with_reducible refine i_inS ?_
  | with_reducible refine i_find ?_
  | with_reducible refine i_isB ?_
  | with_reducible refine i_max2 ?_
  | with_reducible refine i_min2 ?_
  | with_reducible exact trivial
  | with_reducible refine iteT ?_
  | with_reducible refine iteF ?_
  | with_reducible refine i_isstr ?_
  | with_reducible refine i_lc ?_
  | ((with_reducible refine i_cat (xs := ?xs) (zs := ?zs) ?ha ?hb ?hz ?_); (case ha => walk_at "hp"); (case hb => walk_at "hp"); (case hz => walk_at "len"))
  | ((with_reducible refine i_tyL (xs := ?xs) ?ha ?_); (case ha => walk_at "hp"))
  | with_reducible refine i_list ?_
  | with_reducible refine i_disp ?_
  | with_reducible refine i_pairs0 ?_
  | with_reducible refine i_pairs ?_
  | with_reducible refine i_newK ?_
  | with_reducible refine i_gcons ?_
  | with_reducible refine i_gnil ?_
  | with_reducible refine i_revL ?_
  | with_reducible refine i_rng1 ?_
  | ((with_reducible refine i_wipe ?hw ?_); (case hw => exact rfl))
  | with_reducible refine iteNT ?_
  | with_reducible refine iteNF ?_)
local macro_rules | `(tactic| walk_at "sx") => `(tactic| first
  | walk_at "st"
  | with_reducible refine i_kinit ?_
  | with_reducible refine i_ost ?_
  | with_reducible refine i_mkO ?_
  | with_reducible refine i_callE ?_
  | with_reducible refine i_makeE ?_
  | with_reducible refine i_xf ?_
  | with_reducible refine i_sfld ?_
  | with_reducible refine i_fld ?_
  | ((with_reducible refine i_ixT (xs := ?xs) (v := ?vv) ?hS ?he ?_); (case hS => exact SqT.tup (by walk_at "hp")); (case he => exact rfl))
  | with_reducible refine i_intB ?_
  | with_reducible refine i_runS ?_
  | with_reducible refine i_runN ?_
  | ((with_reducible refine i_xf1 (fs := ?ff) (v := ?vv) ?hx ?hl ?_); (case hx => walk_at "hp"); (case hl => exact rfl))
  | with_reducible refine i_methE ?_
  | with_reducible refine i_meth ?_
  | with_reducible refine i_make ?_
  | ((with_reducible refine i_obj (dx := ?dd) (fs := ?ff) ?hx ?hl ?_); (case hx => walk_at "hp"); (case hl => exact rfl))
  | ((with_reducible refine i_fld1 (C := ?CC) (dx := ?dd) (fs := ?ff) (v := ?vv) ?hx ?cl ?na ?hl ?_); (case hx => walk_at "hp"); (case cl => assumption); (case na => assumption); (case hl => exact rfl)))
local macro_rules | `(tactic| walk_at "sy") => `(tactic| first
  | walk_at "sx"
  | with_reducible refine i_dget ?_
  | with_reducible refine i_dget2 ?_
  | with_reducible refine i_dput ?_
  | with_reducible refine i_din ?_
  | ((with_reducible refine i_aug (x := ?vv) ?hx ?_); (case hx => exact rfl)))
local macro_rules | `(tactic| walk_at "rd") => `(tactic| repeat (walk_at "sy"))

section
variable {P : Program} {w : World} {K : PySem.W.Frag} {mg : Str → Option Value} {base : Heap}
abbrev VesLT (T : Top K mg) (H : Hp) (L : VL) : Prop := VesL T.a_Vessel T.a_Breaker T.a_Ship H L
def TrA (T : Top K mg) (H : Hp) (x : Addr) (L : VL) : Prop := ∃ (dx t : Addr) (n p : Str) (h s d : Int), H x = some (.ins T.a_Train dx ([(Str.ofString "_vessels", .ref t)] ++ fldV (.str n) (.str p) (.int h) (.int s) (.int d))) ∧ H t = some (.tup (refs L)) ∧
  (∃ z, L[0]? = some z ∧ z.2.n = n ∧ z.2.p = p) ∧ IsMax h (hoursL L) ∧ IsMax d (drL L) ∧ IsMin s (strL 0 L)
theorem TrA.same {T : Top K mg} {H H' : Hp} {x : Addr} {L : VL} (a : TrA T H x L) (e : Same H H') : TrA T H' x L := by
  obtain ⟨dx, t, n, p, h, s, d, h1, h2, r⟩ := a
  exact ⟨dx, t, n, p, h, s, d, e _ _ h1, e _ _ h2, r⟩
theorem VesL.butI {T : Top K mg} {H H' : Hp} {L : VL} {x C dx : Addr} (a : VesLT T H L) (hx : H x = some (.ins C dx [])) (e : But x H H') : VesLT T H' L := fun z hz => by
  obtain ⟨o, dz, h⟩ := a z hz
  refine ⟨o, dz, e _ _ (ne_of h hx ?_) h⟩
  intro q
  injection q with _ _ q
  obtain ⟨r, e⟩ := z.2.flds_eq
  rw [e] at q
  cases q
theorem canT_lst {T : Top K mg} {H : Hp} {p : Addr} {L : VL} (hp : H p = some (.lst (refs L))) (l1 : 1 ≤ L.length) (l6 : L.length ≤ 6) (hv : VesLT T H L) : CanT T H (.ref p) true := by
  have hl : (refs L).length = L.length := by simp [refs]
  have c := CanT.lst (T := T) (bs := List.replicate L.length true) (SqL.lst (K := K) hp) (.base (.lst hp)) (by simp [hl]) (by
    intro i x b hx hb
    obtain ⟨z, hz, rfl⟩ := refs_get hx
    have : b = true := by
      have := List.mem_of_getElem? hb
      simpa using (List.mem_replicate.mp this).2
    subst this
    exact .ves (hv.get hz))
  rw [hl, decide_eq_true (by omega : (1 : Int) ≤ L.length), decide_eq_true (by omega : (L.length : Int) ≤ 6), show (List.replicate L.length true).all id = true by simp] at c
  exact c
theorem canT_tup {T : Top K mg} {H : Hp} {p : Addr} {L : VL} (hp : H p = some (.tup (refs L))) (l1 : 1 ≤ L.length) (l6 : L.length ≤ 6) (hv : VesLT T H L) : CanT T H (.ref p) true := by
  have hl : (refs L).length = L.length := by simp [refs]
  have c := CanT.tup (T := T) (bs := List.replicate L.length true) (SqT.tup (K := K) hp) (.base (.tup hp)) (by simp [hl]) (by
    intro i x b hx hb
    obtain ⟨z, hz, rfl⟩ := refs_get hx
    have : b = true := by
      have := List.mem_of_getElem? hb
      simpa using (List.mem_replicate.mp this).2
    subst this
    exact .ves (hv.get hz))
  rw [hl, decide_eq_true (by omega : (1 : Int) ≤ L.length), decide_eq_true (by omega : (L.length : Int) ≤ 6), show (List.replicate L.length true).all id = true by simp] at c
  exact c
theorem strL_nonneg : ∀ {L : VL} {t : Int}, (∀ z ∈ L, z.2.ok) → 0 ≤ t → ∀ y ∈ strL t L, 0 ≤ y
  | [], _, _, _, y, hy => by cases hy
  | z :: r, t, h, ht, y, hy => by
    have o := h z (by simp)
    have t1 := Vd.thin_le o
    have s0 := o.five.bs.1
    rcases List.mem_cons.mp hy with e | e
    · subst e; omega
    · exact strL_nonneg (L := r) (t := t + z.2.thin) (fun u hu => h u (by simp [hu])) (by omega) y e
theorem min_bounds {L : VL} {m : Int} (h : ∀ z ∈ L, z.2.ok) (hm : IsMin m (strL 0 L)) : 0 ≤ m ∧ m ≤ 1000000 := by
  refine ⟨strL_nonneg h (by decide) m hm.1, ?_⟩
  match L, h, hm with
  | z :: r, h, hm =>
    have o := h z (by simp)
    have := hm.2 (z.2.s + 0) (by show _ ∈ (z.2.s + 0) :: _; simp)
    have := o.five.bs.2
    omega
theorem max_of {m lo hi : Int} {L : VL} {f : Vd → Int} (h : ∀ z ∈ L, z.2.ok) (hf : ∀ v : Vd, v.ok → lo ≤ f v ∧ f v ≤ hi) (hm : IsMax m (L.map fun z => f z.2)) : lo ≤ m ∧ m ≤ hi := by
  obtain ⟨z, hz, e⟩ := List.mem_map.mp hm.1
  have := hf z.2 (h z hz)
  omega
theorem map_get {L : VL} {f : Vd → Int} {i : Nat} {y : V} {z : Addr × Vd} (h : ((L.map fun z => f z.2).map V.int)[i]? = some y) (hz : L[i]? = some z) : y = .int (f z.2) := by
  rw [List.getElem?_map, List.getElem?_map, hz] at h
  exact (Option.some.inj h).symm
/-- what a train is made of -/
def spInitT (T : Top K mg) : Sp := fun vs H Q E => ∃ (x dx : Addr) (v : V), vs = [.ref x, v] ∧ H x = some (.ins T.a_Train dx []) ∧
  ((∃ (p : Addr) (L : VL), v = .ref p ∧ (H p = some (.lst (refs L)) ∨ H p = some (.tup (refs L))) ∧ 1 ≤ L.length ∧ L.length ≤ 6 ∧ VesLT T H L ∧ ∀ H', But x H H' → TrA T H' x L → Q .non H') ∨
    (CanT T H v false ∧ ∀ d H', But x H H' → H' d = some (.xd [(Str.ofString "found", v)]) → E (.ref T.a_NoKind) (some d) H'))
theorem ok_Train___init__ (T : Top K mg) : FnG P w K mg base (L2.CX P w) 5 T.a_Train___init__ T.d_Train___init__ ["self", "vessels"] (spInitT T) := by
  have G_can_be_train := ok_can_be_train (P := P) (w := w) (base := base) T
  have G_strength_together := ok_strength_together (P := P) (w := w) (base := base) T
  have G_NoKind___init__ := ok_NoKind___init__ (P := P) (w := w) (base := base) T
  have G_Vessel___init__ := ok_Vessel___init__ (P := P) (w := w) (base := base) T
  refine okGX T.F_Train___init__ sc_Train___init__ (fun vs H Q E h => ?_) (fun cdv A outer s H vs Q E hr hgd h => ?_)
  · obtain ⟨x, dx, v, rfl, _⟩ := h
    rfl
  · obtain ⟨x, dx, v, rfl, hx, q⟩ := h
    have G_NoKind___init__ := ok_NoKind___init__ (P := P) (w := w) (base := base) T
    rcases q with ⟨p, L, rfl, hp, l1, l6, hv, q⟩ | ⟨c, q⟩
    · have hlen : (refs L).length = L.length := by simp [refs]
      have knT : KnV K T.a_Train := ⟨T.cl_Train, T.na_Train_name, T.na_Train_port, T.na_Train_hour, T.na_Train_strength, T.na_Train_draught⟩
      obtain ⟨z0, hz0⟩ : ∃ z0, L[0]? = some z0 := ⟨L[0], by simp⟩
      have at0 : atI (refs L) 0 = some (.ref z0.1) := by
        have : (refs L)[0]? = some (V.ref z0.1) := by unfold refs; rw [List.getElem?_map, hz0]; rfl
        exact atI_nat (j := 0) this
      rcases hp with hp | hp
      · have px : p ≠ x := ne_of hp hx (by intro z; cases z)
        refine ⟨_, (pss_cons (ps_if (pt_not (pt_val (g_call G_can_be_train (hr.mono (by decide)) hgd (by rfl) T.m_can_be_train T.F_can_be_train.kp T.b_can_be_train .nil pass0 (pa_cons (pv 1) pa_nil))))
        (pss_one (ps_raise rfl (takes_of rfl rfl rfl rfl) (pmk_oex T.ox_NoKind T.in_NoKind T.tf_NoKind G_NoKind___init__ (hr.mono (by decide)) T.b_NoKind___init__ .nil pass0 (by rfl) T.c_NoKind (pa_cons (pv 1) pa_nil))))
        pss_nil)
      (pss_cons (ps_fld (pv 0) (pe_callTy call_tuple_of (by rfl) T.n_tuple (by decide +kernel) (pa_cons (pv 1) pa_nil)) rfl)
      (pss_cons (ps_set (i := 2) sc_Train___init__.nd rfl (by first | exact Or.inl rfl | exact Or.inr rfl) (pe_ix ix_list (pv 1) pe_int (fun _ _ => rfl)))
      (pss_cons (ps_set (i := 3) sc_Train___init__.nd rfl (by first | exact Or.inl rfl | exact Or.inr rfl) (pe_callB (cr_max (by rfl)) (by rfl) T.n_max (by decide +kernel) (pa_cons (pe_lc (own := [("vessel", 5)]) (g := gName 5) rfl sc_Train___init__.nd (pi_list (pv 1)) (blkOk_by (own := [("vessel", 5)]) (N := ["self", "vessels", "leader", "hour", "draught", "vessel"]) (sc := defScope s_Train___init__) (by decide +kernel)) (fun _ _ _ _ _ => (pg_name (i := 5) sc_Train___init__.nd rfl (by first | exact Or.inl rfl | exact Or.inr rfl))) (fun _ _ _ _ _ => pts_nil) (fun _ _ _ _ _ => (pe_fldB (pv 5) rfl))) pa_nil)))
      (pss_cons (ps_set (i := 4) sc_Train___init__.nd rfl (by first | exact Or.inl rfl | exact Or.inr rfl) (pe_callB (cr_max (by rfl)) (by rfl) T.n_max (by decide +kernel) (pa_cons (pe_lc (own := [("vessel", 5)]) (g := gName 5) rfl sc_Train___init__.nd (pi_list (pv 1)) (blkOk_by (own := [("vessel", 5)]) (N := ["self", "vessels", "leader", "hour", "draught", "vessel"]) (sc := defScope s_Train___init__) (by decide +kernel)) (fun _ _ _ _ _ => (pg_name (i := 5) sc_Train___init__.nd rfl (by first | exact Or.inl rfl | exact Or.inr rfl))) (fun _ _ _ _ _ => pts_nil) (fun _ _ _ _ _ => (pe_fldB (pv 5) rfl))) pa_nil)))
      (pss_one (ps_expr (g_kinitE (E := WE _) T.ki_Vessel G_Vessel___init__ (hr.mono (by decide)) hgd (by rfl) T.c_Vessel T.b_Vessel___init__ .nil (passAt (takes_of rfl rfl rfl rfl)) (pa_cons (pv 0) (pa_cons (pe_fld (pv 2) rfl) (pa_cons (pe_fld (pv 2) rfl) (pa_cons (pv 3) (pa_cons (g_call G_strength_together (hr.mono (by decide)) hgd (by rfl) T.m_strength_together T.F_strength_together.kp T.b_strength_together .nil pass0 (pa_cons (pv 1) pa_nil)) (pa_cons (pv 4) pa_nil)))))))))))))), ?_⟩
        walk_at "rd"
        refine ⟨_, true, rfl, canT_lst hp l1 l6 hv, fun H1 s1 => ?_⟩
        walk_at "rd"
        refine ⟨p, refs L, rfl, .inl ⟨SqL.lst (s1 _ _ hp), ?_⟩⟩
        (intro t ht; generalize et : upd _ t _ = J; have N := New.of et ht; clear et ht)
        walk_at "rd"
        have kx0 := N.app (s1 _ _ hx)
        have kt0 := N.at_
        have e0 : But x H J := Ice.Same.but (s1.trans N.same)
        have tx : t ≠ x := ne_of kt0 kx0 (by intro z; cases z)
        refine i_store kx0 T.cl_Train T.na_Train__vessels (by simp) (by walk_at "fresh") ?_
        generalize eX : upd _ x (HO.ins T.a_Train dx ([] ++ [(Str.ofString "_vessels", V.ref t)])) = JX
        have kx1 : JX x = some (.ins T.a_Train dx [(Str.ofString "_vessels", V.ref t)]) := by rw [← eX]; exact upd_same
        have e1 : But x H JX := fun a o na ha => by rw [← eX, upd_ne na]; exact e0 a o na ha
        have kt1 : JX t = some (.tup (refs L)) := by rw [← eX, upd_ne tx]; exact kt0
        clear eX
        have kp1 := e1 p _ px hp
        have hv1 := hv.butI hx e1
        walk_at "rd"
        refine i_ixL (SqL.lst kp1) at0 ?_
        walk_at "rd"
        refine ⟨p, rfl, ⟨_, SqL.lst kp1⟩, fun D1 hD1 => ?_⟩
        refine lc_pureL (ys := (hoursL L).map V.int) (by simp [hoursL, refs]) (by omega) (SqL.lst kp1) hD1 (fun i v y Hi N' M' hi hy sm hN => ?_) ?_
        · obtain ⟨z, hz, rfl⟩ := refs_get hi
          walk_at "rd"
          refine f_hour T ((hv1.get hz).same sm) ?_
          rw [map_get hy hz] at hN
          exact hN
        generalize eH : upd _ D1 (HO.lst ((hoursL L).map V.int)) = J2
        have N2 := New.of eH hD1
        walk_at "rd"
        refine ⟨D1, hoursL L, rfl, SqL.lst N2.at_, by simp [hoursL]; omega, fun mh mh1 mh2 => ?_⟩
        walk_at "rd"
        have kp2 := N2.app kp1
        have hv2 := hv1.same N2.same
        refine ⟨p, rfl, ⟨_, SqL.lst kp2⟩, fun D2 hD2 => ?_⟩
        refine lc_pureL (ys := (drL L).map V.int) (by simp [drL, refs]) (by omega) (SqL.lst kp2) hD2 (fun i v y Hi N' M' hi hy sm hN => ?_) ?_
        · obtain ⟨z, hz, rfl⟩ := refs_get hi
          walk_at "rd"
          refine f_draught T ((hv2.get hz).same sm) ?_
          rw [map_get hy hz] at hN
          exact hN
        generalize eH2 : upd _ D2 (HO.lst ((drL L).map V.int)) = J3
        have N3 := New.of eH2 hD2
        walk_at "rd"
        refine ⟨D2, drL L, rfl, SqL.lst N3.at_, by simp [drL]; omega, fun md md1 md2 => ?_⟩
        walk_at "rd"
        have hv3 := hv2.same N3.same
        have vz0 := hv3.get hz0
        refine f_name T vz0 ?_
        walk_at "rd"
        refine f_port T vz0 ?_
        walk_at "rd"
        refine ⟨p, L, rfl, .inl (SqL.lst (N3.app kp2)), l1, l6, hv3, fun m H4 hm s4 => ?_⟩
        walk_at "rd"
        have s14 : Same JX H4 := N2.same.trans (N3.same.trans s4)
        have o0 := vz0.1.five
        have bh := max_of (f := Vd.h) hv.ok (fun v o => o.five.bh) ⟨mh1, mh2⟩
        have bd := max_of (f := Vd.d) hv.ok (fun v o => o.five.bd) ⟨md1, md2⟩
        have bs := min_bounds hv.ok hm
        refine ⟨x, T.a_Train, dx, _, _, _, _, _, [(Str.ofString "_vessels", V.ref t)], rfl, s14 _ _ kx1, .inr ⟨_, rfl⟩, knT, ?_, ?_⟩
        · intro v hv
          simp only [List.mem_cons, List.not_mem_nil, or_false] at hv
          rcases hv with rfl | rfl | rfl | rfl | rfl
          · exact name_th _ o0.nn
          · exact name_th _ o0.np
          all_goals exact .inr ⟨_, .int _⟩
        rw [(show Five z0.2.n z0.2.p mh m md from ⟨o0.nn, o0.np, bh, bs, bd⟩).made]
        intro H5 b5 k5
        refine q H5 (fun a o na ha => b5 a o na (s14 _ _ (e1 a o na ha))) ⟨dx, t, _, _, _, _, _, k5, b5 _ _ tx (s14 _ _ kt1), ⟨z0, hz0, rfl, rfl⟩, ⟨mh1, mh2⟩, ⟨md1, md2⟩, hm⟩
      · have px : p ≠ x := ne_of hp hx (by intro z; cases z)
        refine ⟨_, (pss_cons (ps_if (pt_not (pt_val (g_call G_can_be_train (hr.mono (by decide)) hgd (by rfl) T.m_can_be_train T.F_can_be_train.kp T.b_can_be_train .nil pass0 (pa_cons (pv 1) pa_nil))))
        (pss_one (ps_raise rfl (takes_of rfl rfl rfl rfl) (pmk_oex T.ox_NoKind T.in_NoKind T.tf_NoKind G_NoKind___init__ (hr.mono (by decide)) T.b_NoKind___init__ .nil pass0 (by rfl) T.c_NoKind (pa_cons (pv 1) pa_nil))))
        pss_nil)
      (pss_cons (ps_fld (pv 0) (pe_callTy call_tuple_of (by rfl) T.n_tuple (by decide +kernel) (pa_cons (pv 1) pa_nil)) rfl)
      (pss_cons (ps_set (i := 2) sc_Train___init__.nd rfl (by first | exact Or.inl rfl | exact Or.inr rfl) (pe_ix ix_tup (pv 1) pe_int (fun _ _ => rfl)))
      (pss_cons (ps_set (i := 3) sc_Train___init__.nd rfl (by first | exact Or.inl rfl | exact Or.inr rfl) (pe_callB (cr_max (by rfl)) (by rfl) T.n_max (by decide +kernel) (pa_cons (pe_lc (own := [("vessel", 5)]) (g := gName 5) rfl sc_Train___init__.nd (pi_tup (pv 1)) (blkOk_by (own := [("vessel", 5)]) (N := ["self", "vessels", "leader", "hour", "draught", "vessel"]) (sc := defScope s_Train___init__) (by decide +kernel)) (fun _ _ _ _ _ => (pg_name (i := 5) sc_Train___init__.nd rfl (by first | exact Or.inl rfl | exact Or.inr rfl))) (fun _ _ _ _ _ => pts_nil) (fun _ _ _ _ _ => (pe_fldB (pv 5) rfl))) pa_nil)))
      (pss_cons (ps_set (i := 4) sc_Train___init__.nd rfl (by first | exact Or.inl rfl | exact Or.inr rfl) (pe_callB (cr_max (by rfl)) (by rfl) T.n_max (by decide +kernel) (pa_cons (pe_lc (own := [("vessel", 5)]) (g := gName 5) rfl sc_Train___init__.nd (pi_tup (pv 1)) (blkOk_by (own := [("vessel", 5)]) (N := ["self", "vessels", "leader", "hour", "draught", "vessel"]) (sc := defScope s_Train___init__) (by decide +kernel)) (fun _ _ _ _ _ => (pg_name (i := 5) sc_Train___init__.nd rfl (by first | exact Or.inl rfl | exact Or.inr rfl))) (fun _ _ _ _ _ => pts_nil) (fun _ _ _ _ _ => (pe_fldB (pv 5) rfl))) pa_nil)))
      (pss_one (ps_expr (g_kinitE (E := WE _) T.ki_Vessel G_Vessel___init__ (hr.mono (by decide)) hgd (by rfl) T.c_Vessel T.b_Vessel___init__ .nil (passAt (takes_of rfl rfl rfl rfl)) (pa_cons (pv 0) (pa_cons (pe_fld (pv 2) rfl) (pa_cons (pe_fld (pv 2) rfl) (pa_cons (pv 3) (pa_cons (g_call G_strength_together (hr.mono (by decide)) hgd (by rfl) T.m_strength_together T.F_strength_together.kp T.b_strength_together .nil pass0 (pa_cons (pv 1) pa_nil)) (pa_cons (pv 4) pa_nil)))))))))))))), ?_⟩
        walk_at "rd"
        refine ⟨_, true, rfl, canT_tup hp l1 l6 hv, fun H1 s1 => ?_⟩
        walk_at "rd"
        have kx0 := s1 _ _ hx
        have kt0 := s1 _ _ hp
        have e0 : But x H H1 := Ice.Same.but s1
        refine ⟨p, refs L, rfl, .inr ⟨SqT.tup kt0, ?_⟩⟩
        walk_at "rd"
        have tx : p ≠ x := ne_of kt0 kx0 (by intro z; cases z)
        refine i_store kx0 T.cl_Train T.na_Train__vessels (by simp) (by walk_at "fresh") ?_
        generalize eX : upd _ x (HO.ins T.a_Train dx ([] ++ [(Str.ofString "_vessels", V.ref p)])) = JX
        have kx1 : JX x = some (.ins T.a_Train dx [(Str.ofString "_vessels", V.ref p)]) := by rw [← eX]; exact upd_same
        have e1 : But x H JX := fun a o na ha => by rw [← eX, upd_ne na]; exact e0 a o na ha
        have kt1 : JX p = some (.tup (refs L)) := by rw [← eX, upd_ne tx]; exact kt0
        clear eX
        have kp1 := e1 p _ px hp
        have hv1 := hv.butI hx e1
        walk_at "rd"
        refine i_ixT (SqT.tup kp1) at0 ?_
        walk_at "rd"
        refine i_tupI ?_
        walk_at "rd"
        refine ⟨p, rfl, ⟨_, SqT.tup kp1⟩, fun D1 hD1 => ?_⟩
        refine lc_pureT (ys := (hoursL L).map V.int) (by simp [hoursL, refs]) (by omega) (SqT.tup kp1) hD1 (fun i v y Hi N' M' hi hy sm hN => ?_) ?_
        · obtain ⟨z, hz, rfl⟩ := refs_get hi
          walk_at "rd"
          refine f_hour T ((hv1.get hz).same sm) ?_
          rw [map_get hy hz] at hN
          exact hN
        generalize eH : upd _ D1 (HO.lst ((hoursL L).map V.int)) = J2
        have N2 := New.of eH hD1
        walk_at "rd"
        refine ⟨D1, hoursL L, rfl, SqL.lst N2.at_, by simp [hoursL]; omega, fun mh mh1 mh2 => ?_⟩
        walk_at "rd"
        have kp2 := N2.app kp1
        have hv2 := hv1.same N2.same
        refine i_tupI ?_
        walk_at "rd"
        refine ⟨p, rfl, ⟨_, SqT.tup kp2⟩, fun D2 hD2 => ?_⟩
        refine lc_pureT (ys := (drL L).map V.int) (by simp [drL, refs]) (by omega) (SqT.tup kp2) hD2 (fun i v y Hi N' M' hi hy sm hN => ?_) ?_
        · obtain ⟨z, hz, rfl⟩ := refs_get hi
          walk_at "rd"
          refine f_draught T ((hv2.get hz).same sm) ?_
          rw [map_get hy hz] at hN
          exact hN
        generalize eH2 : upd _ D2 (HO.lst ((drL L).map V.int)) = J3
        have N3 := New.of eH2 hD2
        walk_at "rd"
        refine ⟨D2, drL L, rfl, SqL.lst N3.at_, by simp [drL]; omega, fun md md1 md2 => ?_⟩
        walk_at "rd"
        have hv3 := hv2.same N3.same
        have vz0 := hv3.get hz0
        refine f_name T vz0 ?_
        walk_at "rd"
        refine f_port T vz0 ?_
        walk_at "rd"
        refine ⟨p, L, rfl, .inr (SqT.tup (N3.app kp2)), l1, l6, hv3, fun m H4 hm s4 => ?_⟩
        walk_at "rd"
        have s14 : Same JX H4 := N2.same.trans (N3.same.trans s4)
        have o0 := vz0.1.five
        have bh := max_of (f := Vd.h) hv.ok (fun v o => o.five.bh) ⟨mh1, mh2⟩
        have bd := max_of (f := Vd.d) hv.ok (fun v o => o.five.bd) ⟨md1, md2⟩
        have bs := min_bounds hv.ok hm
        refine ⟨x, T.a_Train, dx, _, _, _, _, _, [(Str.ofString "_vessels", V.ref p)], rfl, s14 _ _ kx1, .inr ⟨_, rfl⟩, knT, ?_, ?_⟩
        · intro v hv
          simp only [List.mem_cons, List.not_mem_nil, or_false] at hv
          rcases hv with rfl | rfl | rfl | rfl | rfl
          · exact name_th _ o0.nn
          · exact name_th _ o0.np
          all_goals exact .inr ⟨_, .int _⟩
        rw [(show Five z0.2.n z0.2.p mh m md from ⟨o0.nn, o0.np, bh, bs, bd⟩).made]
        intro H5 b5 k5
        refine q H5 (fun a o na ha => b5 a o na (s14 _ _ (e1 a o na ha))) ⟨dx, p, _, _, _, _, _, k5, b5 _ _ tx (s14 _ _ kt1), ⟨z0, hz0, rfl, rfl⟩, ⟨mh1, mh2⟩, ⟨md1, md2⟩, hm⟩
    · refine ⟨_, (pss_cons (ps_if (pt_not (pt_val (g_call G_can_be_train (hr.mono (by decide)) hgd (by rfl) T.m_can_be_train T.F_can_be_train.kp T.b_can_be_train .nil pass0 (pa_cons (pv 1) pa_nil))))
        (pss_one (ps_raise rfl (takes_of rfl rfl rfl rfl) (pmk_oex T.ox_NoKind T.in_NoKind T.tf_NoKind G_NoKind___init__ (hr.mono (by decide)) T.b_NoKind___init__ .nil pass0 (by rfl) T.c_NoKind (pa_cons (pv 1) pa_nil))))
        pss_nil)
      (pss_cons (ps_fld (pv 0) (pe_callTy call_tuple_of (by rfl) T.n_tuple (by decide +kernel) (pa_cons (pv 1) pa_nil)) rfl)
      (pss_cons (ps_set (i := 2) sc_Train___init__.nd rfl (by first | exact Or.inl rfl | exact Or.inr rfl) (pe_ix ix_list (pv 1) pe_int (fun _ _ => rfl)))
      (pss_cons (ps_set (i := 3) sc_Train___init__.nd rfl (by first | exact Or.inl rfl | exact Or.inr rfl) (pe_callB (cr_max (by rfl)) (by rfl) T.n_max (by decide +kernel) (pa_cons (pe_lc (own := [("vessel", 5)]) (g := gName 5) rfl sc_Train___init__.nd (pi_list (pv 1)) (blkOk_by (own := [("vessel", 5)]) (N := ["self", "vessels", "leader", "hour", "draught", "vessel"]) (sc := defScope s_Train___init__) (by decide +kernel)) (fun _ _ _ _ _ => (pg_name (i := 5) sc_Train___init__.nd rfl (by first | exact Or.inl rfl | exact Or.inr rfl))) (fun _ _ _ _ _ => pts_nil) (fun _ _ _ _ _ => (pe_fldB (pv 5) rfl))) pa_nil)))
      (pss_cons (ps_set (i := 4) sc_Train___init__.nd rfl (by first | exact Or.inl rfl | exact Or.inr rfl) (pe_callB (cr_max (by rfl)) (by rfl) T.n_max (by decide +kernel) (pa_cons (pe_lc (own := [("vessel", 5)]) (g := gName 5) rfl sc_Train___init__.nd (pi_list (pv 1)) (blkOk_by (own := [("vessel", 5)]) (N := ["self", "vessels", "leader", "hour", "draught", "vessel"]) (sc := defScope s_Train___init__) (by decide +kernel)) (fun _ _ _ _ _ => (pg_name (i := 5) sc_Train___init__.nd rfl (by first | exact Or.inl rfl | exact Or.inr rfl))) (fun _ _ _ _ _ => pts_nil) (fun _ _ _ _ _ => (pe_fldB (pv 5) rfl))) pa_nil)))
      (pss_one (ps_expr (g_kinitE (E := WE _) T.ki_Vessel G_Vessel___init__ (hr.mono (by decide)) hgd (by rfl) T.c_Vessel T.b_Vessel___init__ .nil (passAt (takes_of rfl rfl rfl rfl)) (pa_cons (pv 0) (pa_cons (pe_fld (pv 2) rfl) (pa_cons (pe_fld (pv 2) rfl) (pa_cons (pv 3) (pa_cons (g_call G_strength_together (hr.mono (by decide)) hgd (by rfl) T.m_strength_together T.F_strength_together.kp T.b_strength_together .nil pass0 (pa_cons (pv 1) pa_nil)) (pa_cons (pv 4) pa_nil)))))))))))))), ?_⟩
      walk_at "rd"
      refine ⟨v, false, rfl, c, fun H1 s1 => ?_⟩
      walk_at "rd"
      exact i_mkE T.ox_NoKind T.nf_NoKind_found (fun d hd => q d _ (Ice.Same.but (s1.trans (Same.new _ hd))) upd_same)
def spTrK (T : Top K mg) : Sp := fun vs H Q _ => ∃ x, vs = [.ref x] ∧ Q (.str (Str.ofString "train")) H
theorem ok_Train_kind (T : Top K mg) : FnG P w K mg base CX0 1 T.a_Train_kind T.d_Train_kind ["self"] (spTrK T) := by
  refine okG T.F_Train_kind sc_Train_kind (fun vs H Q E h => ?_) (fun cdv A outer s H vs Q E hr hgd h => ?_)
  · obtain ⟨x, rfl, _⟩ := h
    rfl
  · obtain ⟨x, rfl, q⟩ := h
    refine ⟨_, (pss_one (ps_ret pe_str)), ?_⟩
    walk_at "rd"
    exact q
end
end Ice


set_option Elab.async false
set_option linter.all false
set_option maxRecDepth 100000
set_option maxHeartbeats 4000000
namespace Ice
open PySem PySem.Spec PyProof.Rows L2 TL
/-! side conditions, heaps, one step of a reading, and many -/
local macro_rules | `(tactic| walk_at "hp") => `(tactic| first | assumption | exact upd_same | exact New.at_ (by assumption) | (refine keepU ?_ (by assumption); walk_at "hp") | (refine New.app (by assumption) ?_; walk_at "hp") | (refine Same.app (by assumption) ?_; walk_at "hp") | (refine But.app (by assumption) (by assumption) ?_; walk_at "hp"))
local macro_rules | `(tactic| walk_at "sq") => `(tactic| first | assumption | exact SqL.lst (by walk_at "hp") | exact L2.Same.seq (New.same (by assumption)) (by assumption) | exact L2.Same.seq (by assumption) (by assumption))
local macro_rules | `(tactic| walk_at "len") => `(tactic| first | assumption | (simp only [List.length_cons, List.length_nil, List.length_append, List.length_map]; decide) | (refine Ice.sz_of ?_; simp only [List.length_cons, List.length_nil, List.length_append, List.length_map]; omega))
local macro_rules | `(tactic| walk_at "fresh") => `(tactic| (simp only [List.map_append, List.map_cons, List.map_nil, List.nil_append, List.cons_append]; decide +kernel))
local macro_rules | `(tactic| walk_at "sd") => `(tactic| first | assumption | (show _ ≠ _; omega) | exact Or.inl ⟨by omega, by omega⟩ | exact Or.inr ⟨by omega, by omega⟩ | exact ⟨by decide, by decide⟩ | exact ⟨by decide, by decide, by decide⟩ | exact ⟨by omega, by omega, by omega⟩)
/-! one step of a reading, and many -/
local macro_rules | `(tactic| walk_at "st") => `(tactic| first
  | with_reducible refine i_seq ?_
  | with_reducible refine i_if ?_
  | with_reducible refine i_next ?_
  | with_reducible refine i_ret ?_
  | with_reducible refine i_retN ?_
  | with_reducible refine i_drop ?_
  | with_reducible refine i_asg ?_
  | with_reducible refine i_gname ?_
  | with_reducible refine i_gsub ?_
  | ((with_reducible refine i_var (v := ?vv) ?hv ?_); (case hv => exact rfl))
  | with_reducible refine i_c ?_
  | with_reducible refine i_op ?_
  | with_reducible refine i_un ?_
  | with_reducible refine i_test ?_
  | with_reducible refine i_tB ?_
  | with_reducible refine i_and ?_
  | with_reducible refine i_or ?_
  | with_reducible refine i_not ?_
  | with_reducible refine i_andV ?_
  | with_reducible refine i_orV ?_
  | with_reducible refine i_notV ?_
  | with_reducible refine i_ifE ?_
  | with_reducible refine i_chain ?_
  | with_reducible refine i_bl ?_
  | with_reducible refine i_nil ?_
  | with_reducible refine i_cons ?_
  | with_reducible refine i_call ?_
  | with_reducible refine i_cb ?_
  | with_reducible refine i_rI0 ?_
  | with_reducible refine i_rU ?_
  | ((with_reducible refine i_rEq ?hs ?_); (case hs => exact rfl))
  | ((with_reducible refine i_rNe ?hs ?_); (case hs => exact rfl))
  | ((with_reducible refine i_rI ?hc ?_); (case hc => walk_at "sd"))
  | ((with_reducible refine i_ixL (xs := ?xs) (v := ?vv) ?hS ?he ?_); (case hS => walk_at "sq"); (case he => exact rfl))
  | ((with_reducible refine i_setL (xs := ?xs) (j := ?jj) ?hS ?he ?_); (case hS => walk_at "hp"); (case he => exact rfl))
  | with_reducible refine i_tup ?_
  | with_reducible refine i_lst ?_
  | with_reducible refine i_bm ?_
  | with_reducible refine i_bm0 ?_
  | with_reducible refine i_m1 ?_
  | with_reducible refine i_sl ?_
  | with_reducible refine i_nopart ?_
  | with_reducible refine i_part ?_
  | with_reducible refine i_int ?_
  | with_reducible refine i_str ?_
  | with_reducible refine i_for ?_
  | with_reducible refine i_yes ?_
  | ((with_reducible refine i_lenL (xs := ?xs) ?hS ?_); (case hS => walk_at "sq"))
  | ((with_reducible refine i_room ?hz ?_); (case hz => walk_at "len"))
  | with_reducible refine i_leT ?_
  | with_reducible refine i_notInS ?_
  | with_reducible refine i_inS ?_
  | with_reducible refine i_find ?_
  | with_reducible refine i_isB ?_
  | with_reducible refine i_max2 ?_
  | with_reducible refine i_min2 ?_
  | with_reducible exact trivial
  | with_reducible refine iteT ?_
  | with_reducible refine iteF ?_
  | with_reducible refine i_isstr ?_
  | with_reducible refine i_lc ?_
  | ((with_reducible refine i_cat (xs := ?xs) (zs := ?zs) ?ha ?hb ?hz ?_); (case ha => walk_at "hp"); (case hb => walk_at "hp"); (case hz => walk_at "len"))
  | ((with_reducible refine i_tyL (xs := ?xs) ?ha ?_); (case ha => walk_at "hp"))
  | with_reducible refine i_list ?_
  | with_reducible refine i_disp ?_
  | with_reducible refine i_pairs0 ?_
  | with_reducible refine i_pairs ?_
  | with_reducible refine i_newK ?_
  | with_reducible refine i_gcons ?_
  | with_reducible refine i_gnil ?_
  | with_reducible refine i_revL ?_
  | with_reducible refine i_rng1 ?_
  | ((with_reducible refine i_wipe ?hw ?_); (case hw => exact rfl))
  | with_reducible refine iteNT ?_
  | with_reducible refine iteNF ?_)
local macro_rules | `(tactic| walk_at "sx") => `(tactic| first
  | walk_at "st"
  | with_reducible refine i_kinit ?_
  | with_reducible refine i_ost ?_
  | with_reducible refine i_mkO ?_
  | with_reducible refine i_callE ?_
  | with_reducible refine i_makeE ?_
  | with_reducible refine i_xf ?_
  | with_reducible refine i_sfld ?_
  | with_reducible refine i_fld ?_
  | ((with_reducible refine i_ixT (xs := ?xs) (v := ?vv) ?hS ?he ?_); (case hS => exact SqT.tup (by walk_at "hp")); (case he => exact rfl))
  | with_reducible refine i_intB ?_
  | with_reducible refine i_runS ?_
  | with_reducible refine i_runN ?_
  | ((with_reducible refine i_xf1 (fs := ?ff) (v := ?vv) ?hx ?hl ?_); (case hx => walk_at "hp"); (case hl => exact rfl))
  | with_reducible refine i_methE ?_
  | with_reducible refine i_meth ?_
  | with_reducible refine i_make ?_
  | ((with_reducible refine i_obj (dx := ?dd) (fs := ?ff) ?hx ?hl ?_); (case hx => walk_at "hp"); (case hl => exact rfl))
  | ((with_reducible refine i_fld1 (C := ?CC) (dx := ?dd) (fs := ?ff) (v := ?vv) ?hx ?cl ?na ?hl ?_); (case hx => walk_at "hp"); (case cl => assumption); (case na => assumption); (case hl => exact rfl)))
local macro_rules | `(tactic| walk_at "sy") => `(tactic| first
  | walk_at "sx"
  | with_reducible refine i_dget ?_
  | with_reducible refine i_dget2 ?_
  | with_reducible refine i_dput ?_
  | with_reducible refine i_din ?_
  | ((with_reducible refine i_aug (x := ?vv) ?hx ?_); (case hx => exact rfl)))
local macro_rules | `(tactic| walk_at "rd") => `(tactic| repeat (walk_at "sy"))

section
variable {P : Program} {w : World} {K : PySem.W.Frag} {mg : Str → Option Value} {base : Heap}
def spChRow : Sp := fun vs H Q _ => ∃ (b : Addr) (x y z : V) (n : Nat), vs = [.ref b, x, y, z] ∧ Box H b n ∧ n ≤ 700 ∧ ∀ (p : Addr) (h d f g m : Int) (H' : Hp), H p = none → But b H H' → Box H' b (n + 10) →
  H' p = some (.tup [x, y, z, .int h, .int d, .int f, .int g, .int m]) → (1 ≤ h ∧ h ≤ 1000) → (0 ≤ d ∧ d ≤ 1000) → (0 ≤ f ∧ f ≤ 1000000) → (0 ≤ g ∧ g ≤ 1000) → (f ≤ m ∧ m ≤ 1000000) → Q (.ref p) H'
theorem ok_channel_row (T : Top K mg) : FnG P w K mg base CX0 3 T.a_channel_row T.d_channel_row ["_law_box_here", "_law_name", "_law_one", "_law_other"] spChRow := by
  have G_number := ok_number (P := P) (w := w) (base := base) T
  refine okG T.F_channel_row sc_channel_row (fun vs H Q E h => ?_) (fun cdv A outer s H vs Q E hr hgd h => ?_)
  · obtain ⟨b, x, y, z, n, rfl, _⟩ := h
    rfl
  · obtain ⟨b, x, y, z, n, rfl, hB, hn, q⟩ := h
    refine ⟨_, (pss_cons (ps_set (i := 4) sc_channel_row.nd rfl (by first | exact Or.inl rfl | exact Or.inr rfl) (g_call G_number (hr.mono (by decide)) hgd (by rfl) T.m_number T.F_number.kp T.b_number .nil pass0 (pa_cons (pv 0) (pa_cons pe_int (pa_cons (pe_op op_pow pe_int pe_int) pa_nil)))))
      (pss_cons (ps_set (i := 5) sc_channel_row.nd rfl (by first | exact Or.inl rfl | exact Or.inr rfl) (g_call G_number (hr.mono (by decide)) hgd (by rfl) T.m_number T.F_number.kp T.b_number .nil pass0 (pa_cons (pv 0) (pa_cons pe_int (pa_cons pe_int pa_nil)))))
      (pss_cons (ps_set (i := 6) sc_channel_row.nd rfl (by first | exact Or.inl rfl | exact Or.inr rfl) (g_call G_number (hr.mono (by decide)) hgd (by rfl) T.m_number T.F_number.kp T.b_number .nil pass0 (pa_cons (pv 0) (pa_cons pe_int (pa_cons pe_int pa_nil)))))
      (pss_cons (ps_set (i := 7) sc_channel_row.nd rfl (by first | exact Or.inl rfl | exact Or.inr rfl) (g_call G_number (hr.mono (by decide)) hgd (by rfl) T.m_number T.F_number.kp T.b_number .nil pass0 (pa_cons (pv 0) (pa_cons pe_int (pa_cons pe_int pa_nil)))))
      (pss_one (ps_ret (pe_tup (pa_cons (pv 1) (pa_cons (pv 2) (pa_cons (pv 3) (pa_cons (pv 5) (pa_cons (pv 6) (pa_cons (pv 4) (pa_cons (pv 7) (pa_cons (g_call G_number (hr.mono (by decide)) hgd (by rfl) T.m_number T.F_number.kp T.b_number .nil pass0 (pa_cons (pv 0) (pa_cons (pv 4) (pa_cons (pe_op op_pow pe_int pe_int) pa_nil)))) pa_nil))))))))))))))), ?_⟩
    walk_at "rd"
    refine ⟨b, 0, _, n, rfl, hB, by omega, by decide, by decide, by decide, fun f H1 f0 f1 e1 B1 => ?_⟩
    walk_at "rd"
    refine ⟨b, 1, 1000, _, rfl, B1, by omega, by decide, by decide, by decide, fun h H2 h0 h1 e2 B2 => ?_⟩
    walk_at "rd"
    refine ⟨b, 0, 1000, _, rfl, B2, by omega, by decide, by decide, by decide, fun d H3 d0 d1 e3 B3 => ?_⟩
    walk_at "rd"
    refine ⟨b, 0, 1000, _, rfl, B3, by omega, by decide, by decide, by decide, fun g H4 g0 g1 e4 B4 => ?_⟩
    walk_at "rd"
    have f1' : f ≤ 10 ^ 6 := f1
    refine ⟨b, f, _, _, rfl, B4, by omega, by omega, f1', by decide, fun m H5 m0 m1 e5 B5 => ?_⟩
    walk_at "rd"
    (intro p hp; generalize ep : upd _ p _ = J; have N := New.of ep hp; clear ep hp)
    have e := e1.trans (e2.trans (e3.trans (e4.trans e5)))
    exact q p h d f g m J (e.free (B5.off N) N.free) (e.trans N.but) ((B5.nw N).mono (by omega)) N.at_ ⟨h0, h1⟩ ⟨d0, d1⟩ ⟨f0, f1⟩ ⟨g0, g1⟩ ⟨m0, m1⟩

/-- a row that stands -/
def spVRow : Sp := fun vs H Q _ => ∃ (b pl : Addr) (k : Kd) (x : Str) (ns : List Str) (n : Nat), vs = [.ref b, .str k.txt, .str x, .ref pl] ∧ Box H b n ∧ n ≤ 700 ∧ pl ≠ b ∧ H pl = some (.lst (ns.map V.str)) ∧ isN (.str x) = true ∧
  (1 ≤ ns.length ∧ ns.length ≤ 26 ∧ ∀ y ∈ ns, isN (.str y) = true) ∧
  ∀ (p : Addr) (d : Vd) (H' : Hp), But b H H' → Box H' b (n + 10) → H' p = some (.tup d.row) → d.ok → d.k = k → d.n = x → d.p ∈ ns → (k = .s → d.g ∈ ns) → Q (.ref p) H'
theorem pickN {ns : List Str} {d : Int} (h : 1 ≤ ns.length ∧ ns.length ≤ 26 ∧ ∀ y ∈ ns, isN (.str y) = true) (d0 : 0 ≤ d) (d1 : d < ((ns.map V.str).length : Int)) : ∃ g, atI (ns.map V.str) d = some (.str g) ∧ isN (.str g) = true ∧ g ∈ ns := by
  obtain ⟨v, hv, hm, _⟩ := atI_some (xs := ns.map V.str) d0 d1
  obtain ⟨g, hg, rfl⟩ := List.mem_map.mp hm
  exact ⟨g, hv, h.2.2 g hg, hg⟩
theorem ok_vessel_row (T : Top K mg) : FnG P w K mg base CX0 3 T.a_vessel_row T.d_vessel_row ["_law_box_here", "_law_kind", "_law_name", "_law_ports"] spVRow := by
  have G_number := ok_number (P := P) (w := w) (base := base) T
  have G_take := ok_take (P := P) (w := w) (base := base) T
  refine okG T.F_vessel_row sc_vessel_row (fun vs H Q E h => ?_) (fun cdv A outer s H vs Q E hr hgd h => ?_)
  · obtain ⟨b, pl, k, x, ns, n, rfl, _⟩ := h
    rfl
  · obtain ⟨b, pl, k, x, ns, n, rfl, hB, hn, pb, hp, hx, hall, q⟩ := h
    refine ⟨_, (pss_cons (ps_set (i := 4) sc_vessel_row.nd rfl (by first | exact Or.inl rfl | exact Or.inr rfl) (pe_tup (pa_cons (pv 2) (pa_cons (pe_ix ix_list (pv 3) (g_call G_take (hr.mono (by decide)) hgd (by rfl) T.m_take T.F_take.kp T.b_take .nil pass0 (pa_cons (pv 0) (pa_cons (pe_callB c_len (by rfl) T.n_len (by decide +kernel) (pa_cons (pv 3) pa_nil)) pa_nil))) (fun _ _ => rfl)) pa_nil))))
      (pss_cons (ps_if (pt_cmpR op_eq (pv 1) pe_str (nomark _))
        (pss_one (ps_set (i := 4) sc_vessel_row.nd rfl (by first | exact Or.inl rfl | exact Or.inr rfl) (pe_op op_catA (pv 4) (pe_tup (pa_cons (pe_ix ix_list (pv 3) (g_call G_take (hr.mono (by decide)) hgd (by rfl) T.m_take T.F_take.kp T.b_take .nil pass0 (pa_cons (pv 0) (pa_cons (pe_callB c_len (by rfl) T.n_len (by decide +kernel) (pa_cons (pv 3) pa_nil)) pa_nil))) (fun _ _ => rfl)) pa_nil)))))
        pss_nil)
      (pss_cons (ps_set (i := 5) sc_vessel_row.nd rfl (by first | exact Or.inl rfl | exact Or.inr rfl) (pe_tup (pa_cons (g_call G_number (hr.mono (by decide)) hgd (by rfl) T.m_number T.F_number.kp T.b_number .nil pass0 (pa_cons (pv 0) (pa_cons pe_int (pa_cons (pe_op op_pow pe_int pe_int) pa_nil)))) (pa_cons (g_call G_number (hr.mono (by decide)) hgd (by rfl) T.m_number T.F_number.kp T.b_number .nil pass0 (pa_cons (pv 0) (pa_cons pe_int (pa_cons (pe_op op_pow pe_int pe_int) pa_nil)))) (pa_cons (g_call G_number (hr.mono (by decide)) hgd (by rfl) T.m_number T.F_number.kp T.b_number .nil pass0 (pa_cons (pv 0) (pa_cons pe_int (pa_cons pe_int pa_nil)))) pa_nil)))))
      (pss_cons (ps_if (pt_cmpR op_eq (pv 1) pe_str (nomark _))
        (pss_one (ps_set (i := 5) sc_vessel_row.nd rfl (by first | exact Or.inl rfl | exact Or.inr rfl) (pe_op op_catA (pv 5) (pe_tup (pa_cons (g_call G_number (hr.mono (by decide)) hgd (by rfl) T.m_number T.F_number.kp T.b_number .nil pass0 (pa_cons (pv 0) (pa_cons pe_int (pa_cons (pe_op op_pow pe_int pe_int) pa_nil)))) pa_nil)))))
        pss_nil)
      (pss_one (ps_ret (pe_op op_catA (pv 4) (pv 5)))))))), ?_⟩
    walk_at "rd"
    have hlen := hall.1; have hlen2 := hall.2.1
    refine ⟨b, ((ns.map V.str).length : Int), n, rfl, hB, by omega, by simp; omega, by simp; omega, fun d H1 d0 d1 e1 B1 => ?_⟩
    obtain ⟨g, hg, ng, mg⟩ := pickN hall d0 d1
    refine i_ixL (SqL.lst (e1 pl _ pb hp)) hg ?_
    walk_at "rd"
    (intro p1 hp1; generalize ep1 : upd _ p1 _ = J1; have N1 := New.of ep1 hp1; clear ep1 hp1)
    have B2 := B1.nw N1
    have e02 := e1.trans N1.but
    walk_at "rd"
    cases k with
    | s =>
      rw [show decide (V.str Kd.s.txt = V.str (Str.ofString "ship")) = true by decide +kernel]
      have hp1 := e02 pl _ pb hp
      walk_at "rd"
      refine ⟨b, ((ns.map V.str).length : Int), _, rfl, B2, by omega, by simp; omega, by simp; omega, fun d' H3 d0' d1' e3 B3 => ?_⟩
      obtain ⟨g2, hg2, ng2, mg2⟩ := pickN hall d0' d1'
      refine i_ixL (SqL.lst (e3 pl _ pb hp1)) hg2 ?_
      walk_at "rd"
      (intro p2 hp2; generalize ep2 : upd _ p2 _ = J2; have N2 := New.of ep2 hp2; clear ep2 hp2)
      refine i_catA (N2.app (e3 p1 _ (B1.off N1) N1.at_)) N2.at_ (by show 3 ≤ sizeLine; decide) (fun r H4 s4 k4 => ?_)
      have e04 : But b H H4 := e02.trans (e3.trans (N2.but.trans (Ice.Same.but s4)))
      have B4 : Box H4 b (n + 2) := (B3.nw N2).same s4
      walk_at "rd"
      refine ⟨b, 0, _, _, rfl, B4, by omega, by decide, by decide, by decide, fun h H5 h0 h1 e5 B5 => ?_⟩
      walk_at "rd"
      refine ⟨b, 0, _, _, rfl, B5, by omega, by decide, by decide, by decide, fun s H6 s0 s1 e6 B6 => ?_⟩
      walk_at "rd"
      refine ⟨b, 0, _, _, rfl, B6, by omega, by decide, by decide, by decide, fun f H7 f0 f1 e7 B7 => ?_⟩
      walk_at "rd"
      (intro p3 hp3; generalize ep3 : upd _ p3 _ = J3; have N3 := New.of ep3 hp3; clear ep3 hp3)
      walk_at "rd"
      rw [show decide (V.str Kd.s.txt = V.str (Str.ofString "breaker")) = false by decide +kernel]
      walk_at "rd"
      have rb : r ≠ b := by
        obtain ⟨_, _, _, z, _⟩ := B4.ex
        exact ne_of k4 z (by intro z; cases z)
      refine i_catA (N3.app (e7 r _ rb (e6 r _ rb (e5 r _ rb k4)))) N3.at_ (by show 6 ≤ sizeLine; decide) (fun r8 H8 s8 k8 => ?_)
      have h1' : h ≤ 1000000 := h1
      have s1' : s ≤ 1000000 := s1
      refine q r8 ⟨.s, x, g, g2, h, s, f, 1⟩ H8 (e04.trans (e5.trans (e6.trans (e7.trans (N3.but.trans (Ice.Same.but s8)))))) (((B7.nw N3).same s8).mono (by omega)) k8 ⟨⟨hx, ng, ⟨h0, h1'⟩, ⟨s0, s1'⟩, ⟨f0, f1⟩⟩, ng2, (by decide : (1 : Int) ≤ 1 ∧ (1 : Int) ≤ 1000000)⟩ rfl rfl mg (fun _ => mg2)
    | b =>
      rw [show decide (V.str Kd.b.txt = V.str (Str.ofString "ship")) = false by decide +kernel]
      walk_at "rd"
      refine ⟨b, 0, _, _, rfl, B2, by omega, by decide, by decide, by decide, fun h H5 h0 h1 e5 B5 => ?_⟩
      walk_at "rd"
      refine ⟨b, 0, _, _, rfl, B5, by omega, by decide, by decide, by decide, fun s H6 s0 s1 e6 B6 => ?_⟩
      walk_at "rd"
      refine ⟨b, 0, _, _, rfl, B6, by omega, by decide, by decide, by decide, fun f H7 f0 f1 e7 B7 => ?_⟩
      walk_at "rd"
      (intro p3 hp3; generalize ep3 : upd _ p3 _ = J3; have N3 := New.of ep3 hp3; clear ep3 hp3)
      walk_at "rd"
      rw [show decide (V.str Kd.b.txt = V.str (Str.ofString "breaker")) = true by decide +kernel]
      walk_at "rd"
      have B8 := B7.nw N3
      refine ⟨b, 1, _, _, rfl, B8, by omega, by decide, by decide, by decide, fun c H9 c0 c1 e9 B9 => ?_⟩
      walk_at "rd"
      (intro p4 hp4; generalize ep4 : upd _ p4 _ = J4; have N4 := New.of ep4 hp4; clear ep4 hp4)
      refine i_catA (N4.app (e9 p3 _ (B7.off N3) N3.at_)) N4.at_ (by show 4 ≤ sizeLine; decide) (fun r7 H10 s10 k10 => ?_)
      walk_at "rd"
      have p1b := B1.off N1
      refine i_catA (s10 _ _ (N4.app (e9 p1 _ p1b (N3.app (e7 p1 _ p1b (e6 p1 _ p1b (e5 p1 _ p1b N1.at_))))))) k10 (by show 6 ≤ sizeLine; decide) (fun r8 H8 s8 k8 => ?_)
      have h1' : h ≤ 1000000 := h1
      have s1' : s ≤ 1000000 := s1
      have c1' : c ≤ 1000000 := c1
      have s108 := s10.trans s8
      refine q r8 ⟨.b, x, g, g, h, s, f, c⟩ H8 (e02.trans (e5.trans (e6.trans (e7.trans (N3.but.trans (e9.trans (N4.but.trans (Ice.Same.but s108)))))))) (((B9.nw N4).same s108).mono (by omega)) k8 ⟨⟨hx, ng, ⟨h0, h1'⟩, ⟨s0, s1'⟩, ⟨f0, f1⟩⟩, ng, ⟨c0, c1'⟩⟩ rfl rfl mg (fun z => by cases z)
    | v =>
      rw [show decide (V.str Kd.v.txt = V.str (Str.ofString "ship")) = false by decide +kernel]
      walk_at "rd"
      refine ⟨b, 0, _, _, rfl, B2, by omega, by decide, by decide, by decide, fun h H5 h0 h1 e5 B5 => ?_⟩
      walk_at "rd"
      refine ⟨b, 0, _, _, rfl, B5, by omega, by decide, by decide, by decide, fun s H6 s0 s1 e6 B6 => ?_⟩
      walk_at "rd"
      refine ⟨b, 0, _, _, rfl, B6, by omega, by decide, by decide, by decide, fun f H7 f0 f1 e7 B7 => ?_⟩
      walk_at "rd"
      (intro p3 hp3; generalize ep3 : upd _ p3 _ = J3; have N3 := New.of ep3 hp3; clear ep3 hp3)
      walk_at "rd"
      rw [show decide (V.str Kd.v.txt = V.str (Str.ofString "breaker")) = false by decide +kernel]
      walk_at "rd"
      have p1b := B1.off N1
      refine i_catA (N3.app (e7 p1 _ p1b (e6 p1 _ p1b (e5 p1 _ p1b N1.at_)))) N3.at_ (by show 5 ≤ sizeLine; decide) (fun r8 H8 s8 k8 => ?_)
      have h1' : h ≤ 1000000 := h1
      have s1' : s ≤ 1000000 := s1
      refine q r8 ⟨.v, x, g, g, h, s, f, 1⟩ H8 (e02.trans (e5.trans (e6.trans (e7.trans (N3.but.trans (Ice.Same.but s8)))))) (((B7.nw N3).same s8).mono (by omega)) k8 ⟨⟨hx, ng, ⟨h0, h1'⟩, ⟨s0, s1'⟩, ⟨f0, f1⟩⟩, ng, (by decide : (1 : Int) ≤ 1 ∧ (1 : Int) ≤ 1000000)⟩ rfl rfl mg (fun z => by cases z)

def Cd.row (c : Cd) : List V := [.str c.n, .str c.o, .str c.t, .int c.h, .int c.d, .int c.f, .int c.g, .int c.m]
theorem rowK_of {d : Vd} (o : d.ok) : RowK d.k d.row := by
  unfold Vd.row
  cases hk : d.k with
  | v => exact ⟨_, _, _, _, _, o.five, rfl⟩
  | b => exact ⟨_, _, _, _, _, _, o.five, o.c, rfl⟩
  | s => exact ⟨_, _, _, _, _, _, o.five, o.g, rfl⟩
/-- what a world is made of, as rows -/
structure Rw where
  b : Int
  lp : Addr
  lc : Addr
  lb : Addr
  ls : Addr
  ps : List Str
  cs : List (Addr × Cd)
  bs : VL
  ss : VL
structure Rw.ok (R : Rw) : Prop where
  b : 0 ≤ R.b ∧ R.b ≤ 1000000
  p1 : 1 ≤ R.ps.length
  p8 : R.ps.length ≤ 8
  pn : R.ps.Nodup
  pi : ∀ x ∈ R.ps, isN (.str x) = true
  cl : R.cs.length ≤ 12
  cn : (R.cs.map (·.2.n)).Nodup
  ci : ∀ z ∈ R.cs, z.2.ok ∧ z.2.o ∈ R.ps ∧ z.2.t ∈ R.ps
  bl : R.bs.length ≤ 4
  bi : ∀ z ∈ R.bs, z.2.ok ∧ z.2.k = .b ∧ z.2.p ∈ R.ps
  sl : R.ss.length ≤ 6
  si : ∀ z ∈ R.ss, z.2.ok ∧ z.2.k = .s ∧ z.2.p ∈ R.ps ∧ z.2.g ∈ R.ps
  vn : ((R.bs ++ R.ss).map (·.2.n)).Nodup
def crefs (L : List (Addr × Cd)) : List V := L.map fun z => .ref z.1
structure RowsT (H : Hp) (p : Addr) (R : Rw) : Prop where
  hp : H p = some (.lst [.int R.b, .ref R.lp, .ref R.lc, .ref R.lb, .ref R.ls])
  h1 : H R.lp = some (.lst (R.ps.map V.str))
  h2 : H R.lc = some (.lst (crefs R.cs))
  h3 : ∀ z ∈ R.cs, H z.1 = some (.tup z.2.row)
  h4 : H R.lb = some (.lst (refs R.bs))
  h5 : ∀ z ∈ R.bs, H z.1 = some (.tup z.2.row)
  h6 : H R.ls = some (.lst (refs R.ss))
  h7 : ∀ z ∈ R.ss, H z.1 = some (.tup z.2.row)
theorem RowsT.same {H H' : Hp} {p : Addr} {R : Rw} (a : RowsT H p R) (e : Same H H') : RowsT H' p R :=
  ⟨e _ _ a.hp, e _ _ a.h1, e _ _ a.h2, fun z hz => e _ _ (a.h3 z hz), e _ _ a.h4, fun z hz => e _ _ (a.h5 z hz), e _ _ a.h6, fun z hz => e _ _ (a.h7 z hz)⟩
def spChannelM (T : Top K mg) : Sp := fun vs H Q _ => ∃ (r : Addr) (c : Cd), vs = [.ref r] ∧ H r = some (.tup c.row) ∧ c.ok ∧ ∀ x H', Same H H' → H x = none → ChT T H' x c → Q (.ref x) H'
theorem cd_th {c : Cd} (k : c.ok) (H : Hp) : ∀ v ∈ c.row, Th H v := by
  intro v hv
  simp only [Cd.row, List.mem_cons, List.not_mem_nil, or_false] at hv
  rcases hv with rfl | rfl | rfl | rfl | rfl | rfl | rfl | rfl
  · exact name_th H k.nn
  · exact name_th H k.no
  · exact name_th H k.nt
  all_goals exact .inr ⟨_, .int _⟩
theorem ok_channel (T : Top K mg) : FnG P w K mg base CX0 6 T.a_channel T.d_channel ["_law_row"] (spChannelM T) := by
  have G_Channel___init__ := ok_Channel___init__ (P := P) (w := w) (base := base) T
  refine okG T.F_channel sc_channel (fun vs H Q E h => ?_) (fun cdv A outer s H vs Q E hr hgd h => ?_)
  · obtain ⟨r, c, rfl, _⟩ := h
    rfl
  · obtain ⟨r, c, rfl, hr', k, q⟩ := h
    refine ⟨_, (pss_one (ps_ret (g_make T.mk_Channel G_Channel___init__ (hr.mono (by decide)) hgd (by rfl) T.c_Channel T.b_Channel___init__ .nil passL (pa_cons (pe_ix ix_tup (pv 0) pe_int (fun _ _ => rfl)) (pa_cons (pe_ix ix_tup (pv 0) pe_int (fun _ _ => rfl)) (pa_cons (pe_ix ix_tup (pv 0) pe_int (fun _ _ => rfl)) (pa_cons (pe_ix ix_tup (pv 0) pe_int (fun _ _ => rfl)) (pa_cons (pe_ix ix_tup (pv 0) pe_int (fun _ _ => rfl)) (pa_cons (pe_ix ix_tup (pv 0) pe_int (fun _ _ => rfl)) (pa_cons (pe_ix ix_tup (pv 0) pe_int (fun _ _ => rfl)) (pa_cons (pe_ix ix_tup (pv 0) pe_int (fun _ _ => rfl)) pa_nil))))))))))), ?_⟩
    have hr2 : H r = some (.tup [.str c.n, .str c.o, .str c.t, .int c.h, .int c.d, .int c.f, .int c.g, .int c.m]) := hr'
    walk_at "rd"
    intro x dx hx hdx nex
    refine ⟨x, dx, _, _, _, _, _, _, _, _, rfl, upd_same, cd_th k _, ?_⟩
    rw [Cd.made k]
    exact fun H1 b1 k1 => ⟨rfl, q x _ (made_same hx hdx b1) hx ⟨k, dx, k1⟩⟩
end

end Ice

set_option Elab.async false
set_option linter.all false
set_option maxRecDepth 100000
set_option maxHeartbeats 4000000
namespace Ice
open PySem PySem.Spec PyProof.Rows L2 TL
/-! side conditions, heaps, one step of a reading, and many -/
local macro_rules | `(tactic| walk_at "hp") => `(tactic| first | assumption | exact upd_same | exact New.at_ (by assumption) | (refine keepU ?_ (by assumption); walk_at "hp") | (refine New.app (by assumption) ?_; walk_at "hp") | (refine Same.app (by assumption) ?_; walk_at "hp") | (refine But.app (by assumption) (by assumption) ?_; walk_at "hp"))
local macro_rules | `(tactic| walk_at "sq") => `(tactic| first | assumption | exact SqL.lst (by walk_at "hp") | exact L2.Same.seq (New.same (by assumption)) (by assumption) | exact L2.Same.seq (by assumption) (by assumption))
local macro_rules | `(tactic| walk_at "len") => `(tactic| first | assumption | (simp only [List.length_cons, List.length_nil, List.length_append, List.length_map]; decide) | (refine Ice.sz_of ?_; simp only [List.length_cons, List.length_nil, List.length_append, List.length_map]; omega))
local macro_rules | `(tactic| walk_at "fresh") => `(tactic| (simp only [List.map_append, List.map_cons, List.map_nil, List.nil_append, List.cons_append]; decide +kernel))
local macro_rules | `(tactic| walk_at "sd") => `(tactic| first | assumption | (show _ ≠ _; omega) | exact Or.inl ⟨by omega, by omega⟩ | exact Or.inr ⟨by omega, by omega⟩ | exact ⟨by decide, by decide⟩ | exact ⟨by decide, by decide, by decide⟩ | exact ⟨by omega, by omega, by omega⟩)
/-! one step of a reading, and many -/
local macro_rules | `(tactic| walk_at "st") => `(tactic| first
  | with_reducible refine i_seq ?_
  | with_reducible refine i_if ?_
  | with_reducible refine i_next ?_
  | with_reducible refine i_ret ?_
  | with_reducible refine i_retN ?_
  | with_reducible refine i_drop ?_
  | with_reducible refine i_asg ?_
  | with_reducible refine i_gname ?_
  | with_reducible refine i_gsub ?_
  | ((with_reducible refine i_var (v := ?vv) ?hv ?_); (case hv => exact rfl))
  | with_reducible refine i_c ?_
  | with_reducible refine i_op ?_
  | with_reducible refine i_un ?_
  | with_reducible refine i_test ?_
  | with_reducible refine i_tB ?_
  | with_reducible refine i_and ?_
  | with_reducible refine i_or ?_
  | with_reducible refine i_not ?_
  | with_reducible refine i_andV ?_
  | with_reducible refine i_orV ?_
  | with_reducible refine i_notV ?_
  | with_reducible refine i_ifE ?_
  | with_reducible refine i_chain ?_
  | with_reducible refine i_bl ?_
  | with_reducible refine i_nil ?_
  | with_reducible refine i_cons ?_
  | with_reducible refine i_call ?_
  | with_reducible refine i_cb ?_
  | with_reducible refine i_rI0 ?_
  | with_reducible refine i_rU ?_
  | ((with_reducible refine i_rEq ?hs ?_); (case hs => exact rfl))
  | ((with_reducible refine i_rNe ?hs ?_); (case hs => exact rfl))
  | ((with_reducible refine i_rI ?hc ?_); (case hc => walk_at "sd"))
  | ((with_reducible refine i_ixL (xs := ?xs) (v := ?vv) ?hS ?he ?_); (case hS => walk_at "sq"); (case he => exact rfl))
  | ((with_reducible refine i_setL (xs := ?xs) (j := ?jj) ?hS ?he ?_); (case hS => walk_at "hp"); (case he => exact rfl))
  | with_reducible refine i_tup ?_
  | with_reducible refine i_lst ?_
  | with_reducible refine i_bm ?_
  | with_reducible refine i_bm0 ?_
  | with_reducible refine i_m1 ?_
  | with_reducible refine i_sl ?_
  | with_reducible refine i_nopart ?_
  | with_reducible refine i_part ?_
  | with_reducible refine i_int ?_
  | with_reducible refine i_str ?_
  | with_reducible refine i_for ?_
  | with_reducible refine i_yes ?_
  | ((with_reducible refine i_lenL (xs := ?xs) ?hS ?_); (case hS => walk_at "sq"))
  | ((with_reducible refine i_room ?hz ?_); (case hz => walk_at "len"))
  | with_reducible refine i_leT ?_
  | with_reducible refine i_notInS ?_
  | with_reducible refine i_inS ?_
  | with_reducible refine i_find ?_
  | with_reducible refine i_isB ?_
  | with_reducible refine i_max2 ?_
  | with_reducible refine i_min2 ?_
  | with_reducible exact trivial
  | with_reducible refine iteT ?_
  | with_reducible refine iteF ?_
  | with_reducible refine i_isstr ?_
  | with_reducible refine i_lc ?_
  | ((with_reducible refine i_cat (xs := ?xs) (zs := ?zs) ?ha ?hb ?hz ?_); (case ha => walk_at "hp"); (case hb => walk_at "hp"); (case hz => walk_at "len"))
  | ((with_reducible refine i_tyL (xs := ?xs) ?ha ?_); (case ha => walk_at "hp"))
  | with_reducible refine i_list ?_
  | with_reducible refine i_disp ?_
  | with_reducible refine i_pairs0 ?_
  | with_reducible refine i_pairs ?_
  | with_reducible refine i_newK ?_
  | with_reducible refine i_gcons ?_
  | with_reducible refine i_gnil ?_
  | with_reducible refine i_revL ?_
  | with_reducible refine i_rng1 ?_
  | ((with_reducible refine i_wipe ?hw ?_); (case hw => exact rfl))
  | with_reducible refine iteNT ?_
  | with_reducible refine iteNF ?_)
local macro_rules | `(tactic| walk_at "sx") => `(tactic| first
  | walk_at "st"
  | with_reducible refine i_kinit ?_
  | with_reducible refine i_ost ?_
  | with_reducible refine i_mkO ?_
  | with_reducible refine i_callE ?_
  | with_reducible refine i_makeE ?_
  | with_reducible refine i_xf ?_
  | with_reducible refine i_sfld ?_
  | with_reducible refine i_fld ?_
  | ((with_reducible refine i_ixT (xs := ?xs) (v := ?vv) ?hS ?he ?_); (case hS => exact SqT.tup (by walk_at "hp")); (case he => exact rfl))
  | with_reducible refine i_intB ?_
  | with_reducible refine i_runS ?_
  | with_reducible refine i_runN ?_
  | ((with_reducible refine i_xf1 (fs := ?ff) (v := ?vv) ?hx ?hl ?_); (case hx => walk_at "hp"); (case hl => exact rfl))
  | with_reducible refine i_methE ?_
  | with_reducible refine i_meth ?_
  | with_reducible refine i_make ?_
  | ((with_reducible refine i_obj (dx := ?dd) (fs := ?ff) ?hx ?hl ?_); (case hx => walk_at "hp"); (case hl => exact rfl))
  | ((with_reducible refine i_fld1 (C := ?CC) (dx := ?dd) (fs := ?ff) (v := ?vv) ?hx ?cl ?na ?hl ?_); (case hx => walk_at "hp"); (case cl => assumption); (case na => assumption); (case hl => exact rfl)))
local macro_rules | `(tactic| walk_at "sy") => `(tactic| first
  | walk_at "sx"
  | with_reducible refine i_dget ?_
  | with_reducible refine i_dget2 ?_
  | with_reducible refine i_dput ?_
  | with_reducible refine i_din ?_
  | ((with_reducible refine i_aug (x := ?vv) ?hx ?_); (case hx => exact rfl)))
local macro_rules | `(tactic| walk_at "rd") => `(tactic| repeat (walk_at "sy"))

section
variable {P : Program} {w : World} {K : PySem.W.Frag} {mg : Str → Option Value} {base : Heap}
def spWRows : Sp := fun vs H Q _ => ∃ (b : Addr) (n : Nat), vs = [.ref b] ∧ Box H b n ∧ n ≤ 300 ∧ ∀ (p : Addr) (R : Rw) (H' : Hp), But b H H' → Box H' b (n + 400) → RowsT H' p R → R.ok → p ≠ b → Q (.ref p) H'
theorem pickS {ns : List Str} {d : Int} (d0 : 0 ≤ d) (d1 : d < (ns.length : Int)) : ∃ g, atI (ns.map V.str) d = some (.str g) ∧ g ∈ ns ∧ ns[d.toNat]? = some g := by
  obtain ⟨k, rfl⟩ := Int.eq_ofNat_of_zero_le d0
  have hk : k < ns.length := by omega
  exact ⟨ns[k], atI_nat (by rw [List.getElem?_map, List.getElem?_eq_getElem hk]; rfl), List.getElem_mem _, by simp [List.getElem?_eq_getElem hk]⟩
theorem mod_ne {a t M : Int} (a0 : 0 ≤ a) (a1 : a < M) (t0 : 0 ≤ t) (t1 : t < M - 1) : (a + 1 + t) % M ≠ a := by
  by_cases h : a + 1 + t < M
  · rw [Int.emod_eq_of_lt (by omega) h]; omega
  · rw [show a + 1 + t = (a + 1 + t - M) + M by omega, Int.add_emod_right, Int.emod_eq_of_lt (by omega) (by omega)]; omega
theorem cutV_mid (xs : List V) {a e : Nat} (h : a + e ≤ xs.length) : cutV xs (some (a : Int)) (some ((a + e : Nat) : Int)) = (xs.drop a).take e := by
  unfold cutV
  rw [HT.sIx_nat, HT.sIx_nat, Nat.min_eq_left h, Nat.min_eq_left (by omega : a ≤ xs.length), Nat.add_sub_cancel_left]
theorem nodup_ne {ns : List Str} {i j : Nat} {x y : Str} (h : ns.Nodup) (hi : ns[i]? = some x) (hj : ns[j]? = some y) (n : i ≠ j) : x ≠ y := by
  have li := (List.getElem?_eq_some_iff.mp hi)
  have lj := (List.getElem?_eq_some_iff.mp hj)
  obtain ⟨li, rfl⟩ := li
  obtain ⟨lj, rfl⟩ := lj
  rcases Nat.lt_or_gt_of_ne n with z | z
  · exact (List.pairwise_iff_getElem.mp h) i j li lj z
  · exact fun e => (List.pairwise_iff_getElem.mp h) j i lj li z e.symm
theorem ok_world_rows (T : Top K mg) : FnG P w K mg base CX0 4 T.a_world_rows T.d_world_rows ["_law_box_here"] spWRows := by
  have G_number := ok_number (P := P) (w := w) (base := base) T
  have G_names := ok_names (P := P) (w := w) (base := base) T
  have G_take := ok_take (P := P) (w := w) (base := base) T
  have G_channel_row := ok_channel_row (P := P) (w := w) (base := base) T
  have G_vessel_row := ok_vessel_row (P := P) (w := w) (base := base) T
  refine okG T.F_world_rows sc_world_rows (fun vs H Q E h => ?_) (fun cdv A outer s H vs Q E hr hgd h => ?_)
  · obtain ⟨b, n, rfl, _⟩ := h
    rfl
  · obtain ⟨b, n, rfl, hB, hn, q⟩ := h
    refine ⟨_, (pss_cons (ps_set (i := 1) sc_world_rows.nd rfl (by first | exact Or.inl rfl | exact Or.inr rfl) (g_call G_number (hr.mono (by decide)) hgd (by rfl) T.m_number T.F_number.kp T.b_number .nil pass0 (pa_cons (pv 0) (pa_cons pe_int (pa_cons (pe_op op_pow pe_int pe_int) pa_nil)))))
      (pss_cons (ps_set (i := 2) sc_world_rows.nd rfl (by first | exact Or.inl rfl | exact Or.inr rfl) (pe_ix ix_list (pe_lst (pa_cons pe_int (pa_cons pe_int (pa_cons pe_int (pa_cons pe_int (pa_cons pe_int pa_nil)))))) (g_call G_take (hr.mono (by decide)) hgd (by rfl) T.m_take T.F_take.kp T.b_take .nil pass0 (pa_cons (pv 0) (pa_cons pe_int pa_nil))) (fun _ _ => rfl)))
      (pss_cons (ps_set (i := 3) sc_world_rows.nd rfl (by first | exact Or.inl rfl | exact Or.inr rfl) (g_call G_names (hr.mono (by decide)) hgd (by rfl) T.m_names T.F_names.kp T.b_names .nil pass0 (pa_cons (pv 0) (pa_cons (pv 2) pa_nil))))
      (pss_cons (ps_set (i := 4) sc_world_rows.nd rfl (by first | exact Or.inl rfl | exact Or.inr rfl) (pe_lst pa_nil))
      (pss_cons (ps_for PassesOwn.never rfl (pi_list (g_call G_names (hr.mono (by decide)) hgd (by rfl) T.m_names T.F_names.kp T.b_names .nil pass0 (pa_cons (pv 0) (pa_cons (pe_op op_mul (pe_ix ix_list (pe_lst (pa_cons pe_int (pa_cons pe_int (pa_cons pe_int (pa_cons pe_int (pa_cons pe_int (pa_cons pe_int pa_nil))))))) (g_call G_take (hr.mono (by decide)) hgd (by rfl) T.m_take T.F_take.kp T.b_take .nil pass0 (pa_cons (pv 0) (pa_cons pe_int pa_nil))) (fun _ _ => rfl)) (pe_callTy c_intB (by rfl) T.n_int (by decide +kernel) (pa_cons (pe_cmpR op_gt (pv 2) pe_int (nomark _)) pa_nil))) pa_nil)))) (pg_name (i := 5) sc_world_rows.nd rfl (by first | exact Or.inl rfl | exact Or.inr rfl))
        (pss_cons (ps_set (i := 6) sc_world_rows.nd rfl (by first | exact Or.inl rfl | exact Or.inr rfl) (g_call G_take (hr.mono (by decide)) hgd (by rfl) T.m_take T.F_take.kp T.b_take .nil pass0 (pa_cons (pv 0) (pa_cons (pv 2) pa_nil))))
      (pss_cons (ps_set (i := 7) sc_world_rows.nd rfl (by first | exact Or.inl rfl | exact Or.inr rfl) (pe_op op_modN (pe_op op_add (pe_op op_add (pv 6) pe_int) (g_call G_take (hr.mono (by decide)) hgd (by rfl) T.m_take T.F_take.kp T.b_take .nil pass0 (pa_cons (pv 0) (pa_cons (pe_callB (c_max2) (by rfl) T.n_max (by decide +kernel) (pa_cons pe_int (pa_cons (pe_op op_sub (pv 2) pe_int) pa_nil))) pa_nil)))) (pv 2)))
      (pss_one (ps_expr (pe_bm PySem.F.plainAttrs_list PySem.F.slot_list_append PySem.F.type_list_append mt_append (pv 4) (pa_cons (g_call G_channel_row (hr.mono (by decide)) hgd (by rfl) T.m_channel_row T.F_channel_row.kp T.b_channel_row .nil pass0 (pa_cons (pv 0) (pa_cons (pv 5) (pa_cons (pe_ix ix_list (pv 3) (pv 6) (fun _ _ => rfl)) (pa_cons (pe_ix ix_list (pv 3) (pv 7) (fun _ _ => rfl)) pa_nil))))) pa_nil)))))))
      (pss_cons (ps_set (i := 8) sc_world_rows.nd rfl (by first | exact Or.inl rfl | exact Or.inr rfl) (g_call G_names (hr.mono (by decide)) hgd (by rfl) T.m_names T.F_names.kp T.b_names .nil pass0 (pa_cons (pv 0) (pa_cons pe_int pa_nil))))
      (pss_cons (ps_set (i := 9) sc_world_rows.nd rfl (by first | exact Or.inl rfl | exact Or.inr rfl) (g_call G_take (hr.mono (by decide)) hgd (by rfl) T.m_take T.F_take.kp T.b_take .nil pass0 (pa_cons (pv 0) (pa_cons pe_int pa_nil))))
      (pss_cons (ps_set (i := 8) sc_world_rows.nd rfl (by first | exact Or.inl rfl | exact Or.inr rfl) (pe_ix ix_list (pe_lst (pa_cons (pv 8) (pa_cons (pe_revL (pv 8)) pa_nil))) (pv 9) (fun _ _ => rfl)))
      (pss_cons (ps_set (i := 10) sc_world_rows.nd rfl (by first | exact Or.inl rfl | exact Or.inr rfl) (pe_lst pa_nil))
      (pss_cons (ps_for PassesOwn.never rfl (pi_list (pe_slice sl_list (pv 8) po_none (po_some (g_call G_take (hr.mono (by decide)) hgd (by rfl) T.m_take T.F_take.kp T.b_take .nil pass0 (pa_cons (pv 0) (pa_cons pe_int pa_nil)))))) (pg_name (i := 5) sc_world_rows.nd rfl (by first | exact Or.inl rfl | exact Or.inr rfl))
        (pss_one (ps_expr (pe_bm PySem.F.plainAttrs_list PySem.F.slot_list_append PySem.F.type_list_append mt_append (pv 10) (pa_cons (g_call G_vessel_row (hr.mono (by decide)) hgd (by rfl) T.m_vessel_row T.F_vessel_row.kp T.b_vessel_row .nil pass0 (pa_cons (pv 0) (pa_cons pe_str (pa_cons (pv 5) (pa_cons (pv 3) pa_nil))))) pa_nil)))))
      (pss_cons (ps_set (i := 11) sc_world_rows.nd rfl (by first | exact Or.inl rfl | exact Or.inr rfl) (pe_lst pa_nil))
      (pss_cons (ps_for PassesOwn.never rfl (pi_list (pe_slice sl_list (pv 8) (po_some pe_int) (po_some (pe_op op_add pe_int (g_call G_take (hr.mono (by decide)) hgd (by rfl) T.m_take T.F_take.kp T.b_take .nil pass0 (pa_cons (pv 0) (pa_cons pe_int pa_nil))))))) (pg_name (i := 5) sc_world_rows.nd rfl (by first | exact Or.inl rfl | exact Or.inr rfl))
        (pss_one (ps_expr (pe_bm PySem.F.plainAttrs_list PySem.F.slot_list_append PySem.F.type_list_append mt_append (pv 11) (pa_cons (g_call G_vessel_row (hr.mono (by decide)) hgd (by rfl) T.m_vessel_row T.F_vessel_row.kp T.b_vessel_row .nil pass0 (pa_cons (pv 0) (pa_cons pe_str (pa_cons (pv 5) (pa_cons (pv 3) pa_nil))))) pa_nil)))))
      (pss_one (ps_ret (pe_lst (pa_cons (pv 1) (pa_cons (pv 3) (pa_cons (pv 4) (pa_cons (pv 10) (pa_cons (pv 11) pa_nil)))))))))))))))))))), ?_⟩
    walk_at "rd"
    refine ⟨b, 0, _, n, rfl, hB, by omega, by decide, by decide, by decide, fun beg H1 g0 g1 e1 B1 => ?_⟩
    walk_at "rd"
    (intro p1 hp1; generalize ep1 : upd _ p1 _ = J1; have N1 := New.of ep1 hp1; clear ep1 hp1)
    walk_at "rd"
    refine ⟨b, 5, _, rfl, B1.nw N1, by omega, by decide, by decide, fun dm H2 dm0 dm1 e2 B2 => ?_⟩
    obtain ⟨v, hv, hm, _⟩ := atI_some (xs := [V.int 1, V.int 2, V.int 3, V.int 4, V.int 8]) dm0 (by simpa using dm1)
    refine i_ixL (SqL.lst (e2 p1 _ (B1.off N1) N1.at_)) hv ?_
    obtain ⟨M, rfl, M1, M8⟩ : ∃ M : Nat, v = .int (M : Int) ∧ 1 ≤ M ∧ M ≤ 8 := by
      simp only [List.mem_cons, List.not_mem_nil, or_false] at hm
      rcases hm with h | h | h | h | h
      · exact ⟨1, h, by decide, by decide⟩
      · exact ⟨2, h, by decide, by decide⟩
      · exact ⟨3, h, by decide, by decide⟩
      · exact ⟨4, h, by decide, by decide⟩
      · exact ⟨8, h, by decide, by decide⟩
    walk_at "rd"
    refine ⟨b, M, _, rfl, B2, by omega, by omega, fun lp ps H3 flp e3 B3 klp lps nps ips => ?_⟩
    have npb : lp ≠ b := B2.ne flp
    walk_at "rd"
    (intro lc hlc; generalize elc : upd _ lc _ = J4; have N4 := New.of elc hlc; clear elc hlc)
    have ncb : lc ≠ b := B3.off N4
    have npc : lp ≠ lc := ne_of_none klp N4.free
    have e04 : But b H J4 := e1.trans (N1.but.trans (e2.trans (e3.trans N4.but)))
    walk_at "rd"
    (intro p5 hp5; generalize ep5 : upd _ p5 _ = J5; have N5 := New.of ep5 hp5; clear ep5 hp5)
    walk_at "rd"
    have B5 := (B3.nw N4).nw N5
    refine ⟨b, 6, _, rfl, B5, by omega, by decide, by decide, fun dc H6 dc0 dc1 e6 B6 => ?_⟩
    obtain ⟨v, hv, hm, _⟩ := atI_some (xs := [V.int 0, V.int 1, V.int 2, V.int 3, V.int 5, V.int 12]) dc0 (by simpa using dc1)
    refine i_ixL (SqL.lst (e6 p5 _ ((B3.nw N4).off N5) N5.at_)) hv ?_
    obtain ⟨C, rfl, C12⟩ : ∃ C : Nat, v = .int (C : Int) ∧ C ≤ 12 := by
      simp only [List.mem_cons, List.not_mem_nil, or_false] at hm
      rcases hm with h | h | h | h | h | h
      · exact ⟨0, h, by decide⟩
      · exact ⟨1, h, by decide⟩
      · exact ⟨2, h, by decide⟩
      · exact ⟨3, h, by decide⟩
      · exact ⟨5, h, by decide⟩
      · exact ⟨12, h, by decide⟩
    walk_at "rd"
    obtain ⟨C', eC, C'12, C'1⟩ : ∃ C' : Nat, ((C : Int) * if decide ((1 : Int) < (M : Int)) = true then 1 else 0) = (C' : Int) ∧ C' ≤ 12 ∧ (0 < C' → 1 < M) := by
      by_cases z : 1 < M
      · exact ⟨C, by rw [if_pos (decide_eq_true (by omega))]; simp, C12, fun _ => z⟩
      · exact ⟨0, by rw [if_neg (by simp; omega)]; simp, by omega, fun z => by omega⟩
    rw [eC]
    refine ⟨b, C', _, rfl, B6, by omega, by omega, fun ln ns H7 fln e7 B7 kln lns nns ins => ?_⟩
    have e07 : But b H H7 := e04.trans (N5.but.trans (e6.trans e7))
    have nnb : ln ≠ b := B6.ne fln
    have klc6 : H6 lc = some (.lst []) := e6 _ _ ncb (N5.app N4.at_)
    have nnc : ln ≠ lc := fun z => by rw [z, klc6] at fln; cases fln
    have hlcH : H lc = none := (e1.trans (N1.but.trans (e2.trans e3))).free ncb N4.free
    have klp6 : H6 lp = some (.lst (ps.map V.str)) := e6 _ _ npb (N5.app (N4.app klp))
    have npn : lp ≠ ln := ne_of_none klp6 fln
    refine ⟨ln, rfl, ⟨_, SqL.lst kln⟩, ?_⟩
    refine for_list (K := K) (a := ln) (xs := ns.map V.str) (fun i σ H' => ∃ cs : List (Addr × Cd), cs.length = i ∧ cs.map (·.2.n) = ns.take i ∧ (∀ z ∈ cs, z.2.ok ∧ z.2.o ∈ ps ∧ z.2.t ∈ ps) ∧ But b H H' ∧ Box H' b (n + 50 + 12 * i) ∧
        H' lp = some (.lst (ps.map V.str)) ∧ H' lc = some (.lst (crefs cs)) ∧ H' ln = some (.lst (ns.map V.str)) ∧ (∀ z ∈ cs, H' z.1 = some (.tup z.2.row)) ∧ ∃ z5 z6 z7, σ = [some (.ref b), some (.int beg), some (.int M), some (.ref lp), some (.ref lc), z5, z6, z7, none, none, none, none])
      ⟨[], rfl, rfl, by simp, e07, B7.mono (by omega), e7 _ _ npb klp6, e7 _ _ ncb klc6, kln, by simp, _, _, _, rfl⟩ (fun i σ H' _ h => by obtain ⟨_, _, _, _, _, _, _, _, h, _⟩ := h; exact SqL.lst h) ?_ ?_
    · rintro i x σ H' hx ⟨cs, hl, hnm, hok, eH, BH, klp', klc', kln', krow, z5, z6, z7, rfl⟩
      obtain ⟨nm, hnm', rfl⟩ := strs_get hx
      have hi : i < ns.length := (List.getElem?_eq_some_iff.mp hnm').1
      have M2 : 1 < M := C'1 (by omega)
      walk_at "rd"
      refine ⟨b, M, _, rfl, BH, by omega, by omega, by omega, fun at_ K1 a0 a1 f1 D1 => ?_⟩
      walk_at "rd"
      have mx : (if (M : Int) - 1 > 1 then (M : Int) - 1 else 1) = M - 1 := by split <;> omega
      rw [mx]
      refine ⟨b, (M : Int) - 1, _, rfl, D1, by omega, by omega, by omega, fun t K2 t0 t1 f2 D2 => ?_⟩
      walk_at "rd"
      obtain ⟨g1, hg1, mg1, ig1⟩ := pickS (ns := ps) a0 (by omega)
      refine i_ixL (SqL.lst (f2 _ _ npb (f1 _ _ npb klp'))) hg1 ?_
      walk_at "rd"
      have fm : Int.fmod (at_ + 1 + t) M = (at_ + 1 + t) % M := Int.fmod_eq_emod_of_nonneg _ (by omega)
      have fm0 : 0 ≤ (at_ + 1 + t) % (M : Int) := Int.emod_nonneg _ (by omega)
      have fm1 : (at_ + 1 + t) % (M : Int) < M := Int.emod_lt_of_pos _ (by omega)
      obtain ⟨g2, hg2, mg2, ig2⟩ := pickS (ns := ps) (d := Int.fmod (at_ + 1 + t) M) (by rw [fm]; exact fm0) (by rw [fm, lps]; exact fm1)
      refine i_ixL (SqL.lst (f2 _ _ npb (f1 _ _ npb klp'))) hg2 ?_
      walk_at "rd"
      refine ⟨b, _, _, _, _, rfl, D2, by omega, fun pr h d f g m K3 fpr f3 D3 kpr bh bd bf bg bm => ?_⟩
      have nrb : pr ≠ b := D2.ne fpr
      have f03 := f1.trans (f2.trans f3)
      have klc3 := f03 _ _ ncb klc'
      have len1 : (crefs cs).length + 1 ≤ sizeLine := sz_of (by rw [show (crefs cs).length = i by simp [crefs, hl]]; omega)
      refine ⟨lc, _, _, rfl, rfl, klc3, len1, ?_⟩
      have cok : Cd.ok ⟨nm, g1, g2, h, d, f, g, m⟩ := ⟨ins nm (List.mem_of_getElem? hnm'), ips g1 mg1, ips g2 mg2, nodup_ne nps ig1 ig2 (by rw [fm]; have := mod_ne a0 a1 t0 t1; omega), bh, bd, bf, bg, bm⟩
      refine ⟨cs ++ [(pr, ⟨nm, g1, g2, h, d, f, g, m⟩)], by simp [hl], ?_, ?_, (eH.trans f03).upd hlcH, (D3.upd ncb).mono (by omega), by rw [upd_ne npc]; exact f03 _ _ npb klp', ?_, by rw [upd_ne nnc]; exact f03 _ _ nnb kln', ?_, _, _, _, rfl⟩
      · rw [List.map_append, hnm, List.take_add_one, hnm']; rfl
      · intro z hz
        rcases List.mem_append.mp hz with h' | h'
        · exact hok z h'
        · have : z = (pr, ⟨nm, g1, g2, h, d, f, g, m⟩) := by simpa using h'
          subst this
          exact ⟨cok, mg1, mg2⟩
      · rw [upd_same]; simp [crefs]
      · intro z hz
        rcases List.mem_append.mp hz with h' | h'
        · have k := krow z h'
          have n1 : z.1 ≠ b := by
            obtain ⟨_, _, _, y, _⟩ := BH.ex
            exact ne_of k y (by intro y; cases y)
          have k3 := f03 _ _ n1 k
          rw [upd_ne (ne_of k3 klc3 (by intro y; cases y))]; exact k3
        · have : z = (pr, ⟨nm, g1, g2, h, d, f, g, m⟩) := by simpa using h'
          subst this
          show upd K3 lc _ pr = _
          rw [upd_ne (ne_of kpr klc3 (by intro y; cases y))]; exact kpr
    · rintro σ H8 ⟨cs, hl, hnm, hok, eH, BH, klp', klc', kln', krow, z5, z6, z7, rfl⟩
      rw [List.length_map] at hl BH hnm
      rw [List.take_length] at hnm
      walk_at "rd"
      refine ⟨b, 10, _, rfl, BH, by omega, by decide, fun vn vns H9 fvn e9 B9 kvn lvn nvn ivn => ?_⟩
      have nvb : vn ≠ b := BH.ne fvn
      walk_at "rd"
      refine ⟨b, 2, _, rfl, B9, by omega, by decide, by decide, fun bw H10 bw0 bw1 e10 B10 => ?_⟩
      walk_at "rd"
      refine ⟨vn, _, rfl, SqL.lst (e10 _ _ nvb kvn), ?_⟩
      (intro rv hrv; generalize erv : upd _ rv _ = J11; have N11 := New.of erv hrv; clear erv hrv)
      walk_at "rd"
      (intro pl hpl; generalize epl : upd _ pl _ = J12; have N12 := New.of epl hpl; clear epl hpl)
      walk_at "rd"
      have B12 := (B10.nw N11).nw N12
      have nrv : rv ≠ b := B10.off N11
      have kvn12 := N12.app (N11.app (e10 _ _ nvb kvn))
      have krv12 : J12 rv = some (.lst (vns.reverse.map V.str)) := by rw [List.map_reverse]; exact N12.app N11.at_
      obtain ⟨v, hv, hm, _⟩ := atI_some (xs := [V.ref vn, V.ref rv]) bw0 (by simpa using bw1)
      refine i_ixL (SqL.lst N12.at_) hv ?_
      obtain ⟨nl, vms, rfl, knl, nnl, lvm, nvm, ivm⟩ : ∃ (nl : Addr) (vms : List Str), v = .ref nl ∧ J12 nl = some (.lst (vms.map V.str)) ∧ nl ≠ b ∧ vms.length = 10 ∧ vms.Nodup ∧ ∀ x ∈ vms, isN (.str x) = true := by
        simp only [List.mem_cons, List.not_mem_nil, or_false] at hm
        rcases hm with rfl | rfl
        · exact ⟨vn, vns, rfl, kvn12, nvb, lvn, nvn, ivn⟩
        · exact ⟨rv, vns.reverse, rfl, krv12, nrv, by simp [lvn], (List.reverse_perm vns).nodup_iff.mpr nvn, fun x hx => ivn x (by simpa using hx)⟩
      walk_at "rd"
      (intro lb hlb; generalize elb : upd _ lb _ = J13; have N13 := New.of elb hlb; clear elb hlb)
      have B13 := B12.nw N13
      have nbb : lb ≠ b := B12.off N13
      have e813 : But b H8 J13 := e9.trans (e10.trans (N11.but.trans (N12.but.trans N13.but)))
      walk_at "rd"
      refine ⟨b, 5, _, rfl, B13, by omega, by decide, by decide, fun d1 H14 d10 d11 e14 B14 => ?_⟩
      walk_at "rd"
      obtain ⟨d1, rfl⟩ := Int.eq_ofNat_of_zero_le d10
      have d1' : d1 < 5 := by omega
      refine ⟨nl, _, rfl, SqL.lst (e14 _ _ nnl (N13.app knl)), ?_⟩
      rw [cutV_to _ (by rw [List.length_map, lvm]; omega), ← List.map_take]
      (intro l1 hl1; generalize el1 : upd _ l1 _ = J15; have N15 := New.of el1 hl1; clear el1 hl1)
      have B15 := B14.nw N15
      have e815 : But b H8 J15 := e813.trans (e14.trans N15.but)
      have hlbH : lb ≠ b → H lb = none := fun z => (eH.trans (e9.trans (e10.trans (N11.but.trans N12.but)))).free z N13.free
      have nl1b : l1 ≠ b := B14.off N15
      have klp15 := e815 _ _ npb klp'
      have klc15 := e815 _ _ ncb klc'
      have rowb : ∀ {x : Addr} {xs : List V} {h0 : Hp} {k : Nat}, Box h0 b k → h0 x = some (.tup xs) → x ≠ b := fun {x xs h0 k} B k => by
        obtain ⟨_, _, _, y, _⟩ := B.ex
        exact ne_of k y (by intro y; cases y)
      have krow15 : ∀ z ∈ cs, J15 z.1 = some (.tup z.2.row) := fun z hz => e815 _ _ (rowb BH (krow z hz)) (krow z hz)
      have klb15 : J15 lb = some (.lst []) := N15.app (e14 _ _ nbb N13.at_)
      have knl15 : J15 nl = some (.lst (vms.map V.str)) := N15.app (e14 _ _ nnl (N13.app knl))
      have nlpb : lp ≠ lb := ne_of_none (N12.app (N11.app (e10 _ _ npb (e9 _ _ npb klp')))) N13.free
      have nlcb : lc ≠ lb := ne_of_none (N12.app (N11.app (e10 _ _ ncb (e9 _ _ ncb klc')))) N13.free
      have nnlb : nl ≠ lb := ne_of_none knl N13.free
      have nl1l : l1 ≠ lb := fun z => by have := e14 _ _ nbb N13.at_; rw [← z, N15.free] at this; cases this
      refine ⟨l1, rfl, ⟨_, SqL.lst N15.at_⟩, ?_⟩
      have nsl : ns.length ≤ 12 := by omega
      refine for_list (K := K) (a := l1) (xs := (vms.take d1).map V.str) (fun i σ H' => ∃ bs : VL, bs.length = i ∧ bs.map (·.2.n) = (vms.take d1).take i ∧ (∀ z ∈ bs, z.2.ok ∧ z.2.k = .b ∧ z.2.p ∈ ps) ∧ But b H H' ∧ Box H' b (n + 220 + 10 * i) ∧
          H' lp = some (.lst (ps.map V.str)) ∧ H' lc = some (.lst (crefs cs)) ∧ (∀ z ∈ cs, H' z.1 = some (.tup z.2.row)) ∧ H' lb = some (.lst (refs bs)) ∧ H' nl = some (.lst (vms.map V.str)) ∧ H' l1 = some (.lst ((vms.take d1).map V.str)) ∧ (∀ z ∈ bs, H' z.1 = some (.tup z.2.row)) ∧
          ∃ z5 z6 z7 z9, σ = [some (.ref b), some (.int beg), some (.int M), some (.ref lp), some (.ref lc), z5, z6, z7, some (.ref nl), z9, some (.ref lb), none])
        ⟨[], rfl, rfl, by simp, eH.trans e815, B15.mono (by omega), klp15, klc15, krow15, klb15, knl15, N15.at_, by simp, _, _, _, _, rfl⟩ (fun i σ H' _ h => by obtain ⟨_, _, _, _, _, _, _, _, _, _, _, h, _⟩ := h; exact SqL.lst h) ?_ ?_
      · rintro i x σ H' hx ⟨bs, hlb, hnb, hokb, eH', BH', klp2, klc2, krow2, klb2, knl2, kl12, krb2, z5, z6, z7, z9, rfl⟩
        obtain ⟨nm, hnm', rfl⟩ := strs_get hx
        have hi : i < (vms.take d1).length := (List.getElem?_eq_some_iff.mp hnm').1
        have hi' : i < d1 := by rw [List.length_take] at hi; omega
        walk_at "rd"
        refine ⟨b, lp, .b, nm, ps, _, rfl, BH', by omega, npb, klp2, ivm nm (List.mem_of_mem_take (List.mem_of_getElem? hnm')), ⟨by omega, by omega, ips⟩, fun pr d K3 f3 D3 kpr dok dk dn dp _ => ?_⟩
        have klb3 := f3 _ _ nbb klb2
        have len1 : (refs bs).length + 1 ≤ sizeLine := sz_of (by rw [show (refs bs).length = i by simp [refs, hlb]]; omega)
        have hlr : ∀ {x : Addr} {xs : List V} {o : HO}, K3 x = some (.tup xs) → upd K3 lb o x = some (.tup xs) := fun {x xs o} k => by
          rw [upd_ne (ne_of k klb3 (by intro y; cases y))]; exact k
        refine ⟨lb, _, _, rfl, rfl, klb3, len1, ?_⟩
        refine ⟨bs ++ [(pr, d)], by simp [hlb], ?_, ?_, (eH'.trans f3).upd (hlbH nbb), (D3.upd nbb).mono (by omega), by rw [upd_ne nlpb]; exact f3 _ _ npb klp2, by rw [upd_ne nlcb]; exact f3 _ _ ncb klc2, fun z hz => hlr (f3 _ _ (rowb BH' (krow2 z hz)) (krow2 z hz)), ?_, by rw [upd_ne nnlb]; exact f3 _ _ nnl knl2, by rw [upd_ne nl1l]; exact f3 _ _ nl1b kl12, ?_, _, _, _, _, rfl⟩
        · rw [List.map_append, hnb, List.take_add_one, hnm', ← dn]; rfl
        · intro z hz
          rcases List.mem_append.mp hz with h' | h'
          · exact hokb z h'
          · have : z = (pr, d) := by simpa using h'
            subst this
            exact ⟨dok, dk, dp⟩
        · rw [upd_same]; simp [refs]
        · intro z hz
          rcases List.mem_append.mp hz with h' | h'
          · exact hlr (f3 _ _ (rowb BH' (krb2 z h')) (krb2 z h'))
          · have : z = (pr, d) := by simpa using h'
            subst this
            exact hlr kpr
      · rintro σ H16 ⟨bs, hlb, hnb, hokb, eH', BH', klp2, klc2, krow2, klb2, knl2, kl12, krb2, z5, z6, z7, z9, rfl⟩
        rw [List.length_map] at hlb hnb BH'
        rw [List.take_length] at hnb
        have ld1 : (vms.take d1).length = d1 := by rw [List.length_take]; omega
        rw [ld1] at hlb BH'
        walk_at "rd"
        (intro ls hls; generalize els : upd _ ls _ = J17; have N17 := New.of els hls; clear els hls)
        have nsb : ls ≠ b := BH'.off N17
        have B17 := BH'.nw N17
        walk_at "rd"
        refine ⟨b, 7, _, rfl, B17, by omega, by decide, by decide, fun d2 H18 d20 d21 e18 B18 => ?_⟩
        walk_at "rd"
        obtain ⟨d2, rfl⟩ := Int.eq_ofNat_of_zero_le d20
        have d2' : d2 < 7 := by omega
        refine ⟨nl, _, rfl, SqL.lst (e18 _ _ nnl (N17.app knl2)), ?_⟩
        rw [show (4 : Int) + (d2 : Int) = ((4 + d2 : Nat) : Int) by omega, show (4 : Int) = ((4 : Nat) : Int) from rfl, cutV_mid _ (by rw [List.length_map, lvm]; omega), ← List.map_drop, ← List.map_take]
        (intro l2 hl2; generalize el2 : upd _ l2 _ = J19; have N19 := New.of el2 hl2; clear el2 hl2)
        have B19 := B18.nw N19
        have e19 : But b H16 J19 := N17.but.trans (e18.trans N19.but)
        have hlsH : H ls = none := eH'.free nsb N17.free
        have nl2b : l2 ≠ b := B18.off N19
        have kls19 : J19 ls = some (.lst []) := N19.app (e18 _ _ nsb N17.at_)
        have nlps : lp ≠ ls := ne_of_none klp2 N17.free
        have nlcs : lc ≠ ls := ne_of_none klc2 N17.free
        have nlbs : lb ≠ ls := ne_of_none klb2 N17.free
        have nl2s : l2 ≠ ls := fun z => by have := e18 _ _ nsb N17.at_; rw [← z, N19.free] at this; cases this
        refine ⟨l2, rfl, ⟨_, SqL.lst N19.at_⟩, ?_⟩
        have lds : ((vms.drop 4).take d2).length = d2 := by rw [List.length_take, List.length_drop]; omega
        refine for_list (K := K) (a := l2) (xs := ((vms.drop 4).take d2).map V.str) (fun i σ H' => ∃ ss : VL, ss.length = i ∧ ss.map (·.2.n) = ((vms.drop 4).take d2).take i ∧ (∀ z ∈ ss, z.2.ok ∧ z.2.k = .s ∧ z.2.p ∈ ps ∧ z.2.g ∈ ps) ∧ But b H H' ∧ Box H' b (n + 300 + 10 * i) ∧
            H' lp = some (.lst (ps.map V.str)) ∧ H' lc = some (.lst (crefs cs)) ∧ (∀ z ∈ cs, H' z.1 = some (.tup z.2.row)) ∧ H' lb = some (.lst (refs bs)) ∧ (∀ z ∈ bs, H' z.1 = some (.tup z.2.row)) ∧ H' ls = some (.lst (refs ss)) ∧ H' l2 = some (.lst (((vms.drop 4).take d2).map V.str)) ∧ (∀ z ∈ ss, H' z.1 = some (.tup z.2.row)) ∧
            ∃ z5 z6 z7 z8 z9, σ = [some (.ref b), some (.int beg), some (.int M), some (.ref lp), some (.ref lc), z5, z6, z7, z8, z9, some (.ref lb), some (.ref ls)])
          ⟨[], rfl, rfl, by simp, eH'.trans e19, B19.mono (by omega), e19 _ _ npb klp2, e19 _ _ ncb klc2, fun z hz => e19 _ _ (rowb BH' (krow2 z hz)) (krow2 z hz), e19 _ _ nbb klb2, fun z hz => e19 _ _ (rowb BH' (krb2 z hz)) (krb2 z hz), kls19, N19.at_, by simp, _, _, _, _, _, rfl⟩ (fun i σ H' _ h => by obtain ⟨_, _, _, _, _, _, _, _, _, _, _, _, h, _⟩ := h; exact SqL.lst h) ?_ ?_
        · rintro i x σ H' hx ⟨ss, hls, hns, hoks, eH3, BH3, klp3, klc3, krow3, klb3, krb3, kls3, kl23, krs3, z5, z6, z7, z8, z9, rfl⟩
          obtain ⟨nm, hnm', rfl⟩ := strs_get hx
          have hi : i < ((vms.drop 4).take d2).length := (List.getElem?_eq_some_iff.mp hnm').1
          have hi' : i < d2 := by omega
          walk_at "rd"
          refine ⟨b, lp, .s, nm, ps, _, rfl, BH3, by omega, npb, klp3, ivm nm (List.mem_of_mem_drop (List.mem_of_mem_take (List.mem_of_getElem? hnm'))), ⟨by omega, by omega, ips⟩, fun pr d K3 f3 D3 kpr dok dk dn dp dg => ?_⟩
          have kls4 := f3 _ _ nsb kls3
          have len1 : (refs ss).length + 1 ≤ sizeLine := sz_of (by rw [show (refs ss).length = i by simp [refs, hls]]; omega)
          have hlr : ∀ {x : Addr} {xs : List V} {o : HO}, K3 x = some (.tup xs) → upd K3 ls o x = some (.tup xs) := fun {x xs o} k => by
            rw [upd_ne (ne_of k kls4 (by intro y; cases y))]; exact k
          refine ⟨ls, _, _, rfl, rfl, kls4, len1, ?_⟩
          refine ⟨ss ++ [(pr, d)], by simp [hls], ?_, ?_, (eH3.trans f3).upd hlsH, (D3.upd nsb).mono (by omega), by rw [upd_ne nlps]; exact f3 _ _ npb klp3, by rw [upd_ne nlcs]; exact f3 _ _ ncb klc3, fun z hz => hlr (f3 _ _ (rowb BH3 (krow3 z hz)) (krow3 z hz)), by rw [upd_ne nlbs]; exact f3 _ _ nbb klb3, fun z hz => hlr (f3 _ _ (rowb BH3 (krb3 z hz)) (krb3 z hz)), ?_, by rw [upd_ne nl2s]; exact f3 _ _ nl2b kl23, ?_, _, _, _, _, _, rfl⟩
          · rw [List.map_append, hns, List.take_add_one, hnm', ← dn]; rfl
          · intro z hz
            rcases List.mem_append.mp hz with h' | h'
            · exact hoks z h'
            · have : z = (pr, d) := by simpa using h'
              subst this
              exact ⟨dok, dk, dp, dg rfl⟩
          · rw [upd_same]; simp [refs]
          · intro z hz
            rcases List.mem_append.mp hz with h' | h'
            · exact hlr (f3 _ _ (rowb BH3 (krs3 z h')) (krs3 z h'))
            · have : z = (pr, d) := by simpa using h'
              subst this
              exact hlr kpr
        · rintro σ H20 ⟨ss, hls, hns, hoks, eH3, BH3, klp3, klc3, krow3, klb3, krb3, kls3, kl23, krs3, z5, z6, z7, z8, z9, rfl⟩
          rw [List.length_map] at hls hns BH3
          rw [List.take_length] at hns
          rw [lds] at hls BH3
          walk_at "rd"
          (intro pR hpR; generalize epR : upd _ pR _ = J21; have N21 := New.of epR hpR; clear epR hpR)
          refine q pR ⟨beg, lp, lc, lb, ls, ps, cs, bs, ss⟩ J21 (eH3.trans N21.but) ((BH3.nw N21).mono (by omega)) ⟨N21.at_, N21.app klp3, N21.app klc3, fun z hz => N21.app (krow3 z hz), N21.app klb3, fun z hz => N21.app (krb3 z hz), N21.app kls3, fun z hz => N21.app (krs3 z hz)⟩
            ⟨⟨g0, g1⟩, by show 1 ≤ ps.length; omega, by show ps.length ≤ 8; omega, nps, ips, by show cs.length ≤ 12; omega, ?_, hok, by show bs.length ≤ 4; omega, hokb, by show ss.length ≤ 6; omega, hoks, ?_⟩ (BH3.off N21)
          · show (cs.map (·.2.n)).Nodup
            rw [hnm]; exact nns
          · show ((bs ++ ss).map (·.2.n)).Nodup
            rw [List.map_append, hnb, hns]
            refine List.Nodup.sublist ?_ nvm
            have := ((List.take_sublist d1 (vms.take 4)).append (List.take_sublist d2 (vms.drop 4)))
            rwa [List.take_append_drop, List.take_take, Nat.min_eq_left (by omega)] at this
end

end Ice

set_option Elab.async false
set_option linter.all false
set_option maxRecDepth 100000
set_option maxHeartbeats 4000000
namespace Ice
open PySem PySem.Spec PyProof.Rows L2 TL
/-! side conditions, heaps, one step of a reading, and many -/
local macro_rules | `(tactic| walk_at "hp") => `(tactic| first | assumption | exact upd_same | exact New.at_ (by assumption) | (refine keepU ?_ (by assumption); walk_at "hp") | (refine New.app (by assumption) ?_; walk_at "hp") | (refine Same.app (by assumption) ?_; walk_at "hp") | (refine But.app (by assumption) (by assumption) ?_; walk_at "hp"))
local macro_rules | `(tactic| walk_at "sq") => `(tactic| first | assumption | exact SqL.lst (by walk_at "hp") | exact L2.Same.seq (New.same (by assumption)) (by assumption) | exact L2.Same.seq (by assumption) (by assumption))
local macro_rules | `(tactic| walk_at "len") => `(tactic| first | assumption | (simp only [List.length_cons, List.length_nil, List.length_append, List.length_map]; decide) | (refine Ice.sz_of ?_; simp only [List.length_cons, List.length_nil, List.length_append, List.length_map]; omega))
local macro_rules | `(tactic| walk_at "fresh") => `(tactic| (simp only [List.map_append, List.map_cons, List.map_nil, List.nil_append, List.cons_append]; decide +kernel))
local macro_rules | `(tactic| walk_at "sd") => `(tactic| first | assumption | (show _ ≠ _; omega) | exact Or.inl ⟨by omega, by omega⟩ | exact Or.inr ⟨by omega, by omega⟩ | exact ⟨by decide, by decide⟩ | exact ⟨by decide, by decide, by decide⟩ | exact ⟨by omega, by omega, by omega⟩)
/-! one step of a reading, and many -/
local macro_rules | `(tactic| walk_at "st") => `(tactic| first
  | with_reducible refine i_seq ?_
  | with_reducible refine i_if ?_
  | with_reducible refine i_next ?_
  | with_reducible refine i_ret ?_
  | with_reducible refine i_retN ?_
  | with_reducible refine i_drop ?_
  | with_reducible refine i_asg ?_
  | with_reducible refine i_gname ?_
  | with_reducible refine i_gsub ?_
  | ((with_reducible refine i_var (v := ?vv) ?hv ?_); (case hv => exact rfl))
  | with_reducible refine i_c ?_
  | with_reducible refine i_op ?_
  | with_reducible refine i_un ?_
  | with_reducible refine i_test ?_
  | with_reducible refine i_tB ?_
  | with_reducible refine i_and ?_
  | with_reducible refine i_or ?_
  | with_reducible refine i_not ?_
  | with_reducible refine i_andV ?_
  | with_reducible refine i_orV ?_
  | with_reducible refine i_notV ?_
  | with_reducible refine i_ifE ?_
  | with_reducible refine i_chain ?_
  | with_reducible refine i_bl ?_
  | with_reducible refine i_nil ?_
  | with_reducible refine i_cons ?_
  | with_reducible refine i_call ?_
  | with_reducible refine i_cb ?_
  | with_reducible refine i_rI0 ?_
  | with_reducible refine i_rU ?_
  | ((with_reducible refine i_rEq ?hs ?_); (case hs => exact rfl))
  | ((with_reducible refine i_rNe ?hs ?_); (case hs => exact rfl))
  | ((with_reducible refine i_rI ?hc ?_); (case hc => walk_at "sd"))
  | ((with_reducible refine i_ixL (xs := ?xs) (v := ?vv) ?hS ?he ?_); (case hS => walk_at "sq"); (case he => exact rfl))
  | ((with_reducible refine i_setL (xs := ?xs) (j := ?jj) ?hS ?he ?_); (case hS => walk_at "hp"); (case he => exact rfl))
  | with_reducible refine i_tup ?_
  | with_reducible refine i_lst ?_
  | with_reducible refine i_bm ?_
  | with_reducible refine i_bm0 ?_
  | with_reducible refine i_m1 ?_
  | with_reducible refine i_sl ?_
  | with_reducible refine i_nopart ?_
  | with_reducible refine i_part ?_
  | with_reducible refine i_int ?_
  | with_reducible refine i_str ?_
  | with_reducible refine i_for ?_
  | with_reducible refine i_yes ?_
  | ((with_reducible refine i_lenL (xs := ?xs) ?hS ?_); (case hS => walk_at "sq"))
  | ((with_reducible refine i_room ?hz ?_); (case hz => walk_at "len"))
  | with_reducible refine i_leT ?_
  | with_reducible refine i_notInS ?_
  | with_reducible refine i_inS ?_
  | with_reducible refine i_find ?_
  | with_reducible refine i_isB ?_
  | with_reducible refine i_max2 ?_
  | with_reducible refine i_min2 ?_
  | with_reducible exact trivial
  | with_reducible refine iteT ?_
  | with_reducible refine iteF ?_
  | with_reducible refine i_isstr ?_
  | with_reducible refine i_lc ?_
  | ((with_reducible refine i_cat (xs := ?xs) (zs := ?zs) ?ha ?hb ?hz ?_); (case ha => walk_at "hp"); (case hb => walk_at "hp"); (case hz => walk_at "len"))
  | ((with_reducible refine i_tyL (xs := ?xs) ?ha ?_); (case ha => walk_at "hp"))
  | with_reducible refine i_list ?_
  | with_reducible refine i_disp ?_
  | with_reducible refine i_pairs0 ?_
  | with_reducible refine i_pairs ?_
  | with_reducible refine i_newK ?_
  | with_reducible refine i_gcons ?_
  | with_reducible refine i_gnil ?_
  | with_reducible refine i_revL ?_
  | with_reducible refine i_rng1 ?_
  | ((with_reducible refine i_wipe ?hw ?_); (case hw => exact rfl))
  | with_reducible refine iteNT ?_
  | with_reducible refine iteNF ?_)
local macro_rules | `(tactic| walk_at "sx") => `(tactic| first
  | walk_at "st"
  | with_reducible refine i_kinit ?_
  | with_reducible refine i_ost ?_
  | with_reducible refine i_mkO ?_
  | with_reducible refine i_callE ?_
  | with_reducible refine i_makeE ?_
  | with_reducible refine i_xf ?_
  | with_reducible refine i_sfld ?_
  | with_reducible refine i_fld ?_
  | ((with_reducible refine i_ixT (xs := ?xs) (v := ?vv) ?hS ?he ?_); (case hS => exact SqT.tup (by walk_at "hp")); (case he => exact rfl))
  | with_reducible refine i_intB ?_
  | with_reducible refine i_runS ?_
  | with_reducible refine i_runN ?_
  | ((with_reducible refine i_xf1 (fs := ?ff) (v := ?vv) ?hx ?hl ?_); (case hx => walk_at "hp"); (case hl => exact rfl))
  | with_reducible refine i_methE ?_
  | with_reducible refine i_meth ?_
  | with_reducible refine i_make ?_
  | ((with_reducible refine i_obj (dx := ?dd) (fs := ?ff) ?hx ?hl ?_); (case hx => walk_at "hp"); (case hl => exact rfl))
  | ((with_reducible refine i_fld1 (C := ?CC) (dx := ?dd) (fs := ?ff) (v := ?vv) ?hx ?cl ?na ?hl ?_); (case hx => walk_at "hp"); (case cl => assumption); (case na => assumption); (case hl => exact rfl)))
local macro_rules | `(tactic| walk_at "sy") => `(tactic| first
  | walk_at "sx"
  | with_reducible refine i_dget ?_
  | with_reducible refine i_dget2 ?_
  | with_reducible refine i_dput ?_
  | with_reducible refine i_din ?_
  | ((with_reducible refine i_aug (x := ?vv) ?hx ?_); (case hx => exact rfl)))
local macro_rules | `(tactic| walk_at "rd") => `(tactic| repeat (walk_at "sy"))

theorem un64 {k : Nat} {A : Around} (hr : Room k A) : A.units + 64 < cLine := by have := hr.un; omega
theorem i_enumL {K : PySem.W.Frag} {ta : TA} {σ : L2.St} {H : Hp} {R : It → Hp → Prop} (h : ta σ H fun vs H1 => ∃ a xs, vs = [.ref a] ∧ SqL K H1 a xs ∧ R (Ite K a) H1) : iEnum K ta σ H R := h
/-- a loop over enumerate of a list -/
theorem for_enumL {K : PySem.W.Frag} {a : Addr} {xs : List V} {g : TG} {tb : TS} {D : Ends} {σ : L2.St} {H : Hp} (Pv : Nat → L2.St → Hp → Prop) (h0 : Pv 0 σ H) (hq : ∀ i σ H, Pv i σ H → SqL K H a xs)
    (hs : ∀ (i : Nat) (x : V) (T : Addr) (σ : L2.St) (H : Hp), xs[i]? = some x → Pv i σ H → H T = none → g (.ref T) σ (upd H T (.tup [.int (i : Nat), x])) fun σ2 H2 => tb { D with nx := Pv (i + 1), ct := Pv (i + 1), bk := D.nx } σ2 H2) (hd : ∀ σ H, Pv xs.length σ H → D.nx σ H) :
    ∃ W : Nat → Nat → L2.St → Hp → Prop, (∃ m, W 0 m σ H) ∧ ∀ i m σ H, W i m σ H →
      ((Ite K a).stop i H ∧ D.nx σ H) ∨ ((Ite K a).go i H ∧ ∃ N : L2.St → Hp → Prop, (∀ σ' H', N σ' H' → ∃ m', m' < m ∧ W (i + 1) m' σ' H') ∧ ∀ v H', (Ite K a).yld i H v H' → g v σ H' fun σ2 H2 => tb { D with nx := N, ct := N, bk := D.nx } σ2 H2) := by
  refine ⟨fun i m σ H => m = xs.length - i ∧ i ≤ xs.length ∧ Pv i σ H, ⟨_, rfl, Nat.zero_le _, h0⟩, ?_⟩
  rintro i m σ H ⟨rfl, hi, pv⟩
  have qx := hq i σ H pv
  rcases Nat.lt_or_eq_of_le hi with lt | e
  · refine .inr ⟨⟨xs, _, qx, List.getElem?_eq_getElem lt⟩, Pv (i + 1), fun σ' H' p' => ⟨_, Nat.sub_lt_sub_left lt (Nat.lt_succ_self i), rfl, lt, p'⟩, ?_⟩
    rintro v H' ⟨T, x, rfl, hT, rfl, f1⟩
    exact hs i x T σ H (f1 xs qx) pv hT
  · subst e
    exact .inl ⟨⟨xs, qx, Nat.le_refl _⟩, hd σ H pv⟩

section
variable {P : Program} {w : World} {K : PySem.W.Frag} {mg : Str → Option Value} {base : Heap}
/-- a thing of any kind that stands apart from the box b -/
inductive OddC (b : Addr) (H : Hp) : V → Prop
  | ps {v : V} {r : PyData} : Ps v r → OddC b H v
  | lst0 {p : Addr} : p ≠ b → H p = some (.lst []) → OddC b H (.ref p)
  | lst1 {p : Addr} : p ≠ b → H p = some (.lst [.str (Str.ofString "a")]) → OddC b H (.ref p)
  | tup0 {p : Addr} : p ≠ b → H p = some (.tup []) → OddC b H (.ref p)
  | dct0 {p : Addr} : p ≠ b → H p = some (.dK []) → OddC b H (.ref p)
theorem OddC.but {b : Addr} {H H' : Hp} {v : V} (e : But b H H') (h : OddC b H v) : OddC b H' v := by
  cases h with
  | ps h => exact .ps h
  | lst0 n h => exact .lst0 n (e _ _ n h)
  | lst1 n h => exact .lst1 n (e _ _ n h)
  | tup0 n h => exact .tup0 n (e _ _ n h)
  | dct0 n h => exact .dct0 n (e _ _ n h)
theorem OddC.th {b : Addr} {H : Hp} {v : V} (h : OddC b H v) : Th H v := by
  cases h with
  | ps h =>
    cases h with
    | non => exact .inr ⟨_, .non⟩
    | bl b => exact .inr ⟨_, .bl b⟩
    | int h => exact .inr ⟨_, .int _⟩
    | str h _ => exact .inl ⟨_, rfl, h⟩
  | lst0 n h => exact .inr ⟨_, .lst h⟩
  | lst1 n h => exact .inr ⟨_, .lst h⟩
  | tup0 n h => exact .inr ⟨_, .tup h⟩
  | dct0 n h => exact .inr ⟨_, .dct h⟩
theorem OddC.asc {b : Addr} {H : Hp} {v : V} (h : OddC b H v) : ∀ s, v = .str s → ∀ c ∈ s.cps.toList, c < 128 := by
  rintro s rfl
  cases h with
  | ps h => cases h with
    | str _ h => exact h
theorem OddC.int {b : Addr} {H : Hp} {i : Int} (h : i.natAbs < 10 ^ 60) : OddC b H (.int i) := .ps (.int h)
theorem OddC.str {b : Addr} {H : Hp} {x : Str} (h : x.length ≤ 64) (h2 : ∀ c ∈ x.cps.toList, c < 128) : OddC b H (.str x) := .ps (.str h h2)
theorem ps_a : Ps (.str (Str.ofString "a")) (.str (Str.ofString "a")) := .str (by decide +kernel) (by decide +kernel)
theorem OddC.rp {b : Addr} {H : Hp} {v : V} (h : OddC b H v) : ∃ r, Rp K H v r := by
  cases h with
  | ps h => exact ⟨_, h.rp⟩
  | lst0 n h => exact ⟨_, Rp.lstP h .nil (by simp)⟩
  | lst1 n h => exact ⟨_, Rp.lstP h (.cons ps_a .nil) (by simp)⟩
  | tup0 n h => exact ⟨_, Rp.tupP h .nil (by simp)⟩
  | dct0 n h => exact ⟨_, Rp.dct0 h⟩
def oddS : List Str := [Str.ofString "", Str.ofString "A", Str.ofString "abcdefghi", Str.ofString "a b", Str.ofString "a1", Str.ofString "ab"]
def spOdd : Sp := fun vs H Q _ => ∃ (b : Addr) (n : Nat), vs = [.ref b] ∧ Box H b n ∧ n ≤ 800 ∧ ∀ (v : V) (H' : Hp), But b H H' → Box H' b (n + 1) → OddC b H' v → (∀ s, v = .str s → s ∈ oddS) → Q v H'
theorem ok_odd (T : Top K mg) : FnG P w K mg base CX0 2 T.a_odd T.d_odd ["_law_box_here"] spOdd := by
  have G_take := ok_take (P := P) (w := w) (base := base) T
  refine okG T.F_odd sc_odd (fun vs H Q E h => ?_) (fun cdv A outer s H vs Q E hr hgd h => ?_)
  · obtain ⟨b, n, rfl, _⟩ := h
    rfl
  · obtain ⟨b, n, rfl, hB, hn, q⟩ := h
    refine ⟨_, (pss_cons (ps_set (i := 1) sc_odd.nd rfl (by first | exact Or.inl rfl | exact Or.inr rfl) (pe_lst (pa_cons pe_non (pa_cons pe_bl (pa_cons pe_bl (pa_cons (pe_un un_neg pe_int) (pa_cons (pe_op op_pow pe_int pe_int) (pa_cons pe_str (pa_cons pe_str (pa_cons pe_str (pa_cons pe_str (pa_cons pe_str (pa_cons (pe_lst pa_nil) (pa_cons (pe_tup pa_nil) pa_nil))))))))))))))
      (pss_one (ps_ret (pe_ix ix_list (pe_op op_cat (pv 1) (pe_lst (pa_cons (pe_lst (pa_cons pe_str pa_nil)) (pa_cons pe_dnewK (pa_cons pe_int (pa_cons pe_int (pa_cons pe_int (pa_cons pe_str pa_nil)))))))) (g_call G_take (hr.mono (by decide)) hgd (by rfl) T.m_take T.F_take.kp T.b_take .nil pass0 (pa_cons (pv 0) (pa_cons pe_int pa_nil))) (fun _ _ => rfl))))), ?_⟩
    walk_at "rd"
    (intro p1 hp1; generalize ep1 : upd _ p1 _ = J1; have N1 := New.of ep1 hp1; clear ep1 hp1)
    have C1 := hB.nw N1; have n1 := hB.off N1
    walk_at "rd"
    (intro p2 hp2; generalize ep2 : upd _ p2 _ = J2; have N2 := New.of ep2 hp2; clear ep2 hp2)
    have C2 := C1.nw N2; have n2 := C1.off N2
    walk_at "rd"
    (intro p3 hp3; generalize ep3 : upd _ p3 _ = J3; have N3 := New.of ep3 hp3; clear ep3 hp3)
    have C3 := C2.nw N3; have n3 := C2.off N3
    walk_at "rd"
    (intro p4 hp4; generalize ep4 : upd _ p4 _ = J4; have N4 := New.of ep4 hp4; clear ep4 hp4)
    have C4 := C3.nw N4; have n4 := C3.off N4
    walk_at "rd"
    (intro p5 hp5; generalize ep5 : upd _ p5 _ = J5; have N5 := New.of ep5 hp5; clear ep5 hp5)
    have C5 := C4.nw N5; have n5 := C4.off N5
    walk_at "rd"
    (intro p6 hp6; generalize ep6 : upd _ p6 _ = J6; have N6 := New.of ep6 hp6; clear ep6 hp6)
    have C6 := C5.nw N6; have n6 := C5.off N6
    walk_at "rd"
    (intro p7 hp7; generalize ep7 : upd _ p7 _ = J7; have N7 := New.of ep7 hp7; clear ep7 hp7)
    have C7 := C6.nw N7; have n7 := C6.off N7
    walk_at "rd"
    refine ⟨b, 18, n, rfl, C7, by omega, by decide, by decide, fun d H2 d0 d1 e2 B2 => ?_⟩
    have k7 : H2 p7 = some _ := e2 p7 _ n7 N7.at_
    obtain ⟨v, hv, hm, _⟩ := atI_some (xs := [V.non, V.bl true, V.bl false, V.int (-1), V.int (10 ^ Int.toNat 39), V.str (Str.ofString ""), V.str (Str.ofString "A"), V.str (Str.ofString "abcdefghi"), V.str (Str.ofString "a b"), V.str (Str.ofString "a1"), V.ref p1, V.ref p2] ++
      [V.ref p4, V.ref p5, V.int 1001, V.int 1000001, V.int 0, V.str (Str.ofString "ab")]) d0 (by simpa using d1)
    refine i_ixL (SqL.lst k7) hv ?_
    have k1 : H2 p1 = some (.lst []) := by walk_at "hp"
    have k2 : H2 p2 = some (.tup []) := by walk_at "hp"
    have k4 : H2 p4 = some (.lst [V.str (Str.ofString "a")]) := by walk_at "hp"
    have k5 : H2 p5 = some (.dK []) := by walk_at "hp"
    have eN : But b H H2 := N1.but.trans (N2.but.trans (N3.but.trans (N4.but.trans (N5.but.trans (N6.but.trans (N7.but.trans e2))))))
    refine q _ _ eN B2 ?_ ?_
    rotate_left
    · rintro s rfl
      simp only [List.cons_append, List.nil_append, List.mem_cons, List.not_mem_nil, or_false] at hm
      rcases hm with h | h | h | h | h | h | h | h | h | h | h | h | h | h | h | h | h | h
      all_goals first | (cases h; decide +kernel) | (injection h with h; subst h; decide +kernel) | cases h
    simp only [List.cons_append, List.nil_append, List.mem_cons, List.not_mem_nil, or_false] at hm
    have m1 : p1 ≠ b := n1
    rcases hm with rfl | rfl | rfl | rfl | rfl | rfl | rfl | rfl | rfl | rfl | rfl | rfl | rfl | rfl | rfl | rfl | rfl | rfl
    · exact .ps .non
    · exact .ps (.bl _)
    · exact .ps (.bl _)
    · exact .int (by decide)
    · exact .int (by decide)
    · exact .str (by decide +kernel) (by decide +kernel)
    · exact .str (by decide +kernel) (by decide +kernel)
    · exact .str (by decide +kernel) (by decide +kernel)
    · exact .str (by decide +kernel) (by decide +kernel)
    · exact .str (by decide +kernel) (by decide +kernel)
    · exact .lst0 n1 k1
    · exact .tup0 n2 k2
    · exact .lst1 n4 k4
    · exact .dct0 n5 k5
    · exact .int (by decide)
    · exact .int (by decide)
    · exact .int (by decide)
    · exact .str (by decide +kernel) (by decide +kernel)
end

section
variable {P : Program} {w : World} {K : PySem.W.Frag} {mg : Str → Option Value} {base : Heap}
def spLName (K : PySem.W.Frag) : Sp := fun vs H Q _ => ∃ v, vs = [v] ∧ (Th H v ∨ NoT K H v) ∧ (∀ s, v = .str s → ∀ c ∈ s.cps.toList, c < 128) ∧ ∀ H', Same H H' → Q (.bl (isN v)) H'
def notLow (c : Nat) : Bool := !decide (97 ≤ c ∧ c ≤ 122)
theorem ones_ps : ∀ {l : List Nat}, (∀ c ∈ l, c < 128) → PsAll (l.map fun c => V.str ⟨#[c]⟩) (l.map fun c => PyData.str ⟨#[c]⟩)
  | [], _ => .nil
  | c :: l, h => .cons (.str (show 1 ≤ 64 by decide) (fun z hz => by have : z = c := by simpa using hz
                                                                     rw [this]; exact h c (List.mem_cons_self ..))) (ones_ps fun z hz => h z (List.mem_cons_of_mem _ hz))
theorem eqv_empty (ds : List PyData) : PyData.eqv (.list ds) (.list []) = ds.isEmpty := by cases ds <;> rfl
theorem low_filter {s : Str} (h1 : 1 ≤ s.length) (h2 : s.length ≤ 8) : ((((tl s).filter notLow).map fun c => PyData.str ⟨#[c]⟩).isEmpty) = isN (.str s) := by
  show _ = decide (1 ≤ s.length ∧ s.length ≤ 8 ∧ ∀ c ∈ tl s, 97 ≤ c ∧ c ≤ 122)
  rw [Bool.eq_iff_iff, decide_eq_true_iff, List.isEmpty_iff, List.map_eq_nil_iff, List.filter_eq_nil_iff]
  simp only [notLow]
  constructor
  · intro h
    exact ⟨h1, h2, fun c hc => by simpa using h c hc⟩
  · rintro ⟨_, _, h⟩ c hc
    simpa using h c hc
theorem ok_l_is_name (T : Top K mg) : FnG P w K mg base CX0 1 T.a_l_is_name T.d_l_is_name ["_law_thing"] (spLName K) := by
  refine okG T.F_l_is_name sc_l_is_name (fun vs H Q E h => ?_) (fun cdv A outer s H vs Q E hr hgd h => ?_)
  · obtain ⟨v, rfl, _⟩ := h
    rfl
  · obtain ⟨v, rfl, th, as, q⟩ := h
    have hu64 : _ := un64 hr
    refine ⟨_, (pss_cons (ps_if (PW.pt (pw_or (pt_not (pt_val (pe_callB c_isi (by rfl) T.n_isinstance (by decide +kernel) (pa_cons (pv 0) (pa_cons (pe_bltn (v := .ty "str") (by rfl) T.n_str (by decide +kernel) rfl) pa_nil))))) (pw_or1 (pt_not (pt_chain op_lt op_lt pe_int (pe_callB c_lenS (by rfl) T.n_len (by decide +kernel) (pa_cons (pv 0) pa_nil)) pe_int)))))
        (pss_one (ps_ret pe_bl))
        pss_nil)
      (pss_one (ps_ret (pe_cmpR (op_eqD hu64) (pe_lc (own := [("_law_sign", 1)]) (g := gName 1) rfl sc_l_is_name.nd (pi_str (pv 0)) (blkOk_by (own := [("_law_sign", 1)]) (N := ["_law_thing", "_law_sign"]) (sc := defScope s_l_is_name) (by decide +kernel)) (fun _ _ _ _ _ => (pg_name (i := 1) sc_l_is_name.nd rfl (by first | exact Or.inl rfl | exact Or.inr rfl))) (fun _ _ _ _ _ => (pts_one (pt_cmpR op_notInS (pv 1) pe_str (by rfl)))) (fun _ _ _ _ _ => (pv 1))) (pe_lst pa_nil) (nomark _))))), ?_⟩
    rcases th with (⟨s, rfl, hs⟩ | ⟨n, hn⟩) | ⟨t, ty, kk, en⟩
    · have hz : s.length ≤ sizeLine := sz_of (by omega)
      walk_at "rd"
      refine i_isi ty_str (b := true) (by decide +kernel) ?_
      walk_at "rd"
      refine i_lenS hz ?_
      walk_at "rd"
      have e : isN (.str s) = decide (1 ≤ s.length ∧ s.length ≤ 8 ∧ ∀ c ∈ tl s, 97 ≤ c ∧ c ≤ 122) := rfl
      refine ifs (fun h1 => ?_) (fun h1 => ?_)
      · walk_at "rd"
        refine ifs (fun h2 => ?_) (fun h2 => ?_)
        · walk_at "rd"
          rw [e, decide_eq_false (fun z => by simp at h2; omega)] at q
          exact q _ (Same.refl _)
        · walk_at "rd"
          refine ⟨.str s, rfl, s, rfl, fun D hD => ?_⟩
          have lz : s.length = (tl s).length := (tl_len s).symm
          refine lc_text (fun i H' => H' = upd H D (.lst ((((tl s).take i).filter notLow).map fun c => V.str ⟨#[c]⟩))) rfl ?_ ?_
          · rintro i c H' hc rfl
            have al : (c ∈ (Str.ofString "abcdefghijklmnopqrstuvwxyz").cps.toList) ↔ (97 ≤ c ∧ c ≤ 122) := by
              rw [show (Str.ofString "abcdefghijklmnopqrstuvwxyz").cps.toList = List.range' 97 26 by decide +kernel, List.mem_range'_1]
              omega
            have tk : (tl s).take (i + 1) = (tl s).take i ++ [c] := by rw [List.take_add_one, hc]; rfl
            walk_at "rd"
            simp only [al]
            refine ifs (fun h3 => ?_) (fun h3 => ?_)
            · walk_at "rd"
              refine ⟨_, upd_same, ?_, ?_⟩
              · rw [List.length_map]
                refine small1000 ?_
                have := List.length_filter_le notLow ((tl s).take i)
                rw [List.length_take] at this
                omega
              · rw [upd_upd, tk, List.filter_append, List.filter_cons, if_pos (show notLow c = true from h3), List.filter_nil, List.map_append]
                rfl
            · rw [tk, List.filter_append, List.filter_cons, if_neg (show ¬ notLow c = true from by rw [show notLow c = false from h3]; decide), List.filter_nil, List.append_nil]
          · rintro H' rfl
            rw [List.take_length]
            generalize eJ : upd H D _ = J
            have N : New H D _ J := New.of eJ hD
            walk_at "rd"
            (intro p2 hp2; generalize ep2 : upd _ p2 _ = J2; have N2 := New.of ep2 hp2; clear ep2 hp2)
            have ps : PsAll (((tl s).filter notLow).map fun c => V.str ⟨#[c]⟩) (((tl s).filter notLow).map fun c => PyData.str ⟨#[c]⟩) := ones_ps fun c hc => as s rfl c (List.mem_filter.mp hc).1
            refine ⟨_, .list [], .lst (SqL.lst (N2.app N.at_)) ps.dp, .lst (SqL.lst N2.at_) .nil, ps.shapedL, rfl, ?_⟩
            rw [eqv_empty, low_filter (by simp at h1; omega) (by simp at h2; omega)]
            exact q _ (N.same.trans N2.same)
      · walk_at "rd"
        rw [e, decide_eq_false (fun z => by simp at h1; omega)] at q
        exact q _ (Same.refl _)
    · rw [hn.isN] at q
      walk_at "rd"
      refine i_isi hn.tyx hn.noStr ?_
      walk_at "rd"
      exact q _ (Same.refl _)
    · rw [en] at q
      walk_at "rd"
      refine i_isiC ty kk ?_
      walk_at "rd"
      exact q _ (Same.refl _)
end


end Ice

set_option Elab.async false
set_option linter.all false
set_option maxRecDepth 100000
set_option maxHeartbeats 4000000
namespace Ice
open PySem PySem.Spec PyProof.Rows L2 TL
/-! side conditions, heaps, one step of a reading, and many -/
local macro_rules | `(tactic| walk_at "hp") => `(tactic| first | assumption | exact upd_same | exact New.at_ (by assumption) | (refine keepU ?_ (by assumption); walk_at "hp") | (refine New.app (by assumption) ?_; walk_at "hp") | (refine Same.app (by assumption) ?_; walk_at "hp") | (refine But.app (by assumption) (by assumption) ?_; walk_at "hp"))
local macro_rules | `(tactic| walk_at "sq") => `(tactic| first | assumption | exact SqL.lst (by walk_at "hp") | exact L2.Same.seq (New.same (by assumption)) (by assumption) | exact L2.Same.seq (by assumption) (by assumption))
local macro_rules | `(tactic| walk_at "len") => `(tactic| first | assumption | (simp only [List.length_cons, List.length_nil, List.length_append, List.length_map]; decide) | (refine Ice.sz_of ?_; simp only [List.length_cons, List.length_nil, List.length_append, List.length_map]; omega))
local macro_rules | `(tactic| walk_at "fresh") => `(tactic| (simp only [List.map_append, List.map_cons, List.map_nil, List.nil_append, List.cons_append]; decide +kernel))
local macro_rules | `(tactic| walk_at "sd") => `(tactic| first | assumption | (show _ ≠ _; omega) | exact Or.inl ⟨by omega, by omega⟩ | exact Or.inr ⟨by omega, by omega⟩ | exact ⟨by decide, by decide⟩ | exact ⟨by decide, by decide, by decide⟩ | exact ⟨by omega, by omega, by omega⟩)
/-! one step of a reading, and many -/
local macro_rules | `(tactic| walk_at "st") => `(tactic| first
  | with_reducible refine i_seq ?_
  | with_reducible refine i_if ?_
  | with_reducible refine i_next ?_
  | with_reducible refine i_ret ?_
  | with_reducible refine i_retN ?_
  | with_reducible refine i_drop ?_
  | with_reducible refine i_asg ?_
  | with_reducible refine i_gname ?_
  | with_reducible refine i_gsub ?_
  | ((with_reducible refine i_var (v := ?vv) ?hv ?_); (case hv => exact rfl))
  | with_reducible refine i_c ?_
  | with_reducible refine i_op ?_
  | with_reducible refine i_un ?_
  | with_reducible refine i_test ?_
  | with_reducible refine i_tB ?_
  | with_reducible refine i_and ?_
  | with_reducible refine i_or ?_
  | with_reducible refine i_not ?_
  | with_reducible refine i_andV ?_
  | with_reducible refine i_orV ?_
  | with_reducible refine i_notV ?_
  | with_reducible refine i_ifE ?_
  | with_reducible refine i_chain ?_
  | with_reducible refine i_bl ?_
  | with_reducible refine i_nil ?_
  | with_reducible refine i_cons ?_
  | with_reducible refine i_call ?_
  | with_reducible refine i_cb ?_
  | with_reducible refine i_rI0 ?_
  | with_reducible refine i_rU ?_
  | ((with_reducible refine i_rEq ?hs ?_); (case hs => exact rfl))
  | ((with_reducible refine i_rNe ?hs ?_); (case hs => exact rfl))
  | ((with_reducible refine i_rI ?hc ?_); (case hc => walk_at "sd"))
  | ((with_reducible refine i_ixL (xs := ?xs) (v := ?vv) ?hS ?he ?_); (case hS => walk_at "sq"); (case he => exact rfl))
  | ((with_reducible refine i_setL (xs := ?xs) (j := ?jj) ?hS ?he ?_); (case hS => walk_at "hp"); (case he => exact rfl))
  | with_reducible refine i_tup ?_
  | with_reducible refine i_lst ?_
  | with_reducible refine i_bm ?_
  | with_reducible refine i_bm0 ?_
  | with_reducible refine i_m1 ?_
  | with_reducible refine i_sl ?_
  | with_reducible refine i_nopart ?_
  | with_reducible refine i_part ?_
  | with_reducible refine i_int ?_
  | with_reducible refine i_str ?_
  | with_reducible refine i_for ?_
  | with_reducible refine i_yes ?_
  | ((with_reducible refine i_lenL (xs := ?xs) ?hS ?_); (case hS => walk_at "sq"))
  | ((with_reducible refine i_room ?hz ?_); (case hz => walk_at "len"))
  | with_reducible refine i_leT ?_
  | with_reducible refine i_notInS ?_
  | with_reducible refine i_inS ?_
  | with_reducible refine i_find ?_
  | with_reducible refine i_isB ?_
  | with_reducible refine i_max2 ?_
  | with_reducible refine i_min2 ?_
  | with_reducible exact trivial
  | with_reducible refine iteT ?_
  | with_reducible refine iteF ?_
  | with_reducible refine i_isstr ?_
  | with_reducible refine i_lc ?_
  | ((with_reducible refine i_cat (xs := ?xs) (zs := ?zs) ?ha ?hb ?hz ?_); (case ha => walk_at "hp"); (case hb => walk_at "hp"); (case hz => walk_at "len"))
  | ((with_reducible refine i_tyL (xs := ?xs) ?ha ?_); (case ha => walk_at "hp"))
  | with_reducible refine i_list ?_
  | with_reducible refine i_disp ?_
  | with_reducible refine i_pairs0 ?_
  | with_reducible refine i_pairs ?_
  | with_reducible refine i_newK ?_
  | with_reducible refine i_gcons ?_
  | with_reducible refine i_gnil ?_
  | with_reducible refine i_revL ?_
  | with_reducible refine i_rng1 ?_
  | ((with_reducible refine i_wipe ?hw ?_); (case hw => exact rfl))
  | with_reducible refine iteNT ?_
  | with_reducible refine iteNF ?_)
local macro_rules | `(tactic| walk_at "sx") => `(tactic| first
  | walk_at "st"
  | with_reducible refine i_kinit ?_
  | with_reducible refine i_ost ?_
  | with_reducible refine i_mkO ?_
  | with_reducible refine i_callE ?_
  | with_reducible refine i_makeE ?_
  | with_reducible refine i_xf ?_
  | with_reducible refine i_sfld ?_
  | with_reducible refine i_fld ?_
  | ((with_reducible refine i_ixT (xs := ?xs) (v := ?vv) ?hS ?he ?_); (case hS => exact SqT.tup (by walk_at "hp")); (case he => exact rfl))
  | with_reducible refine i_intB ?_
  | with_reducible refine i_runS ?_
  | with_reducible refine i_runN ?_
  | ((with_reducible refine i_xf1 (fs := ?ff) (v := ?vv) ?hx ?hl ?_); (case hx => walk_at "hp"); (case hl => exact rfl))
  | with_reducible refine i_methE ?_
  | with_reducible refine i_meth ?_
  | with_reducible refine i_make ?_
  | ((with_reducible refine i_obj (dx := ?dd) (fs := ?ff) ?hx ?hl ?_); (case hx => walk_at "hp"); (case hl => exact rfl))
  | ((with_reducible refine i_fld1 (C := ?CC) (dx := ?dd) (fs := ?ff) (v := ?vv) ?hx ?cl ?na ?hl ?_); (case hx => walk_at "hp"); (case cl => assumption); (case na => assumption); (case hl => exact rfl)))
local macro_rules | `(tactic| walk_at "sy") => `(tactic| first
  | walk_at "sx"
  | with_reducible refine i_dget ?_
  | with_reducible refine i_dget2 ?_
  | with_reducible refine i_dput ?_
  | with_reducible refine i_din ?_
  | ((with_reducible refine i_aug (x := ?vv) ?hx ?_); (case hx => exact rfl)))
local macro_rules | `(tactic| walk_at "rd") => `(tactic| repeat (walk_at "sy"))

section
variable {P : Program} {w : World} {K : PySem.W.Frag} {mg : Str → Option Value} {base : Heap}
def kindT : Nat → Str
  | 0 => Str.ofString "ports"
  | 1 => Str.ofString "channels"
  | 2 => Str.ofString "breakers"
  | _ => Str.ofString "ships"
def kindP : Nat → Mk → Bool
  | 0 => Mk.isN
  | 1 => Mk.isC
  | 2 => Mk.isB
  | _ => Mk.isS
def MkA (m : Mk) : Prop := ∀ s, m.v = .str s → ∀ c ∈ s.cps.toList, c < 128
def spOfKind (T : Top K mg) : Sp := fun vs H Q _ => ∃ (k : Nat) (m : Mk), k < 4 ∧ vs = [.str (kindT k), m.v] ∧ MkT T H m ∧ MkA m ∧ ∀ H', Same H H' → Q (.bl (kindP k m)) H'
theorem ok_of_kind (T : Top K mg) : FnG P w K mg base CX0 2 T.a_of_kind T.d_of_kind ["_law_word", "_law_thing"] (spOfKind T) := by
  have G_l_is_name := ok_l_is_name (P := P) (w := w) (base := base) T
  refine okG T.F_of_kind sc_of_kind (fun vs H Q E h => ?_) (fun cdv A outer s H vs Q E hr hgd h => ?_)
  · obtain ⟨k, m, _, rfl, _⟩ := h
    rfl
  · obtain ⟨k, m, hk, rfl, mt, ma, q⟩ := h
    obtain ⟨t, ty, t1, t2, t3⟩ := mt.ty
    obtain ⟨n1, n2⟩ := mt.name
    refine ⟨_, (pss_cons (ps_if (pt_cmpR op_eq (pv 0) pe_str (nomark _))
        (pss_one (ps_ret (g_call G_l_is_name (hr.mono (by decide)) hgd (by rfl) T.m_l_is_name T.F_l_is_name.kp T.b_l_is_name .nil pass0 (pa_cons (pv 1) pa_nil))))
        pss_nil)
      (pss_cons (ps_if (pt_cmpR op_eq (pv 0) pe_str (nomark _))
        (pss_one (ps_ret (pe_callB c_isi (by rfl) T.n_isinstance (by decide +kernel) (pa_cons (pv 1) (pa_cons (pe_glob (v := .ref T.a_Channel) (by rfl) T.c_Channel rfl) pa_nil)))))
        pss_nil)
      (pss_cons (ps_if (pt_cmpR op_eq (pv 0) pe_str (nomark _))
        (pss_one (ps_ret (pe_callB c_isi (by rfl) T.n_isinstance (by decide +kernel) (pa_cons (pv 1) (pa_cons (pe_glob (v := .ref T.a_Breaker) (by rfl) T.c_Breaker rfl) pa_nil)))))
        pss_nil)
      (pss_one (ps_ret (pe_callB c_isi (by rfl) T.n_isinstance (by decide +kernel) (pa_cons (pv 1) (pa_cons (pe_glob (v := .ref T.a_Ship) (by rfl) T.c_Ship rfl) pa_nil)))))))), ?_⟩
    walk_at "rd"
    match k, hk with
    | 0, _ =>
      rw [show decide (V.str (kindT 0) = V.str (Str.ofString "ports")) = true by decide +kernel]
      walk_at "rd"
      refine ⟨_, rfl, n1, ma, fun H' s => ?_⟩
      rw [n2]
      exact q _ s
    | 1, _ =>
      rw [show decide (V.str (kindT 1) = V.str (Str.ofString "ports")) = false by decide +kernel]
      walk_at "rd"
      rw [show decide (V.str (kindT 1) = V.str (Str.ofString "channels")) = true by decide +kernel]
      walk_at "rd"
      exact i_isiV ty t1 (q _ (Same.refl _))
    | 2, _ =>
      rw [show decide (V.str (kindT 2) = V.str (Str.ofString "ports")) = false by decide +kernel]
      walk_at "rd"
      rw [show decide (V.str (kindT 2) = V.str (Str.ofString "channels")) = false by decide +kernel]
      walk_at "rd"
      rw [show decide (V.str (kindT 2) = V.str (Str.ofString "breakers")) = true by decide +kernel]
      walk_at "rd"
      exact i_isiV ty t2 (q _ (Same.refl _))
    | 3, _ =>
      rw [show decide (V.str (kindT 3) = V.str (Str.ofString "ports")) = false by decide +kernel]
      walk_at "rd"
      rw [show decide (V.str (kindT 3) = V.str (Str.ofString "channels")) = false by decide +kernel]
      walk_at "rd"
      rw [show decide (V.str (kindT 3) = V.str (Str.ofString "breakers")) = false by decide +kernel]
      walk_at "rd"
      exact i_isiV ty t3 (q _ (Same.refl _))
def dblL (ns : List Str) : List V := match firstDbl ns with
  | some n => [.str n]
  | none => []
def spLDbl : Sp := fun vs H Q _ => ∃ (a : Addr) (ns : List Str), vs = [.ref a] ∧ H a = some (.lst (ns.map V.str)) ∧ ns.length ≤ 1000 ∧ ∀ r H', Same H H' → H' r = some (.lst (dblL ns)) → Q (.ref r) H'
theorem ok_doubled (T : Top K mg) : FnG P w K mg base CX0 1 T.a_doubled T.d_doubled ["_law_names_here"] spLDbl := by
  refine okG T.F_doubled sc_doubled (fun vs H Q E h => ?_) (fun cdv A outer s H vs Q E hr hgd h => ?_)
  · obtain ⟨a, ns, rfl, _⟩ := h
    rfl
  · obtain ⟨a, ns, rfl, ha, hz, q⟩ := h
    refine ⟨_, (pss_cons (ps_for PassesOwn.never rfl (pi_enum (by rfl) T.n_enumerate (pa_cons (pv 0) pa_nil)) (pg_tup rfl (pgs_cons (pg_name (i := 1) sc_doubled.nd rfl (by first | exact Or.inl rfl | exact Or.inr rfl)) (pgs_cons (pg_name (i := 2) sc_doubled.nd rfl (by first | exact Or.inl rfl | exact Or.inr rfl)) pgs_nil)))
        (pss_one (ps_if (pt_cmpR op_in_seq (pv 2) (pe_slice sl_list (pv 0) po_none (po_some (pv 1))) (by rfl))
        (pss_one (ps_ret (pe_lst (pa_cons (pv 2) pa_nil))))
        pss_nil)))
      (pss_one (ps_ret (pe_lst pa_nil)))), ?_⟩
    walk_at "rd"
    refine i_enumL ?_
    walk_at "rd"
    refine ⟨a, _, rfl, SqL.lst ha, ?_⟩
    refine for_enumL (K := K) (a := a) (xs := ns.map V.str) (fun i σ H' => Same H H' ∧ dblAt ns i = none ∧ ∃ z1 z2, σ = [some (.ref a), z1, z2])
      ⟨Same.refl _, rfl, _, _, rfl⟩ (fun i σ H' h => SqL.lst (h.1 _ _ ha)) ?_ ?_
    · rintro i x U σ H1 hx ⟨s1, hd, z1, z2, rfl⟩ hU
      obtain ⟨n, hn, rfl⟩ := strs_get hx
      have lt := (List.getElem?_eq_some_iff.mp hn).1
      have sU : Same H1 (upd H1 U (.tup [.int (i : Nat), .str n])) := Same.new _ hU
      refine i_gtup (xs := [.int (i : Nat), .str n]) (SqT.tup upd_same) rfl ?_
      walk_at "rd"
      refine ⟨a, _, rfl, SqL.lst ((s1.trans sU) _ _ ha), ?_⟩
      rw [cutV_to _ (by rw [List.length_map]; omega), ← List.map_take]
      (intro p2 hp2; generalize ep2 : upd _ p2 _ = J2; have N2 := New.of ep2 hp2; clear ep2 hp2)
      have s2 := (s1.trans sU).trans N2.same
      walk_at "rd"
      refine ⟨p2, _, rfl, .inl (SqL.lst N2.at_), rfl, flat_strs _, ?_⟩
      simp only [Bool.false_eq_true, if_false]
      rw [str_inV]
      walk_at "rd"
      refine ifs (fun h1 => ?_) (fun h1 => ?_)
      · walk_at "rd"
        (intro p3 hp3; generalize ep3 : upd _ p3 _ = J3; have N3 := New.of ep3 hp3; clear ep3 hp3)
        refine q p3 _ (s2.trans N3.same) ?_
        unfold dblL
        rw [dbl_hit hd hn (of_decide_eq_true h1)]
        exact N3.at_
      · exact ⟨s2, dbl_miss hd hn (of_decide_eq_false h1), _, _, rfl⟩
    · rintro σ H1 ⟨s1, hd, z1, z2, rfl⟩
      rw [List.length_map] at hd
      walk_at "rd"
      (intro p3 hp3; generalize ep3 : upd _ p3 _ = J3; have N3 := New.of ep3 hp3; clear ep3 hp3)
      refine q p3 _ (s1.trans N3.same) ?_
      unfold dblL
      rw [show firstDbl ns = none from hd]
      exact N3.at_
end

end Ice

set_option Elab.async false
set_option linter.all false
set_option maxRecDepth 100000
set_option maxHeartbeats 4000000
namespace Ice
open PySem PySem.Spec PyProof.Rows L2 TL
/-! side conditions, heaps, one step of a reading, and many -/
local macro_rules | `(tactic| walk_at "hp") => `(tactic| first | assumption | exact upd_same | exact New.at_ (by assumption) | (refine keepU ?_ (by assumption); walk_at "hp") | (refine New.app (by assumption) ?_; walk_at "hp") | (refine Same.app (by assumption) ?_; walk_at "hp") | (refine But.app (by assumption) (by assumption) ?_; walk_at "hp"))
local macro_rules | `(tactic| walk_at "sq") => `(tactic| first | assumption | exact SqL.lst (by walk_at "hp") | exact L2.Same.seq (New.same (by assumption)) (by assumption) | exact L2.Same.seq (by assumption) (by assumption))
local macro_rules | `(tactic| walk_at "len") => `(tactic| first | assumption | (simp only [List.length_cons, List.length_nil, List.length_append, List.length_map]; decide) | (refine Ice.sz_of ?_; simp only [List.length_cons, List.length_nil, List.length_append, List.length_map]; omega))
local macro_rules | `(tactic| walk_at "fresh") => `(tactic| (simp only [List.map_append, List.map_cons, List.map_nil, List.nil_append, List.cons_append]; decide +kernel))
local macro_rules | `(tactic| walk_at "sd") => `(tactic| first | assumption | (show _ ≠ _; omega) | exact Or.inl ⟨by omega, by omega⟩ | exact Or.inr ⟨by omega, by omega⟩ | exact ⟨by decide, by decide⟩ | exact ⟨by decide, by decide, by decide⟩ | exact ⟨by omega, by omega, by omega⟩)
/-! one step of a reading, and many -/
local macro_rules | `(tactic| walk_at "st") => `(tactic| first
  | with_reducible refine i_seq ?_
  | with_reducible refine i_if ?_
  | with_reducible refine i_next ?_
  | with_reducible refine i_ret ?_
  | with_reducible refine i_retN ?_
  | with_reducible refine i_drop ?_
  | with_reducible refine i_asg ?_
  | with_reducible refine i_gname ?_
  | with_reducible refine i_gsub ?_
  | ((with_reducible refine i_var (v := ?vv) ?hv ?_); (case hv => exact rfl))
  | with_reducible refine i_c ?_
  | with_reducible refine i_op ?_
  | with_reducible refine i_un ?_
  | with_reducible refine i_test ?_
  | with_reducible refine i_tB ?_
  | with_reducible refine i_and ?_
  | with_reducible refine i_or ?_
  | with_reducible refine i_not ?_
  | with_reducible refine i_andV ?_
  | with_reducible refine i_orV ?_
  | with_reducible refine i_notV ?_
  | with_reducible refine i_ifE ?_
  | with_reducible refine i_chain ?_
  | with_reducible refine i_bl ?_
  | with_reducible refine i_nil ?_
  | with_reducible refine i_cons ?_
  | with_reducible refine i_call ?_
  | with_reducible refine i_cb ?_
  | with_reducible refine i_rI0 ?_
  | with_reducible refine i_rU ?_
  | ((with_reducible refine i_rEq ?hs ?_); (case hs => exact rfl))
  | ((with_reducible refine i_rNe ?hs ?_); (case hs => exact rfl))
  | ((with_reducible refine i_rI ?hc ?_); (case hc => walk_at "sd"))
  | ((with_reducible refine i_ixL (xs := ?xs) (v := ?vv) ?hS ?he ?_); (case hS => walk_at "sq"); (case he => exact rfl))
  | ((with_reducible refine i_setL (xs := ?xs) (j := ?jj) ?hS ?he ?_); (case hS => walk_at "hp"); (case he => exact rfl))
  | with_reducible refine i_tup ?_
  | with_reducible refine i_lst ?_
  | with_reducible refine i_bm ?_
  | with_reducible refine i_bm0 ?_
  | with_reducible refine i_m1 ?_
  | with_reducible refine i_sl ?_
  | with_reducible refine i_nopart ?_
  | with_reducible refine i_part ?_
  | with_reducible refine i_int ?_
  | with_reducible refine i_str ?_
  | with_reducible refine i_for ?_
  | with_reducible refine i_yes ?_
  | ((with_reducible refine i_lenL (xs := ?xs) ?hS ?_); (case hS => walk_at "sq"))
  | ((with_reducible refine i_room ?hz ?_); (case hz => walk_at "len"))
  | with_reducible refine i_leT ?_
  | with_reducible refine i_notInS ?_
  | with_reducible refine i_inS ?_
  | with_reducible refine i_find ?_
  | with_reducible refine i_isB ?_
  | with_reducible refine i_max2 ?_
  | with_reducible refine i_min2 ?_
  | with_reducible exact trivial
  | with_reducible refine iteT ?_
  | with_reducible refine iteF ?_
  | with_reducible refine i_isstr ?_
  | with_reducible refine i_lc ?_
  | ((with_reducible refine i_cat (xs := ?xs) (zs := ?zs) ?ha ?hb ?hz ?_); (case ha => walk_at "hp"); (case hb => walk_at "hp"); (case hz => walk_at "len"))
  | ((with_reducible refine i_tyL (xs := ?xs) ?ha ?_); (case ha => walk_at "hp"))
  | with_reducible refine i_list ?_
  | with_reducible refine i_disp ?_
  | with_reducible refine i_pairs0 ?_
  | with_reducible refine i_pairs ?_
  | with_reducible refine i_newK ?_
  | with_reducible refine i_gcons ?_
  | with_reducible refine i_gnil ?_
  | with_reducible refine i_revL ?_
  | with_reducible refine i_rng1 ?_
  | ((with_reducible refine i_wipe ?hw ?_); (case hw => exact rfl))
  | with_reducible refine iteNT ?_
  | with_reducible refine iteNF ?_)
local macro_rules | `(tactic| walk_at "sx") => `(tactic| first
  | walk_at "st"
  | with_reducible refine i_kinit ?_
  | with_reducible refine i_ost ?_
  | with_reducible refine i_mkO ?_
  | with_reducible refine i_callE ?_
  | with_reducible refine i_makeE ?_
  | with_reducible refine i_xf ?_
  | with_reducible refine i_sfld ?_
  | with_reducible refine i_fld ?_
  | ((with_reducible refine i_ixT (xs := ?xs) (v := ?vv) ?hS ?he ?_); (case hS => exact SqT.tup (by walk_at "hp")); (case he => exact rfl))
  | with_reducible refine i_intB ?_
  | with_reducible refine i_runS ?_
  | with_reducible refine i_runN ?_
  | ((with_reducible refine i_xf1 (fs := ?ff) (v := ?vv) ?hx ?hl ?_); (case hx => walk_at "hp"); (case hl => exact rfl))
  | with_reducible refine i_methE ?_
  | with_reducible refine i_meth ?_
  | with_reducible refine i_make ?_
  | ((with_reducible refine i_obj (dx := ?dd) (fs := ?ff) ?hx ?hl ?_); (case hx => walk_at "hp"); (case hl => exact rfl))
  | ((with_reducible refine i_fld1 (C := ?CC) (dx := ?dd) (fs := ?ff) (v := ?vv) ?hx ?cl ?na ?hl ?_); (case hx => walk_at "hp"); (case cl => assumption); (case na => assumption); (case hl => exact rfl)))
local macro_rules | `(tactic| walk_at "sy") => `(tactic| first
  | walk_at "sx"
  | with_reducible refine i_dget ?_
  | with_reducible refine i_dget2 ?_
  | with_reducible refine i_dput ?_
  | with_reducible refine i_din ?_
  | ((with_reducible refine i_aug (x := ?vv) ?hx ?_); (case hx => exact rfl)))
local macro_rules | `(tactic| walk_at "rd") => `(tactic| repeat (walk_at "sy"))

section
variable {P : Program} {w : World} {K : PySem.W.Frag} {mg : Str → Option Value} {base : Heap}
def dueV (vb : V) : DueW → Str × V
  | .number => (Str.ofString "number", vb)
  | .world w => (Str.ofString "world", .str w)
  | .doubled n => (Str.ofString "doubled", .str n)
  | .port p => (Str.ofString "port", .str p)
  | .made => (Str.ofString "made", .non)
/-- what a world may be made of -/
structure Ths (T : Top K mg) (H : Hp) (p : Addr) (vb v1 v2 v3 v4 : V) (o1 o2 o3 o4 : OMk) : Prop where
  hp : H p = some (.lst [vb, v1, v2, v3, v4])
  tb : Th H vb
  a1 : ArgT T H v1 o1
  a2 : ArgT T H v2 o2
  a3 : ArgT T H v3 o3
  a4 : ArgT T H v4 o4
  al : ∀ o ∈ [o1, o2, o3, o4], ∀ ms, o = some ms → ms.length ≤ 100 ∧ ∀ m ∈ ms, MkA m
def spTell (T : Top K mg) : Sp := fun vs H Q _ => ∃ (p : Addr) (vb v1 v2 v3 v4 : V) (o1 o2 o3 o4 : OMk), vs = [.ref p] ∧ Ths T H p vb v1 v2 v3 v4 o1 o2 o3 o4 ∧
  ∀ r H', Same H H' → H' r = some (.tup [.str (dueV vb (dueW vb o1 o2 o3 o4)).1, (dueV vb (dueW vb o1 o2 o3 o4)).2]) → Q (.ref r) H'
theorem due_number {vb : V} {o1 o2 o3 o4 : OMk} (h : inB 0 1000000 vb = false) : dueW vb o1 o2 o3 o4 = .number := by unfold dueW; rw [if_pos h]
def okW (o1 o2 o3 o4 : OMk) : Nat → Bool
  | 0 => portsOk o1
  | 1 => seqOk 12 Mk.isC o2
  | 2 => seqOk 4 Mk.isB o3
  | _ => seqOk 6 Mk.isS o4
theorem okW_bad {o1 o2 o3 o4 : OMk} {i : Nat} (hi : i < 4) (h : ∀ j, j < i → okW o1 o2 o3 o4 j = true) (b : okW o1 o2 o3 o4 i = false) : kindsW o1 o2 o3 o4 = some (kindT i) := by
  unfold kindsW
  match i, hi with
  | 0, _ => rw [if_pos (show portsOk o1 = false from b)]; rfl
  | 1, _ => rw [if_neg (by rw [show portsOk o1 = true from h 0 (by omega)]; decide), if_pos (show seqOk 12 Mk.isC o2 = false from b)]; rfl
  | 2, _ => rw [if_neg (by rw [show portsOk o1 = true from h 0 (by omega)]; decide), if_neg (by rw [show seqOk 12 Mk.isC o2 = true from h 1 (by omega)]; decide), if_pos (show seqOk 4 Mk.isB o3 = false from b)]; rfl
  | 3, _ => rw [if_neg (by rw [show portsOk o1 = true from h 0 (by omega)]; decide), if_neg (by rw [show seqOk 12 Mk.isC o2 = true from h 1 (by omega)]; decide), if_neg (by rw [show seqOk 4 Mk.isB o3 = true from h 2 (by omega)]; decide), if_pos (show seqOk 6 Mk.isS o4 = false from b)]; rfl
theorem okW_all {o1 o2 o3 o4 : OMk} (h : ∀ j, j < 4 → okW o1 o2 o3 o4 j = true) : kindsW o1 o2 o3 o4 = none := by
  unfold kindsW
  rw [if_neg (by rw [show portsOk o1 = true from h 0 (by omega)]; decide), if_neg (by rw [show seqOk 12 Mk.isC o2 = true from h 1 (by omega)]; decide), if_neg (by rw [show seqOk 4 Mk.isB o3 = true from h 2 (by omega)]; decide), if_neg (by rw [show seqOk 6 Mk.isS o4 = true from h 3 (by omega)]; decide)]
def pick (p : Mk → Bool) (m : Mk) : Option V := if p m = true then none else some m.v
theorem pick_all (p : Mk → Bool) (ms : List Mk) : (!(gath (ms.map (pick p))).isEmpty) = !ms.all p := by
  have e : (gath (ms.map (pick p))).isEmpty = ms.all p := by
    induction ms with
    | nil => rfl
    | cons m r ih =>
      rw [List.all_cons, ← ih]
      cases hp : p m
      · have : (pick p m) = some m.v := by unfold pick; rw [hp]; rfl
        rw [List.map_cons, this]; rfl
      · have : (pick p m) = none := by unfold pick; rw [hp]; rfl
        rw [List.map_cons, this]; simp [gath]
  rw [e]
theorem inB_W {lo hi : Int} {v : V} (h : isW v = false) : inB lo hi v = false := by cases v <;> first | rfl | cases h
def nmsAt (mp mc mb ms : List Mk) : Nat → List Str
  | 0 => mp.map Mk.nm
  | 1 => mc.map Mk.nm
  | _ => (mb ++ ms).map Mk.nm
def stray (ps : List Str) (n : Str) : Option V := if noPort ps n = true then some (.str n) else none
theorem stray_nil (ps : List Str) (wl : List Str) : (wl.find? (noPort ps) = none → gath (wl.map (stray ps)) = []) ∧ ∀ n, wl.find? (noPort ps) = some n → ∃ r, gath (wl.map (stray ps)) = .str n :: r := by
  induction wl with
  | nil => exact ⟨fun _ => rfl, nofun⟩
  | cons x r ih =>
    cases hx : noPort ps x
    · have e : stray ps x = none := by unfold stray; rw [hx]; rfl
      have e2 : gath ((x :: r).map (stray ps)) = gath (r.map (stray ps)) := by rw [List.map_cons, e]; rfl
      rw [e2, List.find?_cons, hx]
      exact ih
    · have e : stray ps x = some (.str x) := by unfold stray; rw [hx]; rfl
      have e2 : gath ((x :: r).map (stray ps)) = .str x :: gath (r.map (stray ps)) := by rw [List.map_cons, e]; rfl
      rw [e2, List.find?_cons, hx]
      exact ⟨nofun, fun n h => ⟨_, by rw [Option.some.inj h]⟩⟩
theorem strs_get2 {ns : List Str} {f : Str → Option V} {i : Nat} {x : V} {o : Option V} (hx : (ns.map V.str)[i]? = some x) (ho : (ns.map f)[i]? = some o) : ∃ n, x = .str n ∧ o = f n := by
  obtain ⟨n, hn, rfl⟩ := strs_get hx
  rw [List.getElem?_map, hn] at ho
  exact ⟨n, rfl, (Option.some.inj ho).symm⟩
theorem prt_gath : ∀ mb : List Mk, (∀ m ∈ mb, m.isB = true) → gath (mb.map fun m => some (V.str (m.prt.headD (Str.ofString "")))) = (mb.flatMap Mk.prt).map V.str
  | [], _ => rfl
  | m :: r, h => by
    obtain ⟨x, d, rfl, _⟩ := mk_isB (h m (by simp))
    have ih := prt_gath r fun y hy => h y (by simp [hy])
    rw [List.map_cons, List.flatMap_cons, List.map_append, ← ih]; rfl
/-- the argument at i -/
theorem arg_at {T : Top K mg} {H : Hp} {p : Addr} {vb v1 v2 v3 v4 : V} {o1 o2 o3 o4 : OMk} (t : Ths T H p vb v1 v2 v3 v4 o1 o2 o3 o4) {i : Nat} (hi : i < 4) : ∃ (v : V) (o : OMk) (most : Nat), atI [vb, v1, v2, v3, v4] ((i : Int) + 1) = some v ∧ atI [V.int 8, V.int 12, V.int 4, V.int 6] (i : Int) = some (.int most) ∧ ArgT T H v o ∧
    (∀ ms, o = some ms → ms.length ≤ 100 ∧ ∀ m ∈ ms, MkA m) ∧ (o = none → okW o1 o2 o3 o4 i = false) ∧ ∀ ms, o = some ms → okW o1 o2 o3 o4 i = (decide (ms.length ≤ most) && (!(decide (i = 0) && decide (ms.length = 0)) && ms.all (kindP i))) := by
  match i, hi with
  | 0, _ => exact ⟨v1, o1, 8, rfl, rfl, t.a1, t.al o1 (by simp), fun e => by rw [e]; rfl, fun ms e => by rw [e]; rfl⟩
  | 1, _ => exact ⟨v2, o2, 12, rfl, rfl, t.a2, t.al o2 (by simp), fun e => by rw [e]; rfl, fun ms e => by rw [e]; rfl⟩
  | 2, _ => exact ⟨v3, o3, 4, rfl, rfl, t.a3, t.al o3 (by simp), fun e => by rw [e]; rfl, fun ms e => by rw [e]; rfl⟩
  | 3, _ => exact ⟨v4, o4, 6, rfl, rfl, t.a4, t.al o4 (by simp), fun e => by rw [e]; rfl, fun ms e => by rw [e]; rfl⟩
set_option maxHeartbeats 8000000 in
theorem ok_due (T : Top K mg) : FnG P w K mg base CX0 3 T.a_due T.d_due ["_law_things"] (spTell T) := by
  have G_doubled := ok_doubled (P := P) (w := w) (base := base) T
  have G_of_kind := ok_of_kind (P := P) (w := w) (base := base) T
  refine okG T.F_due sc_due (fun vs H Q E h => ?_) (fun cdv A outer s H vs Q E hr hgd h => ?_)
  · obtain ⟨p, vb, v1, v2, v3, v4, o1, o2, o3, o4, rfl, _⟩ := h
    rfl
  · obtain ⟨p, vb, v1, v2, v3, v4, o1, o2, o3, o4, rfl, t, q⟩ := h
    have hu64 := un64 hr
    have hp := t.hp
    refine ⟨_, (pss_cons (ps_set (i := 1) sc_due.nd rfl (by first | exact Or.inl rfl | exact Or.inr rfl) (pe_ix ix_list (pv 0) pe_int (fun _ _ => rfl)))
      (pss_cons (ps_if (PW.pt (pw_or (pt_not (pt_val (pe_callB c_isi (by rfl) T.n_isinstance (by decide +kernel) (pa_cons (pv 1) (pa_cons (pe_bltn (v := .ty "int") (by rfl) T.n_int (by decide +kernel) rfl) pa_nil))))) (pw_or (pt_val (pe_callB c_isi (by rfl) T.n_isinstance (by decide +kernel) (pa_cons (pv 1) (pa_cons (pe_bltn (v := .ty "bool") (by rfl) T.n_bool (by decide +kernel) rfl) pa_nil)))) (pw_or1 (pt_not (pt_chain op_le op_le pe_int (pv 1) (pe_op op_pow pe_int pe_int)))))))
        (pss_one (ps_ret (pe_tup (pa_cons pe_str (pa_cons (pv 1) pa_nil)))))
        pss_nil)
      (pss_cons (ps_for PassesOwn.never rfl (pi_enum (by rfl) T.n_enumerate (pa_cons (pe_lst (pa_cons pe_str (pa_cons pe_str (pa_cons pe_str (pa_cons pe_str pa_nil))))) pa_nil)) (pg_tup rfl (pgs_cons (pg_name (i := 2) sc_due.nd rfl (by first | exact Or.inl rfl | exact Or.inr rfl)) (pgs_cons (pg_name (i := 3) sc_due.nd rfl (by first | exact Or.inl rfl | exact Or.inr rfl)) pgs_nil)))
        (pss_cons (ps_set (i := 4) sc_due.nd rfl (by first | exact Or.inl rfl | exact Or.inr rfl) (pe_ix ix_list (pv 0) (pe_op op_add (pv 2) pe_int) (fun _ _ => rfl)))
      (pss_cons (ps_set (i := 5) sc_due.nd rfl (by first | exact Or.inl rfl | exact Or.inr rfl) (pe_ix ix_list (pe_lst (pa_cons pe_int (pa_cons pe_int (pa_cons pe_int (pa_cons pe_int pa_nil))))) (pv 2) (fun _ _ => rfl)))
      (pss_cons (ps_if (PW.pt (pw_or (pt_not (pt_val (pe_callB call_isiT (by rfl) T.n_isinstance (by decide +kernel) (pa_cons (pv 4) (pa_cons (pe_tup (pa_cons (pe_bltn (v := .ty "list") (by rfl) T.n_list (by decide +kernel) rfl) (pa_cons (pe_bltn (v := .ty "tuple") (by rfl) T.n_tuple (by decide +kernel) rfl) pa_nil))) pa_nil))))) (pw_or (pt_cmpR op_gt (pe_callB c_len (by rfl) T.n_len (by decide +kernel) (pa_cons (pv 4) pa_nil)) (pv 5) (nomark _)) (pw_or1 (PW.pt (pw_and (pt_cmpR op_eq (pv 2) pe_int (nomark _)) (pw_and1 (pt_cmpR op_eq (pe_callB c_len (by rfl) T.n_len (by decide +kernel) (pa_cons (pv 4) pa_nil)) pe_int (nomark _)))))))))
        (pss_one (ps_ret (pe_tup (pa_cons pe_str (pa_cons (pv 3) pa_nil)))))
        pss_nil)
      (pss_one (ps_if (pt_cmpR (op_neNil hu64) (pe_lc (own := [("_law_thing", 15)]) (g := gName 15) rfl sc_due.nd (pi_seq (pv 4)) (blkOk_by (own := [("_law_thing", 15)]) (N := ["_law_things", "_law_begin", "_law_at", "_law_word", "_law_some", "_law_most", "_law_ports", "_law_channels", "_law_breakers", "_law_ships", "_law_names_here", "_law_wanted", "_law_channel_here", "_law_ship", "_law_strange", "_law_thing", "_law_one", "_law_breaker", "_law_name"]) (sc := defScope s_due) (by decide +kernel)) (fun _ _ _ _ _ => (pg_name (i := 15) sc_due.nd rfl (by first | exact Or.inl rfl | exact Or.inr rfl))) (fun _ _ _ _ _ => (pts_one (pt_not (pt_val (g_call G_of_kind (hr.mono (by decide)) hgd (by rfl) T.m_of_kind T.F_of_kind.kp T.b_of_kind .nil pass0 (pa_cons (pv 3) (pa_cons (pv 15) pa_nil))))))) (fun _ _ _ _ _ => (pv 15))) (pe_lst pa_nil) (nomark _))
        (pss_one (ps_ret (pe_tup (pa_cons pe_str (pa_cons (pv 3) pa_nil)))))
        pss_nil))))))
      (pss_cons (ps_asg (pe_slice sl_list (pv 0) (po_some pe_int) po_none) (pg_lst rfl (pgs_cons (pg_name (i := 6) sc_due.nd rfl (by first | exact Or.inl rfl | exact Or.inr rfl)) (pgs_cons (pg_name (i := 7) sc_due.nd rfl (by first | exact Or.inl rfl | exact Or.inr rfl)) (pgs_cons (pg_name (i := 8) sc_due.nd rfl (by first | exact Or.inl rfl | exact Or.inr rfl)) (pgs_cons (pg_name (i := 9) sc_due.nd rfl (by first | exact Or.inl rfl | exact Or.inr rfl)) pgs_nil))))))
      (pss_cons (ps_for PassesOwn.never rfl (pi_list (pe_lst (pa_cons (pe_callTy call_list_of (by rfl) T.n_list (by decide +kernel) (pa_cons (pv 6) pa_nil)) (pa_cons (pe_lc (own := [("_law_one", 16)]) (g := gName 16) rfl sc_due.nd (pi_seq (pv 7)) (blkOk_by (own := [("_law_one", 16)]) (N := ["_law_things", "_law_begin", "_law_at", "_law_word", "_law_some", "_law_most", "_law_ports", "_law_channels", "_law_breakers", "_law_ships", "_law_names_here", "_law_wanted", "_law_channel_here", "_law_ship", "_law_strange", "_law_thing", "_law_one", "_law_breaker", "_law_name"]) (sc := defScope s_due) (by decide +kernel)) (fun _ _ _ _ _ => (pg_name (i := 16) sc_due.nd rfl (by first | exact Or.inl rfl | exact Or.inr rfl))) (fun _ _ _ _ _ => pts_nil) (fun _ _ _ _ _ => (pe_fldB (pv 16) rfl))) (pa_cons (pe_lc (own := [("_law_one", 16)]) (g := gName 16) rfl sc_due.nd (pi_list (pe_op op_cat (pe_callTy call_list_of (by rfl) T.n_list (by decide +kernel) (pa_cons (pv 8) pa_nil)) (pe_callTy call_list_of (by rfl) T.n_list (by decide +kernel) (pa_cons (pv 9) pa_nil)))) (blkOk_by (own := [("_law_one", 16)]) (N := ["_law_things", "_law_begin", "_law_at", "_law_word", "_law_some", "_law_most", "_law_ports", "_law_channels", "_law_breakers", "_law_ships", "_law_names_here", "_law_wanted", "_law_channel_here", "_law_ship", "_law_strange", "_law_thing", "_law_one", "_law_breaker", "_law_name"]) (sc := defScope s_due) (by decide +kernel)) (fun _ _ _ _ _ => (pg_name (i := 16) sc_due.nd rfl (by first | exact Or.inl rfl | exact Or.inr rfl))) (fun _ _ _ _ _ => pts_nil) (fun _ _ _ _ _ => (pe_fldB (pv 16) rfl))) pa_nil))))) (pg_name (i := 10) sc_due.nd rfl (by first | exact Or.inl rfl | exact Or.inr rfl))
        (pss_one (ps_if (pt_cmpR (op_neNil hu64) (g_call G_doubled (hr.mono (by decide)) hgd (by rfl) T.m_doubled T.F_doubled.kp T.b_doubled .nil pass0 (pa_cons (pv 10) pa_nil)) (pe_lst pa_nil) (nomark _))
        (pss_one (ps_ret (pe_tup (pa_cons pe_str (pa_cons (pe_ix ix_list (g_call G_doubled (hr.mono (by decide)) hgd (by rfl) T.m_doubled T.F_doubled.kp T.b_doubled .nil pass0 (pa_cons (pv 10) pa_nil)) pe_int (fun _ _ => rfl)) pa_nil)))))
        pss_nil)))
      (pss_cons (ps_set (i := 11) sc_due.nd rfl (by first | exact Or.inl rfl | exact Or.inr rfl) (pe_lst pa_nil))
      (pss_cons (ps_for PassesOwn.never rfl (pi_seq (pv 7)) (pg_name (i := 12) sc_due.nd rfl (by first | exact Or.inl rfl | exact Or.inr rfl))
        (pss_one (ps_expr (pe_bm PySem.F.plainAttrs_list PySem.F.slot_list_extend PySem.F.type_list_extend mt_extend (pv 11) (pa_cons (pe_lst (pa_cons (pe_fld (pv 12) rfl) (pa_cons (pe_fld (pv 12) rfl) pa_nil))) pa_nil)))))
      (pss_cons (ps_expr (pe_bm PySem.F.plainAttrs_list PySem.F.slot_list_extend PySem.F.type_list_extend mt_extend (pv 11) (pa_cons (pe_lc (own := [("_law_breaker", 17)]) (g := gName 17) rfl sc_due.nd (pi_seq (pv 8)) (blkOk_by (own := [("_law_breaker", 17)]) (N := ["_law_things", "_law_begin", "_law_at", "_law_word", "_law_some", "_law_most", "_law_ports", "_law_channels", "_law_breakers", "_law_ships", "_law_names_here", "_law_wanted", "_law_channel_here", "_law_ship", "_law_strange", "_law_thing", "_law_one", "_law_breaker", "_law_name"]) (sc := defScope s_due) (by decide +kernel)) (fun _ _ _ _ _ => (pg_name (i := 17) sc_due.nd rfl (by first | exact Or.inl rfl | exact Or.inr rfl))) (fun _ _ _ _ _ => pts_nil) (fun _ _ _ _ _ => (pe_fldB (pv 17) rfl))) pa_nil)))
      (pss_cons (ps_for PassesOwn.never rfl (pi_seq (pv 9)) (pg_name (i := 13) sc_due.nd rfl (by first | exact Or.inl rfl | exact Or.inr rfl))
        (pss_one (ps_expr (pe_bm PySem.F.plainAttrs_list PySem.F.slot_list_extend PySem.F.type_list_extend mt_extend (pv 11) (pa_cons (pe_lst (pa_cons (pe_fld (pv 13) rfl) (pa_cons (pe_fld (pv 13) rfl) pa_nil))) pa_nil)))))
      (pss_cons (ps_setLc (i := 14) (own := [("_law_name", 18)]) (g := gName 18) rfl sc_due.nd rfl rfl (sw_true rfl rfl rfl (by decide +kernel)) (pi_list (pv 11)) (blkOk_by (own := [("_law_name", 18)]) (N := ["_law_things", "_law_begin", "_law_at", "_law_word", "_law_some", "_law_most", "_law_ports", "_law_channels", "_law_breakers", "_law_ships", "_law_names_here", "_law_wanted", "_law_channel_here", "_law_ship", "_law_strange", "_law_thing", "_law_one", "_law_breaker", "_law_name"]) (sc := defScope s_due) (by decide +kernel)) (fun _ _ _ _ _ => (pg_name (i := 18) sc_due.nd rfl (by first | exact Or.inl rfl | exact Or.inr rfl))) (fun _ _ _ _ _ => (pts_one (pt_cmpR (show OpR _ (compareOp .NotIn) (rIn K true) from op_notIn_seq) (pv 18) (pv 6) (by rfl)))) (fun _ _ _ _ _ => (pv 18)))
      (pss_cons (ps_if (pt_cmpR (op_neNil hu64) (pv 14) (pe_lst pa_nil) (nomark _))
        (pss_one (ps_ret (pe_tup (pa_cons pe_str (pa_cons (pe_ix ix_list (pv 14) pe_int (fun _ _ => rfl)) pa_nil)))))
        pss_nil)
      (pss_one (ps_ret (pe_tup (pa_cons pe_str (pa_cons pe_non pa_nil)))))))))))))))), ?_⟩
    obtain ⟨n, ty, k1, k2, k3⟩ := t.tb.ty (K := K)
    walk_at "rd"
    refine i_isi ty k1 ?_
    walk_at "rd"
    have bad : inB 0 1000000 vb = false → ∀ r H', Same H H' → H' r = some (.tup [.str (Str.ofString "number"), vb]) → Q (.ref r) H' := fun z r H' s k => by
      rw [due_number z] at q
      exact q r H' s k
    refine ifs (fun h1 => ?_) (fun h1 => ?_)
    · walk_at "rd"
      (intro pr hpr; generalize epr : upd _ pr _ = Jr; have Nr := New.of epr hpr; clear epr hpr)
      exact bad (inB_W (by simp at h1; exact h1.1)) pr _ Nr.same Nr.at_
    walk_at "rd"
    refine i_isi ty k2 ?_
    walk_at "rd"
    refine ifs (fun h2 => ?_) (fun h2 => ?_)
    · walk_at "rd"
      (intro pr hpr; generalize epr : upd _ pr _ = Jr; have Nr := New.of epr hpr; clear epr hpr)
      obtain ⟨b, rfl⟩ := k3 (of_decide_eq_true h2)
      exact bad rfl pr _ Nr.same Nr.at_
    have hW : isW vb = true := by
      rw [h2, Bool.or_false] at h1
      simpa using h1
    obtain ⟨bi, rfl⟩ : ∃ i, vb = .int i := by cases vb <;> first | exact ⟨_, rfl⟩ | cases hW
    walk_at "rd"
    have eB : inB 0 1000000 (.int bi) = (decide (0 ≤ bi) && decide (bi ≤ 1000000)) := rfl
    refine ifs (fun h3 => ?_) (fun h3 => ?_)
    rotate_left
    · walk_at "rd"
      (intro pr hpr; generalize epr : upd _ pr _ = Jr; have Nr := New.of epr hpr; clear epr hpr)
      exact bad (by rw [eB, h3]; rfl) pr _ Nr.same Nr.at_
    walk_at "rd"
    refine ifs (fun h4 => ?_) (fun h4 => ?_)
    · walk_at "rd"
      (intro pr hpr; generalize epr : upd _ pr _ = Jr; have Nr := New.of epr hpr; clear epr hpr)
      have h4 : decide (bi ≤ 1000000) = false := by
        have : (!decide (bi ≤ 1000000)) = true := h4
        simpa using this
      exact bad (by rw [eB, h4, Bool.and_false]) pr _ Nr.same Nr.at_
    have h4 : decide (bi ≤ 1000000) = true := by
      have : (!decide (bi ≤ 1000000)) = false := h4
      simpa using this
    have hB : inB 0 1000000 (.int bi) = true := by rw [eB, h3, h4]; rfl
    clear bad
    walk_at "rd"
    refine i_enumL ?_
    walk_at "rd"
    (intro pw hpw; generalize epw : upd _ pw _ = Jw; have Nw := New.of epw hpw; clear epw hpw)
    walk_at "rd"
    refine ⟨pw, _, rfl, SqL.lst Nw.at_, ?_⟩
    refine for_enumL (K := K) (a := pw) (xs := [V.str (Str.ofString "ports"), V.str (Str.ofString "channels"), V.str (Str.ofString "breakers"), V.str (Str.ofString "ships")])
      (fun i σ H' => Same Jw H' ∧ (∀ j, j < i → okW o1 o2 o3 o4 j = true) ∧ ∃ z2 z3 z4 z5, σ = [some (.ref p), some (.int bi), z2, z3, z4, z5, none, none, none, none, none, none, none, none, none, none, none, none, none])
      ⟨Same.refl _, fun j hj => absurd hj (Nat.not_lt_zero _), _, _, _, _, rfl⟩ (fun i σ H' h => SqL.lst (h.1 _ _ Nw.at_)) ?_ ?_
    · rintro i x U σ H1 hx ⟨s1, hok, z2, z3, z4, z5, rfl⟩ hU
      have hi : i < 4 := (List.getElem?_eq_some_iff.mp hx).1
      obtain rfl : x = .str (kindT i) := by
        match i, hi with
        | 0, _ => exact (Option.some.inj hx).symm
        | 1, _ => exact (Option.some.inj hx).symm
        | 2, _ => exact (Option.some.inj hx).symm
        | 3, _ => exact (Option.some.inj hx).symm
      refine i_gtup (xs := [.int (i : Nat), .str (kindT i)]) (SqT.tup upd_same) rfl ?_
      generalize eU : upd H1 U _ = H2
      have NU := New.of eU hU
      clear eU
      have s2 := (Nw.same.trans s1).trans NU.same
      obtain ⟨v, o, most, hv, hmo, ar, al, on, os'⟩ := arg_at t hi
      have kb := okW_bad hi hok
      walk_at "rd"
      refine i_ixL (SqL.lst (s2 _ _ hp)) hv ?_
      walk_at "rd"
      (intro p3 hp3; generalize ep3 : upd _ p3 _ = J3; have N3 := New.of ep3 hp3; clear ep3 hp3)
      walk_at "rd"
      refine i_ixL (SqL.lst N3.at_) hmo ?_
      walk_at "rd"
      (intro p4 hp4; generalize ep4 : upd _ p4 _ = J4; have N4 := New.of ep4 hp4; clear ep4 hp4)
      have s4 := (s2.trans N3.same).trans N4.same
      walk_at "rd"
      have ar4 := ar.same s4
      have worldR : okW o1 o2 o3 o4 i = false → ∀ r H', Same H H' → H' r = some (.tup [.str (Str.ofString "world"), .str (kindT i)]) → Q (.ref r) H' := fun z r H' s k => by
        have : dueW (.int bi) o1 o2 o3 o4 = .world (kindT i) := by unfold dueW; rw [if_neg (by rw [hB]; decide), kb z]
        rw [this] at q
        exact q r H' s k
      obtain ⟨ty4, tyk, kk4⟩ := ar4.kit
      cases o with
      | none =>
        refine i_isiTT (b := false) N4.at_ tyk kk4 ?_
        walk_at "rd"
        (intro pr hpr; generalize epr : upd _ pr _ = Jr; have Nr := New.of epr hpr; clear epr hpr)
        exact worldR (on rfl) pr _ (s4.trans Nr.same) Nr.at_
      | some ms =>
        refine i_isiTT (b := true) N4.at_ tyk kk4 ?_
        obtain ⟨pp, rfl, hS, hM⟩ := ar4.sqO
        have eo := os' ms rfl
        obtain ⟨l100, ma⟩ := al ms rfl
        walk_at "rd"
        refine i_lenS2 hS.sq ?_
        walk_at "rd"
        refine ifs (fun h5 => ?_) (fun h5 => ?_)
        · walk_at "rd"
          (intro pr hpr; generalize epr : upd _ pr _ = Jr; have Nr := New.of epr hpr; clear epr hpr)
          refine worldR ?_ pr _ (s4.trans Nr.same) Nr.at_
          rw [eo, show decide (ms.length ≤ most) = false by simp at h5 ⊢; omega]; rfl
        have h5' : decide (ms.length ≤ most) = true := by simp at h5 ⊢; omega
        walk_at "rd"
        refine ifs (fun h6 => ?_) (fun h6 => ?_)
        · have i0 : i = 0 := by
            have := of_decide_eq_true h6
            injection this with this
            omega
          walk_at "rd"
          refine i_lenS2 hS.sq ?_
          walk_at "rd"
          refine ifs (fun h7 => ?_) (fun h7 => ?_)
          · walk_at "rd"
            (intro pr hpr; generalize epr : upd _ pr _ = Jr; have Nr := New.of epr hpr; clear epr hpr)
            refine worldR ?_ pr _ (s4.trans Nr.same) Nr.at_
            have l0 : ms.length = 0 := by
              have := of_decide_eq_true h7
              injection this with this
              rw [List.length_map] at this
              omega
            rw [eo, decide_eq_true i0, decide_eq_true l0]
            simp
          have hz : (decide (i = 0) && decide (ms.length = 0)) = false := by
            have l0 : ms.length ≠ 0 := fun e => by
              have := of_decide_eq_false h7
              exact this (by rw [List.length_map, e]; rfl)
            rw [decide_eq_false l0, Bool.and_false]
          walk_at "rd"
          refine i_iseq ?_
          walk_at "rd"
          refine lc_gather hS.sq (ms.map (pick (kindP i))) (by simp) (by rw [List.length_map]; have := sz_of (n := ms.length + 1) (by omega); omega) ?_ ?_
          · intro k x o H' NY NN hx ho s hy hn
            obtain ⟨m, hm, _, rfl, rfl⟩ := mk_get hx ho
            walk_at "rd"
            refine ⟨i, m, hi, rfl, (hM m hm).same s, ma m hm, fun H5 s5 => ?_⟩
            walk_at "rd"
            cases hk : kindP i m
            · walk_at "rd"
              exact hy _ _ (by unfold pick; rw [hk]; rfl) s5
            · exact hn _ (by unfold pick; rw [hk]; rfl) s5
          · intro D6 H6 hD6 s6 k6
            walk_at "rd"
            (intro p7 hp7; generalize ep7 : upd _ p7 _ = J7; have N7 := New.of ep7 hp7; clear ep7 hp7)
            refine ⟨_, _, _, rfl, rfl, SqL.lst (N7.app k6), SqL.lst N7.at_, ?_⟩
            have s7 := (s4.trans s6).trans N7.same
            rw [pick_all]
            walk_at "rd"
            refine ifs (fun h8 => ?_) (fun h8 => ?_)
            · walk_at "rd"
              (intro pr hpr; generalize epr : upd _ pr _ = Jr; have Nr := New.of epr hpr; clear epr hpr)
              refine worldR ?_ pr _ (s7.trans Nr.same) Nr.at_
              rw [eo, h5', hz, show ms.all (kindP i) = false by simpa using h8]; rfl
            · refine ⟨?_, ?_, _, _, _, _, rfl⟩
              · exact s1.trans (NU.same.trans (N3.same.trans (N4.same.trans (s6.trans N7.same))))
              · intro j hj
                rcases Nat.lt_or_ge j i with z | z
                · exact hok j z
                · have : j = i := by omega
                  subst this
                  rw [eo, h5', hz, show ms.all (kindP j) = true by simpa using h8]; rfl
        · have hz : (decide (i = 0) && decide (ms.length = 0)) = false := by
            have i0 : i ≠ 0 := fun e => of_decide_eq_false h6 (by rw [e]; rfl)
            rw [decide_eq_false i0, Bool.false_and]
          walk_at "rd"
          refine i_iseq ?_
          walk_at "rd"
          refine lc_gather hS.sq (ms.map (pick (kindP i))) (by simp) (by rw [List.length_map]; have := sz_of (n := ms.length + 1) (by omega); omega) ?_ ?_
          · intro k x o H' NY NN hx ho s hy hn
            obtain ⟨m, hm, _, rfl, rfl⟩ := mk_get hx ho
            walk_at "rd"
            refine ⟨i, m, hi, rfl, (hM m hm).same s, ma m hm, fun H5 s5 => ?_⟩
            walk_at "rd"
            cases hk : kindP i m
            · walk_at "rd"
              exact hy _ _ (by unfold pick; rw [hk]; rfl) s5
            · exact hn _ (by unfold pick; rw [hk]; rfl) s5
          · intro D6 H6 hD6 s6 k6
            walk_at "rd"
            (intro p7 hp7; generalize ep7 : upd _ p7 _ = J7; have N7 := New.of ep7 hp7; clear ep7 hp7)
            refine ⟨_, _, _, rfl, rfl, SqL.lst (N7.app k6), SqL.lst N7.at_, ?_⟩
            have s7 := (s4.trans s6).trans N7.same
            rw [pick_all]
            walk_at "rd"
            refine ifs (fun h8 => ?_) (fun h8 => ?_)
            · walk_at "rd"
              (intro pr hpr; generalize epr : upd _ pr _ = Jr; have Nr := New.of epr hpr; clear epr hpr)
              refine worldR ?_ pr _ (s7.trans Nr.same) Nr.at_
              rw [eo, h5', hz, show ms.all (kindP i) = false by simpa using h8]; rfl
            · refine ⟨?_, ?_, _, _, _, _, rfl⟩
              · exact s1.trans (NU.same.trans (N3.same.trans (N4.same.trans (s6.trans N7.same))))
              · intro j hj
                rcases Nat.lt_or_ge j i with z | z
                · exact hok j z
                · have : j = i := by omega
                  subst this
                  rw [eo, h5', hz, show ms.all (kindP j) = true by simpa using h8]; rfl
    · rintro σ H1 ⟨s1, hok, z2, z3, z4, z5, rfl⟩
      have hkw := okW_all (o1 := o1) (o2 := o2) (o3 := o3) (o4 := o4) (fun j hj => hok j hj)
      obtain ⟨mp, mc, mb, ms, ko⟩ := kindsW_none hkw
      obtain ⟨rfl, rfl, rfl, rfl, lp, l0, lc, lb, ls, ip, ic, ib, is'⟩ := ko
      have s01 := Nw.same.trans s1
      obtain ⟨pp, rfl, hP, tP⟩ := t.a1.sqO
      obtain ⟨pc, rfl, hC, tC⟩ := t.a2.sqO
      obtain ⟨pb, rfl, hB', tB⟩ := t.a3.sqO
      obtain ⟨ps, rfl, hS, tS⟩ := t.a4.sqO
      have hkw' : dueW (.int bi) (some mp) (some mc) (some mb) (some ms) = (match firstDbl (nmsO (some mp)) with
          | some n => .doubled n
          | none => match firstDbl (nmsO (some mc)) with
            | some n => .doubled n
            | none => match firstDbl (nmsO (some mb) ++ nmsO (some ms)) with
              | some n => .doubled n
              | none => match (wantL (some mc) (some mb) (some ms)).find? (noPort (nmsO (some mp))) with
                | some n => .port n
                | none => .made) := by
        unfold dueW; rw [if_neg (by rw [hB]; decide), hkw]; (try rfl)
      rw [hkw'] at q
      clear hkw' hkw hok
      have hp1 := s01 _ _ hp
      walk_at "rd"
      refine ⟨p, _, rfl, SqL.lst hp1, ?_⟩
      rw [show (1 : Int) = ((1 : Nat) : Int) from rfl, cutV_from _ (by simp)]
      (intro p2 hp2; generalize ep2 : upd _ p2 _ = J2; have N2 := New.of ep2 hp2; clear ep2 hp2)
      refine i_glst (xs := [.ref pp, .ref pc, .ref pb, .ref ps]) (SqL.lst N2.at_) rfl ?_
      walk_at "rd"
      have s2 := s01.trans N2.same
      refine ⟨pp, _, rfl, (hP.same s2).sq, ?_⟩
      (intro p3 hp3; generalize ep3 : upd _ p3 _ = J3; have N3 := New.of ep3 hp3; clear ep3 hp3)
      have s3 := s2.trans N3.same
      walk_at "rd"
      refine i_iseq ?_
      walk_at "rd"
      have zl : mb.length + ms.length + 20 ≤ sizeLine := sz_of (by omega)
      refine lc_gather (hC.same s3).sq (mc.map fun m => some (V.str m.nm)) (by simp) (by rw [List.length_map]; omega) ?_ ?_
      · intro k x o H' NY NN hx ho s hy hn
        obtain ⟨m, hm, _, rfl, rfl⟩ := mk_get hx ho
        walk_at "rd"
        refine nm_fld T ((tC m hm).same (s3.trans s)) (.inl (ic m hm)) ?_
        exact hy _ _ rfl (Same.refl _)
      intro p4 J4 hD4 t4 k4
      rw [nm_gath] at k4
      have s4 := s3.trans t4
      walk_at "rd"
      refine ⟨pb, _, rfl, (hB'.same s4).sq, ?_⟩
      (intro p5 hp5; generalize ep5 : upd _ p5 _ = J5; have N5 := New.of ep5 hp5; clear ep5 hp5)
      have s5 := s4.trans N5.same
      walk_at "rd"
      refine ⟨ps, _, rfl, (hS.same s5).sq, ?_⟩
      (intro p6 hp6; generalize ep6 : upd _ p6 _ = J6; have N6 := New.of ep6 hp6; clear ep6 hp6)
      have s6 := s5.trans N6.same
      walk_at "rd"
      (intro p7 hp7; generalize ep7 : upd _ p7 _ = J7; have N7 := New.of ep7 hp7; clear ep7 hp7)
      have s7 := s6.trans N7.same
      rw [← List.map_append] at N7
      have tV : ∀ m ∈ mb ++ ms, MkT T H m ∧ (m.isC = true ∨ m.isB = true ∨ m.isS = true) := fun m hm => by
        rcases List.mem_append.mp hm with h | h
        · exact ⟨tB m h, .inr (.inl (ib m h))⟩
        · exact ⟨tS m h, .inr (.inr (is' m h))⟩
      walk_at "rd"
      have k7 : J7 p7 = some (.lst ((mb ++ ms).map Mk.v)) := N7.at_
      refine lc_gatherL (SqL.lst k7) ((mb ++ ms).map fun m => some (V.str m.nm)) (by simp) (by rw [List.length_map, List.length_append]; omega) ?_ ?_
      · intro k x o H' NY NN hx ho s hy hn
        obtain ⟨m, hm, _, rfl, rfl⟩ := mk_get hx ho
        walk_at "rd"
        refine nm_fld T (((tV m hm).1).same (s7.trans s)) (tV m hm).2 ?_
        exact hy _ _ rfl (Same.refl _)
      intro p8 J8 hD8 t8 k8
      rw [nm_gath] at k8
      have s8 := s7.trans t8
      walk_at "rd"
      (intro p9 hp9; generalize ep9 : upd _ p9 _ = J9; have N9 := New.of ep9 hp9; clear ep9 hp9)
      have s9 := s8.trans N9.same
      have k3 : J9 p3 = some (.lst ((mp.map Mk.nm).map V.str)) := by rw [← isN_map ip]; exact N9.app (t8 _ _ (N7.app (N6.app (N5.app (t4 _ _ N3.at_)))))
      have k4' : J9 p4 = some (.lst ((mc.map Mk.nm).map V.str)) := N9.app (t8 _ _ (N7.app (N6.app (N5.app k4))))
      have k8' : J9 p8 = some (.lst (((mb ++ ms).map Mk.nm).map V.str)) := N9.app k8
      walk_at "rd"
      have lst3 : ∀ {i : Nat} {x : V}, [V.ref p3, V.ref p4, V.ref p8][i]? = some x → ∃ a, x = .ref a ∧ i < 3 ∧ J9 a = some (.lst ((nmsAt mp mc mb ms i).map V.str)) ∧ (nmsAt mp mc mb ms i).length ≤ 1000 := fun {i x} hx => by
        have hi : i < 3 := (List.getElem?_eq_some_iff.mp hx).1
        match i, hi with
        | 0, _ => exact ⟨p3, (Option.some.inj hx).symm, by omega, k3, by show (mp.map Mk.nm).length ≤ _; rw [List.length_map]; omega⟩
        | 1, _ => exact ⟨p4, (Option.some.inj hx).symm, by omega, k4', by show (mc.map Mk.nm).length ≤ _; rw [List.length_map]; omega⟩
        | 2, _ => exact ⟨p8, (Option.some.inj hx).symm, by omega, k8', by show ((mb ++ ms).map Mk.nm).length ≤ _; rw [List.length_map, List.length_append]; omega⟩
      have eV : nmsO (some mb) ++ nmsO (some ms) = nmsAt mp mc mb ms 2 := by show mb.map Mk.nm ++ ms.map Mk.nm = _; rw [← List.map_append]; rfl
      rw [eV, show nmsO (some mp) = nmsAt mp mc mb ms 0 from rfl, show nmsO (some mc) = nmsAt mp mc mb ms 1 from rfl] at q
      have qd : ∀ i n, i < 3 → (∀ j, j < i → firstDbl (nmsAt mp mc mb ms j) = none) → firstDbl (nmsAt mp mc mb ms i) = some n → ∀ r H', Same H H' → H' r = some (.tup [.str (Str.ofString "doubled"), .str n]) → Q (.ref r) H' := by
        intro i n hi hj hn r H' s k
        match i, hi with
        | 0, _ => rw [hn] at q; exact q r H' s k
        | 1, _ => rw [hj 0 (by omega), hn] at q; exact q r H' s k
        | 2, _ => rw [hj 0 (by omega), hj 1 (by omega), hn] at q; exact q r H' s k
      refine ⟨p9, rfl, ⟨_, SqL.lst N9.at_⟩, ?_⟩
      refine for_list (K := K) (a := p9) (xs := [.ref p3, .ref p4, .ref p8]) (fun i σ H' => Same J9 H' ∧ (∀ j, j < i → firstDbl (nmsAt mp mc mb ms j) = none) ∧ ∃ z10, σ = [some (.ref p), some (.int bi), z2, z3, z4, z5, some (.ref pp), some (.ref pc), some (.ref pb), some (.ref ps), z10, none, none, none, none, none, none, none, none])
        ⟨Same.refl _, fun j hj => absurd hj (Nat.not_lt_zero _), _, rfl⟩ (fun i σ H' _ h => SqL.lst (h.1 _ _ N9.at_)) ?_ ?_
      · rintro i x σ H' hx ⟨t, hj, z10, rfl⟩
        obtain ⟨a, rfl, hi, ka, hz⟩ := lst3 hx
        walk_at "rd"
        refine ⟨a, _, rfl, t _ _ ka, hz, fun r K1 u1 kr => ?_⟩
        walk_at "rd"
        (intro e1 he1; generalize ee1 : upd _ e1 _ = K2; have M1 := New.of ee1 he1; clear ee1 he1)
        refine ⟨_, _, _, rfl, rfl, SqL.lst (M1.app kr), SqL.lst M1.at_, ?_⟩
        have sK2 := s9.trans (t.trans (u1.trans M1.same))
        cases hd : firstDbl (nmsAt mp mc mb ms i) with
        | none =>
          unfold dblL
          rw [hd]
          walk_at "rd"
          refine ⟨t.trans (u1.trans M1.same), fun j hj' => ?_, _, rfl⟩
          rcases Nat.lt_or_ge j i with z | z
          · exact hj j z
          · rw [show j = i by omega]; exact hd
        | some n =>
          have ed : dblL (nmsAt mp mc mb ms i) = [.str n] := by unfold dblL; rw [hd]
          rw [ed, show (!([V.str n] : List V).isEmpty) = true from rfl]
          walk_at "rd"
          refine ⟨a, _, rfl, (t.trans (u1.trans M1.same)) _ _ ka, hz, fun r2 K3 u3 kr2 => ?_⟩
          rw [ed] at kr2
          walk_at "rd"
          (intro pr hpr; generalize epr : upd _ pr _ = Jr; have Nr := New.of epr hpr; clear epr hpr)
          exact qd i n hi hj hd pr _ (sK2.trans (u3.trans Nr.same)) Nr.at_
      · rintro σ H10 ⟨t, hj, z10, rfl⟩
        rw [hj 0 (by simp), hj 1 (by simp), hj 2 (by simp)] at q
        have s10 := s9.trans t
        walk_at "rd"
        (intro pw2 hpw2; generalize epw2 : upd _ pw2 _ = J11; have N11 := New.of epw2 hpw2; clear epw2 hpw2)
        walk_at "rd"
        have s11 := s10.trans N11.same
        have b11 : ∀ {a : Addr} {xs : List V}, SqO H a xs → a ≠ pw2 := fun {a xs} h => (h.same s10).ne N11.free
        have nc := b11 hC; have nb := b11 hB'; have nS := b11 hS; have nP := b11 hP
        refine i_iseq ?_
        walk_at "rd"
        have zw : 2 * mc.length + 2 * mb.length + 2 * ms.length + 2 ≤ sizeLine := sz_of (by omega)
        refine for_seq (hC.same s11).sq (fun i σ H' => But pw2 J11 H' ∧ H' pw2 = some (.lst (((mc.take i).flatMap Mk.ends).map V.str)) ∧ ∃ z12, σ = [some (.ref p), some (.int bi), z2, z3, z4, z5, some (.ref pp), some (.ref pc), some (.ref pb), some (.ref ps), z10, some (.ref pw2), z12, none, none, none, none, none, none])
          ⟨But.refl _ _, N11.at_, _, rfl⟩ (fun i σ' H' _ h => fun o e => h.1 _ _ nc e) ?_ ?_
        · rintro i x σ H' hx ⟨u, kw, z12, rfl⟩
          obtain ⟨m, hm, hmem, rfl⟩ := mks_get hx
          obtain ⟨x, c, rfl⟩ := mk_isC (ic m hmem)
          have lt := (List.getElem?_eq_some_iff.mp hm).1
          have s0 : Same H H' := s10.trans (But.to N11.same u N11.free)
          have ct : ChT T H' x c := ChT.same (tC _ hmem) s0
          walk_at "rd"
          refine ch_fld T ct T.na_Channel_one rfl ?_
          walk_at "rd"
          refine ch_fld T ct T.na_Channel_other rfl ?_
          walk_at "rd"
          (intro e2 he2; generalize ee2 : upd _ e2 _ = K2; have M2 := New.of ee2 he2; clear ee2 he2)
          have fl := flat_len ends_le (mc.take i)
          have tl := List.length_take_le i mc
          refine ⟨pw2, e2, _, _, rfl, rfl, M2.app kw, M2.at_, by rw [List.length_map]; show _ + 2 ≤ _; omega, ?_⟩
          refine ⟨fun b v nb hb => by rw [upd_ne nb]; exact M2.app (u _ _ nb hb), ?_, _, rfl⟩
          rw [upd_same, flat_snoc hm, List.map_append]; rfl
        · rintro σ H12 ⟨u, kw, z12, rfl⟩
          rw [List.length_map, List.take_length] at kw
          have s12 : Same H H12 := s10.trans (But.to N11.same u N11.free)
          walk_at "rd"
          refine i_iseq ?_
          walk_at "rd"
          refine lc_gather (hB'.same s12).sq (mb.map fun m => some (V.str (m.prt.headD (Str.ofString "")))) (by simp) (by rw [List.length_map]; omega) ?_ ?_
          · intro k x o H' NY NN hx ho s hy hn
            obtain ⟨m, hm, _, rfl, rfl⟩ := mk_get hx ho
            obtain ⟨x, d, rfl, _⟩ := mk_isB (ib m hm)
            walk_at "rd"
            refine f_port T (VesA.same (tB _ hm) (s12.trans s)) ?_
            exact hy _ _ rfl (Same.refl _)
          intro p13 H13 hD13 t13 k13
          rw [prt_gath mb ib] at k13
          walk_at "rd"
          have fl := flat_len ends_le mc
          have fl2 := flat_len prt_le mb
          have n13 : pw2 ≠ p13 := ne_of_none kw hD13
          refine ⟨pw2, p13, _, _, rfl, rfl, t13 _ _ kw, k13, by rw [List.length_map, List.length_map]; omega, ?_⟩
          generalize eJ14 : upd H13 pw2 _ = J14
          have B14 : But pw2 H13 J14 := by rw [← eJ14]; exact But.set _
          have kw14 : J14 pw2 = some (.lst ((mc.flatMap Mk.ends ++ mb.flatMap Mk.prt).map V.str)) := by rw [← eJ14, upd_same, List.map_append]
          have u14 : But pw2 J11 J14 := u.trans ((Ice.Same.but t13).trans B14)
          have s14 : Same H J14 := s10.trans (But.to N11.same u14 N11.free)
          walk_at "rd"
          refine i_iseq ?_
          walk_at "rd"
          refine for_seq (hS.same s14).sq (fun i σ H' => But pw2 J11 H' ∧ H' pw2 = some (.lst ((mc.flatMap Mk.ends ++ mb.flatMap Mk.prt ++ (ms.take i).flatMap Mk.both).map V.str)) ∧ Kep J14 H' ps ∧ ∃ z13, σ = [some (.ref p), some (.int bi), z2, z3, z4, z5, some (.ref pp), some (.ref pc), some (.ref pb), some (.ref ps), z10, some (.ref pw2), z12, z13, none, none, none, none, none])
            ⟨u14, by rw [kw14]; simp, fun o e => e, _, rfl⟩ (fun i σ' H' _ h => h.2.2.1) ?_ ?_
          · rintro i x σ H' hx ⟨u', kw', kk, z13, rfl⟩
            obtain ⟨m, hm, hmem, rfl⟩ := mks_get hx
            obtain ⟨x, d, rfl, dk⟩ := mk_isS (is' m hmem)
            have lt := (List.getElem?_eq_some_iff.mp hm).1
            have s0 : Same H H' := s10.trans (But.to N11.same u' N11.free)
            have ct : VesT T H' x d := VesA.same (tS _ hmem) s0
            walk_at "rd"
            refine f_port T ct ?_
            walk_at "rd"
            refine f_goal T ct dk ?_
            walk_at "rd"
            (intro e2 he2; generalize ee2 : upd _ e2 _ = K2; have M2 := New.of ee2 he2; clear ee2 he2)
            have fl3 := flat_len both_le (ms.take i)
            have tl := List.length_take_le i ms
            refine ⟨pw2, e2, _, _, rfl, rfl, M2.app kw', M2.at_, by rw [List.length_map, List.length_append, List.length_append]; show _ + 2 ≤ _; omega, ?_⟩
            refine ⟨fun b v nb hb => by rw [upd_ne nb]; exact M2.app (u' _ _ nb hb), ?_, fun o e => by rw [upd_ne nS]; exact M2.app (kk o e), _, rfl⟩
            rw [upd_same, flat_snoc hm, ← List.append_assoc, List.map_append (l₂ := Mk.both _)]; rfl
          · rintro σ H15 ⟨u', kw', _, z13, rfl⟩
            rw [List.length_map, List.take_length] at kw'
            have hw : mc.flatMap Mk.ends ++ mb.flatMap Mk.prt ++ ms.flatMap Mk.both = wantL (some mc) (some mb) (some ms) := rfl
            have fl3 := flat_len both_le ms
            have lw : (wantL (some mc) (some mb) (some ms)).length ≤ 99999 := by rw [← hw, List.length_append, List.length_append]; omega
            rw [hw] at kw'
            have s15 : Same H H15 := s10.trans (But.to N11.same u' N11.free)
            generalize wantL (some mc) (some mb) (some ms) = wl at kw' q lw
            walk_at "rd"
            refine lc_gatherL (SqL.lst kw') (wl.map (stray (nmsAt mp mc mb ms 0))) (by simp) (by rw [List.length_map]; have := sz_of (n := wl.length + 1) (by omega); omega) ?_ ?_
            · intro k x o H' NY NN hx ho s hy hn
              obtain ⟨n, rfl, rfl⟩ := strs_get2 hx ho
              walk_at "rd"
              refine ⟨pp, (mp.map Mk.nm).map V.str, rfl, by rw [← isN_map ip]; exact (hP.same (s15.trans s)).sq, rfl, flat_strs _, ?_⟩
              rw [if_pos rfl, str_inV]
              walk_at "rd"
              refine ifs (fun h1 => ?_) (fun h1 => ?_)
              · walk_at "rd"
                exact hy _ _ (by unfold stray; rw [if_pos (show noPort (nmsAt mp mc mb ms 0) n = true from h1)]) (Same.refl _)
              · exact hn _ (by unfold stray; rw [if_neg (by rw [show noPort (nmsAt mp mc mb ms 0) n = false from h1]; decide)]) (Same.refl _)
            intro p16 H16 hD16 t16 k16
            walk_at "rd"
            (intro e5 he5; generalize ee5 : upd _ e5 _ = K5; have M5 := New.of ee5 he5; clear ee5 he5)
            refine ⟨_, _, _, rfl, rfl, SqL.lst (M5.app k16), SqL.lst M5.at_, ?_⟩
            have s17 := s15.trans (t16.trans M5.same)
            obtain ⟨y1, y2⟩ := stray_nil (nmsAt mp mc mb ms 0) wl
            cases hf : wl.find? (noPort (nmsAt mp mc mb ms 0)) with
            | none =>
              rw [hf] at q
              rw [y1 hf, show (!([] : List V).isEmpty) = false from rfl]
              walk_at "rd"
              (intro pr hpr; generalize epr : upd _ pr _ = Jr; have Nr := New.of epr hpr; clear epr hpr)
              exact q pr _ (s17.trans Nr.same) Nr.at_
            | some n =>
              rw [hf] at q
              obtain ⟨r, er⟩ := y2 n hf
              rw [er] at k16
              rw [er, show (!(V.str n :: r : List V).isEmpty) = true from rfl]
              walk_at "rd"
              refine i_ixL (v := .str n) (SqL.lst (M5.app k16)) (atI_nat (j := 0) rfl) ?_
              walk_at "rd"
              (intro pr hpr; generalize epr : upd _ pr _ = Jr; have Nr := New.of epr hpr; clear epr hpr)
              exact q pr _ (s17.trans Nr.same) Nr.at_
end

end Ice

set_option Elab.async false
set_option linter.all false
set_option maxRecDepth 100000
set_option maxHeartbeats 4000000
namespace Ice
open PySem PySem.Spec PyProof.Rows L2 TL
/-! side conditions, heaps, one step of a reading, and many -/
local macro_rules | `(tactic| walk_at "hp") => `(tactic| first | assumption | exact upd_same | exact New.at_ (by assumption) | (refine keepU ?_ (by assumption); walk_at "hp") | (refine New.app (by assumption) ?_; walk_at "hp") | (refine Same.app (by assumption) ?_; walk_at "hp") | (refine But.app (by assumption) (by assumption) ?_; walk_at "hp"))
local macro_rules | `(tactic| walk_at "sq") => `(tactic| first | assumption | exact SqL.lst (by walk_at "hp") | exact L2.Same.seq (New.same (by assumption)) (by assumption) | exact L2.Same.seq (by assumption) (by assumption))
local macro_rules | `(tactic| walk_at "len") => `(tactic| first | assumption | (simp only [List.length_cons, List.length_nil, List.length_append, List.length_map]; decide) | (refine Ice.sz_of ?_; simp only [List.length_cons, List.length_nil, List.length_append, List.length_map]; omega))
local macro_rules | `(tactic| walk_at "fresh") => `(tactic| (simp only [List.map_append, List.map_cons, List.map_nil, List.nil_append, List.cons_append]; decide +kernel))
local macro_rules | `(tactic| walk_at "sd") => `(tactic| first | assumption | (show _ ≠ _; omega) | exact Or.inl ⟨by omega, by omega⟩ | exact Or.inr ⟨by omega, by omega⟩ | exact ⟨by decide, by decide⟩ | exact ⟨by decide, by decide, by decide⟩ | exact ⟨by omega, by omega, by omega⟩)
/-! one step of a reading, and many -/
local macro_rules | `(tactic| walk_at "st") => `(tactic| first
  | with_reducible refine i_seq ?_
  | with_reducible refine i_if ?_
  | with_reducible refine i_next ?_
  | with_reducible refine i_ret ?_
  | with_reducible refine i_retN ?_
  | with_reducible refine i_drop ?_
  | with_reducible refine i_asg ?_
  | with_reducible refine i_gname ?_
  | with_reducible refine i_gsub ?_
  | ((with_reducible refine i_var (v := ?vv) ?hv ?_); (case hv => exact rfl))
  | with_reducible refine i_c ?_
  | with_reducible refine i_op ?_
  | with_reducible refine i_un ?_
  | with_reducible refine i_test ?_
  | with_reducible refine i_tB ?_
  | with_reducible refine i_and ?_
  | with_reducible refine i_or ?_
  | with_reducible refine i_not ?_
  | with_reducible refine i_andV ?_
  | with_reducible refine i_orV ?_
  | with_reducible refine i_notV ?_
  | with_reducible refine i_ifE ?_
  | with_reducible refine i_chain ?_
  | with_reducible refine i_bl ?_
  | with_reducible refine i_nil ?_
  | with_reducible refine i_cons ?_
  | with_reducible refine i_call ?_
  | with_reducible refine i_cb ?_
  | with_reducible refine i_rI0 ?_
  | with_reducible refine i_rU ?_
  | ((with_reducible refine i_rEq ?hs ?_); (case hs => exact rfl))
  | ((with_reducible refine i_rNe ?hs ?_); (case hs => exact rfl))
  | ((with_reducible refine i_rI ?hc ?_); (case hc => walk_at "sd"))
  | ((with_reducible refine i_ixL (xs := ?xs) (v := ?vv) ?hS ?he ?_); (case hS => walk_at "sq"); (case he => exact rfl))
  | ((with_reducible refine i_setL (xs := ?xs) (j := ?jj) ?hS ?he ?_); (case hS => walk_at "hp"); (case he => exact rfl))
  | with_reducible refine i_tup ?_
  | with_reducible refine i_lst ?_
  | with_reducible refine i_bm ?_
  | with_reducible refine i_bm0 ?_
  | with_reducible refine i_m1 ?_
  | with_reducible refine i_sl ?_
  | with_reducible refine i_nopart ?_
  | with_reducible refine i_part ?_
  | with_reducible refine i_int ?_
  | with_reducible refine i_str ?_
  | with_reducible refine i_for ?_
  | with_reducible refine i_yes ?_
  | ((with_reducible refine i_lenL (xs := ?xs) ?hS ?_); (case hS => walk_at "sq"))
  | ((with_reducible refine i_room ?hz ?_); (case hz => walk_at "len"))
  | with_reducible refine i_leT ?_
  | with_reducible refine i_notInS ?_
  | with_reducible refine i_inS ?_
  | with_reducible refine i_find ?_
  | with_reducible refine i_isB ?_
  | with_reducible refine i_max2 ?_
  | with_reducible refine i_min2 ?_
  | with_reducible exact trivial
  | with_reducible refine iteT ?_
  | with_reducible refine iteF ?_
  | with_reducible refine i_isstr ?_
  | with_reducible refine i_lc ?_
  | ((with_reducible refine i_cat (xs := ?xs) (zs := ?zs) ?ha ?hb ?hz ?_); (case ha => walk_at "hp"); (case hb => walk_at "hp"); (case hz => walk_at "len"))
  | ((with_reducible refine i_tyL (xs := ?xs) ?ha ?_); (case ha => walk_at "hp"))
  | with_reducible refine i_list ?_
  | with_reducible refine i_disp ?_
  | with_reducible refine i_pairs0 ?_
  | with_reducible refine i_pairs ?_
  | with_reducible refine i_newK ?_
  | with_reducible refine i_gcons ?_
  | with_reducible refine i_gnil ?_
  | with_reducible refine i_revL ?_
  | with_reducible refine i_rng1 ?_
  | ((with_reducible refine i_wipe ?hw ?_); (case hw => exact rfl))
  | with_reducible refine iteNT ?_
  | with_reducible refine iteNF ?_)
local macro_rules | `(tactic| walk_at "sx") => `(tactic| first
  | walk_at "st"
  | with_reducible refine i_kinit ?_
  | with_reducible refine i_ost ?_
  | with_reducible refine i_mkO ?_
  | with_reducible refine i_callE ?_
  | with_reducible refine i_makeE ?_
  | with_reducible refine i_xf ?_
  | with_reducible refine i_sfld ?_
  | with_reducible refine i_fld ?_
  | ((with_reducible refine i_ixT (xs := ?xs) (v := ?vv) ?hS ?he ?_); (case hS => exact SqT.tup (by walk_at "hp")); (case he => exact rfl))
  | with_reducible refine i_intB ?_
  | with_reducible refine i_runS ?_
  | with_reducible refine i_runN ?_
  | ((with_reducible refine i_xf1 (fs := ?ff) (v := ?vv) ?hx ?hl ?_); (case hx => walk_at "hp"); (case hl => exact rfl))
  | with_reducible refine i_methE ?_
  | with_reducible refine i_meth ?_
  | with_reducible refine i_make ?_
  | ((with_reducible refine i_obj (dx := ?dd) (fs := ?ff) ?hx ?hl ?_); (case hx => walk_at "hp"); (case hl => exact rfl))
  | ((with_reducible refine i_fld1 (C := ?CC) (dx := ?dd) (fs := ?ff) (v := ?vv) ?hx ?cl ?na ?hl ?_); (case hx => walk_at "hp"); (case cl => assumption); (case na => assumption); (case hl => exact rfl)))
local macro_rules | `(tactic| walk_at "sy") => `(tactic| first
  | walk_at "sx"
  | with_reducible refine i_dget ?_
  | with_reducible refine i_dget2 ?_
  | with_reducible refine i_dput ?_
  | with_reducible refine i_din ?_
  | ((with_reducible refine i_aug (x := ?vv) ?hx ?_); (case hx => exact rfl)))
local macro_rules | `(tactic| walk_at "rd") => `(tactic| repeat (walk_at "sy"))

section
variable {P : Program} {w : World} {K : PySem.W.Frag} {mg : Str → Option Value} {base : Heap}
theorem ok_found (T : Top K mg) : FnG P w K mg base CX0 6 T.a_found T.d_found ["_law_things"] (spTell T) := by
  have G_World___init__ := ok_World___init__ (P := P) (w := w) (base := base) T
  refine okG T.F_found sc_found (fun vs H Q E h => ?_) (fun cdv A outer s H vs Q E hr hgd h => ?_)
  · obtain ⟨p, vb, v1, v2, v3, v4, o1, o2, o3, o4, rfl, _⟩ := h
    rfl
  · obtain ⟨p, vb, v1, v2, v3, v4, o1, o2, o3, o4, rfl, t, q⟩ := h
    have hp := t.hp
    refine ⟨_, (pss_cons (ps_try_hds rfl rfl sc_found.nd takes0 (fun W pn xe tk po => (pss_one (ps_expr (g_makeE (E := WE _) T.mk_World G_World___init__ (hr.mono (by decide)) hgd (by rfl) T.c_World T.b_World___init__ .nil (passAt tk) (pa_cons (pe_ix (show IxR _ (rIxL K) from ix_list) (pv 0) pe_int (fun _ _ => rfl)) (pa_cons (pe_ix (show IxR _ (rIxL K) from ix_list) (pv 0) pe_int (fun _ _ => rfl)) (pa_cons (pe_ix (show IxR _ (rIxL K) from ix_list) (pv 0) pe_int (fun _ _ => rfl)) (pa_cons (pe_ix (show IxR _ (rIxL K) from ix_list) (pv 0) pe_int (fun _ _ => rfl)) (pa_cons (pe_ix (show IxR _ (rIxL K) from ix_list) (pv 0) pe_int (fun _ _ => rfl)) pa_nil)))))))))
      (.named (i := 1) rfl rfl ⟨by rfl, by decide, .inl T.c_NoNumber⟩ (fun a oe cls d pn hz hf => (pss_one (ps_ret (pe_tup (pa_cons pe_str (pa_cons (pe_xf T.xf_NoNumber T.nf_NoNumber_found hz hf (pv 1)) pa_nil)))))) (.named (i := 1) rfl rfl ⟨by rfl, by decide, .inl T.c_NoWorld⟩ (fun a oe cls d pn hz hf => (pss_one (ps_ret (pe_tup (pa_cons pe_str (pa_cons (pe_xf T.xf_NoWorld T.nf_NoWorld_found hz hf (pv 1)) pa_nil)))))) (.named (i := 1) rfl rfl ⟨by rfl, by decide, .inl T.c_Doubled⟩ (fun a oe cls d pn hz hf => (pss_one (ps_ret (pe_tup (pa_cons pe_str (pa_cons (pe_xf T.xf_Doubled T.nf_Doubled_name hz hf (pv 1)) pa_nil)))))) (.named (i := 1) rfl rfl ⟨by rfl, by decide, .inl T.c_NoPort⟩ (fun a oe cls d pn hz hf => (pss_one (ps_ret (pe_tup (pa_cons pe_str (pa_cons (pe_xf T.xf_NoPort T.nf_NoPort_found hz hf (pv 1)) pa_nil)))))) (.plain ⟨by rfl, by decide, .inl T.c_IceError⟩ (fun a oe cls d pn hz hf => (pss_one (ps_ret (pe_tup (pa_cons pe_str (pa_cons pe_non pa_nil)))))) .nil))))))
      (pss_one (ps_ret (pe_tup (pa_cons pe_str (pa_cons pe_non pa_nil)))))), ?_⟩
    walk_at "rd"
    intro x dx hx hdx nex
    have s2 : Same H (upd (upd H dx (.own x)) x (.ins T.a_World dx [])) := fun a o h => by rw [upd_ne (ne_of_none h hx), upd_ne (ne_of_none h hdx)]; exact h
    refine ⟨x, dx, vb, v1, v2, v3, v4, o1, o2, o3, o4, rfl, upd_same, t.tb.same s2, t.a1.same s2, t.a2.same s2, t.a3.same s2, t.a4.same s2, fun o ho ms e => Nat.le_trans (t.al o ho ms e).1 (by decide), ?_⟩
    unfold WantsW
    generalize dueW vb o1 o2 o3 o4 = D at q ⊢
    cases D with
    | made =>
      intro b H7 eb e7 wt
      refine ⟨rfl, ?_⟩
      have s7 := made_same hx hdx e7
      walk_at "rd"
      (intro u hu; generalize eu : upd _ u _ = J8; have N8 := New.of eu hu; clear eu hu)
      exact q u _ (L2.Same.trans s7 N8.same) N8.at_
    | number =>
      intro d' H7 s7 k7
      have s9 := s2.trans s7
      refine ⟨true, T.ex_NoNumber_NoNumber, fun _ a ha => ?_, fun z => by cases z⟩
      walk_at "rd"
      (intro u hu; generalize eu : upd _ u _ = J8; have N8 := New.of eu hu; clear eu hu)
      exact q u _ (s9.trans N8.same) N8.at_
    | world ww =>
      intro d' H7 s7 k7
      have s9 := s2.trans s7
      refine ⟨false, T.ex_NoWorld_NoNumber, (fun z => by cases z), fun _ => ?_⟩
      refine ⟨true, T.ex_NoWorld_NoWorld, fun _ a ha => ?_, fun z => by cases z⟩
      walk_at "rd"
      (intro u hu; generalize eu : upd _ u _ = J8; have N8 := New.of eu hu; clear eu hu)
      exact q u _ (s9.trans N8.same) N8.at_
    | doubled n =>
      intro d' H7 s7 k7
      have s9 := s2.trans s7
      refine ⟨false, T.ex_Doubled_NoNumber, (fun z => by cases z), fun _ => ?_⟩
      refine ⟨false, T.ex_Doubled_NoWorld, (fun z => by cases z), fun _ => ?_⟩
      refine ⟨true, T.ex_Doubled_Doubled, fun _ a ha => ?_, fun z => by cases z⟩
      walk_at "rd"
      (intro u hu; generalize eu : upd _ u _ = J8; have N8 := New.of eu hu; clear eu hu)
      exact q u _ (s9.trans N8.same) N8.at_
    | port n =>
      intro d' H7 s7 k7
      have s9 := s2.trans s7
      refine ⟨false, T.ex_NoPort_NoNumber, (fun z => by cases z), fun _ => ?_⟩
      refine ⟨false, T.ex_NoPort_NoWorld, (fun z => by cases z), fun _ => ?_⟩
      refine ⟨false, T.ex_NoPort_Doubled, (fun z => by cases z), fun _ => ?_⟩
      refine ⟨true, T.ex_NoPort_NoPort, fun _ a ha => ?_, fun z => by cases z⟩
      walk_at "rd"
      (intro u hu; generalize eu : upd _ u _ = J8; have N8 := New.of eu hu; clear eu hu)
      exact q u _ (s9.trans N8.same) N8.at_
def spSame : Sp := fun vs H Q _ => ∃ (a b : Addr) (t : Str) (v : V), vs = [.ref a, .ref b] ∧ H a = some (.tup [.str t, v]) ∧ H b = some (.tup [.str t, v]) ∧ SelfP K H v ∧ Th H v ∧ Q (.bl true) H
theorem ok_same (T : Top K mg) : FnG P w K mg base CX0 1 T.a_same T.d_same ["_law_found_here", "_law_due_here"] (spSame (K := K)) := by
  refine okG T.F_same sc_same (fun vs H Q E h => ?_) (fun cdv A outer s H vs Q E hr hgd h => ?_)
  · obtain ⟨a, b, t, v, rfl, _⟩ := h
    rfl
  · obtain ⟨a, b, t, v, rfl, ha, hb, sf, th, q⟩ := h
    have hu64 := un64 hr
    refine ⟨_, (pss_cons (ps_if (PW.pt (pw_or (pt_cmpR op_ne (pe_ix ix_tup (pv 0) pe_int (fun _ _ => rfl)) (pe_ix ix_tup (pv 1) pe_int (fun _ _ => rfl)) (nomark _)) (pw_or1 (pt_cmpR (op_neSf hu64) (pe_ix ix_tup (pv 0) pe_int (fun _ _ => rfl)) (pe_ix ix_tup (pv 1) pe_int (fun _ _ => rfl)) (nomark _)))))
        (pss_one (ps_ret pe_bl))
        pss_nil)
      (pss_one (ps_ret (pe_cmpR op_eq (pe_callB c_isi (by rfl) T.n_isinstance (by decide +kernel) (pa_cons (pe_ix ix_tup (pv 0) pe_int (fun _ _ => rfl)) (pa_cons (pe_bltn (v := .ty "bool") (by rfl) T.n_bool (by decide +kernel) rfl) pa_nil))) (pe_callB c_isi (by rfl) T.n_isinstance (by decide +kernel) (pa_cons (pe_ix ix_tup (pv 1) pe_int (fun _ _ => rfl)) (pa_cons (pe_bltn (v := .ty "bool") (by rfl) T.n_bool (by decide +kernel) rfl) pa_nil))) (nomark _))))), ?_⟩
    walk_at "rd"
    have e0 : (!decide (V.str t = V.str t)) = false := by simp
    rw [e0]
    walk_at "rd"
    refine ⟨rfl, sf, ?_⟩
    walk_at "rd"
    obtain ⟨n, ty, k1, k2, k3⟩ := th.ty (K := K)
    refine i_isi ty k2 ?_
    walk_at "rd"
    refine i_isi ty k2 ?_
    walk_at "rd"
    have e1 : decide (V.bl (decide (n = "bool")) = V.bl (decide (n = "bool"))) = true := by simp
    rw [e1]
    exact q
end

end Ice

set_option Elab.async false
set_option linter.all false
set_option maxRecDepth 100000
set_option maxHeartbeats 4000000
namespace Ice
open PySem PySem.Spec PyProof.Rows L2 TL
/-! side conditions, heaps, one step of a reading, and many -/
local macro_rules | `(tactic| walk_at "hp") => `(tactic| first | assumption | exact upd_same | exact New.at_ (by assumption) | (refine keepU ?_ (by assumption); walk_at "hp") | (refine New.app (by assumption) ?_; walk_at "hp") | (refine Same.app (by assumption) ?_; walk_at "hp") | (refine But.app (by assumption) (by assumption) ?_; walk_at "hp"))
local macro_rules | `(tactic| walk_at "sq") => `(tactic| first | assumption | exact SqL.lst (by walk_at "hp") | exact L2.Same.seq (New.same (by assumption)) (by assumption) | exact L2.Same.seq (by assumption) (by assumption))
local macro_rules | `(tactic| walk_at "len") => `(tactic| first | assumption | (simp only [List.length_cons, List.length_nil, List.length_append, List.length_map]; decide) | (refine Ice.sz_of ?_; simp only [List.length_cons, List.length_nil, List.length_append, List.length_map]; omega))
local macro_rules | `(tactic| walk_at "fresh") => `(tactic| (simp only [List.map_append, List.map_cons, List.map_nil, List.nil_append, List.cons_append]; decide +kernel))
local macro_rules | `(tactic| walk_at "sd") => `(tactic| first | assumption | (show _ ≠ _; omega) | exact Or.inl ⟨by omega, by omega⟩ | exact Or.inr ⟨by omega, by omega⟩ | exact ⟨by decide, by decide⟩ | exact ⟨by decide, by decide, by decide⟩ | exact ⟨by omega, by omega, by omega⟩)
/-! one step of a reading, and many -/
local macro_rules | `(tactic| walk_at "st") => `(tactic| first
  | with_reducible refine i_seq ?_
  | with_reducible refine i_if ?_
  | with_reducible refine i_next ?_
  | with_reducible refine i_ret ?_
  | with_reducible refine i_retN ?_
  | with_reducible refine i_drop ?_
  | with_reducible refine i_asg ?_
  | with_reducible refine i_gname ?_
  | with_reducible refine i_gsub ?_
  | ((with_reducible refine i_var (v := ?vv) ?hv ?_); (case hv => exact rfl))
  | with_reducible refine i_c ?_
  | with_reducible refine i_op ?_
  | with_reducible refine i_un ?_
  | with_reducible refine i_test ?_
  | with_reducible refine i_tB ?_
  | with_reducible refine i_and ?_
  | with_reducible refine i_or ?_
  | with_reducible refine i_not ?_
  | with_reducible refine i_andV ?_
  | with_reducible refine i_orV ?_
  | with_reducible refine i_notV ?_
  | with_reducible refine i_ifE ?_
  | with_reducible refine i_chain ?_
  | with_reducible refine i_bl ?_
  | with_reducible refine i_nil ?_
  | with_reducible refine i_cons ?_
  | with_reducible refine i_call ?_
  | with_reducible refine i_cb ?_
  | with_reducible refine i_rI0 ?_
  | with_reducible refine i_rU ?_
  | ((with_reducible refine i_rEq ?hs ?_); (case hs => exact rfl))
  | ((with_reducible refine i_rNe ?hs ?_); (case hs => exact rfl))
  | ((with_reducible refine i_rI ?hc ?_); (case hc => walk_at "sd"))
  | ((with_reducible refine i_ixL (xs := ?xs) (v := ?vv) ?hS ?he ?_); (case hS => walk_at "sq"); (case he => exact rfl))
  | ((with_reducible refine i_setL (xs := ?xs) (j := ?jj) ?hS ?he ?_); (case hS => walk_at "hp"); (case he => exact rfl))
  | with_reducible refine i_tup ?_
  | with_reducible refine i_lst ?_
  | with_reducible refine i_bm ?_
  | with_reducible refine i_bm0 ?_
  | with_reducible refine i_m1 ?_
  | with_reducible refine i_sl ?_
  | with_reducible refine i_nopart ?_
  | with_reducible refine i_part ?_
  | with_reducible refine i_int ?_
  | with_reducible refine i_str ?_
  | with_reducible refine i_for ?_
  | with_reducible refine i_yes ?_
  | ((with_reducible refine i_lenL (xs := ?xs) ?hS ?_); (case hS => walk_at "sq"))
  | ((with_reducible refine i_room ?hz ?_); (case hz => walk_at "len"))
  | with_reducible refine i_leT ?_
  | with_reducible refine i_notInS ?_
  | with_reducible refine i_inS ?_
  | with_reducible refine i_find ?_
  | with_reducible refine i_isB ?_
  | with_reducible refine i_max2 ?_
  | with_reducible refine i_min2 ?_
  | with_reducible exact trivial
  | with_reducible refine iteT ?_
  | with_reducible refine iteF ?_
  | with_reducible refine i_isstr ?_
  | with_reducible refine i_lc ?_
  | ((with_reducible refine i_cat (xs := ?xs) (zs := ?zs) ?ha ?hb ?hz ?_); (case ha => walk_at "hp"); (case hb => walk_at "hp"); (case hz => walk_at "len"))
  | ((with_reducible refine i_tyL (xs := ?xs) ?ha ?_); (case ha => walk_at "hp"))
  | with_reducible refine i_list ?_
  | with_reducible refine i_disp ?_
  | with_reducible refine i_pairs0 ?_
  | with_reducible refine i_pairs ?_
  | with_reducible refine i_newK ?_
  | with_reducible refine i_gcons ?_
  | with_reducible refine i_gnil ?_
  | with_reducible refine i_revL ?_
  | with_reducible refine i_rng1 ?_
  | ((with_reducible refine i_wipe ?hw ?_); (case hw => exact rfl))
  | with_reducible refine iteNT ?_
  | with_reducible refine iteNF ?_)
local macro_rules | `(tactic| walk_at "sx") => `(tactic| first
  | walk_at "st"
  | with_reducible refine i_kinit ?_
  | with_reducible refine i_ost ?_
  | with_reducible refine i_mkO ?_
  | with_reducible refine i_callE ?_
  | with_reducible refine i_makeE ?_
  | with_reducible refine i_xf ?_
  | with_reducible refine i_sfld ?_
  | with_reducible refine i_fld ?_
  | ((with_reducible refine i_ixT (xs := ?xs) (v := ?vv) ?hS ?he ?_); (case hS => exact SqT.tup (by walk_at "hp")); (case he => exact rfl))
  | with_reducible refine i_intB ?_
  | with_reducible refine i_runS ?_
  | with_reducible refine i_runN ?_
  | ((with_reducible refine i_xf1 (fs := ?ff) (v := ?vv) ?hx ?hl ?_); (case hx => walk_at "hp"); (case hl => exact rfl))
  | with_reducible refine i_methE ?_
  | with_reducible refine i_meth ?_
  | with_reducible refine i_make ?_
  | ((with_reducible refine i_obj (dx := ?dd) (fs := ?ff) ?hx ?hl ?_); (case hx => walk_at "hp"); (case hl => exact rfl))
  | ((with_reducible refine i_fld1 (C := ?CC) (dx := ?dd) (fs := ?ff) (v := ?vv) ?hx ?cl ?na ?hl ?_); (case hx => walk_at "hp"); (case cl => assumption); (case na => assumption); (case hl => exact rfl)))
local macro_rules | `(tactic| walk_at "sy") => `(tactic| first
  | walk_at "sx"
  | with_reducible refine i_dget ?_
  | with_reducible refine i_dget2 ?_
  | with_reducible refine i_dput ?_
  | with_reducible refine i_din ?_
  | ((with_reducible refine i_aug (x := ?vv) ?hx ?_); (case hx => exact rfl)))
local macro_rules | `(tactic| walk_at "rd") => `(tactic| repeat (walk_at "sy"))

section
variable {P : Program} {w : World} {K : PySem.W.Frag} {mg : Str → Option Value} {base : Heap}
def chM (CS : List (Addr × Cd)) : List Mk := CS.map fun z => .ch z.1 z.2
def vsM (BS : VL) : List Mk := BS.map fun z => .ves z.1 z.2
def nmM (ps : List Str) : List Mk := ps.map fun n => .data (.str n)
theorem chM_v (CS : List (Addr × Cd)) : (chM CS).map Mk.v = crefs CS := by unfold chM crefs; rw [List.map_map]; rfl
theorem vsM_v (BS : VL) : (vsM BS).map Mk.v = refs BS := by unfold vsM refs; rw [List.map_map]; rfl
theorem nmM_v (ps : List Str) : (nmM ps).map Mk.v = ps.map V.str := by unfold nmM; rw [List.map_map]; rfl
theorem chM_n (CS : List (Addr × Cd)) : (chM CS).map Mk.nm = (CS.map (·.2)).map (·.n) := by unfold chM; rw [List.map_map, List.map_map]; rfl
theorem vsM_n (BS : VL) : (vsM BS).map Mk.nm = (BS.map (·.2)).map (·.n) := by unfold vsM; rw [List.map_map, List.map_map]; rfl
theorem nmM_n (ps : List Str) : (nmM ps).map Mk.nm = ps := by unfold nmM; rw [List.map_map]; exact (List.map_congr_left fun x _ => rfl).trans (List.map_id _)
theorem isB_of {x : Addr} {d : Vd} (h : d.k = .b) : Mk.isB (.ves x d) = true := by unfold Mk.isB; dsimp only; rw [h]
theorem isS_of {x : Addr} {d : Vd} (h : d.k = .s) : Mk.isS (.ves x d) = true := by unfold Mk.isS; dsimp only; rw [h]
/-- the things that stand, made of rows -/
structure Made (T : Top K mg) (H : Hp) (R : Rw) (CS : List (Addr × Cd)) (BS SS : VL) : Prop where
  ec : CS.map (·.2) = R.cs.map (·.2)
  eb : BS.map (·.2) = R.bs.map (·.2)
  es : SS.map (·.2) = R.ss.map (·.2)
  hc : ∀ z ∈ CS, ChT T H z.1 z.2
  hb : ∀ z ∈ BS, VesT T H z.1 z.2
  hs : ∀ z ∈ SS, VesT T H z.1 z.2
theorem Made.same {T : Top K mg} {H H' : Hp} {R : Rw} {CS : List (Addr × Cd)} {BS SS : VL} (m : Made T H R CS BS SS) (e : Same H H') : Made T H' R CS BS SS :=
  ⟨m.ec, m.eb, m.es, fun z hz => (m.hc z hz).same e, fun z hz => (m.hb z hz).same e, fun z hz => (m.hs z hz).same e⟩
theorem find_all {ps : List Str} {wl : List Str} (h : ∀ x ∈ wl, x ∈ ps) : wl.find? (noPort ps) = none := by
  rw [List.find?_eq_none]
  intro x hx
  simp [noPort, h x hx]
/-- what stands makes a world -/
theorem Made.due {T : Top K mg} {H : Hp} {R : Rw} {CS : List (Addr × Cd)} {BS SS : VL} (m : Made T H R CS BS SS) (o : R.ok) : dueW (.int R.b) (some (nmM R.ps)) (some (chM CS)) (some (vsM BS)) (some (vsM SS)) = .made := by
  have lC : CS.length = R.cs.length := by have := congrArg List.length m.ec; simpa using this
  have lB : BS.length = R.bs.length := by have := congrArg List.length m.eb; simpa using this
  have lS : SS.length = R.ss.length := by have := congrArg List.length m.es; simpa using this
  have memC : ∀ z ∈ CS, ∃ y ∈ R.cs, y.2 = z.2 := fun z hz => by
    have : z.2 ∈ CS.map (·.2) := List.mem_map.mpr ⟨z, hz, rfl⟩
    rw [m.ec] at this
    exact List.mem_map.mp this
  have memB : ∀ z ∈ BS, ∃ y ∈ R.bs, y.2 = z.2 := fun z hz => by
    have : z.2 ∈ BS.map (·.2) := List.mem_map.mpr ⟨z, hz, rfl⟩
    rw [m.eb] at this
    exact List.mem_map.mp this
  have memS : ∀ z ∈ SS, ∃ y ∈ R.ss, y.2 = z.2 := fun z hz => by
    have : z.2 ∈ SS.map (·.2) := List.mem_map.mpr ⟨z, hz, rfl⟩
    rw [m.es] at this
    exact List.mem_map.mp this
  have kp : portsOk (some (nmM R.ps)) = true := by
    show (decide ((nmM R.ps).length ≤ 8) && (!decide ((nmM R.ps).length = 0) && (nmM R.ps).all Mk.isN)) = true
    have l : (nmM R.ps).length = R.ps.length := by simp [nmM]
    have := o.p1; have := o.p8
    rw [l, decide_eq_true (by omega), decide_eq_false (by omega)]
    show (nmM R.ps).all Mk.isN = true
    rw [List.all_eq_true]
    intro x hx
    obtain ⟨n, hn, rfl⟩ := List.mem_map.mp hx
    exact o.pi n hn
  have kc : seqOk 12 Mk.isC (some (chM CS)) = true := by
    show (decide ((chM CS).length ≤ 12) && (chM CS).all Mk.isC) = true
    have := o.cl
    rw [decide_eq_true (by simp [chM, lC]; omega), Bool.true_and, List.all_eq_true]
    intro x hx
    obtain ⟨n, hn, rfl⟩ := List.mem_map.mp hx
    rfl
  have kb : seqOk 4 Mk.isB (some (vsM BS)) = true := by
    show (decide ((vsM BS).length ≤ 4) && (vsM BS).all Mk.isB) = true
    have := o.bl
    rw [decide_eq_true (by simp [vsM, lB]; omega), Bool.true_and, List.all_eq_true]
    intro x hx
    obtain ⟨z, hz, rfl⟩ := List.mem_map.mp hx
    obtain ⟨y, hy, e⟩ := memB z hz
    have := (o.bi y hy).2.1
    exact isB_of (by rw [← e]; exact this)
  have ks : seqOk 6 Mk.isS (some (vsM SS)) = true := by
    show (decide ((vsM SS).length ≤ 6) && (vsM SS).all Mk.isS) = true
    have := o.sl
    rw [decide_eq_true (by simp [vsM, lS]; omega), Bool.true_and, List.all_eq_true]
    intro x hx
    obtain ⟨z, hz, rfl⟩ := List.mem_map.mp hx
    obtain ⟨y, hy, e⟩ := memS z hz
    have := (o.si y hy).2.1
    exact isS_of (by rw [← e]; exact this)
  have kk : kindsW (some (nmM R.ps)) (some (chM CS)) (some (vsM BS)) (some (vsM SS)) = none := by
    unfold kindsW
    rw [if_neg (by rw [kp]; decide), if_neg (by rw [kc]; decide), if_neg (by rw [kb]; decide), if_neg (by rw [ks]; decide)]
  have d1 : firstDbl (nmsO (some (nmM R.ps))) = none := by
    rw [show nmsO (some (nmM R.ps)) = (nmM R.ps).map Mk.nm from rfl, nmM_n]
    exact nodup_dbl o.pn
  have d2 : firstDbl (nmsO (some (chM CS))) = none := by
    rw [show nmsO (some (chM CS)) = (chM CS).map Mk.nm from rfl, chM_n, m.ec, List.map_map]
    exact nodup_dbl o.cn
  have d3 : firstDbl (nmsO (some (vsM BS)) ++ nmsO (some (vsM SS))) = none := by
    rw [show nmsO (some (vsM BS)) = (vsM BS).map Mk.nm from rfl, show nmsO (some (vsM SS)) = (vsM SS).map Mk.nm from rfl, vsM_n, vsM_n, m.eb, m.es, ← List.map_append, ← List.map_append, List.map_map]
    exact nodup_dbl o.vn
  have d4 : (wantL (some (chM CS)) (some (vsM BS)) (some (vsM SS))).find? (noPort (nmsO (some (nmM R.ps)))) = none := by
    rw [show nmsO (some (nmM R.ps)) = (nmM R.ps).map Mk.nm from rfl, nmM_n]
    refine find_all fun x hx => ?_
    rcases List.mem_append.mp hx with hx | hx
    · rcases List.mem_append.mp hx with hx | hx
      · obtain ⟨k, hk, hx⟩ := List.mem_flatMap.mp hx
        obtain ⟨z, hz, rfl⟩ := List.mem_map.mp hk
        obtain ⟨y, hy, e⟩ := memC z hz
        have c := (o.ci y hy).2
        rw [e] at c
        have hx : x ∈ [z.2.o, z.2.t] := hx
        simp only [List.mem_cons, List.not_mem_nil, or_false] at hx
        rcases hx with rfl | rfl
        · exact c.1
        · exact c.2
      · obtain ⟨k, hk, hx⟩ := List.mem_flatMap.mp hx
        obtain ⟨z, hz, rfl⟩ := List.mem_map.mp hk
        obtain ⟨y, hy, e⟩ := memB z hz
        have c := (o.bi y hy).2.2
        rw [e] at c
        have hx : x ∈ [z.2.p] := hx
        simp only [List.mem_cons, List.not_mem_nil, or_false] at hx
        rw [hx]; exact c
    · obtain ⟨k, hk, hx⟩ := List.mem_flatMap.mp hx
      obtain ⟨z, hz, rfl⟩ := List.mem_map.mp hk
      obtain ⟨y, hy, e⟩ := memS z hz
      have c := (o.si y hy).2.2
      rw [e] at c
      have hx : x ∈ [z.2.p, z.2.g] := hx
      simp only [List.mem_cons, List.not_mem_nil, or_false] at hx
      rcases hx with rfl | rfl
      · exact c.1
      · exact c.2
  unfold dueW
  rw [if_neg (by rw [inB_of o.b.1 o.b.2]; decide), kk]
  simp only [d1, d2, d3, d4]
theorem ChT.off {T : Top K mg} {H : Hp} {x D : Addr} {c : Cd} {us ws : List V} (hD : H D = some (.lst us)) (h : ChT T H x c) : ChT T (upd H D (.lst ws)) x c := by
  obtain ⟨o, dx, e⟩ := h
  exact ⟨o, dx, by rw [upd_ne (ne_of e hD (by intro z; cases z))]; exact e⟩
theorem VesT.off {T : Top K mg} {H : Hp} {x D : Addr} {v : Vd} {us ws : List V} (hD : H D = some (.lst us)) (h : VesT T H x v) : VesT T (upd H D (.lst ws)) x v := by
  obtain ⟨o, dx, e⟩ := h
  exact ⟨o, dx, by rw [upd_ne (ne_of e hD (by intro z; cases z))]; exact e⟩
theorem sfree {H H' : Hp} {p : Addr} (s : Same H H') (h : H' p = none) : H p = none := by
  cases e : H p with
  | none => rfl
  | some o => rw [s _ _ e] at h; cases h
def spMade12 (T : Top K mg) : Sp := fun vs H Q _ => ∃ (p : Addr) (R : Rw), vs = [.ref p] ∧ RowsT H p R ∧ R.ok ∧ ∀ (r lp lc lb ls : Addr) (CS : List (Addr × Cd)) (BS SS : VL) (H' : Hp), Same H H' → (∀ a ∈ [r, lp, lc, lb, ls], H a = none) →
  H' r = some (.lst [.int R.b, .ref lp, .ref lc, .ref lb, .ref ls]) → H' lp = some (.lst (R.ps.map V.str)) → H' lc = some (.lst (crefs CS)) → H' lb = some (.lst (refs BS)) → H' ls = some (.lst (refs SS)) → Made T H' R CS BS SS → Q (.ref r) H'
theorem ok_made (T : Top K mg) : FnG P w K mg base CX0 8 T.a_made T.d_made ["_law_rows"] (spMade12 T) := by
  have G_channel := ok_channel (P := P) (w := w) (base := base) T
  have G_vessel := ok_vessel (P := P) (w := w) (base := base) T
  refine okG T.F_made sc_made (fun vs H Q E h => ?_) (fun cdv A outer s H vs Q E hr hgd h => ?_)
  · obtain ⟨p, R, rfl, _⟩ := h
    rfl
  · obtain ⟨p, R, rfl, rt, o, q⟩ := h
    have hp := rt.hp
    refine ⟨_, (pss_cons (ps_set (i := 1) sc_made.nd rfl (by first | exact Or.inl rfl | exact Or.inr rfl) (pe_lst (pa_cons (pe_ix ix_list (pv 0) pe_int (fun _ _ => rfl)) (pa_cons (pe_callTy call_list_of (by rfl) T.n_list (by decide +kernel) (pa_cons (pe_ix ix_list (pv 0) pe_int (fun _ _ => rfl)) pa_nil)) (pa_cons (pe_lc (own := [("_law_row", 2)]) (g := gName 2) rfl sc_made.nd (pi_list (pe_ix ix_list (pv 0) pe_int (fun _ _ => rfl))) (blkOk_by (own := [("_law_row", 2)]) (N := ["_law_rows", "_law_made_here", "_law_row"]) (sc := defScope s_made) (by decide +kernel)) (fun _ _ _ _ _ => (pg_name (i := 2) sc_made.nd rfl (by first | exact Or.inl rfl | exact Or.inr rfl))) (fun _ _ _ _ _ => pts_nil) (fun _ _ _ _ _ => (g_call G_channel (hr.mono (by decide)) hgd (by rfl) T.m_channel T.F_channel.kp T.b_channel .nil pass0 (pa_cons (pv 2) pa_nil)))) pa_nil)))))
      (pss_cons (ps_expr (pe_bm PySem.F.plainAttrs_list PySem.F.slot_list_append PySem.F.type_list_append mt_append (pv 1) (pa_cons (pe_lc (own := [("_law_row", 2)]) (g := gName 2) rfl sc_made.nd (pi_list (pe_ix ix_list (pv 0) pe_int (fun _ _ => rfl))) (blkOk_by (own := [("_law_row", 2)]) (N := ["_law_rows", "_law_made_here", "_law_row"]) (sc := defScope s_made) (by decide +kernel)) (fun _ _ _ _ _ => (pg_name (i := 2) sc_made.nd rfl (by first | exact Or.inl rfl | exact Or.inr rfl))) (fun _ _ _ _ _ => pts_nil) (fun _ _ _ _ _ => (g_call G_vessel (hr.mono (by decide)) hgd (by rfl) T.m_vessel T.F_vessel.kp T.b_vessel .nil pass0 (pa_cons pe_str (pa_cons (pv 2) pa_nil))))) pa_nil)))
      (pss_one (ps_ret (pe_op op_cat (pv 1) (pe_lst (pa_cons (pe_lc (own := [("_law_row", 2)]) (g := gName 2) rfl sc_made.nd (pi_list (pe_ix ix_list (pv 0) pe_int (fun _ _ => rfl))) (blkOk_by (own := [("_law_row", 2)]) (N := ["_law_rows", "_law_made_here", "_law_row"]) (sc := defScope s_made) (by decide +kernel)) (fun _ _ _ _ _ => (pg_name (i := 2) sc_made.nd rfl (by first | exact Or.inl rfl | exact Or.inr rfl))) (fun _ _ _ _ _ => pts_nil) (fun _ _ _ _ _ => (g_call G_vessel (hr.mono (by decide)) hgd (by rfl) T.m_vessel T.F_vessel.kp T.b_vessel .nil pass0 (pa_cons pe_str (pa_cons (pv 2) pa_nil))))) pa_nil))))))), ?_⟩
    walk_at "rd"
    refine ⟨R.lp, _, rfl, .inl (SqL.lst rt.h1), ?_⟩
    (intro lp hlp; generalize elp : upd _ lp _ = J1; have N1 := New.of elp hlp; clear elp hlp)
    walk_at "rd"
    have lC := o.cl; have lB := o.bl; have lS := o.sl
    have zz : (30 : Nat) ≤ sizeLine := sz_of (by decide)
    refine lc_relL (SqL.lst (N1.app rt.h2)) (by rw [show (crefs R.cs).length = R.cs.length by simp [crefs]]; omega) (fun i y H => ∃ x z, y = V.ref x ∧ (R.cs.map (·.2))[i]? = some z ∧ ChT T H x z) (fun i y H H' e ⟨x, z, a, b, c⟩ => ⟨x, z, a, b, c.same e⟩) (fun i y H D us ws hD ⟨x, z, a, b, c⟩ => ⟨x, z, a, b, c.off hD⟩) ?_ ?_
    · intro i x H' NY NN hx s hy
      unfold crefs at hx
      rw [List.getElem?_map] at hx
      cases hz : R.cs[i]? with
      | none => rw [hz] at hx; cases hx
      | some z =>
        rw [hz] at hx
        obtain rfl := Option.some.inj hx
        have mz := List.mem_of_getElem? hz
        walk_at "rd"
        refine ⟨z.1, z.2, rfl, s _ _ (N1.app (rt.h3 z mz)), (o.ci z mz).1, fun x' H4 s4 _ ct => ?_⟩
        exact hy _ _ s4 ⟨x', z.2, rfl, by rw [List.getElem?_map, hz]; rfl, ct⟩
    intro lc H2 yc hlc s2 klc lyc ryc
    obtain ⟨CS, rfl, eCS, hCS⟩ := made_list yc (R.cs.map (·.2)) (by rw [lyc]; simp [crefs]) ryc
    walk_at "rd"
    (intro r3 hr3; generalize er3 : upd _ r3 _ = J3; have N3 := New.of er3 hr3; clear er3 hr3)
    have s3 := N1.same.trans (s2.trans N3.same)
    walk_at "rd"
    refine lc_relL (SqL.lst (s3 _ _ rt.h4)) (by rw [show (refs R.bs).length = R.bs.length by simp [refs]]; omega) (fun i y H => ∃ x z, y = V.ref x ∧ (R.bs.map (·.2))[i]? = some z ∧ VesT T H x z) (fun i y H H' e ⟨x, z, a, b, c⟩ => ⟨x, z, a, b, VesA.same c e⟩) (fun i y H D us ws hD ⟨x, z, a, b, c⟩ => ⟨x, z, a, b, c.off hD⟩) ?_ ?_
    · intro i x H' NY NN hx s hy
      obtain ⟨z, hz, rfl⟩ := refs_get hx
      have mz := List.mem_of_getElem? hz
      obtain ⟨ok, kk, _⟩ := o.bi z mz
      walk_at "rd"
      refine ⟨.b, z.1, z.2.row, rfl, s _ _ (s3 _ _ (rt.h5 z mz)), by rw [← kk]; exact rowK_of ok, fun x' dx H4 s4 _ kx => ?_⟩
      refine hy _ _ s4 ⟨x', z.2, rfl, by rw [List.getElem?_map, hz]; rfl, ok, dx, ?_⟩
      unfold Vd.flds
      rw [kk]; exact kx
    intro lb H4 yb hlb s4 klb lyb ryb
    obtain ⟨BS, rfl, eBS, hBS⟩ := made_list yb (R.bs.map (·.2)) (by rw [lyb]; simp [refs]) ryb
    have k3 := s4 _ _ N3.at_
    walk_at "rd"
    refine ⟨r3, _, _, rfl, rfl, k3, by show 3 + 1 ≤ _; omega, ?_⟩
    generalize eJ5 : upd H4 r3 _ = J5
    have B5 : But r3 H4 J5 := by rw [← eJ5]; exact But.set _
    have k5 : J5 r3 = some (.lst [.int R.b, .ref lp, .ref lc, .ref lb]) := by rw [← eJ5, upd_same]; rfl
    have s5 : Same H J5 := fun a u h => B5 _ _ (ne_of_none ((N1.same.trans s2) _ _ h) N3.free) (s4 _ _ (s3 _ _ h))
    walk_at "rd"
    refine lc_relL (SqL.lst (s5 _ _ rt.h6)) (by rw [show (refs R.ss).length = R.ss.length by simp [refs]]; omega) (fun i y H => ∃ x z, y = V.ref x ∧ (R.ss.map (·.2))[i]? = some z ∧ VesT T H x z) (fun i y H H' e ⟨x, z, a, b, c⟩ => ⟨x, z, a, b, VesA.same c e⟩) (fun i y H D us ws hD ⟨x, z, a, b, c⟩ => ⟨x, z, a, b, c.off hD⟩) ?_ ?_
    · intro i x H' NY NN hx s hy
      obtain ⟨z, hz, rfl⟩ := refs_get hx
      have mz := List.mem_of_getElem? hz
      obtain ⟨ok, kk, _⟩ := o.si z mz
      walk_at "rd"
      refine ⟨.s, z.1, z.2.row, rfl, s _ _ (s5 _ _ (rt.h7 z mz)), by rw [← kk]; exact rowK_of ok, fun x' dx H4 s4 _ kx => ?_⟩
      refine hy _ _ s4 ⟨x', z.2, rfl, by rw [List.getElem?_map, hz]; rfl, ok, dx, ?_⟩
      unfold Vd.flds
      rw [kk]; exact kx
    intro ls H6 ys hls s6 kls lys rys
    obtain ⟨SS, rfl, eSS, hSS⟩ := made_list ys (R.ss.map (·.2)) (by rw [lys]; simp [refs]) rys
    have k6 := s6 _ _ k5
    walk_at "rd"
    (intro r7 hr7; generalize er7 : upd _ r7 _ = J7; have N7 := New.of er7 hr7; clear er7 hr7)
    walk_at "rd"
    (intro r8 hr8; generalize er8 : upd _ r8 _ = J8; have N8 := New.of er8 hr8; clear er8 hr8)
    have s8 : Same J5 J8 := s6.trans (N7.same.trans N8.same)
    have nlp : lp ≠ r3 := ne_of_none (s2 _ _ N1.at_) N3.free
    have nlc : lc ≠ r3 := ne_of_none klc N3.free
    have nlb : lb ≠ r3 := fun z => by rw [z, N3.at_] at hlb; cases hlb
    have o5 : ∀ {x : Addr} {c : Cd}, ChT T H4 x c → ChT T J5 x c := fun {x c} h => by rw [← eJ5]; exact h.off k3
    have v5 : ∀ {x : Addr} {c : Vd}, VesT T H4 x c → VesT T J5 x c := fun {x c} h => by rw [← eJ5]; exact h.off k3
    refine q r8 lp lc lb ls CS BS SS J8 (s5.trans s8) ?_ N8.at_ (s8 _ _ (B5 _ _ nlp (s4 _ _ (N3.app (s2 _ _ N1.at_))))) (s8 _ _ (B5 _ _ nlc (s4 _ _ (N3.app klc)))) (s8 _ _ (B5 _ _ nlb klb)) (N8.app (N7.app kls))
      ⟨eCS, eBS, eSS, fun z hz => (o5 ((hCS z hz).same (N3.same.trans s4))).same s8, fun z hz => VesA.same (v5 (hBS z hz)) s8, fun z hz => VesA.same (hSS z hz) (N7.same.trans N8.same)⟩
    intro a ha
    simp only [List.mem_cons, List.not_mem_nil, or_false] at ha
    rcases ha with rfl | rfl | rfl | rfl | rfl
    · exact sfree (s5.trans (s6.trans N7.same)) N8.free
    · exact N1.free
    · exact sfree N1.same hlc
    · exact sfree s3 hlb
    · exact sfree s5 hls
end

end Ice

set_option Elab.async false
set_option linter.all false
set_option maxRecDepth 100000
set_option maxHeartbeats 4000000
namespace Ice
open PySem PySem.Spec PyProof.Rows L2 TL
/-! side conditions, heaps, one step of a reading, and many -/
local macro_rules | `(tactic| walk_at "hp") => `(tactic| first | assumption | exact upd_same | exact New.at_ (by assumption) | (refine keepU ?_ (by assumption); walk_at "hp") | (refine New.app (by assumption) ?_; walk_at "hp") | (refine Same.app (by assumption) ?_; walk_at "hp") | (refine But.app (by assumption) (by assumption) ?_; walk_at "hp"))
local macro_rules | `(tactic| walk_at "sq") => `(tactic| first | assumption | exact SqL.lst (by walk_at "hp") | exact L2.Same.seq (New.same (by assumption)) (by assumption) | exact L2.Same.seq (by assumption) (by assumption))
local macro_rules | `(tactic| walk_at "len") => `(tactic| first | assumption | (simp only [List.length_cons, List.length_nil, List.length_append, List.length_map]; decide) | (refine Ice.sz_of ?_; simp only [List.length_cons, List.length_nil, List.length_append, List.length_map]; omega))
local macro_rules | `(tactic| walk_at "fresh") => `(tactic| (simp only [List.map_append, List.map_cons, List.map_nil, List.nil_append, List.cons_append]; decide +kernel))
local macro_rules | `(tactic| walk_at "sd") => `(tactic| first | assumption | (show _ ≠ _; omega) | exact Or.inl ⟨by omega, by omega⟩ | exact Or.inr ⟨by omega, by omega⟩ | exact ⟨by decide, by decide⟩ | exact ⟨by decide, by decide, by decide⟩ | exact ⟨by omega, by omega, by omega⟩)
/-! one step of a reading, and many -/
local macro_rules | `(tactic| walk_at "st") => `(tactic| first
  | with_reducible refine i_seq ?_
  | with_reducible refine i_if ?_
  | with_reducible refine i_next ?_
  | with_reducible refine i_ret ?_
  | with_reducible refine i_retN ?_
  | with_reducible refine i_drop ?_
  | with_reducible refine i_asg ?_
  | with_reducible refine i_gname ?_
  | with_reducible refine i_gsub ?_
  | ((with_reducible refine i_var (v := ?vv) ?hv ?_); (case hv => exact rfl))
  | with_reducible refine i_c ?_
  | with_reducible refine i_op ?_
  | with_reducible refine i_un ?_
  | with_reducible refine i_test ?_
  | with_reducible refine i_tB ?_
  | with_reducible refine i_and ?_
  | with_reducible refine i_or ?_
  | with_reducible refine i_not ?_
  | with_reducible refine i_andV ?_
  | with_reducible refine i_orV ?_
  | with_reducible refine i_notV ?_
  | with_reducible refine i_ifE ?_
  | with_reducible refine i_chain ?_
  | with_reducible refine i_bl ?_
  | with_reducible refine i_nil ?_
  | with_reducible refine i_cons ?_
  | with_reducible refine i_call ?_
  | with_reducible refine i_cb ?_
  | with_reducible refine i_rI0 ?_
  | with_reducible refine i_rU ?_
  | ((with_reducible refine i_rEq ?hs ?_); (case hs => exact rfl))
  | ((with_reducible refine i_rNe ?hs ?_); (case hs => exact rfl))
  | ((with_reducible refine i_rI ?hc ?_); (case hc => walk_at "sd"))
  | ((with_reducible refine i_ixL (xs := ?xs) (v := ?vv) ?hS ?he ?_); (case hS => walk_at "sq"); (case he => exact rfl))
  | ((with_reducible refine i_setL (xs := ?xs) (j := ?jj) ?hS ?he ?_); (case hS => walk_at "hp"); (case he => exact rfl))
  | with_reducible refine i_tup ?_
  | with_reducible refine i_lst ?_
  | with_reducible refine i_bm ?_
  | with_reducible refine i_bm0 ?_
  | with_reducible refine i_m1 ?_
  | with_reducible refine i_sl ?_
  | with_reducible refine i_nopart ?_
  | with_reducible refine i_part ?_
  | with_reducible refine i_int ?_
  | with_reducible refine i_str ?_
  | with_reducible refine i_for ?_
  | with_reducible refine i_yes ?_
  | ((with_reducible refine i_lenL (xs := ?xs) ?hS ?_); (case hS => walk_at "sq"))
  | ((with_reducible refine i_room ?hz ?_); (case hz => walk_at "len"))
  | with_reducible refine i_leT ?_
  | with_reducible refine i_notInS ?_
  | with_reducible refine i_inS ?_
  | with_reducible refine i_find ?_
  | with_reducible refine i_isB ?_
  | with_reducible refine i_max2 ?_
  | with_reducible refine i_min2 ?_
  | with_reducible exact trivial
  | with_reducible refine iteT ?_
  | with_reducible refine iteF ?_
  | with_reducible refine i_isstr ?_
  | with_reducible refine i_lc ?_
  | ((with_reducible refine i_cat (xs := ?xs) (zs := ?zs) ?ha ?hb ?hz ?_); (case ha => walk_at "hp"); (case hb => walk_at "hp"); (case hz => walk_at "len"))
  | ((with_reducible refine i_tyL (xs := ?xs) ?ha ?_); (case ha => walk_at "hp"))
  | with_reducible refine i_list ?_
  | with_reducible refine i_disp ?_
  | with_reducible refine i_pairs0 ?_
  | with_reducible refine i_pairs ?_
  | with_reducible refine i_newK ?_
  | with_reducible refine i_gcons ?_
  | with_reducible refine i_gnil ?_
  | with_reducible refine i_revL ?_
  | with_reducible refine i_rng1 ?_
  | ((with_reducible refine i_wipe ?hw ?_); (case hw => exact rfl))
  | with_reducible refine iteNT ?_
  | with_reducible refine iteNF ?_)
local macro_rules | `(tactic| walk_at "sx") => `(tactic| first
  | walk_at "st"
  | with_reducible refine i_kinit ?_
  | with_reducible refine i_ost ?_
  | with_reducible refine i_mkO ?_
  | with_reducible refine i_callE ?_
  | with_reducible refine i_makeE ?_
  | with_reducible refine i_xf ?_
  | with_reducible refine i_sfld ?_
  | with_reducible refine i_fld ?_
  | ((with_reducible refine i_ixT (xs := ?xs) (v := ?vv) ?hS ?he ?_); (case hS => exact SqT.tup (by walk_at "hp")); (case he => exact rfl))
  | with_reducible refine i_intB ?_
  | with_reducible refine i_runS ?_
  | with_reducible refine i_runN ?_
  | ((with_reducible refine i_xf1 (fs := ?ff) (v := ?vv) ?hx ?hl ?_); (case hx => walk_at "hp"); (case hl => exact rfl))
  | with_reducible refine i_methE ?_
  | with_reducible refine i_meth ?_
  | with_reducible refine i_make ?_
  | ((with_reducible refine i_obj (dx := ?dd) (fs := ?ff) ?hx ?hl ?_); (case hx => walk_at "hp"); (case hl => exact rfl))
  | ((with_reducible refine i_fld1 (C := ?CC) (dx := ?dd) (fs := ?ff) (v := ?vv) ?hx ?cl ?na ?hl ?_); (case hx => walk_at "hp"); (case cl => assumption); (case na => assumption); (case hl => exact rfl)))
local macro_rules | `(tactic| walk_at "sy") => `(tactic| first
  | walk_at "sx"
  | with_reducible refine i_dget ?_
  | with_reducible refine i_dget2 ?_
  | with_reducible refine i_dput ?_
  | with_reducible refine i_din ?_
  | ((with_reducible refine i_aug (x := ?vv) ?hx ?_); (case hx => exact rfl)))
local macro_rules | `(tactic| walk_at "rd") => `(tactic| repeat (walk_at "sy"))

theorem nodup_len {α : Type} [DecidableEq α] : ∀ (l S : List α), l.Nodup → (∀ x ∈ l, x ∈ S) → l.length ≤ S.length
  | [], _, _, _ => Nat.zero_le _
  | a :: l, S, h, hs => by
    have ha : a ∈ S := hs a (by simp)
    have hn := List.nodup_cons.mp h
    have ih := nodup_len l (S.erase a) hn.2 (fun x hx => by
      have : x ≠ a := fun e => hn.1 (e ▸ hx)
      exact (List.mem_erase_of_ne this).mpr (hs x (by simp [hx])))
    rw [List.length_erase_of_mem ha] at ih
    have : 0 < S.length := List.length_pos_of_mem ha
    simp; omega
theorem filter_split {α : Type} (p : α → Bool) : ∀ l : List α, l.length = (l.filter p).length + (l.filter fun x => !p x).length
  | [] => rfl
  | a :: l => by
    have ih := filter_split p l
    cases h : p a <;> simp [h] <;> omega
def cand : List Str := [Str.ofString "na", Str.ofString "nb", Str.ofString "nc", Str.ofString "nd", Str.ofString "ne", Str.ofString "nf", Str.ofString "ng", Str.ofString "nh", Str.ofString "ni", Str.ofString "nj", Str.ofString "nk"]
theorem cand_nodup : cand.Nodup := by decide +kernel
theorem cand_isN : ∀ x ∈ cand, isN (.str x) = true := by decide +kernel
/-- few of these stand among the names -/
def Few (pns : List Str) : Prop := ∃ S : List Str, S.length ≤ 8 ∧ ∀ n ∈ pns, n ∈ S ∨ n ∉ cand
theorem few_two {pns : List Str} (h : Few pns) : ∃ x y r, cand.filter (noPort pns) = x :: y :: r ∧ x ≠ y ∧ x ∉ pns ∧ isN (.str x) = true ∧ isN (.str y) = true := by
  obtain ⟨S, hS, hm⟩ := h
  have l1 := filter_split (noPort pns) cand
  have l2 : (cand.filter fun x => !noPort pns x).length ≤ S.length := by
    refine nodup_len _ S (List.Nodup.sublist List.filter_sublist cand_nodup) ?_
    intro x hx
    obtain ⟨hc, hp⟩ := List.mem_filter.mp hx
    have : x ∈ pns := by simpa [noPort] using hp
    rcases hm x this with z | z
    · exact z
    · exact absurd hc z
  have l3 : cand.length = 11 := rfl
  have nd : (cand.filter (noPort pns)).Nodup := List.Nodup.sublist List.filter_sublist cand_nodup
  have mem : ∀ z ∈ cand.filter (noPort pns), isN (.str z) = true ∧ z ∉ pns := fun z hz => by
    obtain ⟨hc, hp⟩ := List.mem_filter.mp hz
    exact ⟨cand_isN z hc, by simpa [noPort] using hp⟩
  generalize cand.filter (noPort pns) = L at l1 nd mem
  match L, l1 with
  | [], l1 => simp at l1; omega
  | [x], l1 => simp at l1; omega
  | x :: y :: r, _ =>
    have := List.nodup_cons.mp nd
    exact ⟨x, y, r, rfl, fun e => this.1 (by simp [e]), (mem x (by simp)).2, (mem x (by simp)).1, (mem y (by simp)).1⟩
theorem cutV_back (xs : List V) (t : Nat) : cutV xs (some (0 - 2 - (t : Int))) none = xs.drop (xs.length - (2 + t)) := by
  unfold cutV
  have e : HT.sIx xs.length 0 (some (0 - 2 - (t : Int))) = xs.length - (2 + t) := by
    show (if (0 - 2 - (t : Int)) < 0 then ((0 - 2 - (t : Int)) + (xs.length : Int)).toNat else _) = _
    rw [if_pos (by omega)]; omega
  rw [e, HT.sIx_none, List.take_of_length_le (by rw [List.length_drop]; omega)]
theorem tail_two {P : List Str} {x y : Str} {t : Nat} (ht : t < 2) (hx : x ∉ P) (hxy : x ≠ y) : ∃ s0 s1 r, (P ++ [x, y]).drop ((P ++ [x, y]).length - (2 + t)) = s0 :: s1 :: r ∧ s0 ≠ s1 ∧ s0 ∈ P ++ [x, y] ∧ s1 ∈ P ++ [x, y] := by
  have h2 : (P ++ [x, y]).drop P.length = [x, y] := by simp
  have : t = 0 ∨ t = 1 := by omega
  rcases this with rfl | rfl
  · refine ⟨x, y, [], ?_, hxy, by simp, by simp⟩
    rw [show (P ++ [x, y]).length - (2 + 0) = P.length by simp]; exact h2
  · rcases List.eq_nil_or_concat P with rfl | ⟨Q, z, rfl⟩
    · exact ⟨x, y, [], rfl, hxy, by simp, by simp⟩
    · refine ⟨z, x, [y], ?_, ?_, by simp, by simp⟩
      · rw [show (Q.concat z ++ [x, y]).length - (2 + 1) = Q.length by simp]
        simp
      · rintro rfl; exact hx (by simp)
section
variable {P : Program} {w : World} {K : PySem.W.Frag} {mg : Str → Option Value} {base : Heap}
def spStranger (T : Top K mg) : Sp := fun vs H Q _ => ∃ (b pl : Addr) (k : Nat) (pns : List Str) (n : Nat), vs = [.ref b, .str (kindT k), .ref pl] ∧ 1 ≤ k ∧ k < 4 ∧ Box H b n ∧ n ≤ 700 ∧ pl ≠ b ∧ H pl = some (.lst (pns.map V.str)) ∧ pns.length ≤ 100 ∧ (∀ x ∈ pns, isN (.str x) = true) ∧ Few pns ∧
  ∀ (m : Mk) (H' : Hp), But b H H' → Box H' b (n + 20) → MkT T H' m → (∀ v, m ≠ .data v) → Q m.v H'
theorem ok_stranger (T : Top K mg) : FnG P w K mg base CX0 7 T.a_stranger T.d_stranger ["_law_box_here", "_law_word", "_law_ports"] (spStranger T) := by
  have G_names := ok_names (P := P) (w := w) (base := base) T
  have G_take := ok_take (P := P) (w := w) (base := base) T
  have G_Ship___init__ := ok_Ship___init__ (P := P) (w := w) (base := base) T
  have G_Channel___init__ := ok_Channel___init__ (P := P) (w := w) (base := base) T
  have G_Breaker___init__ := ok_Breaker___init__ (P := P) (w := w) (base := base) T
  refine okG T.F_stranger sc_stranger (fun vs H Q E h => ?_) (fun cdv A outer s H vs Q E hr hgd h => ?_)
  · obtain ⟨b, pl, k, pns, n, rfl, _⟩ := h
    rfl
  · obtain ⟨b, pl, k, pns, n, rfl, k1, k4, hB, hn, nb, hp, lp, ip, few, q⟩ := h
    refine ⟨_, (pss_cons (ps_set (i := 3) sc_stranger.nd rfl (by first | exact Or.inl rfl | exact Or.inr rfl) (pe_ix ix_list (g_call G_names (hr.mono (by decide)) hgd (by rfl) T.m_names T.F_names.kp T.b_names .nil pass0 (pa_cons (pv 0) (pa_cons pe_int pa_nil))) pe_int (fun _ _ => rfl)))
      (pss_cons (ps_setLc (i := 4) (own := [("_law_two", 6)]) (g := gName 6) rfl sc_stranger.nd rfl rfl (sw_true rfl rfl rfl (by decide +kernel)) (pi_list (pe_lst (pa_cons pe_str (pa_cons pe_str (pa_cons pe_str (pa_cons pe_str (pa_cons pe_str (pa_cons pe_str (pa_cons pe_str (pa_cons pe_str (pa_cons pe_str (pa_cons pe_str (pa_cons pe_str pa_nil))))))))))))) (blkOk_by (own := [("_law_two", 6)]) (N := ["_law_box_here", "_law_word", "_law_ports", "_law_name", "_law_others", "_law_some", "_law_two"]) (sc := defScope s_stranger) (by decide +kernel)) (fun _ _ _ _ _ => (pg_name (i := 6) sc_stranger.nd rfl (by first | exact Or.inl rfl | exact Or.inr rfl))) (fun _ _ _ _ _ => (pts_one (pt_cmpR (show OpR _ (compareOp .NotIn) (rIn K true) from op_notIn_seq) (pv 6) (pv 2) (by rfl)))) (fun _ _ _ _ _ => (pv 6)))
      (pss_cons (ps_set (i := 5) sc_stranger.nd rfl (by first | exact Or.inl rfl | exact Or.inr rfl) (pe_slice sl_list (pe_op op_cat (pe_callTy call_list_of (by rfl) T.n_list (by decide +kernel) (pa_cons (pv 2) pa_nil)) (pe_slice sl_list (pv 4) po_none (po_some pe_int))) (po_some (pe_op op_sub (pe_op op_sub pe_int pe_int) (g_call G_take (hr.mono (by decide)) hgd (by rfl) T.m_take T.F_take.kp T.b_take .nil pass0 (pa_cons (pv 0) (pa_cons pe_int pa_nil))))) po_none))
      (pss_cons (ps_if (pt_cmpR op_eq (pv 1) pe_str (nomark _))
        (pss_one (ps_ret (g_make T.mk_Channel G_Channel___init__ (hr.mono (by decide)) hgd (by rfl) T.c_Channel T.b_Channel___init__ .nil passL (pa_cons (pv 3) (pa_cons (pe_ix ix_list (pv 5) pe_int (fun _ _ => rfl)) (pa_cons (pe_ix ix_list (pv 5) pe_int (fun _ _ => rfl)) (pa_cons pe_int (pa_cons pe_int (pa_cons pe_int (pa_cons pe_int (pa_cons pe_int pa_nil)))))))))))
        pss_nil)
      (pss_cons (ps_if (pt_cmpR op_eq (pv 1) pe_str (nomark _))
        (pss_one (ps_ret (g_make T.mk_Breaker G_Breaker___init__ (hr.mono (by decide)) hgd (by rfl) T.c_Breaker T.b_Breaker___init__ .nil passL (pa_cons (pv 3) (pa_cons (pe_ix ix_list (pv 5) (g_call G_take (hr.mono (by decide)) hgd (by rfl) T.m_take T.F_take.kp T.b_take .nil pass0 (pa_cons (pv 0) (pa_cons pe_int pa_nil))) (fun _ _ => rfl)) (pa_cons pe_int (pa_cons pe_int (pa_cons pe_int (pa_cons pe_int pa_nil)))))))))
        pss_nil)
      (pss_one (ps_ret (g_make T.mk_Ship G_Ship___init__ (hr.mono (by decide)) hgd (by rfl) T.c_Ship T.b_Ship___init__ .nil passL (pa_cons (pv 3) (pa_cons (pe_ix ix_list (pv 5) (g_call G_take (hr.mono (by decide)) hgd (by rfl) T.m_take T.F_take.kp T.b_take .nil pass0 (pa_cons (pv 0) (pa_cons pe_int pa_nil))) (fun _ _ => rfl)) (pa_cons (pe_ix ix_list (pv 5) pe_int (fun _ _ => rfl)) (pa_cons pe_int (pa_cons pe_int (pa_cons pe_int pa_nil)))))))))))))), ?_⟩
    walk_at "rd"
    refine ⟨b, 2, n, rfl, hB, by omega, by decide, fun nl nms H1 fnl e1 B1 knl lnl ndl inl => ?_⟩
    have nnb := hB.ne fnl
    obtain ⟨nm, hnm, mnm, _⟩ := pickS (ns := nms) (d := 0) (by decide) (by rw [lnl]; decide)
    have inm := inl nm mnm
    walk_at "rd"
    refine i_ixL (SqL.lst knl) hnm ?_
    walk_at "rd"
    (intro pc hpc; generalize epc : upd _ pc _ = J2; have N2 := New.of epc hpc; clear epc hpc)
    walk_at "rd"
    have hp2 : J2 pl = some (.lst (pns.map V.str)) := N2.app (e1 _ _ nb hp)
    have kc2 : J2 pc = some (.lst (cand.map V.str)) := N2.at_
    refine lc_gatherL (SqL.lst kc2) (cand.map (stray pns)) (by simp) (by rw [List.length_map]; show 11 < _; have := sz_of (n := 12) (by decide); omega) ?_ ?_
    · intro i x o H' NY NN hx ho s hy hn
      obtain ⟨n, rfl, rfl⟩ := strs_get2 hx ho
      walk_at "rd"
      refine ⟨pl, _, rfl, .inl (SqL.lst (s _ _ hp2)), rfl, flat_strs _, ?_⟩
      rw [if_pos rfl, str_inV]
      walk_at "rd"
      refine ifs (fun h1 => ?_) (fun h1 => ?_)
      · walk_at "rd"
        exact hy _ _ (by unfold stray; rw [if_pos (show noPort pns n = true from h1)]) (Same.refl _)
      · exact hn _ (by unfold stray; rw [if_neg (by rw [show noPort pns n = false from h1]; decide)]) (Same.refl _)
    intro po H3 hpo s3 kpo
    have eO : gath (cand.map (stray pns)) = (cand.filter (noPort pns)).map V.str := by
      generalize cand = C
      induction C with
      | nil => rfl
      | cons x r ih =>
        cases hx : noPort pns x
        · have e : stray pns x = none := by unfold stray; rw [hx]; rfl
          rw [List.map_cons, e, List.filter_cons, hx]; exact ih
        · have e : stray pns x = some (.str x) := by unfold stray; rw [hx]; rfl
          rw [List.map_cons, e, List.filter_cons, hx]
          show .str x :: gath _ = _
          rw [ih]; rfl
    obtain ⟨x, y, r, ef, nxy, nx, ix, iy⟩ := few_two few
    rw [eO, ef] at kpo
    walk_at "rd"
    refine ⟨pl, _, rfl, .inl (SqL.lst (s3 _ _ hp2)), ?_⟩
    (intro p4 hp4; generalize ep4 : upd _ p4 _ = J4; have N4 := New.of ep4 hp4; clear ep4 hp4)
    walk_at "rd"
    refine ⟨po, _, rfl, SqL.lst (N4.app kpo), ?_⟩
    rw [show cutV ((x :: y :: r).map V.str) none (some (2 : Int)) = [x, y].map V.str from cutV_to (a := 2) _ (by simp)]
    (intro p5 hp5; generalize ep5 : upd _ p5 _ = J5; have N5 := New.of ep5 hp5; clear ep5 hp5)
    have hz30 : pns.length + 30 ≤ sizeLine := sz_of (by omega)
    have k5 : J5 p5 = some (.lst ([x, y].map V.str)) := N5.at_
    have k4' : J5 p4 = some (.lst (pns.map V.str)) := N5.app N4.at_
    walk_at "rd"
    (intro p6 hp6; generalize ep6 : upd _ p6 _ = J6; have N6 := New.of ep6 hp6; clear ep6 hp6)
    rw [← List.map_append] at N6
    have nb6 : ∀ {J : Hp} {a : Addr} {o : HO}, J a = some o → True := fun _ => trivial
    have B6 : Box J6 b (n + 12) := (((((B1.nw N2).same s3).nw N4).nw N5).nw N6).mono (by omega)
    have e6 : But b H J6 := e1.trans (N2.but.trans ((Ice.Same.but s3).trans (N4.but.trans (N5.but.trans N6.but))))
    have n6b : p6 ≠ b := (((((B1.nw N2).same s3).nw N4).nw N5)).off N6
    walk_at "rd"
    refine ⟨b, 2, _, rfl, B6, by omega, by decide, by decide, fun t H7 t0 t1 e7 B7 => ?_⟩
    obtain ⟨t, rfl⟩ := Int.eq_ofNat_of_zero_le t0
    have t2 : t < 2 := by have : (t : Int) < 2 := t1; omega
    walk_at "rd"
    refine ⟨p6, _, rfl, SqL.lst (e7 _ _ n6b N6.at_), ?_⟩
    obtain ⟨s0, s1, rr, es, ne, m0, m1⟩ := tail_two (P := pns) t2 nx nxy
    have hcut : cutV ((pns ++ [x, y]).map V.str) (some (0 - 2 - (t : Int))) none = (s0 :: s1 :: rr).map V.str := by
      rw [cutV_back, List.length_map, ← List.map_drop, es]
    rw [hcut]
    (intro p8 hp8; generalize ep8 : upd _ p8 _ = J8; have N8 := New.of ep8 hp8; clear ep8 hp8)
    have iAll : ∀ z ∈ pns ++ [x, y], isN (.str z) = true := fun z hz => by
      rcases List.mem_append.mp hz with h | h
      · exact ip z h
      · simp only [List.mem_cons, List.not_mem_nil, or_false] at h
        rcases h with rfl | rfl
        · exact ix
        · exact iy
    have i0 := iAll s0 m0; have i1 := iAll s1 m1
    have B8 := B7.nw N8
    have n8b := B7.off N8
    have e8 : But b H J8 := e6.trans (e7.trans N8.but)
    have a0 : atI ((s0 :: s1 :: rr).map V.str) (0 : Int) = some (.str s0) := atI_nat (j := 0) rfl
    have a1 : atI ((s0 :: s1 :: rr).map V.str) (1 : Int) = some (.str s1) := atI_nat (j := 1) rfl
    walk_at "rd"
    have k' : k = 1 ∨ k = 2 ∨ k = 3 := by omega
    rcases k' with rfl | rfl | rfl
    · rw [show decide (V.str (kindT 1) = V.str (Str.ofString "channels")) = true by decide +kernel]
      walk_at "rd"
      refine i_ixL (SqL.lst N8.at_) a0 ?_
      walk_at "rd"
      refine i_ixL (SqL.lst N8.at_) a1 ?_
      walk_at "rd"
      have ck : Cd.ok ⟨nm, s0, s1, 1, 2, 3, 4, 5⟩ := ⟨inm, i0, i1, ne, ⟨by show (1 : Int) ≤ 1; decide, by show (1 : Int) ≤ 1000; decide⟩, ⟨by show (0 : Int) ≤ 2; decide, by show (2 : Int) ≤ 1000; decide⟩, ⟨by show (0 : Int) ≤ 3; decide, by show (3 : Int) ≤ 1000000; decide⟩, ⟨by show (0 : Int) ≤ 4; decide, by show (4 : Int) ≤ 1000; decide⟩, ⟨by show (3 : Int) ≤ 5; decide, by show (5 : Int) ≤ 1000000; decide⟩⟩
      intro z dz hz hdz nex
      refine ⟨z, dz, _, _, _, _, _, _, _, _, rfl, upd_same, cd_th ck _, ?_⟩
      have em := Cd.made ck
      rw [show resC (.str nm) (.str s0) (.str s1) (.int 1) (.int 2) (.int 3) (.int 4) (.int 5) = .made from em]
      refine fun H9 b9 k9 => ⟨rfl, ?_⟩
      have s9 := made_same hz hdz b9
      exact q (.ch z ⟨nm, s0, s1, 1, 2, 3, 4, 5⟩) _ (e8.trans (Ice.Same.but s9)) ((B8.same s9).mono (by omega)) ⟨ck, dz, k9⟩ (fun v e => by cases e)
    · rw [show decide (V.str (kindT 2) = V.str (Str.ofString "channels")) = false by decide +kernel]
      walk_at "rd"
      rw [show decide (V.str (kindT 2) = V.str (Str.ofString "breakers")) = true by decide +kernel]
      walk_at "rd"
      refine ⟨b, 2, _, rfl, B8, by omega, by decide, by decide, fun d H9 d0 d1 e9 B9 => ?_⟩
      obtain ⟨g, hg, ig⟩ : ∃ g, atI ((s0 :: s1 :: rr).map V.str) d = some (.str g) ∧ isN (.str g) = true := by
        obtain ⟨d, rfl⟩ := Int.eq_ofNat_of_zero_le d0
        have : d = 0 ∨ d = 1 := by have : (d : Int) < 2 := d1; omega
        rcases this with rfl | rfl
        · exact ⟨s0, a0, i0⟩
        · exact ⟨s1, a1, i1⟩
      refine i_ixL (SqL.lst (e9 _ _ n8b N8.at_)) hg ?_
      walk_at "rd"
      have five : Five nm g 1 2 3 := ⟨inm, ig, ⟨by decide, by decide⟩, ⟨by decide, by decide⟩, ⟨by decide, by decide⟩⟩
      have okd : Vd.ok ⟨.b, nm, g, g, 1, 2, 3, 4⟩ := ⟨five, ig, (by decide : (1 : Int) ≤ 4 ∧ (4 : Int) ≤ 1000000)⟩
      intro z dz hz hdz nex
      have th : ∀ H, ∀ v ∈ [V.str nm, V.str g, V.int 1, V.int 2, V.int 3, V.int 4], Th H v := fun H => (rowK_of okd).th H
      refine ⟨z, dz, _, _, _, _, _, _, rfl, upd_same, th _, ?_⟩
      rw [resV_snoc, five.made]
      dsimp only
      rw [if_neg (by show ¬ (!inB 1 1000000 (.int 4)) = true; decide)]
      refine fun H10 b10 k10 => ⟨rfl, ?_⟩
      have s10 := made_same hz hdz b10
      exact q (.ves z ⟨.b, nm, g, g, 1, 2, 3, 4⟩) _ ((e8.trans e9).trans (Ice.Same.but s10)) ((B9.same s10).mono (by omega)) ⟨okd, dz, k10⟩ (fun v e => by cases e)
    · rw [show decide (V.str (kindT 3) = V.str (Str.ofString "channels")) = false by decide +kernel]
      walk_at "rd"
      rw [show decide (V.str (kindT 3) = V.str (Str.ofString "breakers")) = false by decide +kernel]
      walk_at "rd"
      refine ⟨b, 2, _, rfl, B8, by omega, by decide, by decide, fun d H9 d0 d1 e9 B9 => ?_⟩
      obtain ⟨g, hg, ig⟩ : ∃ g, atI ((s0 :: s1 :: rr).map V.str) d = some (.str g) ∧ isN (.str g) = true := by
        obtain ⟨d, rfl⟩ := Int.eq_ofNat_of_zero_le d0
        have : d = 0 ∨ d = 1 := by have : (d : Int) < 2 := d1; omega
        rcases this with rfl | rfl
        · exact ⟨s0, a0, i0⟩
        · exact ⟨s1, a1, i1⟩
      refine i_ixL (SqL.lst (e9 _ _ n8b N8.at_)) hg ?_
      walk_at "rd"
      refine i_ixL (SqL.lst (e9 _ _ n8b N8.at_)) a0 ?_
      walk_at "rd"
      have five : Five nm g 1 2 3 := ⟨inm, ig, ⟨by decide, by decide⟩, ⟨by decide, by decide⟩, ⟨by decide, by decide⟩⟩
      have okd : Vd.ok ⟨.s, nm, g, s0, 1, 2, 3, 1⟩ := ⟨five, i0, (by decide : (1 : Int) ≤ 1 ∧ (1 : Int) ≤ 1000000)⟩
      intro z dz hz hdz nex
      have th : ∀ H, ∀ v ∈ [V.str nm, V.str g, V.str s0, V.int 1, V.int 2, V.int 3], Th H v := fun H => (rowK_of okd).th H
      refine ⟨z, dz, _, _, _, _, _, _, rfl, upd_same, th _, ?_⟩
      have nbd : [V.str nm, V.str g, V.str s0].find? bad = none := by simp [bad, inm, ig, i0]
      rw [resV_goal nbd, five.made]
      refine fun H10 b10 k10 => ⟨rfl, ?_⟩
      have s10 := made_same hz hdz b10
      exact q (.ves z ⟨.s, nm, g, s0, 1, 2, 3, 1⟩) _ ((e8.trans e9).trans (Ice.Same.but s10)) ((B9.same s10).mono (by omega)) ⟨okd, dz, k10⟩ (fun v e => by cases e)
end

end Ice

set_option Elab.async false
set_option linter.all false
set_option maxRecDepth 100000
set_option maxHeartbeats 4000000
namespace Ice
open PySem PySem.Spec PyProof.Rows L2 TL
/-! side conditions, heaps, one step of a reading, and many -/
local macro_rules | `(tactic| walk_at "hp") => `(tactic| first | assumption | exact upd_same | exact New.at_ (by assumption) | (refine keepU ?_ (by assumption); walk_at "hp") | (refine New.app (by assumption) ?_; walk_at "hp") | (refine Same.app (by assumption) ?_; walk_at "hp") | (refine But.app (by assumption) (by assumption) ?_; walk_at "hp"))
local macro_rules | `(tactic| walk_at "sq") => `(tactic| first | assumption | exact SqL.lst (by walk_at "hp") | exact L2.Same.seq (New.same (by assumption)) (by assumption) | exact L2.Same.seq (by assumption) (by assumption))
local macro_rules | `(tactic| walk_at "len") => `(tactic| first | assumption | (simp only [List.length_cons, List.length_nil, List.length_append, List.length_map]; decide) | (refine Ice.sz_of ?_; simp only [List.length_cons, List.length_nil, List.length_append, List.length_map]; omega))
local macro_rules | `(tactic| walk_at "fresh") => `(tactic| (simp only [List.map_append, List.map_cons, List.map_nil, List.nil_append, List.cons_append]; decide +kernel))
local macro_rules | `(tactic| walk_at "sd") => `(tactic| first | assumption | (show _ ≠ _; omega) | exact Or.inl ⟨by omega, by omega⟩ | exact Or.inr ⟨by omega, by omega⟩ | exact ⟨by decide, by decide⟩ | exact ⟨by decide, by decide, by decide⟩ | exact ⟨by omega, by omega, by omega⟩)
/-! one step of a reading, and many -/
local macro_rules | `(tactic| walk_at "st") => `(tactic| first
  | with_reducible refine i_seq ?_
  | with_reducible refine i_if ?_
  | with_reducible refine i_next ?_
  | with_reducible refine i_ret ?_
  | with_reducible refine i_retN ?_
  | with_reducible refine i_drop ?_
  | with_reducible refine i_asg ?_
  | with_reducible refine i_gname ?_
  | with_reducible refine i_gsub ?_
  | ((with_reducible refine i_var (v := ?vv) ?hv ?_); (case hv => exact rfl))
  | with_reducible refine i_c ?_
  | with_reducible refine i_op ?_
  | with_reducible refine i_un ?_
  | with_reducible refine i_test ?_
  | with_reducible refine i_tB ?_
  | with_reducible refine i_and ?_
  | with_reducible refine i_or ?_
  | with_reducible refine i_not ?_
  | with_reducible refine i_andV ?_
  | with_reducible refine i_orV ?_
  | with_reducible refine i_notV ?_
  | with_reducible refine i_ifE ?_
  | with_reducible refine i_chain ?_
  | with_reducible refine i_bl ?_
  | with_reducible refine i_nil ?_
  | with_reducible refine i_cons ?_
  | with_reducible refine i_call ?_
  | with_reducible refine i_cb ?_
  | with_reducible refine i_rI0 ?_
  | with_reducible refine i_rU ?_
  | ((with_reducible refine i_rEq ?hs ?_); (case hs => exact rfl))
  | ((with_reducible refine i_rNe ?hs ?_); (case hs => exact rfl))
  | ((with_reducible refine i_rI ?hc ?_); (case hc => walk_at "sd"))
  | ((with_reducible refine i_ixL (xs := ?xs) (v := ?vv) ?hS ?he ?_); (case hS => walk_at "sq"); (case he => exact rfl))
  | ((with_reducible refine i_setL (xs := ?xs) (j := ?jj) ?hS ?he ?_); (case hS => walk_at "hp"); (case he => exact rfl))
  | with_reducible refine i_tup ?_
  | with_reducible refine i_lst ?_
  | with_reducible refine i_bm ?_
  | with_reducible refine i_bm0 ?_
  | with_reducible refine i_m1 ?_
  | with_reducible refine i_sl ?_
  | with_reducible refine i_nopart ?_
  | with_reducible refine i_part ?_
  | with_reducible refine i_int ?_
  | with_reducible refine i_str ?_
  | with_reducible refine i_for ?_
  | with_reducible refine i_yes ?_
  | ((with_reducible refine i_lenL (xs := ?xs) ?hS ?_); (case hS => walk_at "sq"))
  | ((with_reducible refine i_room ?hz ?_); (case hz => walk_at "len"))
  | with_reducible refine i_leT ?_
  | with_reducible refine i_notInS ?_
  | with_reducible refine i_inS ?_
  | with_reducible refine i_find ?_
  | with_reducible refine i_isB ?_
  | with_reducible refine i_max2 ?_
  | with_reducible refine i_min2 ?_
  | with_reducible exact trivial
  | with_reducible refine iteT ?_
  | with_reducible refine iteF ?_
  | with_reducible refine i_isstr ?_
  | with_reducible refine i_lc ?_
  | ((with_reducible refine i_cat (xs := ?xs) (zs := ?zs) ?ha ?hb ?hz ?_); (case ha => walk_at "hp"); (case hb => walk_at "hp"); (case hz => walk_at "len"))
  | ((with_reducible refine i_tyL (xs := ?xs) ?ha ?_); (case ha => walk_at "hp"))
  | with_reducible refine i_list ?_
  | with_reducible refine i_disp ?_
  | with_reducible refine i_pairs0 ?_
  | with_reducible refine i_pairs ?_
  | with_reducible refine i_newK ?_
  | with_reducible refine i_gcons ?_
  | with_reducible refine i_gnil ?_
  | with_reducible refine i_revL ?_
  | with_reducible refine i_rng1 ?_
  | ((with_reducible refine i_wipe ?hw ?_); (case hw => exact rfl))
  | with_reducible refine iteNT ?_
  | with_reducible refine iteNF ?_)
local macro_rules | `(tactic| walk_at "sx") => `(tactic| first
  | walk_at "st"
  | with_reducible refine i_kinit ?_
  | with_reducible refine i_ost ?_
  | with_reducible refine i_mkO ?_
  | with_reducible refine i_callE ?_
  | with_reducible refine i_makeE ?_
  | with_reducible refine i_xf ?_
  | with_reducible refine i_sfld ?_
  | with_reducible refine i_fld ?_
  | ((with_reducible refine i_ixT (xs := ?xs) (v := ?vv) ?hS ?he ?_); (case hS => exact SqT.tup (by walk_at "hp")); (case he => exact rfl))
  | with_reducible refine i_intB ?_
  | with_reducible refine i_runS ?_
  | with_reducible refine i_runN ?_
  | ((with_reducible refine i_xf1 (fs := ?ff) (v := ?vv) ?hx ?hl ?_); (case hx => walk_at "hp"); (case hl => exact rfl))
  | with_reducible refine i_methE ?_
  | with_reducible refine i_meth ?_
  | with_reducible refine i_make ?_
  | ((with_reducible refine i_obj (dx := ?dd) (fs := ?ff) ?hx ?hl ?_); (case hx => walk_at "hp"); (case hl => exact rfl))
  | ((with_reducible refine i_fld1 (C := ?CC) (dx := ?dd) (fs := ?ff) (v := ?vv) ?hx ?cl ?na ?hl ?_); (case hx => walk_at "hp"); (case cl => assumption); (case na => assumption); (case hl => exact rfl)))
local macro_rules | `(tactic| walk_at "sy") => `(tactic| first
  | walk_at "sx"
  | with_reducible refine i_dget ?_
  | with_reducible refine i_dget2 ?_
  | with_reducible refine i_dput ?_
  | with_reducible refine i_din ?_
  | ((with_reducible refine i_aug (x := ?vv) ?hx ?_); (case hx => exact rfl)))
local macro_rules | `(tactic| walk_at "rd") => `(tactic| repeat (walk_at "sy"))

section
variable {P : Program} {w : World} {K : PySem.W.Frag} {mg : Str → Option Value} {base : Heap}
/-- a thing of a list, apart from the box -/
def MkL (T : Top K mg) (b : Addr) (H : Hp) (m : Mk) : Prop := (∃ v, m = .data v ∧ OddC b H v) ∨ ((∀ v, m ≠ .data v) ∧ MkT T H m)
theorem MkL.mkT {T : Top K mg} {b : Addr} {H : Hp} {m : Mk} (h : MkL T b H m) : MkT T H m ∧ MkA m := by
  rcases h with ⟨v, rfl, o⟩ | ⟨n, t⟩
  · exact ⟨o.th, o.asc⟩
  · refine ⟨t, fun s e => ?_⟩
    cases m with
    | data v => exact absurd rfl (n v)
    | _ => cases e
theorem MkL.but {T : Top K mg} {b : Addr} {H H' : Hp} {m : Mk} {n : Nat} (h : MkL T b H m) (B : Box H b n) (e : But b H H') : MkL T b H' m := by
  rcases h with ⟨v, rfl, o⟩ | ⟨k, t⟩
  · exact .inl ⟨v, rfl, o.but e⟩
  · refine .inr ⟨k, ?_⟩
    obtain ⟨_, _, _, hb, _⟩ := B.ex
    have ne : ∀ {x C dx : Addr} {fs : List (Str × V)}, H x = some (.ins C dx fs) → x ≠ b := fun {x C dx fs} h => ne_of h hb (by intro z; cases z)
    cases m with
    | data v => exact absurd rfl (k v)
    | ch x c => obtain ⟨o, dx, h⟩ := t; exact ⟨o, dx, e _ _ (ne h) h⟩
    | ves x d => obtain ⟨o, dx, h⟩ := t; exact ⟨o, dx, e _ _ (ne h) h⟩
    | trn x => obtain ⟨dx, fs, h⟩ := t; exact ⟨dx, fs, e _ _ (ne h) h⟩
/-- what is no list and no tuple -/
inductive NoSq (b : Addr) (H : Hp) : V → Prop
  | ps {v : V} {r : PyData} : Ps v r → NoSq b H v
  | dct {p : Addr} : p ≠ b → H p = some (.dK []) → NoSq b H (.ref p)
theorem NoSq.but {b : Addr} {H H' : Hp} {v : V} (h : NoSq b H v) (e : But b H H') : NoSq b H' v := by
  cases h with
  | ps h => exact .ps h
  | dct n h => exact .dct n (e _ _ n h)
theorem kit_no {n : String} (h1 : kitB n "list" = some false) (h2 : kitB n "tuple" = some false) : PySem.W.kitAny K (.type n) [.type "list", .type "tuple"] = some false := by
  show (match PySem.W.kitOne K (.type n) (.type "list") with | some true => some true | some false => PySem.W.kitAny K (.type n) [.type "tuple"] | none => none) = some false
  rw [kit_ty h1]
  show (match PySem.W.kitOne K (.type n) (.type "tuple") with | some true => some true | some false => some false | none => none) = some false
  rw [kit_ty h2]
theorem NoSq.kit {b : Addr} {H : Hp} {v : V} (h : NoSq b H v) : ∃ t, TyX K H v t ∧ PySem.W.kitAny K t [.type "list", .type "tuple"] = some false := by
  cases h with
  | ps h =>
    cases h with
    | non => exact ⟨_, .base .non, kit_no (by decide +kernel) (by decide +kernel)⟩
    | bl x => exact ⟨_, .base (.bl x), kit_no (by decide +kernel) (by decide +kernel)⟩
    | int _ => exact ⟨_, .base (.int _), kit_no (by decide +kernel) (by decide +kernel)⟩
    | str _ _ => exact ⟨_, .base (.str _), kit_no (by decide +kernel) (by decide +kernel)⟩
  | dct _ h => exact ⟨_, .base (.dK h), kit_no (by decide +kernel) (by decide +kernel)⟩
/-- an argument, apart from the box -/
inductive ArgL (T : Top K mg) (b : Addr) (H : Hp) : V → OMk → Prop
  | no {v : V} : NoSq b H v → ArgL T b H v none
  | lst {p : Addr} {ms : List Mk} : p ≠ b → H p = some (.lst (ms.map Mk.v)) → (∀ m ∈ ms, MkL T b H m) → ArgL T b H (.ref p) (some ms)
  | tup {p : Addr} {ms : List Mk} : p ≠ b → H p = some (.tup (ms.map Mk.v)) → (∀ m ∈ ms, MkL T b H m) → ArgL T b H (.ref p) (some ms)
theorem ArgL.but {T : Top K mg} {b : Addr} {H H' : Hp} {v : V} {o : OMk} {n : Nat} (h : ArgL T b H v o) (B : Box H b n) (e : But b H H') : ArgL T b H' v o := by
  cases h with
  | no h => exact .no (h.but e)
  | lst p h m => exact .lst p (e _ _ p h) fun x hx => (m x hx).but B e
  | tup p h m => exact .tup p (e _ _ p h) fun x hx => (m x hx).but B e
theorem ArgL.arg {T : Top K mg} {b : Addr} {H : Hp} {v : V} {o : OMk} (h : ArgL T b H v o) : ArgT T H v o ∧ ∀ ms, o = some ms → ∀ m ∈ ms, MkA m := by
  cases h with
  | no h => obtain ⟨t, ty, k⟩ := h.kit (K := K); exact ⟨.no ty k, nofun⟩
  | lst _ h m => exact ⟨.lst h fun x hx => (m x hx).mkT.1, fun ms e x hx => (m x (by rw [Option.some.inj e]; exact hx)).mkT.2⟩
  | tup _ h m => exact ⟨.tup h fun x hx => (m x hx).mkT.1, fun ms e x hx => (m x (by rw [Option.some.inj e]; exact hx)).mkT.2⟩
theorem ArgL.sq {T : Top K mg} {b : Addr} {H : Hp} {v : V} {ms : List Mk} (h : ArgL T b H v (some ms)) : ∃ p, v = .ref p ∧ p ≠ b ∧ SqO H p (ms.map Mk.v) ∧ ∀ m ∈ ms, MkL T b H m := by
  cases h with
  | lst n h m => exact ⟨_, rfl, n, .inl h, m⟩
  | tup n h m => exact ⟨_, rfl, n, .inr h, m⟩
theorem OddC.arg (T : Top K mg) {b : Addr} {H : Hp} {v : V} (h : OddC b H v) : ∃ o, ArgL T b H v o ∧ ∀ ms, o = some ms → ms.length ≤ 1 ∧ ∀ m ∈ ms, m.nm = Str.ofString "a" := by
  cases h with
  | ps h => exact ⟨none, .no (.ps h), nofun⟩
  | lst0 n h => exact ⟨some [], .lst n h (by simp), fun ms e => by rw [← Option.some.inj e]; exact ⟨by decide, by simp⟩⟩
  | lst1 n h => exact ⟨some [.data (.str (Str.ofString "a"))], .lst n h (fun m hm => by
      have : m = .data (.str (Str.ofString "a")) := by simpa using hm
      subst this
      exact .inl ⟨_, rfl, .ps ps_a⟩), fun ms e => by
        rw [← Option.some.inj e]
        refine ⟨by decide, fun m hm => ?_⟩
        have : m = .data (.str (Str.ofString "a")) := by simpa using hm
        subst this; rfl⟩
  | tup0 n h => exact ⟨some [], .tup n h (by simp), fun ms e => by rw [← Option.some.inj e]; exact ⟨by decide, by simp⟩⟩
  | dct0 n h => exact ⟨none, .no (.dct n h), nofun⟩
theorem OddC.selfP {b : Addr} {H : Hp} {v : V} (h : OddC b H v) : SelfP K H v := by
  cases h with
  | ps h => exact .ps h
  | lst0 n h => exact .lst (SqL.lst h) (by simp)
  | lst1 n h =>
    refine .lst (SqL.lst h) ?_
    intro v hv
    have hv : v = V.str (Str.ofString "a") := by simpa using hv
    subst hv
    exact .inr ⟨_, ps_a⟩
  | tup0 n h => exact .tup (SqT.tup h) (by simp)
  | dct0 n h => exact .dct h
/-- few of the candidates -/
def FewM (ms : List Mk) : Prop := ∃ S : List Str, S.length ≤ 8 ∧ ∀ m ∈ ms, m.isN = true → m.nm ∈ S ∨ m.nm ∉ cand
structure ThL (T : Top K mg) (b : Addr) (H : Hp) (p : Addr) (vb : V) (vs : List V) (os : List OMk) (k : Nat) : Prop where
  pb : p ≠ b
  hp : H p = some (.lst (vb :: vs))
  ob : OddC b H vb
  lv : vs.length = 4
  lo : os.length = 4
  ar : ∀ (i : Nat) (v : V) (o : OMk), vs[i]? = some v → os[i]? = some o → ArgL T b H v o
  len : ∀ o ∈ os, ∀ ms, o = some ms → ms.length ≤ 12 + k
  few : ∀ ms, os[0]? = some (some ms) → FewM ms
theorem ThL.but {T : Top K mg} {b : Addr} {H H' : Hp} {p : Addr} {vb : V} {vs : List V} {os : List OMk} {k n : Nat} (t : ThL T b H p vb vs os k) (B : Box H b n) (e : But b H H') : ThL T b H' p vb vs os k :=
  ⟨t.pb, e _ _ t.pb t.hp, t.ob.but e, t.lv, t.lo, fun i v o h1 h2 => (t.ar i v o h1 h2).but B e, t.len, t.few⟩
theorem ThL.at_ {T : Top K mg} {b : Addr} {H : Hp} {p : Addr} {vb : V} {vs : List V} {os : List OMk} {k : Nat} (t : ThL T b H p vb vs os k) {i : Nat} (hi : i < 4) : ∃ v o, vs[i]? = some v ∧ os[i]? = some o ∧ ArgL T b H v o ∧ (∀ ms, o = some ms → ms.length ≤ 12 + k) ∧ atI (vb :: vs) ((i : Int) + 1) = some v := by
  have h1 : i < vs.length := by rw [t.lv]; exact hi
  have h2 : i < os.length := by rw [t.lo]; exact hi
  refine ⟨vs[i], os[i], List.getElem?_eq_getElem h1, List.getElem?_eq_getElem h2, t.ar i _ _ (List.getElem?_eq_getElem h1) (List.getElem?_eq_getElem h2), t.len _ (List.getElem_mem h2), ?_⟩
  rw [show ((i : Int) + 1) = ((i + 1 : Nat) : Int) by omega]
  exact atI_nat (j := i + 1) (by rw [List.getElem?_cons_succ]; exact List.getElem?_eq_getElem h1)
/-- one argument put otherwise -/
theorem ThL.put {T : Top K mg} {b : Addr} {H H' : Hp} {p p' : Addr} {vb : V} {vs : List V} {os : List OMk} {k n : Nat} (t : ThL T b H p vb vs os k) (B : Box H b n) (e : But b H H') {i : Nat} (hi : i < 4) {v : V} {o : OMk} (pb : p' ≠ b) (hp : H' p' = some (.lst (vb :: vs.set i v)))
    (a : ArgL T b H' v o) (hl : ∀ ms, o = some ms → ms.length ≤ 12 + (k + 1)) (hf : i = 0 → ∀ ms, o = some ms → FewM ms) : ThL T b H' p' vb (vs.set i v) (os.set i o) (k + 1) := by
  have h1 : i < vs.length := by rw [t.lv]; exact hi
  have h2 : i < os.length := by rw [t.lo]; exact hi
  refine ⟨pb, hp, t.ob.but e, by rw [List.length_set, t.lv], by rw [List.length_set, t.lo], fun j u q hu hq => ?_, fun q hq ms em => ?_, fun ms em => ?_⟩
  · rw [List.getElem?_set] at hu hq
    by_cases z : i = j
    · rw [if_pos z, if_pos (by omega)] at hu hq
      rw [← Option.some.inj hu, ← Option.some.inj hq]; exact a
    · rw [if_neg z] at hu hq
      exact (t.ar j u q hu hq).but B e
  · rcases List.mem_or_eq_of_mem_set hq with h | h
    · exact Nat.le_trans (t.len q h ms em) (by omega)
    · exact hl ms (by rw [← h]; exact em)
  · rw [List.getElem?_set] at em
    by_cases z : i = 0
    · rw [if_pos z, if_pos (by omega)] at em
      exact hf z ms (Option.some.inj em)
    · rw [if_neg z] at em
      exact t.few ms em
def spSpoilt (T : Top K mg) : Sp := fun vs H Q _ => ∃ (b p : Addr) (vb : V) (us : List V) (os : List OMk) (k n : Nat), vs = [.ref b, .ref p] ∧ ThL T b H p vb us os k ∧ k ≤ 3 ∧ Box H b n ∧ n ≤ 600 ∧
  ∀ (p' : Addr) (vb' : V) (us' : List V) (os' : List OMk) (H' : Hp), But b H H' → Box H' b (n + 40) → ThL T b H' p' vb' us' os' (k + 1) → Q (.ref p') H'
theorem oddS_cand : ∀ s ∈ oddS, s ∉ cand := by decide +kernel
theorem gath_names (ms : List Mk) : gath (ms.map fun m => if m.isN = true then some m.v else none) = ((ms.filter Mk.isN).map Mk.nm).map V.str := by
  induction ms with
  | nil => rfl
  | cons m r ih =>
    cases hm : m.isN
    · rw [List.map_cons, hm, List.filter_cons, hm]; exact ih
    · rw [List.map_cons, hm, List.filter_cons, hm, if_pos rfl, isN_nm hm]
      show .str m.nm :: gath _ = _
      rw [ih]; rfl
theorem OddC.off {b : Addr} {H : Hp} {v : V} {D : Addr} {xs ws : List V} (h : OddC b H v) (hD : H D = some (.lst xs)) (hx : 2 ≤ xs.length) : OddC b (upd H D (.lst ws)) v := by
  have nl : ∀ {p : Addr} {ys : List V}, H p = some (.lst ys) → ys.length ≤ 1 → p ≠ D := fun {p ys} h l e => by
    rw [e, hD] at h
    injection h with h; injection h with h
    rw [h] at hx; omega
  cases h with
  | ps h => exact .ps h
  | lst0 n h => exact .lst0 n (by rw [upd_ne (nl h (by decide))]; exact h)
  | lst1 n h => exact .lst1 n (by rw [upd_ne (nl h (by decide))]; exact h)
  | tup0 n h => exact .tup0 n (by rw [upd_ne (ne_of h hD (by intro z; cases z))]; exact h)
  | dct0 n h => exact .dct0 n (by rw [upd_ne (ne_of h hD (by intro z; cases z))]; exact h)
theorem MkL.off {T : Top K mg} {b : Addr} {H : Hp} {m : Mk} {D : Addr} {xs ws : List V} (h : MkL T b H m) (hD : H D = some (.lst xs)) (hx : 2 ≤ xs.length) : MkL T b (upd H D (.lst ws)) m := by
  rcases h with ⟨v, rfl, o⟩ | ⟨k, t⟩
  · exact .inl ⟨v, rfl, o.off hD hx⟩
  · refine .inr ⟨k, ?_⟩
    cases m with
    | data v => exact absurd rfl (k v)
    | ch x c => exact ChT.off hD t
    | ves x d => exact VesT.off hD t
    | trn x => obtain ⟨dx, fs, e⟩ := t; exact ⟨dx, fs, by rw [upd_ne (ne_of e hD (by intro z; cases z))]; exact e⟩
theorem FewM.sub {ms ms' : List Mk} (h : FewM ms) (s : ∀ m ∈ ms', m.isN = true → m ∈ ms ∨ m.nm ∉ cand) : FewM ms' := by
  obtain ⟨S, l, f⟩ := h
  refine ⟨S, l, fun m hm hn => ?_⟩
  rcases s m hm hn with z | z
  · exact f m z hn
  · exact .inr z
theorem isN_str {m : Mk} (h : m.isN = true) : Ice.isN (.str m.nm) = true := by
  cases m with
  | data v => cases v <;> first | exact h | cases h
  | _ => cases h
theorem few_names {ms : List Mk} (h : FewM ms) : Few ((ms.filter Mk.isN).map Mk.nm) := by
  obtain ⟨S, l, f⟩ := h
  refine ⟨S, l, fun n hn => ?_⟩
  obtain ⟨m, hm, rfl⟩ := List.mem_map.mp hn
  obtain ⟨h1, h2⟩ := List.mem_filter.mp hm
  exact f m h1 h2
theorem isT_a : Ice.isN (.str (Str.ofString "a")) = true := by decide +kernel
theorem five_of {n : Str} (h : Ice.isN (.str n) = true) : Five n (Str.ofString "a") 1 2 3 := ⟨h, isT_a, ⟨by decide, by decide⟩, ⟨by decide, by decide⟩, ⟨by decide, by decide⟩⟩
theorem ixN_nat {n i : Nat} (h : i < n) : ixN n (i : Int) = some i := by
  unfold ixN
  rw [if_pos (by omega), if_pos (by omega)]; rfl
theorem ok_spoilt (T : Top K mg) : FnG P w K mg base CX0 8 T.a_spoilt T.d_spoilt ["_law_box_here", "_law_things"] (spSpoilt T) := by
  have G_take := ok_take (P := P) (w := w) (base := base) T
  have G_odd := ok_odd (P := P) (w := w) (base := base) T
  have G_stranger := ok_stranger (P := P) (w := w) (base := base) T
  have G_l_is_name := ok_l_is_name (P := P) (w := w) (base := base) T
  have G_Vessel___init__ := ok_Vessel___init__ (P := P) (w := w) (base := base) T
  have G_Breaker___init__ := ok_Breaker___init__ (P := P) (w := w) (base := base) T
  have G_Ship___init__ := ok_Ship___init__ (P := P) (w := w) (base := base) T
  have G_Train___init__ := ok_Train___init__ (P := P) (w := w) (base := base) T
  have G_Train___init__ := ok_Train___init__ (P := P) (w := w) (base := base) T
  have G_Channel___init__ := ok_Channel___init__ (P := P) (w := w) (base := base) T
  refine okG T.F_spoilt sc_spoilt (fun vs H Q E h => ?_) (fun cdv A outer s H vs Q E hr hgd h => ?_)
  · obtain ⟨b, p, vb, us, os, k, n, rfl, _⟩ := h
    rfl
  · obtain ⟨b, p, vb, us, os, k, n, rfl, t, hk, hB, hn, q⟩ := h
    have hu64 := un64 hr
    refine ⟨_, (pss_cons (ps_set (i := 2) sc_spoilt.nd rfl (by first | exact Or.inl rfl | exact Or.inr rfl) (g_call G_take (hr.mono (by decide)) hgd (by rfl) T.m_take T.F_take.kp T.b_take .nil pass0 (pa_cons (pv 0) (pa_cons pe_int pa_nil))))
      (pss_cons (ps_set (i := 3) sc_spoilt.nd rfl (by first | exact Or.inl rfl | exact Or.inr rfl) (g_call G_take (hr.mono (by decide)) hgd (by rfl) T.m_take T.F_take.kp T.b_take .nil pass0 (pa_cons (pv 0) (pa_cons pe_int pa_nil))))
      (pss_cons (ps_set (i := 4) sc_spoilt.nd rfl (by first | exact Or.inl rfl | exact Or.inr rfl) (pe_ix ix_list (pe_lst (pa_cons pe_str (pa_cons pe_str (pa_cons pe_str (pa_cons pe_str (pa_cons pe_str pa_nil)))))) (pv 2) (fun _ _ => rfl)))
      (pss_cons (ps_set (i := 5) sc_spoilt.nd rfl (by first | exact Or.inl rfl | exact Or.inr rfl) (g_call G_odd (hr.mono (by decide)) hgd (by rfl) T.m_odd T.F_odd.kp T.b_odd .nil pass0 (pa_cons (pv 0) pa_nil)))
      (pss_cons (ps_set (i := 6) sc_spoilt.nd rfl (by first | exact Or.inl rfl | exact Or.inr rfl) (pe_callTy call_list_of (by rfl) T.n_list (by decide +kernel) (pa_cons (pv 1) pa_nil)))
      (pss_cons (ps_if (PW.pt (pw_or (pt_cmpR op_eq (pv 2) pe_int (nomark _)) (pw_or (pt_cmpR op_eq (pv 3) pe_int (nomark _)) (pw_or (pt_not (pt_val (pe_callB call_isiT (by rfl) T.n_isinstance (by decide +kernel) (pa_cons (pe_ix ix_list (pv 1) (pv 2) (fun _ _ => rfl)) (pa_cons (pe_tup (pa_cons (pe_bltn (v := .ty "list") (by rfl) T.n_list (by decide +kernel) rfl) (pa_cons (pe_bltn (v := .ty "tuple") (by rfl) T.n_tuple (by decide +kernel) rfl) pa_nil))) pa_nil))))) (pw_or1 (pt_not (pt_val (pe_callB call_isiT (by rfl) T.n_isinstance (by decide +kernel) (pa_cons (pe_ix ix_list (pv 1) pe_int (fun _ _ => rfl)) (pa_cons (pe_tup (pa_cons (pe_bltn (v := .ty "list") (by rfl) T.n_list (by decide +kernel) rfl) (pa_cons (pe_bltn (v := .ty "tuple") (by rfl) T.n_tuple (by decide +kernel) rfl) pa_nil))) pa_nil))))))))))
        (pss_cons (ps_asg (pv 5) (pg_sub (pv 6) (pv 2) set_list))
      (pss_one (ps_ret (pv 6))))
        pss_nil)
      (pss_cons (ps_set (i := 7) sc_spoilt.nd rfl (by first | exact Or.inl rfl | exact Or.inr rfl) (pe_callTy call_list_of (by rfl) T.n_list (by decide +kernel) (pa_cons (pe_ix ix_list (pv 1) (pv 2) (fun _ _ => rfl)) pa_nil)))
      (pss_cons (ps_set (i := 8) sc_spoilt.nd rfl (by first | exact Or.inl rfl | exact Or.inr rfl) (g_call G_take (hr.mono (by decide)) hgd (by rfl) T.m_take T.F_take.kp T.b_take .nil pass0 (pa_cons (pv 0) (pa_cons (pe_op op_add (pe_callB c_len (by rfl) T.n_len (by decide +kernel) (pa_cons (pv 7) pa_nil)) pe_int) pa_nil))))
      (pss_cons (ps_set (i := 9) sc_spoilt.nd rfl (by first | exact Or.inl rfl | exact Or.inr rfl) (pv 5))
      (C8.pss_cut (ps_if (PW.pt (pw_and (pt_cmpR op_eq (pv 3) pe_int (nomark _)) (pw_and1 (pt_cmpR (op_neNil hu64) (pv 7) (pe_lst pa_nil) (nomark _)))))
        (pss_one (ps_set (i := 9) sc_spoilt.nd rfl (by first | exact Or.inl rfl | exact Or.inr rfl) (pe_ix ix_list (pv 7) (g_call G_take (hr.mono (by decide)) hgd (by rfl) T.m_take T.F_take.kp T.b_take .nil pass0 (pa_cons (pv 0) (pa_cons (pe_callB c_len (by rfl) T.n_len (by decide +kernel) (pa_cons (pv 7) pa_nil)) pa_nil))) (fun _ _ => rfl))))
        (pss_one (ps_if (PW.pt (pw_and (pt_cmpR op_lt (pv 3) pe_int (nomark _)) (pw_and1 (pt_cmpR op_gt (pv 2) pe_int (nomark _)))))
        (pss_one (ps_set (i := 9) sc_spoilt.nd rfl (by first | exact Or.inl rfl | exact Or.inr rfl) (g_call G_stranger (hr.mono (by decide)) hgd (by rfl) T.m_stranger T.F_stranger.kp T.b_stranger .nil pass0 (pa_cons (pv 0) (pa_cons (pv 4) (pa_cons (pe_lc (own := [("_law_port", 11)]) (g := gName 11) rfl sc_spoilt.nd (pi_seq (pe_ix ix_list (pv 1) pe_int (fun _ _ => rfl))) (blkOk_by (own := [("_law_port", 11)]) (N := ["_law_box_here", "_law_things", "_law_at", "_law_way", "_law_word", "_law_odd_here", "_law_found_here", "_law_some", "_law_place", "_law_more", "_law_kinds", "_law_port"]) (sc := defScope s_spoilt) (by decide +kernel)) (fun _ _ _ _ _ => (pg_name (i := 11) sc_spoilt.nd rfl (by first | exact Or.inl rfl | exact Or.inr rfl))) (fun _ _ _ _ _ => (pts_one (pt_val (g_call G_l_is_name (hr.mono (by decide)) hgd (by rfl) T.m_l_is_name T.F_l_is_name.kp T.b_l_is_name .nil pass0 (pa_cons (pv 11) pa_nil))))) (fun _ _ _ _ _ => (pv 11))) pa_nil))))))
        (pss_one (ps_if (pt_cmpR op_eq (pv 3) pe_int (nomark _))
        (pss_cons (ps_set (i := 10) sc_spoilt.nd rfl (by first | exact Or.inl rfl | exact Or.inr rfl) (pe_lst (pa_cons (g_make T.mk_Vessel G_Vessel___init__ (hr.mono (by decide)) hgd (by rfl) T.c_Vessel T.b_Vessel___init__ .nil passL (pa_cons pe_str (pa_cons pe_str (pa_cons pe_int (pa_cons pe_int (pa_cons pe_int pa_nil)))))) (pa_cons (g_make T.mk_Breaker G_Breaker___init__ (hr.mono (by decide)) hgd (by rfl) T.c_Breaker T.b_Breaker___init__ .nil passL (pa_cons pe_str (pa_cons pe_str (pa_cons pe_int (pa_cons pe_int (pa_cons pe_int (pa_cons pe_int pa_nil))))))) (pa_cons (g_make T.mk_Ship G_Ship___init__ (hr.mono (by decide)) hgd (by rfl) T.c_Ship T.b_Ship___init__ .nil passL (pa_cons pe_str (pa_cons pe_str (pa_cons pe_str (pa_cons pe_int (pa_cons pe_int (pa_cons pe_int pa_nil))))))) pa_nil)))))
      (pss_cons (ps_set (i := 10) sc_spoilt.nd rfl (by first | exact Or.inl rfl | exact Or.inr rfl) (pe_op op_cat (pv 10) (pe_lst (pa_cons (g_make T.mk_Train G_Train___init__ (hr.mono (by decide)) hgd (by rfl) T.c_Train T.b_Train___init__ .nil passL (pa_cons (pe_slice sl_list (pv 10) (po_some pe_int) (po_some pe_int)) pa_nil)) (pa_cons (g_make T.mk_Train G_Train___init__ (hr.mono (by decide)) hgd (by rfl) T.c_Train T.b_Train___init__ .nil passL (pa_cons (pe_slice sl_list (pv 10) (po_some pe_int) po_none) pa_nil)) (pa_cons (g_make T.mk_Channel G_Channel___init__ (hr.mono (by decide)) hgd (by rfl) T.c_Channel T.b_Channel___init__ .nil passL (pa_cons pe_str (pa_cons pe_str (pa_cons pe_str (pa_cons pe_int (pa_cons pe_int (pa_cons pe_int (pa_cons pe_int (pa_cons pe_int pa_nil))))))))) pa_nil))))))
      (pss_one (ps_set (i := 9) sc_spoilt.nd rfl (by first | exact Or.inl rfl | exact Or.inr rfl) (pe_ix ix_list (pv 10) (g_call G_take (hr.mono (by decide)) hgd (by rfl) T.m_take T.F_take.kp T.b_take .nil pass0 (pa_cons (pv 0) (pa_cons pe_int pa_nil))) (fun _ _ => rfl))))))
        (pss_one (ps_if (PW.pt (pw_and (pt_cmpR op_eq (pv 3) pe_int (nomark _)) (pw_and1 (pt_cmpR op_eq (pv 2) pe_int (nomark _)))))
        (pss_cons (ps_asg (pe_slice sl_list (pv 7) po_none (po_some (pv 8))) (pg_sub (pv 6) (pv 2) set_list))
      (pss_one (ps_ret (pv 6))))
        pss_nil)))))))
      (pss_cons (ps_asg (pe_op op_cat (pe_op op_cat (pe_slice sl_list (pv 7) po_none (po_some (pv 8))) (pe_lst (pa_cons (pv 9) pa_nil))) (pe_slice sl_list (pv 7) (po_some (pv 8)) po_none)) (pg_sub (pv 6) (pv 2) set_list))
      (pss_one (ps_ret (pv 6)))))))))))))), ?_⟩
    walk_at "rd"
    refine ⟨b, 5, n, rfl, hB, by omega, by decide, by decide, fun at_ H1 a0 a1 e1 B1 => ?_⟩
    walk_at "rd"
    refine ⟨b, 6, _, rfl, B1, by omega, by decide, by decide, fun way H2 w0 w1 e2 B2 => ?_⟩
    walk_at "rd"
    (intro pw hpw; generalize epw : upd _ pw _ = J3; have N3 := New.of epw hpw; clear epw hpw)
    walk_at "rd"
    obtain ⟨at_, rfl⟩ := Int.eq_ofNat_of_zero_le a0
    have a5 : at_ < 5 := by have : (at_ : Int) < 5 := a1; omega
    obtain ⟨word, hword, hwk⟩ : ∃ wd : Str, atI [V.str (Str.ofString "begin"), V.str (Str.ofString "ports"), V.str (Str.ofString "channels"), V.str (Str.ofString "breakers"), V.str (Str.ofString "ships")] (at_ : Int) = some (.str wd) ∧ ∀ i, at_ = i + 1 → wd = kindT i := by
      have : at_ = 0 ∨ at_ = 1 ∨ at_ = 2 ∨ at_ = 3 ∨ at_ = 4 := by omega
      rcases this with rfl | rfl | rfl | rfl | rfl
      · exact ⟨_, rfl, fun i e => by omega⟩
      · exact ⟨_, rfl, fun i e => by rw [show i = 0 by omega]; rfl⟩
      · exact ⟨_, rfl, fun i e => by rw [show i = 1 by omega]; rfl⟩
      · exact ⟨_, rfl, fun i e => by rw [show i = 2 by omega]; rfl⟩
      · exact ⟨_, rfl, fun i e => by rw [show i = 3 by omega]; rfl⟩
    refine i_ixL (SqL.lst N3.at_) hword ?_
    walk_at "rd"
    have B3 := B2.nw N3
    refine ⟨b, _, rfl, B3, by omega, fun odd H4 e4 B4 oo osS => ?_⟩
    have e04 : But b H H4 := e1.trans (e2.trans (N3.but.trans e4))
    have t4 := t.but hB e04
    walk_at "rd"
    refine ⟨p, _, rfl, .inl (SqL.lst t4.hp), ?_⟩
    (intro pf hpf; generalize epf : upd _ pf _ = J5; have N5 := New.of epf hpf; clear epf hpf)
    have B5 := B4.nw N5
    have e05 := e04.trans N5.but
    have nfb : pf ≠ b := B4.off N5
    have hfree : H pf = none := e04.free nfb N5.free
    have kf5 : J5 pf = some (.lst (vb :: us)) := N5.at_
    have hOdd : ∀ H6, Same J5 H6 → Q (.ref pf) (upd H6 pf (.lst ((vb :: us).set at_ odd))) := fun H6 s6 => by
      have eN : But b H (upd H6 pf (.lst ((vb :: us).set at_ odd))) := (e05.trans (Ice.Same.but s6)).upd hfree
      have eO : But b H4 (upd H6 pf (.lst ((vb :: us).set at_ odd))) := (N5.but.trans (Ice.Same.but s6)).upd N5.free
      have BN : Box (upd H6 pf (.lst ((vb :: us).set at_ odd))) b (n + 40) := ((B5.same s6).upd nfb).mono (by omega)
      have oN := oo.but eO
      cases at_ with
      | zero => exact q pf odd us os _ eN BN ⟨nfb, upd_same, oN, t.lv, t.lo, fun i v o h1 h2 => (t.ar i v o h1 h2).but hB eN, fun o ho ms e => Nat.le_trans (t.len o ho ms e) (by omega), t.few⟩
      | succ i =>
        obtain ⟨o, ao, al⟩ := OddC.arg T oN
        have kN : upd H6 pf (.lst ((vb :: us).set (i + 1) odd)) pf = some (.lst (vb :: us.set i odd)) := upd_same
        exact q pf vb (us.set i odd) (os.set i o) _ eN BN (t.put hB eN (by omega) nfb kN ao (fun ms e => by have := (al ms e).1; omega) (fun _ ms e => ⟨[], by decide, fun m hm _ => .inr (by rw [(al ms e).2 m hm]; decide +kernel)⟩))
    have hset : ixN (vb :: us).length (at_ : Int) = some at_ := ixN_nat (by simp [t.lv]; omega)
    walk_at "rd"
    refine ifs (fun h1 => ?_) (fun h1 => ?_)
    · walk_at "rd"
      refine i_setL kf5 hset ?_
      walk_at "rd"
      exact hOdd _ (Same.refl _)
    walk_at "rd"
    refine ifs (fun h2 => ?_) (fun h2 => ?_)
    · walk_at "rd"
      refine i_setL kf5 hset ?_
      walk_at "rd"
      exact hOdd _ (Same.refl _)
    obtain ⟨i, rfl⟩ : ∃ i, at_ = i + 1 := ⟨at_ - 1, by
      have : ¬ V.int (at_ : Int) = V.int 0 := of_decide_eq_false h1
      have : at_ ≠ 0 := fun e => this (by rw [e]; rfl)
      omega⟩
    have i4 : i < 4 := by omega
    obtain rfl := hwk i rfl
    obtain ⟨v, o, hv, ho, ar, ln, hat⟩ := t.at_ i4
    obtain ⟨v0, o0, hv0, ho0, ar0, ln0, hat0⟩ := t.at_ (i := 0) (by omega)
    have eq5 : ((i + 1 : Nat) : Int) = (i : Int) + 1 := by omega
    have arJ := ar.but hB e05
    have ar0J := ar0.but hB e05
    have hpJ : J5 p = some (.lst (vb :: us)) := N5.app t4.hp
    have hatI : atI (vb :: us) ((i + 1 : Nat) : Int) = some v := by rw [eq5]; exact hat
    have hat1 : atI (vb :: us) (1 : Int) = some v0 := hat0
    walk_at "rd"
    refine i_ixL (SqL.lst hpJ) hatI ?_
    walk_at "rd"
    (intro q1 hq1; generalize eq1 : upd _ q1 _ = J6; have N6 := New.of eq1 hq1; clear eq1 hq1)
    walk_at "rd"
    obtain ⟨tv, tyv, kkv⟩ := (arJ.arg).1.kit
    cases o with
    | none =>
      refine i_isiTT (b := false) N6.at_ (tyx_same tyv N6.same) kkv ?_
      walk_at "rd"
      refine i_setL (N6.app kf5) hset ?_
      walk_at "rd"
      exact hOdd _ N6.same
    | some ms =>
    refine i_isiTT (b := true) N6.at_ (tyx_same tyv N6.same) kkv ?_
    walk_at "rd"
    refine i_ixL (SqL.lst (N6.app hpJ)) hat1 ?_
    walk_at "rd"
    (intro q2 hq2; generalize eq2 : upd _ q2 _ = J7; have N7 := New.of eq2 hq2; clear eq2 hq2)
    have s7 := N6.same.trans N7.same
    walk_at "rd"
    obtain ⟨tv0, tyv0, kkv0⟩ := (ar0J.arg).1.kit
    cases o0 with
    | none =>
      refine i_isiTT (b := false) N7.at_ (tyx_same tyv0 s7) kkv0 ?_
      walk_at "rd"
      refine i_setL (s7 _ _ kf5) hset ?_
      walk_at "rd"
      exact hOdd _ s7
    | some ms0 =>
    refine i_isiTT (b := true) N7.at_ (tyx_same tyv0 s7) kkv0 ?_
    obtain ⟨pp, rfl, npb, hS, mL⟩ := arJ.sq
    obtain ⟨p0, rfl, np0, hS0, mL0⟩ := ar0J.sq
    have lms := ln ms rfl
    have lms0 := ln0 ms0 rfl
    walk_at "rd"
    refine i_ixL (SqL.lst (s7 _ _ hpJ)) hatI ?_
    walk_at "rd"
    refine ⟨pp, _, rfl, (hS.same s7).sq, ?_⟩
    (intro po hpo; generalize epo : upd _ po _ = J8; have N8 := New.of epo hpo; clear epo hpo)
    have s8 := s7.trans N8.same
    have B8 := (((B5.nw N6).nw N7).nw N8)
    have nob : po ≠ b := (((B5.nw N6).nw N7)).off N8
    have nof : po ≠ pf := fun e => by have := N8.free; rw [e, s7 _ _ kf5] at this; cases this
    walk_at "rd"
    refine ⟨b, _, _, rfl, B8, by omega, ?_, ?_, fun pl H9 pl0 pl1 e9 B9 => ?_⟩
    · rw [List.length_map]; omega
    · rw [List.length_map]; omega
    obtain ⟨pl, rfl⟩ := Int.eq_ofNat_of_zero_le pl0
    have plm : pl ≤ ms.length := by rw [List.length_map] at pl1; omega
    have f9 : But b J5 H9 := (Ice.Same.but s8).trans e9
    have hFin : ∀ (G : Hp) (pS : Addr) (ms' : List Mk) (nn : Nat), But b J5 G → Box G b nn → nn ≤ n + 40 → pS ≠ b → pS ≠ pf → G pS = some (.lst (ms'.map Mk.v)) → (∀ m ∈ ms', MkL T b G m) → ms'.length ≤ ms.length + 1 → (i = 0 → FewM ms') →
        Q (.ref pf) (upd G pf (.lst ((vb :: us).set (i + 1) (.ref pS)))) := fun G pS ms' nn g BG hnn nSb nSf kS mS lS fS => by
      have kf := g _ _ nfb kf5
      have l5 : 2 ≤ (vb :: us).length := by simp [t.lv]
      have eN : But b H (upd G pf (.lst ((vb :: us).set (i + 1) (.ref pS)))) := (e05.trans g).upd hfree
      have kN : upd G pf (.lst ((vb :: us).set (i + 1) (.ref pS))) pf = some (.lst (vb :: us.set i (.ref pS))) := upd_same
      exact q pf vb (us.set i (.ref pS)) (os.set i (some ms')) _ eN ((BG.upd nfb).mono hnn) (t.put hB eN i4 nfb kN (.lst nSb (by rw [upd_ne nSf]; exact kS) fun m hm => (mS m hm).off kf l5) (fun ms2 e => by rw [← Option.some.inj e]; omega) (fun z ms2 e => by rw [← Option.some.inj e]; exact fS z))
    have few0 : i = 0 → FewM ms := fun z => t.few ms (by rw [← ho, z])
    walk_at "rd"
    refine i_cut (fun σ H' => ∃ (m : Mk) (z10 z11 : Option V), But b H9 H' ∧ Box H' b (n + 38) ∧ MkL T b H' m ∧ (i = 0 → m.isN = true → m ∈ ms ∨ m.nm ∉ cand) ∧ σ = [some (.ref b), some (.ref p), some (.int ((i + 1 : Nat) : Int)), some (.int way), some (.str (kindT i)), some odd, some (.ref pf), some (.ref po), some (.int pl), some m.v, z10, z11]) ?_ ?_
    · have o9 := oo.but (N5.but.trans f9)
      have mO : MkL T b H9 (.data odd) := .inl ⟨_, rfl, o9⟩
      have fO : i = 0 → (Mk.data odd).isN = true → (Mk.data odd) ∈ ms ∨ (Mk.data odd).nm ∉ cand := fun _ z => .inr (by
        cases odd with
        | str s => exact oddS_cand s (osS s rfl)
        | _ => cases z)
      have kpo9 : H9 po = some (.lst (ms.map Mk.v)) := e9 _ _ nob N8.at_
      walk_at "rd"
      refine ifs (fun h3 => ?_) (fun h3 => ?_)
      · walk_at "rd"
        (intro q3 hq3; generalize eq3 : upd _ q3 _ = K1; have M1 := New.of eq3 hq3; clear eq3 hq3)
        refine ⟨_, _, _, rfl, rfl, SqL.lst (M1.app kpo9), SqL.lst M1.at_, ?_⟩
        walk_at "rd"
        refine ifs (fun h4 => ?_) (fun h4 => ?_)
        · have lpos : 1 ≤ (ms.map Mk.v).length := by
            cases hms : ms with
            | nil => rw [hms] at h4; cases h4
            | cons a r => simp
          walk_at "rd"
          have kl : (ms.map Mk.v).length ≤ 20 := by rw [List.length_map]; omega
          refine ⟨b, _, _, rfl, B9.nw M1, by omega, by omega, by omega, fun d K2 d0 d1 f2 D2 => ?_⟩
          obtain ⟨u, hu, hum, _⟩ := atI_some (xs := ms.map Mk.v) d0 d1
          obtain ⟨m, hm, rfl⟩ := List.mem_map.mp hum
          have gM := M1.but.trans f2
          refine i_ixL (SqL.lst (f2 _ _ nob (M1.app kpo9))) hu ?_
          exact ⟨m, _, _, gM, D2.mono (by omega), (mL m hm).but B5 (f9.trans gM), fun _ _ => .inl hm, rfl⟩
        · have eM : But b H9 K1 := M1.but
          have gC : But b J5 K1 := f9.trans eM
          walk_at "rd"
          refine ifs (fun c1 => ?_) (fun c1 => ?_)
          · walk_at "rd"
            refine ifs (fun c2 => ?_) (fun c2 => ?_)
            · walk_at "rd"
              refine i_iseq ?_
              walk_at "rd"
              refine i_ixL (SqL.lst (gC _ _ t.pb hpJ)) hat1 ?_
              refine lc_gather (hS0.but np0 gC).sq (ms0.map fun m => if m.isN = true then some m.v else none) (by simp) (by rw [List.length_map]; have := sz_of (n := ms0.length + 1) (by omega); omega) ?_ ?_
              · intro j x o H' NY NN hx ho s hy hn
                obtain ⟨m, hm, _, rfl, rfl⟩ := mk_get hx ho
                obtain ⟨mt, ma⟩ := (((mL0 m hm).but B5 gC).mkT)
                obtain ⟨n1, n2⟩ := (mt.same s).name
                walk_at "rd"
                refine ⟨_, rfl, n1, ma, fun H5 s5 => ?_⟩
                rw [n2]
                walk_at "rd"
                cases hm1 : m.isN
                · exact hn _ (by rw [hm1]; rfl) s5
                · walk_at "rd"
                  exact hy _ _ (by rw [hm1]; rfl) s5
              intro pn K2 hpn s2 kpn
              rw [gath_names] at kpn
              walk_at "rd"
              have i1 : 1 ≤ i := by
                have : ((i + 1 : Nat) : Int) > 1 := of_decide_eq_true c2
                omega
              refine ⟨b, pn, i, _, _, rfl, i1, i4, (B9.nw M1).same s2, by omega, (B9.nw M1).ne hpn, kpn, ?_, ?_, few_names (t.few ms0 (by rw [ho0])), fun m K3 f3 D3 mt nd => ?_⟩
              · rw [List.length_map]
                have := List.length_filter_le Mk.isN ms0
                omega
              · intro x hx
                obtain ⟨m, hm, rfl⟩ := List.mem_map.mp hx
                exact isN_str (List.mem_filter.mp hm).2
              · refine ⟨m, _, _, (eM).trans ((Ice.Same.but s2).trans f3), D3.mono (by omega), .inr ⟨nd, mt⟩, fun z => by omega, rfl⟩
            · have w4 : decide (V.int way = V.int 4) = false := by
                have : way < 4 := of_decide_eq_true c1
                exact decide_eq_false (fun e => by injection e with e; omega)
              have w5 : decide (V.int way = V.int 5) = false := by
                have : way < 4 := of_decide_eq_true c1
                exact decide_eq_false (fun e => by injection e with e; omega)
              walk_at "rd"
              rw [w4]
              walk_at "rd"
              rw [w5]
              walk_at "rd"
              exact ⟨_, _, _, eM, (B9.nw M1).mono (by omega), mO.but B9 (eM), fO, rfl⟩
          · walk_at "rd"
            refine ifs (fun c3 => ?_) (fun c3 => ?_)
            · have thv : ∀ H, ∀ v ∈ [V.str (Str.ofString "v"), V.str (Str.ofString "a"), V.int 1, V.int 2, V.int 3], Th H v := fun H => (rowK_of (d := ⟨.v, Str.ofString "v", Str.ofString "a", Str.ofString "a", 1, 2, 3, 1⟩) ⟨five_of (by decide +kernel), isT_a, (by decide : (1 : Int) ≤ 1 ∧ (1 : Int) ≤ 1000000)⟩).th H
              have okb : Vd.ok ⟨.b, Str.ofString "b", Str.ofString "a", Str.ofString "a", 1, 2, 3, 4⟩ := ⟨five_of (by decide +kernel), isT_a, (by decide : (1 : Int) ≤ 4 ∧ (4 : Int) ≤ 1000000)⟩
              have oks : Vd.ok ⟨.s, Str.ofString "s", Str.ofString "a", Str.ofString "a", 1, 2, 3, 1⟩ := ⟨five_of (by decide +kernel), isT_a, (by decide : (1 : Int) ≤ 1 ∧ (1 : Int) ≤ 1000000)⟩
              have okv : Vd.ok ⟨.v, Str.ofString "v", Str.ofString "a", Str.ofString "a", 1, 2, 3, 1⟩ := ⟨five_of (by decide +kernel), isT_a, (by decide : (1 : Int) ≤ 1 ∧ (1 : Int) ≤ 1000000)⟩
              walk_at "rd"
              intro x1 y1 hx1 hy1 ne1
              refine ⟨x1, T.a_Vessel, y1, _, _, _, _, _, [], rfl, upd_same, .inl rfl, ⟨T.cl_Vessel, T.na_Vessel_name, T.na_Vessel_port, T.na_Vessel_hour, T.na_Vessel_strength, T.na_Vessel_draught⟩, thv _, ?_⟩
              rw [okv.five.made]
              refine fun G1 b1 k1 => ⟨rfl, ?_⟩
              have u1 := made_same hx1 hy1 b1
              have w1 : VesT T G1 x1 ⟨.v, Str.ofString "v", Str.ofString "a", Str.ofString "a", 1, 2, 3, 1⟩ := ⟨okv, y1, k1⟩
              walk_at "rd"
              intro x2 y2 hx2 hy2 ne2
              refine ⟨x2, y2, _, _, _, _, _, _, rfl, upd_same, (rowK_of okb).th _, ?_⟩
              rw [resV_snoc, okb.five.made]
              dsimp only
              rw [if_neg (by show ¬ (!inB 1 1000000 (.int 4)) = true; decide)]
              refine fun G2 b2 k2 => ⟨rfl, ?_⟩
              have u2 := made_same hx2 hy2 b2
              have w2 : VesT T G2 x2 ⟨.b, Str.ofString "b", Str.ofString "a", Str.ofString "a", 1, 2, 3, 4⟩ := ⟨okb, y2, k2⟩
              walk_at "rd"
              intro x3 y3 hx3 hy3 ne3
              refine ⟨x3, y3, _, _, _, _, _, _, rfl, upd_same, (rowK_of oks).th _, ?_⟩
              have nbs : [V.str (Str.ofString "s"), V.str (Str.ofString "a"), V.str (Str.ofString "a")].find? bad = none := by decide +kernel
              rw [resV_goal nbs, oks.five.made]
              refine fun G3 b3 k3 => ⟨rfl, ?_⟩
              have u3 := made_same hx3 hy3 b3
              have w3 : VesT T G3 x3 ⟨.s, Str.ofString "s", Str.ofString "a", Str.ofString "a", 1, 2, 3, 1⟩ := ⟨oks, y3, k3⟩
              walk_at "rd"
              (intro pk hpk; generalize epk : upd _ pk _ = G4; have M4 := New.of epk hpk; clear epk hpk)
              walk_at "rd"
              have u4 := u1.trans (u2.trans (u3.trans M4.same))
              refine ⟨pk, _, rfl, SqL.lst M4.at_, ?_⟩
              rw [show cutV [V.ref x1, V.ref x2, V.ref x3] (some 1) (some 2) = [V.ref x2] from rfl]
              (intro pk1 hpk1; generalize epk1 : upd _ pk1 _ = G5; have M5 := New.of epk1 hpk1; clear epk1 hpk1)
              walk_at "rd"
              intro x4 y4 hx4 hy4 ne4
              have z4 : Same G5 (upd (upd G5 y4 (.own x4)) x4 (.ins T.a_Train y4 [])) := fun a o h => by rw [upd_ne (ne_of_none h hx4), upd_ne (ne_of_none h hy4)]; exact h
              refine ⟨x4, y4, _, rfl, upd_same, .inl ⟨pk1, [(x2, ⟨.b, Str.ofString "b", Str.ofString "a", Str.ofString "a", 1, 2, 3, 4⟩)], rfl, .inl (z4 _ _ M5.at_), Nat.le_refl 1, (by show 1 ≤ 6; decide), ?_, fun G6 b6 k6 => ?_⟩⟩
              · intro z hz
                have : z = (x2, ⟨.b, Str.ofString "b", Str.ofString "a", Str.ofString "a", 1, 2, 3, 4⟩) := by simpa using hz
                subst this
                exact VesA.same w2 (u3.trans (M4.same.trans (M5.same.trans z4)))
              refine ⟨rfl, ?_⟩
              have u6 := made_same hx4 hy4 b6
              obtain ⟨d6, _, _, _, _, _, _, kx4, _⟩ := k6
              walk_at "rd"
              refine ⟨pk, _, rfl, SqL.lst (u6 _ _ (M5.app M4.at_)), ?_⟩
              rw [show cutV [V.ref x1, V.ref x2, V.ref x3] (some 2) none = [V.ref x3] from rfl]
              (intro pk2 hpk2; generalize epk2 : upd _ pk2 _ = G7; have M7 := New.of epk2 hpk2; clear epk2 hpk2)
              walk_at "rd"
              intro x5 y5 hx5 hy5 ne5
              have z5 : Same G7 (upd (upd G7 y5 (.own x5)) x5 (.ins T.a_Train y5 [])) := fun a o h => by rw [upd_ne (ne_of_none h hx5), upd_ne (ne_of_none h hy5)]; exact h
              have u47 := M5.same.trans (u6.trans M7.same)
              refine ⟨x5, y5, _, rfl, upd_same, .inl ⟨pk2, [(x3, ⟨.s, Str.ofString "s", Str.ofString "a", Str.ofString "a", 1, 2, 3, 1⟩)], rfl, .inl (z5 _ _ M7.at_), Nat.le_refl 1, (by show 1 ≤ 6; decide), ?_, fun G8 b8 k8 => ?_⟩⟩
              · intro z hz
                have : z = (x3, ⟨.s, Str.ofString "s", Str.ofString "a", Str.ofString "a", 1, 2, 3, 1⟩) := by simpa using hz
                subst this
                exact VesA.same w3 (M4.same.trans (u47.trans z5))
              refine ⟨rfl, ?_⟩
              have u8 := made_same hx5 hy5 b8
              obtain ⟨d8, _, _, _, _, _, _, kx5, _⟩ := k8
              walk_at "rd"
              intro x6 y6 hx6 hy6 ne6
              have okc : Cd.ok ⟨Str.ofString "c", Str.ofString "a", Str.ofString "b", 1, 2, 3, 4, 5⟩ := ⟨by decide +kernel, isT_a, by decide +kernel, by decide +kernel, ⟨by show (1 : Int) ≤ 1; decide, by show (1 : Int) ≤ 1000; decide⟩, ⟨by show (0 : Int) ≤ 2; decide, by show (2 : Int) ≤ 1000; decide⟩, ⟨by show (0 : Int) ≤ 3; decide, by show (3 : Int) ≤ 1000000; decide⟩, ⟨by show (0 : Int) ≤ 4; decide, by show (4 : Int) ≤ 1000; decide⟩, ⟨by show (3 : Int) ≤ 5; decide, by show (5 : Int) ≤ 1000000; decide⟩⟩
              refine ⟨x6, y6, _, _, _, _, _, _, _, _, rfl, upd_same, cd_th okc _, ?_⟩
              have emc := Cd.made okc
              rw [show resC (.str (Str.ofString "c")) (.str (Str.ofString "a")) (.str (Str.ofString "b")) (.int 1) (.int 2) (.int 3) (.int 4) (.int 5) = .made from emc]
              refine fun G9 b9 k9 => ⟨rfl, ?_⟩
              have u9 := made_same hx6 hy6 b9
              walk_at "rd"
              (intro pk3 hpk3; generalize epk3 : upd _ pk3 _ = G10; have M10 := New.of epk3 hpk3; clear epk3 hpk3)
              have u410 := u47.trans (u8.trans (u9.trans M10.same))
              have kpk : G10 pk = some (.lst [V.ref x1, V.ref x2, V.ref x3]) := u410 _ _ M4.at_
              walk_at "rd"
              (intro pk4 hpk4; generalize epk4 : upd _ pk4 _ = G11; have M11 := New.of epk4 hpk4; clear epk4 hpk4)
              have uA := u4.trans (u410.trans M11.same)
              have BA := (B9.nw M1).same uA
              have npk : pk4 ≠ b := ((B9.nw M1).same (u4.trans u410)).off M11
              walk_at "rd"
              refine ⟨b, 6, _, rfl, BA, by omega, by decide, by decide, fun d K2 d0 d1 f2 D2 => ?_⟩
              obtain ⟨u, hu, hum, _⟩ := atI_some (xs := [V.ref x1, V.ref x2, V.ref x3] ++ [V.ref x4, V.ref x5, V.ref x6]) d0 (by simpa using d1)
              refine i_ixL (SqL.lst (f2 _ _ npk M11.at_)) hu ?_
              have eN : But b H9 K2 := (eM).trans ((Ice.Same.but uA).trans f2)
              have pick : ∀ m : Mk, (∀ v, m ≠ .data v) → MkT T G11 m → u = m.v → ∃ (m : Mk) (z10 z11 : Option V), But b H9 K2 ∧ Box K2 b (n + 38) ∧ MkL T b K2 m ∧ (i = 0 → m.isN = true → m ∈ ms ∨ m.nm ∉ cand) ∧ [some (V.ref b), some (.ref p), some (.int ((i + 1 : Nat) : Int)), some (.int way), some (.str (kindT i)), some odd, some (.ref pf), some (.ref po), some (.int pl), some u, some (.ref pk4), none] = [some (V.ref b), some (.ref p), some (.int ((i + 1 : Nat) : Int)), some (.int way), some (.str (kindT i)), some odd, some (.ref pf), some (.ref po), some (.int pl), some m.v, z10, z11] := fun m nd mt e => by
                refine ⟨m, _, _, eN, D2.mono (by omega), (MkL.but (.inr ⟨nd, mt⟩) BA f2), fun _ z => ?_, by rw [e]⟩
                cases m with
                | data v => exact absurd rfl (nd v)
                | _ => cases z
              simp only [List.cons_append, List.nil_append, List.mem_cons, List.not_mem_nil, or_false] at hum
              rcases hum with h | h | h | h | h | h
              · exact pick (.ves x1 _) nofun (VesA.same w1 (u2.trans (u3.trans (M4.same.trans (u410.trans M11.same))))) h
              · exact pick (.ves x2 _) nofun (VesA.same w2 (u3.trans (M4.same.trans (u410.trans M11.same)))) h
              · exact pick (.ves x3 _) nofun (VesA.same w3 (M4.same.trans (u410.trans M11.same))) h
              · exact pick (.trn x4) nofun ⟨_, _, (M7.same.trans (u8.trans (u9.trans (M10.same.trans M11.same)))) _ _ kx4⟩ h
              · exact pick (.trn x5) nofun ⟨_, _, (u9.trans (M10.same.trans M11.same)) _ _ kx5⟩ h
              · exact pick (.ch x6 _) nofun (ChT.same ⟨okc, y6, k9⟩ (M10.same.trans M11.same)) h
            · walk_at "rd"
              refine ifs (fun c4 => ?_) (fun c4 => ?_)
              · walk_at "rd"
                refine ifs (fun c5 => ?_) (fun c5 => ?_)
                · have i0 : i = 0 := by
                    have h' := of_decide_eq_true c5
                    injection h' with h'
                    omega
                  walk_at "rd"
                  refine ⟨po, _, rfl, SqL.lst ((eM) _ _ nob kpo9), ?_⟩
                  rw [cutV_to _ (by rw [List.length_map]; exact plm), ← List.map_take]
                  (intro pS hpS; generalize epS : upd _ pS _ = G1; have L1 := New.of epS hpS; clear epS hpS)
                  walk_at "rd"
                  refine i_setL (L1.app (gC _ _ nfb kf5)) hset ?_
                  walk_at "rd"
                  have gG := gC.trans L1.but
                  have nSf : pS ≠ pf := fun z => by have := L1.free; rw [z, gC _ _ nfb kf5] at this; cases this
                  exact hFin G1 pS (ms.take pl) _ gG ((B9.nw M1).nw L1) (by omega) ((B9.nw M1).off L1) nSf L1.at_ (fun m hm => (mL m (List.mem_of_mem_take hm)).but B5 gG) (by rw [List.length_take]; omega) (fun z => (few0 z).sub fun m hm _ => .inl (List.mem_of_mem_take hm))
                · walk_at "rd"
                  exact ⟨_, _, _, eM, (B9.nw M1).mono (by omega), mO.but B9 (eM), fO, rfl⟩
              · walk_at "rd"
                exact ⟨_, _, _, eM, (B9.nw M1).mono (by omega), mO.but B9 (eM), fO, rfl⟩
      · have eM : But b H9 H9 := But.refl _ _
        have gC : But b J5 H9 := f9.trans eM
        walk_at "rd"
        refine ifs (fun c1 => ?_) (fun c1 => ?_)
        · walk_at "rd"
          refine ifs (fun c2 => ?_) (fun c2 => ?_)
          · walk_at "rd"
            refine i_iseq ?_
            walk_at "rd"
            refine i_ixL (SqL.lst (gC _ _ t.pb hpJ)) hat1 ?_
            refine lc_gather (hS0.but np0 gC).sq (ms0.map fun m => if m.isN = true then some m.v else none) (by simp) (by rw [List.length_map]; have := sz_of (n := ms0.length + 1) (by omega); omega) ?_ ?_
            · intro j x o H' NY NN hx ho s hy hn
              obtain ⟨m, hm, _, rfl, rfl⟩ := mk_get hx ho
              obtain ⟨mt, ma⟩ := (((mL0 m hm).but B5 gC).mkT)
              obtain ⟨n1, n2⟩ := (mt.same s).name
              walk_at "rd"
              refine ⟨_, rfl, n1, ma, fun H5 s5 => ?_⟩
              rw [n2]
              walk_at "rd"
              cases hm1 : m.isN
              · exact hn _ (by rw [hm1]; rfl) s5
              · walk_at "rd"
                exact hy _ _ (by rw [hm1]; rfl) s5
            intro pn K2 hpn s2 kpn
            rw [gath_names] at kpn
            walk_at "rd"
            have i1 : 1 ≤ i := by
              have : ((i + 1 : Nat) : Int) > 1 := of_decide_eq_true c2
              omega
            refine ⟨b, pn, i, _, _, rfl, i1, i4, (B9).same s2, by omega, (B9).ne hpn, kpn, ?_, ?_, few_names (t.few ms0 (by rw [ho0])), fun m K3 f3 D3 mt nd => ?_⟩
            · rw [List.length_map]
              have := List.length_filter_le Mk.isN ms0
              omega
            · intro x hx
              obtain ⟨m, hm, rfl⟩ := List.mem_map.mp hx
              exact isN_str (List.mem_filter.mp hm).2
            · refine ⟨m, _, _, (eM).trans ((Ice.Same.but s2).trans f3), D3.mono (by omega), .inr ⟨nd, mt⟩, fun z => by omega, rfl⟩
          · have w4 : decide (V.int way = V.int 4) = false := by
              have : way < 4 := of_decide_eq_true c1
              exact decide_eq_false (fun e => by injection e with e; omega)
            have w5 : decide (V.int way = V.int 5) = false := by
              have : way < 4 := of_decide_eq_true c1
              exact decide_eq_false (fun e => by injection e with e; omega)
            walk_at "rd"
            rw [w4]
            walk_at "rd"
            rw [w5]
            walk_at "rd"
            exact ⟨_, _, _, eM, (B9).mono (by omega), mO.but B9 (eM), fO, rfl⟩
        · walk_at "rd"
          refine ifs (fun c3 => ?_) (fun c3 => ?_)
          · have thv : ∀ H, ∀ v ∈ [V.str (Str.ofString "v"), V.str (Str.ofString "a"), V.int 1, V.int 2, V.int 3], Th H v := fun H => (rowK_of (d := ⟨.v, Str.ofString "v", Str.ofString "a", Str.ofString "a", 1, 2, 3, 1⟩) ⟨five_of (by decide +kernel), isT_a, (by decide : (1 : Int) ≤ 1 ∧ (1 : Int) ≤ 1000000)⟩).th H
            have okb : Vd.ok ⟨.b, Str.ofString "b", Str.ofString "a", Str.ofString "a", 1, 2, 3, 4⟩ := ⟨five_of (by decide +kernel), isT_a, (by decide : (1 : Int) ≤ 4 ∧ (4 : Int) ≤ 1000000)⟩
            have oks : Vd.ok ⟨.s, Str.ofString "s", Str.ofString "a", Str.ofString "a", 1, 2, 3, 1⟩ := ⟨five_of (by decide +kernel), isT_a, (by decide : (1 : Int) ≤ 1 ∧ (1 : Int) ≤ 1000000)⟩
            have okv : Vd.ok ⟨.v, Str.ofString "v", Str.ofString "a", Str.ofString "a", 1, 2, 3, 1⟩ := ⟨five_of (by decide +kernel), isT_a, (by decide : (1 : Int) ≤ 1 ∧ (1 : Int) ≤ 1000000)⟩
            walk_at "rd"
            intro x1 y1 hx1 hy1 ne1
            refine ⟨x1, T.a_Vessel, y1, _, _, _, _, _, [], rfl, upd_same, .inl rfl, ⟨T.cl_Vessel, T.na_Vessel_name, T.na_Vessel_port, T.na_Vessel_hour, T.na_Vessel_strength, T.na_Vessel_draught⟩, thv _, ?_⟩
            rw [okv.five.made]
            refine fun G1 b1 k1 => ⟨rfl, ?_⟩
            have u1 := made_same hx1 hy1 b1
            have w1 : VesT T G1 x1 ⟨.v, Str.ofString "v", Str.ofString "a", Str.ofString "a", 1, 2, 3, 1⟩ := ⟨okv, y1, k1⟩
            walk_at "rd"
            intro x2 y2 hx2 hy2 ne2
            refine ⟨x2, y2, _, _, _, _, _, _, rfl, upd_same, (rowK_of okb).th _, ?_⟩
            rw [resV_snoc, okb.five.made]
            dsimp only
            rw [if_neg (by show ¬ (!inB 1 1000000 (.int 4)) = true; decide)]
            refine fun G2 b2 k2 => ⟨rfl, ?_⟩
            have u2 := made_same hx2 hy2 b2
            have w2 : VesT T G2 x2 ⟨.b, Str.ofString "b", Str.ofString "a", Str.ofString "a", 1, 2, 3, 4⟩ := ⟨okb, y2, k2⟩
            walk_at "rd"
            intro x3 y3 hx3 hy3 ne3
            refine ⟨x3, y3, _, _, _, _, _, _, rfl, upd_same, (rowK_of oks).th _, ?_⟩
            have nbs : [V.str (Str.ofString "s"), V.str (Str.ofString "a"), V.str (Str.ofString "a")].find? bad = none := by decide +kernel
            rw [resV_goal nbs, oks.five.made]
            refine fun G3 b3 k3 => ⟨rfl, ?_⟩
            have u3 := made_same hx3 hy3 b3
            have w3 : VesT T G3 x3 ⟨.s, Str.ofString "s", Str.ofString "a", Str.ofString "a", 1, 2, 3, 1⟩ := ⟨oks, y3, k3⟩
            walk_at "rd"
            (intro pk hpk; generalize epk : upd _ pk _ = G4; have M4 := New.of epk hpk; clear epk hpk)
            walk_at "rd"
            have u4 := u1.trans (u2.trans (u3.trans M4.same))
            refine ⟨pk, _, rfl, SqL.lst M4.at_, ?_⟩
            rw [show cutV [V.ref x1, V.ref x2, V.ref x3] (some 1) (some 2) = [V.ref x2] from rfl]
            (intro pk1 hpk1; generalize epk1 : upd _ pk1 _ = G5; have M5 := New.of epk1 hpk1; clear epk1 hpk1)
            walk_at "rd"
            intro x4 y4 hx4 hy4 ne4
            have z4 : Same G5 (upd (upd G5 y4 (.own x4)) x4 (.ins T.a_Train y4 [])) := fun a o h => by rw [upd_ne (ne_of_none h hx4), upd_ne (ne_of_none h hy4)]; exact h
            refine ⟨x4, y4, _, rfl, upd_same, .inl ⟨pk1, [(x2, ⟨.b, Str.ofString "b", Str.ofString "a", Str.ofString "a", 1, 2, 3, 4⟩)], rfl, .inl (z4 _ _ M5.at_), Nat.le_refl 1, (by show 1 ≤ 6; decide), ?_, fun G6 b6 k6 => ?_⟩⟩
            · intro z hz
              have : z = (x2, ⟨.b, Str.ofString "b", Str.ofString "a", Str.ofString "a", 1, 2, 3, 4⟩) := by simpa using hz
              subst this
              exact VesA.same w2 (u3.trans (M4.same.trans (M5.same.trans z4)))
            refine ⟨rfl, ?_⟩
            have u6 := made_same hx4 hy4 b6
            obtain ⟨d6, _, _, _, _, _, _, kx4, _⟩ := k6
            walk_at "rd"
            refine ⟨pk, _, rfl, SqL.lst (u6 _ _ (M5.app M4.at_)), ?_⟩
            rw [show cutV [V.ref x1, V.ref x2, V.ref x3] (some 2) none = [V.ref x3] from rfl]
            (intro pk2 hpk2; generalize epk2 : upd _ pk2 _ = G7; have M7 := New.of epk2 hpk2; clear epk2 hpk2)
            walk_at "rd"
            intro x5 y5 hx5 hy5 ne5
            have z5 : Same G7 (upd (upd G7 y5 (.own x5)) x5 (.ins T.a_Train y5 [])) := fun a o h => by rw [upd_ne (ne_of_none h hx5), upd_ne (ne_of_none h hy5)]; exact h
            have u47 := M5.same.trans (u6.trans M7.same)
            refine ⟨x5, y5, _, rfl, upd_same, .inl ⟨pk2, [(x3, ⟨.s, Str.ofString "s", Str.ofString "a", Str.ofString "a", 1, 2, 3, 1⟩)], rfl, .inl (z5 _ _ M7.at_), Nat.le_refl 1, (by show 1 ≤ 6; decide), ?_, fun G8 b8 k8 => ?_⟩⟩
            · intro z hz
              have : z = (x3, ⟨.s, Str.ofString "s", Str.ofString "a", Str.ofString "a", 1, 2, 3, 1⟩) := by simpa using hz
              subst this
              exact VesA.same w3 (M4.same.trans (u47.trans z5))
            refine ⟨rfl, ?_⟩
            have u8 := made_same hx5 hy5 b8
            obtain ⟨d8, _, _, _, _, _, _, kx5, _⟩ := k8
            walk_at "rd"
            intro x6 y6 hx6 hy6 ne6
            have okc : Cd.ok ⟨Str.ofString "c", Str.ofString "a", Str.ofString "b", 1, 2, 3, 4, 5⟩ := ⟨by decide +kernel, isT_a, by decide +kernel, by decide +kernel, ⟨by show (1 : Int) ≤ 1; decide, by show (1 : Int) ≤ 1000; decide⟩, ⟨by show (0 : Int) ≤ 2; decide, by show (2 : Int) ≤ 1000; decide⟩, ⟨by show (0 : Int) ≤ 3; decide, by show (3 : Int) ≤ 1000000; decide⟩, ⟨by show (0 : Int) ≤ 4; decide, by show (4 : Int) ≤ 1000; decide⟩, ⟨by show (3 : Int) ≤ 5; decide, by show (5 : Int) ≤ 1000000; decide⟩⟩
            refine ⟨x6, y6, _, _, _, _, _, _, _, _, rfl, upd_same, cd_th okc _, ?_⟩
            have emc := Cd.made okc
            rw [show resC (.str (Str.ofString "c")) (.str (Str.ofString "a")) (.str (Str.ofString "b")) (.int 1) (.int 2) (.int 3) (.int 4) (.int 5) = .made from emc]
            refine fun G9 b9 k9 => ⟨rfl, ?_⟩
            have u9 := made_same hx6 hy6 b9
            walk_at "rd"
            (intro pk3 hpk3; generalize epk3 : upd _ pk3 _ = G10; have M10 := New.of epk3 hpk3; clear epk3 hpk3)
            have u410 := u47.trans (u8.trans (u9.trans M10.same))
            have kpk : G10 pk = some (.lst [V.ref x1, V.ref x2, V.ref x3]) := u410 _ _ M4.at_
            walk_at "rd"
            (intro pk4 hpk4; generalize epk4 : upd _ pk4 _ = G11; have M11 := New.of epk4 hpk4; clear epk4 hpk4)
            have uA := u4.trans (u410.trans M11.same)
            have BA := (B9).same uA
            have npk : pk4 ≠ b := ((B9).same (u4.trans u410)).off M11
            walk_at "rd"
            refine ⟨b, 6, _, rfl, BA, by omega, by decide, by decide, fun d K2 d0 d1 f2 D2 => ?_⟩
            obtain ⟨u, hu, hum, _⟩ := atI_some (xs := [V.ref x1, V.ref x2, V.ref x3] ++ [V.ref x4, V.ref x5, V.ref x6]) d0 (by simpa using d1)
            refine i_ixL (SqL.lst (f2 _ _ npk M11.at_)) hu ?_
            have eN : But b H9 K2 := (eM).trans ((Ice.Same.but uA).trans f2)
            have pick : ∀ m : Mk, (∀ v, m ≠ .data v) → MkT T G11 m → u = m.v → ∃ (m : Mk) (z10 z11 : Option V), But b H9 K2 ∧ Box K2 b (n + 38) ∧ MkL T b K2 m ∧ (i = 0 → m.isN = true → m ∈ ms ∨ m.nm ∉ cand) ∧ [some (V.ref b), some (.ref p), some (.int ((i + 1 : Nat) : Int)), some (.int way), some (.str (kindT i)), some odd, some (.ref pf), some (.ref po), some (.int pl), some u, some (.ref pk4), none] = [some (V.ref b), some (.ref p), some (.int ((i + 1 : Nat) : Int)), some (.int way), some (.str (kindT i)), some odd, some (.ref pf), some (.ref po), some (.int pl), some m.v, z10, z11] := fun m nd mt e => by
              refine ⟨m, _, _, eN, D2.mono (by omega), (MkL.but (.inr ⟨nd, mt⟩) BA f2), fun _ z => ?_, by rw [e]⟩
              cases m with
              | data v => exact absurd rfl (nd v)
              | _ => cases z
            simp only [List.cons_append, List.nil_append, List.mem_cons, List.not_mem_nil, or_false] at hum
            rcases hum with h | h | h | h | h | h
            · exact pick (.ves x1 _) nofun (VesA.same w1 (u2.trans (u3.trans (M4.same.trans (u410.trans M11.same))))) h
            · exact pick (.ves x2 _) nofun (VesA.same w2 (u3.trans (M4.same.trans (u410.trans M11.same)))) h
            · exact pick (.ves x3 _) nofun (VesA.same w3 (M4.same.trans (u410.trans M11.same))) h
            · exact pick (.trn x4) nofun ⟨_, _, (M7.same.trans (u8.trans (u9.trans (M10.same.trans M11.same)))) _ _ kx4⟩ h
            · exact pick (.trn x5) nofun ⟨_, _, (u9.trans (M10.same.trans M11.same)) _ _ kx5⟩ h
            · exact pick (.ch x6 _) nofun (ChT.same ⟨okc, y6, k9⟩ (M10.same.trans M11.same)) h
          · walk_at "rd"
            refine ifs (fun c4 => ?_) (fun c4 => ?_)
            · walk_at "rd"
              refine ifs (fun c5 => ?_) (fun c5 => ?_)
              · have i0 : i = 0 := by
                  have h' := of_decide_eq_true c5
                  injection h' with h'
                  omega
                walk_at "rd"
                refine ⟨po, _, rfl, SqL.lst ((eM) _ _ nob kpo9), ?_⟩
                rw [cutV_to _ (by rw [List.length_map]; exact plm), ← List.map_take]
                (intro pS hpS; generalize epS : upd _ pS _ = G1; have L1 := New.of epS hpS; clear epS hpS)
                walk_at "rd"
                refine i_setL (L1.app (gC _ _ nfb kf5)) hset ?_
                walk_at "rd"
                have gG := gC.trans L1.but
                have nSf : pS ≠ pf := fun z => by have := L1.free; rw [z, gC _ _ nfb kf5] at this; cases this
                exact hFin G1 pS (ms.take pl) _ gG ((B9).nw L1) (by omega) ((B9).off L1) nSf L1.at_ (fun m hm => (mL m (List.mem_of_mem_take hm)).but B5 gG) (by rw [List.length_take]; omega) (fun z => (few0 z).sub fun m hm _ => .inl (List.mem_of_mem_take hm))
              · walk_at "rd"
                exact ⟨_, _, _, eM, (B9).mono (by omega), mO.but B9 (eM), fO, rfl⟩
            · walk_at "rd"
              exact ⟨_, _, _, eM, (B9).mono (by omega), mO.but B9 (eM), fO, rfl⟩
    · rintro σ H10 ⟨m, z10, z11, e10, B10, mL10, fm, rfl⟩
      have g10 := f9.trans e10
      have kpo10 : H10 po = some (.lst (ms.map Mk.v)) := e10 _ _ nob (e9 _ _ nob N8.at_)
      walk_at "rd"
      refine ⟨po, _, rfl, SqL.lst kpo10, ?_⟩
      rw [cutV_to _ (by rw [List.length_map]; exact plm), ← List.map_take]
      (intro c1 hc1; generalize ec1 : upd _ c1 _ = G1; have L1 := New.of ec1 hc1; clear ec1 hc1)
      walk_at "rd"
      (intro c2 hc2; generalize ec2 : upd _ c2 _ = G2; have L2 := New.of ec2 hc2; clear ec2 hc2)
      walk_at "rd"
      have k1 := L2.app L1.at_
      have zz : ms.length + 30 ≤ sizeLine := sz_of (by omega)
      have hz1 : ((ms.take pl).map Mk.v).length + [m.v].length ≤ sizeLine := by rw [List.length_map, List.length_take]; show _ + 1 ≤ _; omega
      try refine i_cat k1 L2.at_ hz1 ?_
      (intro c3 hc3; generalize ec3 : upd _ c3 _ = G3; have L3 := New.of ec3 hc3; clear ec3 hc3)
      walk_at "rd"
      have s13 := L1.same.trans (L2.same.trans L3.same)
      refine ⟨po, _, rfl, SqL.lst (s13 _ _ kpo10), ?_⟩
      rw [cutV_from _ (by rw [List.length_map]; exact plm), ← List.map_drop]
      (intro c4 hc4; generalize ec4 : upd _ c4 _ = G4; have L4 := New.of ec4 hc4; clear ec4 hc4)
      have hz2 : ((ms.take pl).map Mk.v ++ [m.v]).length + ((ms.drop pl).map Mk.v).length ≤ sizeLine := by rw [List.length_append, List.length_map, List.length_take, List.length_map, List.length_drop]; show _ + 1 + _ ≤ _; omega
      walk_at "rd"
      try refine i_cat (L4.app L3.at_) L4.at_ hz2 ?_
      (intro c5 hc5; generalize ec5 : upd _ c5 _ = G5; have L5 := New.of ec5 hc5; clear ec5 hc5)
      have s15 := s13.trans (L4.same.trans L5.same)
      have g15 := g10.trans (Ice.Same.but s15)
      have kf15 := g15 _ _ nfb kf5
      walk_at "rd"
      refine i_setL kf15 hset ?_
      walk_at "rd"
      have nSf : c5 ≠ pf := fun z => by have := L5.free; rw [z, (g10.trans (Ice.Same.but (s13.trans L4.same))) _ _ nfb kf5] at this; cases this
      refine hFin G5 c5 (ms.take pl ++ [m] ++ ms.drop pl) _ g15 (B10.same s15) (by omega) ((B10.same (s13.trans L4.same)).off L5) nSf ?_ ?_ ?_ ?_
      · rw [List.map_append, List.map_append]; exact L5.at_
      · intro y hy
        rcases List.mem_append.mp hy with h | h
        · rcases List.mem_append.mp h with h | h
          · exact (mL y (List.mem_of_mem_take h)).but B5 g15
          · have : y = m := by simpa using h
            subst this
            exact mL10.but B10 (Ice.Same.but s15)
        · exact (mL y (List.mem_of_mem_drop h)).but B5 g15
      · rw [List.length_append, List.length_append, List.length_take, List.length_drop]; show _ + 1 + _ ≤ _; omega
      · intro z
        refine (few0 z).sub fun y hy hn => ?_
        rcases List.mem_append.mp hy with h | h
        · rcases List.mem_append.mp h with h | h
          · exact .inl (List.mem_of_mem_take h)
          · have : y = m := by simpa using h
            subst this
            exact fm z hn
        · exact .inl (List.mem_of_mem_drop h)
end

end Ice

set_option Elab.async false
set_option linter.all false
set_option maxRecDepth 100000
set_option maxHeartbeats 4000000
namespace Ice
open PySem PySem.Spec PyProof.Rows L2 TL
/-! side conditions, heaps, one step of a reading, and many -/
local macro_rules | `(tactic| walk_at "hp") => `(tactic| first | assumption | exact upd_same | exact New.at_ (by assumption) | (refine keepU ?_ (by assumption); walk_at "hp") | (refine New.app (by assumption) ?_; walk_at "hp") | (refine Same.app (by assumption) ?_; walk_at "hp") | (refine But.app (by assumption) (by assumption) ?_; walk_at "hp"))
local macro_rules | `(tactic| walk_at "sq") => `(tactic| first | assumption | exact SqL.lst (by walk_at "hp") | exact L2.Same.seq (New.same (by assumption)) (by assumption) | exact L2.Same.seq (by assumption) (by assumption))
local macro_rules | `(tactic| walk_at "len") => `(tactic| first | assumption | (simp only [List.length_cons, List.length_nil, List.length_append, List.length_map]; decide) | (refine Ice.sz_of ?_; simp only [List.length_cons, List.length_nil, List.length_append, List.length_map]; omega))
local macro_rules | `(tactic| walk_at "fresh") => `(tactic| (simp only [List.map_append, List.map_cons, List.map_nil, List.nil_append, List.cons_append]; decide +kernel))
local macro_rules | `(tactic| walk_at "sd") => `(tactic| first | assumption | (show _ ≠ _; omega) | exact Or.inl ⟨by omega, by omega⟩ | exact Or.inr ⟨by omega, by omega⟩ | exact ⟨by decide, by decide⟩ | exact ⟨by decide, by decide, by decide⟩ | exact ⟨by omega, by omega, by omega⟩)
/-! one step of a reading, and many -/
local macro_rules | `(tactic| walk_at "st") => `(tactic| first
  | with_reducible refine i_seq ?_
  | with_reducible refine i_if ?_
  | with_reducible refine i_next ?_
  | with_reducible refine i_ret ?_
  | with_reducible refine i_retN ?_
  | with_reducible refine i_drop ?_
  | with_reducible refine i_asg ?_
  | with_reducible refine i_gname ?_
  | with_reducible refine i_gsub ?_
  | ((with_reducible refine i_var (v := ?vv) ?hv ?_); (case hv => exact rfl))
  | with_reducible refine i_c ?_
  | with_reducible refine i_op ?_
  | with_reducible refine i_un ?_
  | with_reducible refine i_test ?_
  | with_reducible refine i_tB ?_
  | with_reducible refine i_and ?_
  | with_reducible refine i_or ?_
  | with_reducible refine i_not ?_
  | with_reducible refine i_andV ?_
  | with_reducible refine i_orV ?_
  | with_reducible refine i_notV ?_
  | with_reducible refine i_ifE ?_
  | with_reducible refine i_chain ?_
  | with_reducible refine i_bl ?_
  | with_reducible refine i_nil ?_
  | with_reducible refine i_cons ?_
  | with_reducible refine i_call ?_
  | with_reducible refine i_cb ?_
  | with_reducible refine i_rI0 ?_
  | with_reducible refine i_rU ?_
  | ((with_reducible refine i_rEq ?hs ?_); (case hs => exact rfl))
  | ((with_reducible refine i_rNe ?hs ?_); (case hs => exact rfl))
  | ((with_reducible refine i_rI ?hc ?_); (case hc => walk_at "sd"))
  | ((with_reducible refine i_ixL (xs := ?xs) (v := ?vv) ?hS ?he ?_); (case hS => walk_at "sq"); (case he => exact rfl))
  | ((with_reducible refine i_setL (xs := ?xs) (j := ?jj) ?hS ?he ?_); (case hS => walk_at "hp"); (case he => exact rfl))
  | with_reducible refine i_tup ?_
  | with_reducible refine i_lst ?_
  | with_reducible refine i_bm ?_
  | with_reducible refine i_bm0 ?_
  | with_reducible refine i_m1 ?_
  | with_reducible refine i_sl ?_
  | with_reducible refine i_nopart ?_
  | with_reducible refine i_part ?_
  | with_reducible refine i_int ?_
  | with_reducible refine i_str ?_
  | with_reducible refine i_for ?_
  | with_reducible refine i_yes ?_
  | ((with_reducible refine i_lenL (xs := ?xs) ?hS ?_); (case hS => walk_at "sq"))
  | ((with_reducible refine i_room ?hz ?_); (case hz => walk_at "len"))
  | with_reducible refine i_leT ?_
  | with_reducible refine i_notInS ?_
  | with_reducible refine i_inS ?_
  | with_reducible refine i_find ?_
  | with_reducible refine i_isB ?_
  | with_reducible refine i_max2 ?_
  | with_reducible refine i_min2 ?_
  | with_reducible exact trivial
  | with_reducible refine iteT ?_
  | with_reducible refine iteF ?_
  | with_reducible refine i_isstr ?_
  | with_reducible refine i_lc ?_
  | ((with_reducible refine i_cat (xs := ?xs) (zs := ?zs) ?ha ?hb ?hz ?_); (case ha => walk_at "hp"); (case hb => walk_at "hp"); (case hz => walk_at "len"))
  | ((with_reducible refine i_tyL (xs := ?xs) ?ha ?_); (case ha => walk_at "hp"))
  | with_reducible refine i_list ?_
  | with_reducible refine i_disp ?_
  | with_reducible refine i_pairs0 ?_
  | with_reducible refine i_pairs ?_
  | with_reducible refine i_newK ?_
  | with_reducible refine i_gcons ?_
  | with_reducible refine i_gnil ?_
  | with_reducible refine i_revL ?_
  | with_reducible refine i_rng1 ?_
  | ((with_reducible refine i_wipe ?hw ?_); (case hw => exact rfl))
  | with_reducible refine iteNT ?_
  | with_reducible refine iteNF ?_)
local macro_rules | `(tactic| walk_at "sx") => `(tactic| first
  | walk_at "st"
  | with_reducible refine i_kinit ?_
  | with_reducible refine i_ost ?_
  | with_reducible refine i_mkO ?_
  | with_reducible refine i_callE ?_
  | with_reducible refine i_makeE ?_
  | with_reducible refine i_xf ?_
  | with_reducible refine i_sfld ?_
  | with_reducible refine i_fld ?_
  | ((with_reducible refine i_ixT (xs := ?xs) (v := ?vv) ?hS ?he ?_); (case hS => exact SqT.tup (by walk_at "hp")); (case he => exact rfl))
  | with_reducible refine i_intB ?_
  | with_reducible refine i_runS ?_
  | with_reducible refine i_runN ?_
  | ((with_reducible refine i_xf1 (fs := ?ff) (v := ?vv) ?hx ?hl ?_); (case hx => walk_at "hp"); (case hl => exact rfl))
  | with_reducible refine i_methE ?_
  | with_reducible refine i_meth ?_
  | with_reducible refine i_make ?_
  | ((with_reducible refine i_obj (dx := ?dd) (fs := ?ff) ?hx ?hl ?_); (case hx => walk_at "hp"); (case hl => exact rfl))
  | ((with_reducible refine i_fld1 (C := ?CC) (dx := ?dd) (fs := ?ff) (v := ?vv) ?hx ?cl ?na ?hl ?_); (case hx => walk_at "hp"); (case cl => assumption); (case na => assumption); (case hl => exact rfl)))
local macro_rules | `(tactic| walk_at "sy") => `(tactic| first
  | walk_at "sx"
  | with_reducible refine i_dget ?_
  | with_reducible refine i_dget2 ?_
  | with_reducible refine i_dput ?_
  | with_reducible refine i_din ?_
  | ((with_reducible refine i_aug (x := ?vv) ?hx ?_); (case hx => exact rfl)))
local macro_rules | `(tactic| walk_at "rd") => `(tactic| repeat (walk_at "sy"))

theorem dblAt_mem {ns : List Str} {n : Str} : ∀ {k : Nat}, dblAt ns k = some n → n ∈ ns
  | 0, h => by cases h
  | k + 1, h => by
    have h : (match dblAt ns k with
      | some n => some n
      | none => match ns[k]? with
        | some n => if n ∈ ns.take k then some n else none
        | none => none) = some n := h
    cases hk : dblAt ns k with
    | some m => rw [hk] at h; exact dblAt_mem (hk.trans h)
    | none =>
      rw [hk] at h
      cases hg : ns[k]? with
      | none => rw [hg] at h; cases h
      | some m =>
        rw [hg] at h
        dsimp only at h
        split at h
        · rw [← Option.some.inj h]; exact List.mem_of_getElem? hg
        · cases h
section
variable {P : Program} {w : World} {K : PySem.W.Frag} {mg : Str → Option Value} {base : Heap}
theorem nm_isN {T : Top K mg} {H : Hp} {m : Mk} (a : MkT T H m) (h : m.isN = true ∨ m.isC = true ∨ m.isB = true ∨ m.isS = true) : Ice.isN (.str m.nm) = true := by
  rcases h with h | h | h | h
  · exact isN_str h
  · obtain ⟨x, c, rfl⟩ := mk_isC h; exact a.1.nn
  · obtain ⟨x, d, rfl, _⟩ := mk_isB h; exact a.1.five.nn
  · obtain ⟨x, d, rfl, _⟩ := mk_isS h; exact a.1.five.nn
def DueOk : DueW → Prop
  | .doubled n => Ice.isN (.str n) = true
  | .port n => Ice.isN (.str n) = true
  | .world w => w ∈ [Str.ofString "ports", Str.ofString "channels", Str.ofString "breakers", Str.ofString "ships"]
  | _ => True
theorem kindsW_mem {o1 o2 o3 o4 : OMk} {w : Str} (h : kindsW o1 o2 o3 o4 = some w) : w ∈ [Str.ofString "ports", Str.ofString "channels", Str.ofString "breakers", Str.ofString "ships"] := by
  unfold kindsW at h
  split at h
  · rw [← Option.some.inj h]; simp
  · split at h
    · rw [← Option.some.inj h]; simp
    · split at h
      · rw [← Option.some.inj h]; simp
      · split at h
        · rw [← Option.some.inj h]; simp
        · cases h
theorem dueW_ok {T : Top K mg} {H : Hp} {vb : V} {o1 o2 o3 o4 : OMk} (hM : ∀ o ∈ [o1, o2, o3, o4], ∀ ms, o = some ms → ∀ m ∈ ms, MkT T H m) : DueOk (dueW vb o1 o2 o3 o4) := by
  unfold dueW
  split
  · trivial
  · cases hk : kindsW o1 o2 o3 o4 with
    | some w => exact kindsW_mem hk
    | none =>
      obtain ⟨mp, mc, mb, ms, ko⟩ := kindsW_none hk
      obtain ⟨rfl, rfl, rfl, rfl, lp, l0, lc, lb, ls, ip, ic, ib, is'⟩ := ko
      have tp := hM (some mp) (by simp) mp rfl
      have tc := hM (some mc) (by simp) mc rfl
      have tb := hM (some mb) (by simp) mb rfl
      have ts := hM (some ms) (by simp) ms rfl
      have nmem : ∀ {l : List Mk} {n : Str}, (∀ m ∈ l, MkT T H m ∧ (m.isN = true ∨ m.isC = true ∨ m.isB = true ∨ m.isS = true)) → n ∈ l.map Mk.nm → Ice.isN (.str n) = true := fun {l n} h hn => by
        obtain ⟨m, hm, rfl⟩ := List.mem_map.mp hn
        exact nm_isN (h m hm).1 (h m hm).2
      dsimp only
      cases h1 : firstDbl (nmsO (some mp)) with
      | some n => exact nmem (l := mp) (fun m hm => ⟨tp m hm, .inl (ip m hm)⟩) (dblAt_mem h1)
      | none =>
      dsimp only
      cases h2 : firstDbl (nmsO (some mc)) with
      | some n => exact nmem (l := mc) (fun m hm => ⟨tc m hm, .inr (.inl (ic m hm))⟩) (dblAt_mem h2)
      | none =>
      dsimp only
      cases h3 : firstDbl (nmsO (some mb) ++ nmsO (some ms)) with
      | some n =>
        rcases List.mem_append.mp (dblAt_mem h3) with h | h
        · exact nmem (l := mb) (fun m hm => ⟨tb m hm, .inr (.inr (.inl (ib m hm)))⟩) h
        · exact nmem (l := ms) (fun m hm => ⟨ts m hm, .inr (.inr (.inr (is' m hm)))⟩) h
      | none =>
      dsimp only
      cases h4 : (wantL (some mc) (some mb) (some ms)).find? (noPort (nmsO (some mp))) with
      | none => trivial
      | some n =>
        have hn := List.mem_of_find?_eq_some h4
        show Ice.isN (.str n) = true
        rcases List.mem_append.mp hn with h | h
        · rcases List.mem_append.mp h with h | h
          · obtain ⟨m, hm, hx⟩ := List.mem_flatMap.mp h
            obtain ⟨x, c, rfl⟩ := mk_isC (ic m hm)
            have hx : n ∈ [c.o, c.t] := hx
            simp only [List.mem_cons, List.not_mem_nil, or_false] at hx
            rcases hx with rfl | rfl
            · exact (tc _ hm).1.no
            · exact (tc _ hm).1.nt
          · obtain ⟨m, hm, hx⟩ := List.mem_flatMap.mp h
            obtain ⟨x, d, rfl, _⟩ := mk_isB (ib m hm)
            have hx : n ∈ [d.p] := hx
            simp only [List.mem_cons, List.not_mem_nil, or_false] at hx
            rw [hx]; exact (tb _ hm).1.five.np
        · obtain ⟨m, hm, hx⟩ := List.mem_flatMap.mp h
          obtain ⟨x, d, rfl, _⟩ := mk_isS (is' m hm)
          have hx : n ∈ [d.p, d.g] := hx
          simp only [List.mem_cons, List.not_mem_nil, or_false] at hx
          rcases hx with rfl | rfl
          · exact (ts _ hm).1.five.np
          · exact (ts _ hm).1.g
theorem dueV_ok {D : DueW} (h : DueOk D) {b : Addr} {H : Hp} {vb : V} (o : OddC b H vb) : SelfP K H (dueV vb D).2 ∧ Th H (dueV vb D).2 := by
  cases D with
  | number => exact ⟨o.selfP, o.th⟩
  | made => exact ⟨.ps .non, .inr ⟨_, .non⟩⟩
  | doubled n => exact ⟨.ps (name_ps h), name_th H h⟩
  | port n => exact ⟨.ps (name_ps h), name_th H h⟩
  | world w =>
    have h : w ∈ [Str.ofString "ports", Str.ofString "channels", Str.ofString "breakers", Str.ofString "ships"] := h
    have : w.length ≤ 64 ∧ ∀ c ∈ w.cps.toList, c < 128 := by
      simp only [List.mem_cons, List.not_mem_nil, or_false] at h
      rcases h with rfl | rfl | rfl | rfl
      · exact ⟨by decide +kernel, by decide +kernel⟩
      · exact ⟨by decide +kernel, by decide +kernel⟩
      · exact ⟨by decide +kernel, by decide +kernel⟩
      · exact ⟨by decide +kernel, by decide +kernel⟩
    exact ⟨.ps (.str this.1 this.2), .inl ⟨w, rfl, this.1⟩⟩
/-- four arguments as a list, and one by one -/
theorem ThL.ths {T : Top K mg} {b : Addr} {H : Hp} {p : Addr} {vb : V} {vs : List V} {os : List OMk} {k : Nat} (hk : k ≤ 3) (hp : H p = some (.lst (vb :: vs))) (ob : OddC b H vb) (lv : vs.length = 4) (lo : os.length = 4)
    (ar : ∀ (i : Nat) (v : V) (o : OMk), vs[i]? = some v → os[i]? = some o → ArgL T b H v o) (len : ∀ o ∈ os, ∀ ms, o = some ms → ms.length ≤ 12 + k) : ∃ v1 v2 v3 v4 o1 o2 o3 o4, os = [o1, o2, o3, o4] ∧ Ths T H p vb v1 v2 v3 v4 o1 o2 o3 o4 ∧ DueOk (dueW vb o1 o2 o3 o4) := by
  match vs, lv, os, lo with
  | [v1, v2, v3, v4], _, [o1, o2, o3, o4], _ =>
    have a1 := ar 0 v1 o1 rfl rfl
    have a2 := ar 1 v2 o2 rfl rfl
    have a3 := ar 2 v3 o3 rfl rfl
    have a4 := ar 3 v4 o4 rfl rfl
    have hall : ∀ {v : V} {o : OMk}, ArgL T b H v o → ∀ ms, o = some ms → ∀ m ∈ ms, MkT T H m := fun {v o} a ms e m hm => by
      subst e
      obtain ⟨_, _, _, _, h⟩ := a.sq
      exact (h m hm).mkT.1
    refine ⟨v1, v2, v3, v4, o1, o2, o3, o4, rfl, ⟨hp, ob.th, a1.arg.1, a2.arg.1, a3.arg.1, a4.arg.1, ?_⟩, dueW_ok (T := T) (H := H) ?_⟩
    · intro o ho ms e
      refine ⟨Nat.le_trans (len o ho ms e) (by omega), ?_⟩
      simp only [List.mem_cons, List.not_mem_nil, or_false] at ho
      rcases ho with rfl | rfl | rfl | rfl
      · exact a1.arg.2 ms e
      · exact a2.arg.2 ms e
      · exact a3.arg.2 ms e
      · exact a4.arg.2 ms e
    · intro o ho ms e
      simp only [List.mem_cons, List.not_mem_nil, or_false] at ho
      rcases ho with rfl | rfl | rfl | rfl
      · exact hall a1 ms e
      · exact hall a2 ms e
      · exact hall a3 ms e
      · exact hall a4 ms e
end

end Ice

set_option Elab.async false
set_option linter.all false
set_option maxRecDepth 100000
set_option maxHeartbeats 4000000
namespace Ice
open PySem PySem.Spec PyProof.Rows L2 TL
/-! side conditions, heaps, one step of a reading, and many -/
local macro_rules | `(tactic| walk_at "hp") => `(tactic| first | assumption | exact upd_same | exact New.at_ (by assumption) | (refine keepU ?_ (by assumption); walk_at "hp") | (refine New.app (by assumption) ?_; walk_at "hp") | (refine Same.app (by assumption) ?_; walk_at "hp") | (refine But.app (by assumption) (by assumption) ?_; walk_at "hp"))
local macro_rules | `(tactic| walk_at "sq") => `(tactic| first | assumption | exact SqL.lst (by walk_at "hp") | exact L2.Same.seq (New.same (by assumption)) (by assumption) | exact L2.Same.seq (by assumption) (by assumption))
local macro_rules | `(tactic| walk_at "len") => `(tactic| first | assumption | (simp only [List.length_cons, List.length_nil, List.length_append, List.length_map]; decide) | (refine Ice.sz_of ?_; simp only [List.length_cons, List.length_nil, List.length_append, List.length_map]; omega))
local macro_rules | `(tactic| walk_at "fresh") => `(tactic| (simp only [List.map_append, List.map_cons, List.map_nil, List.nil_append, List.cons_append]; decide +kernel))
local macro_rules | `(tactic| walk_at "sd") => `(tactic| first | assumption | (show _ ≠ _; omega) | exact Or.inl ⟨by omega, by omega⟩ | exact Or.inr ⟨by omega, by omega⟩ | exact ⟨by decide, by decide⟩ | exact ⟨by decide, by decide, by decide⟩ | exact ⟨by omega, by omega, by omega⟩)
/-! one step of a reading, and many -/
local macro_rules | `(tactic| walk_at "st") => `(tactic| first
  | with_reducible refine i_seq ?_
  | with_reducible refine i_if ?_
  | with_reducible refine i_next ?_
  | with_reducible refine i_ret ?_
  | with_reducible refine i_retN ?_
  | with_reducible refine i_drop ?_
  | with_reducible refine i_asg ?_
  | with_reducible refine i_gname ?_
  | with_reducible refine i_gsub ?_
  | ((with_reducible refine i_var (v := ?vv) ?hv ?_); (case hv => exact rfl))
  | with_reducible refine i_c ?_
  | with_reducible refine i_op ?_
  | with_reducible refine i_un ?_
  | with_reducible refine i_test ?_
  | with_reducible refine i_tB ?_
  | with_reducible refine i_and ?_
  | with_reducible refine i_or ?_
  | with_reducible refine i_not ?_
  | with_reducible refine i_andV ?_
  | with_reducible refine i_orV ?_
  | with_reducible refine i_notV ?_
  | with_reducible refine i_ifE ?_
  | with_reducible refine i_chain ?_
  | with_reducible refine i_bl ?_
  | with_reducible refine i_nil ?_
  | with_reducible refine i_cons ?_
  | with_reducible refine i_call ?_
  | with_reducible refine i_cb ?_
  | with_reducible refine i_rI0 ?_
  | with_reducible refine i_rU ?_
  | ((with_reducible refine i_rEq ?hs ?_); (case hs => exact rfl))
  | ((with_reducible refine i_rNe ?hs ?_); (case hs => exact rfl))
  | ((with_reducible refine i_rI ?hc ?_); (case hc => walk_at "sd"))
  | ((with_reducible refine i_ixL (xs := ?xs) (v := ?vv) ?hS ?he ?_); (case hS => walk_at "sq"); (case he => exact rfl))
  | ((with_reducible refine i_setL (xs := ?xs) (j := ?jj) ?hS ?he ?_); (case hS => walk_at "hp"); (case he => exact rfl))
  | with_reducible refine i_tup ?_
  | with_reducible refine i_lst ?_
  | with_reducible refine i_bm ?_
  | with_reducible refine i_bm0 ?_
  | with_reducible refine i_m1 ?_
  | with_reducible refine i_sl ?_
  | with_reducible refine i_nopart ?_
  | with_reducible refine i_part ?_
  | with_reducible refine i_int ?_
  | with_reducible refine i_str ?_
  | with_reducible refine i_for ?_
  | with_reducible refine i_yes ?_
  | ((with_reducible refine i_lenL (xs := ?xs) ?hS ?_); (case hS => walk_at "sq"))
  | ((with_reducible refine i_room ?hz ?_); (case hz => walk_at "len"))
  | with_reducible refine i_leT ?_
  | with_reducible refine i_notInS ?_
  | with_reducible refine i_inS ?_
  | with_reducible refine i_find ?_
  | with_reducible refine i_isB ?_
  | with_reducible refine i_max2 ?_
  | with_reducible refine i_min2 ?_
  | with_reducible exact trivial
  | with_reducible refine iteT ?_
  | with_reducible refine iteF ?_
  | with_reducible refine i_isstr ?_
  | with_reducible refine i_lc ?_
  | ((with_reducible refine i_cat (xs := ?xs) (zs := ?zs) ?ha ?hb ?hz ?_); (case ha => walk_at "hp"); (case hb => walk_at "hp"); (case hz => walk_at "len"))
  | ((with_reducible refine i_tyL (xs := ?xs) ?ha ?_); (case ha => walk_at "hp"))
  | with_reducible refine i_list ?_
  | with_reducible refine i_disp ?_
  | with_reducible refine i_pairs0 ?_
  | with_reducible refine i_pairs ?_
  | with_reducible refine i_newK ?_
  | with_reducible refine i_gcons ?_
  | with_reducible refine i_gnil ?_
  | with_reducible refine i_revL ?_
  | with_reducible refine i_rng1 ?_
  | ((with_reducible refine i_wipe ?hw ?_); (case hw => exact rfl))
  | with_reducible refine iteNT ?_
  | with_reducible refine iteNF ?_)
local macro_rules | `(tactic| walk_at "sx") => `(tactic| first
  | walk_at "st"
  | with_reducible refine i_kinit ?_
  | with_reducible refine i_ost ?_
  | with_reducible refine i_mkO ?_
  | with_reducible refine i_callE ?_
  | with_reducible refine i_makeE ?_
  | with_reducible refine i_xf ?_
  | with_reducible refine i_sfld ?_
  | with_reducible refine i_fld ?_
  | ((with_reducible refine i_ixT (xs := ?xs) (v := ?vv) ?hS ?he ?_); (case hS => exact SqT.tup (by walk_at "hp")); (case he => exact rfl))
  | with_reducible refine i_intB ?_
  | with_reducible refine i_runS ?_
  | with_reducible refine i_runN ?_
  | ((with_reducible refine i_xf1 (fs := ?ff) (v := ?vv) ?hx ?hl ?_); (case hx => walk_at "hp"); (case hl => exact rfl))
  | with_reducible refine i_methE ?_
  | with_reducible refine i_meth ?_
  | with_reducible refine i_make ?_
  | ((with_reducible refine i_obj (dx := ?dd) (fs := ?ff) ?hx ?hl ?_); (case hx => walk_at "hp"); (case hl => exact rfl))
  | ((with_reducible refine i_fld1 (C := ?CC) (dx := ?dd) (fs := ?ff) (v := ?vv) ?hx ?cl ?na ?hl ?_); (case hx => walk_at "hp"); (case cl => assumption); (case na => assumption); (case hl => exact rfl)))
local macro_rules | `(tactic| walk_at "sy") => `(tactic| first
  | walk_at "sx"
  | with_reducible refine i_dget ?_
  | with_reducible refine i_dget2 ?_
  | with_reducible refine i_dput ?_
  | with_reducible refine i_din ?_
  | ((with_reducible refine i_aug (x := ?vv) ?hx ?_); (case hx => exact rfl)))
local macro_rules | `(tactic| walk_at "rd") => `(tactic| repeat (walk_at "sy"))

section
variable {P : Program} {w : World} {K : PySem.W.Frag} {mg : Str → Option Value} {base : Heap}
theorem made_neq {H : Hp} {a b : Addr} {Q : VK} (ha : H a = some (.tup [.str (Str.ofString "made"), .non])) (hb : H b = some (.tup [.str (Str.ofString "made"), .non])) (q : Q (.bl false) H) : rNeD K (.ref a) (.ref b) H Q := by
  have ps : PsAll [V.str (Str.ofString "made"), V.non] [.str (Str.ofString "made"), .none] := .cons (.str (by decide +kernel) (by decide +kernel)) (.cons .non .nil)
  refine ⟨.tuple [.str (Str.ofString "made"), .none], .tuple [.str (Str.ofString "made"), .none], .tup (SqT.tup ha) ps.dp, .tup (SqT.tup hb) ps.dp, ps.shapedT, ps.shapedT, ?_⟩
  rw [SeqAt.eqv_refl _ (by decide +kernel)]
  exact q
theorem ArgL.isl {T : Top K mg} {b : Addr} {H : Hp} {v : V} {o : OMk} (h : ArgL T b H v o) : ∃ n, TyX K H v (.type n) ∧ ((kitB n "list" = some true ∧ ∃ p ms, v = .ref p ∧ o = some ms ∧ p ≠ b ∧ H p = some (.lst (ms.map Mk.v)) ∧ ∀ m ∈ ms, MkL T b H m) ∨ kitB n "list" = some false) := by
  cases h with
  | no h =>
    cases h with
    | ps h =>
      cases h with
      | non => exact ⟨_, .base .non, .inr (by decide +kernel)⟩
      | bl x => exact ⟨_, .base (.bl x), .inr (by decide +kernel)⟩
      | int _ => exact ⟨_, .base (.int _), .inr (by decide +kernel)⟩
      | str _ _ => exact ⟨_, .base (.str _), .inr (by decide +kernel)⟩
    | dct _ h => exact ⟨_, .base (.dK h), .inr (by decide +kernel)⟩
  | @lst p ms n h m => exact ⟨_, .base (.lst h), .inl ⟨by decide +kernel, p, ms, rfl, rfl, n, h, m⟩⟩
  | tup n h m => exact ⟨_, .base (.tup h), .inr (by decide +kernel)⟩
/-- an argument that was there, or a tuple of one -/
def WsOk (T : Top K mg) (b : Addr) (H9 H : Hp) (v : V) (o : OMk) : Prop := ArgL T b H9 v o ∨ ∃ (q : Addr) (ms : List Mk), v = .ref q ∧ o = some ms ∧ q ≠ b ∧ H q = some (.tup (ms.map Mk.v)) ∧ ∀ m ∈ ms, MkL T b H9 m
theorem WsOk.but {T : Top K mg} {b : Addr} {H9 H H' : Hp} {v : V} {o : OMk} (h : WsOk T b H9 H v o) (e : But b H H') : WsOk T b H9 H' v o := by
  rcases h with h | ⟨q, ms, a, c, n, k, m⟩
  · exact .inl h
  · exact .inr ⟨q, ms, a, c, n, e _ _ n k, m⟩
theorem WsOk.off {T : Top K mg} {b D : Addr} {H9 H : Hp} {v : V} {o : OMk} {xs ys : List V} (h : WsOk T b H9 H v o) (hD : H D = some (.lst xs)) : WsOk T b H9 (upd H D (.lst ys)) v o := by
  rcases h with h | ⟨q, ms, a, c, n, k, m⟩
  · exact .inl h
  · exact .inr ⟨q, ms, a, c, n, by rw [upd_ne (ne_of k hD (by intro z; cases z))]; exact k, m⟩
theorem WsOk.arg {T : Top K mg} {b : Addr} {H9 H : Hp} {v : V} {o : OMk} {n : Nat} (h : WsOk T b H9 H v o) (B : Box H9 b n) (e : But b H9 H) : ArgL T b H v o := by
  rcases h with h | ⟨q, ms, rfl, rfl, n, k, m⟩
  · exact h.but B e
  · exact .tup n k fun x hx => (m x hx).but B e
set_option maxHeartbeats 8000000 in
theorem ok_law (T : Top K mg) : FnG P w K mg base CX0 9 T.a_law T.d_law ["_law_script"] (spLaw K) := by
  have G_box := ok_box (P := P) (w := w) (base := base) T
  have G_made := ok_made (P := P) (w := w) (base := base) T
  have G_cell := ok_cell (P := P) (w := w) (base := base) T
  have G_take := ok_take (P := P) (w := w) (base := base) T
  have G_world_rows := ok_world_rows (P := P) (w := w) (base := base) T
  have G_found := ok_found (P := P) (w := w) (base := base) T
  have G_spoilt := ok_spoilt (P := P) (w := w) (base := base) T
  have G_due := ok_due (P := P) (w := w) (base := base) T
  have G_same := ok_same (P := P) (w := w) (base := base) T
  refine okG T.F_law sc_law (fun vs H Q E h => ?_) (fun cdv A outer s H vs Q E hr hgd h => ?_)
  · obtain ⟨a, ns, rfl, _⟩ := h
    rfl
  · obtain ⟨a, ns, rfl, hS, hlen, _, hO, q⟩ := h
    have hu64 := un64 hr
    refine ⟨_, (pss_cons (ps_for PassesOwn.never rfl (pi_range1 (by rfl) T.n_range (pa_cons (pe_callB (c_max2) (by rfl) T.n_max (by decide +kernel) (pa_cons pe_int (pa_cons (pe_callB (c_min2) (by rfl) T.n_min (by decide +kernel) (pa_cons pe_int (pa_cons (pe_callB c_len (by rfl) T.n_len (by decide +kernel) (pa_cons (pv 0) pa_nil)) pa_nil))) pa_nil))) pa_nil)) (pg_name (i := 1) sc_law.nd rfl (by first | exact Or.inl rfl | exact Or.inr rfl))
        (pss_cons (ps_set (i := 2) sc_law.nd rfl (by first | exact Or.inl rfl | exact Or.inr rfl) (g_call G_box (hr.mono (by decide)) hgd (by rfl) T.m_box T.F_box.kp T.b_box .nil pass0 (pa_cons (g_call G_cell (hr.mono (by decide)) hgd (by rfl) T.m_cell T.F_cell.kp T.b_cell .nil pass0 (pa_cons (pv 0) (pa_cons (pv 1) pa_nil))) pa_nil)))
      (pss_cons (ps_set (i := 3) sc_law.nd rfl (by first | exact Or.inl rfl | exact Or.inr rfl) (pe_ix ix_list (pe_lst (pa_cons pe_int (pa_cons pe_int (pa_cons pe_int (pa_cons pe_int (pa_cons pe_int pa_nil)))))) (g_call G_take (hr.mono (by decide)) hgd (by rfl) T.m_take T.F_take.kp T.b_take .nil pass0 (pa_cons (pv 2) (pa_cons pe_int pa_nil))) (fun _ _ => rfl)))
      (pss_cons (ps_set (i := 4) sc_law.nd rfl (by first | exact Or.inl rfl | exact Or.inr rfl) (g_call G_made (hr.mono (by decide)) hgd (by rfl) T.m_made T.F_made.kp T.b_made .nil pass0 (pa_cons (g_call G_world_rows (hr.mono (by decide)) hgd (by rfl) T.m_world_rows T.F_world_rows.kp T.b_world_rows .nil pass0 (pa_cons (pv 2) pa_nil)) pa_nil)))
      (pss_cons (ps_if (pt_cmpR (op_neD hu64) (g_call G_found (hr.mono (by decide)) hgd (by rfl) T.m_found T.F_found.kp T.b_found .nil pass0 (pa_cons (pv 4) pa_nil)) (pe_tup (pa_cons pe_str (pa_cons pe_non pa_nil))) (nomark _))
        (pss_one (ps_ret pe_bl))
        pss_nil)
      (pss_one (ps_for PassesOwn.never rfl (pi_range1 (by rfl) T.n_range (pa_cons (pv 3) pa_nil)) (pg_name (i := 5) sc_law.nd rfl (by first | exact Or.inl rfl | exact Or.inr rfl))
        (pss_cons (ps_set (i := 4) sc_law.nd rfl (by first | exact Or.inl rfl | exact Or.inr rfl) (g_call G_spoilt (hr.mono (by decide)) hgd (by rfl) T.m_spoilt T.F_spoilt.kp T.b_spoilt .nil pass0 (pa_cons (pv 2) (pa_cons (pv 4) pa_nil))))
      (pss_cons (ps_set (i := 6) sc_law.nd rfl (by first | exact Or.inl rfl | exact Or.inr rfl) (pe_slice sl_list (pv 4) po_none (po_some pe_int)))
      (pss_cons (ps_for PassesOwn.never rfl (pi_list (pe_slice sl_list (pv 4) (po_some pe_int) po_none)) (pg_name (i := 7) sc_law.nd rfl (by first | exact Or.inl rfl | exact Or.inr rfl))
        (pss_one (ps_expr (pe_bm PySem.F.plainAttrs_list PySem.F.slot_list_append PySem.F.type_list_append mt_append (pv 6) (pa_cons (pe_ifExp (PW.pt (pw_and (pt_val (pe_callB c_isi (by rfl) T.n_isinstance (by decide +kernel) (pa_cons (pv 7) (pa_cons (pe_bltn (v := .ty "list") (by rfl) T.n_list (by decide +kernel) rfl) pa_nil)))) (pw_and1 (pt_cmpR op_eq (g_call G_take (hr.mono (by decide)) hgd (by rfl) T.m_take T.F_take.kp T.b_take .nil pass0 (pa_cons (pv 2) (pa_cons pe_int pa_nil))) pe_int (nomark _))))) (pe_callTy c_tupleOf (by rfl) T.n_tuple (by decide +kernel) (pa_cons (pv 7) pa_nil)) (pv 7)) pa_nil)))))
      (pss_cons (ps_set (i := 8) sc_law.nd rfl (by first | exact Or.inl rfl | exact Or.inr rfl) (g_call G_due (hr.mono (by decide)) hgd (by rfl) T.m_due T.F_due.kp T.b_due .nil pass0 (pa_cons (pv 4) pa_nil)))
      (pss_one (ps_if (PW.pt (pw_or (pt_not (pt_val (g_call G_same (hr.mono (by decide)) hgd (by rfl) T.m_same T.F_same.kp T.b_same .nil pass0 (pa_cons (g_call G_found (hr.mono (by decide)) hgd (by rfl) T.m_found T.F_found.kp T.b_found .nil pass0 (pa_cons (pv 4) pa_nil)) (pa_cons (pv 8) pa_nil))))) (pw_or1 (pt_not (pt_val (g_call G_same (hr.mono (by decide)) hgd (by rfl) T.m_same T.F_same.kp T.b_same .nil pass0 (pa_cons (g_call G_found (hr.mono (by decide)) hgd (by rfl) T.m_found T.F_found.kp T.b_found .nil pass0 (pa_cons (pv 6) pa_nil)) (pa_cons (pv 8) pa_nil))))))))
        (pss_one (ps_ret pe_bl))
        pss_nil)))))))))))))
      (pss_one (ps_ret pe_bl))), ?_⟩
    walk_at "rd"
    generalize hN : (if (if ((ns.map V.int).length : Int) < 8 then ((ns.map V.int).length : Int) else 8) > 2 then (if ((ns.map V.int).length : Int) < 8 then ((ns.map V.int).length : Int) else 8) else 2) = N
    have hN2 : 2 ≤ N ∧ N ≤ 8 := by rw [← hN]; split <;> split <;> omega
    refine ⟨N, rfl, by omega, by omega, ?_⟩
    refine for_range (lo := 0) (n := N.toNat) (fun i σ H' => Same H H' ∧ ∃ s1 s2 s3 s4 s5 s6 s7 s8, σ = [some (.ref a), s1, s2, s3, s4, s5, s6, s7, s8])
      ⟨Same.refl _, _, _, _, _, _, _, _, _, rfl⟩ ?_ ?_
    · rintro i σ H1 hi ⟨s1, z1, z2, z3, z4, z5, z6, z7, z8, rfl⟩
      walk_at "rd"
      refine ⟨a, ns, _, rfl, s1.seq hS, by omega, by omega, fun z => ?_⟩
      walk_at "rd"
      refine ⟨z, rfl, fun b H2 hb sm B => ?_⟩
      walk_at "rd"
      (intro p1 hp1; generalize ep1 : upd _ p1 _ = J1; have N1 := New.of ep1 hp1; clear ep1 hp1)
      walk_at "rd"
      refine ⟨b, 5, _, rfl, B.nw N1, by omega, by decide, by decide, fun d3 H3 d30 d31 e3 B3 => ?_⟩
      obtain ⟨mv, hv, hm, _⟩ := atI_some (xs := [V.int 1, V.int 1, V.int 2, V.int 3, V.int 0]) d30 (by simpa using d31)
      obtain ⟨many, rfl, many3⟩ : ∃ k : Nat, mv = .int k ∧ k ≤ 3 := by
        simp only [List.mem_cons, List.not_mem_nil, or_false] at hm
        rcases hm with h | h | h | h | h
        · exact ⟨1, h, by decide⟩
        · exact ⟨1, h, by decide⟩
        · exact ⟨2, h, by decide⟩
        · exact ⟨3, h, by decide⟩
        · exact ⟨0, h, by decide⟩
      refine i_ixL (SqL.lst (e3 p1 _ (B.off N1) N1.at_)) hv ?_
      walk_at "rd"
      refine ⟨b, _, rfl, B3, by omega, fun pR R H4 e4 B4 rt ro _ => ?_⟩
      walk_at "rd"
      refine ⟨pR, R, rfl, rt, ro, fun r lp lc lb ls CS BS SS H5 s5 fr kr klp klc klb kls md => ?_⟩
      have B5 := B4.same s5
      have nb : ∀ {x : Addr}, x ∈ [r, lp, lc, lb, ls] → x ≠ b := fun {x} h => B4.ne (fr x h)
      have aP : ArgL T b H5 (.ref lp) (some (nmM R.ps)) := .lst (nb (by simp)) (by rw [nmM_v]; exact klp) (fun m hm => by
        obtain ⟨n, hn, rfl⟩ := List.mem_map.mp hm
        exact .inl ⟨_, rfl, .ps (name_ps (ro.pi n hn))⟩)
      have aC : ArgL T b H5 (.ref lc) (some (chM CS)) := .lst (nb (by simp)) (by rw [chM_v]; exact klc) (fun m hm => by
        obtain ⟨y, hy, rfl⟩ := List.mem_map.mp hm
        exact .inr ⟨nofun, md.hc y hy⟩)
      have aB : ArgL T b H5 (.ref lb) (some (vsM BS)) := .lst (nb (by simp)) (by rw [vsM_v]; exact klb) (fun m hm => by
        obtain ⟨y, hy, rfl⟩ := List.mem_map.mp hm
        exact .inr ⟨nofun, md.hb y hy⟩)
      have aS : ArgL T b H5 (.ref ls) (some (vsM SS)) := .lst (nb (by simp)) (by rw [vsM_v]; exact kls) (fun m hm => by
        obtain ⟨y, hy, rfl⟩ := List.mem_map.mp hm
        exact .inr ⟨nofun, md.hs y hy⟩)
      have lC : CS.length = R.cs.length := by have := congrArg List.length md.ec; simpa using this
      have lB : BS.length = R.bs.length := by have := congrArg List.length md.eb; simpa using this
      have lS : SS.length = R.ss.length := by have := congrArg List.length md.es; simpa using this
      have l1 := ro.p8; have l2 := ro.cl; have l3 := ro.bl; have l4 := ro.sl
      have t0 : ThL T b H5 r (.int R.b) [.ref lp, .ref lc, .ref lb, .ref ls] [some (nmM R.ps), some (chM CS), some (vsM BS), some (vsM SS)] 0 := by
        refine ⟨nb (by simp), kr, .int (by have := ro.b; omega), rfl, rfl, ?_, ?_, ?_⟩
        · intro j v o hv ho
          match j with
          | 0 => rw [← Option.some.inj hv, ← Option.some.inj ho]; exact aP
          | 1 => rw [← Option.some.inj hv, ← Option.some.inj ho]; exact aC
          | 2 => rw [← Option.some.inj hv, ← Option.some.inj ho]; exact aB
          | 3 => rw [← Option.some.inj hv, ← Option.some.inj ho]; exact aS
          | j + 4 => simp at hv
        · intro o ho ms e
          simp only [List.mem_cons, List.not_mem_nil, or_false] at ho
          rcases ho with rfl | rfl | rfl | rfl
          · rw [← Option.some.inj e]; simp [nmM]; omega
          · rw [← Option.some.inj e]; simp [chM]; omega
          · rw [← Option.some.inj e]; simp [vsM]; omega
          · rw [← Option.some.inj e]; simp [vsM]; omega
        · intro ms e
          have e : some (nmM R.ps) = some ms := Option.some.inj e
          rw [← Option.some.inj e]
          refine ⟨R.ps, l1, fun m hm _ => ?_⟩
          obtain ⟨n, hn, rfl⟩ := List.mem_map.mp hm
          exact .inl hn
      walk_at "rd"
      obtain ⟨v1, v2, v3, v4, o1, o2, o3, o4, eo, th0, _⟩ := ThL.ths (by omega) t0.hp t0.ob t0.lv t0.lo t0.ar t0.len
      have em : dueW (.int R.b) o1 o2 o3 o4 = .made := by
        have e0 := md.due ro
        injection eo with q1 q2; injection q2 with q2 q3; injection q3 with q3 q4; injection q4 with q4 q5
        rw [← q1, ← q2, ← q3, ← q4]; exact e0
      refine ⟨r, _, v1, v2, v3, v4, o1, o2, o3, o4, rfl, th0, fun r6 H6 s6 k6 => ?_⟩
      rw [em] at k6
      walk_at "rd"
      (intro p7 hp7; generalize ep7 : upd _ p7 _ = J7; have N7 := New.of ep7 hp7; clear ep7 hp7)
      refine made_neq (N7.app k6) N7.at_ ?_
      walk_at "rd"
      refine ⟨many, rfl, by omega, by omega, ?_⟩
      have s57 : Same H5 J7 := s6.trans N7.same
      have e27 : But b H2 J7 := N1.but.trans (e3.trans (e4.trans (Ice.Same.but (s5.trans s57))))
      refine for_range (lo := 0) (n := ((many : Int)).toNat) (fun i σ H' => But b H2 H' ∧ Box H' b (450 + 50 * i) ∧ ∃ (p : Addr) (vb : V) (us : List V) (os : List OMk), ThL T b H' p vb us os i ∧ ∃ z1 z5 z6 z7 z8, σ = [some (.ref a), z1, some (.ref b), some (.int many), some (.ref p), z5, z6, z7, z8])
        ⟨e27, (B5.same s57).mono (by omega), r, _, _, _, t0.but B5 (Ice.Same.but s57), _, _, _, _, _, rfl⟩ ?_ ?_
      · rintro i2 σ H8 hi2 ⟨e8, B8, p, vb, us, os, t8, z1, z5, z6, z7, z8, rfl⟩
        have hi3 : i2 < 3 := by
          have : i2 < many := by simpa using hi2
          omega
        walk_at "rd"
        refine ⟨b, p, vb, us, os, i2, _, rfl, t8, by omega, B8, by omega, fun p' vb' us' os' H9 e9 B9 t9 => ?_⟩
        walk_at "rd"
        refine ⟨p', _, rfl, SqL.lst t9.hp, ?_⟩
        rw [show cutV (vb' :: us') none (some (1 : Int)) = [vb'] from (cutV_to (a := 1) _ (by simp)).trans rfl]
        (intro po hpo; generalize epo : upd _ po _ = J10; have N10 := New.of epo hpo; clear epo hpo)
        walk_at "rd"
        refine ⟨p', _, rfl, SqL.lst (N10.app t9.hp), ?_⟩
        rw [show cutV (vb' :: us') (some (1 : Int)) none = us' from (cutV_from (a := 1) _ (by simp)).trans rfl]
        (intro pu hpu; generalize epu : upd _ pu _ = J11; have N11 := New.of epu hpu; clear epu hpu)
        have B11 := (B9.nw N10).nw N11
        have nob : po ≠ b := B9.off N10
        have nub : pu ≠ b := (B9.nw N10).off N11
        have npo : p' ≠ po := ne_of_none t9.hp N10.free
        have nuo : pu ≠ po := fun e => by have := N11.free; rw [e, N10.at_] at this; cases this
        have lv := t9.lv
        walk_at "rd"
        refine ⟨pu, rfl, ⟨_, SqL.lst N11.at_⟩, ?_⟩
        refine for_list (K := K) (a := pu) (xs := us') (fun j σ H' => But b H9 H' ∧ Box H' b (450 + 50 * i2 + 40 + j) ∧ H' pu = some (.lst us') ∧ (∃ ws : List V, H' po = some (.lst (vb' :: ws)) ∧ ws.length = j ∧ ∀ (n : Nat) (v : V) (o : OMk), ws[n]? = some v → os'[n]? = some o → WsOk T b H9 H' v o) ∧ ∃ z1 z5 z7 z8, σ = [some (.ref a), z1, some (.ref b), some (.int many), some (.ref p'), z5, some (.ref po), z7, z8])
          ⟨N10.but.trans N11.but, B11.mono (by omega), N11.at_, ⟨[], N11.app N10.at_, rfl, fun n v o h => by simp at h⟩, _, _, _, _, rfl⟩ (fun j σ H' _ h => SqL.lst h.2.2.1) ?_ ?_
        · rintro j x σ H12 hx ⟨e12, B12, ku, ⟨ws, ko, lw, aw⟩, y1, y5, y7, y8, rfl⟩
          have hj : j < us'.length := (List.getElem?_eq_some_iff.mp hx).1
          have hjo : j < os'.length := by rw [t9.lo]; omega
          have aj9 : ArgL T b H9 x os'[j] := t9.ar j x _ hx (List.getElem?_eq_getElem hjo)
          have hoj : os'[j]? = some os'[j] := List.getElem?_eq_getElem hjo
          generalize os'[j] = o at aj9 hoj
          have aj := aj9.but B9 e12
          have hpo9 : H9 po = none := N10.free
          have l4 : ws.length ≤ 4 := by omega
          -- what is put behind
          have put : ∀ (v : V) (H' : Hp), But b H12 H' → Box H' b (450 + 50 * i2 + 40 + (j + 1)) → WsOk T b H9 H' v o → But b H9 (upd H' po (.lst (vb' :: ws ++ [v]))) ∧ Box (upd H' po (.lst (vb' :: ws ++ [v]))) b (450 + 50 * i2 + 40 + (j + 1)) ∧ (upd H' po (.lst (vb' :: ws ++ [v]))) pu = some (.lst us') ∧
              (∃ ws' : List V, (upd H' po (.lst (vb' :: ws ++ [v]))) po = some (.lst (vb' :: ws')) ∧ ws'.length = j + 1 ∧ ∀ (n : Nat) (u : V) (o : OMk), ws'[n]? = some u → os'[n]? = some o → WsOk T b H9 (upd H' po (.lst (vb' :: ws ++ [v]))) u o) := fun v H' e' B' av => by
            have ko' := e' _ _ nob ko
            refine ⟨(e12.trans e').upd hpo9, B'.upd nob, by rw [upd_ne nuo]; exact e' _ _ nub ku, ws ++ [v], upd_same, by simp [lw], fun n u o2 hu ho2 => ?_⟩
            refine WsOk.off ?_ ko'
            rw [List.getElem?_append] at hu
            split at hu
            · exact (aw n u o2 hu ho2).but e'
            · rename_i nl
              have : n - ws.length = 0 := by
                have := (List.getElem?_eq_some_iff.mp hu).1
                simp at this; omega
              rw [this] at hu
              have en : n = j := by omega
              subst en
              rw [hoj] at ho2
              rw [← Option.some.inj hu, ← Option.some.inj ho2]
              exact av
          have zz : (30 : Nat) ≤ sizeLine := sz_of (by decide)
          walk_at "rd"
          obtain ⟨n, tyn, kl⟩ := aj.isl
          rcases kl with ⟨kl, p2, ms, rfl, rfl, np2, kp2, mm2⟩ | kl
          · refine i_isi tyn kl ?_
            walk_at "rd"
            refine ⟨b, 2, _, rfl, B12, by omega, by decide, by decide, fun d H13 d0 d1 e13 B13 => ?_⟩
            walk_at "rd"
            refine ifs (fun h5 => ?_) (fun h5 => ?_)
            · walk_at "rd"
              refine i_tupOf (.inl (e13 _ _ np2 kp2)) fun l1 K1 t1 kp => ?_
              have B14 := B13.same t1
              have e14 := e13.trans (Ice.Same.but t1)
              walk_at "rd"
              refine ⟨po, _, _, rfl, rfl, e14 _ _ nob ko, by simp; omega, ?_⟩
              have nl1 : l1 ≠ b := by
                obtain ⟨_, _, _, y, _⟩ := B14.ex
                exact ne_of kp y (by intro y; cases y)
              have m9 : ∀ m ∈ ms, MkL T b H9 m := by
                obtain ⟨_, _, _, _, h9⟩ := aj9.sq
                exact h9
              obtain ⟨f1, f2, f3, ws', f4, f5, f6⟩ := put (.ref l1) K1 e14 (B14.mono (by omega)) (.inr ⟨l1, ms, rfl, rfl, nl1, kp, m9⟩)
              exact ⟨f1, f2, f3, ⟨ws', f4, f5, f6⟩, _, _, _, _, rfl⟩
            · walk_at "rd"
              refine ⟨po, _, _, rfl, rfl, e13 _ _ nob ko, by simp; omega, ?_⟩
              obtain ⟨f1, f2, f3, ws', f4, f5, f6⟩ := put (.ref p2) H13 e13 (B13.mono (by omega)) (.inl aj9)
              exact ⟨f1, f2, f3, ⟨ws', f4, f5, f6⟩, _, _, _, _, rfl⟩
          · refine i_isi tyn kl ?_
            walk_at "rd"
            refine ⟨po, _, _, rfl, rfl, ko, by simp; omega, ?_⟩
            obtain ⟨f1, f2, f3, ws', f4, f5, f6⟩ := put x H12 (But.refl _ _) (B12.mono (by omega)) (.inl aj9)
            exact ⟨f1, f2, f3, ⟨ws', f4, f5, f6⟩, _, _, _, _, rfl⟩
        · rintro σ H12 ⟨e12, B12, ku, ⟨ws, ko, lw, aw⟩, y1, y5, y7, y8, rfl⟩
          have t12 := t9.but B9 e12
          rw [lv] at lw
          obtain ⟨v1, v2, v3, v4, o1, o2, o3, o4, eo, th1, dk⟩ := ThL.ths (by omega) t12.hp t12.ob t12.lv t12.lo t12.ar t12.len
          have aw' : ∀ (n : Nat) (v : V) (o : OMk), ws[n]? = some v → os'[n]? = some o → ArgL T b H12 v o := fun n v o h1 h2 => (aw n v o h1 h2).arg B9 e12
          obtain ⟨u1, u2, u3, u4, q1, q2, q3, q4, eq, th2, _⟩ := ThL.ths (by omega) ko t12.ob lw t12.lo aw' t12.len
          rw [eo] at eq
          injection eq with x1 eq; injection eq with x2 eq; injection eq with x3 eq; injection eq with x4 eq
          subst x1 x2 x3 x4
          have hsame : ∀ {J : Hp}, Same H12 J → SelfP K J (dueV vb' (dueW vb' o1 o2 o3 o4)).2 ∧ Th J (dueV vb' (dueW vb' o1 o2 o3 o4)).2 := fun {J} s => dueV_ok dk (t12.ob.but (Ice.Same.but s))
          have mono : ∀ {J : Hp} {pp : Addr} {w1 w2 w3 w4 : V}, Same H12 J → Ths T H12 pp vb' w1 w2 w3 w4 o1 o2 o3 o4 → Ths T J pp vb' w1 w2 w3 w4 o1 o2 o3 o4 := fun {J pp w1 w2 w3 w4} s t => ⟨s _ _ t.hp, t.tb.same s, t.a1.same s, t.a2.same s, t.a3.same s, t.a4.same s, t.al⟩
          walk_at "rd"
          refine ⟨p', vb', v1, v2, v3, v4, o1, o2, o3, o4, rfl, th1, fun r13 H13 s13 k13 => ?_⟩
          walk_at "rd"
          refine ⟨p', vb', v1, v2, v3, v4, o1, o2, o3, o4, rfl, mono s13 th1, fun r14 H14 s14 k14 => ?_⟩
          obtain ⟨f1, f2⟩ := hsame (s13.trans s14)
          walk_at "rd"
          refine ⟨r14, r13, _, _, rfl, k14, s14 _ _ k13, f1, f2, ?_⟩
          walk_at "rd"
          refine ⟨po, vb', u1, u2, u3, u4, o1, o2, o3, o4, rfl, mono (s13.trans s14) th2, fun r15 H15 s15 k15 => ?_⟩
          obtain ⟨g1, g2⟩ := hsame ((s13.trans s14).trans s15)
          walk_at "rd"
          refine ⟨r15, r13, _, _, rfl, k15, (s14.trans s15) _ _ k13, g1, g2, ?_⟩
          walk_at "rd"
          have sE := (s13.trans s14).trans s15
          exact ⟨e8.trans (e9.trans (e12.trans (Ice.Same.but sE))), (B12.same sE).mono (by omega), p', vb', us', os', t12.but B12 (Ice.Same.but sE), _, _, _, _, _, rfl⟩
      · rintro σ H8 ⟨e8, B8, p, vb, us, os, t8, z1, z5, z6, z7, z8, rfl⟩
        exact ⟨s1.trans (But.to sm e8 hb), _, _, _, _, _, _, _, _, rfl⟩
    · rintro σ H1 ⟨s1, z1, z2, z3, z4, z5, z6, z7, z8, rfl⟩
      walk_at "rd"
      exact q _
end

end Ice

set_option Elab.async false
set_option linter.all false
set_option maxRecDepth 100000
set_option maxHeartbeats 4000000
namespace Ice
open PySem PySem.Spec PyProof.Rows L2 TL
/-! side conditions, heaps, one step of a reading, and many -/
local macro_rules | `(tactic| walk_at "hp") => `(tactic| first | assumption | exact upd_same | exact New.at_ (by assumption) | (refine keepU ?_ (by assumption); walk_at "hp") | (refine New.app (by assumption) ?_; walk_at "hp") | (refine Same.app (by assumption) ?_; walk_at "hp") | (refine But.app (by assumption) (by assumption) ?_; walk_at "hp"))
local macro_rules | `(tactic| walk_at "sq") => `(tactic| first | assumption | exact SqL.lst (by walk_at "hp") | exact L2.Same.seq (New.same (by assumption)) (by assumption) | exact L2.Same.seq (by assumption) (by assumption))
local macro_rules | `(tactic| walk_at "len") => `(tactic| first | assumption | (simp only [List.length_cons, List.length_nil, List.length_append, List.length_map]; decide) | (refine Ice.sz_of ?_; simp only [List.length_cons, List.length_nil, List.length_append, List.length_map]; omega))
local macro_rules | `(tactic| walk_at "fresh") => `(tactic| (simp only [List.map_append, List.map_cons, List.map_nil, List.nil_append, List.cons_append]; decide +kernel))
local macro_rules | `(tactic| walk_at "sd") => `(tactic| first | assumption | (show _ ≠ _; omega) | exact Or.inl ⟨by omega, by omega⟩ | exact Or.inr ⟨by omega, by omega⟩ | exact ⟨by decide, by decide⟩ | exact ⟨by decide, by decide, by decide⟩ | exact ⟨by omega, by omega, by omega⟩)
/-! one step of a reading, and many -/
local macro_rules | `(tactic| walk_at "st") => `(tactic| first
  | with_reducible refine i_seq ?_
  | with_reducible refine i_if ?_
  | with_reducible refine i_next ?_
  | with_reducible refine i_ret ?_
  | with_reducible refine i_retN ?_
  | with_reducible refine i_drop ?_
  | with_reducible refine i_asg ?_
  | with_reducible refine i_gname ?_
  | with_reducible refine i_gsub ?_
  | ((with_reducible refine i_var (v := ?vv) ?hv ?_); (case hv => exact rfl))
  | with_reducible refine i_c ?_
  | with_reducible refine i_op ?_
  | with_reducible refine i_un ?_
  | with_reducible refine i_test ?_
  | with_reducible refine i_tB ?_
  | with_reducible refine i_and ?_
  | with_reducible refine i_or ?_
  | with_reducible refine i_not ?_
  | with_reducible refine i_andV ?_
  | with_reducible refine i_orV ?_
  | with_reducible refine i_notV ?_
  | with_reducible refine i_ifE ?_
  | with_reducible refine i_chain ?_
  | with_reducible refine i_bl ?_
  | with_reducible refine i_nil ?_
  | with_reducible refine i_cons ?_
  | with_reducible refine i_call ?_
  | with_reducible refine i_cb ?_
  | with_reducible refine i_rI0 ?_
  | with_reducible refine i_rU ?_
  | ((with_reducible refine i_rEq ?hs ?_); (case hs => exact rfl))
  | ((with_reducible refine i_rNe ?hs ?_); (case hs => exact rfl))
  | ((with_reducible refine i_rI ?hc ?_); (case hc => walk_at "sd"))
  | ((with_reducible refine i_ixL (xs := ?xs) (v := ?vv) ?hS ?he ?_); (case hS => walk_at "sq"); (case he => exact rfl))
  | ((with_reducible refine i_setL (xs := ?xs) (j := ?jj) ?hS ?he ?_); (case hS => walk_at "hp"); (case he => exact rfl))
  | with_reducible refine i_tup ?_
  | with_reducible refine i_lst ?_
  | with_reducible refine i_bm ?_
  | with_reducible refine i_bm0 ?_
  | with_reducible refine i_m1 ?_
  | with_reducible refine i_sl ?_
  | with_reducible refine i_nopart ?_
  | with_reducible refine i_part ?_
  | with_reducible refine i_int ?_
  | with_reducible refine i_str ?_
  | with_reducible refine i_for ?_
  | with_reducible refine i_yes ?_
  | ((with_reducible refine i_lenL (xs := ?xs) ?hS ?_); (case hS => walk_at "sq"))
  | ((with_reducible refine i_room ?hz ?_); (case hz => walk_at "len"))
  | with_reducible refine i_leT ?_
  | with_reducible refine i_notInS ?_
  | with_reducible refine i_inS ?_
  | with_reducible refine i_find ?_
  | with_reducible refine i_isB ?_
  | with_reducible refine i_max2 ?_
  | with_reducible refine i_min2 ?_
  | with_reducible exact trivial
  | with_reducible refine iteT ?_
  | with_reducible refine iteF ?_
  | with_reducible refine i_isstr ?_
  | with_reducible refine i_lc ?_
  | ((with_reducible refine i_cat (xs := ?xs) (zs := ?zs) ?ha ?hb ?hz ?_); (case ha => walk_at "hp"); (case hb => walk_at "hp"); (case hz => walk_at "len"))
  | ((with_reducible refine i_tyL (xs := ?xs) ?ha ?_); (case ha => walk_at "hp"))
  | with_reducible refine i_list ?_
  | with_reducible refine i_disp ?_
  | with_reducible refine i_pairs0 ?_
  | with_reducible refine i_pairs ?_
  | with_reducible refine i_newK ?_
  | with_reducible refine i_gcons ?_
  | with_reducible refine i_gnil ?_
  | with_reducible refine i_revL ?_
  | with_reducible refine i_rng1 ?_
  | ((with_reducible refine i_wipe ?hw ?_); (case hw => exact rfl))
  | with_reducible refine iteNT ?_
  | with_reducible refine iteNF ?_)
local macro_rules | `(tactic| walk_at "rd") => `(tactic| repeat (walk_at "st"))

theorem all_mk {l : PySem.W.OpenLaw} {w : World} {K : PySem.W.Frag} {h : Heap} {mg : Str → Option Value} {fa : Addr} (X : K.In h) (G : h.Ns mainGlobals mg) (hfa : mg "law" = some (.ref fa))
    {f0 : Addr} {od0 an0 : Option Addr} {sl0 : Array (Option Value)} {oc0 kV0 dc0 pm0 cd0 ct0 : Value}
    {f1 : Addr} {od1 an1 : Option Addr} {sl1 : Array (Option Value)} {oc1 kV1 dc1 pm1 cd1 ct1 : Value}
    {f2 : Addr} {od2 an2 : Option Addr} {sl2 : Array (Option Value)} {oc2 kV2 dc2 pm2 cd2 ct2 : Value}
    {f3 : Addr} {od3 an3 : Option Addr} {sl3 : Array (Option Value)} {oc3 kV3 dc3 pm3 cd3 ct3 : Value}
    {f4 : Addr} {od4 an4 : Option Addr} {sl4 : Array (Option Value)} {oc4 kV4 dc4 pm4 cd4 ct4 : Value}
    {f5 : Addr} {od5 an5 : Option Addr} {sl5 : Array (Option Value)} {oc5 kV5 dc5 pm5 cd5 ct5 : Value}
    {f6 : Addr} {od6 an6 : Option Addr} {sl6 : Array (Option Value)} {oc6 kV6 dc6 pm6 cd6 ct6 : Value}
    {f7 : Addr} {od7 an7 : Option Addr} {sl7 : Array (Option Value)} {oc7 kV7 dc7 pm7 cd7 ct7 : Value}
    {f8 : Addr} {od8 an8 : Option Addr} {sl8 : Array (Option Value)} {oc8 kV8 dc8 pm8 cd8 ct8 : Value}
    {f9 : Addr} {od9 an9 : Option Addr} {sl9 : Array (Option Value)} {oc9 kV9 dc9 pm9 cd9 ct9 : Value}
    {f10 : Addr} {od10 an10 : Option Addr} {sl10 : Array (Option Value)} {oc10 kV10 dc10 pm10 cd10 ct10 : Value}
    {f11 : Addr} {od11 an11 : Option Addr} {sl11 : Array (Option Value)} {oc11 kV11 dc11 pm11 cd11 ct11 : Value}
    {f12 : Addr} {od12 an12 : Option Addr} {sl12 : Array (Option Value)} {oc12 kV12 dc12 pm12 cd12 ct12 : Value}
    {f13 : Addr} {od13 an13 : Option Addr} {sl13 : Array (Option Value)} {oc13 kV13 dc13 pm13 cd13 ct13 : Value}
    {f14 : Addr} {od14 an14 : Option Addr} {sl14 : Array (Option Value)} {oc14 kV14 dc14 pm14 cd14 ct14 : Value}
    {f15 : Addr} {od15 an15 : Option Addr} {sl15 : Array (Option Value)} {oc15 kV15 dc15 pm15 cd15 ct15 : Value}
    {f16 : Addr} {od16 an16 : Option Addr} {sl16 : Array (Option Value)} {oc16 kV16 dc16 pm16 cd16 ct16 : Value}
    {f17 : Addr} {od17 an17 : Option Addr} {sl17 : Array (Option Value)} {oc17 kV17 dc17 pm17 cd17 ct17 : Value}
    {f18 : Addr} {od18 an18 : Option Addr} {sl18 : Array (Option Value)} {oc18 kV18 dc18 pm18 cd18 ct18 : Value}
    {f19 : Addr} {od19 an19 : Option Addr} {sl19 : Array (Option Value)} {oc19 kV19 dc19 pm19 cd19 ct19 : Value}
    {f20 : Addr} {od20 an20 : Option Addr} {sl20 : Array (Option Value)} {oc20 kV20 dc20 pm20 cd20 ct20 : Value}
    {f21 : Addr} {od21 an21 : Option Addr} {sl21 : Array (Option Value)} {oc21 kV21 dc21 pm21 cd21 ct21 : Value}
    {f22 : Addr} {od22 an22 : Option Addr} {sl22 : Array (Option Value)} {oc22 kV22 dc22 pm22 cd22 ct22 : Value}
    {f23 : Addr} {od23 an23 : Option Addr} {sl23 : Array (Option Value)} {oc23 kV23 dc23 pm23 cd23 ct23 : Value}
    {f24 : Addr} {od24 an24 : Option Addr} {sl24 : Array (Option Value)} {oc24 kV24 dc24 pm24 cd24 ct24 : Value}
    {f25 : Addr} {od25 an25 : Option Addr} {sl25 : Array (Option Value)} {oc25 kV25 dc25 pm25 cd25 ct25 : Value}
    {f26 : Addr} {od26 an26 : Option Addr} {sl26 : Array (Option Value)} {oc26 kV26 dc26 pm26 cd26 ct26 : Value}
    {f27 : Addr} {od27 an27 : Option Addr} {sl27 : Array (Option Value)} {oc27 kV27 dc27 pm27 cd27 ct27 : Value}
    {f28 : Addr} {od28 an28 : Option Addr} {sl28 : Array (Option Value)} {oc28 kV28 dc28 pm28 cd28 ct28 : Value}
    {f29 : Addr} {od29 an29 : Option Addr} {sl29 : Array (Option Value)} {oc29 kV29 dc29 pm29 cd29 ct29 : Value}
    {f30 : Addr} {od30 an30 : Option Addr} {sl30 : Array (Option Value)} {oc30 kV30 dc30 pm30 cd30 ct30 : Value}
    {f31 : Addr} {od31 an31 : Option Addr} {sl31 : Array (Option Value)} {oc31 kV31 dc31 pm31 cd31 ct31 : Value}
    {f32 : Addr} {od32 an32 : Option Addr} {sl32 : Array (Option Value)} {oc32 kV32 dc32 pm32 cd32 ct32 : Value}
    {f33 : Addr} {od33 an33 : Option Addr} {sl33 : Array (Option Value)} {oc33 kV33 dc33 pm33 cd33 ct33 : Value}
    {f34 : Addr} {od34 an34 : Option Addr} {sl34 : Array (Option Value)} {oc34 kV34 dc34 pm34 cd34 ct34 : Value}
    {f35 : Addr} {od35 an35 : Option Addr} {sl35 : Array (Option Value)} {oc35 kV35 dc35 pm35 cd35 ct35 : Value}
    {f36 : Addr} {od36 an36 : Option Addr} {sl36 : Array (Option Value)} {oc36 kV36 dc36 pm36 cd36 ct36 : Value}
    {f37 : Addr} {od37 an37 : Option Addr} {sl37 : Array (Option Value)} {oc37 kV37 dc37 pm37 cd37 ct37 : Value}
    {f38 : Addr} {od38 an38 : Option Addr} {sl38 : Array (Option Value)} {oc38 kV38 dc38 pm38 cd38 ct38 : Value}
    {f39 : Addr} {od39 an39 : Option Addr} {sl39 : Array (Option Value)} {oc39 kV39 dc39 pm39 cd39 ct39 : Value}
    {f40 : Addr} {od40 an40 : Option Addr} {sl40 : Array (Option Value)} {oc40 kV40 dc40 pm40 cd40 ct40 : Value}
    {f41 : Addr} {od41 an41 : Option Addr} {sl41 : Array (Option Value)} {oc41 kV41 dc41 pm41 cd41 ct41 : Value}
    {f42 : Addr} {od42 an42 : Option Addr} {sl42 : Array (Option Value)} {oc42 kV42 dc42 pm42 cd42 ct42 : Value}
    {f43 : Addr} {od43 an43 : Option Addr} {sl43 : Array (Option Value)} {oc43 kV43 dc43 pm43 cd43 ct43 : Value}
    {f44 : Addr} {od44 an44 : Option Addr} {sl44 : Array (Option Value)} {oc44 kV44 dc44 pm44 cd44 ct44 : Value}
    {f45 : Addr} {od45 an45 : Option Addr} {sl45 : Array (Option Value)} {oc45 kV45 dc45 pm45 cd45 ct45 : Value}
    {f46 : Addr} {od46 an46 : Option Addr} {sl46 : Array (Option Value)} {oc46 kV46 dc46 pm46 cd46 ct46 : Value}
    {f47 : Addr} {od47 an47 : Option Addr} {sl47 : Array (Option Value)} {oc47 kV47 dc47 pm47 cd47 ct47 : Value}
    {f48 : Addr} {od48 an48 : Option Addr} {sl48 : Array (Option Value)} {oc48 kV48 dc48 pm48 cd48 ct48 : Value}
    {f49 : Addr} {od49 an49 : Option Addr} {sl49 : Array (Option Value)} {oc49 kV49 dc49 pm49 cd49 ct49 : Value}
    {f50 : Addr} {od50 an50 : Option Addr} {sl50 : Array (Option Value)} {oc50 kV50 dc50 pm50 cd50 ct50 : Value}
    {f51 : Addr} {od51 an51 : Option Addr} {sl51 : Array (Option Value)} {oc51 kV51 dc51 pm51 cd51 ct51 : Value}
    {f52 : Addr} {od52 an52 : Option Addr} {sl52 : Array (Option Value)} {oc52 kV52 dc52 pm52 cd52 ct52 : Value}
    {f53 : Addr} {od53 an53 : Option Addr} {sl53 : Array (Option Value)} {oc53 kV53 dc53 pm53 cd53 ct53 : Value}
    {f54 : Addr} {od54 an54 : Option Addr} {sl54 : Array (Option Value)} {oc54 kV54 dc54 pm54 cd54 ct54 : Value}
    {f55 : Addr} {od55 an55 : Option Addr} {sl55 : Array (Option Value)} {oc55 kV55 dc55 pm55 cd55 ct55 : Value}
    {f56 : Addr} {od56 an56 : Option Addr} {sl56 : Array (Option Value)} {oc56 kV56 dc56 pm56 cd56 ct56 : Value}
    {f57 : Addr} {od57 an57 : Option Addr} {sl57 : Array (Option Value)} {oc57 kV57 dc57 pm57 cd57 ct57 : Value}
    {f58 : Addr} {od58 an58 : Option Addr} {sl58 : Array (Option Value)} {oc58 kV58 dc58 pm58 cd58 ct58 : Value}
    {f59 : Addr} {od59 an59 : Option Addr} {sl59 : Array (Option Value)} {oc59 kV59 dc59 pm59 cd59 ct59 : Value}
    {f60 : Addr} {od60 an60 : Option Addr} {sl60 : Array (Option Value)} {oc60 kV60 dc60 pm60 cd60 ct60 : Value}
    {f61 : Addr} {od61 an61 : Option Addr} {sl61 : Array (Option Value)} {oc61 kV61 dc61 pm61 cd61 ct61 : Value}
    {t_NAME_MOST : Tok}
    {t_HOURS_MOST : Tok}
    {t_DEPTH_MOST : Tok}
    {t_GROWTH_MOST : Tok}
    {t_THICK_MOST : Tok}
    {t_HOUR_MOST : Tok}
    {t_STRENGTH_MOST : Tok}
    {t_CUT_MOST : Tok}
    {t_TRAIN_MOST : Tok}
    {t_BEGIN_MOST : Tok}
    {t_PORTS_MOST : Tok}
    {t_CHANNELS_MOST : Tok}
    {t_BREAKERS_MOST : Tok}
    {t_SHIPS_MOST : Tok}
    {C_IceError : Addr}
    {C_NoName : Addr}
    {nm_NoName q_NoName : Str} {N_NoName : Addr} {bs_NoName bm_NoName : List Value} {sn_NoName : List Str} {su_NoName : List Value} {ab_NoName : Bool} {co_NoName : Option Bool} {dd_NoName : Option Addr} {m0_NoName m1_NoName m2_NoName m3_NoName m5_NoName : Option Value}
    {C_NoNumber : Addr}
    {nm_NoNumber q_NoNumber : Str} {N_NoNumber : Addr} {bs_NoNumber bm_NoNumber : List Value} {sn_NoNumber : List Str} {su_NoNumber : List Value} {ab_NoNumber : Bool} {co_NoNumber : Option Bool} {dd_NoNumber : Option Addr} {m0_NoNumber m1_NoNumber m2_NoNumber m3_NoNumber m5_NoNumber : Option Value}
    {C_Doubled : Addr}
    {nm_Doubled q_Doubled : Str} {N_Doubled : Addr} {bs_Doubled bm_Doubled : List Value} {sn_Doubled : List Str} {su_Doubled : List Value} {ab_Doubled : Bool} {co_Doubled : Option Bool} {dd_Doubled : Option Addr} {m0_Doubled m1_Doubled m2_Doubled m3_Doubled m5_Doubled : Option Value}
    {C_NoPort : Addr}
    {nm_NoPort q_NoPort : Str} {N_NoPort : Addr} {bs_NoPort bm_NoPort : List Value} {sn_NoPort : List Str} {su_NoPort : List Value} {ab_NoPort : Bool} {co_NoPort : Option Bool} {dd_NoPort : Option Addr} {m0_NoPort m1_NoPort m2_NoPort m3_NoPort m5_NoPort : Option Value}
    {C_NoChannel : Addr}
    {nm_NoChannel q_NoChannel : Str} {N_NoChannel : Addr} {bs_NoChannel bm_NoChannel : List Value} {sn_NoChannel : List Str} {su_NoChannel : List Value} {ab_NoChannel : Bool} {co_NoChannel : Option Bool} {dd_NoChannel : Option Addr} {m0_NoChannel m1_NoChannel m2_NoChannel m3_NoChannel m5_NoChannel : Option Value}
    {C_NoVessel : Addr}
    {nm_NoVessel q_NoVessel : Str} {N_NoVessel : Addr} {bs_NoVessel bm_NoVessel : List Value} {sn_NoVessel : List Str} {su_NoVessel : List Value} {ab_NoVessel : Bool} {co_NoVessel : Option Bool} {dd_NoVessel : Option Addr} {m0_NoVessel m1_NoVessel m2_NoVessel m3_NoVessel m5_NoVessel : Option Value}
    {C_NoKind : Addr}
    {nm_NoKind q_NoKind : Str} {N_NoKind : Addr} {bs_NoKind bm_NoKind : List Value} {sn_NoKind : List Str} {su_NoKind : List Value} {ab_NoKind : Bool} {co_NoKind : Option Bool} {dd_NoKind : Option Addr} {m0_NoKind m1_NoKind m2_NoKind m3_NoKind m5_NoKind : Option Value}
    {C_NoWorld : Addr}
    {nm_NoWorld q_NoWorld : Str} {N_NoWorld : Addr} {bs_NoWorld bm_NoWorld : List Value} {sn_NoWorld : List Str} {su_NoWorld : List Value} {ab_NoWorld : Bool} {co_NoWorld : Option Bool} {dd_NoWorld : Option Addr} {m0_NoWorld m1_NoWorld m2_NoWorld m3_NoWorld m5_NoWorld : Option Value}
    {C_Channel : Addr}
    {C_Vessel : Addr}
    {C_Breaker : Addr}
    {C_Ship : Addr}
    {C_Train : Addr}
    {C_World : Addr}
    (g_IceError : PySem.W.nsIn K mainGlobals "IceError" = some (some (.ref C_IceError)))
    (sp_IceError : PySem.W.specialIn K (.ref C_IceError) "__getattribute__" = some (some (.builtin "type.__getattribute__")))
    (ty_IceError : PySem.W.typeIn K (.ref C_IceError) = some (.type "type"))
    (rd_IceError : PySem.W.readsIn K C_IceError (.type "type") = true)
    (fc_IceError : PySem.W.findCls K (.ref C_IceError) (.type "type") "__init__" = some (.val (.builtin "ValueError.__init__")))
    (g_NoName : PySem.W.nsIn K mainGlobals "NoName" = some (some (.ref C_NoName)))
    (xl_NoName : K.lookup C_NoName = some (excClassObj nm_NoName q_NoName C_NoName N_NoName bs_NoName bm_NoName true sn_NoName su_NoName ab_NoName co_NoName dd_NoName m0_NoName m1_NoName m2_NoName m3_NoName m5_NoName "ValueError.__new__"))
    (hb_NoName : PySem.HandSPX.refsVE bm_NoName = true)
    (sa_NoName : PySem.W.findIn K (.ref C_NoName) "__setattr__" = some (some (.builtin "object.__setattr__")))
    (ec_NoName : PySem.W.subIn K (.ref C_NoName) (.type "BaseException") = some true)
    (tc_NoName : PySem.W.typeIn K (.ref C_NoName) = some (.type "type"))
    (kc_NoName : PySem.W.keepIn K (.ref C_NoName) = true)
    (ga_NoName : PySem.W.findIn K (.ref C_NoName) "__getattribute__" = some (some (.builtin "BaseException.__getattribute__")))
    (gg_NoName : PySem.W.findIn K (.ref C_NoName) "__getattr__" = some none)
    (hd_NoName : PySem.W.hasDictIn K C_NoName = true)
    (in_NoName : PySem.W.findIn K (.ref C_NoName) "__init__" = some (some (.ref f33)))
    (tf_NoName : PySem.W.typeIn K (.ref f33) = some (.type "function"))
    (nf_NoName_found : PySem.W.findIn K (.ref C_NoName) "found" = some none)
    (g_NoNumber : PySem.W.nsIn K mainGlobals "NoNumber" = some (some (.ref C_NoNumber)))
    (xl_NoNumber : K.lookup C_NoNumber = some (excClassObj nm_NoNumber q_NoNumber C_NoNumber N_NoNumber bs_NoNumber bm_NoNumber true sn_NoNumber su_NoNumber ab_NoNumber co_NoNumber dd_NoNumber m0_NoNumber m1_NoNumber m2_NoNumber m3_NoNumber m5_NoNumber "ValueError.__new__"))
    (hb_NoNumber : PySem.HandSPX.refsVE bm_NoNumber = true)
    (sa_NoNumber : PySem.W.findIn K (.ref C_NoNumber) "__setattr__" = some (some (.builtin "object.__setattr__")))
    (ec_NoNumber : PySem.W.subIn K (.ref C_NoNumber) (.type "BaseException") = some true)
    (tc_NoNumber : PySem.W.typeIn K (.ref C_NoNumber) = some (.type "type"))
    (kc_NoNumber : PySem.W.keepIn K (.ref C_NoNumber) = true)
    (ga_NoNumber : PySem.W.findIn K (.ref C_NoNumber) "__getattribute__" = some (some (.builtin "BaseException.__getattribute__")))
    (gg_NoNumber : PySem.W.findIn K (.ref C_NoNumber) "__getattr__" = some none)
    (hd_NoNumber : PySem.W.hasDictIn K C_NoNumber = true)
    (in_NoNumber : PySem.W.findIn K (.ref C_NoNumber) "__init__" = some (some (.ref f34)))
    (tf_NoNumber : PySem.W.typeIn K (.ref f34) = some (.type "function"))
    (nf_NoNumber_found : PySem.W.findIn K (.ref C_NoNumber) "found" = some none)
    (g_Doubled : PySem.W.nsIn K mainGlobals "Doubled" = some (some (.ref C_Doubled)))
    (xl_Doubled : K.lookup C_Doubled = some (excClassObj nm_Doubled q_Doubled C_Doubled N_Doubled bs_Doubled bm_Doubled true sn_Doubled su_Doubled ab_Doubled co_Doubled dd_Doubled m0_Doubled m1_Doubled m2_Doubled m3_Doubled m5_Doubled "ValueError.__new__"))
    (hb_Doubled : PySem.HandSPX.refsVE bm_Doubled = true)
    (sa_Doubled : PySem.W.findIn K (.ref C_Doubled) "__setattr__" = some (some (.builtin "object.__setattr__")))
    (ec_Doubled : PySem.W.subIn K (.ref C_Doubled) (.type "BaseException") = some true)
    (tc_Doubled : PySem.W.typeIn K (.ref C_Doubled) = some (.type "type"))
    (kc_Doubled : PySem.W.keepIn K (.ref C_Doubled) = true)
    (ga_Doubled : PySem.W.findIn K (.ref C_Doubled) "__getattribute__" = some (some (.builtin "BaseException.__getattribute__")))
    (gg_Doubled : PySem.W.findIn K (.ref C_Doubled) "__getattr__" = some none)
    (hd_Doubled : PySem.W.hasDictIn K C_Doubled = true)
    (in_Doubled : PySem.W.findIn K (.ref C_Doubled) "__init__" = some (some (.ref f35)))
    (tf_Doubled : PySem.W.typeIn K (.ref f35) = some (.type "function"))
    (nf_Doubled_name : PySem.W.findIn K (.ref C_Doubled) "name" = some none)
    (g_NoPort : PySem.W.nsIn K mainGlobals "NoPort" = some (some (.ref C_NoPort)))
    (xl_NoPort : K.lookup C_NoPort = some (excClassObj nm_NoPort q_NoPort C_NoPort N_NoPort bs_NoPort bm_NoPort true sn_NoPort su_NoPort ab_NoPort co_NoPort dd_NoPort m0_NoPort m1_NoPort m2_NoPort m3_NoPort m5_NoPort "ValueError.__new__"))
    (hb_NoPort : PySem.HandSPX.refsVE bm_NoPort = true)
    (sa_NoPort : PySem.W.findIn K (.ref C_NoPort) "__setattr__" = some (some (.builtin "object.__setattr__")))
    (ec_NoPort : PySem.W.subIn K (.ref C_NoPort) (.type "BaseException") = some true)
    (tc_NoPort : PySem.W.typeIn K (.ref C_NoPort) = some (.type "type"))
    (kc_NoPort : PySem.W.keepIn K (.ref C_NoPort) = true)
    (ga_NoPort : PySem.W.findIn K (.ref C_NoPort) "__getattribute__" = some (some (.builtin "BaseException.__getattribute__")))
    (gg_NoPort : PySem.W.findIn K (.ref C_NoPort) "__getattr__" = some none)
    (hd_NoPort : PySem.W.hasDictIn K C_NoPort = true)
    (in_NoPort : PySem.W.findIn K (.ref C_NoPort) "__init__" = some (some (.ref f36)))
    (tf_NoPort : PySem.W.typeIn K (.ref f36) = some (.type "function"))
    (nf_NoPort_found : PySem.W.findIn K (.ref C_NoPort) "found" = some none)
    (g_NoChannel : PySem.W.nsIn K mainGlobals "NoChannel" = some (some (.ref C_NoChannel)))
    (xl_NoChannel : K.lookup C_NoChannel = some (excClassObj nm_NoChannel q_NoChannel C_NoChannel N_NoChannel bs_NoChannel bm_NoChannel true sn_NoChannel su_NoChannel ab_NoChannel co_NoChannel dd_NoChannel m0_NoChannel m1_NoChannel m2_NoChannel m3_NoChannel m5_NoChannel "ValueError.__new__"))
    (hb_NoChannel : PySem.HandSPX.refsVE bm_NoChannel = true)
    (sa_NoChannel : PySem.W.findIn K (.ref C_NoChannel) "__setattr__" = some (some (.builtin "object.__setattr__")))
    (ec_NoChannel : PySem.W.subIn K (.ref C_NoChannel) (.type "BaseException") = some true)
    (tc_NoChannel : PySem.W.typeIn K (.ref C_NoChannel) = some (.type "type"))
    (kc_NoChannel : PySem.W.keepIn K (.ref C_NoChannel) = true)
    (ga_NoChannel : PySem.W.findIn K (.ref C_NoChannel) "__getattribute__" = some (some (.builtin "BaseException.__getattribute__")))
    (gg_NoChannel : PySem.W.findIn K (.ref C_NoChannel) "__getattr__" = some none)
    (hd_NoChannel : PySem.W.hasDictIn K C_NoChannel = true)
    (in_NoChannel : PySem.W.findIn K (.ref C_NoChannel) "__init__" = some (some (.ref f37)))
    (tf_NoChannel : PySem.W.typeIn K (.ref f37) = some (.type "function"))
    (nf_NoChannel_found : PySem.W.findIn K (.ref C_NoChannel) "found" = some none)
    (g_NoVessel : PySem.W.nsIn K mainGlobals "NoVessel" = some (some (.ref C_NoVessel)))
    (xl_NoVessel : K.lookup C_NoVessel = some (excClassObj nm_NoVessel q_NoVessel C_NoVessel N_NoVessel bs_NoVessel bm_NoVessel true sn_NoVessel su_NoVessel ab_NoVessel co_NoVessel dd_NoVessel m0_NoVessel m1_NoVessel m2_NoVessel m3_NoVessel m5_NoVessel "ValueError.__new__"))
    (hb_NoVessel : PySem.HandSPX.refsVE bm_NoVessel = true)
    (sa_NoVessel : PySem.W.findIn K (.ref C_NoVessel) "__setattr__" = some (some (.builtin "object.__setattr__")))
    (ec_NoVessel : PySem.W.subIn K (.ref C_NoVessel) (.type "BaseException") = some true)
    (tc_NoVessel : PySem.W.typeIn K (.ref C_NoVessel) = some (.type "type"))
    (kc_NoVessel : PySem.W.keepIn K (.ref C_NoVessel) = true)
    (ga_NoVessel : PySem.W.findIn K (.ref C_NoVessel) "__getattribute__" = some (some (.builtin "BaseException.__getattribute__")))
    (gg_NoVessel : PySem.W.findIn K (.ref C_NoVessel) "__getattr__" = some none)
    (hd_NoVessel : PySem.W.hasDictIn K C_NoVessel = true)
    (in_NoVessel : PySem.W.findIn K (.ref C_NoVessel) "__init__" = some (some (.ref f38)))
    (tf_NoVessel : PySem.W.typeIn K (.ref f38) = some (.type "function"))
    (nf_NoVessel_found : PySem.W.findIn K (.ref C_NoVessel) "found" = some none)
    (g_NoKind : PySem.W.nsIn K mainGlobals "NoKind" = some (some (.ref C_NoKind)))
    (xl_NoKind : K.lookup C_NoKind = some (excClassObj nm_NoKind q_NoKind C_NoKind N_NoKind bs_NoKind bm_NoKind true sn_NoKind su_NoKind ab_NoKind co_NoKind dd_NoKind m0_NoKind m1_NoKind m2_NoKind m3_NoKind m5_NoKind "ValueError.__new__"))
    (hb_NoKind : PySem.HandSPX.refsVE bm_NoKind = true)
    (sa_NoKind : PySem.W.findIn K (.ref C_NoKind) "__setattr__" = some (some (.builtin "object.__setattr__")))
    (ec_NoKind : PySem.W.subIn K (.ref C_NoKind) (.type "BaseException") = some true)
    (tc_NoKind : PySem.W.typeIn K (.ref C_NoKind) = some (.type "type"))
    (kc_NoKind : PySem.W.keepIn K (.ref C_NoKind) = true)
    (ga_NoKind : PySem.W.findIn K (.ref C_NoKind) "__getattribute__" = some (some (.builtin "BaseException.__getattribute__")))
    (gg_NoKind : PySem.W.findIn K (.ref C_NoKind) "__getattr__" = some none)
    (hd_NoKind : PySem.W.hasDictIn K C_NoKind = true)
    (in_NoKind : PySem.W.findIn K (.ref C_NoKind) "__init__" = some (some (.ref f39)))
    (tf_NoKind : PySem.W.typeIn K (.ref f39) = some (.type "function"))
    (nf_NoKind_found : PySem.W.findIn K (.ref C_NoKind) "found" = some none)
    (g_NoWorld : PySem.W.nsIn K mainGlobals "NoWorld" = some (some (.ref C_NoWorld)))
    (xl_NoWorld : K.lookup C_NoWorld = some (excClassObj nm_NoWorld q_NoWorld C_NoWorld N_NoWorld bs_NoWorld bm_NoWorld true sn_NoWorld su_NoWorld ab_NoWorld co_NoWorld dd_NoWorld m0_NoWorld m1_NoWorld m2_NoWorld m3_NoWorld m5_NoWorld "ValueError.__new__"))
    (hb_NoWorld : PySem.HandSPX.refsVE bm_NoWorld = true)
    (sa_NoWorld : PySem.W.findIn K (.ref C_NoWorld) "__setattr__" = some (some (.builtin "object.__setattr__")))
    (ec_NoWorld : PySem.W.subIn K (.ref C_NoWorld) (.type "BaseException") = some true)
    (tc_NoWorld : PySem.W.typeIn K (.ref C_NoWorld) = some (.type "type"))
    (kc_NoWorld : PySem.W.keepIn K (.ref C_NoWorld) = true)
    (ga_NoWorld : PySem.W.findIn K (.ref C_NoWorld) "__getattribute__" = some (some (.builtin "BaseException.__getattribute__")))
    (gg_NoWorld : PySem.W.findIn K (.ref C_NoWorld) "__getattr__" = some none)
    (hd_NoWorld : PySem.W.hasDictIn K C_NoWorld = true)
    (in_NoWorld : PySem.W.findIn K (.ref C_NoWorld) "__init__" = some (some (.ref f40)))
    (tf_NoWorld : PySem.W.typeIn K (.ref f40) = some (.type "function"))
    (nf_NoWorld_found : PySem.W.findIn K (.ref C_NoWorld) "found" = some none)
    (g_Channel : PySem.W.nsIn K mainGlobals "Channel" = some (some (.ref C_Channel)))
    (pg_Channel : PySem.W.plainGet K C_Channel Str.empty = true)
    (hd_Channel : PySem.W.hasDictIn K C_Channel = true)
    (po_Channel : PySem.W.plainOver K C_Channel = true)
    (sa_Channel : PySem.W.findIn K (.ref C_Channel) "__setattr__" = some (some (.builtin "object.__setattr__")))
    (mk_Channel : PySem.W.makesIn K C_Channel = true)
    (in_Channel : PySem.W.findIn K (.ref C_Channel) "__init__" = some (some (.ref f41)))
    (if_Channel : PySem.W.isFn K (.ref f41) = true)
    (kc_Channel : PySem.W.keepIn K (.ref C_Channel) = true)
    (na_Channel_name : PySem.W.findIn K (.ref C_Channel) "name" = some none)
    (na_Channel_one : PySem.W.findIn K (.ref C_Channel) "one" = some none)
    (na_Channel_other : PySem.W.findIn K (.ref C_Channel) "other" = some none)
    (na_Channel_hours : PySem.W.findIn K (.ref C_Channel) "hours" = some none)
    (na_Channel_depth : PySem.W.findIn K (.ref C_Channel) "depth" = some none)
    (na_Channel_first : PySem.W.findIn K (.ref C_Channel) "first" = some none)
    (na_Channel_growth : PySem.W.findIn K (.ref C_Channel) "growth" = some none)
    (na_Channel_most : PySem.W.findIn K (.ref C_Channel) "most" = some none)
    (g_Vessel : PySem.W.nsIn K mainGlobals "Vessel" = some (some (.ref C_Vessel)))
    (pg_Vessel : PySem.W.plainGet K C_Vessel Str.empty = true)
    (hd_Vessel : PySem.W.hasDictIn K C_Vessel = true)
    (po_Vessel : PySem.W.plainOver K C_Vessel = true)
    (sa_Vessel : PySem.W.findIn K (.ref C_Vessel) "__setattr__" = some (some (.builtin "object.__setattr__")))
    (mk_Vessel : PySem.W.makesIn K C_Vessel = true)
    (in_Vessel : PySem.W.findIn K (.ref C_Vessel) "__init__" = some (some (.ref f42)))
    (if_Vessel : PySem.W.isFn K (.ref f42) = true)
    (kc_Vessel : PySem.W.keepIn K (.ref C_Vessel) = true)
    (ks_Vessel : PySem.W.specialIn K (.ref C_Vessel) "__getattribute__" = some (some (.builtin "type.__getattribute__")))
    (kt_Vessel : PySem.W.typeIn K (.ref C_Vessel) = some (.type "type"))
    (kr_Vessel : PySem.W.readsIn K C_Vessel (.type "type") = true)
    (kf_Vessel : PySem.W.findCls K (.ref C_Vessel) (.type "type") "__init__" = some (.val (.ref f42)))
    (na_Vessel_name : PySem.W.findIn K (.ref C_Vessel) "name" = some none)
    (na_Vessel_port : PySem.W.findIn K (.ref C_Vessel) "port" = some none)
    (na_Vessel_hour : PySem.W.findIn K (.ref C_Vessel) "hour" = some none)
    (na_Vessel_strength : PySem.W.findIn K (.ref C_Vessel) "strength" = some none)
    (na_Vessel_draught : PySem.W.findIn K (.ref C_Vessel) "draught" = some none)
    (me_Vessel_kind : PySem.W.findIn K (.ref C_Vessel) "kind" = some (some (.ref f43)))
    (mi_Vessel_kind : PySem.W.isFn K (.ref f43) = true)
    (me_Vessel_thins : PySem.W.findIn K (.ref C_Vessel) "thins" = some (some (.ref f44)))
    (mi_Vessel_thins : PySem.W.isFn K (.ref f44) = true)
    (g_Breaker : PySem.W.nsIn K mainGlobals "Breaker" = some (some (.ref C_Breaker)))
    (pg_Breaker : PySem.W.plainGet K C_Breaker Str.empty = true)
    (hd_Breaker : PySem.W.hasDictIn K C_Breaker = true)
    (po_Breaker : PySem.W.plainOver K C_Breaker = true)
    (sa_Breaker : PySem.W.findIn K (.ref C_Breaker) "__setattr__" = some (some (.builtin "object.__setattr__")))
    (mk_Breaker : PySem.W.makesIn K C_Breaker = true)
    (in_Breaker : PySem.W.findIn K (.ref C_Breaker) "__init__" = some (some (.ref f45)))
    (if_Breaker : PySem.W.isFn K (.ref f45) = true)
    (kc_Breaker : PySem.W.keepIn K (.ref C_Breaker) = true)
    (na_Breaker_name : PySem.W.findIn K (.ref C_Breaker) "name" = some none)
    (na_Breaker_port : PySem.W.findIn K (.ref C_Breaker) "port" = some none)
    (na_Breaker_hour : PySem.W.findIn K (.ref C_Breaker) "hour" = some none)
    (na_Breaker_strength : PySem.W.findIn K (.ref C_Breaker) "strength" = some none)
    (na_Breaker_draught : PySem.W.findIn K (.ref C_Breaker) "draught" = some none)
    (na_Breaker_cut : PySem.W.findIn K (.ref C_Breaker) "cut" = some none)
    (me_Breaker_kind : PySem.W.findIn K (.ref C_Breaker) "kind" = some (some (.ref f46)))
    (mi_Breaker_kind : PySem.W.isFn K (.ref f46) = true)
    (me_Breaker_thins : PySem.W.findIn K (.ref C_Breaker) "thins" = some (some (.ref f47)))
    (mi_Breaker_thins : PySem.W.isFn K (.ref f47) = true)
    (g_Ship : PySem.W.nsIn K mainGlobals "Ship" = some (some (.ref C_Ship)))
    (pg_Ship : PySem.W.plainGet K C_Ship Str.empty = true)
    (hd_Ship : PySem.W.hasDictIn K C_Ship = true)
    (po_Ship : PySem.W.plainOver K C_Ship = true)
    (sa_Ship : PySem.W.findIn K (.ref C_Ship) "__setattr__" = some (some (.builtin "object.__setattr__")))
    (mk_Ship : PySem.W.makesIn K C_Ship = true)
    (in_Ship : PySem.W.findIn K (.ref C_Ship) "__init__" = some (some (.ref f48)))
    (if_Ship : PySem.W.isFn K (.ref f48) = true)
    (kc_Ship : PySem.W.keepIn K (.ref C_Ship) = true)
    (na_Ship_name : PySem.W.findIn K (.ref C_Ship) "name" = some none)
    (na_Ship_port : PySem.W.findIn K (.ref C_Ship) "port" = some none)
    (na_Ship_hour : PySem.W.findIn K (.ref C_Ship) "hour" = some none)
    (na_Ship_strength : PySem.W.findIn K (.ref C_Ship) "strength" = some none)
    (na_Ship_draught : PySem.W.findIn K (.ref C_Ship) "draught" = some none)
    (na_Ship_goal : PySem.W.findIn K (.ref C_Ship) "goal" = some none)
    (me_Ship_kind : PySem.W.findIn K (.ref C_Ship) "kind" = some (some (.ref f49)))
    (mi_Ship_kind : PySem.W.isFn K (.ref f49) = true)
    (me_Ship_thins : PySem.W.findIn K (.ref C_Ship) "thins" = some (some (.ref f44)))
    (mi_Ship_thins : PySem.W.isFn K (.ref f44) = true)
    (g_Train : PySem.W.nsIn K mainGlobals "Train" = some (some (.ref C_Train)))
    (pg_Train : PySem.W.plainGet K C_Train Str.empty = true)
    (hd_Train : PySem.W.hasDictIn K C_Train = true)
    (po_Train : PySem.W.plainOver K C_Train = true)
    (sa_Train : PySem.W.findIn K (.ref C_Train) "__setattr__" = some (some (.builtin "object.__setattr__")))
    (mk_Train : PySem.W.makesIn K C_Train = true)
    (in_Train : PySem.W.findIn K (.ref C_Train) "__init__" = some (some (.ref f50)))
    (if_Train : PySem.W.isFn K (.ref f50) = true)
    (kc_Train : PySem.W.keepIn K (.ref C_Train) = true)
    (na_Train_name : PySem.W.findIn K (.ref C_Train) "name" = some none)
    (na_Train_port : PySem.W.findIn K (.ref C_Train) "port" = some none)
    (na_Train_hour : PySem.W.findIn K (.ref C_Train) "hour" = some none)
    (na_Train_strength : PySem.W.findIn K (.ref C_Train) "strength" = some none)
    (na_Train_draught : PySem.W.findIn K (.ref C_Train) "draught" = some none)
    (na_Train__vessels : PySem.W.findIn K (.ref C_Train) "_vessels" = some none)
    (me_Train_kind : PySem.W.findIn K (.ref C_Train) "kind" = some (some (.ref f51)))
    (mi_Train_kind : PySem.W.isFn K (.ref f51) = true)
    (me_Train_thins : PySem.W.findIn K (.ref C_Train) "thins" = some (some (.ref f52)))
    (mi_Train_thins : PySem.W.isFn K (.ref f52) = true)
    (me_Train_names : PySem.W.findIn K (.ref C_Train) "names" = some (some (.ref f53)))
    (mi_Train_names : PySem.W.isFn K (.ref f53) = true)
    (g_World : PySem.W.nsIn K mainGlobals "World" = some (some (.ref C_World)))
    (pg_World : PySem.W.plainGet K C_World Str.empty = true)
    (hd_World : PySem.W.hasDictIn K C_World = true)
    (po_World : PySem.W.plainOver K C_World = true)
    (sa_World : PySem.W.findIn K (.ref C_World) "__setattr__" = some (some (.builtin "object.__setattr__")))
    (mk_World : PySem.W.makesIn K C_World = true)
    (in_World : PySem.W.findIn K (.ref C_World) "__init__" = some (some (.ref f54)))
    (if_World : PySem.W.isFn K (.ref f54) = true)
    (kc_World : PySem.W.keepIn K (.ref C_World) = true)
    (na_World__begin : PySem.W.findIn K (.ref C_World) "_begin" = some none)
    (na_World__ports : PySem.W.findIn K (.ref C_World) "_ports" = some none)
    (na_World__channels : PySem.W.findIn K (.ref C_World) "_channels" = some none)
    (na_World__breakers : PySem.W.findIn K (.ref C_World) "_breakers" = some none)
    (na_World__ships : PySem.W.findIn K (.ref C_World) "_ships" = some none)
    (na_World__channel_of : PySem.W.findIn K (.ref C_World) "_channel_of" = some none)
    (na_World__vessel_of : PySem.W.findIn K (.ref C_World) "_vessel_of" = some none)
    (me_World_ports : PySem.W.findIn K (.ref C_World) "ports" = some (some (.ref f55)))
    (mi_World_ports : PySem.W.isFn K (.ref f55) = true)
    (me_World_channels : PySem.W.findIn K (.ref C_World) "channels" = some (some (.ref f56)))
    (mi_World_channels : PySem.W.isFn K (.ref f56) = true)
    (me_World_breakers : PySem.W.findIn K (.ref C_World) "breakers" = some (some (.ref f57)))
    (mi_World_breakers : PySem.W.isFn K (.ref f57) = true)
    (me_World_ships : PySem.W.findIn K (.ref C_World) "ships" = some (some (.ref f58)))
    (mi_World_ships : PySem.W.isFn K (.ref f58) = true)
    (me_World_vessels : PySem.W.findIn K (.ref C_World) "vessels" = some (some (.ref f59)))
    (mi_World_vessels : PySem.W.isFn K (.ref f59) = true)
    (me_World_channel : PySem.W.findIn K (.ref C_World) "channel" = some (some (.ref f60)))
    (mi_World_channel : PySem.W.isFn K (.ref f60) = true)
    (me_World_vessel : PySem.W.findIn K (.ref C_World) "vessel" = some (some (.ref f61)))
    (mi_World_vessel : PySem.W.isFn K (.ref f61) = true)
    (ex_NoName_NoNumber : PySem.W.exmOne K (.ref C_NoName) (.ref C_NoNumber) = some false)
    (ex_NoName_NoWorld : PySem.W.exmOne K (.ref C_NoName) (.ref C_NoWorld) = some false)
    (ex_NoName_Doubled : PySem.W.exmOne K (.ref C_NoName) (.ref C_Doubled) = some false)
    (ex_NoName_NoPort : PySem.W.exmOne K (.ref C_NoName) (.ref C_NoPort) = some false)
    (ex_NoName_IceError : PySem.W.exmOne K (.ref C_NoName) (.ref C_IceError) = some true)
    (ex_NoNumber_NoNumber : PySem.W.exmOne K (.ref C_NoNumber) (.ref C_NoNumber) = some true)
    (ex_NoNumber_NoWorld : PySem.W.exmOne K (.ref C_NoNumber) (.ref C_NoWorld) = some false)
    (ex_NoNumber_Doubled : PySem.W.exmOne K (.ref C_NoNumber) (.ref C_Doubled) = some false)
    (ex_NoNumber_NoPort : PySem.W.exmOne K (.ref C_NoNumber) (.ref C_NoPort) = some false)
    (ex_NoNumber_IceError : PySem.W.exmOne K (.ref C_NoNumber) (.ref C_IceError) = some true)
    (ex_Doubled_NoNumber : PySem.W.exmOne K (.ref C_Doubled) (.ref C_NoNumber) = some false)
    (ex_Doubled_NoWorld : PySem.W.exmOne K (.ref C_Doubled) (.ref C_NoWorld) = some false)
    (ex_Doubled_Doubled : PySem.W.exmOne K (.ref C_Doubled) (.ref C_Doubled) = some true)
    (ex_Doubled_NoPort : PySem.W.exmOne K (.ref C_Doubled) (.ref C_NoPort) = some false)
    (ex_Doubled_IceError : PySem.W.exmOne K (.ref C_Doubled) (.ref C_IceError) = some true)
    (ex_NoPort_NoNumber : PySem.W.exmOne K (.ref C_NoPort) (.ref C_NoNumber) = some false)
    (ex_NoPort_NoWorld : PySem.W.exmOne K (.ref C_NoPort) (.ref C_NoWorld) = some false)
    (ex_NoPort_Doubled : PySem.W.exmOne K (.ref C_NoPort) (.ref C_Doubled) = some false)
    (ex_NoPort_NoPort : PySem.W.exmOne K (.ref C_NoPort) (.ref C_NoPort) = some true)
    (ex_NoPort_IceError : PySem.W.exmOne K (.ref C_NoPort) (.ref C_IceError) = some true)
    (ex_NoChannel_NoNumber : PySem.W.exmOne K (.ref C_NoChannel) (.ref C_NoNumber) = some false)
    (ex_NoChannel_NoWorld : PySem.W.exmOne K (.ref C_NoChannel) (.ref C_NoWorld) = some false)
    (ex_NoChannel_Doubled : PySem.W.exmOne K (.ref C_NoChannel) (.ref C_Doubled) = some false)
    (ex_NoChannel_NoPort : PySem.W.exmOne K (.ref C_NoChannel) (.ref C_NoPort) = some false)
    (ex_NoChannel_IceError : PySem.W.exmOne K (.ref C_NoChannel) (.ref C_IceError) = some true)
    (ex_NoVessel_NoNumber : PySem.W.exmOne K (.ref C_NoVessel) (.ref C_NoNumber) = some false)
    (ex_NoVessel_NoWorld : PySem.W.exmOne K (.ref C_NoVessel) (.ref C_NoWorld) = some false)
    (ex_NoVessel_Doubled : PySem.W.exmOne K (.ref C_NoVessel) (.ref C_Doubled) = some false)
    (ex_NoVessel_NoPort : PySem.W.exmOne K (.ref C_NoVessel) (.ref C_NoPort) = some false)
    (ex_NoVessel_IceError : PySem.W.exmOne K (.ref C_NoVessel) (.ref C_IceError) = some true)
    (ex_NoKind_NoNumber : PySem.W.exmOne K (.ref C_NoKind) (.ref C_NoNumber) = some false)
    (ex_NoKind_NoWorld : PySem.W.exmOne K (.ref C_NoKind) (.ref C_NoWorld) = some false)
    (ex_NoKind_Doubled : PySem.W.exmOne K (.ref C_NoKind) (.ref C_Doubled) = some false)
    (ex_NoKind_NoPort : PySem.W.exmOne K (.ref C_NoKind) (.ref C_NoPort) = some false)
    (ex_NoKind_IceError : PySem.W.exmOne K (.ref C_NoKind) (.ref C_IceError) = some true)
    (ex_NoWorld_NoNumber : PySem.W.exmOne K (.ref C_NoWorld) (.ref C_NoNumber) = some false)
    (ex_NoWorld_NoWorld : PySem.W.exmOne K (.ref C_NoWorld) (.ref C_NoWorld) = some true)
    (ex_NoWorld_Doubled : PySem.W.exmOne K (.ref C_NoWorld) (.ref C_Doubled) = some false)
    (ex_NoWorld_NoPort : PySem.W.exmOne K (.ref C_NoWorld) (.ref C_NoPort) = some false)
    (ex_NoWorld_IceError : PySem.W.exmOne K (.ref C_NoWorld) (.ref C_IceError) = some true)
    (sgc : PySem.W.specialIn K (.builtin "object.__class__") "__get__" = some (some (.builtin "getset_descriptor.__get__")))
    (tkc : PySem.W.takesIn K (.builtin "object.__class__") = some true)
    (ca_Channel : PySem.W.findIn K (.ref C_Channel) "__class__" = some (some (.builtin "object.__class__")))
    (mo_Channel : PySem.W.mroIn K C_Channel (.type "object") = some true)
    (io_Channel_Train : PySem.W.kitOne K (.ref C_Channel) (.ref C_Train) = some false)
    (io_Channel_Vessel : PySem.W.kitOne K (.ref C_Channel) (.ref C_Vessel) = some false)
    (io_Channel_Channel : PySem.W.kitOne K (.ref C_Channel) (.ref C_Channel) = some true)
    (io_Channel_Breaker : PySem.W.kitOne K (.ref C_Channel) (.ref C_Breaker) = some false)
    (io_Channel_Ship : PySem.W.kitOne K (.ref C_Channel) (.ref C_Ship) = some false)
    (ca_Vessel : PySem.W.findIn K (.ref C_Vessel) "__class__" = some (some (.builtin "object.__class__")))
    (mo_Vessel : PySem.W.mroIn K C_Vessel (.type "object") = some true)
    (io_Vessel_Train : PySem.W.kitOne K (.ref C_Vessel) (.ref C_Train) = some false)
    (io_Vessel_Vessel : PySem.W.kitOne K (.ref C_Vessel) (.ref C_Vessel) = some true)
    (io_Vessel_Channel : PySem.W.kitOne K (.ref C_Vessel) (.ref C_Channel) = some false)
    (io_Vessel_Breaker : PySem.W.kitOne K (.ref C_Vessel) (.ref C_Breaker) = some false)
    (io_Vessel_Ship : PySem.W.kitOne K (.ref C_Vessel) (.ref C_Ship) = some false)
    (ca_Breaker : PySem.W.findIn K (.ref C_Breaker) "__class__" = some (some (.builtin "object.__class__")))
    (mo_Breaker : PySem.W.mroIn K C_Breaker (.type "object") = some true)
    (io_Breaker_Train : PySem.W.kitOne K (.ref C_Breaker) (.ref C_Train) = some false)
    (io_Breaker_Vessel : PySem.W.kitOne K (.ref C_Breaker) (.ref C_Vessel) = some true)
    (io_Breaker_Channel : PySem.W.kitOne K (.ref C_Breaker) (.ref C_Channel) = some false)
    (io_Breaker_Breaker : PySem.W.kitOne K (.ref C_Breaker) (.ref C_Breaker) = some true)
    (io_Breaker_Ship : PySem.W.kitOne K (.ref C_Breaker) (.ref C_Ship) = some false)
    (ca_Ship : PySem.W.findIn K (.ref C_Ship) "__class__" = some (some (.builtin "object.__class__")))
    (mo_Ship : PySem.W.mroIn K C_Ship (.type "object") = some true)
    (io_Ship_Train : PySem.W.kitOne K (.ref C_Ship) (.ref C_Train) = some false)
    (io_Ship_Vessel : PySem.W.kitOne K (.ref C_Ship) (.ref C_Vessel) = some true)
    (io_Ship_Channel : PySem.W.kitOne K (.ref C_Ship) (.ref C_Channel) = some false)
    (io_Ship_Breaker : PySem.W.kitOne K (.ref C_Ship) (.ref C_Breaker) = some false)
    (io_Ship_Ship : PySem.W.kitOne K (.ref C_Ship) (.ref C_Ship) = some true)
    (ca_Train : PySem.W.findIn K (.ref C_Train) "__class__" = some (some (.builtin "object.__class__")))
    (mo_Train : PySem.W.mroIn K C_Train (.type "object") = some true)
    (io_Train_Train : PySem.W.kitOne K (.ref C_Train) (.ref C_Train) = some true)
    (io_Train_Vessel : PySem.W.kitOne K (.ref C_Train) (.ref C_Vessel) = some true)
    (io_Train_Channel : PySem.W.kitOne K (.ref C_Train) (.ref C_Channel) = some false)
    (io_Train_Breaker : PySem.W.kitOne K (.ref C_Train) (.ref C_Breaker) = some false)
    (io_Train_Ship : PySem.W.kitOne K (.ref C_Train) (.ref C_Ship) = some false)
    (ca_World : PySem.W.findIn K (.ref C_World) "__class__" = some (some (.builtin "object.__class__")))
    (mo_World : PySem.W.mroIn K C_World (.type "object") = some true)
    (io_World_Train : PySem.W.kitOne K (.ref C_World) (.ref C_Train) = some false)
    (io_World_Vessel : PySem.W.kitOne K (.ref C_World) (.ref C_Vessel) = some false)
    (io_World_Channel : PySem.W.kitOne K (.ref C_World) (.ref C_Channel) = some false)
    (io_World_Breaker : PySem.W.kitOne K (.ref C_World) (.ref C_Breaker) = some false)
    (io_World_Ship : PySem.W.kitOne K (.ref C_World) (.ref C_Ship) = some false)
    (io_Channel_list : PySem.W.kitOne K (.ref C_Channel) (.type "list") = some false)
    (io_Channel_tuple : PySem.W.kitOne K (.ref C_Channel) (.type "tuple") = some false)
    (io_Channel_str : PySem.W.kitOne K (.ref C_Channel) (.type "str") = some false)
    (eq_Channel : PySem.W.findIn K (.ref C_Channel) "__eq__" = some (some (.builtin "object.__eq__")))
    (io_Vessel_list : PySem.W.kitOne K (.ref C_Vessel) (.type "list") = some false)
    (io_Vessel_tuple : PySem.W.kitOne K (.ref C_Vessel) (.type "tuple") = some false)
    (io_Vessel_str : PySem.W.kitOne K (.ref C_Vessel) (.type "str") = some false)
    (eq_Vessel : PySem.W.findIn K (.ref C_Vessel) "__eq__" = some (some (.builtin "object.__eq__")))
    (io_Breaker_list : PySem.W.kitOne K (.ref C_Breaker) (.type "list") = some false)
    (io_Breaker_tuple : PySem.W.kitOne K (.ref C_Breaker) (.type "tuple") = some false)
    (io_Breaker_str : PySem.W.kitOne K (.ref C_Breaker) (.type "str") = some false)
    (eq_Breaker : PySem.W.findIn K (.ref C_Breaker) "__eq__" = some (some (.builtin "object.__eq__")))
    (io_Ship_list : PySem.W.kitOne K (.ref C_Ship) (.type "list") = some false)
    (io_Ship_tuple : PySem.W.kitOne K (.ref C_Ship) (.type "tuple") = some false)
    (io_Ship_str : PySem.W.kitOne K (.ref C_Ship) (.type "str") = some false)
    (eq_Ship : PySem.W.findIn K (.ref C_Ship) "__eq__" = some (some (.builtin "object.__eq__")))
    (io_Train_list : PySem.W.kitOne K (.ref C_Train) (.type "list") = some false)
    (io_Train_tuple : PySem.W.kitOne K (.ref C_Train) (.type "tuple") = some false)
    (io_Train_str : PySem.W.kitOne K (.ref C_Train) (.type "str") = some false)
    (eq_Train : PySem.W.findIn K (.ref C_Train) "__eq__" = some (some (.builtin "object.__eq__")))
    (io_World_list : PySem.W.kitOne K (.ref C_World) (.type "list") = some false)
    (io_World_tuple : PySem.W.kitOne K (.ref C_World) (.type "tuple") = some false)
    (io_World_str : PySem.W.kitOne K (.ref C_World) (.type "str") = some false)
    (eq_World : PySem.W.findIn K (.ref C_World) "__eq__" = some (some (.builtin "object.__eq__")))
    (ib_NoneType_Train : PySem.W.kitOne K (.type "NoneType") (.ref C_Train) = some false)
    (ib_NoneType_Vessel : PySem.W.kitOne K (.type "NoneType") (.ref C_Vessel) = some false)
    (ib_NoneType_Channel : PySem.W.kitOne K (.type "NoneType") (.ref C_Channel) = some false)
    (ib_NoneType_Breaker : PySem.W.kitOne K (.type "NoneType") (.ref C_Breaker) = some false)
    (ib_NoneType_Ship : PySem.W.kitOne K (.type "NoneType") (.ref C_Ship) = some false)
    (ib_int_Train : PySem.W.kitOne K (.type "int") (.ref C_Train) = some false)
    (ib_int_Vessel : PySem.W.kitOne K (.type "int") (.ref C_Vessel) = some false)
    (ib_int_Channel : PySem.W.kitOne K (.type "int") (.ref C_Channel) = some false)
    (ib_int_Breaker : PySem.W.kitOne K (.type "int") (.ref C_Breaker) = some false)
    (ib_int_Ship : PySem.W.kitOne K (.type "int") (.ref C_Ship) = some false)
    (ib_str_Train : PySem.W.kitOne K (.type "str") (.ref C_Train) = some false)
    (ib_str_Vessel : PySem.W.kitOne K (.type "str") (.ref C_Vessel) = some false)
    (ib_str_Channel : PySem.W.kitOne K (.type "str") (.ref C_Channel) = some false)
    (ib_str_Breaker : PySem.W.kitOne K (.type "str") (.ref C_Breaker) = some false)
    (ib_str_Ship : PySem.W.kitOne K (.type "str") (.ref C_Ship) = some false)
    (ib_list_Train : PySem.W.kitOne K (.type "list") (.ref C_Train) = some false)
    (ib_list_Vessel : PySem.W.kitOne K (.type "list") (.ref C_Vessel) = some false)
    (ib_list_Channel : PySem.W.kitOne K (.type "list") (.ref C_Channel) = some false)
    (ib_list_Breaker : PySem.W.kitOne K (.type "list") (.ref C_Breaker) = some false)
    (ib_list_Ship : PySem.W.kitOne K (.type "list") (.ref C_Ship) = some false)
    (ib_bool_Train : PySem.W.kitOne K (.type "bool") (.ref C_Train) = some false)
    (ib_bool_Vessel : PySem.W.kitOne K (.type "bool") (.ref C_Vessel) = some false)
    (ib_bool_Channel : PySem.W.kitOne K (.type "bool") (.ref C_Channel) = some false)
    (ib_bool_Breaker : PySem.W.kitOne K (.type "bool") (.ref C_Breaker) = some false)
    (ib_bool_Ship : PySem.W.kitOne K (.type "bool") (.ref C_Ship) = some false)
    (ib_dict_Train : PySem.W.kitOne K (.type "dict") (.ref C_Train) = some false)
    (ib_dict_Vessel : PySem.W.kitOne K (.type "dict") (.ref C_Vessel) = some false)
    (ib_dict_Channel : PySem.W.kitOne K (.type "dict") (.ref C_Channel) = some false)
    (ib_dict_Breaker : PySem.W.kitOne K (.type "dict") (.ref C_Breaker) = some false)
    (ib_dict_Ship : PySem.W.kitOne K (.type "dict") (.ref C_Ship) = some false)
    (ib_tuple_Train : PySem.W.kitOne K (.type "tuple") (.ref C_Train) = some false)
    (ib_tuple_Vessel : PySem.W.kitOne K (.type "tuple") (.ref C_Vessel) = some false)
    (ib_tuple_Channel : PySem.W.kitOne K (.type "tuple") (.ref C_Channel) = some false)
    (ib_tuple_Breaker : PySem.W.kitOne K (.type "tuple") (.ref C_Breaker) = some false)
    (ib_tuple_Ship : PySem.W.kitOne K (.type "tuple") (.ref C_Ship) = some false)
    (a0 : PySem.W.nsIn K mainGlobals "is_whole" = some (some (.ref f0)))
    (l0 : K.lookup f0 = some ⟨oc0, od0, .func (PySem.W.fnOf "is_whole" "is_whole" (defArgs s_is_whole) (defBody s_is_whole) (defScope s_is_whole) .none kV0 dc0 pm0 an0 cd0 ct0), sl0⟩)
    (p0 : PySem.W.codeIn K cd0 "is_whole" = true)
    (k0 : PySem.W.keepIn K (.ref f0) = true)
    (a1 : PySem.W.nsIn K mainGlobals "is_within" = some (some (.ref f1)))
    (l1 : K.lookup f1 = some ⟨oc1, od1, .func (PySem.W.fnOf "is_within" "is_within" (defArgs s_is_within) (defBody s_is_within) (defScope s_is_within) .none kV1 dc1 pm1 an1 cd1 ct1), sl1⟩)
    (p1 : PySem.W.codeIn K cd1 "is_within" = true)
    (k1 : PySem.W.keepIn K (.ref f1) = true)
    (a2 : PySem.W.nsIn K mainGlobals "is_name" = some (some (.ref f2)))
    (l2 : K.lookup f2 = some ⟨oc2, od2, .func (PySem.W.fnOf "is_name" "is_name" (defArgs s_is_name) (defBody s_is_name) (defScope s_is_name) .none kV2 dc2 pm2 an2 cd2 ct2), sl2⟩)
    (p2 : PySem.W.codeIn K cd2 "is_name" = true)
    (k2 : PySem.W.keepIn K (.ref f2) = true)
    (a3 : PySem.W.nsIn K mainGlobals "_all_between" = some (some (.ref f3)))
    (l3 : K.lookup f3 = some ⟨oc3, od3, .func (PySem.W.fnOf "_all_between" "_all_between" (defArgs s_all_between) (defBody s_all_between) (defScope s_all_between) .none kV3 dc3 pm3 an3 cd3 ct3), sl3⟩)
    (p3 : PySem.W.codeIn K cd3 "_all_between" = true)
    (k3 : PySem.W.keepIn K (.ref f3) = true)
    (a4 : PySem.W.nsIn K mainGlobals "check_number" = some (some (.ref f4)))
    (l4 : K.lookup f4 = some ⟨oc4, od4, .func (PySem.W.fnOf "check_number" "check_number" (defArgs s_check_number) (defBody s_check_number) (defScope s_check_number) .none kV4 dc4 pm4 an4 cd4 ct4), sl4⟩)
    (p4 : PySem.W.codeIn K cd4 "check_number" = true)
    (k4 : PySem.W.keepIn K (.ref f4) = true)
    (a5 : PySem.W.nsIn K mainGlobals "_check_names" = some (some (.ref f5)))
    (l5 : K.lookup f5 = some ⟨oc5, od5, .func (PySem.W.fnOf "_check_names" "_check_names" (defArgs s_check_names) (defBody s_check_names) (defScope s_check_names) .none kV5 dc5 pm5 an5 cd5 ct5), sl5⟩)
    (p5 : PySem.W.codeIn K cd5 "_check_names" = true)
    (k5 : PySem.W.keepIn K (.ref f5) = true)
    (a6 : PySem.W.nsIn K mainGlobals "_can_be_train" = some (some (.ref f6)))
    (l6 : K.lookup f6 = some ⟨oc6, od6, .func (PySem.W.fnOf "_can_be_train" "_can_be_train" (defArgs s_can_be_train) (defBody s_can_be_train) (defScope s_can_be_train) .none kV6 dc6 pm6 an6 cd6 ct6), sl6⟩)
    (p6 : PySem.W.codeIn K cd6 "_can_be_train" = true)
    (k6 : PySem.W.keepIn K (.ref f6) = true)
    (a7 : PySem.W.nsIn K mainGlobals "_strength_together" = some (some (.ref f7)))
    (l7 : K.lookup f7 = some ⟨oc7, od7, .func (PySem.W.fnOf "_strength_together" "_strength_together" (defArgs s_strength_together) (defBody s_strength_together) (defScope s_strength_together) .none kV7 dc7 pm7 an7 cd7 ct7), sl7⟩)
    (p7 : PySem.W.codeIn K cd7 "_strength_together" = true)
    (k7 : PySem.W.keepIn K (.ref f7) = true)
    (a8 : PySem.W.nsIn K mainGlobals "_check_kinds" = some (some (.ref f8)))
    (l8 : K.lookup f8 = some ⟨oc8, od8, .func (PySem.W.fnOf "_check_kinds" "_check_kinds" (defArgs s_check_kinds) (defBody s_check_kinds) (defScope s_check_kinds) .none kV8 dc8 pm8 an8 cd8 ct8), sl8⟩)
    (p8 : PySem.W.codeIn K cd8 "_check_kinds" = true)
    (k8 : PySem.W.keepIn K (.ref f8) = true)
    (a9 : PySem.W.nsIn K mainGlobals "_holds_at_most" = some (some (.ref f9)))
    (l9 : K.lookup f9 = some ⟨oc9, od9, .func (PySem.W.fnOf "_holds_at_most" "_holds_at_most" (defArgs s_holds_at_most) (defBody s_holds_at_most) (defScope s_holds_at_most) .none kV9 dc9 pm9 an9 cd9 ct9), sl9⟩)
    (p9 : PySem.W.codeIn K cd9 "_holds_at_most" = true)
    (k9 : PySem.W.keepIn K (.ref f9) = true)
    (a10 : PySem.W.nsIn K mainGlobals "_check_unlike" = some (some (.ref f10)))
    (l10 : K.lookup f10 = some ⟨oc10, od10, .func (PySem.W.fnOf "_check_unlike" "_check_unlike" (defArgs s_check_unlike) (defBody s_check_unlike) (defScope s_check_unlike) .none kV10 dc10 pm10 an10 cd10 ct10), sl10⟩)
    (p10 : PySem.W.codeIn K cd10 "_check_unlike" = true)
    (k10 : PySem.W.keepIn K (.ref f10) = true)
    (a11 : PySem.W.nsIn K mainGlobals "_check_ports" = some (some (.ref f11)))
    (l11 : K.lookup f11 = some ⟨oc11, od11, .func (PySem.W.fnOf "_check_ports" "_check_ports" (defArgs s_check_ports) (defBody s_check_ports) (defScope s_check_ports) .none kV11 dc11 pm11 an11 cd11 ct11), sl11⟩)
    (p11 : PySem.W.codeIn K cd11 "_check_ports" = true)
    (k11 : PySem.W.keepIn K (.ref f11) = true)
    (a12 : PySem.W.nsIn K mainGlobals "_law_cell" = some (some (.ref f12)))
    (l12 : K.lookup f12 = some ⟨oc12, od12, .func (PySem.W.fnOf "_law_cell" "_law_cell" (defArgs s_cell) (defBody s_cell) (defScope s_cell) .none kV12 dc12 pm12 an12 cd12 ct12), sl12⟩)
    (p12 : PySem.W.codeIn K cd12 "_law_cell" = true)
    (k12 : PySem.W.keepIn K (.ref f12) = true)
    (a13 : PySem.W.nsIn K mainGlobals "_law_box" = some (some (.ref f13)))
    (l13 : K.lookup f13 = some ⟨oc13, od13, .func (PySem.W.fnOf "_law_box" "_law_box" (defArgs s_box) (defBody s_box) (defScope s_box) .none kV13 dc13 pm13 an13 cd13 ct13), sl13⟩)
    (p13 : PySem.W.codeIn K cd13 "_law_box" = true)
    (k13 : PySem.W.keepIn K (.ref f13) = true)
    (a14 : PySem.W.nsIn K mainGlobals "_law_take" = some (some (.ref f14)))
    (l14 : K.lookup f14 = some ⟨oc14, od14, .func (PySem.W.fnOf "_law_take" "_law_take" (defArgs s_take) (defBody s_take) (defScope s_take) .none kV14 dc14 pm14 an14 cd14 ct14), sl14⟩)
    (p14 : PySem.W.codeIn K cd14 "_law_take" = true)
    (k14 : PySem.W.keepIn K (.ref f14) = true)
    (a15 : PySem.W.nsIn K mainGlobals "_law_names" = some (some (.ref f15)))
    (l15 : K.lookup f15 = some ⟨oc15, od15, .func (PySem.W.fnOf "_law_names" "_law_names" (defArgs s_names) (defBody s_names) (defScope s_names) .none kV15 dc15 pm15 an15 cd15 ct15), sl15⟩)
    (p15 : PySem.W.codeIn K cd15 "_law_names" = true)
    (k15 : PySem.W.keepIn K (.ref f15) = true)
    (a16 : PySem.W.nsIn K mainGlobals "_law_number" = some (some (.ref f16)))
    (l16 : K.lookup f16 = some ⟨oc16, od16, .func (PySem.W.fnOf "_law_number" "_law_number" (defArgs s_number) (defBody s_number) (defScope s_number) .none kV16 dc16 pm16 an16 cd16 ct16), sl16⟩)
    (p16 : PySem.W.codeIn K cd16 "_law_number" = true)
    (k16 : PySem.W.keepIn K (.ref f16) = true)
    (a17 : PySem.W.nsIn K mainGlobals "_law_odd" = some (some (.ref f17)))
    (l17 : K.lookup f17 = some ⟨oc17, od17, .func (PySem.W.fnOf "_law_odd" "_law_odd" (defArgs s_odd) (defBody s_odd) (defScope s_odd) .none kV17 dc17 pm17 an17 cd17 ct17), sl17⟩)
    (p17 : PySem.W.codeIn K cd17 "_law_odd" = true)
    (k17 : PySem.W.keepIn K (.ref f17) = true)
    (a18 : PySem.W.nsIn K mainGlobals "_law_channel_row" = some (some (.ref f18)))
    (l18 : K.lookup f18 = some ⟨oc18, od18, .func (PySem.W.fnOf "_law_channel_row" "_law_channel_row" (defArgs s_channel_row) (defBody s_channel_row) (defScope s_channel_row) .none kV18 dc18 pm18 an18 cd18 ct18), sl18⟩)
    (p18 : PySem.W.codeIn K cd18 "_law_channel_row" = true)
    (k18 : PySem.W.keepIn K (.ref f18) = true)
    (a19 : PySem.W.nsIn K mainGlobals "_law_vessel_row" = some (some (.ref f19)))
    (l19 : K.lookup f19 = some ⟨oc19, od19, .func (PySem.W.fnOf "_law_vessel_row" "_law_vessel_row" (defArgs s_vessel_row) (defBody s_vessel_row) (defScope s_vessel_row) .none kV19 dc19 pm19 an19 cd19 ct19), sl19⟩)
    (p19 : PySem.W.codeIn K cd19 "_law_vessel_row" = true)
    (k19 : PySem.W.keepIn K (.ref f19) = true)
    (a20 : PySem.W.nsIn K mainGlobals "_law_vessel" = some (some (.ref f20)))
    (l20 : K.lookup f20 = some ⟨oc20, od20, .func (PySem.W.fnOf "_law_vessel" "_law_vessel" (defArgs s_vessel) (defBody s_vessel) (defScope s_vessel) .none kV20 dc20 pm20 an20 cd20 ct20), sl20⟩)
    (p20 : PySem.W.codeIn K cd20 "_law_vessel" = true)
    (k20 : PySem.W.keepIn K (.ref f20) = true)
    (a21 : PySem.W.nsIn K mainGlobals "_law_world_rows" = some (some (.ref f21)))
    (l21 : K.lookup f21 = some ⟨oc21, od21, .func (PySem.W.fnOf "_law_world_rows" "_law_world_rows" (defArgs s_world_rows) (defBody s_world_rows) (defScope s_world_rows) .none kV21 dc21 pm21 an21 cd21 ct21), sl21⟩)
    (p21 : PySem.W.codeIn K cd21 "_law_world_rows" = true)
    (k21 : PySem.W.keepIn K (.ref f21) = true)
    (a22 : PySem.W.nsIn K mainGlobals "_law_channel" = some (some (.ref f22)))
    (l22 : K.lookup f22 = some ⟨oc22, od22, .func (PySem.W.fnOf "_law_channel" "_law_channel" (defArgs s_channel) (defBody s_channel) (defScope s_channel) .none kV22 dc22 pm22 an22 cd22 ct22), sl22⟩)
    (p22 : PySem.W.codeIn K cd22 "_law_channel" = true)
    (k22 : PySem.W.keepIn K (.ref f22) = true)
    (a23 : PySem.W.nsIn K mainGlobals "_law_is_name" = some (some (.ref f23)))
    (l23 : K.lookup f23 = some ⟨oc23, od23, .func (PySem.W.fnOf "_law_is_name" "_law_is_name" (defArgs s_l_is_name) (defBody s_l_is_name) (defScope s_l_is_name) .none kV23 dc23 pm23 an23 cd23 ct23), sl23⟩)
    (p23 : PySem.W.codeIn K cd23 "_law_is_name" = true)
    (k23 : PySem.W.keepIn K (.ref f23) = true)
    (a24 : PySem.W.nsIn K mainGlobals "_law_of_kind" = some (some (.ref f24)))
    (l24 : K.lookup f24 = some ⟨oc24, od24, .func (PySem.W.fnOf "_law_of_kind" "_law_of_kind" (defArgs s_of_kind) (defBody s_of_kind) (defScope s_of_kind) .none kV24 dc24 pm24 an24 cd24 ct24), sl24⟩)
    (p24 : PySem.W.codeIn K cd24 "_law_of_kind" = true)
    (k24 : PySem.W.keepIn K (.ref f24) = true)
    (a25 : PySem.W.nsIn K mainGlobals "_law_doubled" = some (some (.ref f25)))
    (l25 : K.lookup f25 = some ⟨oc25, od25, .func (PySem.W.fnOf "_law_doubled" "_law_doubled" (defArgs s_doubled) (defBody s_doubled) (defScope s_doubled) .none kV25 dc25 pm25 an25 cd25 ct25), sl25⟩)
    (p25 : PySem.W.codeIn K cd25 "_law_doubled" = true)
    (k25 : PySem.W.keepIn K (.ref f25) = true)
    (a26 : PySem.W.nsIn K mainGlobals "_law_due" = some (some (.ref f26)))
    (l26 : K.lookup f26 = some ⟨oc26, od26, .func (PySem.W.fnOf "_law_due" "_law_due" (defArgs s_due) (defBody s_due) (defScope s_due) .none kV26 dc26 pm26 an26 cd26 ct26), sl26⟩)
    (p26 : PySem.W.codeIn K cd26 "_law_due" = true)
    (k26 : PySem.W.keepIn K (.ref f26) = true)
    (a27 : PySem.W.nsIn K mainGlobals "_law_found" = some (some (.ref f27)))
    (l27 : K.lookup f27 = some ⟨oc27, od27, .func (PySem.W.fnOf "_law_found" "_law_found" (defArgs s_found) (defBody s_found) (defScope s_found) .none kV27 dc27 pm27 an27 cd27 ct27), sl27⟩)
    (p27 : PySem.W.codeIn K cd27 "_law_found" = true)
    (k27 : PySem.W.keepIn K (.ref f27) = true)
    (a28 : PySem.W.nsIn K mainGlobals "_law_stranger" = some (some (.ref f28)))
    (l28 : K.lookup f28 = some ⟨oc28, od28, .func (PySem.W.fnOf "_law_stranger" "_law_stranger" (defArgs s_stranger) (defBody s_stranger) (defScope s_stranger) .none kV28 dc28 pm28 an28 cd28 ct28), sl28⟩)
    (p28 : PySem.W.codeIn K cd28 "_law_stranger" = true)
    (k28 : PySem.W.keepIn K (.ref f28) = true)
    (a29 : PySem.W.nsIn K mainGlobals "_law_spoilt" = some (some (.ref f29)))
    (l29 : K.lookup f29 = some ⟨oc29, od29, .func (PySem.W.fnOf "_law_spoilt" "_law_spoilt" (defArgs s_spoilt) (defBody s_spoilt) (defScope s_spoilt) .none kV29 dc29 pm29 an29 cd29 ct29), sl29⟩)
    (p29 : PySem.W.codeIn K cd29 "_law_spoilt" = true)
    (k29 : PySem.W.keepIn K (.ref f29) = true)
    (a30 : PySem.W.nsIn K mainGlobals "_law_made" = some (some (.ref f30)))
    (l30 : K.lookup f30 = some ⟨oc30, od30, .func (PySem.W.fnOf "_law_made" "_law_made" (defArgs s_made) (defBody s_made) (defScope s_made) .none kV30 dc30 pm30 an30 cd30 ct30), sl30⟩)
    (p30 : PySem.W.codeIn K cd30 "_law_made" = true)
    (k30 : PySem.W.keepIn K (.ref f30) = true)
    (a31 : PySem.W.nsIn K mainGlobals "_law_same" = some (some (.ref f31)))
    (l31 : K.lookup f31 = some ⟨oc31, od31, .func (PySem.W.fnOf "_law_same" "_law_same" (defArgs s_same) (defBody s_same) (defScope s_same) .none kV31 dc31 pm31 an31 cd31 ct31), sl31⟩)
    (p31 : PySem.W.codeIn K cd31 "_law_same" = true)
    (k31 : PySem.W.keepIn K (.ref f31) = true)
    (a32 : PySem.W.nsIn K mainGlobals "law" = some (some (.ref f32)))
    (l32 : K.lookup f32 = some ⟨oc32, od32, .func (PySem.W.fnOf "law" "law" (defArgs s_law) (defBody s_law) (defScope s_law) .none kV32 dc32 pm32 an32 cd32 ct32), sl32⟩)
    (p32 : PySem.W.codeIn K cd32 "law" = true)
    (k32 : PySem.W.keepIn K (.ref f32) = true)
    (l33 : K.lookup f33 = some ⟨oc33, od33, .func (PySem.W.fnOf "__init__" "NoName.__init__" (defArgs s_NoName___init__) (defBody s_NoName___init__) (defScope s_NoName___init__) .none kV33 dc33 pm33 an33 cd33 ct33), sl33⟩)
    (p33 : PySem.W.codeIn K cd33 "NoName.__init__" = true)
    (k33 : PySem.W.keepIn K (.ref f33) = true)
    (l34 : K.lookup f34 = some ⟨oc34, od34, .func (PySem.W.fnOf "__init__" "NoNumber.__init__" (defArgs s_NoNumber___init__) (defBody s_NoNumber___init__) (defScope s_NoNumber___init__) .none kV34 dc34 pm34 an34 cd34 ct34), sl34⟩)
    (p34 : PySem.W.codeIn K cd34 "NoNumber.__init__" = true)
    (k34 : PySem.W.keepIn K (.ref f34) = true)
    (l35 : K.lookup f35 = some ⟨oc35, od35, .func (PySem.W.fnOf "__init__" "Doubled.__init__" (defArgs s_Doubled___init__) (defBody s_Doubled___init__) (defScope s_Doubled___init__) .none kV35 dc35 pm35 an35 cd35 ct35), sl35⟩)
    (p35 : PySem.W.codeIn K cd35 "Doubled.__init__" = true)
    (k35 : PySem.W.keepIn K (.ref f35) = true)
    (l36 : K.lookup f36 = some ⟨oc36, od36, .func (PySem.W.fnOf "__init__" "NoPort.__init__" (defArgs s_NoPort___init__) (defBody s_NoPort___init__) (defScope s_NoPort___init__) .none kV36 dc36 pm36 an36 cd36 ct36), sl36⟩)
    (p36 : PySem.W.codeIn K cd36 "NoPort.__init__" = true)
    (k36 : PySem.W.keepIn K (.ref f36) = true)
    (l37 : K.lookup f37 = some ⟨oc37, od37, .func (PySem.W.fnOf "__init__" "NoChannel.__init__" (defArgs s_NoChannel___init__) (defBody s_NoChannel___init__) (defScope s_NoChannel___init__) .none kV37 dc37 pm37 an37 cd37 ct37), sl37⟩)
    (p37 : PySem.W.codeIn K cd37 "NoChannel.__init__" = true)
    (k37 : PySem.W.keepIn K (.ref f37) = true)
    (l38 : K.lookup f38 = some ⟨oc38, od38, .func (PySem.W.fnOf "__init__" "NoVessel.__init__" (defArgs s_NoVessel___init__) (defBody s_NoVessel___init__) (defScope s_NoVessel___init__) .none kV38 dc38 pm38 an38 cd38 ct38), sl38⟩)
    (p38 : PySem.W.codeIn K cd38 "NoVessel.__init__" = true)
    (k38 : PySem.W.keepIn K (.ref f38) = true)
    (l39 : K.lookup f39 = some ⟨oc39, od39, .func (PySem.W.fnOf "__init__" "NoKind.__init__" (defArgs s_NoKind___init__) (defBody s_NoKind___init__) (defScope s_NoKind___init__) .none kV39 dc39 pm39 an39 cd39 ct39), sl39⟩)
    (p39 : PySem.W.codeIn K cd39 "NoKind.__init__" = true)
    (k39 : PySem.W.keepIn K (.ref f39) = true)
    (l40 : K.lookup f40 = some ⟨oc40, od40, .func (PySem.W.fnOf "__init__" "NoWorld.__init__" (defArgs s_NoWorld___init__) (defBody s_NoWorld___init__) (defScope s_NoWorld___init__) .none kV40 dc40 pm40 an40 cd40 ct40), sl40⟩)
    (p40 : PySem.W.codeIn K cd40 "NoWorld.__init__" = true)
    (k40 : PySem.W.keepIn K (.ref f40) = true)
    (l41 : K.lookup f41 = some ⟨oc41, od41, .func (PySem.W.fnOf "__init__" "Channel.__init__" (defArgs s_Channel___init__) (defBody s_Channel___init__) (defScope s_Channel___init__) .none kV41 dc41 pm41 an41 cd41 ct41), sl41⟩)
    (p41 : PySem.W.codeIn K cd41 "Channel.__init__" = true)
    (k41 : PySem.W.keepIn K (.ref f41) = true)
    (l42 : K.lookup f42 = some ⟨oc42, od42, .func (PySem.W.fnOf "__init__" "Vessel.__init__" (defArgs s_Vessel___init__) (defBody s_Vessel___init__) (defScope s_Vessel___init__) .none kV42 dc42 pm42 an42 cd42 ct42), sl42⟩)
    (p42 : PySem.W.codeIn K cd42 "Vessel.__init__" = true)
    (k42 : PySem.W.keepIn K (.ref f42) = true)
    (l43 : K.lookup f43 = some ⟨oc43, od43, .func (PySem.W.fnOf "kind" "Vessel.kind" (defArgs s_Vessel_kind) (defBody s_Vessel_kind) (defScope s_Vessel_kind) .none kV43 dc43 pm43 an43 cd43 ct43), sl43⟩)
    (p43 : PySem.W.codeIn K cd43 "Vessel.kind" = true)
    (k43 : PySem.W.keepIn K (.ref f43) = true)
    (l44 : K.lookup f44 = some ⟨oc44, od44, .func (PySem.W.fnOf "thins" "Vessel.thins" (defArgs s_Vessel_thins) (defBody s_Vessel_thins) (defScope s_Vessel_thins) .none kV44 dc44 pm44 an44 cd44 ct44), sl44⟩)
    (p44 : PySem.W.codeIn K cd44 "Vessel.thins" = true)
    (k44 : PySem.W.keepIn K (.ref f44) = true)
    (l45 : K.lookup f45 = some ⟨oc45, od45, .func (PySem.W.fnOf "__init__" "Breaker.__init__" (defArgs s_Breaker___init__) (defBody s_Breaker___init__) (defScope s_Breaker___init__) .none kV45 dc45 pm45 an45 cd45 ct45), sl45⟩)
    (p45 : PySem.W.codeIn K cd45 "Breaker.__init__" = true)
    (k45 : PySem.W.keepIn K (.ref f45) = true)
    (l46 : K.lookup f46 = some ⟨oc46, od46, .func (PySem.W.fnOf "kind" "Breaker.kind" (defArgs s_Breaker_kind) (defBody s_Breaker_kind) (defScope s_Breaker_kind) .none kV46 dc46 pm46 an46 cd46 ct46), sl46⟩)
    (p46 : PySem.W.codeIn K cd46 "Breaker.kind" = true)
    (k46 : PySem.W.keepIn K (.ref f46) = true)
    (l47 : K.lookup f47 = some ⟨oc47, od47, .func (PySem.W.fnOf "thins" "Breaker.thins" (defArgs s_Breaker_thins) (defBody s_Breaker_thins) (defScope s_Breaker_thins) .none kV47 dc47 pm47 an47 cd47 ct47), sl47⟩)
    (p47 : PySem.W.codeIn K cd47 "Breaker.thins" = true)
    (k47 : PySem.W.keepIn K (.ref f47) = true)
    (l48 : K.lookup f48 = some ⟨oc48, od48, .func (PySem.W.fnOf "__init__" "Ship.__init__" (defArgs s_Ship___init__) (defBody s_Ship___init__) (defScope s_Ship___init__) .none kV48 dc48 pm48 an48 cd48 ct48), sl48⟩)
    (p48 : PySem.W.codeIn K cd48 "Ship.__init__" = true)
    (k48 : PySem.W.keepIn K (.ref f48) = true)
    (l49 : K.lookup f49 = some ⟨oc49, od49, .func (PySem.W.fnOf "kind" "Ship.kind" (defArgs s_Ship_kind) (defBody s_Ship_kind) (defScope s_Ship_kind) .none kV49 dc49 pm49 an49 cd49 ct49), sl49⟩)
    (p49 : PySem.W.codeIn K cd49 "Ship.kind" = true)
    (k49 : PySem.W.keepIn K (.ref f49) = true)
    (l50 : K.lookup f50 = some ⟨oc50, od50, .func (PySem.W.fnOf "__init__" "Train.__init__" (defArgs s_Train___init__) (defBody s_Train___init__) (defScope s_Train___init__) .none kV50 dc50 pm50 an50 cd50 ct50), sl50⟩)
    (p50 : PySem.W.codeIn K cd50 "Train.__init__" = true)
    (k50 : PySem.W.keepIn K (.ref f50) = true)
    (l51 : K.lookup f51 = some ⟨oc51, od51, .func (PySem.W.fnOf "kind" "Train.kind" (defArgs s_Train_kind) (defBody s_Train_kind) (defScope s_Train_kind) .none kV51 dc51 pm51 an51 cd51 ct51), sl51⟩)
    (p51 : PySem.W.codeIn K cd51 "Train.kind" = true)
    (k51 : PySem.W.keepIn K (.ref f51) = true)
    (l52 : K.lookup f52 = some ⟨oc52, od52, .func (PySem.W.fnOf "thins" "Train.thins" (defArgs s_Train_thins) (defBody s_Train_thins) (defScope s_Train_thins) .none kV52 dc52 pm52 an52 cd52 ct52), sl52⟩)
    (p52 : PySem.W.codeIn K cd52 "Train.thins" = true)
    (k52 : PySem.W.keepIn K (.ref f52) = true)
    (l53 : K.lookup f53 = some ⟨oc53, od53, .func (PySem.W.fnOf "names" "Train.names" (defArgs s_Train_names) (defBody s_Train_names) (defScope s_Train_names) .none kV53 dc53 pm53 an53 cd53 ct53), sl53⟩)
    (p53 : PySem.W.codeIn K cd53 "Train.names" = true)
    (k53 : PySem.W.keepIn K (.ref f53) = true)
    (l54 : K.lookup f54 = some ⟨oc54, od54, .func (PySem.W.fnOf "__init__" "World.__init__" (defArgs s_World___init__) (defBody s_World___init__) (defScope s_World___init__) .none kV54 dc54 pm54 an54 cd54 ct54), sl54⟩)
    (p54 : PySem.W.codeIn K cd54 "World.__init__" = true)
    (k54 : PySem.W.keepIn K (.ref f54) = true)
    (l55 : K.lookup f55 = some ⟨oc55, od55, .func (PySem.W.fnOf "ports" "World.ports" (defArgs s_World_ports) (defBody s_World_ports) (defScope s_World_ports) .none kV55 dc55 pm55 an55 cd55 ct55), sl55⟩)
    (p55 : PySem.W.codeIn K cd55 "World.ports" = true)
    (k55 : PySem.W.keepIn K (.ref f55) = true)
    (l56 : K.lookup f56 = some ⟨oc56, od56, .func (PySem.W.fnOf "channels" "World.channels" (defArgs s_World_channels) (defBody s_World_channels) (defScope s_World_channels) .none kV56 dc56 pm56 an56 cd56 ct56), sl56⟩)
    (p56 : PySem.W.codeIn K cd56 "World.channels" = true)
    (k56 : PySem.W.keepIn K (.ref f56) = true)
    (l57 : K.lookup f57 = some ⟨oc57, od57, .func (PySem.W.fnOf "breakers" "World.breakers" (defArgs s_World_breakers) (defBody s_World_breakers) (defScope s_World_breakers) .none kV57 dc57 pm57 an57 cd57 ct57), sl57⟩)
    (p57 : PySem.W.codeIn K cd57 "World.breakers" = true)
    (k57 : PySem.W.keepIn K (.ref f57) = true)
    (l58 : K.lookup f58 = some ⟨oc58, od58, .func (PySem.W.fnOf "ships" "World.ships" (defArgs s_World_ships) (defBody s_World_ships) (defScope s_World_ships) .none kV58 dc58 pm58 an58 cd58 ct58), sl58⟩)
    (p58 : PySem.W.codeIn K cd58 "World.ships" = true)
    (k58 : PySem.W.keepIn K (.ref f58) = true)
    (l59 : K.lookup f59 = some ⟨oc59, od59, .func (PySem.W.fnOf "vessels" "World.vessels" (defArgs s_World_vessels) (defBody s_World_vessels) (defScope s_World_vessels) .none kV59 dc59 pm59 an59 cd59 ct59), sl59⟩)
    (p59 : PySem.W.codeIn K cd59 "World.vessels" = true)
    (k59 : PySem.W.keepIn K (.ref f59) = true)
    (l60 : K.lookup f60 = some ⟨oc60, od60, .func (PySem.W.fnOf "channel" "World.channel" (defArgs s_World_channel) (defBody s_World_channel) (defScope s_World_channel) .none kV60 dc60 pm60 an60 cd60 ct60), sl60⟩)
    (p60 : PySem.W.codeIn K cd60 "World.channel" = true)
    (k60 : PySem.W.keepIn K (.ref f60) = true)
    (l61 : K.lookup f61 = some ⟨oc61, od61, .func (PySem.W.fnOf "vessel" "World.vessel" (defArgs s_World_vessel) (defBody s_World_vessel) (defScope s_World_vessel) .none kV61 dc61 pm61 an61 cd61 ct61), sl61⟩)
    (p61 : PySem.W.codeIn K cd61 "World.vessel" = true)
    (k61 : PySem.W.keepIn K (.ref f61) = true)
    (c_NAME_MOST : PySem.W.nsIn K mainGlobals "NAME_MOST" = some (some (.int 8 t_NAME_MOST)))
    (c_HOURS_MOST : PySem.W.nsIn K mainGlobals "HOURS_MOST" = some (some (.int 1000 t_HOURS_MOST)))
    (c_DEPTH_MOST : PySem.W.nsIn K mainGlobals "DEPTH_MOST" = some (some (.int 1000 t_DEPTH_MOST)))
    (c_GROWTH_MOST : PySem.W.nsIn K mainGlobals "GROWTH_MOST" = some (some (.int 1000 t_GROWTH_MOST)))
    (c_THICK_MOST : PySem.W.nsIn K mainGlobals "THICK_MOST" = some (some (.int 1000000 t_THICK_MOST)))
    (c_HOUR_MOST : PySem.W.nsIn K mainGlobals "HOUR_MOST" = some (some (.int 1000000 t_HOUR_MOST)))
    (c_STRENGTH_MOST : PySem.W.nsIn K mainGlobals "STRENGTH_MOST" = some (some (.int 1000000 t_STRENGTH_MOST)))
    (c_CUT_MOST : PySem.W.nsIn K mainGlobals "CUT_MOST" = some (some (.int 1000000 t_CUT_MOST)))
    (c_TRAIN_MOST : PySem.W.nsIn K mainGlobals "TRAIN_MOST" = some (some (.int 6 t_TRAIN_MOST)))
    (c_BEGIN_MOST : PySem.W.nsIn K mainGlobals "BEGIN_MOST" = some (some (.int 1000000 t_BEGIN_MOST)))
    (c_PORTS_MOST : PySem.W.nsIn K mainGlobals "PORTS_MOST" = some (some (.int 8 t_PORTS_MOST)))
    (c_CHANNELS_MOST : PySem.W.nsIn K mainGlobals "CHANNELS_MOST" = some (some (.int 12 t_CHANNELS_MOST)))
    (c_BREAKERS_MOST : PySem.W.nsIn K mainGlobals "BREAKERS_MOST" = some (some (.int 4 t_BREAKERS_MOST)))
    (c_SHIPS_MOST : PySem.W.nsIn K mainGlobals "SHIPS_MOST" = some (some (.int 6 t_SHIPS_MOST)))
    (n_isinstance : PySem.W.nsIn K mainGlobals "isinstance" = some none)
    (n_int : PySem.W.nsIn K mainGlobals "int" = some none)
    (n_bool : PySem.W.nsIn K mainGlobals "bool" = some none)
    (n_str : PySem.W.nsIn K mainGlobals "str" = some none)
    (n_len : PySem.W.nsIn K mainGlobals "len" = some none)
    (n_list : PySem.W.nsIn K mainGlobals "list" = some none)
    (n_tuple : PySem.W.nsIn K mainGlobals "tuple" = some none)
    (n_min : PySem.W.nsIn K mainGlobals "min" = some none)
    (n_all : PySem.W.nsIn K mainGlobals "all" = some none)
    (n_max : PySem.W.nsIn K mainGlobals "max" = some none)
    (n_range : PySem.W.nsIn K mainGlobals "range" = some none)
    (n_enumerate : PySem.W.nsIn K mainGlobals "enumerate" = some none)
    (n_sum : PySem.W.nsIn K mainGlobals "sum" = some none)
    : ∃ fd : FuncData, (∀ (s : Shared) (v : Value), BindsTo s fd ⟨[v], []⟩ [("_law_script", v)]) ∧ ∀ base : Heap, K.In base → base.Ns mainGlobals mg → FnG l.prog w K mg base CX0 9 fa fd ["_law_script"] (spLaw K) := by
  cases hfa.symm.trans (PySem.W.mg_of X G a32)
  have F0 := fun_mk (st := s_is_whole) l0 p0 k0
  have b0 := F0.binds (ps := ["thing"]) fun _ _ _ _ _ _ us hl => match us, hl with | [_], _ => rfl
  have F1 := fun_mk (st := s_is_within) l1 p1 k1
  have b1 := F1.binds (ps := ["thing", "low", "high"]) fun _ _ _ _ _ _ us hl => match us, hl with | [_, _, _], _ => rfl
  have F2 := fun_mk (st := s_is_name) l2 p2 k2
  have b2 := F2.binds (ps := ["thing"]) fun _ _ _ _ _ _ us hl => match us, hl with | [_], _ => rfl
  have F3 := fun_mk (st := s_all_between) l3 p3 k3
  have b3 := F3.binds (ps := ["text", "low", "high"]) fun _ _ _ _ _ _ us hl => match us, hl with | [_, _, _], _ => rfl
  have F4 := fun_mk (st := s_check_number) l4 p4 k4
  have b4 := F4.binds (ps := ["thing", "low", "high"]) fun _ _ _ _ _ _ us hl => match us, hl with | [_, _, _], _ => rfl
  have F5 := fun_mk (st := s_check_names) l5 p5 k5
  have b5 := F5.binds (ps := ["things"]) fun _ _ _ _ _ _ us hl => match us, hl with | [_], _ => rfl
  have F6 := fun_mk (st := s_can_be_train) l6 p6 k6
  have b6 := F6.binds (ps := ["thing"]) fun _ _ _ _ _ _ us hl => match us, hl with | [_], _ => rfl
  have F7 := fun_mk (st := s_strength_together) l7 p7 k7
  have b7 := F7.binds (ps := ["vessels"]) fun _ _ _ _ _ _ us hl => match us, hl with | [_], _ => rfl
  have F8 := fun_mk (st := s_check_kinds) l8 p8 k8
  have b8 := F8.binds (ps := ["ports", "channels", "breakers", "ships"]) fun _ _ _ _ _ _ us hl => match us, hl with | [_, _, _, _], _ => rfl
  have F9 := fun_mk (st := s_holds_at_most) l9 p9 k9
  have b9 := F9.binds (ps := ["thing", "many"]) fun _ _ _ _ _ _ us hl => match us, hl with | [_, _], _ => rfl
  have F10 := fun_mk (st := s_check_unlike) l10 p10 k10
  have b10 := F10.binds (ps := ["names"]) fun _ _ _ _ _ _ us hl => match us, hl with | [_], _ => rfl
  have F11 := fun_mk (st := s_check_ports) l11 p11 k11
  have b11 := F11.binds (ps := ["ports", "channels", "breakers", "ships"]) fun _ _ _ _ _ _ us hl => match us, hl with | [_, _, _, _], _ => rfl
  have F12 := fun_mk (st := s_cell) l12 p12 k12
  have b12 := F12.binds (ps := ["_law_script", "_law_k"]) fun _ _ _ _ _ _ us hl => match us, hl with | [_, _], _ => rfl
  have F13 := fun_mk (st := s_box) l13 p13 k13
  have b13 := F13.binds (ps := ["_law_cell_here"]) fun _ _ _ _ _ _ us hl => match us, hl with | [_], _ => rfl
  have F14 := fun_mk (st := s_take) l14 p14 k14
  have b14 := F14.binds (ps := ["_law_box_here", "_law_many"]) fun _ _ _ _ _ _ us hl => match us, hl with | [_, _], _ => rfl
  have F15 := fun_mk (st := s_names) l15 p15 k15
  have b15 := F15.binds (ps := ["_law_box_here", "_law_many"]) fun _ _ _ _ _ _ us hl => match us, hl with | [_, _], _ => rfl
  have F16 := fun_mk (st := s_number) l16 p16 k16
  have b16 := F16.binds (ps := ["_law_box_here", "_law_low", "_law_high"]) fun _ _ _ _ _ _ us hl => match us, hl with | [_, _, _], _ => rfl
  have F17 := fun_mk (st := s_odd) l17 p17 k17
  have b17 := F17.binds (ps := ["_law_box_here"]) fun _ _ _ _ _ _ us hl => match us, hl with | [_], _ => rfl
  have F18 := fun_mk (st := s_channel_row) l18 p18 k18
  have b18 := F18.binds (ps := ["_law_box_here", "_law_name", "_law_one", "_law_other"]) fun _ _ _ _ _ _ us hl => match us, hl with | [_, _, _, _], _ => rfl
  have F19 := fun_mk (st := s_vessel_row) l19 p19 k19
  have b19 := F19.binds (ps := ["_law_box_here", "_law_kind", "_law_name", "_law_ports"]) fun _ _ _ _ _ _ us hl => match us, hl with | [_, _, _, _], _ => rfl
  have F20 := fun_mk (st := s_vessel) l20 p20 k20
  have b20 := F20.binds (ps := ["_law_kind", "_law_row"]) fun _ _ _ _ _ _ us hl => match us, hl with | [_, _], _ => rfl
  have F21 := fun_mk (st := s_world_rows) l21 p21 k21
  have b21 := F21.binds (ps := ["_law_box_here"]) fun _ _ _ _ _ _ us hl => match us, hl with | [_], _ => rfl
  have F22 := fun_mk (st := s_channel) l22 p22 k22
  have b22 := F22.binds (ps := ["_law_row"]) fun _ _ _ _ _ _ us hl => match us, hl with | [_], _ => rfl
  have F23 := fun_mk (st := s_l_is_name) l23 p23 k23
  have b23 := F23.binds (ps := ["_law_thing"]) fun _ _ _ _ _ _ us hl => match us, hl with | [_], _ => rfl
  have F24 := fun_mk (st := s_of_kind) l24 p24 k24
  have b24 := F24.binds (ps := ["_law_word", "_law_thing"]) fun _ _ _ _ _ _ us hl => match us, hl with | [_, _], _ => rfl
  have F25 := fun_mk (st := s_doubled) l25 p25 k25
  have b25 := F25.binds (ps := ["_law_names_here"]) fun _ _ _ _ _ _ us hl => match us, hl with | [_], _ => rfl
  have F26 := fun_mk (st := s_due) l26 p26 k26
  have b26 := F26.binds (ps := ["_law_things"]) fun _ _ _ _ _ _ us hl => match us, hl with | [_], _ => rfl
  have F27 := fun_mk (st := s_found) l27 p27 k27
  have b27 := F27.binds (ps := ["_law_things"]) fun _ _ _ _ _ _ us hl => match us, hl with | [_], _ => rfl
  have F28 := fun_mk (st := s_stranger) l28 p28 k28
  have b28 := F28.binds (ps := ["_law_box_here", "_law_word", "_law_ports"]) fun _ _ _ _ _ _ us hl => match us, hl with | [_, _, _], _ => rfl
  have F29 := fun_mk (st := s_spoilt) l29 p29 k29
  have b29 := F29.binds (ps := ["_law_box_here", "_law_things"]) fun _ _ _ _ _ _ us hl => match us, hl with | [_, _], _ => rfl
  have F30 := fun_mk (st := s_made) l30 p30 k30
  have b30 := F30.binds (ps := ["_law_rows"]) fun _ _ _ _ _ _ us hl => match us, hl with | [_], _ => rfl
  have F31 := fun_mk (st := s_same) l31 p31 k31
  have b31 := F31.binds (ps := ["_law_found_here", "_law_due_here"]) fun _ _ _ _ _ _ us hl => match us, hl with | [_, _], _ => rfl
  have F32 := fun_mk (st := s_law) l32 p32 k32
  have b32 := F32.binds (ps := ["_law_script"]) fun _ _ _ _ _ _ us hl => match us, hl with | [_], _ => rfl
  have F33 := fun_mk (st := s_NoName___init__) l33 p33 k33
  have b33 := F33.binds (ps := ["self", "found"]) fun _ _ _ _ _ _ us hl => match us, hl with | [_, _], _ => rfl
  have F34 := fun_mk (st := s_NoNumber___init__) l34 p34 k34
  have b34 := F34.binds (ps := ["self", "found"]) fun _ _ _ _ _ _ us hl => match us, hl with | [_, _], _ => rfl
  have F35 := fun_mk (st := s_Doubled___init__) l35 p35 k35
  have b35 := F35.binds (ps := ["self", "name"]) fun _ _ _ _ _ _ us hl => match us, hl with | [_, _], _ => rfl
  have F36 := fun_mk (st := s_NoPort___init__) l36 p36 k36
  have b36 := F36.binds (ps := ["self", "found"]) fun _ _ _ _ _ _ us hl => match us, hl with | [_, _], _ => rfl
  have F37 := fun_mk (st := s_NoChannel___init__) l37 p37 k37
  have b37 := F37.binds (ps := ["self", "found"]) fun _ _ _ _ _ _ us hl => match us, hl with | [_, _], _ => rfl
  have F38 := fun_mk (st := s_NoVessel___init__) l38 p38 k38
  have b38 := F38.binds (ps := ["self", "found"]) fun _ _ _ _ _ _ us hl => match us, hl with | [_, _], _ => rfl
  have F39 := fun_mk (st := s_NoKind___init__) l39 p39 k39
  have b39 := F39.binds (ps := ["self", "found"]) fun _ _ _ _ _ _ us hl => match us, hl with | [_, _], _ => rfl
  have F40 := fun_mk (st := s_NoWorld___init__) l40 p40 k40
  have b40 := F40.binds (ps := ["self", "found"]) fun _ _ _ _ _ _ us hl => match us, hl with | [_, _], _ => rfl
  have F41 := fun_mk (st := s_Channel___init__) l41 p41 k41
  have b41 := F41.binds (ps := ["self", "name", "one", "other", "hours", "depth", "first", "growth", "most"]) fun _ _ _ _ _ _ us hl => match us, hl with | [_, _, _, _, _, _, _, _, _], _ => rfl
  have F42 := fun_mk (st := s_Vessel___init__) l42 p42 k42
  have b42 := F42.binds (ps := ["self", "name", "port", "hour", "strength", "draught"]) fun _ _ _ _ _ _ us hl => match us, hl with | [_, _, _, _, _, _], _ => rfl
  have F43 := fun_mk (st := s_Vessel_kind) l43 p43 k43
  have b43 := F43.binds (ps := ["self"]) fun _ _ _ _ _ _ us hl => match us, hl with | [_], _ => rfl
  have F44 := fun_mk (st := s_Vessel_thins) l44 p44 k44
  have b44 := F44.binds (ps := ["self"]) fun _ _ _ _ _ _ us hl => match us, hl with | [_], _ => rfl
  have F45 := fun_mk (st := s_Breaker___init__) l45 p45 k45
  have b45 := F45.binds (ps := ["self", "name", "port", "hour", "strength", "draught", "cut"]) fun _ _ _ _ _ _ us hl => match us, hl with | [_, _, _, _, _, _, _], _ => rfl
  have F46 := fun_mk (st := s_Breaker_kind) l46 p46 k46
  have b46 := F46.binds (ps := ["self"]) fun _ _ _ _ _ _ us hl => match us, hl with | [_], _ => rfl
  have F47 := fun_mk (st := s_Breaker_thins) l47 p47 k47
  have b47 := F47.binds (ps := ["self"]) fun _ _ _ _ _ _ us hl => match us, hl with | [_], _ => rfl
  have F48 := fun_mk (st := s_Ship___init__) l48 p48 k48
  have b48 := F48.binds (ps := ["self", "name", "port", "goal", "hour", "strength", "draught"]) fun _ _ _ _ _ _ us hl => match us, hl with | [_, _, _, _, _, _, _], _ => rfl
  have F49 := fun_mk (st := s_Ship_kind) l49 p49 k49
  have b49 := F49.binds (ps := ["self"]) fun _ _ _ _ _ _ us hl => match us, hl with | [_], _ => rfl
  have F50 := fun_mk (st := s_Train___init__) l50 p50 k50
  have b50 := F50.binds (ps := ["self", "vessels"]) fun _ _ _ _ _ _ us hl => match us, hl with | [_, _], _ => rfl
  have F51 := fun_mk (st := s_Train_kind) l51 p51 k51
  have b51 := F51.binds (ps := ["self"]) fun _ _ _ _ _ _ us hl => match us, hl with | [_], _ => rfl
  have F52 := fun_mk (st := s_Train_thins) l52 p52 k52
  have b52 := F52.binds (ps := ["self"]) fun _ _ _ _ _ _ us hl => match us, hl with | [_], _ => rfl
  have F53 := fun_mk (st := s_Train_names) l53 p53 k53
  have b53 := F53.binds (ps := ["self"]) fun _ _ _ _ _ _ us hl => match us, hl with | [_], _ => rfl
  have F54 := fun_mk (st := s_World___init__) l54 p54 k54
  have b54 := F54.binds (ps := ["self", "begin", "ports", "channels", "breakers", "ships"]) fun _ _ _ _ _ _ us hl => match us, hl with | [_, _, _, _, _, _], _ => rfl
  have F55 := fun_mk (st := s_World_ports) l55 p55 k55
  have b55 := F55.binds (ps := ["self"]) fun _ _ _ _ _ _ us hl => match us, hl with | [_], _ => rfl
  have F56 := fun_mk (st := s_World_channels) l56 p56 k56
  have b56 := F56.binds (ps := ["self"]) fun _ _ _ _ _ _ us hl => match us, hl with | [_], _ => rfl
  have F57 := fun_mk (st := s_World_breakers) l57 p57 k57
  have b57 := F57.binds (ps := ["self"]) fun _ _ _ _ _ _ us hl => match us, hl with | [_], _ => rfl
  have F58 := fun_mk (st := s_World_ships) l58 p58 k58
  have b58 := F58.binds (ps := ["self"]) fun _ _ _ _ _ _ us hl => match us, hl with | [_], _ => rfl
  have F59 := fun_mk (st := s_World_vessels) l59 p59 k59
  have b59 := F59.binds (ps := ["self"]) fun _ _ _ _ _ _ us hl => match us, hl with | [_], _ => rfl
  have F60 := fun_mk (st := s_World_channel) l60 p60 k60
  have b60 := F60.binds (ps := ["self", "name"]) fun _ _ _ _ _ _ us hl => match us, hl with | [_, _], _ => rfl
  have F61 := fun_mk (st := s_World_vessel) l61 p61 k61
  have b61 := F61.binds (ps := ["self", "name"]) fun _ _ _ _ _ _ us hl => match us, hl with | [_, _], _ => rfl
  let T : Top K mg := { a_IceError := C_IceError, c_IceError := PySem.W.mg_of X G g_IceError, sp_IceError := sp_IceError, ty_IceError := ty_IceError, rd_IceError := rd_IceError, fc_IceError := fc_IceError, a_NoName := C_NoName, c_NoName := PySem.W.mg_of X G g_NoName, ox_NoName := ⟨⟨nm_NoName, q_NoName, N_NoName, bs_NoName, bm_NoName, sn_NoName, su_NoName, ab_NoName, co_NoName, dd_NoName, m0_NoName, m1_NoName, m2_NoName, m3_NoName, m5_NoName, xl_NoName, hb_NoName⟩, sa_NoName, ec_NoName, tc_NoName, kc_NoName⟩, xf_NoName := ⟨ga_NoName, gg_NoName, ec_NoName, hd_NoName⟩, in_NoName := in_NoName, tf_NoName := tf_NoName, nf_NoName_found := nf_NoName_found, a_NoNumber := C_NoNumber, c_NoNumber := PySem.W.mg_of X G g_NoNumber, ox_NoNumber := ⟨⟨nm_NoNumber, q_NoNumber, N_NoNumber, bs_NoNumber, bm_NoNumber, sn_NoNumber, su_NoNumber, ab_NoNumber, co_NoNumber, dd_NoNumber, m0_NoNumber, m1_NoNumber, m2_NoNumber, m3_NoNumber, m5_NoNumber, xl_NoNumber, hb_NoNumber⟩, sa_NoNumber, ec_NoNumber, tc_NoNumber, kc_NoNumber⟩, xf_NoNumber := ⟨ga_NoNumber, gg_NoNumber, ec_NoNumber, hd_NoNumber⟩, in_NoNumber := in_NoNumber, tf_NoNumber := tf_NoNumber, nf_NoNumber_found := nf_NoNumber_found, a_Doubled := C_Doubled, c_Doubled := PySem.W.mg_of X G g_Doubled, ox_Doubled := ⟨⟨nm_Doubled, q_Doubled, N_Doubled, bs_Doubled, bm_Doubled, sn_Doubled, su_Doubled, ab_Doubled, co_Doubled, dd_Doubled, m0_Doubled, m1_Doubled, m2_Doubled, m3_Doubled, m5_Doubled, xl_Doubled, hb_Doubled⟩, sa_Doubled, ec_Doubled, tc_Doubled, kc_Doubled⟩, xf_Doubled := ⟨ga_Doubled, gg_Doubled, ec_Doubled, hd_Doubled⟩, in_Doubled := in_Doubled, tf_Doubled := tf_Doubled, nf_Doubled_name := nf_Doubled_name, a_NoPort := C_NoPort, c_NoPort := PySem.W.mg_of X G g_NoPort, ox_NoPort := ⟨⟨nm_NoPort, q_NoPort, N_NoPort, bs_NoPort, bm_NoPort, sn_NoPort, su_NoPort, ab_NoPort, co_NoPort, dd_NoPort, m0_NoPort, m1_NoPort, m2_NoPort, m3_NoPort, m5_NoPort, xl_NoPort, hb_NoPort⟩, sa_NoPort, ec_NoPort, tc_NoPort, kc_NoPort⟩, xf_NoPort := ⟨ga_NoPort, gg_NoPort, ec_NoPort, hd_NoPort⟩, in_NoPort := in_NoPort, tf_NoPort := tf_NoPort, nf_NoPort_found := nf_NoPort_found, a_NoChannel := C_NoChannel, c_NoChannel := PySem.W.mg_of X G g_NoChannel, ox_NoChannel := ⟨⟨nm_NoChannel, q_NoChannel, N_NoChannel, bs_NoChannel, bm_NoChannel, sn_NoChannel, su_NoChannel, ab_NoChannel, co_NoChannel, dd_NoChannel, m0_NoChannel, m1_NoChannel, m2_NoChannel, m3_NoChannel, m5_NoChannel, xl_NoChannel, hb_NoChannel⟩, sa_NoChannel, ec_NoChannel, tc_NoChannel, kc_NoChannel⟩, xf_NoChannel := ⟨ga_NoChannel, gg_NoChannel, ec_NoChannel, hd_NoChannel⟩, in_NoChannel := in_NoChannel, tf_NoChannel := tf_NoChannel, nf_NoChannel_found := nf_NoChannel_found, a_NoVessel := C_NoVessel, c_NoVessel := PySem.W.mg_of X G g_NoVessel, ox_NoVessel := ⟨⟨nm_NoVessel, q_NoVessel, N_NoVessel, bs_NoVessel, bm_NoVessel, sn_NoVessel, su_NoVessel, ab_NoVessel, co_NoVessel, dd_NoVessel, m0_NoVessel, m1_NoVessel, m2_NoVessel, m3_NoVessel, m5_NoVessel, xl_NoVessel, hb_NoVessel⟩, sa_NoVessel, ec_NoVessel, tc_NoVessel, kc_NoVessel⟩, xf_NoVessel := ⟨ga_NoVessel, gg_NoVessel, ec_NoVessel, hd_NoVessel⟩, in_NoVessel := in_NoVessel, tf_NoVessel := tf_NoVessel, nf_NoVessel_found := nf_NoVessel_found, a_NoKind := C_NoKind, c_NoKind := PySem.W.mg_of X G g_NoKind, ox_NoKind := ⟨⟨nm_NoKind, q_NoKind, N_NoKind, bs_NoKind, bm_NoKind, sn_NoKind, su_NoKind, ab_NoKind, co_NoKind, dd_NoKind, m0_NoKind, m1_NoKind, m2_NoKind, m3_NoKind, m5_NoKind, xl_NoKind, hb_NoKind⟩, sa_NoKind, ec_NoKind, tc_NoKind, kc_NoKind⟩, xf_NoKind := ⟨ga_NoKind, gg_NoKind, ec_NoKind, hd_NoKind⟩, in_NoKind := in_NoKind, tf_NoKind := tf_NoKind, nf_NoKind_found := nf_NoKind_found, a_NoWorld := C_NoWorld, c_NoWorld := PySem.W.mg_of X G g_NoWorld, ox_NoWorld := ⟨⟨nm_NoWorld, q_NoWorld, N_NoWorld, bs_NoWorld, bm_NoWorld, sn_NoWorld, su_NoWorld, ab_NoWorld, co_NoWorld, dd_NoWorld, m0_NoWorld, m1_NoWorld, m2_NoWorld, m3_NoWorld, m5_NoWorld, xl_NoWorld, hb_NoWorld⟩, sa_NoWorld, ec_NoWorld, tc_NoWorld, kc_NoWorld⟩, xf_NoWorld := ⟨ga_NoWorld, gg_NoWorld, ec_NoWorld, hd_NoWorld⟩, in_NoWorld := in_NoWorld, tf_NoWorld := tf_NoWorld, nf_NoWorld_found := nf_NoWorld_found, a_Channel := C_Channel, c_Channel := PySem.W.mg_of X G g_Channel, cl_Channel := ⟨pg_Channel, hd_Channel, po_Channel, sa_Channel⟩, mk_Channel := ⟨mk_Channel, in_Channel, if_Channel, kc_Channel⟩, na_Channel_name := na_Channel_name, na_Channel_one := na_Channel_one, na_Channel_other := na_Channel_other, na_Channel_hours := na_Channel_hours, na_Channel_depth := na_Channel_depth, na_Channel_first := na_Channel_first, na_Channel_growth := na_Channel_growth, na_Channel_most := na_Channel_most, a_Vessel := C_Vessel, c_Vessel := PySem.W.mg_of X G g_Vessel, cl_Vessel := ⟨pg_Vessel, hd_Vessel, po_Vessel, sa_Vessel⟩, mk_Vessel := ⟨mk_Vessel, in_Vessel, if_Vessel, kc_Vessel⟩, ki_Vessel := ⟨ks_Vessel, kt_Vessel, kr_Vessel, kf_Vessel, k42⟩, na_Vessel_name := na_Vessel_name, na_Vessel_port := na_Vessel_port, na_Vessel_hour := na_Vessel_hour, na_Vessel_strength := na_Vessel_strength, na_Vessel_draught := na_Vessel_draught, me_Vessel_kind := ⟨me_Vessel_kind, mi_Vessel_kind, k43⟩, me_Vessel_thins := ⟨me_Vessel_thins, mi_Vessel_thins, k44⟩, a_Breaker := C_Breaker, c_Breaker := PySem.W.mg_of X G g_Breaker, cl_Breaker := ⟨pg_Breaker, hd_Breaker, po_Breaker, sa_Breaker⟩, mk_Breaker := ⟨mk_Breaker, in_Breaker, if_Breaker, kc_Breaker⟩, na_Breaker_name := na_Breaker_name, na_Breaker_port := na_Breaker_port, na_Breaker_hour := na_Breaker_hour, na_Breaker_strength := na_Breaker_strength, na_Breaker_draught := na_Breaker_draught, na_Breaker_cut := na_Breaker_cut, me_Breaker_kind := ⟨me_Breaker_kind, mi_Breaker_kind, k46⟩, me_Breaker_thins := ⟨me_Breaker_thins, mi_Breaker_thins, k47⟩, a_Ship := C_Ship, c_Ship := PySem.W.mg_of X G g_Ship, cl_Ship := ⟨pg_Ship, hd_Ship, po_Ship, sa_Ship⟩, mk_Ship := ⟨mk_Ship, in_Ship, if_Ship, kc_Ship⟩, na_Ship_name := na_Ship_name, na_Ship_port := na_Ship_port, na_Ship_hour := na_Ship_hour, na_Ship_strength := na_Ship_strength, na_Ship_draught := na_Ship_draught, na_Ship_goal := na_Ship_goal, me_Ship_kind := ⟨me_Ship_kind, mi_Ship_kind, k49⟩, me_Ship_thins := ⟨me_Ship_thins, mi_Ship_thins, k44⟩, a_Train := C_Train, c_Train := PySem.W.mg_of X G g_Train, cl_Train := ⟨pg_Train, hd_Train, po_Train, sa_Train⟩, mk_Train := ⟨mk_Train, in_Train, if_Train, kc_Train⟩, na_Train_name := na_Train_name, na_Train_port := na_Train_port, na_Train_hour := na_Train_hour, na_Train_strength := na_Train_strength, na_Train_draught := na_Train_draught, na_Train__vessels := na_Train__vessels, me_Train_kind := ⟨me_Train_kind, mi_Train_kind, k51⟩, me_Train_thins := ⟨me_Train_thins, mi_Train_thins, k52⟩, me_Train_names := ⟨me_Train_names, mi_Train_names, k53⟩, a_World := C_World, c_World := PySem.W.mg_of X G g_World, cl_World := ⟨pg_World, hd_World, po_World, sa_World⟩, mk_World := ⟨mk_World, in_World, if_World, kc_World⟩, na_World__begin := na_World__begin, na_World__ports := na_World__ports, na_World__channels := na_World__channels, na_World__breakers := na_World__breakers, na_World__ships := na_World__ships, na_World__channel_of := na_World__channel_of, na_World__vessel_of := na_World__vessel_of, me_World_ports := ⟨me_World_ports, mi_World_ports, k55⟩, me_World_channels := ⟨me_World_channels, mi_World_channels, k56⟩, me_World_breakers := ⟨me_World_breakers, mi_World_breakers, k57⟩, me_World_ships := ⟨me_World_ships, mi_World_ships, k58⟩, me_World_vessels := ⟨me_World_vessels, mi_World_vessels, k59⟩, me_World_channel := ⟨me_World_channel, mi_World_channel, k60⟩, me_World_vessel := ⟨me_World_vessel, mi_World_vessel, k61⟩, ex_NoName_NoNumber := ex_NoName_NoNumber, ex_NoName_NoWorld := ex_NoName_NoWorld, ex_NoName_Doubled := ex_NoName_Doubled, ex_NoName_NoPort := ex_NoName_NoPort, ex_NoName_IceError := ex_NoName_IceError, ex_NoNumber_NoNumber := ex_NoNumber_NoNumber, ex_NoNumber_NoWorld := ex_NoNumber_NoWorld, ex_NoNumber_Doubled := ex_NoNumber_Doubled, ex_NoNumber_NoPort := ex_NoNumber_NoPort, ex_NoNumber_IceError := ex_NoNumber_IceError, ex_Doubled_NoNumber := ex_Doubled_NoNumber, ex_Doubled_NoWorld := ex_Doubled_NoWorld, ex_Doubled_Doubled := ex_Doubled_Doubled, ex_Doubled_NoPort := ex_Doubled_NoPort, ex_Doubled_IceError := ex_Doubled_IceError, ex_NoPort_NoNumber := ex_NoPort_NoNumber, ex_NoPort_NoWorld := ex_NoPort_NoWorld, ex_NoPort_Doubled := ex_NoPort_Doubled, ex_NoPort_NoPort := ex_NoPort_NoPort, ex_NoPort_IceError := ex_NoPort_IceError, ex_NoChannel_NoNumber := ex_NoChannel_NoNumber, ex_NoChannel_NoWorld := ex_NoChannel_NoWorld, ex_NoChannel_Doubled := ex_NoChannel_Doubled, ex_NoChannel_NoPort := ex_NoChannel_NoPort, ex_NoChannel_IceError := ex_NoChannel_IceError, ex_NoVessel_NoNumber := ex_NoVessel_NoNumber, ex_NoVessel_NoWorld := ex_NoVessel_NoWorld, ex_NoVessel_Doubled := ex_NoVessel_Doubled, ex_NoVessel_NoPort := ex_NoVessel_NoPort, ex_NoVessel_IceError := ex_NoVessel_IceError, ex_NoKind_NoNumber := ex_NoKind_NoNumber, ex_NoKind_NoWorld := ex_NoKind_NoWorld, ex_NoKind_Doubled := ex_NoKind_Doubled, ex_NoKind_NoPort := ex_NoKind_NoPort, ex_NoKind_IceError := ex_NoKind_IceError, ex_NoWorld_NoNumber := ex_NoWorld_NoNumber, ex_NoWorld_NoWorld := ex_NoWorld_NoWorld, ex_NoWorld_Doubled := ex_NoWorld_Doubled, ex_NoWorld_NoPort := ex_NoWorld_NoPort, ex_NoWorld_IceError := ex_NoWorld_IceError, sgc := sgc, tkc := tkc, ca_Channel := ca_Channel, mo_Channel := mo_Channel, io_Channel_Train := io_Channel_Train, io_Channel_Vessel := io_Channel_Vessel, io_Channel_Channel := io_Channel_Channel, io_Channel_Breaker := io_Channel_Breaker, io_Channel_Ship := io_Channel_Ship, ca_Vessel := ca_Vessel, mo_Vessel := mo_Vessel, io_Vessel_Train := io_Vessel_Train, io_Vessel_Vessel := io_Vessel_Vessel, io_Vessel_Channel := io_Vessel_Channel, io_Vessel_Breaker := io_Vessel_Breaker, io_Vessel_Ship := io_Vessel_Ship, ca_Breaker := ca_Breaker, mo_Breaker := mo_Breaker, io_Breaker_Train := io_Breaker_Train, io_Breaker_Vessel := io_Breaker_Vessel, io_Breaker_Channel := io_Breaker_Channel, io_Breaker_Breaker := io_Breaker_Breaker, io_Breaker_Ship := io_Breaker_Ship, ca_Ship := ca_Ship, mo_Ship := mo_Ship, io_Ship_Train := io_Ship_Train, io_Ship_Vessel := io_Ship_Vessel, io_Ship_Channel := io_Ship_Channel, io_Ship_Breaker := io_Ship_Breaker, io_Ship_Ship := io_Ship_Ship, ca_Train := ca_Train, mo_Train := mo_Train, io_Train_Train := io_Train_Train, io_Train_Vessel := io_Train_Vessel, io_Train_Channel := io_Train_Channel, io_Train_Breaker := io_Train_Breaker, io_Train_Ship := io_Train_Ship, ca_World := ca_World, mo_World := mo_World, io_World_Train := io_World_Train, io_World_Vessel := io_World_Vessel, io_World_Channel := io_World_Channel, io_World_Breaker := io_World_Breaker, io_World_Ship := io_World_Ship, io_Channel_list := io_Channel_list, io_Channel_tuple := io_Channel_tuple, io_Channel_str := io_Channel_str, eq_Channel := eq_Channel, io_Vessel_list := io_Vessel_list, io_Vessel_tuple := io_Vessel_tuple, io_Vessel_str := io_Vessel_str, eq_Vessel := eq_Vessel, io_Breaker_list := io_Breaker_list, io_Breaker_tuple := io_Breaker_tuple, io_Breaker_str := io_Breaker_str, eq_Breaker := eq_Breaker, io_Ship_list := io_Ship_list, io_Ship_tuple := io_Ship_tuple, io_Ship_str := io_Ship_str, eq_Ship := eq_Ship, io_Train_list := io_Train_list, io_Train_tuple := io_Train_tuple, io_Train_str := io_Train_str, eq_Train := eq_Train, io_World_list := io_World_list, io_World_tuple := io_World_tuple, io_World_str := io_World_str, eq_World := eq_World, ib_NoneType_Train := ib_NoneType_Train, ib_NoneType_Vessel := ib_NoneType_Vessel, ib_NoneType_Channel := ib_NoneType_Channel, ib_NoneType_Breaker := ib_NoneType_Breaker, ib_NoneType_Ship := ib_NoneType_Ship, ib_int_Train := ib_int_Train, ib_int_Vessel := ib_int_Vessel, ib_int_Channel := ib_int_Channel, ib_int_Breaker := ib_int_Breaker, ib_int_Ship := ib_int_Ship, ib_str_Train := ib_str_Train, ib_str_Vessel := ib_str_Vessel, ib_str_Channel := ib_str_Channel, ib_str_Breaker := ib_str_Breaker, ib_str_Ship := ib_str_Ship, ib_list_Train := ib_list_Train, ib_list_Vessel := ib_list_Vessel, ib_list_Channel := ib_list_Channel, ib_list_Breaker := ib_list_Breaker, ib_list_Ship := ib_list_Ship, ib_bool_Train := ib_bool_Train, ib_bool_Vessel := ib_bool_Vessel, ib_bool_Channel := ib_bool_Channel, ib_bool_Breaker := ib_bool_Breaker, ib_bool_Ship := ib_bool_Ship, ib_dict_Train := ib_dict_Train, ib_dict_Vessel := ib_dict_Vessel, ib_dict_Channel := ib_dict_Channel, ib_dict_Breaker := ib_dict_Breaker, ib_dict_Ship := ib_dict_Ship, ib_tuple_Train := ib_tuple_Train, ib_tuple_Vessel := ib_tuple_Vessel, ib_tuple_Channel := ib_tuple_Channel, ib_tuple_Breaker := ib_tuple_Breaker, ib_tuple_Ship := ib_tuple_Ship, a_is_whole := f0, d_is_whole := _, F_is_whole := F0, b_is_whole := b0, m_is_whole := PySem.W.mg_of X G a0, a_is_within := f1, d_is_within := _, F_is_within := F1, b_is_within := b1, m_is_within := PySem.W.mg_of X G a1, a_is_name := f2, d_is_name := _, F_is_name := F2, b_is_name := b2, m_is_name := PySem.W.mg_of X G a2, a_all_between := f3, d_all_between := _, F_all_between := F3, b_all_between := b3, m_all_between := PySem.W.mg_of X G a3, a_check_number := f4, d_check_number := _, F_check_number := F4, b_check_number := b4, m_check_number := PySem.W.mg_of X G a4, a_check_names := f5, d_check_names := _, F_check_names := F5, b_check_names := b5, m_check_names := PySem.W.mg_of X G a5, a_can_be_train := f6, d_can_be_train := _, F_can_be_train := F6, b_can_be_train := b6, m_can_be_train := PySem.W.mg_of X G a6, a_strength_together := f7, d_strength_together := _, F_strength_together := F7, b_strength_together := b7, m_strength_together := PySem.W.mg_of X G a7, a_check_kinds := f8, d_check_kinds := _, F_check_kinds := F8, b_check_kinds := b8, m_check_kinds := PySem.W.mg_of X G a8, a_holds_at_most := f9, d_holds_at_most := _, F_holds_at_most := F9, b_holds_at_most := b9, m_holds_at_most := PySem.W.mg_of X G a9, a_check_unlike := f10, d_check_unlike := _, F_check_unlike := F10, b_check_unlike := b10, m_check_unlike := PySem.W.mg_of X G a10, a_check_ports := f11, d_check_ports := _, F_check_ports := F11, b_check_ports := b11, m_check_ports := PySem.W.mg_of X G a11, a_cell := f12, d_cell := _, F_cell := F12, b_cell := b12, m_cell := PySem.W.mg_of X G a12, a_box := f13, d_box := _, F_box := F13, b_box := b13, m_box := PySem.W.mg_of X G a13, a_take := f14, d_take := _, F_take := F14, b_take := b14, m_take := PySem.W.mg_of X G a14, a_names := f15, d_names := _, F_names := F15, b_names := b15, m_names := PySem.W.mg_of X G a15, a_number := f16, d_number := _, F_number := F16, b_number := b16, m_number := PySem.W.mg_of X G a16, a_odd := f17, d_odd := _, F_odd := F17, b_odd := b17, m_odd := PySem.W.mg_of X G a17, a_channel_row := f18, d_channel_row := _, F_channel_row := F18, b_channel_row := b18, m_channel_row := PySem.W.mg_of X G a18, a_vessel_row := f19, d_vessel_row := _, F_vessel_row := F19, b_vessel_row := b19, m_vessel_row := PySem.W.mg_of X G a19, a_vessel := f20, d_vessel := _, F_vessel := F20, b_vessel := b20, m_vessel := PySem.W.mg_of X G a20, a_world_rows := f21, d_world_rows := _, F_world_rows := F21, b_world_rows := b21, m_world_rows := PySem.W.mg_of X G a21, a_channel := f22, d_channel := _, F_channel := F22, b_channel := b22, m_channel := PySem.W.mg_of X G a22, a_l_is_name := f23, d_l_is_name := _, F_l_is_name := F23, b_l_is_name := b23, m_l_is_name := PySem.W.mg_of X G a23, a_of_kind := f24, d_of_kind := _, F_of_kind := F24, b_of_kind := b24, m_of_kind := PySem.W.mg_of X G a24, a_doubled := f25, d_doubled := _, F_doubled := F25, b_doubled := b25, m_doubled := PySem.W.mg_of X G a25, a_due := f26, d_due := _, F_due := F26, b_due := b26, m_due := PySem.W.mg_of X G a26, a_found := f27, d_found := _, F_found := F27, b_found := b27, m_found := PySem.W.mg_of X G a27, a_stranger := f28, d_stranger := _, F_stranger := F28, b_stranger := b28, m_stranger := PySem.W.mg_of X G a28, a_spoilt := f29, d_spoilt := _, F_spoilt := F29, b_spoilt := b29, m_spoilt := PySem.W.mg_of X G a29, a_made := f30, d_made := _, F_made := F30, b_made := b30, m_made := PySem.W.mg_of X G a30, a_same := f31, d_same := _, F_same := F31, b_same := b31, m_same := PySem.W.mg_of X G a31, a_law := fa, d_law := _, F_law := F32, b_law := b32, m_law := PySem.W.mg_of X G a32, a_NoName___init__ := f33, d_NoName___init__ := _, F_NoName___init__ := F33, b_NoName___init__ := b33, a_NoNumber___init__ := f34, d_NoNumber___init__ := _, F_NoNumber___init__ := F34, b_NoNumber___init__ := b34, a_Doubled___init__ := f35, d_Doubled___init__ := _, F_Doubled___init__ := F35, b_Doubled___init__ := b35, a_NoPort___init__ := f36, d_NoPort___init__ := _, F_NoPort___init__ := F36, b_NoPort___init__ := b36, a_NoChannel___init__ := f37, d_NoChannel___init__ := _, F_NoChannel___init__ := F37, b_NoChannel___init__ := b37, a_NoVessel___init__ := f38, d_NoVessel___init__ := _, F_NoVessel___init__ := F38, b_NoVessel___init__ := b38, a_NoKind___init__ := f39, d_NoKind___init__ := _, F_NoKind___init__ := F39, b_NoKind___init__ := b39, a_NoWorld___init__ := f40, d_NoWorld___init__ := _, F_NoWorld___init__ := F40, b_NoWorld___init__ := b40, a_Channel___init__ := f41, d_Channel___init__ := _, F_Channel___init__ := F41, b_Channel___init__ := b41, a_Vessel___init__ := f42, d_Vessel___init__ := _, F_Vessel___init__ := F42, b_Vessel___init__ := b42, a_Vessel_kind := f43, d_Vessel_kind := _, F_Vessel_kind := F43, b_Vessel_kind := b43, a_Vessel_thins := f44, d_Vessel_thins := _, F_Vessel_thins := F44, b_Vessel_thins := b44, a_Breaker___init__ := f45, d_Breaker___init__ := _, F_Breaker___init__ := F45, b_Breaker___init__ := b45, a_Breaker_kind := f46, d_Breaker_kind := _, F_Breaker_kind := F46, b_Breaker_kind := b46, a_Breaker_thins := f47, d_Breaker_thins := _, F_Breaker_thins := F47, b_Breaker_thins := b47, a_Ship___init__ := f48, d_Ship___init__ := _, F_Ship___init__ := F48, b_Ship___init__ := b48, a_Ship_kind := f49, d_Ship_kind := _, F_Ship_kind := F49, b_Ship_kind := b49, a_Train___init__ := f50, d_Train___init__ := _, F_Train___init__ := F50, b_Train___init__ := b50, a_Train_kind := f51, d_Train_kind := _, F_Train_kind := F51, b_Train_kind := b51, a_Train_thins := f52, d_Train_thins := _, F_Train_thins := F52, b_Train_thins := b52, a_Train_names := f53, d_Train_names := _, F_Train_names := F53, b_Train_names := b53, a_World___init__ := f54, d_World___init__ := _, F_World___init__ := F54, b_World___init__ := b54, a_World_ports := f55, d_World_ports := _, F_World_ports := F55, b_World_ports := b55, a_World_channels := f56, d_World_channels := _, F_World_channels := F56, b_World_channels := b56, a_World_breakers := f57, d_World_breakers := _, F_World_breakers := F57, b_World_breakers := b57, a_World_ships := f58, d_World_ships := _, F_World_ships := F58, b_World_ships := b58, a_World_vessels := f59, d_World_vessels := _, F_World_vessels := F59, b_World_vessels := b59, a_World_channel := f60, d_World_channel := _, F_World_channel := F60, b_World_channel := b60, a_World_vessel := f61, d_World_vessel := _, F_World_vessel := F61, b_World_vessel := b61, t_NAME_MOST := t_NAME_MOST, c_NAME_MOST := PySem.W.mg_of X G c_NAME_MOST, t_HOURS_MOST := t_HOURS_MOST, c_HOURS_MOST := PySem.W.mg_of X G c_HOURS_MOST, t_DEPTH_MOST := t_DEPTH_MOST, c_DEPTH_MOST := PySem.W.mg_of X G c_DEPTH_MOST, t_GROWTH_MOST := t_GROWTH_MOST, c_GROWTH_MOST := PySem.W.mg_of X G c_GROWTH_MOST, t_THICK_MOST := t_THICK_MOST, c_THICK_MOST := PySem.W.mg_of X G c_THICK_MOST, t_HOUR_MOST := t_HOUR_MOST, c_HOUR_MOST := PySem.W.mg_of X G c_HOUR_MOST, t_STRENGTH_MOST := t_STRENGTH_MOST, c_STRENGTH_MOST := PySem.W.mg_of X G c_STRENGTH_MOST, t_CUT_MOST := t_CUT_MOST, c_CUT_MOST := PySem.W.mg_of X G c_CUT_MOST, t_TRAIN_MOST := t_TRAIN_MOST, c_TRAIN_MOST := PySem.W.mg_of X G c_TRAIN_MOST, t_BEGIN_MOST := t_BEGIN_MOST, c_BEGIN_MOST := PySem.W.mg_of X G c_BEGIN_MOST, t_PORTS_MOST := t_PORTS_MOST, c_PORTS_MOST := PySem.W.mg_of X G c_PORTS_MOST, t_CHANNELS_MOST := t_CHANNELS_MOST, c_CHANNELS_MOST := PySem.W.mg_of X G c_CHANNELS_MOST, t_BREAKERS_MOST := t_BREAKERS_MOST, c_BREAKERS_MOST := PySem.W.mg_of X G c_BREAKERS_MOST, t_SHIPS_MOST := t_SHIPS_MOST, c_SHIPS_MOST := PySem.W.mg_of X G c_SHIPS_MOST, n_isinstance := PySem.W.mg_none_of X G n_isinstance, n_int := PySem.W.mg_none_of X G n_int, n_bool := PySem.W.mg_none_of X G n_bool, n_str := PySem.W.mg_none_of X G n_str, n_len := PySem.W.mg_none_of X G n_len, n_list := PySem.W.mg_none_of X G n_list, n_tuple := PySem.W.mg_none_of X G n_tuple, n_min := PySem.W.mg_none_of X G n_min, n_all := PySem.W.mg_none_of X G n_all, n_max := PySem.W.mg_none_of X G n_max, n_range := PySem.W.mg_none_of X G n_range, n_enumerate := PySem.W.mg_none_of X G n_enumerate, n_sum := PySem.W.mg_none_of X G n_sum }
  exact ⟨_, fun s v => .of_eq rfl, fun base _ _ => ok_law (P := l.prog) (w := w) (base := base) T⟩
end Ice
open PySem PySem.W PyProof.Rows
set_option maxRecDepth 100000 in
set_option maxHeartbeats 0 in
theorem PySem.Challenge.cw_iceopened_k12_worlds_refused_holds : PySem.Challenge.rw_iceopened_k12_worlds_refused.Holds := by
  w_on; o_law; k_head; (case hw => w_witness2)
  k_fill
  refine Ice.walkG (l := PySem.Challenge.rw_iceopened_k12_worlds_refused) (n := 63) (k := 9) (x := "_law_script") (sp := Ice.spLaw) rfl (by decide) rfl ⟨rfl, by decide, by decide⟩ (fun w h Y => PySem.W.kIn_of Y) ?F Ice.law_sp
  case F =>
    intro w mg fa h KX G hmg
    refine' Ice.all_mk KX G hmg ?g_IceError ?sp_IceError ?ty_IceError ?rd_IceError ?fc_IceError ?g_NoName ?xl_NoName ?hb_NoName ?sa_NoName ?ec_NoName ?tc_NoName ?kc_NoName ?ga_NoName ?gg_NoName ?hd_NoName ?in_NoName ?tf_NoName ?nf_NoName_found ?g_NoNumber ?xl_NoNumber ?hb_NoNumber ?sa_NoNumber ?ec_NoNumber ?tc_NoNumber ?kc_NoNumber ?ga_NoNumber ?gg_NoNumber ?hd_NoNumber ?in_NoNumber ?tf_NoNumber ?nf_NoNumber_found ?g_Doubled ?xl_Doubled ?hb_Doubled ?sa_Doubled ?ec_Doubled ?tc_Doubled ?kc_Doubled ?ga_Doubled ?gg_Doubled ?hd_Doubled ?in_Doubled ?tf_Doubled ?nf_Doubled_name ?g_NoPort ?xl_NoPort ?hb_NoPort ?sa_NoPort ?ec_NoPort ?tc_NoPort ?kc_NoPort ?ga_NoPort ?gg_NoPort ?hd_NoPort ?in_NoPort ?tf_NoPort ?nf_NoPort_found ?g_NoChannel ?xl_NoChannel ?hb_NoChannel ?sa_NoChannel ?ec_NoChannel ?tc_NoChannel ?kc_NoChannel ?ga_NoChannel ?gg_NoChannel ?hd_NoChannel ?in_NoChannel ?tf_NoChannel ?nf_NoChannel_found ?g_NoVessel ?xl_NoVessel ?hb_NoVessel ?sa_NoVessel ?ec_NoVessel ?tc_NoVessel ?kc_NoVessel ?ga_NoVessel ?gg_NoVessel ?hd_NoVessel ?in_NoVessel ?tf_NoVessel ?nf_NoVessel_found ?g_NoKind ?xl_NoKind ?hb_NoKind ?sa_NoKind ?ec_NoKind ?tc_NoKind ?kc_NoKind ?ga_NoKind ?gg_NoKind ?hd_NoKind ?in_NoKind ?tf_NoKind ?nf_NoKind_found ?g_NoWorld ?xl_NoWorld ?hb_NoWorld ?sa_NoWorld ?ec_NoWorld ?tc_NoWorld ?kc_NoWorld ?ga_NoWorld ?gg_NoWorld ?hd_NoWorld ?in_NoWorld ?tf_NoWorld ?nf_NoWorld_found ?g_Channel ?pg_Channel ?hd_Channel ?po_Channel ?sa_Channel ?mk_Channel ?in_Channel ?if_Channel ?kc_Channel ?na_Channel_name ?na_Channel_one ?na_Channel_other ?na_Channel_hours ?na_Channel_depth ?na_Channel_first ?na_Channel_growth ?na_Channel_most ?g_Vessel ?pg_Vessel ?hd_Vessel ?po_Vessel ?sa_Vessel ?mk_Vessel ?in_Vessel ?if_Vessel ?kc_Vessel ?ks_Vessel ?kt_Vessel ?kr_Vessel ?kf_Vessel ?na_Vessel_name ?na_Vessel_port ?na_Vessel_hour ?na_Vessel_strength ?na_Vessel_draught ?me_Vessel_kind ?mi_Vessel_kind ?me_Vessel_thins ?mi_Vessel_thins ?g_Breaker ?pg_Breaker ?hd_Breaker ?po_Breaker ?sa_Breaker ?mk_Breaker ?in_Breaker ?if_Breaker ?kc_Breaker ?na_Breaker_name ?na_Breaker_port ?na_Breaker_hour ?na_Breaker_strength ?na_Breaker_draught ?na_Breaker_cut ?me_Breaker_kind ?mi_Breaker_kind ?me_Breaker_thins ?mi_Breaker_thins ?g_Ship ?pg_Ship ?hd_Ship ?po_Ship ?sa_Ship ?mk_Ship ?in_Ship ?if_Ship ?kc_Ship ?na_Ship_name ?na_Ship_port ?na_Ship_hour ?na_Ship_strength ?na_Ship_draught ?na_Ship_goal ?me_Ship_kind ?mi_Ship_kind ?me_Ship_thins ?mi_Ship_thins ?g_Train ?pg_Train ?hd_Train ?po_Train ?sa_Train ?mk_Train ?in_Train ?if_Train ?kc_Train ?na_Train_name ?na_Train_port ?na_Train_hour ?na_Train_strength ?na_Train_draught ?na_Train__vessels ?me_Train_kind ?mi_Train_kind ?me_Train_thins ?mi_Train_thins ?me_Train_names ?mi_Train_names ?g_World ?pg_World ?hd_World ?po_World ?sa_World ?mk_World ?in_World ?if_World ?kc_World ?na_World__begin ?na_World__ports ?na_World__channels ?na_World__breakers ?na_World__ships ?na_World__channel_of ?na_World__vessel_of ?me_World_ports ?mi_World_ports ?me_World_channels ?mi_World_channels ?me_World_breakers ?mi_World_breakers ?me_World_ships ?mi_World_ships ?me_World_vessels ?mi_World_vessels ?me_World_channel ?mi_World_channel ?me_World_vessel ?mi_World_vessel ?ex_NoName_NoNumber ?ex_NoName_NoWorld ?ex_NoName_Doubled ?ex_NoName_NoPort ?ex_NoName_IceError ?ex_NoNumber_NoNumber ?ex_NoNumber_NoWorld ?ex_NoNumber_Doubled ?ex_NoNumber_NoPort ?ex_NoNumber_IceError ?ex_Doubled_NoNumber ?ex_Doubled_NoWorld ?ex_Doubled_Doubled ?ex_Doubled_NoPort ?ex_Doubled_IceError ?ex_NoPort_NoNumber ?ex_NoPort_NoWorld ?ex_NoPort_Doubled ?ex_NoPort_NoPort ?ex_NoPort_IceError ?ex_NoChannel_NoNumber ?ex_NoChannel_NoWorld ?ex_NoChannel_Doubled ?ex_NoChannel_NoPort ?ex_NoChannel_IceError ?ex_NoVessel_NoNumber ?ex_NoVessel_NoWorld ?ex_NoVessel_Doubled ?ex_NoVessel_NoPort ?ex_NoVessel_IceError ?ex_NoKind_NoNumber ?ex_NoKind_NoWorld ?ex_NoKind_Doubled ?ex_NoKind_NoPort ?ex_NoKind_IceError ?ex_NoWorld_NoNumber ?ex_NoWorld_NoWorld ?ex_NoWorld_Doubled ?ex_NoWorld_NoPort ?ex_NoWorld_IceError ?sgc ?tkc ?ca_Channel ?mo_Channel ?io_Channel_Train ?io_Channel_Vessel ?io_Channel_Channel ?io_Channel_Breaker ?io_Channel_Ship ?ca_Vessel ?mo_Vessel ?io_Vessel_Train ?io_Vessel_Vessel ?io_Vessel_Channel ?io_Vessel_Breaker ?io_Vessel_Ship ?ca_Breaker ?mo_Breaker ?io_Breaker_Train ?io_Breaker_Vessel ?io_Breaker_Channel ?io_Breaker_Breaker ?io_Breaker_Ship ?ca_Ship ?mo_Ship ?io_Ship_Train ?io_Ship_Vessel ?io_Ship_Channel ?io_Ship_Breaker ?io_Ship_Ship ?ca_Train ?mo_Train ?io_Train_Train ?io_Train_Vessel ?io_Train_Channel ?io_Train_Breaker ?io_Train_Ship ?ca_World ?mo_World ?io_World_Train ?io_World_Vessel ?io_World_Channel ?io_World_Breaker ?io_World_Ship ?io_Channel_list ?io_Channel_tuple ?io_Channel_str ?eq_Channel ?io_Vessel_list ?io_Vessel_tuple ?io_Vessel_str ?eq_Vessel ?io_Breaker_list ?io_Breaker_tuple ?io_Breaker_str ?eq_Breaker ?io_Ship_list ?io_Ship_tuple ?io_Ship_str ?eq_Ship ?io_Train_list ?io_Train_tuple ?io_Train_str ?eq_Train ?io_World_list ?io_World_tuple ?io_World_str ?eq_World ?ib_NoneType_Train ?ib_NoneType_Vessel ?ib_NoneType_Channel ?ib_NoneType_Breaker ?ib_NoneType_Ship ?ib_int_Train ?ib_int_Vessel ?ib_int_Channel ?ib_int_Breaker ?ib_int_Ship ?ib_str_Train ?ib_str_Vessel ?ib_str_Channel ?ib_str_Breaker ?ib_str_Ship ?ib_list_Train ?ib_list_Vessel ?ib_list_Channel ?ib_list_Breaker ?ib_list_Ship ?ib_bool_Train ?ib_bool_Vessel ?ib_bool_Channel ?ib_bool_Breaker ?ib_bool_Ship ?ib_dict_Train ?ib_dict_Vessel ?ib_dict_Channel ?ib_dict_Breaker ?ib_dict_Ship ?ib_tuple_Train ?ib_tuple_Vessel ?ib_tuple_Channel ?ib_tuple_Breaker ?ib_tuple_Ship ?a0 ?l0 ?p0 ?k0 ?a1 ?l1 ?p1 ?k1 ?a2 ?l2 ?p2 ?k2 ?a3 ?l3 ?p3 ?k3 ?a4 ?l4 ?p4 ?k4 ?a5 ?l5 ?p5 ?k5 ?a6 ?l6 ?p6 ?k6 ?a7 ?l7 ?p7 ?k7 ?a8 ?l8 ?p8 ?k8 ?a9 ?l9 ?p9 ?k9 ?a10 ?l10 ?p10 ?k10 ?a11 ?l11 ?p11 ?k11 ?a12 ?l12 ?p12 ?k12 ?a13 ?l13 ?p13 ?k13 ?a14 ?l14 ?p14 ?k14 ?a15 ?l15 ?p15 ?k15 ?a16 ?l16 ?p16 ?k16 ?a17 ?l17 ?p17 ?k17 ?a18 ?l18 ?p18 ?k18 ?a19 ?l19 ?p19 ?k19 ?a20 ?l20 ?p20 ?k20 ?a21 ?l21 ?p21 ?k21 ?a22 ?l22 ?p22 ?k22 ?a23 ?l23 ?p23 ?k23 ?a24 ?l24 ?p24 ?k24 ?a25 ?l25 ?p25 ?k25 ?a26 ?l26 ?p26 ?k26 ?a27 ?l27 ?p27 ?k27 ?a28 ?l28 ?p28 ?k28 ?a29 ?l29 ?p29 ?k29 ?a30 ?l30 ?p30 ?k30 ?a31 ?l31 ?p31 ?k31 ?a32 ?l32 ?p32 ?k32 ?l33 ?p33 ?k33 ?l34 ?p34 ?k34 ?l35 ?p35 ?k35 ?l36 ?p36 ?k36 ?l37 ?p37 ?k37 ?l38 ?p38 ?k38 ?l39 ?p39 ?k39 ?l40 ?p40 ?k40 ?l41 ?p41 ?k41 ?l42 ?p42 ?k42 ?l43 ?p43 ?k43 ?l44 ?p44 ?k44 ?l45 ?p45 ?k45 ?l46 ?p46 ?k46 ?l47 ?p47 ?k47 ?l48 ?p48 ?k48 ?l49 ?p49 ?k49 ?l50 ?p50 ?k50 ?l51 ?p51 ?k51 ?l52 ?p52 ?k52 ?l53 ?p53 ?k53 ?l54 ?p54 ?k54 ?l55 ?p55 ?k55 ?l56 ?p56 ?k56 ?l57 ?p57 ?k57 ?l58 ?p58 ?k58 ?l59 ?p59 ?k59 ?l60 ?p60 ?k60 ?l61 ?p61 ?k61 ?c_NAME_MOST ?c_HOURS_MOST ?c_DEPTH_MOST ?c_GROWTH_MOST ?c_THICK_MOST ?c_HOUR_MOST ?c_STRENGTH_MOST ?c_CUT_MOST ?c_TRAIN_MOST ?c_BEGIN_MOST ?c_PORTS_MOST ?c_CHANNELS_MOST ?c_BREAKERS_MOST ?c_SHIPS_MOST ?n_isinstance ?n_int ?n_bool ?n_str ?n_len ?n_list ?n_tuple ?n_min ?n_all ?n_max ?n_range ?n_enumerate ?n_sum
    (case g_IceError => k_is)
    (case sp_IceError => k_is)
    (case ty_IceError => k_is)
    (case rd_IceError => k_is)
    (case fc_IceError => k_is)
    (case g_NoName => k_is)
    (case xl_NoName => k_is)
    (case hb_NoName => decide +kernel)
    (case sa_NoName => k_is)
    (case ec_NoName => k_is)
    (case tc_NoName => k_is)
    (case kc_NoName => k_is)
    (case ga_NoName => k_is)
    (case gg_NoName => k_is)
    (case hd_NoName => k_is)
    (case in_NoName => k_is)
    (case tf_NoName => k_is)
    (case nf_NoName_found => k_is)
    (case g_NoNumber => k_is)
    (case xl_NoNumber => k_is)
    (case hb_NoNumber => decide +kernel)
    (case sa_NoNumber => k_is)
    (case ec_NoNumber => k_is)
    (case tc_NoNumber => k_is)
    (case kc_NoNumber => k_is)
    (case ga_NoNumber => k_is)
    (case gg_NoNumber => k_is)
    (case hd_NoNumber => k_is)
    (case in_NoNumber => k_is)
    (case tf_NoNumber => k_is)
    (case nf_NoNumber_found => k_is)
    (case g_Doubled => k_is)
    (case xl_Doubled => k_is)
    (case hb_Doubled => decide +kernel)
    (case sa_Doubled => k_is)
    (case ec_Doubled => k_is)
    (case tc_Doubled => k_is)
    (case kc_Doubled => k_is)
    (case ga_Doubled => k_is)
    (case gg_Doubled => k_is)
    (case hd_Doubled => k_is)
    (case in_Doubled => k_is)
    (case tf_Doubled => k_is)
    (case nf_Doubled_name => k_is)
    (case g_NoPort => k_is)
    (case xl_NoPort => k_is)
    (case hb_NoPort => decide +kernel)
    (case sa_NoPort => k_is)
    (case ec_NoPort => k_is)
    (case tc_NoPort => k_is)
    (case kc_NoPort => k_is)
    (case ga_NoPort => k_is)
    (case gg_NoPort => k_is)
    (case hd_NoPort => k_is)
    (case in_NoPort => k_is)
    (case tf_NoPort => k_is)
    (case nf_NoPort_found => k_is)
    (case g_NoChannel => k_is)
    (case xl_NoChannel => k_is)
    (case hb_NoChannel => decide +kernel)
    (case sa_NoChannel => k_is)
    (case ec_NoChannel => k_is)
    (case tc_NoChannel => k_is)
    (case kc_NoChannel => k_is)
    (case ga_NoChannel => k_is)
    (case gg_NoChannel => k_is)
    (case hd_NoChannel => k_is)
    (case in_NoChannel => k_is)
    (case tf_NoChannel => k_is)
    (case nf_NoChannel_found => k_is)
    (case g_NoVessel => k_is)
    (case xl_NoVessel => k_is)
    (case hb_NoVessel => decide +kernel)
    (case sa_NoVessel => k_is)
    (case ec_NoVessel => k_is)
    (case tc_NoVessel => k_is)
    (case kc_NoVessel => k_is)
    (case ga_NoVessel => k_is)
    (case gg_NoVessel => k_is)
    (case hd_NoVessel => k_is)
    (case in_NoVessel => k_is)
    (case tf_NoVessel => k_is)
    (case nf_NoVessel_found => k_is)
    (case g_NoKind => k_is)
    (case xl_NoKind => k_is)
    (case hb_NoKind => decide +kernel)
    (case sa_NoKind => k_is)
    (case ec_NoKind => k_is)
    (case tc_NoKind => k_is)
    (case kc_NoKind => k_is)
    (case ga_NoKind => k_is)
    (case gg_NoKind => k_is)
    (case hd_NoKind => k_is)
    (case in_NoKind => k_is)
    (case tf_NoKind => k_is)
    (case nf_NoKind_found => k_is)
    (case g_NoWorld => k_is)
    (case xl_NoWorld => k_is)
    (case hb_NoWorld => decide +kernel)
    (case sa_NoWorld => k_is)
    (case ec_NoWorld => k_is)
    (case tc_NoWorld => k_is)
    (case kc_NoWorld => k_is)
    (case ga_NoWorld => k_is)
    (case gg_NoWorld => k_is)
    (case hd_NoWorld => k_is)
    (case in_NoWorld => k_is)
    (case tf_NoWorld => k_is)
    (case nf_NoWorld_found => k_is)
    (case g_Channel => k_is)
    (case pg_Channel => k_is)
    (case hd_Channel => k_is)
    (case po_Channel => k_is)
    (case sa_Channel => k_is)
    (case mk_Channel => k_is)
    (case in_Channel => k_is)
    (case if_Channel => k_is)
    (case kc_Channel => k_is)
    (case na_Channel_name => k_is)
    (case na_Channel_one => k_is)
    (case na_Channel_other => k_is)
    (case na_Channel_hours => k_is)
    (case na_Channel_depth => k_is)
    (case na_Channel_first => k_is)
    (case na_Channel_growth => k_is)
    (case na_Channel_most => k_is)
    (case g_Vessel => k_is)
    (case pg_Vessel => k_is)
    (case hd_Vessel => k_is)
    (case po_Vessel => k_is)
    (case sa_Vessel => k_is)
    (case mk_Vessel => k_is)
    (case in_Vessel => k_is)
    (case if_Vessel => k_is)
    (case kc_Vessel => k_is)
    (case ks_Vessel => k_is)
    (case kt_Vessel => k_is)
    (case kr_Vessel => k_is)
    (case kf_Vessel => k_is)
    (case na_Vessel_name => k_is)
    (case na_Vessel_port => k_is)
    (case na_Vessel_hour => k_is)
    (case na_Vessel_strength => k_is)
    (case na_Vessel_draught => k_is)
    (case me_Vessel_kind => k_is)
    (case mi_Vessel_kind => k_is)
    (case me_Vessel_thins => k_is)
    (case mi_Vessel_thins => k_is)
    (case g_Breaker => k_is)
    (case pg_Breaker => k_is)
    (case hd_Breaker => k_is)
    (case po_Breaker => k_is)
    (case sa_Breaker => k_is)
    (case mk_Breaker => k_is)
    (case in_Breaker => k_is)
    (case if_Breaker => k_is)
    (case kc_Breaker => k_is)
    (case na_Breaker_name => k_is)
    (case na_Breaker_port => k_is)
    (case na_Breaker_hour => k_is)
    (case na_Breaker_strength => k_is)
    (case na_Breaker_draught => k_is)
    (case na_Breaker_cut => k_is)
    (case me_Breaker_kind => k_is)
    (case mi_Breaker_kind => k_is)
    (case me_Breaker_thins => k_is)
    (case mi_Breaker_thins => k_is)
    (case g_Ship => k_is)
    (case pg_Ship => k_is)
    (case hd_Ship => k_is)
    (case po_Ship => k_is)
    (case sa_Ship => k_is)
    (case mk_Ship => k_is)
    (case in_Ship => k_is)
    (case if_Ship => k_is)
    (case kc_Ship => k_is)
    (case na_Ship_name => k_is)
    (case na_Ship_port => k_is)
    (case na_Ship_hour => k_is)
    (case na_Ship_strength => k_is)
    (case na_Ship_draught => k_is)
    (case na_Ship_goal => k_is)
    (case me_Ship_kind => k_is)
    (case mi_Ship_kind => k_is)
    (case me_Ship_thins => k_is)
    (case mi_Ship_thins => k_is)
    (case g_Train => k_is)
    (case pg_Train => k_is)
    (case hd_Train => k_is)
    (case po_Train => k_is)
    (case sa_Train => k_is)
    (case mk_Train => k_is)
    (case in_Train => k_is)
    (case if_Train => k_is)
    (case kc_Train => k_is)
    (case na_Train_name => k_is)
    (case na_Train_port => k_is)
    (case na_Train_hour => k_is)
    (case na_Train_strength => k_is)
    (case na_Train_draught => k_is)
    (case na_Train__vessels => k_is)
    (case me_Train_kind => k_is)
    (case mi_Train_kind => k_is)
    (case me_Train_thins => k_is)
    (case mi_Train_thins => k_is)
    (case me_Train_names => k_is)
    (case mi_Train_names => k_is)
    (case g_World => k_is)
    (case pg_World => k_is)
    (case hd_World => k_is)
    (case po_World => k_is)
    (case sa_World => k_is)
    (case mk_World => k_is)
    (case in_World => k_is)
    (case if_World => k_is)
    (case kc_World => k_is)
    (case na_World__begin => k_is)
    (case na_World__ports => k_is)
    (case na_World__channels => k_is)
    (case na_World__breakers => k_is)
    (case na_World__ships => k_is)
    (case na_World__channel_of => k_is)
    (case na_World__vessel_of => k_is)
    (case me_World_ports => k_is)
    (case mi_World_ports => k_is)
    (case me_World_channels => k_is)
    (case mi_World_channels => k_is)
    (case me_World_breakers => k_is)
    (case mi_World_breakers => k_is)
    (case me_World_ships => k_is)
    (case mi_World_ships => k_is)
    (case me_World_vessels => k_is)
    (case mi_World_vessels => k_is)
    (case me_World_channel => k_is)
    (case mi_World_channel => k_is)
    (case me_World_vessel => k_is)
    (case mi_World_vessel => k_is)
    (case ex_NoName_NoNumber => first | k_is | (first | rfl | decide +kernel))
    (case ex_NoName_NoWorld => first | k_is | (first | rfl | decide +kernel))
    (case ex_NoName_Doubled => first | k_is | (first | rfl | decide +kernel))
    (case ex_NoName_NoPort => first | k_is | (first | rfl | decide +kernel))
    (case ex_NoName_IceError => first | k_is | (first | rfl | decide +kernel))
    (case ex_NoNumber_NoNumber => first | k_is | (first | rfl | decide +kernel))
    (case ex_NoNumber_NoWorld => first | k_is | (first | rfl | decide +kernel))
    (case ex_NoNumber_Doubled => first | k_is | (first | rfl | decide +kernel))
    (case ex_NoNumber_NoPort => first | k_is | (first | rfl | decide +kernel))
    (case ex_NoNumber_IceError => first | k_is | (first | rfl | decide +kernel))
    (case ex_Doubled_NoNumber => first | k_is | (first | rfl | decide +kernel))
    (case ex_Doubled_NoWorld => first | k_is | (first | rfl | decide +kernel))
    (case ex_Doubled_Doubled => first | k_is | (first | rfl | decide +kernel))
    (case ex_Doubled_NoPort => first | k_is | (first | rfl | decide +kernel))
    (case ex_Doubled_IceError => first | k_is | (first | rfl | decide +kernel))
    (case ex_NoPort_NoNumber => first | k_is | (first | rfl | decide +kernel))
    (case ex_NoPort_NoWorld => first | k_is | (first | rfl | decide +kernel))
    (case ex_NoPort_Doubled => first | k_is | (first | rfl | decide +kernel))
    (case ex_NoPort_NoPort => first | k_is | (first | rfl | decide +kernel))
    (case ex_NoPort_IceError => first | k_is | (first | rfl | decide +kernel))
    (case ex_NoChannel_NoNumber => first | k_is | (first | rfl | decide +kernel))
    (case ex_NoChannel_NoWorld => first | k_is | (first | rfl | decide +kernel))
    (case ex_NoChannel_Doubled => first | k_is | (first | rfl | decide +kernel))
    (case ex_NoChannel_NoPort => first | k_is | (first | rfl | decide +kernel))
    (case ex_NoChannel_IceError => first | k_is | (first | rfl | decide +kernel))
    (case ex_NoVessel_NoNumber => first | k_is | (first | rfl | decide +kernel))
    (case ex_NoVessel_NoWorld => first | k_is | (first | rfl | decide +kernel))
    (case ex_NoVessel_Doubled => first | k_is | (first | rfl | decide +kernel))
    (case ex_NoVessel_NoPort => first | k_is | (first | rfl | decide +kernel))
    (case ex_NoVessel_IceError => first | k_is | (first | rfl | decide +kernel))
    (case ex_NoKind_NoNumber => first | k_is | (first | rfl | decide +kernel))
    (case ex_NoKind_NoWorld => first | k_is | (first | rfl | decide +kernel))
    (case ex_NoKind_Doubled => first | k_is | (first | rfl | decide +kernel))
    (case ex_NoKind_NoPort => first | k_is | (first | rfl | decide +kernel))
    (case ex_NoKind_IceError => first | k_is | (first | rfl | decide +kernel))
    (case ex_NoWorld_NoNumber => first | k_is | (first | rfl | decide +kernel))
    (case ex_NoWorld_NoWorld => first | k_is | (first | rfl | decide +kernel))
    (case ex_NoWorld_Doubled => first | k_is | (first | rfl | decide +kernel))
    (case ex_NoWorld_NoPort => first | k_is | (first | rfl | decide +kernel))
    (case ex_NoWorld_IceError => first | k_is | (first | rfl | decide +kernel))
    (case sgc => k_is)
    (case tkc => k_is)
    (case ca_Channel => k_is)
    (case mo_Channel => k_is)
    (case io_Channel_Train => kit_is)
    (case io_Channel_Vessel => kit_is)
    (case io_Channel_Channel => kit_is)
    (case io_Channel_Breaker => kit_is)
    (case io_Channel_Ship => kit_is)
    (case ca_Vessel => k_is)
    (case mo_Vessel => k_is)
    (case io_Vessel_Train => kit_is)
    (case io_Vessel_Vessel => kit_is)
    (case io_Vessel_Channel => kit_is)
    (case io_Vessel_Breaker => kit_is)
    (case io_Vessel_Ship => kit_is)
    (case ca_Breaker => k_is)
    (case mo_Breaker => k_is)
    (case io_Breaker_Train => kit_is)
    (case io_Breaker_Vessel => kit_is)
    (case io_Breaker_Channel => kit_is)
    (case io_Breaker_Breaker => kit_is)
    (case io_Breaker_Ship => kit_is)
    (case ca_Ship => k_is)
    (case mo_Ship => k_is)
    (case io_Ship_Train => kit_is)
    (case io_Ship_Vessel => kit_is)
    (case io_Ship_Channel => kit_is)
    (case io_Ship_Breaker => kit_is)
    (case io_Ship_Ship => kit_is)
    (case ca_Train => k_is)
    (case mo_Train => k_is)
    (case io_Train_Train => kit_is)
    (case io_Train_Vessel => kit_is)
    (case io_Train_Channel => kit_is)
    (case io_Train_Breaker => kit_is)
    (case io_Train_Ship => kit_is)
    (case ca_World => k_is)
    (case mo_World => k_is)
    (case io_World_Train => kit_is)
    (case io_World_Vessel => kit_is)
    (case io_World_Channel => kit_is)
    (case io_World_Breaker => kit_is)
    (case io_World_Ship => kit_is)
    (case io_Channel_list => kit_is)
    (case io_Channel_tuple => kit_is)
    (case io_Channel_str => kit_is)
    (case eq_Channel => k_is)
    (case io_Vessel_list => kit_is)
    (case io_Vessel_tuple => kit_is)
    (case io_Vessel_str => kit_is)
    (case eq_Vessel => k_is)
    (case io_Breaker_list => kit_is)
    (case io_Breaker_tuple => kit_is)
    (case io_Breaker_str => kit_is)
    (case eq_Breaker => k_is)
    (case io_Ship_list => kit_is)
    (case io_Ship_tuple => kit_is)
    (case io_Ship_str => kit_is)
    (case eq_Ship => k_is)
    (case io_Train_list => kit_is)
    (case io_Train_tuple => kit_is)
    (case io_Train_str => kit_is)
    (case eq_Train => k_is)
    (case io_World_list => kit_is)
    (case io_World_tuple => kit_is)
    (case io_World_str => kit_is)
    (case eq_World => k_is)
    (case ib_NoneType_Train => kit_is)
    (case ib_NoneType_Vessel => kit_is)
    (case ib_NoneType_Channel => kit_is)
    (case ib_NoneType_Breaker => kit_is)
    (case ib_NoneType_Ship => kit_is)
    (case ib_int_Train => kit_is)
    (case ib_int_Vessel => kit_is)
    (case ib_int_Channel => kit_is)
    (case ib_int_Breaker => kit_is)
    (case ib_int_Ship => kit_is)
    (case ib_str_Train => kit_is)
    (case ib_str_Vessel => kit_is)
    (case ib_str_Channel => kit_is)
    (case ib_str_Breaker => kit_is)
    (case ib_str_Ship => kit_is)
    (case ib_list_Train => kit_is)
    (case ib_list_Vessel => kit_is)
    (case ib_list_Channel => kit_is)
    (case ib_list_Breaker => kit_is)
    (case ib_list_Ship => kit_is)
    (case ib_bool_Train => kit_is)
    (case ib_bool_Vessel => kit_is)
    (case ib_bool_Channel => kit_is)
    (case ib_bool_Breaker => kit_is)
    (case ib_bool_Ship => kit_is)
    (case ib_dict_Train => kit_is)
    (case ib_dict_Vessel => kit_is)
    (case ib_dict_Channel => kit_is)
    (case ib_dict_Breaker => kit_is)
    (case ib_dict_Ship => kit_is)
    (case ib_tuple_Train => kit_is)
    (case ib_tuple_Vessel => kit_is)
    (case ib_tuple_Channel => kit_is)
    (case ib_tuple_Breaker => kit_is)
    (case ib_tuple_Ship => kit_is)
    (case a0 => k_is)
    (case l0 => k_is)
    (case p0 => k_is)
    (case k0 => k_is)
    (case a1 => k_is)
    (case l1 => k_is)
    (case p1 => k_is)
    (case k1 => k_is)
    (case a2 => k_is)
    (case l2 => k_is)
    (case p2 => k_is)
    (case k2 => k_is)
    (case a3 => k_is)
    (case l3 => k_is)
    (case p3 => k_is)
    (case k3 => k_is)
    (case a4 => k_is)
    (case l4 => k_is)
    (case p4 => k_is)
    (case k4 => k_is)
    (case a5 => k_is)
    (case l5 => k_is)
    (case p5 => k_is)
    (case k5 => k_is)
    (case a6 => k_is)
    (case l6 => k_is)
    (case p6 => k_is)
    (case k6 => k_is)
    (case a7 => k_is)
    (case l7 => k_is)
    (case p7 => k_is)
    (case k7 => k_is)
    (case a8 => k_is)
    (case l8 => k_is)
    (case p8 => k_is)
    (case k8 => k_is)
    (case a9 => k_is)
    (case l9 => k_is)
    (case p9 => k_is)
    (case k9 => k_is)
    (case a10 => k_is)
    (case l10 => k_is)
    (case p10 => k_is)
    (case k10 => k_is)
    (case a11 => k_is)
    (case l11 => k_is)
    (case p11 => k_is)
    (case k11 => k_is)
    (case a12 => k_is)
    (case l12 => k_is)
    (case p12 => k_is)
    (case k12 => k_is)
    (case a13 => k_is)
    (case l13 => k_is)
    (case p13 => k_is)
    (case k13 => k_is)
    (case a14 => k_is)
    (case l14 => k_is)
    (case p14 => k_is)
    (case k14 => k_is)
    (case a15 => k_is)
    (case l15 => k_is)
    (case p15 => k_is)
    (case k15 => k_is)
    (case a16 => k_is)
    (case l16 => k_is)
    (case p16 => k_is)
    (case k16 => k_is)
    (case a17 => k_is)
    (case l17 => k_is)
    (case p17 => k_is)
    (case k17 => k_is)
    (case a18 => k_is)
    (case l18 => k_is)
    (case p18 => k_is)
    (case k18 => k_is)
    (case a19 => k_is)
    (case l19 => k_is)
    (case p19 => k_is)
    (case k19 => k_is)
    (case a20 => k_is)
    (case l20 => k_is)
    (case p20 => k_is)
    (case k20 => k_is)
    (case a21 => k_is)
    (case l21 => k_is)
    (case p21 => k_is)
    (case k21 => k_is)
    (case a22 => k_is)
    (case l22 => k_is)
    (case p22 => k_is)
    (case k22 => k_is)
    (case a23 => k_is)
    (case l23 => k_is)
    (case p23 => k_is)
    (case k23 => k_is)
    (case a24 => k_is)
    (case l24 => k_is)
    (case p24 => k_is)
    (case k24 => k_is)
    (case a25 => k_is)
    (case l25 => k_is)
    (case p25 => k_is)
    (case k25 => k_is)
    (case a26 => k_is)
    (case l26 => k_is)
    (case p26 => k_is)
    (case k26 => k_is)
    (case a27 => k_is)
    (case l27 => k_is)
    (case p27 => k_is)
    (case k27 => k_is)
    (case a28 => k_is)
    (case l28 => k_is)
    (case p28 => k_is)
    (case k28 => k_is)
    (case a29 => k_is)
    (case l29 => k_is)
    (case p29 => k_is)
    (case k29 => k_is)
    (case a30 => k_is)
    (case l30 => k_is)
    (case p30 => k_is)
    (case k30 => k_is)
    (case a31 => k_is)
    (case l31 => k_is)
    (case p31 => k_is)
    (case k31 => k_is)
    (case a32 => k_is)
    (case l32 => k_is)
    (case p32 => k_is)
    (case k32 => k_is)
    (case l33 => k_is)
    (case p33 => k_is)
    (case k33 => k_is)
    (case l34 => k_is)
    (case p34 => k_is)
    (case k34 => k_is)
    (case l35 => k_is)
    (case p35 => k_is)
    (case k35 => k_is)
    (case l36 => k_is)
    (case p36 => k_is)
    (case k36 => k_is)
    (case l37 => k_is)
    (case p37 => k_is)
    (case k37 => k_is)
    (case l38 => k_is)
    (case p38 => k_is)
    (case k38 => k_is)
    (case l39 => k_is)
    (case p39 => k_is)
    (case k39 => k_is)
    (case l40 => k_is)
    (case p40 => k_is)
    (case k40 => k_is)
    (case l41 => k_is)
    (case p41 => k_is)
    (case k41 => k_is)
    (case l42 => k_is)
    (case p42 => k_is)
    (case k42 => k_is)
    (case l43 => k_is)
    (case p43 => k_is)
    (case k43 => k_is)
    (case l44 => k_is)
    (case p44 => k_is)
    (case k44 => k_is)
    (case l45 => k_is)
    (case p45 => k_is)
    (case k45 => k_is)
    (case l46 => k_is)
    (case p46 => k_is)
    (case k46 => k_is)
    (case l47 => k_is)
    (case p47 => k_is)
    (case k47 => k_is)
    (case l48 => k_is)
    (case p48 => k_is)
    (case k48 => k_is)
    (case l49 => k_is)
    (case p49 => k_is)
    (case k49 => k_is)
    (case l50 => k_is)
    (case p50 => k_is)
    (case k50 => k_is)
    (case l51 => k_is)
    (case p51 => k_is)
    (case k51 => k_is)
    (case l52 => k_is)
    (case p52 => k_is)
    (case k52 => k_is)
    (case l53 => k_is)
    (case p53 => k_is)
    (case k53 => k_is)
    (case l54 => k_is)
    (case p54 => k_is)
    (case k54 => k_is)
    (case l55 => k_is)
    (case p55 => k_is)
    (case k55 => k_is)
    (case l56 => k_is)
    (case p56 => k_is)
    (case k56 => k_is)
    (case l57 => k_is)
    (case p57 => k_is)
    (case k57 => k_is)
    (case l58 => k_is)
    (case p58 => k_is)
    (case k58 => k_is)
    (case l59 => k_is)
    (case p59 => k_is)
    (case k59 => k_is)
    (case l60 => k_is)
    (case p60 => k_is)
    (case k60 => k_is)
    (case l61 => k_is)
    (case p61 => k_is)
    (case k61 => k_is)
    (case c_NAME_MOST => k_is)
    (case c_HOURS_MOST => k_is)
    (case c_DEPTH_MOST => k_is)
    (case c_GROWTH_MOST => k_is)
    (case c_THICK_MOST => k_is)
    (case c_HOUR_MOST => k_is)
    (case c_STRENGTH_MOST => k_is)
    (case c_CUT_MOST => k_is)
    (case c_TRAIN_MOST => k_is)
    (case c_BEGIN_MOST => k_is)
    (case c_PORTS_MOST => k_is)
    (case c_CHANNELS_MOST => k_is)
    (case c_BREAKERS_MOST => k_is)
    (case c_SHIPS_MOST => k_is)
    (case n_isinstance => k_is)
    (case n_int => k_is)
    (case n_bool => k_is)
    (case n_str => k_is)
    (case n_len => k_is)
    (case n_list => k_is)
    (case n_tuple => k_is)
    (case n_min => k_is)
    (case n_all => k_is)
    (case n_max => k_is)
    (case n_range => k_is)
    (case n_enumerate => k_is)
    (case n_sum => k_is)

