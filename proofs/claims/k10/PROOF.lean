import PyProof.Rows.All
import Wide.All
import OpenK.AllK
import Wide.FinOn
import HandS.ForMost
import HandS.Wide
import HandS.Style
import HandS.IsInst
import HandS.Codes
import HandS.Steps
import PyProof.ReprRoads
import HandS.ForExc
import HandS.EndBits
import KE.IntTextLaws
import HandS.ExcInit
import HandS.ExcField
import HandS.TryMany
import KE.KEqDict
import HandS.TryOnly
import KE.KEqNest
import HandS.More
import HandS.TupAny
import KE.RegKIsAll
import PySem.Challenge.RW_iceopened_k10_trains
set_option Elab.async false
set_option linter.all false
set_option maxRecDepth 100000
set_option maxHeartbeats 4000000
/-! The steps of a reading, one lemma for each construct; facts of heaps. -/
namespace Ice
open PySem PySem.Spec PyProof.Rows L2
section
variable {σ : L2.St} {H H' : Hp} {D : Ends} {t u : TS} {c tt tu : TT} {te ta tb tc : TE} {tA : TA} {Q : VK} {QA : List V → Hp → Prop} {QT : Bool → Hp → Prop} {i : Nat} {v x y : V} {g : TG} {r : R2}
theorem i_seq (h : t { D with nx := u D } σ H) : tSeq t u D σ H := h
theorem i_if (h : c σ H fun b H1 => if b = true then t D σ H1 else u D σ H1) : tIfS c t u D σ H := h
theorem i_next (h : D.nx σ H) : tNext D σ H := h
theorem i_brk (h : D.bk σ H) : tBreak D σ H := h
theorem i_cont (h : D.ct σ H) : tCont D σ H := h
theorem i_ret (h : te σ H D.rt) : tRet te D σ H := h
theorem i_retN (h : D.rt .non H) : tRetN D σ H := h
theorem i_drop (h : te σ H fun _ H1 => D.nx σ H1) : tDrop te D σ H := h
theorem i_asg (h : te σ H fun x H1 => g x σ H1 D.nx) : tAsg te g D σ H := h
theorem i_gname {q : L2.St → Hp → Prop} (h : q (σ.set i (some v)) H) : gName i v σ H q := h
theorem i_gsub {to ti : TE} {s : TSet} {q : L2.St → Hp → Prop} (h : to σ H fun o H1 => ti σ H1 fun i H2 => s o i v H2 fun H3 => q σ H3) : gSub to ti s v σ H q := h
theorem i_var (h : σ[i]? = some (some v)) (q : Q v H) : tVar i σ H Q := ⟨v, h, q⟩
theorem i_c (q : Q v H) : tC v σ H Q := q
theorem i_op (h : ta σ H fun x H1 => tb σ H1 fun y H2 => r x y H2 Q) : tOp r ta tb σ H Q := h
theorem i_un {r : V → Hp → VK → Prop} (h : ta σ H fun x H1 => r x H1 Q) : tUn r ta σ H Q := h
theorem i_test (h : te σ H fun x H' => ∃ k, x = .bl k ∧ QT k H') : tTest te σ H QT := h
theorem i_tB (h : te σ H fun x H' => ∃ k, x = .bl k ∧ QT k H') : tB te σ H QT := h
theorem i_and (h : c σ H fun b H1 => if b = true then tt σ H1 QT else QT false H1) : tAnd c tt σ H QT := h
theorem i_or (h : c σ H fun b H1 => if b = true then QT true H1 else tt σ H1 QT) : tOr c tt σ H QT := h
theorem i_not (h : c σ H fun b H1 => QT (!b) H1) : tNot c σ H QT := h
theorem i_andV (h : ta σ H fun x H1 => ∃ c, x = .bl c ∧ if c = true then tb σ H1 Q else Q (.bl false) H1) : tAndV ta tb σ H Q := h
theorem i_orV (h : ta σ H fun x H1 => ∃ c, x = .bl c ∧ if c = true then Q (.bl true) H1 else tb σ H1 Q) : tOrV ta tb σ H Q := h
theorem i_notV (h : ta σ H fun x H1 => ∃ c, x = .bl c ∧ Q (.bl (!c)) H1) : tNotV ta σ H Q := h
theorem i_ifE (h : c σ H fun b H1 => if b = true then ta σ H1 Q else tb σ H1 Q) : tIf c ta tb σ H Q := h
theorem i_bl {b : Bool} {q : Bool → Prop} (h : q b) : ∃ k, V.bl b = .bl k ∧ q k := ⟨b, rfl, h⟩
theorem i_nil (q : QA [] H) : tNil σ H QA := q
theorem i_cons (h : te σ H fun x H1 => tA σ H1 fun xs H2 => QA (x :: xs) H2) : tCons te tA σ H QA := h
theorem i_call {sp : Sp} {dvs : List V} {E : XK} (h : tA σ H fun vs H1 => sp (vs ++ dvs) H1 Q E) : tCall sp dvs E tA σ H Q := h
theorem i_cb {r : List V → Hp → VK → Prop} (h : tA σ H fun vs H1 => r vs H1 Q) : tCB r tA σ H Q := h
theorem i_rI0 {f : Int → Int → V} {a b : Int} (q : Q (f a b) H) : rI0 f (.int a) (.int b) H Q := ⟨a, b, rfl, rfl, q⟩
theorem i_rI {C : Int → Int → Prop} {f : Int → Int → V} {a b : Int} (hc : C a b) (q : Q (f a b) H) : rI C f (.int a) (.int b) H Q := ⟨a, b, rfl, rfl, hc, q⟩
theorem i_rU {f : Int → V} {a : Int} (q : Q (f a) H) : rU f (.int a) H Q := ⟨a, rfl, q⟩
theorem i_rEq (h : scal x y = true) (q : Q (.bl (decide (x = y))) H) : rEq x y H Q := ⟨h, q⟩
theorem i_rNe (h : scal x y = true) (q : Q (.bl (!decide (x = y))) H) : rNe x y H Q := ⟨h, q⟩
theorem i_chain {r' : R2} (h : ta σ H fun x H1 => tb σ H1 fun y H2 => r x y H2 fun z H3 => ∃ k, z = .bl k ∧ (if k = true then tc σ H3 fun w' H4 => r' y w' H4 Q else Q (.bl false) H3)) : tChain r r' ta tb tc σ H Q := h
theorem i_tup (h : tA σ H fun xs H1 => xs.length ≤ sizeLine ∧ ∀ p, H1 p = none → Q (.ref p) (upd H1 p (.tup xs))) : tTup tA σ H Q := h
theorem i_lst (h : tA σ H fun xs H1 => xs.length ≤ sizeLine ∧ ∀ p, H1 p = none → Q (.ref p) (upd H1 p (.lst xs))) : tLst tA σ H Q := h
theorem i_bm {K : PySem.W.Frag} {T : String} {r : V → List V → Hp → VK → Prop} (h : te σ H fun x H1 => tyV K T x H1 ∧ tA σ H1 fun xs H2 => r x xs H2 Q) : tBM K T r te tA σ H Q := h
theorem i_bm0 {K : PySem.W.Frag} {T : String} {r : V → List V → Hp → VK → Prop} (h : te σ H fun x H1 => tyV K T x H1 ∧ r x [] H1 Q) : tBM0 K T r te σ H Q := h
theorem i_m1 {r : V → List V → Hp → VK → Prop} (h : te σ H fun x H1 => (∃ a, x = .str a) ∧ tb σ H1 fun y H2 => r x [y] H2 Q) : tM1 r te tb σ H Q := h
theorem i_sl {r : V → Option Int → Option Int → Hp → VK → Prop} {tl th : TO} (h : te σ H fun x H1 => tl σ H1 fun a H2 => th σ H2 fun b H3 => r x a b H3 Q) : tSl r te tl th σ H Q := h
theorem i_nopart {q : Option Int → Hp → Prop} (h : q none H) : tNoPart σ H q := h
theorem i_part {q : Option Int → Hp → Prop} (h : te σ H fun x H1 => ∃ i, x = .int i ∧ q (some i) H1) : tPart te σ H q := h
theorem i_int {a : Int} {q : Int → Prop} (h : q a) : ∃ k, V.int a = .int k ∧ q k := ⟨a, rfl, h⟩
theorem i_str {a : Str} {q : Str → Prop} (h : q a) : ∃ k, V.str a = .str k ∧ q k := ⟨a, rfl, h⟩
theorem i_for {wi : TI} {tb : TS} (h : wi σ H fun J H1 => ∃ W : Nat → Nat → L2.St → Hp → Prop, (∃ m, W 0 m σ H1) ∧ ∀ i m σ H, W i m σ H →
      (J.stop i H ∧ D.nx σ H) ∨ (J.go i H ∧ ∃ N : L2.St → Hp → Prop, (∀ σ' H', N σ' H' → ∃ m', m' < m ∧ W (i + 1) m' σ' H') ∧ ∀ x H', J.yld i H x H' → g x σ H' fun σ2 H2 => tb { D with nx := N, ct := N, bk := D.nx } σ2 H2)) : tFor wi g tb D σ H := h
theorem i_yes {q : Bool → Hp → Prop} (h : q true H) : tYes σ H q := h
theorem ifs {b : Bool} {A B : Prop} (h1 : b = true → A) (h2 : b = false → B) : if b = true then A else B := by
  cases b with
  | true => exact h1 rfl
  | false => exact h2 rfl
end
/-! ### heaps -/
/-- all but what stands at b is as it was -/
def But (b : Addr) (H H' : Hp) : Prop := ∀ a o, a ≠ b → H a = some o → H' a = some o
theorem But.refl (b : Addr) (H : Hp) : But b H H := fun _ _ _ h => h
theorem But.trans {b : Addr} {H H1 H2 : Hp} (e : But b H H1) (e' : But b H1 H2) : But b H H2 := fun a o n h => e' a o n (e a o n h)
theorem But.set {b : Addr} {H : Hp} (o : HO) : But b H (upd H b o) := fun a u n h => by rw [upd_ne n]; exact h
theorem But.new {b p : Addr} {H : Hp} (o : HO) (hp : H p = none) : But b H (upd H p o) := fun a u n h => by rw [upd_ne (ne_of_none h hp)]; exact h
theorem Same.new {p : Addr} {H : Hp} (o : HO) (hp : H p = none) : Same H (upd H p o) := fun a u h => by rw [upd_ne (ne_of_none h hp)]; exact h
theorem Same.but {b : Addr} {H H' : Hp} (e : Same H H') : But b H H' := fun a o _ h => e a o h
/-- behind a change at b that H doesn't know -/
theorem But.same {b : Addr} {H H' : Hp} (e : But b H H') (hb : H b = none) : Same H H' := fun a o h => e a o (ne_of_none h hb) h
theorem keepU {H : Hp} {b p : Addr} {o u : HO} (h : H b = some o) (n : H p = none) : upd H p u b = some o := by rw [upd_ne (ne_of_none h n)]; exact h
theorem freeU {H : Hp} {b p : Addr} {u : HO} (h : upd H p u b = none) : H b = none := by
  by_cases e : b = p
  · subst e; rw [upd_same] at h; cases h
  · rw [upd_ne e] at h; exact h
theorem freeNe {H : Hp} {b p : Addr} {u : HO} (h : upd H p u b = none) : b ≠ p := fun e => by subst e; rw [upd_same] at h; cases h
theorem But.free {b p : Addr} {H H' : Hp} (e : But b H H') (n : p ≠ b) (h : H' p = none) : H p = none := by
  cases q : H p with
  | none => rfl
  | some o => rw [e p o n q] at h; cases h
theorem SqL.lst {K : PySem.W.Frag} {H : Hp} {a : Addr} {xs : List V} (h : H a = some (.lst xs)) : SqL K H a xs := .inl (.inl h)
theorem SqT.tup {K : PySem.W.Frag} {H : Hp} {a : Addr} {xs : List V} (h : H a = some (.tup xs)) : SqT K H a xs := .inl (.inl h)
/-- a law's script: what is read never changes -/
theorem SqL.but {K : PySem.W.Frag} {b : Addr} {H H' : Hp} {a : Addr} {xs : List V} (e : But b H H') (n : a ≠ b) (h : SqL K H a xs) : SqL K H' a xs := by
  rcases h with (h | ⟨o, h⟩) | h
  · exact .inl (.inl (e _ _ n h))
  · exact .inl (.inr ⟨o, e _ _ n h⟩)
  · exact .inr h
section
variable {H H' : Hp} {Q : VK} {K : PySem.W.Frag}
theorem i_ixL {p : Addr} {xs : List V} {i : Int} {v : V} (hS : SqL K H p xs) (he : atI xs i = some v) (q : Q v H) : rIxL K (.ref p) (.int i) H Q := ⟨p, xs, i, v, rfl, rfl, hS, he, q⟩
theorem i_ixT {p : Addr} {xs : List V} {i : Int} {v : V} (hS : SqT K H p xs) (he : atI xs i = some v) (q : Q v H) : rIxT K (.ref p) (.int i) H Q := ⟨p, xs, i, v, rfl, rfl, hS, he, q⟩
theorem i_ixS {z : Str} {i : Int} {c : Nat} (hz : z.length ≤ sizeLine) (he : atI z.cps.toList i = some c) (q : Q (.str ⟨#[c]⟩) H) : rIxS (.str z) (.int i) H Q := ⟨z, i, c, rfl, rfl, hz, he, q⟩
theorem i_setL {p : Addr} {xs : List V} {k : Int} {j : Nat} {v : V} {q : Hp → Prop} (h : H p = some (.lst xs)) (hj : ixN xs.length k = some j) (hq : q (upd H p (.lst (xs.set j v)))) : rSetL (.ref p) (.int k) v H q := ⟨p, xs, k, j, rfl, rfl, h, hj, hq⟩
end
/-! ### rules by name -/
def rLen (K : PySem.W.Frag) : List V → Hp → VK → Prop := fun xs H Q => ∃ p ys, xs = [.ref p] ∧ (SqL K H p ys ∨ SqT K H p ys) ∧ Q (.int ys.length) H
def rLenS : List V → Hp → VK → Prop := fun xs H Q => ∃ x, xs = [.str x] ∧ x.length ≤ sizeLine ∧ Q (.int x.length) H
def rMax2 : List V → Hp → VK → Prop := fun xs H Q => ∃ i j, xs = [.int i, .int j] ∧ Q (.int (if j > i then j else i)) H
def rMin2 : List V → Hp → VK → Prop := fun xs H Q => ∃ i j, xs = [.int i, .int j] ∧ Q (.int (if j < i then j else i)) H
def rStrI : List V → Hp → VK → Prop := fun xs H Q => ∃ i, xs = [.int i] ∧ i.natAbs.log2 < 1920 ∧ Q (.str (toString i)) H
def rAddT : R2 := fun x y H Q => ∃ i j, x = .str i ∧ y = .str j ∧ i.length + j.length ≤ sizeLine ∧ Q (.str (i ++ j)) H
section
variable {X : Cx} {H H' : Hp} {Q : VK} {K : PySem.W.Frag}
theorem c_len : CallR X (.builtin "len") (rLen X.K) := call_len_seq
theorem c_lenS : CallR X (.builtin "len") rLenS := call_len_str
theorem c_max2 (hc : X.calm = true := by rfl) : CallR X (.builtin "max") rMax2 := call_max2 hc
theorem c_min2 (hc : X.calm = true := by rfl) : CallR X (.builtin "min") rMin2 := call_min2 hc
theorem c_strI : CallR X (.type "str") rStrI := call_str_int
theorem o_addT : OpR X (binaryOp .Add) rAddT := op_add_str
theorem i_lenL {p : Addr} {xs : List V} (hS : SqL K H p xs) (q : Q (.int xs.length) H) : rLen K [.ref p] H Q := ⟨p, xs, rfl, .inl hS, q⟩
theorem i_lenT {p : Addr} {xs : List V} (hS : SqT K H p xs) (q : Q (.int xs.length) H) : rLen K [.ref p] H Q := ⟨p, xs, rfl, .inr hS, q⟩
theorem i_lenS {x : Str} (hz : x.length ≤ sizeLine) (q : Q (.int x.length) H) : rLenS [.str x] H Q := ⟨x, rfl, hz, q⟩
theorem i_max2 {i j : Int} (q : Q (.int (if j > i then j else i)) H) : rMax2 [.int i, .int j] H Q := ⟨i, j, rfl, q⟩
theorem i_min2 {i j : Int} (q : Q (.int (if j < i then j else i)) H) : rMin2 [.int i, .int j] H Q := ⟨i, j, rfl, q⟩
theorem i_strI {i : Int} (h : i.natAbs.log2 < 1920) (q : Q (.str (toString i)) H) : rStrI [.int i] H Q := ⟨i, rfl, h, q⟩
theorem i_addT {x y : Str} (h : x.length + y.length ≤ sizeLine) (q : Q (.str (x ++ y)) H) : rAddT (.str x) (.str y) H Q := ⟨x, y, rfl, rfl, h, q⟩
end
/-- the box that numbers are drawn from -/
structure Box (H : Hp) (b : Addr) (n : Nat) : Prop where
  ex : ∃ (x y z : Int), H b = some (.lst [.int x, .int y, .int z]) ∧ 0 ≤ x ∧ 0 ≤ y ∧ y < 2147483629 ∧ 0 ≤ z ∧ z ≤ n
theorem Box.mono {H : Hp} {b : Addr} {n m : Nat} (h : Box H b n) (e : n ≤ m) : Box H b m := by
  obtain ⟨x, y, z, h1, h2, h3, h4, h5, h6⟩ := h
  exact ⟨x, y, z, h1, h2, h3, h4, h5, by omega⟩
theorem Box.same {H H' : Hp} {b : Addr} {n : Nat} (h : Box H b n) (e : Same H H') : Box H' b n := by
  obtain ⟨x, y, z, h1, h2⟩ := h
  exact ⟨x, y, z, e _ _ h1, h2⟩
/-- the law's own promise -/
def spLaw (K : PySem.W.Frag) : Sp := fun vs H Q _ => ∃ (a : Addr) (ns : List Int), vs = [.ref a] ∧ SqL K H a (ns.map V.int) ∧ ns.length ≤ 63 ∧ (∀ z ∈ ns, Builtin.Int.intBits z ≤ 1048576) ∧ Only H ∧ ∀ H', Q (.bl true) H'
theorem law_sp (K : PySem.W.Frag) (H : Hp) (a : Addr) (ns : List Int) (h1 : ns.length ≤ 63) (h2 : ∀ z ∈ ns, Builtin.Int.intBits z ≤ 1048576) (h3 : Only H) (h4 : SqL K H a (ns.map V.int)) :
    spLaw K [.ref a] H (fun v _ => v = .bl true) fun _ _ _ => False := ⟨a, ns, rfl, h4, h1, h2, h3, fun _ => rfl⟩
theorem sz_of {n : Nat} (h : n ≤ 100000) : n ≤ sizeLine := Nat.le_trans h (by decide)
theorem i_room {n : Nat} {B : Prop} (h : n ≤ sizeLine) (q : B) : n ≤ sizeLine ∧ B := ⟨h, q⟩
theorem iteNT {A B : Prop} (h : B) : if (!true) = true then A else B := h
theorem iteNF {A B : Prop} (h : A) : if (!false) = true then A else B := h
theorem i_cut {t u : TS} {D : Ends} {σ : L2.St} {H : Hp} (Mid : L2.St → Hp → Prop) (h1 : t { D with nx := Mid } σ H) (h2 : ∀ σ' H', Mid σ' H' → u D σ' H') : C8.tCut t u D σ H := ⟨Mid, h1, h2⟩
theorem i_isstr {x : Str} {B : Prop} (h : B) : (∃ a, V.str x = .str a) ∧ B := ⟨⟨x, rfl⟩, h⟩
theorem i_wipe {a b : L2.St} {vs : List Nat} {B : Prop} (h : wipe a vs = wipe b vs) (q : B) : wipe a vs = wipe b vs ∧ B := ⟨h, q⟩
theorem i_rng1 {tA : TA} {σ : L2.St} {H : Hp} {R : It → Hp → Prop} (h : tA σ H fun vs H1 => ∃ j : Int, vs = [.int j] ∧ -(2 ^ 62) ≤ j ∧ j < 2 ^ 62 ∧ R (Itr 0 j.toNat) H1) : iRng1 tA σ H R := h
theorem i_lc {wi : TI} {g : TG} {tt : TT} {te : TE} {vs : List Nat} {σ : L2.St} {H : Hp} {Q : VK} (h : wi σ H fun J H1 => ∀ D, H1 D = none → ∃ W : Nat → Nat → Hp → Prop, (∃ m, W 0 m (upd H1 D (.lst []))) ∧ ∀ i m H, W i m H →
    (J.stop i H ∧ Q (.ref D) H) ∨ (J.go i H ∧ ∃ Nx : Hp → Prop, (∀ H', Nx H' → ∃ m', m' < m ∧ W (i + 1) m' H') ∧ ∀ x H', J.yld i H x H' → g x (wipe σ vs) H' fun σ2 H2 => wipe σ2 vs = wipe σ vs ∧ tt σ2 H2 fun b H3 =>
      if b = true then te σ2 H3 fun y H4 => ∃ acc, H4 D = some (.lst acc) ∧ acc.length < sizeLine ∧ Nx (upd H4 D (.lst (acc ++ [y]))) else Nx H3)) : tLc wi g tt te vs σ H Q := h
theorem Box.ne {H : Hp} {b p : Addr} {n : Nat} (h : Box H b n) (hp : H p = none) : p ≠ b := by
  obtain ⟨x, y, z, h1, _⟩ := h
  exact (ne_of_none h1 hp).symm
theorem Box.upd {H : Hp} {b p : Addr} {n : Nat} {o : HO} (h : Box H b n) (hp : p ≠ b) : Box (upd H p o) b n := by
  obtain ⟨x, y, z, h1, h2⟩ := h
  exact ⟨x, y, z, by rw [upd_ne hp.symm]; exact h1, h2⟩
theorem But.upd {H H' : Hp} {b p : Addr} {o : HO} (e : But b H H') (hp : H p = none) : But b H (upd H' p o) := fun a u n h => by rw [upd_ne (ne_of_none h hp)]; exact e a u n h
theorem Box.new {H : Hp} {b p : Addr} {n : Nat} {o : HO} (h : Box H b n) (hp : H p = none) : Box (L2.upd H p o) b n := h.upd (h.ne hp)
theorem i_list {K : PySem.W.Frag} {te : TE} {σ : L2.St} {H : Hp} {R : It → Hp → Prop} (h : te σ H fun x H1 => ∃ a, x = .ref a ∧ (∃ xs, SqL K H1 a xs) ∧ R (Itl K a) H1) : iList K te σ H R := h
theorem i_revL {K : PySem.W.Frag} {te : TE} {σ : L2.St} {H : Hp} {Q : VK} (h : te σ H fun x H1 => ∃ a xs, x = .ref a ∧ SqL K H1 a xs ∧ ∀ p, H1 p = none → Q (.ref p) (upd H1 p (.lst xs.reverse))) : tRevL K te σ H Q := h
theorem But.to {b : Addr} {H H1 H2 : Hp} (s : Same H H1) (e : But b H1 H2) (hb : H b = none) : Same H H2 := fun a o h => e a o (ne_of_none h hb) (s a o h)
theorem Same.upd {H H' : Hp} {p : Addr} {o : HO} (s : Same H H') (hp : H p = none) : Same H (L2.upd H' p o) := fun a u h => by rw [upd_ne (ne_of_none h hp)]; exact s a u h
theorem i_disp {trs : List (TE × TE)} {σ : L2.St} {H : Hp} {Q : VK} (h : ∀ p, H p = none → tPairs trs σ (upd H p (.dK [])) fun ps H2 => H2 p = some (.dK []) ∧ ∃ kvs : List (Key × V), ps = kvs.map (fun kv => (kV kv.1, kv.2)) ∧ kvs.length ≤ 15 ∧ Q (.ref p) (upd H2 p (.dK (mergeK [] kvs)))) : tDisp trs σ H Q := h
theorem i_pairs0 {σ : L2.St} {H : Hp} {Q : List (V × V) → Hp → Prop} (h : Q [] H) : tPairs [] σ H Q := h
theorem i_pairs {tk tv : TE} {r : List (TE × TE)} {σ : L2.St} {H : Hp} {Q : List (V × V) → Hp → Prop} (h : tk σ H fun x H1 => tv σ H1 fun y H2 => tPairs r σ H2 fun ps H3 => Q ((x, y) :: ps) H3) : tPairs ((tk, tv) :: r) σ H Q := h
theorem i_newK {σ : L2.St} {H : Hp} {Q : VK} (h : ∀ p, H p = none → Q (.ref p) (upd H p (.dK []))) : tDNewK σ H Q := h
theorem i_gtup {K : PySem.W.Frag} {n : Nat} {t : TGs} {a : Addr} {xs : List V} {σ : L2.St} {H : Hp} {Q : L2.St → Hp → Prop} (hS : SqT K H a xs) (hl : xs.length = n) (q : t xs σ H Q) : gTup K n t (.ref a) σ H Q := ⟨a, xs, rfl, hS, hl, q⟩
theorem i_gcons {t : TG} {u : TGs} {v : V} {r : List V} {σ : L2.St} {H : Hp} {Q : L2.St → Hp → Prop} (q : t v σ H fun σ' H' => u r σ' H' Q) : gCons t u (v :: r) σ H Q := ⟨v, r, rfl, q⟩
theorem i_gnil {σ : L2.St} {H : Hp} {Q : L2.St → Hp → Prop} (q : Q σ H) : gNil [] σ H Q := ⟨rfl, q⟩
/-- p is new in H', and holds o -/
structure New (H : Hp) (p : Addr) (o : HO) (H' : Hp) : Prop where
  free : H p = none
  same : Same H H'
  at_ : H' p = some o
theorem New.mk' {H : Hp} {p : Addr} {o : HO} (hp : H p = none) : New H p o (upd H p o) := ⟨hp, Same.new o hp, upd_same⟩
theorem i_new {H : Hp} {o : HO} {G : Addr → Hp → Prop} (h : ∀ p H', New H p o H' → G p H') : ∀ p, H p = none → G p (upd H p o) := fun p hp => h p _ (.mk' hp)
theorem Box.nw {H H' : Hp} {b p : Addr} {n : Nat} {o : HO} (h : Box H b n) (N : New H p o H') : Box H' b n := h.same N.same
theorem Box.off {H H' : Hp} {b p : Addr} {n : Nat} {o : HO} (h : Box H b n) (N : New H p o H') : p ≠ b := h.ne N.free
theorem New.but {H H' : Hp} {b p : Addr} {o : HO} (N : New H p o H') : But b H H' := Same.but N.same
theorem Same.app {H H' : Hp} {a : Addr} {o : HO} (s : Same H H') (h : H a = some o) : H' a = some o := s a o h
theorem But.app {H H' : Hp} {a b : Addr} {o : HO} (s : But b H H') (n : a ≠ b) (h : H a = some o) : H' a = some o := s a o n h
theorem New.app {H H' : Hp} {a p : Addr} {o u : HO} (N : New H p o H') (h : H a = some u) : H' a = some u := N.same a u h
theorem i_cat {H : Hp} {Q : VK} {l b : Addr} {xs zs : List V} (hl : H l = some (.lst xs)) (hb : H b = some (.lst zs)) (hz : xs.length + zs.length ≤ sizeLine) (h : ∀ p, H p = none → Q (.ref p) (upd H p (.lst (xs ++ zs)))) : rCat (.ref l) (.ref b) H Q := ⟨l, b, xs, zs, rfl, rfl, hl, hb, hz, h⟩
theorem New.of {H H' : Hp} {p : Addr} {o : HO} (e : upd H p o = H') (hp : H p = none) : New H p o H' := e ▸ .mk' hp
theorem i_tyL {K : PySem.W.Frag} {H : Hp} {l : Addr} {xs : List V} {B : Prop} (h : H l = some (.lst xs)) (q : B) : tyV K "list" (.ref l) H ∧ B := ⟨.inl ⟨rfl, _, SqL.lst h⟩, q⟩
theorem i_append {H : Hp} {Q : VK} {l : Addr} {xs : List V} {v : V} (h : H l = some (.lst xs)) (hz : xs.length ≤ 100000) (q : Q .non (upd H l (.lst (xs ++ [v])))) : rAppend (.ref l) [v] H Q := ⟨l, xs, v, rfl, rfl, h, Nat.lt_of_le_of_lt hz (by decide), q⟩
theorem i_rng1v {j : Int} {R : It → Hp → Prop} {H : Hp} (h0 : 0 ≤ j) (h1 : j ≤ 1000000) (q : R (Itr 0 j.toNat) H) : ∃ j' : Int, [V.int j] = [.int j'] ∧ -(2 ^ 62) ≤ j' ∧ j' < 2 ^ 62 ∧ R (Itr 0 j'.toNat) H := ⟨j, rfl, by omega, by omega, q⟩
end Ice

set_option Elab.async false
set_option linter.all false
set_option maxRecDepth 100000
set_option maxHeartbeats 4000000
/-! A def's promise where no repr is under way (guards are none): as the layer's, with that one fact more. -/
namespace Ice
open PySem PySem.Spec PyProof.Rows L2
/-- as the layer's promise of a def, called where no repr is under way -/
structure FnG (P : Program) (w : World) (K : PySem.W.Frag) (mg : Str → Option Value) (base : Heap) (X0 : CXT) (k : Nat) (f : Addr) (fd : FuncData) (ps : List Str) (sp : Sp) : Prop where
  len : ∀ vs H Q E, sp vs H Q E → vs.length = ps.length
  run : ∀ (A : Around) (outer : List Env) (s : Shared) (H : Hp) (args : Args) (us : List Value) (vs : List V) (Q : VK) (E : XK),
    Room k A → A.guards = some [] → Env0 P w K mg base A outer s H → BindsTo s fd args (ps.zip us) → Vals vs us → sp vs H Q E →
      codeAny (model P w) A (.call (.ref f) args) (CR X0 outer P w H s Q E) s
section
variable {P : Program} {w : World} {K : PySem.W.Frag} {mg : Str → Option Value} {base : Heap} {X0 : CXT} {k j : Nat} {f : Addr} {fd : FuncData} {ps : List Str} {sp : Sp}
theorem FnG.of (F : FnOk P w K mg base X0 k f fd ps sp) : FnG P w K mg base X0 k f fd ps sp :=
  ⟨F.len, fun A outer s H args us vs Q E hr _ => F.run A outer s H args us vs Q E hr⟩
theorem FnG.mono (F : FnG P w K mg base X0 j f fd ps sp) (h : j ≤ k) : FnG P w K mg base X0 k f fd ps sp :=
  ⟨F.len, fun A outer s H args us vs Q E hr => F.run A outer s H args us vs Q E (hr.mono h)⟩
/-- a def of the text by its body, told where no repr is under way -/
theorem fn_ofG {name qual : Str} {params : Arguments} {body : List Stmt} {scope : Scope} {dV kV doc pm cdv ct oc : Value} {an od : Option Addr} {osl : Array (Option Value)} {N : List Str}
    (lk : K.lookup f = some ⟨oc, od, .func (PySem.W.fnOf name qual params body scope dV kV doc pm an cdv ct), osl⟩) (hcd : PySem.W.codeIn K cdv qual = true)
    (S : FnScope N ps scope) (len : ∀ vs H Q E, sp vs H Q E → vs.length = ps.length)
    (hbody : ∀ (A : Around) (outer : List Env) (s : Shared) (H : Hp) (vs : List V) (Q : VK) (E : XK), Room k (A.deeper (envOfC qual scope s.heap.objs.size f cdv)) → A.guards = some [] → sp vs H Q E →
      ∃ t, PSs (cxOf X0 P w K mg base N qual scope f cdv A outer s H E) body t ∧ t { nx := fun _ H' => Q .non H', rt := Q } (start N vs) H) :
    FnG P w K mg base X0 (k + 1) f (PySem.W.fnOf name qual params body scope dV kV doc pm an cdv ct) ps sp := by
  refine ⟨len, fun A outer s H args us vs Q E hr hgd e0 hb r hsp => ?_⟩
  have hl := len _ _ _ _ hsp
  have KX : K.In s.heap := e0.mod.kin.keeps (fun b o e => And.left (e0.bs b o e))
  have lim : s.heap.NoLimit := e0.mod.nolimit.keeps (fun b o e => And.left (e0.bs b o e))
  have hk2 : ∀ y ∈ ps.zip us, scope.names.lookup y.1 = some .local ∨
      (scope.names.lookup y.1 = some .cell ∧ ((cellsFrom (s.heap.objs.size + 1) scope.names []).lookup y.1).isSome = true) := by
    rintro ⟨n, v⟩ hy
    rcases S.par n (List.of_mem_zip hy).1 with q | q
    · exact Or.inl q
    · exact Or.inr ⟨q, PySem.W.cellsFrom_some _ _ _ (Or.inl q)⟩
  refine codeAny_call_function hr.depth (KX _ _ lk) rfl S.co S.gen rfl (PySem.W.codeRec_of KX hcd) (hb _ _ _ _ (wpAny_newFunctionEnv_cells S.kind hk2 (fun env he s1 x => ?_)))
  subst he
  refine And.intro (lim.keeps x.toInCall.keep) (codeAny_func ?_)
  obtain ⟨t, ht, hq⟩ := hbody A outer s H vs Q E (hr.deeper _) hgd hsp
  have I := inv_start (CX := X0) (P := P) (w := w) (K := K) (mg := mg) (base := base) (f := f) (cd := cdv) (A := A) (outer := outer) (E := E) S hr.hd e0 hl r x
  refine wpAny_mono (ht.run [] s1 (start N vs) H _ I hq) (fun fl s' hs => ?_) (fun e s' hs => hs)
  cases fl with
  | ret u => obtain ⟨v, σ', H', J, rv, q⟩ := hs; exact ⟨v, H', J.os, J.bare, J.base, J.hok, rv, q⟩
  | next => obtain ⟨σ', H', J, q⟩ := hs; exact ⟨V.non, H', J.os, J.bare, J.base, J.hok, rfl, q⟩
  | brk => obtain ⟨_, _, _, q⟩ := hs; exact q.elim
  | cont => obtain ⟨_, _, _, q⟩ := hs; exact q.elim
end
section
variable {P : Program} {w : World} {K : PySem.W.Frag} {mg : Str → Option Value} {base : Heap} {x qual : Str} {st : Stmt} {f : Addr} {fd : FuncData} {N ps : List Str} {k : Nat} {sp : Sp}
theorem okG (F : Fun K x qual st f fd) (S : FnScope N ps (defScope st)) (len : ∀ vs H Q E, sp vs H Q E → vs.length = ps.length)
    (hbody : ∀ (cdv : Value) (A : Around) (outer : List Env) (s : Shared) (H : Hp) (vs : List V) (Q : VK) (E : XK), Room k (A.deeper (envOfC qual (defScope st) s.heap.objs.size f cdv)) → A.guards = some [] → sp vs H Q E →
      ∃ t, PSs (cxOf CX0 P w K mg base N qual (defScope st) f cdv A outer s H E).nox (defBody st) t ∧ t { nx := fun _ H' => Q .non H', rt := Q } (start N vs) H) :
    FnG P w K mg base CX0 (k + 1) f fd ps sp := by
  obtain ⟨oc, od, kV, doc, pm, an, cdv, ct, osl, rfl, lk, hcd⟩ := F.ex
  refine fn_ofG lk hcd S len (fun A outer s H vs Q E hr hgd hsp => ?_)
  obtain ⟨t, h, q⟩ := hbody cdv A outer s H vs Q E hr hgd hsp
  exact ⟨t, h.nox, q⟩
theorem okGX (F : Fun K x qual st f fd) (S : FnScope N ps (defScope st)) (len : ∀ vs H Q E, sp vs H Q E → vs.length = ps.length)
    (hbody : ∀ (cdv : Value) (A : Around) (outer : List Env) (s : Shared) (H : Hp) (vs : List V) (Q : VK) (E : XK), Room k (A.deeper (envOfC qual (defScope st) s.heap.objs.size f cdv)) → A.guards = some [] → sp vs H Q E →
      ∃ t, PSs (cxOf (L2.CX P w) P w K mg base N qual (defScope st) f cdv A outer s H E) (defBody st) t ∧ t { nx := fun _ H' => Q .non H', rt := Q } (start N vs) H) :
    FnG P w K mg base (L2.CX P w) (k + 1) f fd ps sp := by
  obtain ⟨oc, od, kV, doc, pm, an, cdv, ct, osl, rfl, lk, hcd⟩ := F.ex
  exact fn_ofG lk hcd S len (fun A outer s H vs Q E hr hgd hsp => hbody cdv A outer s H vs Q E hr hgd hsp)
end
/-! ### calls of such defs -/
section
variable {X : Cx} {X0 : CXT} {k : Nat} {f C : Addr} {fd : FuncData} {ps : List Str} {sp : Sp} {dvs : List V} {ds : List Value} {E : XK} {x m : Str} {p pos apos : Pos} {e o : Expr} {es : List Expr} {ta : TE} {t : TA}
theorem run_g {pins : List (Addr × Obj)} {σ : L2.St} {H : Hp} {s : Shared} {Q : VK} {us : List Value} {vs : List V} (F : FnG X.prog X.w X.K X.mg X.base X0 k f fd ps sp) (hr : Room k X.A) (hgd : X.A.guards = some [])
    (hb : Binds X.K fd ps ds) (hd : Vals dvs ds) (hx : Passes X0 X E) (I : Inv X pins σ H s) (r : Vals vs us) (h : sp (vs ++ dvs) H Q E) :
    wpAny (model X.prog X.w) X.A (call (.ref f) us) (EP X pins σ Q) X.xe s := by
  have r2 := Vals.append r hd
  have hl : (us ++ ds).length = ps.length := (Vals.length r2).symm.trans (F.len _ _ _ _ h)
  refine wpAny_call (codeAny_mono (F.run X.A X.stack s H ⟨us, []⟩ (us ++ ds) (vs ++ dvs) Q E hr hgd I.env0 (hb s us I.kIn hl) r2 h) (fun r s' hq => ?_))
  match r, hq with
  | .error e, hq => exact hx pins σ H s e s' I hq
  | .ok (.ret u), hq => exact I.after hq
  | .ok .next, hq => exact False.elim hq
  | .ok .brk, hq => exact False.elim hq
  | .ok .cont, hq => exact False.elim hq
theorem g_call (F : FnG X.prog X.w X.K X.mg X.base X0 k f fd ps sp) (hr : Room k X.A) (hgd : X.A.guards = some []) (hg : Gl X x) (hm : X.mg x = some (.ref f)) (hk : PySem.W.keepIn X.K (.ref f) = true) (hb : Binds X.K fd ps ds) (hd : Vals dvs ds)
    (hx : Passes X0 X E) (ha : PA X (e :: es) t) (hdb : (x == ("__debug__" : Str)) = false := by decide) (he : starEach (e :: es) X.env = (false, eval e X.env) :: starEach es X.env := by rfl)
    (hpl : (backTo pos (starEach es X.env)).any (·.1) = false := by rfl) : PE X (.Call (.Name x p) (e :: es) [] pos) (tCall sp dvs E t) := by
  constructor
  intro pins s σ H Q I h
  refine wpAny_Call_Name_kw (ld_glob I hg hm (PySem.W.callWith_K (h₀ := X.base) I.ok.mod.kin hk ?_ he hpl) hdb)
  exact thn (ha.run pos pins s σ H _ I h) (fun us s1 ⟨vs, H1, I1, r, q⟩ => ⟨I1.kIn, run_g F hr hgd hb hd hx I1 r q⟩)
theorem g_call0 (F : FnG X.prog X.w X.K X.mg X.base X0 k f fd ps sp) (hr : Room k X.A) (hgd : X.A.guards = some []) (hg : Gl X x) (hm : X.mg x = some (.ref f)) (hk : PySem.W.keepIn X.K (.ref f) = true) (hb : Binds X.K fd ps ds) (hd : Vals dvs ds)
    (hx : Passes X0 X E) (hdb : (x == ("__debug__" : Str)) = false := by decide) : PE X (.Call (.Name x p) [] [] pos) (tCall sp dvs E tNil) := by
  constructor
  intro pins s σ H Q I h
  exact wpAny_Call_Name_kw (ld_glob I hg hm (PySem.W.callWith_K0 I.kIn hk (run_g (us := []) F hr hgd hb hd hx I .nil h)) hdb)
theorem g_meth {pl : Sem Bool} (he : PE X o ta) (c : Cls X.K C) (hm : Meth X.K C m f) (F : FnG X.prog X.w X.K X.mg X.base X0 k f fd ps sp) (hr : Room k X.A) (hgd : X.A.guards = some []) (hb : Binds X.K fd ps ds) (hd : Vals dvs ds)
    (hx : Passes X0 X E) (ha : PA X (e :: es) t) (hst : starEach (e :: es) X.env = (false, eval e X.env) :: starEach es X.env := by rfl) (hpl : (backTo pos (starEach es X.env)).any (·.1) = false := by rfl)
    (ht : eval (.Call (.Attribute o m apos) (e :: es) [] pos) X.env =
      (do let ov ← eval o X.env; standAt apos.atName; let (f, first) ← holding [ov] (getMethod ov m pl); callWith pos f first (backTo pos (starEach (e :: es) X.env)) (backToKw pos (keywordEach [] X.env))) := by rfl) :
    PE X (.Call (.Attribute o m apos) (e :: es) [] pos) (tMeth C m sp dvs E ta t) := by
  constructor
  intro pins s σ H Q I h
  refine PySem.W.methodCall_KW (pl := pl) (thn (he.run pins s σ H _ I h) (fun u s1 ⟨x, H1, I1, rx, a, dx, fs, ex, ea, l, q⟩ => ?_)) ht
  subst ex
  cases (show u = Value.ref a from rx)
  refine getmeth_ok I1 ea c hm l (PySem.W.callWith_K (first := [.ref a]) (h₀ := X.base) I.ok.mod.kin hm.kp ?_ hst hpl)
  exact thn (ha.run pos pins s1 σ H1 _ I1 q) (fun us s2 ⟨vs, H2, I2, r, q2⟩ => ⟨I2.kIn, run_g (us := .ref a :: us) (vs := .ref a :: vs) F hr hgd hb hd hx I2 (.cons rfl r) q2⟩)
theorem g_meth0 {pl : Sem Bool} (he : PE X o ta) (c : Cls X.K C) (hm : Meth X.K C m f) (F : FnG X.prog X.w X.K X.mg X.base X0 k f fd ps sp) (hr : Room k X.A) (hgd : X.A.guards = some []) (hb : Binds X.K fd ps ds) (hd : Vals dvs ds)
    (hx : Passes X0 X E)
    (ht : eval (.Call (.Attribute o m apos) [] [] pos) X.env =
      (do let ov ← eval o X.env; standAt apos.atName; let (f, first) ← holding [ov] (getMethod ov m pl); callWith pos f first (backTo pos (starEach [] X.env)) (backToKw pos (keywordEach [] X.env))) := by rfl) :
    PE X (.Call (.Attribute o m apos) [] [] pos) (tMeth C m sp dvs E ta tNil) := by
  constructor
  intro pins s σ H Q I h
  refine PySem.W.methodCall_KW (pl := pl) (thn (he.run pins s σ H _ I h) (fun u s1 ⟨x, H1, I1, rx, a, dx, fs, ex, ea, l, q⟩ => ?_)) ht
  subst ex
  cases (show u = Value.ref a from rx)
  exact getmeth_ok I1 ea c hm l (PySem.W.callWith_K0 (first := [.ref a]) I1.kIn hm.kp (run_g (us := [.ref a]) (vs := [.ref a]) F hr hgd hb hd hx I1 (.cons rfl .nil) q))
theorem make_guards {A : Around} {C : Addr} {us : List Value} {kw : List (Str × Value)} (h : A.guards = some []) : (A.under (.builtin "type.__call__" ⟨.ref C :: us, kw⟩)).guards = some [] := by
  show pushGuards (Code.guards (.builtin "type.__call__" ⟨.ref C :: us, kw⟩)) A.guards = some []
  rw [h]; rfl
theorem run_mk {pins : List (Addr × Obj)} {σ : L2.St} {H : Hp} {s : Shared} {Q : VK} {us : List Value} {vs : List V} (M : Mk X.K C f) (F : FnG X.prog X.w X.K X.mg X.base X0 k f fd ps sp) (hr : Room (k + 1) X.A) (hgd : X.A.guards = some [])
    (hb : Binds X.K fd ps ds) (hd : Vals dvs ds) (hx : Passes X0 X E) (I : Inv X pins σ H s) (r : Vals vs us)
    (h : ∀ x dx, H x = none → H dx = none → dx ≠ x → sp (.ref x :: (vs ++ dvs)) (upd (upd H dx (.own x)) x (.ins C dx [])) (fun v H2 => v = .non ∧ Q (.ref x) H2) E) :
    wpAny (model X.prog X.w) X.A (call (.ref C) us) (EP X pins σ Q) X.xe s := by
  have hq := h (s.heap.objs.size + 1) s.heap.objs.size (I.hok.fresh (Nat.le_succ _)) (I.hok.fresh (Nat.le_refl _)) (by simp)
  have I2 := Inv.made (C := C) I
  have r2 : Vals (V.ref (s.heap.objs.size + 1) :: (vs ++ dvs)) (Value.ref (s.heap.objs.size + 1) :: (us ++ ds)) := .cons rfl (Vals.append r hd)
  have hl : (Value.ref (s.heap.objs.size + 1) :: us ++ ds).length = ps.length := (Vals.length r2).symm.trans (F.len _ _ _ _ hq)
  have run := F.run _ X.stack _ _ ⟨Value.ref (s.heap.objs.size + 1) :: us, []⟩ (Value.ref (s.heap.objs.size + 1) :: (us ++ ds)) _ _ E (hr.make C us []) (make_guards hgd) (I2.env0.make C us [])
    (hb _ (Value.ref (s.heap.objs.size + 1) :: us) I2.kIn hl) r2 hq
  refine wpAny_call (make_map (f := f) I.kIn M.makes M.init (beq_iff_eq.mp M.fn) (codeAny_mono run (fun r s' hq' => ?_)))
  match r, hq' with
  | .error e, hq' => exact hx pins σ _ _ e s' I2 hq'
  | .ok (.ret u), hq' =>
    obtain ⟨v, H', I3, rv, ev, q3⟩ := I2.after hq'
    subst ev
    exact ⟨rv, V.ref (s.heap.objs.size + 1), H', I3, rfl, q3⟩
  | .ok .next, hq' => exact False.elim hq'
  | .ok .brk, hq' => exact False.elim hq'
  | .ok .cont, hq' => exact False.elim hq'
theorem g_make (M : Mk X.K C f) (F : FnG X.prog X.w X.K X.mg X.base X0 k f fd ps sp) (hr : Room (k + 1) X.A) (hgd : X.A.guards = some []) (hg : Gl X x) (hm : X.mg x = some (.ref C)) (hb : Binds X.K fd ps ds) (hd : Vals dvs ds) (hx : Passes X0 X E)
    (ha : PA X (e :: es) t) (hdb : (x == ("__debug__" : Str)) = false := by decide) (he : starEach (e :: es) X.env = (false, eval e X.env) :: starEach es X.env := by rfl)
    (hpl : (backTo pos (starEach es X.env)).any (·.1) = false := by rfl) : PE X (.Call (.Name x p) (e :: es) [] pos) (tMake C sp dvs E t) := by
  constructor
  intro pins s σ H Q I h
  refine wpAny_Call_Name_kw (ld_glob I hg hm (PySem.W.callWith_K (h₀ := X.base) I.ok.mod.kin M.kp ?_ he hpl) hdb)
  exact thn (ha.run pos pins s σ H _ I h) (fun us s1 ⟨vs, H1, I1, r, q⟩ => ⟨I1.kIn, run_mk M F hr hgd hb hd hx I1 r q⟩)
end
end Ice

set_option Elab.async false
set_option linter.all false
set_option maxRecDepth 100000
set_option maxHeartbeats 4000000
/-! The law's own call, where its def is told with no repr under way. -/
namespace Ice
open PySem PySem.Spec PyProof.Rows L2
section
variable {P : Program} {w : World} {K : PySem.W.Frag} {mg mb : Str → Option Value} {X0 : CXT} {k : Nat} {fa a : Addr} {fd : FuncData} {x : Str} {sp : Sp} {s : Shared} {vs : List Value} {ns : List Int}
/-- the heap at the law's entry, where at most the script at a is tracked -/
theorem law_at (KX : K.In s.heap) (hns : s.heap.Ns mainGlobals mg) (hb : s.heap.Ns builtinsNs mb) (hbb : ∀ y : Str, y ≠ "__name__" → mb y = bootBuiltins y) (hlim : s.heap.NoLimit) (hg : s.gens = #[])
    (ha : s.heap.get? a = some { cls := .type "list", data := .seq vs.toArray }) (hr : Room k callerA)
    (F : ∀ base : Heap, K.In base → base.Ns mainGlobals mg → FnG P w K mg base X0 k fa fd [x] sp) (hbind : ∀ (s : Shared) (u : Value), BindsTo s fd ⟨[u], []⟩ [(x, u)])
    (hX : ∀ H e s', X0 [] H s (fun _ _ _ => False) e s' → False) (H : Hp) (hO : Only H) (hsp : sp [.ref a] H (fun v _ => v = .bl true) fun _ _ _ => False)
    (ok : HOk P w H s.heap) (hA : ∀ b u, H b = some u → b = a) (hK : ∀ u, H a = some u → K.lookup a = none) :
    codeAny (model P w) callerA (.call (.ref fa) ⟨[.ref a], []⟩) (fun r s' => r = .ok (.ret (.bool true)) ∧ OldK s.heap s'.heap ∧ s'.os = s.os ∧ AllBare s'.gens) s := by
  -- a dict's object is not the script's
  have nd : ∀ {b : Addr} {o : Obj} {es : Array DictEntry} {ep : Nat}, s.heap.get? b = some o → o.data = .dict es ep → H b = none := by
    intro b o es ep e d
    match q : H b with
    | none => rfl
    | some u =>
      cases hA b u q
      rw [ha] at e
      cases e
      cases (show Data.seq vs.toArray _ = Data.dict es ep from d)
  have up : ∀ {b : Addr} {m : Str → Option Value}, s.heap.Ns b m → (hidT s.heap H).Ns b m := by
    rintro b m ⟨o, es, ep, e, d, r⟩
    exact ⟨o, es, ep, hidT_get e (nd e d), d, r⟩
  have KB : K.In (hidT s.heap H) := by
    intro b o e
    refine hidT_get (KX b o e) ?_
    match q : H b with
    | none => rfl
    | some u =>
      cases hA b u q
      rw [hK u q] at e
      cases e
  have md : Mod K mg (hidT s.heap H) := by
    obtain ⟨mc, l1, l2⟩ := hlim
    exact ⟨KB, up hns, ⟨mb, up hb, hbb⟩, mc, up l1, l2⟩
  have e0 : Env0 P w K mg (hidT s.heap H) callerA [] s H := by
    refine ⟨rfl, md, fun b o e => of_hidT e, Nat.le_of_eq (hidT_size _ _), trivial, ?_, ok, .of_eq hg⟩
    intro b z
    cases (show b ∈ ([] : List Addr) from z)
  have R := (F (hidT s.heap H) KB (up hns)).run callerA [] s H ⟨[.ref a], []⟩ [.ref a] [.ref a] _ _ hr rfl e0 (hbind s (.ref a)) (.cons rfl .nil) hsp
  refine codeAny_mono R ?_
  intro r s' h
  match r, h with
  | .error e, h => exact (hX H e s' h).elim
  | .ok .next, h => exact False.elim h
  | .ok .brk, h => exact False.elim h
  | .ok .cont, h => exact False.elim h
  | .ok (.ret u), h =>
    obtain ⟨v, H', os, bare, un, ok', r', q⟩ := h
    cases (show v = V.bl true from q)
    cases (show u = Value.bool true from r')
    refine ⟨rfl, OldK.of_keep ?_, os, bare⟩
    intro b o e
    match q : H b with
    | none => exact un.keep b o e q (fun z => by cases (show b ∈ ([] : List Addr) from z)) (by simp)
    | some u =>
      rcases hO b with z | ⟨ob, xs, z⟩
      · rw [q] at z; cases z
      · have e1 := (ok b _ z).1
        have e2 := (ok' b _ (un.frzs b ob _ z)).1
        rw [e] at e1
        cases e1
        exact e2
theorem law_callG (KX : K.In s.heap) (hns : s.heap.Ns mainGlobals mg) (hb : s.heap.Ns builtinsNs mb) (hbb : ∀ y : Str, y ≠ "__name__" → mb y = bootBuiltins y) (hlim : s.heap.NoLimit) (hg : s.gens = #[])
    (ha : s.heap.get? a = some { cls := .type "list", data := .seq vs.toArray }) (hi : IntsAre vs ns) (hl : ns.length ≤ sizeLine) (hr : Room k callerA)
    (F : ∀ base : Heap, K.In base → base.Ns mainGlobals mg → FnG P w K mg base X0 k fa fd [x] sp) (hbind : ∀ (s : Shared) (u : Value), BindsTo s fd ⟨[u], []⟩ [(x, u)])
    (hsp : ∀ H : Hp, Only H → SqL K H a (ns.map V.int) → sp [.ref a] H (fun v _ => v = .bl true) fun _ _ _ => False) (hX : ∀ H e s', X0 [] H s (fun _ _ _ => False) e s' → False) :
    codeAny (model P w) callerA (.call (.ref fa) ⟨[.ref a], []⟩) (fun r s' => r = .ok (.ret (.bool true)) ∧ OldK s.heap s'.heap ∧ s'.os = s.os ∧ AllBare s'.gens) s := by
  have rv := vals_ints hi
  have lv : vs.length = ns.length := hi.length
  match hk : K.lookup a with
  | some o =>
    have e := KX a o hk
    rw [ha] at e
    cases e
    have hS : SqL K (fun _ => none) a (ns.map V.int) := .inr ⟨_, vs.toArray, _, hk, rfl, rfl, rfl, (by rw [List.size_toArray, lv]; exact hl), by simpa using rv⟩
    have z : ∀ (b : Addr) (u : HO), ((fun _ => none : Hp) b = some u) → False := fun _ _ h => by cases h
    exact law_at KX hns hb hbb hlim hg ha hr F hbind hX _ (fun _ => .inl rfl) (hsp _ (fun _ => .inl rfl) hS) (fun b u q => (z b u q).elim) (fun b u q => (z b u q).elim) (fun u q => (z a u q).elim)
  | none =>
    let o : HO := .frz { cls := .type "list", data := .seq vs.toArray } (.lst (ns.map V.int))
    let H : Hp := fun b => if b = a then some o else none
    have at_a : H a = some o := if_pos rfl
    have only : ∀ b u, H b = some u → b = a ∧ u = o := by
      intro b u q
      by_cases e : b = a
      · subst e; rw [at_a] at q; exact ⟨rfl, (Option.some.inj q).symm⟩
      · rw [show H b = none from if_neg e] at q; cases q
    have hO : Only H := by
      intro b
      by_cases e : b = a
      · subst e; exact .inr ⟨_, _, at_a⟩
      · exact .inl (if_neg e)
    have hok : HOk P w H s.heap := by
      intro b u q
      obtain ⟨rfl, rfl⟩ := only b u q
      exact ⟨ha, by rw [List.length_map]; exact hl, vs, _, rv, ha⟩
    exact law_at KX hns hb hbb hlim hg ha hr F hbind hX H hO (hsp H hO (.inl (.inr ⟨_, at_a⟩))) hok (fun b u q => (only b u q).1) (fun _ _ => hk)
end
/-- the end of a law, with the bits of its script told -/
theorem walkG {l : PySem.W.OpenLaw} {n k : Nat} {q : Program} {loose : List Str} {XP : (Str → Option Value) → Heap → Prop} {YP : World → Heap → Prop} {d : DefRec} {K : Params → PySem.W.Frag} {sp : PySem.W.Frag → Sp} {x : Str}
    (hn : l.most = some n) (hn2 : n ≤ sizeLine) (hdf : d.params.defaults = []) (hr : Room k callerA) (hY : ∀ (w : World) (h : Heap), YP w h → (K w.params).In h)
    (F : ∀ (w : World) (mg : Str → Option Value) (fa : Addr) (h : Heap), (K w.params).In h → h.Ns mainGlobals mg → mg d.name = some (.ref fa) →
      ∃ fd : FuncData, (∀ (s : Shared) (u : Value), BindsTo s fd ⟨[u], []⟩ [(x, u)]) ∧
        ∀ base : Heap, (K w.params).In base → base.Ns mainGlobals mg → FnG l.prog w (K w.params) mg base CX0 k fa fd [x] (sp (K w.params)))
    (hsp : ∀ (K : PySem.W.Frag) (H : Hp) (a : Addr) (ns : List Int), ns.length ≤ n → (∀ z ∈ ns, Builtin.Int.intBits z ≤ 1048576) → Only H → SqL K H a (ns.map V.int) → sp K [.ref a] H (fun v _ => v = .bl true) fun _ _ _ => False) :
    PySem.W.WalkO q loose XP YP l.row.toRowW d [] (fun f vs => PySem.call f vs) := by
  refine Att.attach_callB hn hdf (fun w s₀ s₁ mg mb fa o pm cd doc a vs ns G Y ho hd hcd hmg hobj hints hlen hbits hg => ?_)
  obtain ⟨fd, hb, hF⟩ := F w mg fa _ (hY w _ Y) G.T.g hmg
  exact law_callG (hY w _ Y) G.T.g G.T.b G.T.builtins G.T.nolimit hg hobj hints (Nat.le_trans hlen hn2) hr hF hb (fun H hO hS => hsp _ H a ns hlen hbits hO hS) (fun H e s' h => h)
end Ice

set_option Elab.async false
set_option linter.all false
set_option maxRecDepth 100000
set_option maxHeartbeats 4000000
/-! repr of data at any depth, dicts of plain things within tuples among them. -/
namespace Ice
open PySem PySem.Spec PyProof.Rows L2
/-- a plain thing -/
inductive Ds : V → PyData → Prop
  | non : Ds .non .none
  | bl (b : Bool) : Ds (.bl b) (.bool b)
  | int (i : Int) : Ds (.int i) (.int i)
  | str (x : Str) : Ds (.str x) (.str x)
def kD : Key → PyData
  | .inl i => .int i
  | .inr x => .str x
mutual
/-- data without lists; dicts hold plain things -/
inductive Dd (K : PySem.W.Frag) (H : Hp) : V → PyData → Prop
  | sc {v : V} {d : PyData} : Ds v d → Dd K H v d
  | tup {a : Addr} {xs : List V} {ds : List PyData} : SqT K H a xs → DdAll K H xs ds → Dd K H (.ref a) (.tuple ds)
  | dct {a : Addr} {kvs : List (Key × V)} {ds : List PyData} : H a = some (.dK kvs) → Paired Ds (kvs.map (·.2)) ds → Dd K H (.ref a) (.dict ((kvs.map fun kv => kD kv.1).zip ds))
inductive DdAll (K : PySem.W.Frag) (H : Hp) : List V → List PyData → Prop
  | nil : DdAll K H [] []
  | cons {v : V} {vs : List V} {d : PyData} {ds : List PyData} : Dd K H v d → DdAll K H vs ds → DdAll K H (v :: vs) (d :: ds)
end
theorem Ds.reads {h : Heap} {v : V} {u : Value} {d : PyData} (s : Ds v d) (r : RelV v u) : Reads h u d [] := by
  cases s with
  | non => cases (show u = .none from r); exact .none
  | bl b => cases (show u = .bool b from r); exact .bool b
  | int i => obtain ⟨t, rfl⟩ := (show ∃ t, u = .int i t from r); exact .int i t
  | str x => obtain ⟨t, rfl⟩ := (show ∃ t, u = .str x t from r); exact .str x t
theorem Ds.readsAll {h : Heap} : ∀ {vs : List V} {us : List Value} {ds : List PyData}, Paired Ds vs ds → Vals vs us → ReadsAll h us ds []
  | [], _, _, .nil, .nil => .nil
  | _ :: _, _, _, .cons s t, .cons r q => .cons (Ds.reads s r) (Ds.readsAll t q)
theorem kD_reads {h : Heap} {k : Key} {u : Value} (e : keyIs k u = true) : Reads h u (kD k) [] := by
  rcases keyIs_shape e with ⟨i, t, rfl, rfl⟩ | ⟨x, t, rfl, rfl⟩
  · exact .int i t
  · exact .str x t
theorem kv_reads {P : Program} {w : World} {h : Heap} {es : List DictEntry} {us : List (Key × Value)} (p : Pairs (mixKind P w) es us) : ∀ (kvs : List (Key × V)) (ds : List PyData), KV kvs us → Paired Ds (kvs.map (·.2)) ds →
    ReadsAll h (es.map (·.key)) (((kvs.map fun kv => kD kv.1).zip ds).map (·.1)) [] ∧ ReadsAll h (es.map (·.val)) (((kvs.map fun kv => kD kv.1).zip ds).map (·.2)) [] := by
  induction p with
  | nil =>
    intro kvs ds hk hd
    cases kvs with
    | cons _ _ => cases hk
    | nil => exact ⟨.nil, .nil⟩
  | @cons e u es us h1 h2 h3 ih =>
    intro kvs ds hk hd
    cases kvs with
    | nil => cases hk
    | cons kv kvs =>
      cases hk with
      | cons e1 hk =>
        cases ds with
        | nil => cases hd
        | cons d ds =>
          cases hd with
          | cons s1 hd =>
            obtain ⟨r1, r2⟩ := ih kvs ds hk hd
            have k1 : keyIs kv.1 e.key = true := by rw [e1.1]; exact h1
            have v1 : RelV kv.2 e.val := by rw [h2]; exact e1.2
            exact ⟨ReadsAll.cons (as := []) (kD_reads k1) r1, ReadsAll.cons (as := []) (Ds.reads s1 v1) r2⟩
section
variable {X : Cx} {pins : List (Addr × Obj)} {σ : L2.St} {H : Hp} {s : Shared}
mutual
theorem Dd.reads (I : Inv X pins σ H s) : ∀ (d : PyData) (v : V) (u : Value), Dd X.K H v d → RelV v u → ∃ as, Reads s.heap u d as ∧ sysModules ∉ as
  | d, v, u, .sc z, r => ⟨[], z.reads r, by simp⟩
  | .tuple ds, _, u, .tup (a := a) hs ha, r => by
    cases (show u = .ref a from r)
    obtain ⟨its, rv, ⟨o, ho, hc, n, hd⟩, _⟩ := I.tuple hs
    obtain ⟨as, hr, hn⟩ := Dd.readsAll I ds _ its ha rv
    exact ⟨as, Reads.tuple ho hc hd hr, hn⟩
  | .dict _, _, u, .dct (a := a) (kvs := kvs) hk hd, r => by
    cases (show u = .ref a from r)
    obtain ⟨_, hn, us, rv, o, es, ep, e1, e2, e3, _, e4, _⟩ := I.hok a _ hk
    obtain ⟨r1, r2⟩ := kv_reads (h := s.heap) e4 _ _ rv hd
    refine ⟨_, Reads.dict (n := ep) e1 e2.1 e3 r1 r2, ?_⟩
    intro z
    have : sysModules = a := by simpa using z
    rw [this] at hn
    simp at hn
theorem Dd.readsAll (I : Inv X pins σ H s) : ∀ (ds : List PyData) (vs : List V) (us : List Value), DdAll X.K H vs ds → Vals vs us → ∃ as, ReadsAll s.heap us ds as ∧ sysModules ∉ as
  | [], _, _, .nil, .nil => ⟨_, .nil, by simp⟩
  | d :: ds, _, _, .cons h1 h2, .cons r1 r2 => by
    obtain ⟨as, q1, n1⟩ := Dd.reads I d _ _ h1 r1
    obtain ⟨bs, q2, n2⟩ := Dd.readsAll I ds _ _ h2 r2
    exact ⟨_, .cons q1 q2, by simp [n1, n2]⟩
end
mutual
theorem Dp.noDict {K : PySem.W.Frag} {H : Hp} : ∀ (d : PyData) (v : V), Dp K H v d → d.hasDict = false
  | .none, _, _ => rfl
  | .bool _, _, _ => rfl
  | .int _, _, _ => rfl
  | .str _, _, _ => rfl
  | .list ds, _, h => by
    cases h with
    | lst hs ha => exact Dp.noDictAll ds _ ha
  | .tuple ds, _, h => by
    cases h with
    | tup hs ha => exact Dp.noDictAll ds _ ha
  | .dict _, _, h => by cases h
theorem Dp.noDictAll {K : PySem.W.Frag} {H : Hp} : ∀ (ds : List PyData) (vs : List V), DpAll K H vs ds → PyData.hasDictAll ds = false
  | [], _, _ => rfl
  | d :: ds, _, h => by
    cases h with
    | cons h1 h2 => rw [PyData.hasDictAll, Dp.noDict d _ h1, Dp.noDictAll ds _ h2]; rfl
end
end
/-- what repr tells -/
def Rp (K : PySem.W.Frag) (H : Hp) (v : V) (d : PyData) : Prop := (Dp K H v d ∨ Dd K H v d) ∧ d.showable = true ∧ d.depth ≤ 100 ∧ d.shown.length ≤ sizeLine
def rRepr (K : PySem.W.Frag) : List V → Hp → VK → Prop := fun xs H Q => ∃ v d, xs = [v] ∧ Rp K H v d ∧ Q (.str d.shown) H
theorem i_repr {K : PySem.W.Frag} {H : Hp} {Q : VK} {v : V} {d : PyData} (h : Rp K H v d) (q : Q (.str d.shown) H) : rRepr K [v] H Q := ⟨v, d, rfl, h, q⟩
section
variable {X : Cx}
theorem c_repr (hgd : X.A.guards = some []) (hu : X.A.units + 110 < cLine) : CallR X (.builtin "repr") (rRepr X.K) := by
  intro pins s σ H xs us Q I r h
  obtain ⟨v, d, rfl, ⟨hD, hs, hp, hz⟩, q⟩ := h
  obtain ⟨u, rfl, rx⟩ := vals1 r
  have red : ∃ as, Reads s.heap u d as ∧ (d.hasDict = true → sysModules ∉ as) := by
    rcases hD with hD | hD
    · obtain ⟨as, h1⟩ := Dp.reads I d v u hD rx
      exact ⟨as, h1, fun z => by rw [Dp.noDict d v hD] at z; cases z⟩
    · obtain ⟨as, h1, h2⟩ := Dd.reads I d v u hD rx
      exact ⟨as, h1, fun _ => h2⟩
  obtain ⟨as, rd, hsm⟩ := red
  have fin : ∀ (tk : Nat), EP X pins σ Q (.str d.shown s.toks) { s with toks := tk } := fun tk => ⟨.str d.shown, H, I.tok _, ⟨_, rfl⟩, q⟩
  cases rd with
  | none => exact P.repr_of_none (fin _)
  | bool b => exact P.repr_of_bool (fin _)
  | int i t => exact P.repr_of_int (of_decide_eq_true hs) (fin _)
  | str x t => exact P.repr_of_str (fin _) hz
  | list h1 h2 h3 h4 => exact repr_of_reads' (.list h1 h2 h3 h4) hs hsm hgd (by omega) (fun _ _ e => e) (fun h' t tk hk => ⟨.str _, H, I.kept hk, ⟨_, rfl⟩, q⟩) hz
  | tuple h1 h2 h3 h4 => exact repr_of_reads' (.tuple h1 h2 h3 h4) hs hsm hgd (by omega) (fun _ _ e => e) (fun h' t tk hk => ⟨.str _, H, I.kept hk, ⟨_, rfl⟩, q⟩) hz
  | dict h1 h2 h3 h4 h5 => exact repr_of_reads' (.dict h1 h2 h3 h4 h5) hs hsm hgd (by omega) (fun _ _ e => e) (fun h' t tk hk => ⟨.str _, H, I.kept hk, ⟨_, rfl⟩, q⟩) hz
end
section
variable {K : PySem.W.Frag} {H : Hp}
theorem Rp.int {i : Int} (h : i.natAbs.log2 < 1920) : Rp K H (.int i) (.int i) := ⟨.inl (.int i), decide_eq_true h, Nat.zero_le _, int_text_fits h⟩
theorem Rp.non : Rp K H .non .none := ⟨.inl .non, rfl, by decide, by decide +kernel⟩
theorem Rp.bl (b : Bool) : Rp K H (.bl b) (.bool b) := ⟨.inl (.bl b), rfl, Nat.zero_le _, by cases b <;> decide +kernel⟩
end
end Ice
namespace Ice
open PySem PySem.Spec PyProof.Rows L2
/-! ### what is told stays told -/
section
variable {K : PySem.W.Frag} {H H' : Hp}
theorem SqL.same (s : Same H H') {a : Addr} {xs : List V} (h : SqL K H a xs) : SqL K H' a xs := s.seq h
theorem SqT.same (s : Same H H') {a : Addr} {xs : List V} (h : SqT K H a xs) : SqT K H' a xs := by
  rcases h with (h | ⟨o, h⟩) | h
  · exact .inl (.inl (s _ _ h))
  · exact .inl (.inr ⟨o, s _ _ h⟩)
  · exact .inr h
mutual
theorem Dp.same (s : Same H H') : ∀ (d : PyData) (v : V), Dp K H v d → Dp K H' v d
  | .none, _, h => by cases h; exact .non
  | .bool _, _, h => by cases h; exact .bl _
  | .int _, _, h => by cases h; exact .int _
  | .str _, _, h => by cases h; exact .str _
  | .list ds, _, h => by
    cases h with
    | lst hs ha => exact .lst (SqL.same s hs) (Dp.sameAll s ds _ ha)
  | .tuple ds, _, h => by
    cases h with
    | tup hs ha => exact .tup (SqT.same s hs) (Dp.sameAll s ds _ ha)
  | .dict _, _, h => by cases h
theorem Dp.sameAll (s : Same H H') : ∀ (ds : List PyData) (vs : List V), DpAll K H vs ds → DpAll K H' vs ds
  | [], _, h => by cases h; exact .nil
  | d :: ds, _, h => by
    cases h with
    | cons h1 h2 => exact .cons (Dp.same s d _ h1) (Dp.sameAll s ds _ h2)
end
mutual
theorem Dd.same (s : Same H H') : ∀ (d : PyData) (v : V), Dd K H v d → Dd K H' v d
  | _, _, .sc z => .sc z
  | .tuple ds, _, .tup hs ha => .tup (SqT.same s hs) (Dd.sameAll s ds _ ha)
  | .dict _, _, .dct hk hd => .dct (s _ _ hk) hd
theorem Dd.sameAll (s : Same H H') : ∀ (ds : List PyData) (vs : List V), DdAll K H vs ds → DdAll K H' vs ds
  | [], _, .nil => .nil
  | d :: ds, _, .cons h1 h2 => .cons (Dd.same s d _ h1) (Dd.sameAll s ds _ h2)
end
theorem Rp.same (s : Same H H') {v : V} {d : PyData} (h : Rp K H v d) : Rp K H' v d :=
  ⟨h.1.imp (Dp.same s d v) (Dd.same s d v), h.2⟩
theorem Rp.str {x : Str} (hl : x.length ≤ 1000) (hc : ∀ c ∈ x.cps.toList, c < 128) : Rp K H (.str x) (.str x) := by
  refine ⟨.inl (.str x), rfl, Nat.zero_le _, ?_⟩
  have b := PySem.StrLaws.reprText_len x (fun c h => Nat.lt_trans (hc c h) (by decide))
  show (reprText x).length ≤ _
  exact sz_of (by omega)
end
end Ice

set_option Elab.async false
set_option linter.all false
set_option maxRecDepth 100000
set_option maxHeartbeats 4000000
set_option autoImplicit false
/-! Texts: walked sign by sign, compared, joined, cut, repeated. -/
namespace Ice
open PySem PySem.Spec PyProof.Rows L2 TL
theorem tl_len (x : Str) : (tl x).length = x.length := by show x.cps.toList.length = x.cps.size; simp
/-- a for over a text's signs -/
theorem for_text {x : Str} {g : TG} {tb : TS} {D : Ends} {σ : L2.St} {H : Hp} (Pv : Nat → L2.St → Hp → Prop) (h0 : Pv 0 σ H)
    (hs : ∀ i c σ H, (tl x)[i]? = some c → Pv i σ H → g (.str ⟨#[c]⟩) σ H fun σ2 H2 => tb { D with nx := Pv (i + 1), ct := Pv (i + 1), bk := D.nx } σ2 H2) (hd : ∀ σ H, Pv (tl x).length σ H → D.nx σ H) :
    ∃ W : Nat → Nat → L2.St → Hp → Prop, (∃ m, W 0 m σ H) ∧ ∀ i m σ H, W i m σ H →
      ((Its x).stop i H ∧ D.nx σ H) ∨ ((Its x).go i H ∧ ∃ N : L2.St → Hp → Prop, (∀ σ' H', N σ' H' → ∃ m', m' < m ∧ W (i + 1) m' σ' H') ∧ ∀ v H', (Its x).yld i H v H' → g v σ H' fun σ2 H2 => tb { D with nx := N, ct := N, bk := D.nx } σ2 H2) := by
  have sz : (tl x).length = x.cps.size := by show x.cps.toList.length = _; simp
  refine ⟨fun i m σ H => m = (tl x).length - i ∧ i ≤ (tl x).length ∧ Pv i σ H, ⟨(tl x).length, by simp, Nat.zero_le _, h0⟩, ?_⟩
  rintro i m σ H ⟨rfl, hi, p⟩
  by_cases lt : i < (tl x).length
  · refine .inr ⟨by show i < x.cps.size; omega, Pv (i + 1), fun σ' H' p' => ⟨(tl x).length - (i + 1), by omega, rfl, lt, p'⟩, ?_⟩
    rintro v H' ⟨rfl, c, hc, rfl⟩
    exact hs i c σ H' (by show x.cps.toList[i]? = some c; rw [Array.getElem?_toList]; exact hc) p
  · have e : i = (tl x).length := by omega
    subst e
    exact .inl ⟨by show x.cps.size ≤ _; omega, hd σ H p⟩
/-- a comprehension over a text's signs -/
theorem lc_text {x : Str} {g : TG} {tt : TT} {te : TE} {vs : List Nat} {σ : L2.St} {H1 : Hp} {D : Addr} {Qd : Hp → Prop} (Pv : Nat → Hp → Prop) (h0 : Pv 0 (upd H1 D (.lst [])))
    (hs : ∀ i c H, (tl x)[i]? = some c → Pv i H → g (.str ⟨#[c]⟩) (wipe σ vs) H fun σ2 H2 => wipe σ2 vs = wipe σ vs ∧ tt σ2 H2 fun b H3 =>
      if b = true then te σ2 H3 fun y H4 => ∃ acc, H4 D = some (.lst acc) ∧ acc.length < sizeLine ∧ Pv (i + 1) (upd H4 D (.lst (acc ++ [y]))) else Pv (i + 1) H3) (hd : ∀ H, Pv (tl x).length H → Qd H) :
    ∃ W : Nat → Nat → Hp → Prop, (∃ m, W 0 m (upd H1 D (.lst []))) ∧ ∀ i m H, W i m H →
      ((Its x).stop i H ∧ Qd H) ∨ ((Its x).go i H ∧ ∃ Nx : Hp → Prop, (∀ H', Nx H' → ∃ m', m' < m ∧ W (i + 1) m' H') ∧ ∀ v H', (Its x).yld i H v H' → g v (wipe σ vs) H' fun σ2 H2 => wipe σ2 vs = wipe σ vs ∧ tt σ2 H2 fun b H3 =>
        if b = true then te σ2 H3 fun y H4 => ∃ acc, H4 D = some (.lst acc) ∧ acc.length < sizeLine ∧ Nx (upd H4 D (.lst (acc ++ [y]))) else Nx H3) := by
  have sz : (tl x).length = x.cps.size := by show x.cps.toList.length = _; simp
  refine ⟨fun i m H => m = (tl x).length - i ∧ i ≤ (tl x).length ∧ Pv i H, ⟨(tl x).length, by simp, Nat.zero_le _, h0⟩, ?_⟩
  rintro i m H ⟨rfl, hi, p⟩
  by_cases lt : i < (tl x).length
  · refine .inr ⟨by show i < x.cps.size; omega, Pv (i + 1), fun H' p' => ⟨(tl x).length - (i + 1), by omega, rfl, lt, p'⟩, ?_⟩
    rintro v H' ⟨rfl, c, hc, rfl⟩
    exact hs i c H' (by show x.cps.toList[i]? = some c; rw [Array.getElem?_toList]; exact hc) p
  · have e : i = (tl x).length := by omega
    subst e
    exact .inl ⟨by show x.cps.size ≤ _; omega, hd H p⟩
/-! ### joined with nothing between -/
theorem joinL_nil : ∀ ps : List (List Nat), joinL [] ps = ps.flatten
  | [] => rfl
  | [p] => by simp [joinL]
  | p :: q :: r => by
    show p ++ ([] ++ joinL [] (q :: r)) = _
    rw [joinL_nil (q :: r)]
    simp
theorem tl_joined {e : Str} (he : tl e = []) (ys : List Str) : tl (Txt.join e ys) = (ys.map tl).flatten := by rw [join_eq, tl_join, he, joinL_nil]
theorem flat_ones : ∀ (ys : List Str), (∀ y ∈ ys, y.length = 1) → ((ys.map tl).flatten).length = ys.length
  | [], _ => rfl
  | y :: ys, h => by
    have h1 := h y (List.mem_cons_self ..)
    rw [List.map_cons, List.flatten_cons, List.length_append, tl_len, h1, flat_ones ys fun z hz => h z (List.mem_cons_of_mem _ hz), List.length_cons]
    omega
theorem len_joined {e : Str} (he : tl e = []) {ys : List Str} (h : ∀ y ∈ ys, y.length = 1) : (Txt.join e ys).length = ys.length := by rw [← tl_len, tl_joined he, flat_ones ys h]
theorem sum_ones : ∀ {ys : List Str}, (∀ y ∈ ys, y.length = 1) → (ys.map (·.length)).sum = ys.length
  | [], _ => rfl
  | y :: ys, h => by
    rw [List.map_cons, List.sum_cons, h y (List.mem_cons_self ..), sum_ones fun z hz => h z (List.mem_cons_of_mem _ hz), List.length_cons]
    omega
/-! ### cut, put together -/
theorem len_add (x y : Str) : (x ++ y).length = x.length + y.length := by rw [← tl_len, tl_append, List.length_append, tl_len, tl_len]
theorem tl_cut (z : Str) (lo hi : Option Int) : tl (cutS z lo hi) = ((tl z).drop (HT.sIx z.length 0 lo)).take (HT.sIx z.length z.length hi - HT.sIx z.length 0 lo) := rfl
theorem tl_cut_to (z : Str) (k : Nat) : tl (cutS z none (some (k : Int))) = (tl z).take k := by
  rw [tl_cut, HT.sIx_none, HT.sIx_nat, List.drop_zero, Nat.sub_zero]
  by_cases h : k ≤ z.length
  · rw [Nat.min_eq_left h]
  · rw [Nat.min_eq_right (by omega), List.take_of_length_le (by rw [tl_len]; omega), List.take_of_length_le (by rw [tl_len]; omega)]
theorem tl_cut_from (z : Str) (k : Nat) : tl (cutS z (some (k : Int)) none) = (tl z).drop k := by
  rw [tl_cut, HT.sIx_none, HT.sIx_nat]
  by_cases h : k ≤ z.length
  · rw [Nat.min_eq_left h, List.take_of_length_le (by rw [List.length_drop, tl_len]; omega)]
  · rw [Nat.min_eq_right (by omega), List.drop_of_length_le (by rw [tl_len]; omega), List.drop_of_length_le (by rw [tl_len]; omega)]
    simp
theorem len_cut_to (z : Str) (k : Nat) : (cutS z none (some (k : Int))).length = min k z.length := by rw [← tl_len, tl_cut_to, List.length_take, tl_len]
theorem len_cut_from (z : Str) (k : Nat) : (cutS z (some (k : Int)) none).length = z.length - k := by rw [← tl_len, tl_cut_from, List.length_drop, tl_len]
/-! ### items -/
theorem atI_some {α : Type} {xs : List α} {i : Int} (h0 : 0 ≤ i) (h1 : i < xs.length) : ∃ v, atI xs i = some v ∧ v ∈ xs ∧ xs[i.toNat]? = some v := by
  obtain ⟨k, rfl⟩ := Int.eq_ofNat_of_zero_le h0
  have hk : k < xs.length := by omega
  exact ⟨xs[k], atI_nat (List.getElem?_eq_getElem hk), List.getElem_mem _, by simp [List.getElem?_eq_getElem hk]⟩
/-! ### rules -/
def repS (x : Str) (k : Int) : Str := ⟨((List.replicate k.toNat (tl x)).flatten).toArray⟩
theorem tl_rep (x : Str) (k : Int) : tl (repS x k) = (List.replicate k.toNat (tl x)).flatten := by show ((List.replicate k.toNat (tl x)).flatten).toArray.toList = _; simp
theorem len_rep (x : Str) (k : Int) : (repS x k).length = k.toNat * x.length := by rw [← tl_len, tl_rep, List.length_flatten, List.map_replicate, List.sum_replicate_nat, tl_len]
def rMulT : R2 := fun x y H Q => ∃ i k, x = .str i ∧ y = .int k ∧ 0 ≤ k ∧ k ≤ 1000 ∧ i.length ≤ 1000 ∧ Q (.str (repS i k)) H
def rFind : V → List V → Hp → VK → Prop := fun x xs H Q => ∃ a b, x = .str a ∧ xs = [.str b] ∧ Q (.int (Txt.find a b)) H
def rJoin (K : PySem.W.Frag) : V → List V → Hp → VK → Prop := fun x xs H Q => ∃ a p, ∃ ys : List Str, x = .str a ∧ xs = [.ref p] ∧ (SqL K H p (ys.map V.str) ∨ SqT K H p (ys.map V.str)) ∧ (ys.map (·.length)).sum + ys.length * a.length ≤ 16777216 ∧ Q (.str (Txt.join a ys)) H
def rLeT : R2 := fun x y H Q => ∃ i j, x = .str i ∧ y = .str j ∧ Q (.bl (!decide (j.cps.toList < i.cps.toList))) H
def rIsBl : R2 := fun x y H Q => ∃ b, y = .bl b ∧ Q (.bl (decide (x = .bl b))) H
theorem fold_flat : ∀ (l : List (Array Nat)) (acc : Array Nat), (l.foldl (· ++ ·) acc).toList = acc.toList ++ (l.map (·.toList)).flatten
  | [], acc => by simp
  | a :: l, acc => by rw [List.foldl_cons, fold_flat l, Array.toList_append, List.map_cons, List.flatten_cons, List.append_assoc]
theorem rep_fold (x : Str) (k : Int) : (⟨(List.replicate k.toNat x.cps).foldl (· ++ ·) #[]⟩ : Str) = repS x k := by
  have e : ((List.replicate k.toNat x.cps).foldl (· ++ ·) #[]) = ((List.replicate k.toNat (tl x)).flatten).toArray := by
    apply Array.toList_inj.mp
    rw [fold_flat, List.map_replicate]
    simp
  rw [e]
  rfl
section
variable {X : Cx} {H : Hp} {Q : VK} {K : PySem.W.Frag}
theorem o_leT : OpR X (compareOp .LtE) rLeT := op_le_str
theorem m_join : MtR X "str.join" (rJoin X.K) := mt_join
theorem m_find : MtR X "str.find" rFind := mt_find
theorem c_isi : CallR X (.builtin "isinstance") (rIsi X.K) := call_isi
theorem c_intS : CallR X (.type "int") (fun xs H Q => ∃ a n, xs = [.str a] ∧ PySem.intText? a = some n ∧ a.length ≤ 640 ∧ Q (.int n) H) := call_int_str
theorem o_mulT : OpR X (binaryOp .Mult) rMulT := by
  intro pins s σ H x y v u Q I rx ry h
  obtain ⟨i, k, rfl, rfl, h0, h1, hz, q⟩ := h
  obtain ⟨t, rfl⟩ := rx
  obtain ⟨t', rfl⟩ := ry
  have big : i.length * k.toNat ≤ 1000 * 1000 := Nat.mul_le_mul hz (by omega)
  have lim : (1000 : Int) * 1000 ≤ (2 ^ 63 - 1) := by decide
  refine PySem.P.mul_str ?_ ?_ ?_ ?_
  · rw [decide_eq_false (by omega), decide_eq_false (by omega)]; rfl
  · intro h2 _ h3
    have k0 : 0 < k := by omega
    have a1 : (i.length : Int) * k ≤ 1000 * 1000 := Int.mul_le_mul (by omega) h1 (by omega) (by omega)
    have a2 : (2 ^ 63 - 1 : Int) / k < i.length := h3
    have a3 : (2 ^ 63 - 1 : Int) < i.length * k := Int.lt_mul_of_ediv_lt k0 a2
    omega
  · intro _ _
    unfold Builtin.Str.tooLong
    exact decide_eq_false (by rw [sizeLine_eq]; omega)
  · have fin : ∀ (z : Str) (tk1 tk2 : Nat), z = repS i k → EP X pins σ Q (.str z tk1) { s with toks := tk2 } := fun z a b e => ⟨.str z, H, I.tok _, ⟨_, rfl⟩, by rw [e]; exact q⟩
    by_cases k1 : k < 1
    · rw [if_pos k1]
      have k0 : k = 0 := by omega
      exact ⟨by decide, fin _ _ _ (by subst k0; rfl)⟩
    · rw [if_neg k1]
      by_cases k2 : (k == 1 || i.length == 0) = true
      · rw [if_pos k2]
        refine fin i t s.toks ?_
        rw [← mk_tl i]
        show _ = (⟨((List.replicate k.toNat (tl i)).flatten).toArray⟩ : Str)
        rcases Bool.or_eq_true _ _ ▸ k2 with e | e
        · rw [beq_iff_eq.mp e]; simp
        · have e0 : tl i = [] := List.eq_nil_of_length_eq_zero (by rw [tl_len]; exact beq_iff_eq.mp e)
          rw [e0]; simp
      · rw [if_neg k2]
        refine ⟨?_, fin _ _ _ (rep_fold i k)⟩
        rw [rep_fold]
        rw [len_rep, sizeLine_eq]
        have : k.toNat * i.length ≤ 1000 * 1000 := Nat.mul_le_mul (by omega) hz
        omega
theorem o_isB : OpR X (compareOp .Is) rIsBl := by
  intro pins s σ H x y v u Q I rx ry h
  obtain ⟨b, rfl, q⟩ := h
  cases (show u = Value.bool b from ry)
  by_cases e : x = .bl b
  · subst e
    cases (show v = Value.bool b from rx)
    exact wpAny_is_self rfl ⟨.bl true, H, I, rfl, by simpa using q⟩
  · have q' : Q (.bl false) H := by simpa [e] using q
    have fin : ∀ s', s' = s → EP X pins σ Q (.bool false) s' := fun s' z => ⟨.bl false, H, z ▸ I, rfl, q'⟩
    cases x with
    | bl c => cases (show v = Value.bool c from rx); exact wpAny_is_other rfl (fun z => e (by cases z; rfl)) (fin _ rfl)
    | non => cases (show v = Value.none from rx); exact wpAny_is_other rfl (fun z => by cases z) (fin _ rfl)
    | int i => obtain ⟨t, rfl⟩ := (show ∃ t, v = Value.int i t from rx); exact wpAny_is_other rfl (fun z => by cases z) (fin _ rfl)
    | str i => obtain ⟨t, rfl⟩ := (show ∃ t, v = Value.str i t from rx); exact wpAny_is_other rfl (fun z => by cases z) (fin _ rfl)
    | byt i => obtain ⟨t, rfl⟩ := (show ∃ t, v = Value.bytes i t from rx); exact wpAny_is_other rfl (fun z => by cases z) (fin _ rfl)
    | flt i => obtain ⟨t, rfl⟩ := (show ∃ t, v = Value.float i t from rx); exact wpAny_is_other rfl (fun z => by cases z) (fin _ rfl)
    | ref a => cases (show v = Value.ref a from rx); exact wpAny_is_other rfl (fun z => by cases z) (fin _ rfl)
    | ty n => cases (show v = Value.type n from rx); exact wpAny_is_other rfl (fun z => by cases z) (fin _ rfl)
theorem i_isi {v : V} {n m : String} {b : Bool} (h : TyX K H v (.type n)) (e : kitB n m = some b) (q : Q (.bl b) H) : rIsi K [v, .ty m] H Q := ⟨v, .ty m, .type n, .type m, b, rfl, .ty m, h, kit_ty e, q⟩
theorem i_mulT {i : Str} {k : Int} (h0 : 0 ≤ k) (h1 : k ≤ 1000) (hz : i.length ≤ 1000) (q : Q (.str (repS i k)) H) : rMulT (.str i) (.int k) H Q := ⟨i, k, rfl, rfl, h0, h1, hz, q⟩
theorem i_find {a b : Str} (q : Q (.int (Txt.find a b)) H) : rFind (.str a) [.str b] H Q := ⟨a, b, rfl, rfl, q⟩
theorem i_leT {a b : Str} (q : Q (.bl (!decide (tl b < tl a))) H) : rLeT (.str a) (.str b) H Q := ⟨a, b, rfl, rfl, q⟩
theorem i_isB {x : V} {b : Bool} (q : Q (.bl (decide (x = .bl b))) H) : rIsBl x (.bl b) H Q := ⟨b, rfl, q⟩
theorem i_notInS {c : Nat} {z : Str} (q : Q (.bl (!decide (c ∈ z.cps.toList))) H) : rNotInS (.str ⟨#[c]⟩) (.str z) H Q := ⟨c, z, rfl, rfl, q⟩
theorem i_inS {c : Nat} {z : Str} (q : Q (.bl (decide (c ∈ z.cps.toList))) H) : rInS (.str ⟨#[c]⟩) (.str z) H Q := ⟨c, z, rfl, rfl, q⟩
theorem i_slS {z : Str} {lo hi : Option Int} (hz : z.length ≤ sizeLine) (q : Q (.str (cutS z lo hi)) H) : rSlS (.str z) lo hi H Q := ⟨z, rfl, hz, q⟩
end
end Ice

set_option Elab.async false
set_option linter.all false
set_option maxRecDepth 100000
set_option maxHeartbeats 4000000
set_option autoImplicit false
/-! Things of any kind. -/
namespace Ice
open PySem PySem.Spec PyProof.Rows L2 TL
theorem one_lt (c l : Nat) : ([c] < [l]) ↔ c < l := by rw [List.cons_lt_cons_iff]; simp
theorem str_ext {x y : Str} (h : tl x = tl y) : x = y := by rw [← mk_tl x, ← mk_tl y, h]
theorem take_all {P : Nat → Prop} {l : List Nat} {i c : Nat} (h : ∀ x ∈ l.take i, P x) (hc : l[i]? = some c) (hp : P c) : ∀ x ∈ l.take (i + 1), P x := by
  intro x hx
  rw [List.take_add_one, hc] at hx
  rcases List.mem_append.mp hx with z | z
  · exact h x z
  · have : x = c := by simpa using z
    rw [this]; exact hp
theorem empty_eq (s : Str) : (V.str s = V.str (Str.ofString "")) ↔ s.length = 0 := by
  constructor
  · intro h; injection h with h; rw [h]; decide +kernel
  · intro h
    have : tl s = tl (Str.ofString "") := by rw [List.eq_nil_of_length_eq_zero (by rw [tl_len]; exact h : (tl s).length = 0)]; decide +kernel
    rw [str_ext this]
theorem sign_eq (c d : Nat) : (V.str ⟨#[c]⟩ = V.str ⟨#[d]⟩) ↔ c = d := by
  constructor
  · intro h; injection h with h; injection h with h; simpa using h
  · rintro rfl; rfl
/-- what is no text -/
inductive NoTx (H : Hp) : V → String → Prop
  | non : NoTx H .non "NoneType"
  | int (i : Int) : NoTx H (.int i) "int"
  | bl (b : Bool) : NoTx H (.bl b) "bool"
  | lst {p : Addr} {xs : List V} (h : H p = some (.lst xs)) : NoTx H (.ref p) "list"
  | tup {p : Addr} {xs : List V} (h : H p = some (.tup xs)) : NoTx H (.ref p) "tuple"
  | dct {p : Addr} {xs : List (Key × V)} (h : H p = some (.dK xs)) : NoTx H (.ref p) "dict"
def Th (H : Hp) (v : V) : Prop := (∃ s, v = .str s ∧ s.length ≤ 64) ∨ ∃ n, NoTx H v n
theorem NoTx.same {H H' : Hp} {v : V} {n : String} (e : Same H H') (h : NoTx H v n) : NoTx H' v n := by
  cases h with
  | non => exact .non
  | int i => exact .int i
  | bl b => exact .bl b
  | lst h => exact .lst (e _ _ h)
  | tup h => exact .tup (e _ _ h)
  | dct h => exact .dct (e _ _ h)
theorem Th.same {H H' : Hp} {v : V} (e : Same H H') (h : Th H v) : Th H' v := by
  rcases h with h | ⟨n, h⟩
  · exact .inl h
  · exact .inr ⟨n, h.same e⟩
theorem Th.updL {H : Hp} {D : Addr} {xs ys : List V} {v : V} (hD : H D = some (.lst xs)) (h : Th H v) : Th (upd H D (.lst ys)) v := by
  rcases h with h | ⟨n, h⟩
  · exact .inl h
  · refine .inr ?_
    cases h with
    | non => exact ⟨_, .non⟩
    | int i => exact ⟨_, .int i⟩
    | bl b => exact ⟨_, .bl b⟩
    | @lst p xs h =>
      by_cases e : p = D
      · subst e; exact ⟨_, .lst upd_same⟩
      · exact ⟨_, .lst (by rw [upd_ne e]; exact h)⟩
    | tup h => exact ⟨_, .tup (by rw [upd_ne (ne_of h hD (by intro z; cases z))]; exact h)⟩
    | dct h => exact ⟨_, .dct (by rw [upd_ne (ne_of h hD (by intro z; cases z))]; exact h)⟩
section
variable {K : PySem.W.Frag} {H : Hp}
theorem ty_str {s : Str} : TyX K H (.str s) (.type "str") := .base (.str s)
theorem NoTx.tyx {v : V} {n : String} (h : NoTx H v n) : TyX K H v (.type n) := by
  cases h with
  | non => exact .base .non
  | int i => exact .base (.int i)
  | bl b => exact .base (.bl b)
  | lst h => exact .base (.lst h)
  | tup h => exact .base (.tup h)
  | dct h => exact .base (.dK h)
theorem NoTx.noStr {v : V} {n : String} (h : NoTx H v n) : kitB n "str" = some false := by cases h <;> decide +kernel
theorem NoTx.ty {v : V} {n : String} (h : NoTx H v n) : TyX K H v (.type n) ∧ kitB n "str" = some false := ⟨h.tyx, h.noStr⟩
end
/-- a whole number; one within bounds; a name -/
def isW : V → Bool
  | .int _ => true
  | _ => false
def inB (lo hi : Int) : V → Bool
  | .int i => decide (lo ≤ i) && decide (i ≤ hi)
  | _ => false
def isN : V → Bool
  | .str s => decide (1 ≤ s.length ∧ s.length ≤ 8 ∧ ∀ c ∈ tl s, 97 ≤ c ∧ c ≤ 122)
  | _ => false
theorem NoTx.isN {H : Hp} {v : V} {n : String} (h : NoTx H v n) : isN v = false := by cases h <;> rfl
theorem Th.ty {K : PySem.W.Frag} {H : Hp} {v : V} (h : Th H v) : ∃ n, TyX K H v (.type n) ∧ kitB n "int" = some (isW v || decide (n = "bool")) ∧ kitB n "bool" = some (decide (n = "bool")) ∧ (n = "bool" → ∃ b, v = .bl b) := by
  rcases h with ⟨s, rfl, _⟩ | ⟨n, h⟩
  · exact ⟨"str", ty_str, (by decide +kernel : kitB "str" "int" = some (false || decide ("str" = "bool"))), by decide +kernel, fun z => absurd z (by decide)⟩
  · refine ⟨n, h.tyx, ?_⟩
    cases h with
    | non => exact ⟨(by decide +kernel : kitB "NoneType" "int" = some (false || decide ("NoneType" = "bool"))), by decide +kernel, fun z => absurd z (by decide)⟩
    | int i => exact ⟨(by decide +kernel : kitB "int" "int" = some (true || decide ("int" = "bool"))), by decide +kernel, fun z => absurd z (by decide)⟩
    | bl b => exact ⟨(by decide +kernel : kitB "bool" "int" = some (false || decide ("bool" = "bool"))), by decide +kernel, fun _ => ⟨b, rfl⟩⟩
    | lst h => exact ⟨(by decide +kernel : kitB "list" "int" = some (false || decide ("list" = "bool"))), by decide +kernel, fun z => absurd z (by decide)⟩
    | tup h => exact ⟨(by decide +kernel : kitB "tuple" "int" = some (false || decide ("tuple" = "bool"))), by decide +kernel, fun z => absurd z (by decide)⟩
    | dct h => exact ⟨(by decide +kernel : kitB "dict" "int" = some (false || decide ("dict" = "bool"))), by decide +kernel, fun z => absurd z (by decide)⟩
end Ice

set_option Elab.async false
set_option linter.all false
set_option maxRecDepth 100000
set_option maxHeartbeats 4000000
set_option autoImplicit false
/-! Texts drawn sign by sign from a box. -/
namespace Ice
open PySem PySem.Spec PyProof.Rows L2 TL
/-- a comprehension over a range whose element draws one sign from the box b -/
theorem lc_draw {b : Addr} {n size : Nat} {P : Nat → Prop} {g : TG} {tt : TT} {te : TE} {vs : List Nat} {σ : L2.St} {H1 : Hp} {D : Addr} {Qd : Hp → Prop} (hB : Box H1 b n) (hD : H1 D = none) (hz : size ≤ 1000)
    (hs : ∀ i H, i < size → But b H1 H → Box H b (n + i) → ∀ N : V → Hp → Prop, (∀ c H4, P c → But b H H4 → Box H4 b (n + i + 1) → N (.str ⟨#[c]⟩) H4) →
      g (.int (0 + i)) (wipe σ vs) H fun σ2 H2 => wipe σ2 vs = wipe σ vs ∧ tt σ2 H2 fun b H3 => if b = true then te σ2 H3 N else False)
    (mono : ∀ i H (N : V → Hp → Prop) (M : Hp → Prop), (g (.int (0 + i)) (wipe σ vs) H fun σ2 H2 => wipe σ2 vs = wipe σ vs ∧ tt σ2 H2 fun b H3 => if b = true then te σ2 H3 N else False) →
      g (.int (0 + i)) (wipe σ vs) H fun σ2 H2 => wipe σ2 vs = wipe σ vs ∧ tt σ2 H2 fun b H3 => if b = true then te σ2 H3 N else M H3)
    (hd : ∀ (acc : List Str) H, But b H1 H → Box H b (n + size) → H D = some (.lst (acc.map V.str)) → acc.length = size → (∀ y ∈ acc, ∃ c, y = ⟨#[c]⟩ ∧ P c) → Qd H) :
    ∃ W : Nat → Nat → Hp → Prop, (∃ m, W 0 m (upd H1 D (.lst []))) ∧ ∀ i m H, W i m H →
      ((Itr 0 size).stop i H ∧ Qd H) ∨ ((Itr 0 size).go i H ∧ ∃ Nx : Hp → Prop, (∀ H', Nx H' → ∃ m', m' < m ∧ W (i + 1) m' H') ∧ ∀ x H', (Itr 0 size).yld i H x H' → g x (wipe σ vs) H' fun σ2 H2 => wipe σ2 vs = wipe σ vs ∧ tt σ2 H2 fun b H3 =>
        if b = true then te σ2 H3 fun y H4 => ∃ acc, H4 D = some (.lst acc) ∧ acc.length < sizeLine ∧ Nx (upd H4 D (.lst (acc ++ [y]))) else Nx H3) := by
  have bD := hB.ne hD
  refine lc_range (lo := 0) (n := size) (fun i H' => But b H1 H' ∧ Box H' b (n + i) ∧ ∃ acc : List Str, H' D = some (.lst (acc.map V.str)) ∧ acc.length = i ∧ ∀ y ∈ acc, ∃ c, y = ⟨#[c]⟩ ∧ P c)
    ⟨But.new _ hD, hB.new hD, [], upd_same, rfl, by simp⟩ ?_ ?_
  · rintro i H' hi ⟨e6, B6, acc, hA, hl, h1⟩
    refine mono i H' _ _ (hs i H' hi e6 B6 _ ?_)
    intro c H4 pc e7 B7
    refine ⟨_, e7 D _ bD hA, by rw [List.length_map]; exact small1000 (by omega), fun a o na ha => ?_, B7.upd bD, acc ++ [⟨#[c]⟩], by rw [upd_same, List.map_append]; rfl, by simp [hl], ?_⟩
    · rw [upd_ne (ne_of_none ha hD)]
      exact e7 a o na (e6 a o na ha)
    · intro y hy
      rcases List.mem_append.mp hy with z | z
      · exact h1 y z
      · simp at z; exact ⟨c, z, pc⟩
  · rintro H' ⟨e6, B6, acc, hA, hl, h1⟩
    exact hd acc H' e6 B6 hA hl h1
/-- what is joined of such signs -/
theorem join_draw {K : PySem.W.Frag} {P : Nat → Prop} {e : Str} {D : Addr} {acc : List Str} {H : Hp} {Q : VK} (he : tl e = []) (hA : H D = some (.lst (acc.map V.str))) (hz : acc.length ≤ 1000) (h1 : ∀ y ∈ acc, ∃ c, y = ⟨#[c]⟩ ∧ P c)
    (q : ∀ t : Str, t.length = acc.length → (∀ c ∈ tl t, P c) → Q (.str t) H) :
    rJoin K (.str e) [.ref D] H Q := by
  have one : ∀ y ∈ acc, y.length = 1 := fun y hy => by obtain ⟨c, rfl, _⟩ := h1 y hy; rfl
  have e0 : e.length = 0 := by rw [← tl_len, he]; rfl
  refine ⟨e, D, acc, rfl, rfl, .inl (SqL.lst hA), by rw [sum_ones one, e0]; omega, q _ (len_joined he one) ?_⟩
  intro c hc
  rw [tl_joined he] at hc
  obtain ⟨l, hl, hcl⟩ := List.mem_flatten.mp hc
  obtain ⟨y, hy, rfl⟩ := List.mem_map.mp hl
  obtain ⟨d, rfl, pd⟩ := h1 y hy
  have : c = d := by simpa using (show c ∈ [d] from hcl)
  rw [this]; exact pd
/-- a sign of a written text at a drawn place -/
theorem sign_at {P : Nat → Prop} {x : Str} {d : Int} (h0 : 0 ≤ d) (h1 : d < x.length) (hp : ∀ c ∈ tl x, P c) : ∃ c, atI x.cps.toList d = some c ∧ P c := by
  obtain ⟨c, hc, hm, _⟩ := atI_some (xs := x.cps.toList) h0 (by simp only [Array.length_toList]; exact h1)
  exact ⟨c, hc, hp c hm⟩
theorem cut_all {P : Nat → Prop} {z : Str} {lo hi : Option Int} (h : ∀ c ∈ tl z, P c) : ∀ c ∈ tl (cutS z lo hi), P c := by
  intro c hc
  rw [tl_cut] at hc
  exact h c (List.mem_of_mem_drop (List.mem_of_mem_take hc))
theorem add_all {P : Nat → Prop} {x y : Str} (h1 : ∀ c ∈ tl x, P c) (h2 : ∀ c ∈ tl y, P c) : ∀ c ∈ tl (x ++ y), P c := by
  intro c hc
  rw [tl_append] at hc
  rcases List.mem_append.mp hc with z | z
  · exact h1 c z
  · exact h2 c z
theorem one_all {P : Nat → Prop} {d : Nat} (h : P d) : ∀ c ∈ tl (⟨#[d]⟩ : Str), P c := by
  intro c hc
  have : c = d := by simpa using (show c ∈ [d] from hc)
  rw [this]; exact h
end Ice

set_option Elab.async false
set_option linter.all false
set_option maxRecDepth 100000
set_option maxHeartbeats 4000000
set_option autoImplicit false
/-! Own errors over an own error over ValueError; several except clauses, with names or without. -/
namespace Ice
open PySem PySem.Spec PyProof.Rows L2
/-- one except clause: its class, the slot of its name, its suite -/
structure Hd where
  c : Value
  i : Option Nat
  ts : Addr → Value → Option Addr → TS
/-- the slots behind a suite whose name is gone -/
def goneE (i : Nat) (D : Ends) : Ends := { nx := fun σ' H' => D.nx (σ'.set i none) H', rt := D.rt, bk := fun σ' H' => D.bk (σ'.set i none) H', ct := fun σ' H' => D.ct (σ'.set i none) H' }
def Hd.run (h : Hd) (a : Addr) (cls : Value) (d : Option Addr) (D : Ends) (σ : L2.St) (H : Hp) : Prop :=
  match h.i with
  | none => h.ts a cls d D σ H
  | some i => h.ts a cls d (goneE i D) (σ.set i (some (.ref a))) H
def wHds (K : PySem.W.Frag) (Wout : WX) (D : Ends) : List Hd → WX
  | [] => Wout
  | h :: r => fun cls d σ H => ∃ b, PySem.W.exmOne K cls h.c = some b ∧ (b = true → ∀ a, H a = none → h.run a cls d D σ H) ∧ (b = false → wHds K Wout D r cls d σ H)
inductive HdOk (X : Cx) : List ExceptHandler → List Hd → Prop
  | nil : HdOk X [] []
  | plain {x : Str} {c : Value} {ts : Addr → Value → Option Addr → TS} {b₀ : Stmt} {suite : List Stmt} {np pos' : Pos} {hds : List ExceptHandler} {l : List Hd} (hc : Names X x c)
      (hsu : ∀ (a : Addr) (oe : Obj) (cls : Value) (d : Option Addr) (pn : List (Addr × Obj)), Zc cls d oe → (∃ vs, oe.data = .fields vs) → PSs (X.suite a ((a, oe) :: pn)) (b₀ :: suite) (ts a cls d)) (r : HdOk X hds l) :
      HdOk X (.ExceptHandler (some (.Name x np)) none (b₀ :: suite) pos' :: hds) (⟨c, none, ts⟩ :: l)
  | named {x n : Str} {i : Nat} {c : Value} {ts : Addr → Value → Option Addr → TS} {b₀ : Stmt} {suite : List Stmt} {np pos' : Pos} {hds : List ExceptHandler} {l : List Hd} (hi : X.N[i]? = some n) (hln : X.env.kindOf n = some .local) (hc : Names X x c)
      (hsu : ∀ (a : Addr) (oe : Obj) (cls : Value) (d : Option Addr) (pn : List (Addr × Obj)), Zc cls d oe → (∃ vs, oe.data = .fields vs) → PSs (X.suite a ((a, oe) :: pn)) (b₀ :: suite) (ts a cls d)) (r : HdOk X hds l) :
      HdOk X (.ExceptHandler (some (.Name x np)) (some n) (b₀ :: suite) pos' :: hds) (⟨c, some i, ts⟩ :: l)
section
variable {X : Cx} {body : List Stmt} {h₀ : ExceptHandler} {hds : List ExceptHandler} {l : List Hd} {pos : Pos} {tb : WX → TS} {Wout : WX}
/-- the exception at a is caught by one of the clauses, or goes on -/
theorem handled {pins : List (Addr × Obj)} {D : Ends} (hs : X.stack = X.env :: X.outer) (hf : X.env.frame = some X.env.locals) (hN : X.N.Nodup) (tk : Takes X Wout) (ok : X.Ok)
    {a : Addr} {B : Heap} {sI s' : Shared} {σ' : L2.St} {H' : Hp} {cls : Value} {d : Option Addr} {h3 : Heap} (J : Inv X pins σ' H' sI) (nb : ∀ b o, sI.heap.get? b = some o → b ∉ frs X.stack → B.get? b = some o)
    (up : sI.heap.UpToSlots s'.heap) (na : H' a = none) (os : s'.os = sI.os) (ag : AllBare s'.gens) (fl3 : HandSPX.FlyingZ B (X.env :: X.outer) a (Zc cls d) h3) (up3 : s'.heap.UpToSlots h3)
    {hds' : List ExceptHandler} {l' : List Hd} (hk : HdOk X hds' l') :
    wHds X.K Wout D l' cls d σ' H' → wpAny (model X.prog X.w) X.A (handleBy (.ref a) X.env hds') (SP X pins D) X.xe { s' with heap := h3 } := by
  have J3 : Inv X pins σ' H' { s' with heap := h3 } := J.landed nb fl3.1 (up.trans up3) os ag
  obtain ⟨oe3, vs3, he3, hz3, hd3⟩ := fl3.there
  have nfr : a ∉ frs (X.env :: X.outer) := by
    intro hm
    obtain ⟨_, o', e', hnf⟩ := fl3.2.2.1.mem hm
    rw [he3] at e'; cases e'
    exact hnf _ hd3
  have nL : a ≠ X.env.locals := fun z => nfr (List.mem_filterMap.mpr ⟨X.env, List.mem_cons_self, by rw [hf, z]⟩)
  have nF : a ∉ X.fs := by
    intro hm
    obtain ⟨e, he, q⟩ := List.mem_filterMap.mp hm
    exact nfr (List.mem_filterMap.mpr ⟨e, List.mem_cons_of_mem _ he, q⟩)
  have S3 := J3.suite he3 hd3 na nL nF
  have LT : PySem.W.Looks (model X.prog X.w) h3 (typeOf (.ref a)) cls := fun A Q E s k q => wpAny_typeOf_ref (k _ _ he3) (by rw [hz3.1]; exact q)
  have test : ∀ {x : Str} {c : Value} {np : Pos} {Q : Value → Shared → Prop} {E : Value → Shared → Prop}, Names X x c → Q c { s' with heap := h3 } →
      wpAny (model X.prog X.w) (X.A.mark (some (.ref a))) (eval (.Name x np) X.env) Q E { s' with heap := h3 } := by
    rintro x c np Q E ⟨hg, hdbg, hm | ⟨hm, hv, hnn⟩⟩ q
    · exact ld_glob (X := X.suite a ((a, oe3) :: (X.pn ++ pins))) S3 hg hm q hdbg
    · exact ld_blt (X := X.suite a ((a, oe3) :: (X.pn ++ pins))) S3 hg hm hv q hnn hdbg
  have land : ∀ {R : Shared → Prop}, (∀ h4 oe4, (∃ vs, oe4.data = .fields vs) → Zc cls d oe4 → Inv (X.suite a ((a, oe4) :: (X.pn ++ pins))) [] σ' H' { s' with heap := h4 } → R { s' with heap := h4 }) →
      ∀ h4, HandSPX.FlyingZ B (X.env :: X.outer) a (Zc cls d) h4 → s'.heap.UpToSlots h4 → R { s' with heap := h4 } := by
    intro R hR h4 fl4 up4
    have J4 : Inv X pins σ' H' { s' with heap := h4 } := J.landed nb fl4.1 (up.trans up4) os ag
    obtain ⟨oe4, vs4, he4, hz4, hd4⟩ := fl4.there
    exact hR h4 oe4 ⟨_, hd4⟩ hz4 (J4.suite he4 hd4 na nL nF)
  induction hk with
  | nil =>
    intro w
    refine wpAny_handleBy_nil ?_
    obtain ⟨k1, k2, k3, oe, vs, T, oT, ts', he, hz, hd, h1, hr⟩ := id fl3
    unfold PySem.passOn
    refine wpAny_bind (wpAny_field he hd h1 ?_)
    rw [if_neg (show ¬ ((Value.ref T == Value.none) = true) from by simp)]
    have fin : wpAny (model X.prog X.w) X.A (setFlight (.ref a) X.env.frame) (fun _ s4 => wpAny (model X.prog X.w) X.A (throw (.ref a) : Sem Flow) (SP X pins D) X.xe s4) X.xe { s' with heap := h3 } := by
      rw [hf]
      exact HandSPX.setFlight_upZ fl3 (fun h4 hh4 up4 => wpAny_throw (tk _ _ ⟨a, B, sI, pins, σ', H', cls, d, rfl, J, nb, (up.trans up3).trans up4, .inr (.inr (by rw [hs]; exact hh4)), na, os, ag, w⟩))
    first
      | exact wpAny_bind (wpAny_pure (wpAny_bind fin))
      | exact wpAny_bind fin
  | @plain x c ts b₀ suite np pos' hds2 l2 hc hsu r ih =>
    rintro ⟨b, hb1, hyes, hno⟩
    refine wpAny_handleBy_cons (codeAny_handlers_test ?_) (by intro q; cases q)
    refine test hc ((PySem.W.exm_one (M := model X.prog X.w) J3.kIn LT hb1).here ?_)
    match b, hyes, hno with
    | true, hyes, _ =>
      refine codeAny_handlers_suite (HandSPX.lands_againZ fl3 (fun h4 fl4 up4 => ?_))
      refine land ?_ h4 fl4 (up3.trans up4)
      intro h5 oe5 hd5 hz5 S5
      refine wpAny_mono ((hsu a oe5 cls d (X.pn ++ pins) hz5 hd5).run [] _ _ H' _ S5 (hyes rfl a na)) (fun f s6 hsp => ?_) (fun _ _ z => False.elim z)
      match f, hsp with
      | .next, ⟨σ6, H6, S6, q6⟩ => exact ⟨_, _, S6.unsuite ok, q6⟩
      | .brk, ⟨σ6, H6, S6, q6⟩ => exact ⟨_, _, S6.unsuite ok, q6⟩
      | .cont, ⟨σ6, H6, S6, q6⟩ => exact ⟨_, _, S6.unsuite ok, q6⟩
      | .ret u, ⟨v6, σ6, H6, S6, r6, q6⟩ => exact ⟨_, _, _, S6.unsuite ok, r6, q6⟩
    | false, _, hno => exact ih (hno rfl)
  | @named x n i c ts b₀ suite np pos' hds2 l2 hi hln hc hsu r ih =>
    rintro ⟨b, hb1, hyes, hno⟩
    refine wpAny_handleBy_cons (codeAny_handlers_test ?_) (by intro q; cases q)
    refine test hc ((PySem.W.exm_one (M := model X.prog X.w) J3.kIn LT hb1).here ?_)
    match b, hyes, hno with
    | true, hyes, _ =>
      refine codeAny_handlers_suite_as (HandSPX.lands_againZ fl3 (fun h4 fl4 up4 => ?_))
      refine land ?_ h4 fl4 (up3.trans up4)
      intro h5 oe5 hd5 hz5 S5
      refine store_ok (X := X.suite a ((a, oe5) :: (X.pn ++ pins))) (v := .ref a) S5 hN hi (.inl hln) rfl (fun s6 S6 => ?_) (.inr hln)
      refine wpAny_mono ((hsu a oe5 cls d (X.pn ++ pins) hz5 hd5).run [] s6 _ H' _ S6 (hyes rfl a na)) (fun f s7 hsp => ?_) (fun _ _ z => False.elim z)
      match f, hsp with
      | .next, ⟨σ6, H6, S7, q6⟩ => exact gone_ok (S7.unsuite ok) hN hi hln (fun s8 J8 => ⟨_, _, J8, q6⟩)
      | .brk, ⟨σ6, H6, S7, q6⟩ => exact gone_ok (S7.unsuite ok) hN hi hln (fun s8 J8 => ⟨_, _, J8, q6⟩)
      | .cont, ⟨σ6, H6, S7, q6⟩ => exact gone_ok (S7.unsuite ok) hN hi hln (fun s8 J8 => ⟨_, _, J8, q6⟩)
      | .ret u, ⟨v6, σ6, H6, S7, r6, q6⟩ => exact gone_ok (S7.unsuite ok) hN hi hln (fun s8 J8 => ⟨_, _, _, J8, r6, q6⟩)
    | false, _, hno => exact ih (hno rfl)
theorem ps_try_hds (hs : X.stack = X.env :: X.outer) (hf : X.env.frame = some X.env.locals) (hN : X.N.Nodup) (tk : Takes X Wout)
    (hb : ∀ (W : WX) (pn : List (Addr × Obj)) (xe : Value → Shared → Prop), Takes (X.tr pn xe) W → PassesOwn (model X.prog X.w) X.A X.env xe → PSs (X.tr pn xe) body (tb W))
    (hh : HdOk X (h₀ :: hds) l) : PS X (.Try body (h₀ :: hds) [] [] pos) (fun D σ H => tb (wHds X.K Wout D l) D σ H) := by
  constructor
  intro pins s σ H D I h
  have ok := I.ok
  have hfr : X.A.frames = some (X.env :: X.outer) := by rw [ok.frames, hs]
  refine wpAny_Try_except ?_
  have run := (hb (wHds X.K Wout D l) (X.pn ++ pins) (fun e s₁ => wpAny (model X.prog X.w) X.A (noteFrame e X.env)
    (fun _ s₂ => wpAny (model X.prog X.w) X.A (setFlight e none) (fun _ s₃ => wpAny (model X.prog X.w) X.A (handleBy e X.env (h₀ :: hds)) (SP X pins D) X.xe s₃) X.xe s₂) X.xe s₁) ?_ PassesOwn.looking).run [] s σ H D (I.toTry _) h
  · refine wpAny_mono run (fun f s1 hsp => ?_) (fun e s1 he => he)
    match f, hsp with
    | .next, ⟨σ', H', J', q⟩ => exact wpAny_execs_nil ⟨σ', H', J'.ofTry ok, q⟩
    | .brk, ⟨σ', H', J', q⟩ => exact ⟨σ', H', J'.ofTry ok, q⟩
    | .cont, ⟨σ', H', J', q⟩ => exact ⟨σ', H', J'.ofTry ok, q⟩
    | .ret u, ⟨v, σ', H', J', r, q⟩ => exact ⟨v, σ', H', J'.ofTry ok, r, q⟩
  · rintro u s' ⟨a, B, sI, pins', σ', H', cls, d, rfl, J', nb, up, sky, na, os, ag, w⟩
    have sky' : Sky B (X.env :: X.outer) a (Zc cls d) X.env.locals s'.heap := by rw [← hs]; exact sky
    exact Sky.land Zc.steady hfr hf sky' (fun h3 fl3 up3 => handled hs hf hN tk ok (J'.ofTry ok) nb up na os ag fl3 up3 hh w)
end
/-! ### Base.__init__(self, ..), Base an own error class over ValueError -/
section
variable {X : Cx} {e : Expr} {es : List Expr} {ta : TA} {p1 p2 pos : Pos} {x : Str} {B : Addr}
theorem pe_kinit {pl : Sem Bool} (hg : Gl X x) (hm : X.mg x = some (.ref B)) (hsp : PySem.W.specialIn X.K (.ref B) "__getattribute__" = some (some (.builtin "type.__getattribute__"))) (ht : PySem.W.typeIn X.K (.ref B) = some (.type "type"))
    (hr : PySem.W.readsIn X.K B (.type "type") = true) (hF : PySem.W.findCls X.K (.ref B) (.type "type") "__init__" = some (.val (.builtin "ValueError.__init__"))) (ha : PA X (e :: es) ta)
    (hdb : (x == ("__debug__" : Str)) = false := by decide)
    (hc : eval (.Call (.Attribute (.Name x p1) "__init__" p2) (e :: es) [] pos) X.env =
      (do let ov ← eval (.Name x p1) X.env; standAt p2.atName; let (f, first) ← holding [ov] (getMethod ov "__init__" pl); callWith pos f first (backTo pos (starEach (e :: es) X.env)) (backToKw pos (keywordEach [] X.env))) := by rfl)
    (he : starEach (e :: es) X.env = (false, eval e X.env) :: starEach es X.env := by rfl) (hpl : (backTo pos (starEach es X.env)).any (·.1) = false := by rfl) :
    PE X (.Call (.Attribute (.Name x p1) "__init__" p2) (e :: es) [] pos) (tVeI X.K ta) := by
  constructor
  intro pins s σ H Q I h
  refine PySem.W.methodCall_KW (ld_glob I hg hm ?_ hdb) hc
  obtain ⟨m, fr⟩ := I.fr
  refine PySem.W.method_of_cls fr I.ok.mod.kin hsp (PySem.W.cls_val fr I.ok.mod.kin ht hr hF (by decide +kernel) ?_)
  show wpAny _ _ (callWith pos (Value.builtin "ValueError.__init__") [] (backTo pos (starEach (e :: es) X.env)) []) _ _ _
  refine PyProof.Rows.callWith_method1 (thn (ha.run pos pins _ σ H _ (I.tok _) h) (fun us s1 ⟨vs, H1, I1, r1, a, C, ws, ev, hl, T, ea, q⟩ => ?_)) he hpl
  subst ev
  cases r1 with
  | @cons _ u0 _ ur ra rw' =>
    cases (show u0 = Value.ref a from ra)
    exact oinit_ok T I1 ea (by rw [← Paired.length rw', sizeLine_eq]; omega) (fun s' J => ⟨.non, H1, J, rfl, q⟩)
end
end Ice
namespace Ice
open PySem PySem.Spec PyProof.Rows L2
/-! ### calls whose errors are wished for at the caller's slots -/
section
variable {X : Cx} {X0 : CXT} {k : Nat} {f C : Addr} {fd : FuncData} {ps : List Str} {sp : Sp} {dvs : List V} {ds : List Value} {E : L2.St → XK} {x m : Str} {p pos apos : Pos} {e o : Expr} {es : List Expr} {ta : TE} {t : TA}
def tCallE (sp : Sp) (dvs : List V) (E : L2.St → XK) (t : TA) : TE := fun σ H Q => t σ H fun vs H1 => sp (vs ++ dvs) H1 Q (E σ)
def tMakeE (C : Addr) (sp : Sp) (dvs : List V) (E : L2.St → XK) (t : TA) : TE := fun σ H Q => t σ H fun vs H1 => ∀ x dx, H1 x = none → H1 dx = none → dx ≠ x →
  sp (.ref x :: (vs ++ dvs)) (upd (upd H1 dx (.own x)) x (.ins C dx [])) (fun v H2 => v = .non ∧ Q (.ref x) H2) (E σ)
def tMethE (C : Addr) (m : Str) (sp : Sp) (dvs : List V) (E : L2.St → XK) (ta : TE) (t : TA) : TE := fun σ H Q => ta σ H fun x H1 => ∃ a dx fs, x = .ref a ∧ H1 a = some (.ins C dx fs) ∧ fs.lookup m = none ∧
  t σ H1 fun vs H2 => sp (x :: (vs ++ dvs)) H2 Q (E σ)
theorem run_ge {pins : List (Addr × Obj)} {σ : L2.St} {H : Hp} {s : Shared} {Q : VK} {us : List Value} {vs : List V} (F : FnG X.prog X.w X.K X.mg X.base X0 k f fd ps sp) (hr : Room k X.A) (hgd : X.A.guards = some [])
    (hb : Binds X.K fd ps ds) (hd : Vals dvs ds) (hx : PassesAt X0 X σ (E σ)) (I : Inv X pins σ H s) (r : Vals vs us) (h : sp (vs ++ dvs) H Q (E σ)) :
    wpAny (model X.prog X.w) X.A (call (.ref f) us) (EP X pins σ Q) X.xe s := by
  have r2 := Vals.append r hd
  have hl : (us ++ ds).length = ps.length := (Vals.length r2).symm.trans (F.len _ _ _ _ h)
  refine wpAny_call (codeAny_mono (F.run X.A X.stack s H ⟨us, []⟩ (us ++ ds) (vs ++ dvs) Q (E σ) hr hgd I.env0 (hb s us I.kIn hl) r2 h) (fun r s' hq => ?_))
  match r, hq with
  | .error e, hq => exact hx pins H s e s' I hq
  | .ok (.ret u), hq => exact I.after hq
  | .ok .next, hq => exact False.elim hq
  | .ok .brk, hq => exact False.elim hq
  | .ok .cont, hq => exact False.elim hq
theorem g_callE (F : FnG X.prog X.w X.K X.mg X.base X0 k f fd ps sp) (hr : Room k X.A) (hgd : X.A.guards = some []) (hg : Gl X x) (hm : X.mg x = some (.ref f)) (hk : PySem.W.keepIn X.K (.ref f) = true) (hb : Binds X.K fd ps ds) (hd : Vals dvs ds)
    (hx : ∀ σ, PassesAt X0 X σ (E σ)) (ha : PA X (e :: es) t) (hdb : (x == ("__debug__" : Str)) = false := by decide) (he : starEach (e :: es) X.env = (false, eval e X.env) :: starEach es X.env := by rfl)
    (hpl : (backTo pos (starEach es X.env)).any (·.1) = false := by rfl) : PE X (.Call (.Name x p) (e :: es) [] pos) (tCallE sp dvs E t) := by
  constructor
  intro pins s σ H Q I h
  refine wpAny_Call_Name_kw (ld_glob I hg hm (PySem.W.callWith_K (h₀ := X.base) I.ok.mod.kin hk ?_ he hpl) hdb)
  exact thn (ha.run pos pins s σ H _ I h) (fun us s1 ⟨vs, H1, I1, r, q⟩ => ⟨I1.kIn, run_ge F hr hgd hb hd (hx σ) I1 r q⟩)
theorem g_methE {pl : Sem Bool} (he : PE X o ta) (c : Cls X.K C) (hm : Meth X.K C m f) (F : FnG X.prog X.w X.K X.mg X.base X0 k f fd ps sp) (hr : Room k X.A) (hgd : X.A.guards = some []) (hb : Binds X.K fd ps ds) (hd : Vals dvs ds)
    (hx : ∀ σ, PassesAt X0 X σ (E σ)) (ha : PA X (e :: es) t) (hst : starEach (e :: es) X.env = (false, eval e X.env) :: starEach es X.env := by rfl) (hpl : (backTo pos (starEach es X.env)).any (·.1) = false := by rfl)
    (ht : eval (.Call (.Attribute o m apos) (e :: es) [] pos) X.env =
      (do let ov ← eval o X.env; standAt apos.atName; let (f, first) ← holding [ov] (getMethod ov m pl); callWith pos f first (backTo pos (starEach (e :: es) X.env)) (backToKw pos (keywordEach [] X.env))) := by rfl) :
    PE X (.Call (.Attribute o m apos) (e :: es) [] pos) (tMethE C m sp dvs E ta t) := by
  constructor
  intro pins s σ H Q I h
  refine PySem.W.methodCall_KW (pl := pl) (thn (he.run pins s σ H _ I h) (fun u s1 ⟨x, H1, I1, rx, a, dx, fs, ex, ea, l, q⟩ => ?_)) ht
  subst ex
  cases (show u = Value.ref a from rx)
  refine getmeth_ok I1 ea c hm l (PySem.W.callWith_K (first := [.ref a]) (h₀ := X.base) I.ok.mod.kin hm.kp ?_ hst hpl)
  exact thn (ha.run pos pins s1 σ H1 _ I1 q) (fun us s2 ⟨vs, H2, I2, r, q2⟩ => ⟨I2.kIn, run_ge (us := .ref a :: us) (vs := .ref a :: vs) F hr hgd hb hd (hx σ) I2 (.cons rfl r) q2⟩)
theorem run_mke {pins : List (Addr × Obj)} {σ : L2.St} {H : Hp} {s : Shared} {Q : VK} {us : List Value} {vs : List V} (M : Mk X.K C f) (F : FnG X.prog X.w X.K X.mg X.base X0 k f fd ps sp) (hr : Room (k + 1) X.A) (hgd : X.A.guards = some [])
    (hb : Binds X.K fd ps ds) (hd : Vals dvs ds) (hx : PassesAt X0 X σ (E σ)) (hx2 : ∀ {H2 : Hp} {e : Value} {s2 s' : Shared}, Inv X pins σ H2 s2 → X0 X.stack H2 s2 (E σ) e s' → X.xe e s') (I : Inv X pins σ H s) (r : Vals vs us)
    (h : ∀ x dx, H x = none → H dx = none → dx ≠ x → sp (.ref x :: (vs ++ dvs)) (upd (upd H dx (.own x)) x (.ins C dx [])) (fun v H2 => v = .non ∧ Q (.ref x) H2) (E σ)) :
    wpAny (model X.prog X.w) X.A (call (.ref C) us) (EP X pins σ Q) X.xe s := by
  have hq := h (s.heap.objs.size + 1) s.heap.objs.size (I.hok.fresh (Nat.le_succ _)) (I.hok.fresh (Nat.le_refl _)) (by simp)
  have I2 := Inv.made (C := C) I
  have r2 : Vals (V.ref (s.heap.objs.size + 1) :: (vs ++ dvs)) (Value.ref (s.heap.objs.size + 1) :: (us ++ ds)) := .cons rfl (Vals.append r hd)
  have hl : (Value.ref (s.heap.objs.size + 1) :: us ++ ds).length = ps.length := (Vals.length r2).symm.trans (F.len _ _ _ _ hq)
  have run := F.run _ X.stack _ _ ⟨Value.ref (s.heap.objs.size + 1) :: us, []⟩ (Value.ref (s.heap.objs.size + 1) :: (us ++ ds)) _ _ (E σ) (hr.make C us []) (make_guards hgd) (I2.env0.make C us [])
    (hb _ (Value.ref (s.heap.objs.size + 1) :: us) I2.kIn hl) r2 hq
  refine wpAny_call (make_map (f := f) I.kIn M.makes M.init (beq_iff_eq.mp M.fn) (codeAny_mono run (fun r s' hq' => ?_)))
  match r, hq' with
  | .error e, hq' => exact hx2 I2 hq'
  | .ok (.ret u), hq' =>
    obtain ⟨v, H', I3, rv, ev, q3⟩ := I2.after hq'
    subst ev
    exact ⟨rv, V.ref (s.heap.objs.size + 1), H', I3, rfl, q3⟩
  | .ok .next, hq' => exact False.elim hq'
  | .ok .brk, hq' => exact False.elim hq'
  | .ok .cont, hq' => exact False.elim hq'
theorem g_makeE (M : Mk X.K C f) (F : FnG X.prog X.w X.K X.mg X.base X0 k f fd ps sp) (hr : Room (k + 1) X.A) (hgd : X.A.guards = some []) (hg : Gl X x) (hm : X.mg x = some (.ref C)) (hb : Binds X.K fd ps ds) (hd : Vals dvs ds) (hx : ∀ σ, PassesAt X0 X σ (E σ))
    (ha : PA X (e :: es) t) (hdb : (x == ("__debug__" : Str)) = false := by decide) (he : starEach (e :: es) X.env = (false, eval e X.env) :: starEach es X.env := by rfl)
    (hpl : (backTo pos (starEach es X.env)).any (·.1) = false := by rfl) : PE X (.Call (.Name x p) (e :: es) [] pos) (tMakeE C sp dvs E t) := by
  constructor
  intro pins s σ H Q I h
  refine wpAny_Call_Name_kw (ld_glob I hg hm (PySem.W.callWith_K (h₀ := X.base) I.ok.mod.kin M.kp ?_ he hpl) hdb)
  exact thn (ha.run pos pins s σ H _ I h) (fun us s1 ⟨vs, H1, I1, r, q⟩ => ⟨I1.kIn, run_mke M F hr hgd hb hd (hx σ) (fun {H2 e s2 s'} J c => hx σ _ H2 s2 e s' J c) I1 r q⟩)
end
/-! ### an own error's __init__, and its raise -/
def spErr (K : PySem.W.Frag) (f : Str) : Sp := fun vs H Q _ => ∃ (a C : Addr) (v : V), vs = [.ref a, v] ∧ OexC K C ∧ PySem.W.findIn K (.ref C) f = some none ∧ H a = some (exo a C none) ∧
  ∀ dx, H dx = none → dx ≠ a → Q .non (upd (upd H dx (exd dx [(f, v)])) a (exo a C (some dx)))
section
variable {K : PySem.W.Frag} {σ : L2.St} {H : Hp} {Q : VK}
theorem i_mkE {C : Addr} {f : Str} {v : V} {W : XK} (T : OexC K C) (hf : PySem.W.findIn K (.ref C) f = some none) (q : ∀ d, H d = none → W (.ref C) (some d) (upd H d (.xd [(f, v)]))) :
    [v].length ≤ 1000 ∧ ∀ a, H a = none → spErr K f (.ref a :: ([v] ++ [])) (upd H a (exo a C none))
      (fun v H2 => v = .non ∧ ∃ (d : Addr) (fs : List (Str × V)), H2 a = some (exo a C (some d)) ∧ H2 d = some (exd d fs) ∧ H d = none ∧ W (.ref C) (some d) (upd (del H2 a) d (.xd fs))) (fun _ _ _ => False) := by
  refine ⟨by show 1 ≤ 1000; decide, fun a ha => ⟨a, C, v, rfl, T, hf, upd_same, fun dx hdx ne => ⟨rfl, dx, [(f, v)], upd_same, by rw [upd_ne ne, upd_same], freeU hdx, ?_⟩⟩⟩
  have e : upd (del (upd (upd (upd H a (exo a C none)) dx (exd dx [(f, v)])) a (exo a C (some dx))) a) dx (.xd [(f, v)]) = upd H dx (.xd [(f, v)]) := by
    funext b
    by_cases h1 : b = dx
    · rw [h1, upd_same, upd_same]
    · rw [upd_ne h1, upd_ne h1]
      by_cases h2 : b = a
      · rw [h2, del_same, ha]
      · rw [del_ne h2, upd_ne h2, upd_ne h1, upd_ne h2]
  rw [e]
  exact q dx (freeU hdx)
theorem i_kinit {ta : TA} (h : ta σ H fun vs H1 => ∃ (a C : Addr) (ws : List V), vs = .ref a :: ws ∧ ws.length ≤ 1000 ∧ OexC K C ∧ H1 a = some (exo a C none) ∧ Q .non H1) : tVeI K ta σ H Q := h
theorem i_ost {f : Str} {to te : TE} {D : Ends} (h : te σ H fun y H1 => to σ H1 fun x H2 => ∃ a C : Addr, x = .ref a ∧ OexC K C ∧ PySem.W.findIn K (.ref C) f = some none ∧
    ((H2 a = some (exo a C none) ∧ ∀ dx, H2 dx = none → dx ≠ a → D.nx σ (upd (upd H2 dx (exd dx [(f, y)])) a (exo a C (some dx)))) ∨
      ∃ (dx : Addr) (fs : List (Str × V)), H2 a = some (exo a C (some dx)) ∧ H2 dx = some (exd dx fs) ∧ fs.length ≤ 900 ∧ D.nx σ (upd H2 dx (exd dx ((f, y) :: fs))))) : tOst K f to te D σ H := h
theorem i_mkO {C : Addr} {sp : Sp} {dvs : List V} {ta : TA} {W : XK} (h : ta σ H fun vs H1 => vs.length ≤ 1000 ∧ ∀ a, H1 a = none → sp (.ref a :: (vs ++ dvs)) (upd H1 a (exo a C none))
    (fun v H2 => v = .non ∧ ∃ (d : Addr) (fs : List (Str × V)), H2 a = some (exo a C (some d)) ∧ H2 d = some (exd d fs) ∧ H1 d = none ∧ W (.ref C) (some d) (upd (del H2 a) d (.xd fs))) (fun _ _ _ => False)) : tMkO C sp dvs ta σ H W := h
theorem i_callE {sp : Sp} {dvs : List V} {E : L2.St → XK} {t : TA} (h : t σ H fun vs H1 => sp (vs ++ dvs) H1 Q (E σ)) : tCallE sp dvs E t σ H Q := h
theorem i_makeE {C : Addr} {sp : Sp} {dvs : List V} {E : L2.St → XK} {t : TA} (h : t σ H fun vs H1 => ∀ x dx, H1 x = none → H1 dx = none → dx ≠ x →
    sp (.ref x :: (vs ++ dvs)) (upd (upd H1 dx (.own x)) x (.ins C dx [])) (fun v H2 => v = .non ∧ Q (.ref x) H2) (E σ)) : tMakeE C sp dvs E t σ H Q := h
theorem i_xf {a C dd : Addr} {cls : Value} {f : Str} {te : TE} (h : te σ H fun x H1 => x = .ref a ∧ cls = .ref C ∧ ∃ (d' : Addr) (fs : List (Str × V)) (v : V), some dd = some d' ∧ H1 d' = some (.xd fs) ∧ fs.lookup f = some v ∧ Q v H1) : tXf a cls (some dd) C f te σ H Q := h
theorem i_sfld {ta tv : TE} {f : Str} {D : Ends} (h : tv σ H fun y H1 => ta σ H1 fun x H2 => ∃ a C dx fs, x = .ref a ∧ H2 a = some (.ins C dx fs) ∧ Cls K C ∧ NoAttr K C f ∧ fs.length < 1000 ∧ D.nx σ (upd H2 a (.ins C dx (putF f y fs)))) : sFld K ta tv f D σ H := h
end
end Ice
namespace Ice
open PySem PySem.Spec PyProof.Rows L2
theorem putF_new {f : Str} {v : V} : ∀ {fs : List (Str × V)}, f ∉ fs.map (·.1) → putF f v fs = fs ++ [(f, v)]
  | [], _ => rfl
  | (g, u) :: r, h => by
    have h1 : ¬ g = f := fun e => h (by rw [e]; exact List.mem_cons_self ..)
    have h2 : f ∉ r.map (·.1) := fun e => h (List.mem_cons_of_mem _ e)
    show (if g = f then (g, v) :: r else (g, u) :: putF f v r) = _
    rw [if_neg h1, putF_new h2]
    rfl
theorem i_store {K : PySem.W.Frag} {H : Hp} {x C dx : Addr} {fs : List (Str × V)} {f : Str} {y : V} {N : Hp → Prop} (hx : H x = some (.ins C dx fs)) (cl : Cls K C) (na : NoAttr K C f) (hl : fs.length ≤ 900) (hf : f ∉ fs.map (·.1))
    (q : N (upd H x (.ins C dx (fs ++ [(f, y)])))) : ∃ a C dx fs, V.ref x = .ref a ∧ H a = some (.ins C dx fs) ∧ Cls K C ∧ NoAttr K C f ∧ fs.length < 1000 ∧ N (upd H a (.ins C dx (putF f y fs))) :=
  ⟨x, C, dx, fs, rfl, hx, cl, na, by omega, by rw [putF_new hf]; exact q⟩
end Ice

set_option Elab.async false
set_option linter.all false
set_option maxRecDepth 100000
set_option maxHeartbeats 4000000
set_option autoImplicit false
/-! repr of rows of plain things; a thing compared with a text. -/
namespace Ice
open PySem PySem.Spec PyProof.Rows L2
/-- a plain thing whose repr is short -/
inductive Ps : V → PyData → Prop
  | non : Ps .non .none
  | bl (b : Bool) : Ps (.bl b) (.bool b)
  | int {i : Int} : i.natAbs < 10 ^ 60 → Ps (.int i) (.int i)
  | str {x : Str} : x.length ≤ 64 → (∀ c ∈ x.cps.toList, c < 128) → Ps (.str x) (.str x)
inductive PsAll : List V → List PyData → Prop
  | nil : PsAll [] []
  | cons {v : V} {vs : List V} {d : PyData} {ds : List PyData} : Ps v d → PsAll vs ds → PsAll (v :: vs) (d :: ds)
section
variable {K : PySem.W.Frag} {H : Hp}
theorem Ps.dp {v : V} {d : PyData} (h : Ps v d) : Dp K H v d := by
  cases h with
  | non => exact .non
  | bl b => exact .bl b
  | int _ => exact .int _
  | str _ _ => exact .str _
theorem Ps.show {v : V} {d : PyData} (h : Ps v d) : d.showable = true ∧ d.depth = 0 ∧ d.shown.length ≤ 650 := by
  cases h with
  | non => exact ⟨rfl, rfl, by decide +kernel⟩
  | bl b => exact ⟨rfl, rfl, by cases b <;> decide +kernel⟩
  | @int i h =>
    refine ⟨decide_eq_true (Nat.lt_trans (PySem.Flt.log2_lt_of (k := 200) (by decide) (Nat.lt_trans h (by decide))) (by decide)), rfl, ?_⟩
    have := int_text_length_le10 (a := i) (k := 60) (by decide) h
    show (Str.ofString (toString i)).length ≤ _
    rw [PySem.ofString_length]; omega
  | @str x h1 h2 =>
    have b := PySem.StrLaws.reprText_len x (fun c h => Nat.lt_trans (h2 c h) (by decide))
    refine ⟨rfl, rfl, ?_⟩
    show (reprText x).length ≤ _
    omega
theorem PsAll.dp : ∀ {vs : List V} {ds : List PyData}, PsAll vs ds → DpAll K H vs ds
  | _, _, .nil => .nil
  | _, _, .cons h t => .cons h.dp t.dp
theorem PsAll.show {vs : List V} {ds : List PyData} (h : PsAll vs ds) : PyData.showableAll ds = true ∧ PyData.depthAll ds = 0 ∧ ((PyData.shownAll ds).map (·.length)).sum ≤ 650 * ds.length ∧ (PyData.shownAll ds).length = ds.length := by
  induction h with
  | nil => exact ⟨rfl, rfl, by decide +kernel, rfl⟩
  | @cons v vs d ds h t ih =>
    obtain ⟨a1, a2, a3, a4⟩ := ih
    obtain ⟨b1, b2, b3⟩ := h.show
    refine ⟨?_, ?_, ?_, ?_⟩
    · show (d.showable && PyData.showableAll ds) = true
      rw [b1, a1]; rfl
    · show max d.depth (PyData.depthAll ds) = 0
      rw [b2, a2]; rfl
    · show ((d.shown :: PyData.shownAll ds).map (·.length)).sum ≤ _
      rw [List.map_cons, List.sum_cons, List.length_cons]
      omega
    · show (d.shown :: PyData.shownAll ds).length = _
      rw [List.length_cons, a4, List.length_cons]
theorem PsAll.len {vs : List V} {ds : List PyData} (h : PsAll vs ds) : ds.length = vs.length := by
  induction h with
  | nil => rfl
  | cons _ _ ih => rw [List.length_cons, List.length_cons, ih]
theorem Ps.rp {v : V} {d : PyData} (h : Ps v d) : Rp K H v d := by
  obtain ⟨b1, b2, b3⟩ := h.show
  exact ⟨.inl h.dp, b1, by omega, sz_of (by omega)⟩
theorem Rp.tupP {p : Addr} {vs : List V} {ds : List PyData} (hp : H p = some (.tup vs)) (h : PsAll vs ds) (hl : vs.length ≤ 20) : Rp K H (.ref p) (.tuple ds) := by
  obtain ⟨a1, a2, a3, a4⟩ := h.show
  have hl2 := h.len
  have b := PySem.tupleText_len_le (PyData.shownAll ds)
  refine ⟨.inl (.tup (SqT.tup hp) h.dp), a1, ?_, ?_⟩
  · show PyData.depthAll ds + 1 ≤ _
    omega
  · show (PySem.tupleText (PyData.shownAll ds)).length ≤ _
    exact sz_of (by omega)
theorem Rp.lstP {p : Addr} {vs : List V} {ds : List PyData} (hp : H p = some (.lst vs)) (h : PsAll vs ds) (hl : vs.length ≤ 20) : Rp K H (.ref p) (.list ds) := by
  obtain ⟨a1, a2, a3, a4⟩ := h.show
  have hl2 := h.len
  have b := PySem.listText_len_le (PyData.shownAll ds)
  refine ⟨.inl (.lst (SqL.lst hp) h.dp), a1, ?_, ?_⟩
  · show PyData.depthAll ds + 1 ≤ _
    omega
  · show (PySem.listText (PyData.shownAll ds)).length ≤ _
    exact sz_of (by omega)
theorem Rp.dct0 {p : Addr} (hp : H p = some (.dK [])) : Rp K H (.ref p) (.dict []) :=
  ⟨.inr (.dct (ds := []) hp .nil), rfl, by decide, by decide +kernel⟩
end
section
variable {P : Program} {w : World} {A : Around} {E : Value → Shared → Prop} {s : Shared}
theorem str_declines_dict (b : Str) (u : Tok) (l : Addr) (c : Value) (es : Array DictEntry) (n : Nat) (dd : Option Addr) (sl : Array (Option Value)) :
    Meets (Builtin.«str.__eq__» ⟨[.str b u, .ref l], []⟩) (fun _ R s => s.heap.get? l = some { cls := c, dict := dd, data := .dict es n, slots := sl } ∧ R (.ok (.ret .notImplemented)) s) :=
  .of_wp fun prog w A R s h => by obtain ⟨hp, g, d, tk, os⟩ := s; obtain ⟨hl, h⟩ := h; wp_walk using PySem.AutoSeq1.wpAny_loadPart' hl, wpAny_load hl; exact ⟨_, rfl, h⟩
theorem dict_eq_str {l : Addr} {b : Str} {u : Tok} {o : Obj} {es : Array DictEntry} {n : Nat} (ho : s.heap.get? l = some o) (hc : o.cls = .type "dict") (hd : o.data = .dict es n) (hu : A.units < cLine) {Q : Value → Shared → Prop} (h : Q (.bool false) s) :
    wpAny (model P w) A (compareOp .Eq (.ref l) (.str b u)) Q E s := by
  have ht : s.TypeIs (.ref l) "dict" := ⟨o, ho, hc⟩
  refine PySem.SeqAt.rc_eq_decline_or (k := false) ht (typeIs_str s b u) (by decide) PySem.F.sub_str_dict PySem.F.slot_dict_eq PySem.F.slot_str_eq_refl ?_ ?_ ?_ (.inr hu) h
  · intro Q' hq
    refine wpAny_call_entry PySem.F.slot_dict_eq ht PySem.F.entry_dict_eq ?_ (PySem.F.args_dict_eq_2 _ _)
    show wpAny _ _ (Builtin.Dict.dictSlotArgs "__eq__" ⟨[.ref l, .str b u], []⟩ >>= _) _ _ s
    refine wpAny_bind ?_
    unfold Builtin.Dict.dictSlotArgs
    refine wpAny_bind (wpAny_notOrdered_dict ht ?_)
    show wpAny _ _ (pure (Value.ref l, Value.str b u)) _ _ s
    refine wpAny_pure ?_
    refine wpAny_bind (wpAny_isInstance (T := "str") (typeIs_str s b u) PySem.F.sub_str_dict ?_)
    refine wpAny_bind (wpAny_rule ?_)
    exact wpAny_pure ⟨_, rfl, hq⟩
  · intro Q' hq
    obtain ⟨cls, dd, data, sl⟩ := o
    simp only at hc hd
    subst hc hd
    exact call_meets PySem.F.slot_str_eq_refl (typeIs_str s b u) PySem.F.entry_str_eq (PySem.F.args_str_eq_2 _ _) (str_declines_dict b u l (.type "dict") es n dd sl) ⟨ho, hq⟩
  · intro Q' hq
    exact wpAny_of_eq (rfl : isSame (.ref l) (.str b u) = pure false) hq
end
theorem strOk_asc {x : Str} (h : ∀ c ∈ x.cps.toList, c < 128) : PySem.PyData.strOk x = true := by
  show x.cps.all (· < 0x110000) = true
  rw [Array.all_eq_true']
  intro c hc
  have := h c (by simpa using hc)
  simp
  omega
theorem shaped_str {x : Str} (h : ∀ c ∈ x.cps.toList, c < 128) : SeqAt.shaped (.str x) = true := by
  show (PySem.PyData.strOk x && decide (0 ≤ 64)) = true
  rw [strOk_asc h]; rfl
theorem Ps.lay {v : V} {d : PyData} (h : Ps v d) : d.canLay0 = true := by
  cases h with
  | str h1 h2 => exact strOk_asc h2
  | _ => rfl
theorem PsAll.lay {vs : List V} {ds : List PyData} (h : PsAll vs ds) : PyData.canLayAll0 ds = true := by
  induction h with
  | nil => rfl
  | @cons v vs d ds h t ih =>
    show (d.canLay0 && PyData.canLayAll0 ds) = true
    rw [h.lay, ih]; rfl
theorem Ps.shaped {v : V} {d : PyData} (h : Ps v d) : SeqAt.shaped d = true := by
  show (d.canLay0 && decide (d.depth ≤ 64)) = true
  rw [h.lay, h.show.2.1]; rfl
theorem PsAll.shapedL {vs : List V} {ds : List PyData} (h : PsAll vs ds) : SeqAt.shaped (.list ds) = true := by
  show (PyData.canLayAll0 ds && decide (PyData.depthAll ds + 1 ≤ 64)) = true
  rw [h.lay, h.show.2.1]; rfl
theorem PsAll.shapedT {vs : List V} {ds : List PyData} (h : PsAll vs ds) : SeqAt.shaped (.tuple ds) = true := by
  show (PyData.canLayAll0 ds && decide (PyData.depthAll ds + 1 ≤ 64)) = true
  rw [h.lay, h.show.2.1]; rfl
/-- a thing that may be compared with a text -/
def Tq (K : PySem.W.Frag) (H : Hp) (v : V) : Prop := (∃ d, Dp K H v d ∧ SeqAt.shaped d = true) ∨ ∃ a kvs, v = .ref a ∧ H a = some (.dK kvs)
def rEqS (K : PySem.W.Frag) : R2 := fun x y H Q => ∃ s, y = .str s ∧ (∀ c ∈ s.cps.toList, c < 128) ∧ Tq K H x ∧ Q (.bl (decide (x = .str s))) H
theorem eqv_str {K : PySem.W.Frag} {H : Hp} {v : V} {d : PyData} {s : Str} (h : Dp K H v d) : PyData.eqv d (.str s) = decide (v = .str s) := by
  cases h with
  | str x =>
    show (x == s) = _
    by_cases e : x = s
    · subst e; simp
    · rw [decide_eq_false (fun z => e (by injection z))]
      exact beq_eq_false_iff_ne.mpr e
  | non => rfl
  | bl b => cases b <;> rfl
  | int i => rfl
  | lst _ _ => rfl
  | tup _ _ => rfl
section
variable {K : PySem.W.Frag} {H : Hp}
theorem Tq.ps {v : V} {d : PyData} (h : Ps v d) : Tq K H v := .inl ⟨d, h.dp, h.shaped⟩
theorem Tq.lst {p : Addr} {vs : List V} {ds : List PyData} (hp : H p = some (.lst vs)) (h : PsAll vs ds) : Tq K H (.ref p) := .inl ⟨_, .lst (SqL.lst hp) h.dp, h.shapedL⟩
theorem Tq.tup {p : Addr} {vs : List V} {ds : List PyData} (hp : H p = some (.tup vs)) (h : PsAll vs ds) : Tq K H (.ref p) := .inl ⟨_, .tup (SqT.tup hp) h.dp, h.shapedT⟩
theorem Tq.dct {p : Addr} {kvs : List (Key × V)} (hp : H p = some (.dK kvs)) : Tq K H (.ref p) := .inr ⟨_, _, rfl, hp⟩
theorem i_eqS {x : V} {z : Str} {Q : VK} (hz : ∀ c ∈ z.cps.toList, c < 128) (h : Tq K H x) (q : Q (.bl (decide (x = .str z))) H) : rEqS K x (.str z) H Q := ⟨z, rfl, hz, h, q⟩
end
section
variable {X : Cx}
theorem o_eqS (hu : X.A.units + 110 < cLine) : OpR X (compareOp .Eq) (rEqS X.K) := by
  intro pins s σ H x y v u Q I rx ry h
  obtain ⟨z, rfl, hz, hx, q⟩ := h
  rcases hx with ⟨d, hd, sd⟩ | ⟨a, kvs, rfl, ha⟩
  · refine op_eqD (by omega) pins s σ H x _ v u Q I rx ry ⟨d, .str z, hd, .str z, sd, shaped_str hz, ?_⟩
    rw [eqv_str hd]
    exact q
  · cases (show v = .ref a from rx)
    obtain ⟨t, rfl⟩ := (show ∃ t, u = .str z t from ry)
    obtain ⟨_, hn, us, rv, o, es, ep, e1, e2, e3, _, e4, _⟩ := I.hok a _ ha
    exact dict_eq_str e1 e2.1 e3 (by omega) ⟨.bl false, H, I, rfl, by rw [decide_eq_false (by intro z; cases z)] at q; exact q⟩
end
section
variable {K : PySem.W.Frag} {σ : L2.St} {H : Hp} {Q : VK}
theorem i_fld {ta : TE} {f : Str} (h : ta σ H fun x H1 => ∃ a C dx fs v, x = .ref a ∧ H1 a = some (.ins C dx fs) ∧ Cls K C ∧ NoAttr K C f ∧ fs.lookup f = some v ∧ Q v H1) : tFld K ta f σ H Q := h
theorem i_fld1 {x C dx : Addr} {fs : List (Str × V)} {f : Str} {v : V} (hx : H x = some (.ins C dx fs)) (cl : Cls K C) (na : NoAttr K C f) {B : V → Prop} (hl : fs.lookup f = some v) (q : B v) :
    ∃ a C dx fs v, V.ref x = .ref a ∧ H a = some (.ins C dx fs) ∧ Cls K C ∧ NoAttr K C f ∧ fs.lookup f = some v ∧ B v := ⟨x, C, dx, fs, v, rfl, hx, cl, na, hl, q⟩
end
theorem un110 {k : Nat} {A : Around} (hr : Room k A) : A.units + 110 < cLine := by have := hr.un; omega
theorem c_reprS {X : Cx} {a : Addr} {pn : List (Addr × Obj)} (hgd : X.A.guards = some []) (hu : X.A.units + 110 < cLine) : CallR (X.suite a pn) (.builtin "repr") (rRepr X.K) := c_repr (X := X.suite a pn) hgd hu
section
variable {K : PySem.W.Frag} {σ : L2.St} {H : Hp} {Q : VK}
theorem i_methE {C : Addr} {m : Str} {sp : Sp} {dvs : List V} {E : L2.St → XK} {ta : TE} {t : TA} (h : ta σ H fun x H1 => ∃ a dx fs, x = .ref a ∧ H1 a = some (.ins C dx fs) ∧ fs.lookup m = none ∧ t σ H1 fun vs H2 => sp (x :: (vs ++ dvs)) H2 Q (E σ)) : tMethE C m sp dvs E ta t σ H Q := h
theorem i_meth {C : Addr} {m : Str} {sp : Sp} {dvs : List V} {E : XK} {ta : TE} {t : TA} (h : ta σ H fun x H1 => ∃ a dx fs, x = .ref a ∧ H1 a = some (.ins C dx fs) ∧ fs.lookup m = none ∧ t σ H1 fun vs H2 => sp (x :: (vs ++ dvs)) H2 Q E) : tMeth C m sp dvs E ta t σ H Q := h
theorem i_make {C : Addr} {sp : Sp} {dvs : List V} {E : XK} {t : TA} (h : t σ H fun vs H1 => ∀ x dx, H1 x = none → H1 dx = none → dx ≠ x → sp (.ref x :: (vs ++ dvs)) (upd (upd H1 dx (.own x)) x (.ins C dx [])) (fun v H2 => v = .non ∧ Q (.ref x) H2) E) : tMake C sp dvs E t σ H Q := h
theorem i_obj {x C dx : Addr} {fs : List (Str × V)} {m : Str} {B : Prop} (hx : H x = some (.ins C dx fs)) (hl : fs.lookup m = none) (q : B) : ∃ a dx fs, V.ref x = .ref a ∧ H a = some (.ins C dx fs) ∧ fs.lookup m = none ∧ B := ⟨x, dx, fs, rfl, hx, hl, q⟩
end
section
variable {K : PySem.W.Frag} {σ : L2.St} {H : Hp} {D : Ends}
theorem i_runS {c : Value} {i : Nat} {ts : Addr → Value → Option Addr → TS} {a : Addr} {cls : Value} {d : Option Addr} (h : ts a cls d (goneE i D) (σ.set i (some (.ref a))) H) : (Hd.mk c (some i) ts).run a cls d D σ H := h
theorem i_runN {c : Value} {ts : Addr → Value → Option Addr → TS} {a : Addr} {cls : Value} {d : Option Addr} (h : ts a cls d D σ H) : (Hd.mk c none ts).run a cls d D σ H := h
theorem i_xf1 {a C dd : Addr} {fs : List (Str × V)} {f : Str} {v : V} {B : V → Prop} (hd : H dd = some (.xd fs)) (hl : fs.lookup f = some v) (q : B v) :
    V.ref a = .ref a ∧ Value.ref C = .ref C ∧ ∃ (d' : Addr) (fs : List (Str × V)) (v : V), some dd = some d' ∧ H d' = some (.xd fs) ∧ fs.lookup f = some v ∧ B v := ⟨rfl, rfl, dd, fs, v, rfl, hd, hl, q⟩
end
def rIntB : List V → Hp → VK → Prop := fun xs H Q => ∃ k, xs = [.bl k] ∧ Q (.int (if k then 1 else 0)) H
theorem c_intB {X : Cx} : CallR X (.type "int") rIntB := fun pins s σ H xs us Q I r h => call_int1 pins s σ H xs us Q I r (.inr h)
theorem i_intB {k : Bool} {H : Hp} {Q : VK} (q : Q (.int (if k then 1 else 0)) H) : rIntB [.bl k] H Q := ⟨k, rfl, q⟩
theorem i_glst {K : PySem.W.Frag} {n : Nat} {t : TGs} {a : Addr} {xs : List V} {σ : L2.St} {H : Hp} {Q : L2.St → Hp → Prop} (hS : SqL K H a xs) (hl : xs.length = n) (q : t xs σ H Q) : gLst K n t (.ref a) σ H Q := ⟨a, xs, rfl, hS, hl, q⟩
end Ice

set_option Elab.async false
set_option linter.all false
set_option maxRecDepth 100000
set_option maxHeartbeats 4000000
set_option autoImplicit false
/-! Base.__init__(self, ..) of an own class, where Base is an own class with an own __init__. -/
namespace Ice
open PySem PySem.Spec PyProof.Rows L2
section
variable {X : Cx} {X0 : CXT} {k : Nat} {f B : Addr} {fd : FuncData} {ps : List Str} {sp : Sp} {dvs : List V} {ds : List Value} {E : L2.St → XK} {x : Str} {p1 p2 pos : Pos} {e : Expr} {es : List Expr} {t : TA}
/-- what is known of a class whose __init__ is read of itself -/
structure Kin (K : PySem.W.Frag) (B f : Addr) : Prop where
  sp : PySem.W.specialIn K (.ref B) "__getattribute__" = some (some (.builtin "type.__getattribute__"))
  ty : PySem.W.typeIn K (.ref B) = some (.type "type")
  rd : PySem.W.readsIn K B (.type "type") = true
  fc : PySem.W.findCls K (.ref B) (.type "type") "__init__" = some (.val (.ref f))
  kp : PySem.W.keepIn K (.ref f) = true
theorem g_kinitE {pl : Sem Bool} (kin : Kin X.K B f) (F : FnG X.prog X.w X.K X.mg X.base X0 k f fd ps sp) (hr : Room k X.A) (hgd : X.A.guards = some []) (hg : Gl X x) (hm : X.mg x = some (.ref B)) (hb : Binds X.K fd ps ds) (hd : Vals dvs ds)
    (hx : ∀ σ, PassesAt X0 X σ (E σ)) (ha : PA X (e :: es) t) (hdb : (x == ("__debug__" : Str)) = false := by decide)
    (hc : eval (.Call (.Attribute (.Name x p1) "__init__" p2) (e :: es) [] pos) X.env =
      (do let ov ← eval (.Name x p1) X.env; standAt p2.atName; let (f, first) ← holding [ov] (getMethod ov "__init__" pl); callWith pos f first (backTo pos (starEach (e :: es) X.env)) (backToKw pos (keywordEach [] X.env))) := by rfl)
    (he : starEach (e :: es) X.env = (false, eval e X.env) :: starEach es X.env := by rfl) (hpl : (backTo pos (starEach es X.env)).any (·.1) = false := by rfl) :
    PE X (.Call (.Attribute (.Name x p1) "__init__" p2) (e :: es) [] pos) (tCallE sp dvs E t) := by
  constructor
  intro pins s σ H Q I h
  refine PySem.W.methodCall_KW (ld_glob I hg hm ?_ hdb) hc
  obtain ⟨m, fr⟩ := I.fr
  refine PySem.W.method_of_cls fr I.ok.mod.kin kin.sp (PySem.W.cls_val fr I.ok.mod.kin kin.ty kin.rd kin.fc (by rfl) ?_)
  show wpAny _ _ (callWith pos (Value.ref f) [] (backTo pos (starEach (e :: es) X.env)) []) _ _ _
  refine PySem.W.callWith_K (h₀ := X.base) I.ok.mod.kin kin.kp ?_ he hpl
  exact thn (ha.run pos pins _ σ H _ (I.tok _) h) (fun us s1 ⟨vs, H1, I1, r, q⟩ => ⟨I1.kIn, run_ge F hr hgd hb hd (hx σ) I1 r q⟩)
end
end Ice

set_option Elab.async false
set_option linter.all false
set_option maxRecDepth 100000
set_option maxHeartbeats 4000000
set_option autoImplicit false
/-! things that equal themselves; one expression read in two ways. -/
namespace Ice
open PySem PySem.Spec PyProof.Rows L2 SeqAt
/-- one reading or another -/
def tAlt (t1 t2 : TE) : TE := fun σ H Q => t1 σ H Q ∨ t2 σ H Q
theorem pe_alt {X : Cx} {e : Expr} {t1 t2 : TE} (h1 : PE X e t1) (h2 : PE X e t2) : PE X e (tAlt t1 t2) :=
  ⟨fun pins s σ H Q I h => h.elim (h1.run pins s σ H Q I) (h2.run pins s σ H Q I)⟩
theorem i_altL {t1 t2 : TE} {σ : L2.St} {H : Hp} {Q : VK} (h : t1 σ H Q) : tAlt t1 t2 σ H Q := .inl h
theorem i_altR {t1 t2 : TE} {σ : L2.St} {H : Hp} {Q : VK} (h : t2 σ H Q) : tAlt t1 t2 σ H Q := .inr h
theorem i_aug {i : Nat} {te : TE} {ti : TIp} {D : Ends} {σ : L2.St} {H : Hp} {x : V} (hx : σ[i]? = some (some x)) (h : te σ H fun y H1 => ti x y H1 fun z H2 => D.nx (σ.set i (some z)) H2) : tAug i te ti D σ H := ⟨x, hx, h⟩
theorem i_ipI {f : Int → Int → Int} {i j : Int} {H : Hp} {Q : VK} (q : Q (.int (f i j)) H) : ipI f (.int i) (.int j) H Q := ⟨i, j, rfl, rfl, q⟩
theorem ps_alt {X : Cx} {st : Stmt} {t1 t2 : TS} (h1 : PS X st t1) (h2 : PS X st t2) : PS X st (fun D σ H => t1 D σ H ∨ t2 D σ H) :=
  ⟨fun pins s σ H D I h => h.elim (h1.run pins s σ H D I) (h2.run pins s σ H D I)⟩
/-- rules within a comprehension: their readings may not name its frame -/
theorem pe_fldB {X : Cx} {s : Shared} {H : Hp} {scope : Scope} {env : Env} {fp : List Addr} {e : Expr} {te : TE} {f : Str} {pos : Pos} (he : PE (X.blk s H scope env fp) e te) (hb : attributeBase e f env (eval e env) = eval e env := by rfl) : PE (X.blk s H scope env fp) (.Attribute e f pos) (tFld X.K te f) := pe_fld he hb
/-- an item that is the same on both sides -/
def It1 (v : V) : Prop := (∃ b, v = .ref b) ∨ ∃ d, Ps v d
theorem eqAt_item {A : Around} {s : Shared} {v : V} {u u' : Value} (h : It1 v) (r : RelV v u) (r' : RelV v u') : EqAt A s u u' true := by
  rcases h with ⟨b, rfl⟩ | ⟨d, h⟩
  · cases (show u = .ref b from r)
    cases (show u' = .ref b from r')
    exact EqAt.same _
  · cases h with
    | non =>
      cases (show u = .none from r)
      cases (show u' = .none from r')
      exact EqAt.same _
    | bl b =>
      cases (show u = .bool b from r)
      cases (show u' = .bool b from r')
      exact EqAt.same _
    | @int i _ =>
      obtain ⟨t, rfl⟩ := (show ∃ t, u = .int i t from r)
      obtain ⟨t', rfl⟩ := (show ∃ t, u' = .int i t from r')
      have := (MeetsSeq.EqGives.int i i t t').at A s
      rwa [show (i == i) = true by simp] at this
    | @str x _ _ =>
      obtain ⟨t, rfl⟩ := (show ∃ t, u = .str x t from r)
      obtain ⟨t', rfl⟩ := (show ∃ t, u' = .str x t from r')
      have := (SeqRoads2.EqGives.str x x t t').at A s
      rwa [show (x.cps.toList == x.cps.toList) = true by simp] at this
theorem eqAt_items {A : Around} {s : Shared} {vs : List V} {as bs : List Value} (h : ∀ v ∈ vs, It1 v) (ra : Vals vs as) (rb : Vals vs bs) (j : Nat) (h1 : j < as.toArray.size) (h2 : j < bs.toArray.size) : EqAt A s as.toArray[j] bs.toArray[j] true := by
  have l1 : vs.length = as.length := ra.length
  have hj : j < vs.length := by rw [l1]; simpa using h1
  obtain ⟨u, hu, ru⟩ := ra.get (List.getElem?_eq_getElem hj)
  obtain ⟨u2, hu2, ru2⟩ := rb.get (List.getElem?_eq_getElem hj)
  have e1 : as.toArray[j] = u := by
    have : as[j]? = some as.toArray[j] := by simp
    exact Option.some.inj (this.symm.trans hu)
  have e2 : bs.toArray[j] = u2 := by
    have : bs[j]? = some bs.toArray[j] := by simp
    exact Option.some.inj (this.symm.trans hu2)
  rw [e1, e2]
  exact eqAt_item (h _ (List.getElem_mem hj)) ru ru2
theorem all_true (n : Nat) : ((List.range n).all fun _ => true) = true := by simp
/-- two lists of the same items -/
def rEqSm (K : PySem.W.Frag) : R2 := fun x y H Q => ∃ a b vs, x = .ref a ∧ y = .ref b ∧ SqL K H a vs ∧ SqL K H b vs ∧ (∀ v ∈ vs, It1 v) ∧ Q (.bl true) H
def rNeSm (K : PySem.W.Frag) : R2 := fun x y H Q => ∃ a b vs, x = .ref a ∧ y = .ref b ∧ SqL K H a vs ∧ SqL K H b vs ∧ (∀ v ∈ vs, It1 v) ∧ Q (.bl false) H
section
variable {X : Cx}
theorem op_neSm (hu : X.A.units + 64 < cLine) : OpR X (compareOp .NotEq) (rNeSm X.K) := by
  intro pins s σ H x y v u Q I rx ry h
  obtain ⟨a, b, vs, rfl, rfl, ha, hb, hv, q⟩ := h
  cases (show v = .ref a from rx)
  cases (show u = .ref b from ry)
  obtain ⟨as, ra, p1, _⟩ := I.list ha
  obtain ⟨bs, rb, p2, _⟩ := I.list hb
  have hsz : as.toArray.size = bs.toArray.size := by
    have l1 := ra.length; have l2 := rb.length
    simp; omega
  have z := RcNeAt.lists (A := X.A) (e := fun _ => true) p1.isList p2.isList hsz (by omega) (fun j h1 h2 => eqAt_items hv ra rb j h1 h2)
  rw [all_true] at z
  exact z X.prog X.w X.xe _ ⟨.bl false, H, I, rfl, q⟩
end
/-- what equals itself -/
inductive Self (K : PySem.W.Frag) (H : Hp) : V → Prop
  | ps {v : V} {d : PyData} : Ps v d → Self K H v
  | lst {a : Addr} {vs : List V} : SqL K H a vs → (∀ v ∈ vs, It1 v) → Self K H (.ref a)
  | tup {a : Addr} {vs : List V} : SqT K H a vs → (∀ v ∈ vs, It1 v) → Self K H (.ref a)
  | dct {a : Addr} : H a = some (.dK []) → Self K H (.ref a)
  | ins {a C dx : Addr} {fs : List (Str × V)} : H a = some (.ins C dx fs) → PySem.W.mroIn K C (.type "object") = some true → PySem.W.findIn K (.ref C) "__eq__" = some (some (.builtin "object.__eq__")) → Self K H (.ref a)
section
variable {M : Model} {prog : Program} {w : World} {A : Around} {E : Value → Shared → Prop} {s : Shared} {K : PySem.W.Frag} {x C : Addr} {ox : Obj} {od : Option Obj}
theorem rc_self (hu : A.units < cLine) (X : K.In s.heap) (I : PySem.W.InstAt s.heap x ox C od) (hm : PySem.W.mroIn K C (.type "object") = some true) (hs : PySem.W.findIn K (.ref C) "__eq__" = some (some (.builtin "object.__eq__"))) :
    RcAt A s (.ref x) (.ref x) true := fun prog w E Q h => by
  have one : ∀ {E : Value → Shared → Prop}, wpAny (model prog w) A (tryCompare (.ref x) "__eq__" (.ref x)) (fun r s' => r = some (.bool true) ∧ s' = s) E s := by
    intro E
    unfold tryCompare
    refine wpAny_bind (HN.ifBound_objEq X I hs ?_)
    exact wpAny_call (codeAny_call_builtin F.cmp_object.eq.plain F.cmpEntry_eq (PySem.W.check_slot F.cmpKind_eq F.cmpSplit_eq (I.type.andThen (PySem.W.looks_mroIn X hm)) (F.cmpArgs_eq _ _) (PySem.objEq_entry_same (wpAny_pure ⟨rfl, rfl⟩))))
  simp only [richCompare, cmpInfo_Eq, oneThing_ref]
  refine wpAny_holding (wpAny_bind (wpAny_cRoomFor hu ?_))
  refine wpAny_bind (I.type.here ?_)
  refine wpAny_bind (I.type.here ?_)
  rw [if_neg (by simp)]
  refine wpAny_bind (m := tryCompare (.ref x) _ (.ref x)) (wpAny_mono one (fun r s1 z => ?_) fun _ _ e => e)
  obtain ⟨z1, z2⟩ := z
  subst z1
  subst z2
  exact wpAny_pure h
end
/-- x == y where both are one thing, or alike plain ones -/
def rEqSf (K : PySem.W.Frag) : R2 := fun x y H Q => x = y ∧ Self K H x ∧ Q (.bl true) H
section
variable {X : Cx}
theorem op_eqSf (hu : X.A.units + 64 < cLine) : OpR X (compareOp .Eq) (rEqSf X.K) := by
  intro pins s σ H x y v u Q I rx ry h
  obtain ⟨rfl, hs, q⟩ := h
  cases hs with
  | @ps v d h =>
    refine op_eqD hu pins s σ H x x _ _ Q I rx ry ⟨d, d, h.dp, h.dp, h.shaped, h.shaped, ?_⟩
    rw [SeqAt.eqv_refl _ h.lay]
    exact q
  | @lst a vs ha hv =>
    cases (show v = .ref a from rx)
    cases (show u = .ref a from ry)
    obtain ⟨as, ra, p1, _⟩ := I.list ha
    have z := RcAt.lists (A := X.A) (e := fun _ => true) p1.isList p1.isList rfl (by omega) (fun j h1 h2 => eqAt_items hv ra ra j h1 h2)
    rw [all_true] at z
    exact z X.prog X.w X.xe _ ⟨.bl true, H, I, rfl, q⟩
  | @tup a vs ha hv =>
    cases (show v = .ref a from rx)
    cases (show u = .ref a from ry)
    obtain ⟨as, ra, p1, _⟩ := I.tuple ha
    have p2 : s.heap.IsTuple a as.toArray := p1
    have z := RcAt.tuples (A := X.A) (e := fun _ => true) p2 p2 (by omega) (fun j h1 h2 => eqAt_items hv ra ra j h1 h2)
    rw [all_true] at z
    simp only [beq_self_eq_true, Bool.and_self] at z
    exact z X.prog X.w X.xe _ ⟨.bl true, H, I, rfl, q⟩
  | @dct a ha =>
    cases (show v = .ref a from rx)
    cases (show u = .ref a from ry)
    obtain ⟨_, hn, vs, kv, hm⟩ := dk_of I.hok ha
    have : vs = [] := by cases kv; rfl
    subst this
    refine PySem.W.eq_dictsT (e := fun _ => true) hn hn hm hm (n := 0) (fun k v y h => by cases h) (by omega) ?_
    exact ⟨.bl true, H, I, rfl, q⟩
  | @ins a C dx fs ha hm he =>
    cases (show v = .ref a from rx)
    cases (show u = .ref a from ry)
    obtain ⟨mA, O, _⟩ := ins_get I.hok ha
    obtain ⟨od, J, _⟩ := O.look
    exact rc_self (by omega) I.kIn J hm he X.prog X.w X.xe _ ⟨.bl true, H, I, rfl, q⟩
end
end Ice

set_option Elab.async false
set_option linter.all false
set_option maxRecDepth 100000
set_option maxHeartbeats 4000000
namespace Ice
open PySem PySem.Spec PyProof.Rows L2 TL
/-! side conditions, heaps, one step of a reading, and many -/
local macro_rules | `(tactic| walk_at "hp") => `(tactic| first | assumption | exact upd_same | exact New.at_ (by assumption) | (refine keepU ?_ (by assumption); walk_at "hp") | (refine New.app (by assumption) ?_; walk_at "hp") | (refine Same.app (by assumption) ?_; walk_at "hp") | (refine But.app (by assumption) (by assumption) ?_; walk_at "hp"))
local macro_rules | `(tactic| walk_at "sq") => `(tactic| first | assumption | exact SqL.lst (by walk_at "hp") | exact L2.Same.seq (New.same (by assumption)) (by assumption) | exact L2.Same.seq (by assumption) (by assumption))
local macro_rules | `(tactic| walk_at "len") => `(tactic| first | assumption | (simp only [List.length_cons, List.length_nil, List.length_append, List.length_map]; decide) | (refine Ice.sz_of ?_; simp only [List.length_cons, List.length_nil, List.length_append, List.length_map]; omega))
local macro_rules | `(tactic| walk_at "fresh") => `(tactic| (simp only [List.map_append, List.map_cons, List.map_nil, List.nil_append, List.cons_append]; decide +kernel))
local macro_rules | `(tactic| walk_at "sd") => `(tactic| first | assumption | (show _ ≠ _; omega) | exact Or.inl ⟨by omega, by omega⟩ | exact Or.inr ⟨by omega, by omega⟩ | exact ⟨by decide, by decide⟩ | exact ⟨by decide, by decide, by decide⟩ | exact ⟨by omega, by omega, by omega⟩)
/-! one step of a reading, and many -/
local macro_rules | `(tactic| walk_at "st") => `(tactic| first
  | with_reducible refine i_seq ?_
  | with_reducible refine i_if ?_
  | with_reducible refine i_next ?_
  | with_reducible refine i_ret ?_
  | with_reducible refine i_retN ?_
  | with_reducible refine i_drop ?_
  | with_reducible refine i_asg ?_
  | with_reducible refine i_gname ?_
  | with_reducible refine i_gsub ?_
  | ((with_reducible refine i_var (v := ?vv) ?hv ?_); (case hv => exact rfl))
  | with_reducible refine i_c ?_
  | with_reducible refine i_op ?_
  | with_reducible refine i_un ?_
  | with_reducible refine i_test ?_
  | with_reducible refine i_tB ?_
  | with_reducible refine i_and ?_
  | with_reducible refine i_or ?_
  | with_reducible refine i_not ?_
  | with_reducible refine i_andV ?_
  | with_reducible refine i_orV ?_
  | with_reducible refine i_notV ?_
  | with_reducible refine i_ifE ?_
  | with_reducible refine i_chain ?_
  | with_reducible refine i_bl ?_
  | with_reducible refine i_nil ?_
  | with_reducible refine i_cons ?_
  | with_reducible refine i_call ?_
  | with_reducible refine i_cb ?_
  | with_reducible refine i_rI0 ?_
  | with_reducible refine i_rU ?_
  | ((with_reducible refine i_rEq ?hs ?_); (case hs => exact rfl))
  | ((with_reducible refine i_rNe ?hs ?_); (case hs => exact rfl))
  | ((with_reducible refine i_rI ?hc ?_); (case hc => walk_at "sd"))
  | ((with_reducible refine i_ixL (xs := ?xs) (v := ?vv) ?hS ?he ?_); (case hS => walk_at "sq"); (case he => exact rfl))
  | ((with_reducible refine i_setL (xs := ?xs) (j := ?jj) ?hS ?he ?_); (case hS => walk_at "hp"); (case he => exact rfl))
  | with_reducible refine i_tup ?_
  | with_reducible refine i_lst ?_
  | with_reducible refine i_bm ?_
  | with_reducible refine i_bm0 ?_
  | with_reducible refine i_m1 ?_
  | with_reducible refine i_sl ?_
  | with_reducible refine i_nopart ?_
  | with_reducible refine i_part ?_
  | with_reducible refine i_int ?_
  | with_reducible refine i_str ?_
  | with_reducible refine i_for ?_
  | with_reducible refine i_yes ?_
  | ((with_reducible refine i_lenL (xs := ?xs) ?hS ?_); (case hS => walk_at "sq"))
  | ((with_reducible refine i_room ?hz ?_); (case hz => walk_at "len"))
  | with_reducible refine i_leT ?_
  | with_reducible refine i_notInS ?_
  | with_reducible refine i_inS ?_
  | with_reducible refine i_find ?_
  | with_reducible refine i_isB ?_
  | with_reducible refine i_max2 ?_
  | with_reducible refine i_min2 ?_
  | with_reducible exact trivial
  | with_reducible refine iteT ?_
  | with_reducible refine iteF ?_
  | with_reducible refine i_isstr ?_
  | with_reducible refine i_lc ?_
  | ((with_reducible refine i_cat (xs := ?xs) (zs := ?zs) ?ha ?hb ?hz ?_); (case ha => walk_at "hp"); (case hb => walk_at "hp"); (case hz => walk_at "len"))
  | ((with_reducible refine i_tyL (xs := ?xs) ?ha ?_); (case ha => walk_at "hp"))
  | with_reducible refine i_list ?_
  | with_reducible refine i_disp ?_
  | with_reducible refine i_pairs0 ?_
  | with_reducible refine i_pairs ?_
  | with_reducible refine i_newK ?_
  | with_reducible refine i_gcons ?_
  | with_reducible refine i_gnil ?_
  | with_reducible refine i_revL ?_
  | with_reducible refine i_rng1 ?_
  | ((with_reducible refine i_wipe ?hw ?_); (case hw => exact rfl))
  | with_reducible refine iteNT ?_
  | with_reducible refine iteNF ?_)
local macro_rules | `(tactic| walk_at "sx") => `(tactic| first
  | walk_at "st"
  | with_reducible refine i_kinit ?_
  | with_reducible refine i_ost ?_
  | with_reducible refine i_mkO ?_
  | with_reducible refine i_callE ?_
  | with_reducible refine i_makeE ?_
  | with_reducible refine i_xf ?_
  | with_reducible refine i_sfld ?_
  | with_reducible refine i_fld ?_
  | ((with_reducible refine i_ixT (xs := ?xs) (v := ?vv) ?hS ?he ?_); (case hS => exact SqT.tup (by walk_at "hp")); (case he => exact rfl))
  | with_reducible refine i_intB ?_
  | with_reducible refine i_runS ?_
  | with_reducible refine i_runN ?_
  | ((with_reducible refine i_xf1 (fs := ?ff) (v := ?vv) ?hx ?hl ?_); (case hx => walk_at "hp"); (case hl => exact rfl))
  | with_reducible refine i_methE ?_
  | with_reducible refine i_meth ?_
  | with_reducible refine i_make ?_
  | ((with_reducible refine i_obj (dx := ?dd) (fs := ?ff) ?hx ?hl ?_); (case hx => walk_at "hp"); (case hl => exact rfl))
  | ((with_reducible refine i_fld1 (C := ?CC) (dx := ?dd) (fs := ?ff) (v := ?vv) ?hx ?cl ?na ?hl ?_); (case hx => walk_at "hp"); (case cl => assumption); (case na => assumption); (case hl => exact rfl)))
local macro_rules | `(tactic| walk_at "rd") => `(tactic| repeat (walk_at "sx"))
def topS (i : Nat) : Stmt := PySem.Challenge.pw_iceopened_k10_trains.main.body.getD i (.Pass ⟨0, 0, 0, 0⟩)
abbrev s_is_whole : Stmt := topS 9
theorem sc_is_whole : FnScope ["thing"] ["thing"] (defScope s_is_whole) := ⟨rfl, rfl, rfl, by decide +kernel, rfl, by decide +kernel, by decide +kernel⟩
abbrev s_is_within : Stmt := topS 10
theorem sc_is_within : FnScope ["thing", "low", "high"] ["thing", "low", "high"] (defScope s_is_within) := ⟨rfl, rfl, rfl, by decide +kernel, rfl, by decide +kernel, by decide +kernel⟩
abbrev s_is_name : Stmt := topS 11
theorem sc_is_name : FnScope ["thing"] ["thing"] (defScope s_is_name) := ⟨rfl, rfl, rfl, by decide +kernel, rfl, by decide +kernel, by decide +kernel⟩
abbrev s_all_between : Stmt := topS 12
theorem sc_all_between : FnScope ["text", "low", "high", "sign"] ["text", "low", "high"] (defScope s_all_between) := ⟨rfl, rfl, rfl, by decide +kernel, rfl, by decide +kernel, by decide +kernel⟩
abbrev s_check_number : Stmt := topS 14
theorem sc_check_number : FnScope ["thing", "low", "high"] ["thing", "low", "high"] (defScope s_check_number) := ⟨rfl, rfl, rfl, by decide +kernel, rfl, by decide +kernel, by decide +kernel⟩
abbrev s_check_names : Stmt := topS 29
theorem sc_check_names : FnScope ["things", "thing"] ["things"] (defScope s_check_names) := ⟨rfl, rfl, rfl, by decide +kernel, rfl, by decide +kernel, by decide +kernel⟩
abbrev s_can_be_train : Stmt := topS 30
theorem sc_can_be_train : FnScope ["thing", "vessel"] ["thing"] (defScope s_can_be_train) := ⟨rfl, rfl, rfl, by decide +kernel, rfl, by decide +kernel, by decide +kernel⟩
abbrev s_strength_together : Stmt := topS 31
theorem sc_strength_together : FnScope ["vessels", "thinned", "strengths", "vessel"] ["vessels"] (defScope s_strength_together) := ⟨rfl, rfl, rfl, by decide +kernel, rfl, by decide +kernel, by decide +kernel⟩
abbrev s_cell : Stmt := topS 33
theorem sc_cell : FnScope ["_law_script", "_law_k"] ["_law_script", "_law_k"] (defScope s_cell) := ⟨rfl, rfl, rfl, by decide +kernel, rfl, by decide +kernel, by decide +kernel⟩
abbrev s_box : Stmt := topS 34
theorem sc_box : FnScope ["_law_cell_here"] ["_law_cell_here"] (defScope s_box) := ⟨rfl, rfl, rfl, by decide +kernel, rfl, by decide +kernel, by decide +kernel⟩
abbrev s_take : Stmt := topS 35
theorem sc_take : FnScope ["_law_box_here", "_law_many", "_law_digit", "_law_one", "_law_other"] ["_law_box_here", "_law_many"] (defScope s_take) := ⟨rfl, rfl, rfl, by decide +kernel, rfl, by decide +kernel, by decide +kernel⟩
abbrev s_names : Stmt := topS 36
theorem sc_names : FnScope ["_law_box_here", "_law_many", "_law_letters", "_law_way", "_law_first", "_law_step", "_law_at", "_law_size", "_law_stem", "_law_k"] ["_law_box_here", "_law_many"] (defScope s_names) := ⟨rfl, rfl, rfl, by decide +kernel, rfl, by decide +kernel, by decide +kernel⟩
abbrev s_number : Stmt := topS 37
theorem sc_number : FnScope ["_law_box_here", "_law_low", "_law_high", "_law_way"] ["_law_box_here", "_law_low", "_law_high"] (defScope s_number) := ⟨rfl, rfl, rfl, by decide +kernel, rfl, by decide +kernel, by decide +kernel⟩
abbrev s_vessel_row : Stmt := topS 38
theorem sc_vessel_row : FnScope ["_law_box_here", "_law_kind", "_law_name", "_law_ports", "_law_names_here", "_law_numbers"] ["_law_box_here", "_law_kind", "_law_name", "_law_ports"] (defScope s_vessel_row) := ⟨rfl, rfl, rfl, by decide +kernel, rfl, by decide +kernel, by decide +kernel⟩
abbrev s_vessel : Stmt := topS 39
theorem sc_vessel : FnScope ["_law_kind", "_law_row"] ["_law_kind", "_law_row"] (defScope s_vessel) := ⟨rfl, rfl, rfl, by decide +kernel, rfl, by decide +kernel, by decide +kernel⟩
abbrev s_all_let : Stmt := topS 40
theorem sc_all_let : FnScope ["_law_vessels_here", "_law_thick", "_law_vessel_here"] ["_law_vessels_here", "_law_thick"] (defScope s_all_let) := ⟨rfl, rfl, rfl, by decide +kernel, rfl, by decide +kernel, by decide +kernel⟩
abbrev s_right : Stmt := topS 41
theorem sc_right : FnScope ["_law_train", "_law_vessels_here", "_law_hour", "_law_draught", "_law_thins", "_law_vessel_here", "_law_due", "_law_names_here", "_law_channel"] ["_law_train", "_law_vessels_here"] (defScope s_right) := ⟨rfl, rfl, rfl, by decide +kernel, rfl, by decide +kernel, by decide +kernel⟩
abbrev s_no_kind : Stmt := topS 42
theorem sc_no_kind : FnScope ["_law_thing", "e"] ["_law_thing"] (defScope s_no_kind) := ⟨rfl, rfl, rfl, by decide +kernel, rfl, by decide +kernel, by decide +kernel⟩
abbrev s_vessels : Stmt := topS 43
theorem sc_vessels : FnScope ["_law_box_here", "_law_vessels_here", "_law_names_here", "_law_many", "_law_k", "_law_kind"] ["_law_box_here"] (defScope s_vessels) := ⟨rfl, rfl, rfl, by decide +kernel, rfl, by decide +kernel, by decide +kernel⟩
abbrev s_law : Stmt := topS 44
theorem sc_law : FnScope ["_law_script", "_law_kept", "_law_k", "_law_box_here", "_law_listed", "_law_at", "_law_odd", "_law_vessels_here", "_law_handed", "_law_train", "_law_thing", "_law_some"] ["_law_script"] (defScope s_law) := ⟨rfl, rfl, rfl, by decide +kernel, rfl, by decide +kernel, by decide +kernel⟩
abbrev s_NoName___init__ : Stmt := inClass (topS 3) 0
theorem sc_NoName___init__ : FnScope ["self", "found"] ["self", "found"] (defScope s_NoName___init__) := ⟨rfl, rfl, rfl, by decide +kernel, rfl, by decide +kernel, by decide +kernel⟩
abbrev s_NoNumber___init__ : Stmt := inClass (topS 4) 0
theorem sc_NoNumber___init__ : FnScope ["self", "found"] ["self", "found"] (defScope s_NoNumber___init__) := ⟨rfl, rfl, rfl, by decide +kernel, rfl, by decide +kernel, by decide +kernel⟩
abbrev s_Doubled___init__ : Stmt := inClass (topS 5) 0
theorem sc_Doubled___init__ : FnScope ["self", "name"] ["self", "name"] (defScope s_Doubled___init__) := ⟨rfl, rfl, rfl, by decide +kernel, rfl, by decide +kernel, by decide +kernel⟩
abbrev s_NoKind___init__ : Stmt := inClass (topS 6) 0
theorem sc_NoKind___init__ : FnScope ["self", "found"] ["self", "found"] (defScope s_NoKind___init__) := ⟨rfl, rfl, rfl, by decide +kernel, rfl, by decide +kernel, by decide +kernel⟩
abbrev s_Channel___init__ : Stmt := inClass (topS 24) 0
theorem sc_Channel___init__ : FnScope ["self", "name", "one", "other", "hours", "depth", "first", "growth", "most"] ["self", "name", "one", "other", "hours", "depth", "first", "growth", "most"] (defScope s_Channel___init__) := ⟨rfl, rfl, rfl, by decide +kernel, rfl, by decide +kernel, by decide +kernel⟩
abbrev s_Channel_row : Stmt := inClass (topS 24) 3
theorem sc_Channel_row : FnScope ["self"] ["self"] (defScope s_Channel_row) := ⟨rfl, rfl, rfl, by decide +kernel, rfl, by decide +kernel, by decide +kernel⟩
abbrev s_Vessel___init__ : Stmt := inClass (topS 25) 0
theorem sc_Vessel___init__ : FnScope ["self", "name", "port", "hour", "strength", "draught"] ["self", "name", "port", "hour", "strength", "draught"] (defScope s_Vessel___init__) := ⟨rfl, rfl, rfl, by decide +kernel, rfl, by decide +kernel, by decide +kernel⟩
abbrev s_Vessel_kind : Stmt := inClass (topS 25) 1
theorem sc_Vessel_kind : FnScope ["self"] ["self"] (defScope s_Vessel_kind) := ⟨rfl, rfl, rfl, by decide +kernel, rfl, by decide +kernel, by decide +kernel⟩
abbrev s_Vessel_thins : Stmt := inClass (topS 25) 2
theorem sc_Vessel_thins : FnScope ["self"] ["self"] (defScope s_Vessel_thins) := ⟨rfl, rfl, rfl, by decide +kernel, rfl, by decide +kernel, by decide +kernel⟩
abbrev s_Vessel_lets : Stmt := inClass (topS 25) 3
theorem sc_Vessel_lets : FnScope ["self", "channel"] ["self", "channel"] (defScope s_Vessel_lets) := ⟨rfl, rfl, rfl, by decide +kernel, rfl, by decide +kernel, by decide +kernel⟩
abbrev s_Vessel_row : Stmt := inClass (topS 25) 4
theorem sc_Vessel_row : FnScope ["self"] ["self"] (defScope s_Vessel_row) := ⟨rfl, rfl, rfl, by decide +kernel, rfl, by decide +kernel, by decide +kernel⟩
abbrev s_Breaker___init__ : Stmt := inClass (topS 26) 0
theorem sc_Breaker___init__ : FnScope ["self", "name", "port", "hour", "strength", "draught", "cut"] ["self", "name", "port", "hour", "strength", "draught", "cut"] (defScope s_Breaker___init__) := ⟨rfl, rfl, rfl, by decide +kernel, rfl, by decide +kernel, by decide +kernel⟩
abbrev s_Breaker_kind : Stmt := inClass (topS 26) 1
theorem sc_Breaker_kind : FnScope ["self"] ["self"] (defScope s_Breaker_kind) := ⟨rfl, rfl, rfl, by decide +kernel, rfl, by decide +kernel, by decide +kernel⟩
abbrev s_Breaker_thins : Stmt := inClass (topS 26) 2
theorem sc_Breaker_thins : FnScope ["self"] ["self"] (defScope s_Breaker_thins) := ⟨rfl, rfl, rfl, by decide +kernel, rfl, by decide +kernel, by decide +kernel⟩
abbrev s_Breaker_row : Stmt := inClass (topS 26) 3
theorem sc_Breaker_row : FnScope ["self"] ["self"] (defScope s_Breaker_row) := ⟨rfl, rfl, rfl, by decide +kernel, rfl, by decide +kernel, by decide +kernel⟩
abbrev s_Ship___init__ : Stmt := inClass (topS 27) 0
theorem sc_Ship___init__ : FnScope ["self", "name", "port", "goal", "hour", "strength", "draught"] ["self", "name", "port", "goal", "hour", "strength", "draught"] (defScope s_Ship___init__) := ⟨rfl, rfl, rfl, by decide +kernel, rfl, by decide +kernel, by decide +kernel⟩
abbrev s_Ship_kind : Stmt := inClass (topS 27) 1
theorem sc_Ship_kind : FnScope ["self"] ["self"] (defScope s_Ship_kind) := ⟨rfl, rfl, rfl, by decide +kernel, rfl, by decide +kernel, by decide +kernel⟩
abbrev s_Ship_row : Stmt := inClass (topS 27) 2
theorem sc_Ship_row : FnScope ["self"] ["self"] (defScope s_Ship_row) := ⟨rfl, rfl, rfl, by decide +kernel, rfl, by decide +kernel, by decide +kernel⟩
abbrev s_Train___init__ : Stmt := inClass (topS 28) 0
theorem sc_Train___init__ : FnScope ["self", "vessels", "leader", "hour", "draught", "vessel"] ["self", "vessels"] (defScope s_Train___init__) := ⟨rfl, rfl, rfl, by decide +kernel, rfl, by decide +kernel, by decide +kernel⟩
abbrev s_Train_kind : Stmt := inClass (topS 28) 1
theorem sc_Train_kind : FnScope ["self"] ["self"] (defScope s_Train_kind) := ⟨rfl, rfl, rfl, by decide +kernel, rfl, by decide +kernel, by decide +kernel⟩
abbrev s_Train_thins : Stmt := inClass (topS 28) 2
theorem sc_Train_thins : FnScope ["self", "vessel"] ["self"] (defScope s_Train_thins) := ⟨rfl, rfl, rfl, by decide +kernel, rfl, by decide +kernel, by decide +kernel⟩
abbrev s_Train_names : Stmt := inClass (topS 28) 3
theorem sc_Train_names : FnScope ["self", "vessel"] ["self"] (defScope s_Train_names) := ⟨rfl, rfl, rfl, by decide +kernel, rfl, by decide +kernel, by decide +kernel⟩
abbrev s_Train_row : Stmt := inClass (topS 28) 4
theorem sc_Train_row : FnScope ["self", "vessel"] ["self"] (defScope s_Train_row) := ⟨rfl, rfl, rfl, by decide +kernel, rfl, by decide +kernel, by decide +kernel⟩

structure Top (K : PySem.W.Frag) (mg : Str → Option Value) where
  a_is_whole : Addr
  d_is_whole : FuncData
  F_is_whole : Fun K "is_whole" "is_whole" s_is_whole a_is_whole d_is_whole
  b_is_whole : Binds K d_is_whole ["thing"] []
  m_is_whole : mg "is_whole" = some (.ref a_is_whole)
  a_is_within : Addr
  d_is_within : FuncData
  F_is_within : Fun K "is_within" "is_within" s_is_within a_is_within d_is_within
  b_is_within : Binds K d_is_within ["thing", "low", "high"] []
  m_is_within : mg "is_within" = some (.ref a_is_within)
  a_is_name : Addr
  d_is_name : FuncData
  F_is_name : Fun K "is_name" "is_name" s_is_name a_is_name d_is_name
  b_is_name : Binds K d_is_name ["thing"] []
  m_is_name : mg "is_name" = some (.ref a_is_name)
  a_all_between : Addr
  d_all_between : FuncData
  F_all_between : Fun K "_all_between" "_all_between" s_all_between a_all_between d_all_between
  b_all_between : Binds K d_all_between ["text", "low", "high"] []
  m_all_between : mg "_all_between" = some (.ref a_all_between)
  a_check_number : Addr
  d_check_number : FuncData
  F_check_number : Fun K "check_number" "check_number" s_check_number a_check_number d_check_number
  b_check_number : Binds K d_check_number ["thing", "low", "high"] []
  m_check_number : mg "check_number" = some (.ref a_check_number)
  a_check_names : Addr
  d_check_names : FuncData
  F_check_names : Fun K "_check_names" "_check_names" s_check_names a_check_names d_check_names
  b_check_names : Binds K d_check_names ["things"] []
  m_check_names : mg "_check_names" = some (.ref a_check_names)
  a_can_be_train : Addr
  d_can_be_train : FuncData
  F_can_be_train : Fun K "_can_be_train" "_can_be_train" s_can_be_train a_can_be_train d_can_be_train
  b_can_be_train : Binds K d_can_be_train ["thing"] []
  m_can_be_train : mg "_can_be_train" = some (.ref a_can_be_train)
  a_strength_together : Addr
  d_strength_together : FuncData
  F_strength_together : Fun K "_strength_together" "_strength_together" s_strength_together a_strength_together d_strength_together
  b_strength_together : Binds K d_strength_together ["vessels"] []
  m_strength_together : mg "_strength_together" = some (.ref a_strength_together)
  a_cell : Addr
  d_cell : FuncData
  F_cell : Fun K "_law_cell" "_law_cell" s_cell a_cell d_cell
  b_cell : Binds K d_cell ["_law_script", "_law_k"] []
  m_cell : mg "_law_cell" = some (.ref a_cell)
  a_box : Addr
  d_box : FuncData
  F_box : Fun K "_law_box" "_law_box" s_box a_box d_box
  b_box : Binds K d_box ["_law_cell_here"] []
  m_box : mg "_law_box" = some (.ref a_box)
  a_take : Addr
  d_take : FuncData
  F_take : Fun K "_law_take" "_law_take" s_take a_take d_take
  b_take : Binds K d_take ["_law_box_here", "_law_many"] []
  m_take : mg "_law_take" = some (.ref a_take)
  a_names : Addr
  d_names : FuncData
  F_names : Fun K "_law_names" "_law_names" s_names a_names d_names
  b_names : Binds K d_names ["_law_box_here", "_law_many"] []
  m_names : mg "_law_names" = some (.ref a_names)
  a_number : Addr
  d_number : FuncData
  F_number : Fun K "_law_number" "_law_number" s_number a_number d_number
  b_number : Binds K d_number ["_law_box_here", "_law_low", "_law_high"] []
  m_number : mg "_law_number" = some (.ref a_number)
  a_vessel_row : Addr
  d_vessel_row : FuncData
  F_vessel_row : Fun K "_law_vessel_row" "_law_vessel_row" s_vessel_row a_vessel_row d_vessel_row
  b_vessel_row : Binds K d_vessel_row ["_law_box_here", "_law_kind", "_law_name", "_law_ports"] []
  m_vessel_row : mg "_law_vessel_row" = some (.ref a_vessel_row)
  a_vessel : Addr
  d_vessel : FuncData
  F_vessel : Fun K "_law_vessel" "_law_vessel" s_vessel a_vessel d_vessel
  b_vessel : Binds K d_vessel ["_law_kind", "_law_row"] []
  m_vessel : mg "_law_vessel" = some (.ref a_vessel)
  a_all_let : Addr
  d_all_let : FuncData
  F_all_let : Fun K "_law_all_let" "_law_all_let" s_all_let a_all_let d_all_let
  b_all_let : Binds K d_all_let ["_law_vessels_here", "_law_thick"] []
  m_all_let : mg "_law_all_let" = some (.ref a_all_let)
  a_right : Addr
  d_right : FuncData
  F_right : Fun K "_law_right" "_law_right" s_right a_right d_right
  b_right : Binds K d_right ["_law_train", "_law_vessels_here"] []
  m_right : mg "_law_right" = some (.ref a_right)
  a_no_kind : Addr
  d_no_kind : FuncData
  F_no_kind : Fun K "_law_no_kind" "_law_no_kind" s_no_kind a_no_kind d_no_kind
  b_no_kind : Binds K d_no_kind ["_law_thing"] []
  m_no_kind : mg "_law_no_kind" = some (.ref a_no_kind)
  a_vessels : Addr
  d_vessels : FuncData
  F_vessels : Fun K "_law_vessels" "_law_vessels" s_vessels a_vessels d_vessels
  b_vessels : Binds K d_vessels ["_law_box_here"] []
  m_vessels : mg "_law_vessels" = some (.ref a_vessels)
  a_law : Addr
  d_law : FuncData
  F_law : Fun K "law" "law" s_law a_law d_law
  b_law : Binds K d_law ["_law_script"] []
  m_law : mg "law" = some (.ref a_law)
  a_NoName___init__ : Addr
  d_NoName___init__ : FuncData
  F_NoName___init__ : Fun K "__init__" "NoName.__init__" s_NoName___init__ a_NoName___init__ d_NoName___init__
  b_NoName___init__ : Binds K d_NoName___init__ ["self", "found"] []
  a_NoNumber___init__ : Addr
  d_NoNumber___init__ : FuncData
  F_NoNumber___init__ : Fun K "__init__" "NoNumber.__init__" s_NoNumber___init__ a_NoNumber___init__ d_NoNumber___init__
  b_NoNumber___init__ : Binds K d_NoNumber___init__ ["self", "found"] []
  a_Doubled___init__ : Addr
  d_Doubled___init__ : FuncData
  F_Doubled___init__ : Fun K "__init__" "Doubled.__init__" s_Doubled___init__ a_Doubled___init__ d_Doubled___init__
  b_Doubled___init__ : Binds K d_Doubled___init__ ["self", "name"] []
  a_NoKind___init__ : Addr
  d_NoKind___init__ : FuncData
  F_NoKind___init__ : Fun K "__init__" "NoKind.__init__" s_NoKind___init__ a_NoKind___init__ d_NoKind___init__
  b_NoKind___init__ : Binds K d_NoKind___init__ ["self", "found"] []
  a_Channel___init__ : Addr
  d_Channel___init__ : FuncData
  F_Channel___init__ : Fun K "__init__" "Channel.__init__" s_Channel___init__ a_Channel___init__ d_Channel___init__
  b_Channel___init__ : Binds K d_Channel___init__ ["self", "name", "one", "other", "hours", "depth", "first", "growth", "most"] []
  a_Channel_row : Addr
  d_Channel_row : FuncData
  F_Channel_row : Fun K "row" "Channel.row" s_Channel_row a_Channel_row d_Channel_row
  b_Channel_row : Binds K d_Channel_row ["self"] []
  a_Vessel___init__ : Addr
  d_Vessel___init__ : FuncData
  F_Vessel___init__ : Fun K "__init__" "Vessel.__init__" s_Vessel___init__ a_Vessel___init__ d_Vessel___init__
  b_Vessel___init__ : Binds K d_Vessel___init__ ["self", "name", "port", "hour", "strength", "draught"] []
  a_Vessel_kind : Addr
  d_Vessel_kind : FuncData
  F_Vessel_kind : Fun K "kind" "Vessel.kind" s_Vessel_kind a_Vessel_kind d_Vessel_kind
  b_Vessel_kind : Binds K d_Vessel_kind ["self"] []
  a_Vessel_thins : Addr
  d_Vessel_thins : FuncData
  F_Vessel_thins : Fun K "thins" "Vessel.thins" s_Vessel_thins a_Vessel_thins d_Vessel_thins
  b_Vessel_thins : Binds K d_Vessel_thins ["self"] []
  a_Vessel_lets : Addr
  d_Vessel_lets : FuncData
  F_Vessel_lets : Fun K "lets" "Vessel.lets" s_Vessel_lets a_Vessel_lets d_Vessel_lets
  b_Vessel_lets : Binds K d_Vessel_lets ["self", "channel"] []
  a_Vessel_row : Addr
  d_Vessel_row : FuncData
  F_Vessel_row : Fun K "row" "Vessel.row" s_Vessel_row a_Vessel_row d_Vessel_row
  b_Vessel_row : Binds K d_Vessel_row ["self"] []
  a_Breaker___init__ : Addr
  d_Breaker___init__ : FuncData
  F_Breaker___init__ : Fun K "__init__" "Breaker.__init__" s_Breaker___init__ a_Breaker___init__ d_Breaker___init__
  b_Breaker___init__ : Binds K d_Breaker___init__ ["self", "name", "port", "hour", "strength", "draught", "cut"] []
  a_Breaker_kind : Addr
  d_Breaker_kind : FuncData
  F_Breaker_kind : Fun K "kind" "Breaker.kind" s_Breaker_kind a_Breaker_kind d_Breaker_kind
  b_Breaker_kind : Binds K d_Breaker_kind ["self"] []
  a_Breaker_thins : Addr
  d_Breaker_thins : FuncData
  F_Breaker_thins : Fun K "thins" "Breaker.thins" s_Breaker_thins a_Breaker_thins d_Breaker_thins
  b_Breaker_thins : Binds K d_Breaker_thins ["self"] []
  a_Breaker_row : Addr
  d_Breaker_row : FuncData
  F_Breaker_row : Fun K "row" "Breaker.row" s_Breaker_row a_Breaker_row d_Breaker_row
  b_Breaker_row : Binds K d_Breaker_row ["self"] []
  a_Ship___init__ : Addr
  d_Ship___init__ : FuncData
  F_Ship___init__ : Fun K "__init__" "Ship.__init__" s_Ship___init__ a_Ship___init__ d_Ship___init__
  b_Ship___init__ : Binds K d_Ship___init__ ["self", "name", "port", "goal", "hour", "strength", "draught"] []
  a_Ship_kind : Addr
  d_Ship_kind : FuncData
  F_Ship_kind : Fun K "kind" "Ship.kind" s_Ship_kind a_Ship_kind d_Ship_kind
  b_Ship_kind : Binds K d_Ship_kind ["self"] []
  a_Ship_row : Addr
  d_Ship_row : FuncData
  F_Ship_row : Fun K "row" "Ship.row" s_Ship_row a_Ship_row d_Ship_row
  b_Ship_row : Binds K d_Ship_row ["self"] []
  a_Train___init__ : Addr
  d_Train___init__ : FuncData
  F_Train___init__ : Fun K "__init__" "Train.__init__" s_Train___init__ a_Train___init__ d_Train___init__
  b_Train___init__ : Binds K d_Train___init__ ["self", "vessels"] []
  a_Train_kind : Addr
  d_Train_kind : FuncData
  F_Train_kind : Fun K "kind" "Train.kind" s_Train_kind a_Train_kind d_Train_kind
  b_Train_kind : Binds K d_Train_kind ["self"] []
  a_Train_thins : Addr
  d_Train_thins : FuncData
  F_Train_thins : Fun K "thins" "Train.thins" s_Train_thins a_Train_thins d_Train_thins
  b_Train_thins : Binds K d_Train_thins ["self"] []
  a_Train_names : Addr
  d_Train_names : FuncData
  F_Train_names : Fun K "names" "Train.names" s_Train_names a_Train_names d_Train_names
  b_Train_names : Binds K d_Train_names ["self"] []
  a_Train_row : Addr
  d_Train_row : FuncData
  F_Train_row : Fun K "row" "Train.row" s_Train_row a_Train_row d_Train_row
  b_Train_row : Binds K d_Train_row ["self"] []
  a_IceError : Addr
  c_IceError : mg "IceError" = some (.ref a_IceError)
  sp_IceError : PySem.W.specialIn K (.ref a_IceError) "__getattribute__" = some (some (.builtin "type.__getattribute__"))
  ty_IceError : PySem.W.typeIn K (.ref a_IceError) = some (.type "type")
  rd_IceError : PySem.W.readsIn K a_IceError (.type "type") = true
  fc_IceError : PySem.W.findCls K (.ref a_IceError) (.type "type") "__init__" = some (.val (.builtin "ValueError.__init__"))
  a_NoName : Addr
  c_NoName : mg "NoName" = some (.ref a_NoName)
  ox_NoName : OexC K a_NoName
  xf_NoName : XfC K a_NoName
  in_NoName : PySem.W.findIn K (.ref a_NoName) "__init__" = some (some (.ref a_NoName___init__))
  tf_NoName : PySem.W.typeIn K (.ref a_NoName___init__) = some (.type "function")
  nf_NoName_found : PySem.W.findIn K (.ref a_NoName) "found" = some none
  a_NoNumber : Addr
  c_NoNumber : mg "NoNumber" = some (.ref a_NoNumber)
  ox_NoNumber : OexC K a_NoNumber
  xf_NoNumber : XfC K a_NoNumber
  in_NoNumber : PySem.W.findIn K (.ref a_NoNumber) "__init__" = some (some (.ref a_NoNumber___init__))
  tf_NoNumber : PySem.W.typeIn K (.ref a_NoNumber___init__) = some (.type "function")
  nf_NoNumber_found : PySem.W.findIn K (.ref a_NoNumber) "found" = some none
  a_Doubled : Addr
  c_Doubled : mg "Doubled" = some (.ref a_Doubled)
  ox_Doubled : OexC K a_Doubled
  xf_Doubled : XfC K a_Doubled
  in_Doubled : PySem.W.findIn K (.ref a_Doubled) "__init__" = some (some (.ref a_Doubled___init__))
  tf_Doubled : PySem.W.typeIn K (.ref a_Doubled___init__) = some (.type "function")
  nf_Doubled_name : PySem.W.findIn K (.ref a_Doubled) "name" = some none
  a_NoKind : Addr
  c_NoKind : mg "NoKind" = some (.ref a_NoKind)
  ox_NoKind : OexC K a_NoKind
  xf_NoKind : XfC K a_NoKind
  in_NoKind : PySem.W.findIn K (.ref a_NoKind) "__init__" = some (some (.ref a_NoKind___init__))
  tf_NoKind : PySem.W.typeIn K (.ref a_NoKind___init__) = some (.type "function")
  nf_NoKind_found : PySem.W.findIn K (.ref a_NoKind) "found" = some none
  a_Channel : Addr
  c_Channel : mg "Channel" = some (.ref a_Channel)
  cl_Channel : Cls K a_Channel
  mk_Channel : Mk K a_Channel a_Channel___init__
  na_Channel_name : NoAttr K a_Channel "name"
  na_Channel_one : NoAttr K a_Channel "one"
  na_Channel_other : NoAttr K a_Channel "other"
  na_Channel_hours : NoAttr K a_Channel "hours"
  na_Channel_depth : NoAttr K a_Channel "depth"
  na_Channel_first : NoAttr K a_Channel "first"
  na_Channel_growth : NoAttr K a_Channel "growth"
  na_Channel_most : NoAttr K a_Channel "most"
  me_Channel_row : Meth K a_Channel "row" a_Channel_row
  a_Vessel : Addr
  c_Vessel : mg "Vessel" = some (.ref a_Vessel)
  cl_Vessel : Cls K a_Vessel
  mk_Vessel : Mk K a_Vessel a_Vessel___init__
  ki_Vessel : Kin K a_Vessel a_Vessel___init__
  na_Vessel_name : NoAttr K a_Vessel "name"
  na_Vessel_port : NoAttr K a_Vessel "port"
  na_Vessel_hour : NoAttr K a_Vessel "hour"
  na_Vessel_strength : NoAttr K a_Vessel "strength"
  na_Vessel_draught : NoAttr K a_Vessel "draught"
  me_Vessel_kind : Meth K a_Vessel "kind" a_Vessel_kind
  me_Vessel_thins : Meth K a_Vessel "thins" a_Vessel_thins
  me_Vessel_lets : Meth K a_Vessel "lets" a_Vessel_lets
  me_Vessel_row : Meth K a_Vessel "row" a_Vessel_row
  a_Breaker : Addr
  c_Breaker : mg "Breaker" = some (.ref a_Breaker)
  cl_Breaker : Cls K a_Breaker
  mk_Breaker : Mk K a_Breaker a_Breaker___init__
  na_Breaker_name : NoAttr K a_Breaker "name"
  na_Breaker_port : NoAttr K a_Breaker "port"
  na_Breaker_hour : NoAttr K a_Breaker "hour"
  na_Breaker_strength : NoAttr K a_Breaker "strength"
  na_Breaker_draught : NoAttr K a_Breaker "draught"
  na_Breaker_cut : NoAttr K a_Breaker "cut"
  me_Breaker_kind : Meth K a_Breaker "kind" a_Breaker_kind
  me_Breaker_thins : Meth K a_Breaker "thins" a_Breaker_thins
  me_Breaker_row : Meth K a_Breaker "row" a_Breaker_row
  me_Breaker_lets : Meth K a_Breaker "lets" a_Vessel_lets
  a_Ship : Addr
  c_Ship : mg "Ship" = some (.ref a_Ship)
  cl_Ship : Cls K a_Ship
  mk_Ship : Mk K a_Ship a_Ship___init__
  na_Ship_name : NoAttr K a_Ship "name"
  na_Ship_port : NoAttr K a_Ship "port"
  na_Ship_hour : NoAttr K a_Ship "hour"
  na_Ship_strength : NoAttr K a_Ship "strength"
  na_Ship_draught : NoAttr K a_Ship "draught"
  na_Ship_goal : NoAttr K a_Ship "goal"
  me_Ship_kind : Meth K a_Ship "kind" a_Ship_kind
  me_Ship_row : Meth K a_Ship "row" a_Ship_row
  me_Ship_thins : Meth K a_Ship "thins" a_Vessel_thins
  me_Ship_lets : Meth K a_Ship "lets" a_Vessel_lets
  a_Train : Addr
  c_Train : mg "Train" = some (.ref a_Train)
  cl_Train : Cls K a_Train
  mk_Train : Mk K a_Train a_Train___init__
  na_Train_name : NoAttr K a_Train "name"
  na_Train_port : NoAttr K a_Train "port"
  na_Train_hour : NoAttr K a_Train "hour"
  na_Train_strength : NoAttr K a_Train "strength"
  na_Train_draught : NoAttr K a_Train "draught"
  na_Train__vessels : NoAttr K a_Train "_vessels"
  me_Train_kind : Meth K a_Train "kind" a_Train_kind
  me_Train_thins : Meth K a_Train "thins" a_Train_thins
  me_Train_names : Meth K a_Train "names" a_Train_names
  me_Train_row : Meth K a_Train "row" a_Train_row
  me_Train_lets : Meth K a_Train "lets" a_Vessel_lets
  ex_NoName_NoKind : PySem.W.exmOne K (.ref a_NoName) (.ref a_NoKind) = some false
  ex_NoName_IceError : PySem.W.exmOne K (.ref a_NoName) (.ref a_IceError) = some true
  ex_NoNumber_NoKind : PySem.W.exmOne K (.ref a_NoNumber) (.ref a_NoKind) = some false
  ex_NoNumber_IceError : PySem.W.exmOne K (.ref a_NoNumber) (.ref a_IceError) = some true
  ex_Doubled_NoKind : PySem.W.exmOne K (.ref a_Doubled) (.ref a_NoKind) = some false
  ex_Doubled_IceError : PySem.W.exmOne K (.ref a_Doubled) (.ref a_IceError) = some true
  ex_NoKind_NoKind : PySem.W.exmOne K (.ref a_NoKind) (.ref a_NoKind) = some true
  ex_NoKind_IceError : PySem.W.exmOne K (.ref a_NoKind) (.ref a_IceError) = some true
  sgc : PySem.W.specialIn K (.builtin "object.__class__") "__get__" = some (some (.builtin "getset_descriptor.__get__"))
  tkc : PySem.W.takesIn K (.builtin "object.__class__") = some true
  ca_Channel : PySem.W.findIn K (.ref a_Channel) "__class__" = some (some (.builtin "object.__class__"))
  mo_Channel : PySem.W.mroIn K a_Channel (.type "object") = some true
  io_Channel_Train : PySem.W.kitOne K (.ref a_Channel) (.ref a_Train) = some false
  io_Channel_Vessel : PySem.W.kitOne K (.ref a_Channel) (.ref a_Vessel) = some false
  io_Channel_Breaker : PySem.W.kitOne K (.ref a_Channel) (.ref a_Breaker) = some false
  io_Channel_Ship : PySem.W.kitOne K (.ref a_Channel) (.ref a_Ship) = some false
  ca_Vessel : PySem.W.findIn K (.ref a_Vessel) "__class__" = some (some (.builtin "object.__class__"))
  mo_Vessel : PySem.W.mroIn K a_Vessel (.type "object") = some true
  io_Vessel_Train : PySem.W.kitOne K (.ref a_Vessel) (.ref a_Train) = some false
  io_Vessel_Vessel : PySem.W.kitOne K (.ref a_Vessel) (.ref a_Vessel) = some true
  io_Vessel_Breaker : PySem.W.kitOne K (.ref a_Vessel) (.ref a_Breaker) = some false
  io_Vessel_Ship : PySem.W.kitOne K (.ref a_Vessel) (.ref a_Ship) = some false
  ca_Breaker : PySem.W.findIn K (.ref a_Breaker) "__class__" = some (some (.builtin "object.__class__"))
  mo_Breaker : PySem.W.mroIn K a_Breaker (.type "object") = some true
  io_Breaker_Train : PySem.W.kitOne K (.ref a_Breaker) (.ref a_Train) = some false
  io_Breaker_Vessel : PySem.W.kitOne K (.ref a_Breaker) (.ref a_Vessel) = some true
  io_Breaker_Breaker : PySem.W.kitOne K (.ref a_Breaker) (.ref a_Breaker) = some true
  io_Breaker_Ship : PySem.W.kitOne K (.ref a_Breaker) (.ref a_Ship) = some false
  ca_Ship : PySem.W.findIn K (.ref a_Ship) "__class__" = some (some (.builtin "object.__class__"))
  mo_Ship : PySem.W.mroIn K a_Ship (.type "object") = some true
  io_Ship_Train : PySem.W.kitOne K (.ref a_Ship) (.ref a_Train) = some false
  io_Ship_Vessel : PySem.W.kitOne K (.ref a_Ship) (.ref a_Vessel) = some true
  io_Ship_Breaker : PySem.W.kitOne K (.ref a_Ship) (.ref a_Breaker) = some false
  io_Ship_Ship : PySem.W.kitOne K (.ref a_Ship) (.ref a_Ship) = some true
  ca_Train : PySem.W.findIn K (.ref a_Train) "__class__" = some (some (.builtin "object.__class__"))
  mo_Train : PySem.W.mroIn K a_Train (.type "object") = some true
  io_Train_Train : PySem.W.kitOne K (.ref a_Train) (.ref a_Train) = some true
  io_Train_Vessel : PySem.W.kitOne K (.ref a_Train) (.ref a_Vessel) = some true
  io_Train_Breaker : PySem.W.kitOne K (.ref a_Train) (.ref a_Breaker) = some false
  io_Train_Ship : PySem.W.kitOne K (.ref a_Train) (.ref a_Ship) = some false
  io_Channel_list : PySem.W.kitOne K (.ref a_Channel) (.type "list") = some false
  io_Channel_tuple : PySem.W.kitOne K (.ref a_Channel) (.type "tuple") = some false
  eq_Channel : PySem.W.findIn K (.ref a_Channel) "__eq__" = some (some (.builtin "object.__eq__"))
  io_Vessel_list : PySem.W.kitOne K (.ref a_Vessel) (.type "list") = some false
  io_Vessel_tuple : PySem.W.kitOne K (.ref a_Vessel) (.type "tuple") = some false
  eq_Vessel : PySem.W.findIn K (.ref a_Vessel) "__eq__" = some (some (.builtin "object.__eq__"))
  io_Breaker_list : PySem.W.kitOne K (.ref a_Breaker) (.type "list") = some false
  io_Breaker_tuple : PySem.W.kitOne K (.ref a_Breaker) (.type "tuple") = some false
  eq_Breaker : PySem.W.findIn K (.ref a_Breaker) "__eq__" = some (some (.builtin "object.__eq__"))
  io_Ship_list : PySem.W.kitOne K (.ref a_Ship) (.type "list") = some false
  io_Ship_tuple : PySem.W.kitOne K (.ref a_Ship) (.type "tuple") = some false
  eq_Ship : PySem.W.findIn K (.ref a_Ship) "__eq__" = some (some (.builtin "object.__eq__"))
  io_Train_list : PySem.W.kitOne K (.ref a_Train) (.type "list") = some false
  io_Train_tuple : PySem.W.kitOne K (.ref a_Train) (.type "tuple") = some false
  eq_Train : PySem.W.findIn K (.ref a_Train) "__eq__" = some (some (.builtin "object.__eq__"))
  ib_NoneType_Train : PySem.W.kitOne K (.type "NoneType") (.ref a_Train) = some false
  ib_NoneType_Vessel : PySem.W.kitOne K (.type "NoneType") (.ref a_Vessel) = some false
  ib_NoneType_Breaker : PySem.W.kitOne K (.type "NoneType") (.ref a_Breaker) = some false
  ib_NoneType_Ship : PySem.W.kitOne K (.type "NoneType") (.ref a_Ship) = some false
  ib_int_Train : PySem.W.kitOne K (.type "int") (.ref a_Train) = some false
  ib_int_Vessel : PySem.W.kitOne K (.type "int") (.ref a_Vessel) = some false
  ib_int_Breaker : PySem.W.kitOne K (.type "int") (.ref a_Breaker) = some false
  ib_int_Ship : PySem.W.kitOne K (.type "int") (.ref a_Ship) = some false
  ib_str_Train : PySem.W.kitOne K (.type "str") (.ref a_Train) = some false
  ib_str_Vessel : PySem.W.kitOne K (.type "str") (.ref a_Vessel) = some false
  ib_str_Breaker : PySem.W.kitOne K (.type "str") (.ref a_Breaker) = some false
  ib_str_Ship : PySem.W.kitOne K (.type "str") (.ref a_Ship) = some false
  ib_list_Train : PySem.W.kitOne K (.type "list") (.ref a_Train) = some false
  ib_list_Vessel : PySem.W.kitOne K (.type "list") (.ref a_Vessel) = some false
  ib_list_Breaker : PySem.W.kitOne K (.type "list") (.ref a_Breaker) = some false
  ib_list_Ship : PySem.W.kitOne K (.type "list") (.ref a_Ship) = some false
  ib_bool_Train : PySem.W.kitOne K (.type "bool") (.ref a_Train) = some false
  ib_bool_Vessel : PySem.W.kitOne K (.type "bool") (.ref a_Vessel) = some false
  ib_bool_Breaker : PySem.W.kitOne K (.type "bool") (.ref a_Breaker) = some false
  ib_bool_Ship : PySem.W.kitOne K (.type "bool") (.ref a_Ship) = some false
  ib_dict_Train : PySem.W.kitOne K (.type "dict") (.ref a_Train) = some false
  ib_dict_Vessel : PySem.W.kitOne K (.type "dict") (.ref a_Vessel) = some false
  ib_dict_Breaker : PySem.W.kitOne K (.type "dict") (.ref a_Breaker) = some false
  ib_dict_Ship : PySem.W.kitOne K (.type "dict") (.ref a_Ship) = some false
  ib_tuple_Train : PySem.W.kitOne K (.type "tuple") (.ref a_Train) = some false
  ib_tuple_Vessel : PySem.W.kitOne K (.type "tuple") (.ref a_Vessel) = some false
  ib_tuple_Breaker : PySem.W.kitOne K (.type "tuple") (.ref a_Breaker) = some false
  ib_tuple_Ship : PySem.W.kitOne K (.type "tuple") (.ref a_Ship) = some false
  t_NAME_MOST : Tok
  c_NAME_MOST : mg "NAME_MOST" = some (.int 8 t_NAME_MOST)
  t_HOURS_MOST : Tok
  c_HOURS_MOST : mg "HOURS_MOST" = some (.int 1000 t_HOURS_MOST)
  t_DEPTH_MOST : Tok
  c_DEPTH_MOST : mg "DEPTH_MOST" = some (.int 1000 t_DEPTH_MOST)
  t_GROWTH_MOST : Tok
  c_GROWTH_MOST : mg "GROWTH_MOST" = some (.int 1000 t_GROWTH_MOST)
  t_THICK_MOST : Tok
  c_THICK_MOST : mg "THICK_MOST" = some (.int 1000000 t_THICK_MOST)
  t_HOUR_MOST : Tok
  c_HOUR_MOST : mg "HOUR_MOST" = some (.int 1000000 t_HOUR_MOST)
  t_STRENGTH_MOST : Tok
  c_STRENGTH_MOST : mg "STRENGTH_MOST" = some (.int 1000000 t_STRENGTH_MOST)
  t_CUT_MOST : Tok
  c_CUT_MOST : mg "CUT_MOST" = some (.int 1000000 t_CUT_MOST)
  t_TRAIN_MOST : Tok
  c_TRAIN_MOST : mg "TRAIN_MOST" = some (.int 6 t_TRAIN_MOST)
  n_isinstance : mg "isinstance" = none
  n_int : mg "int" = none
  n_bool : mg "bool" = none
  n_str : mg "str" = none
  n_len : mg "len" = none
  n_list : mg "list" = none
  n_tuple : mg "tuple" = none
  n_min : mg "min" = none
  n_max : mg "max" = none
  n_range : mg "range" = none
  n_repr : mg "repr" = none
  n_sum : mg "sum" = none

section
variable {P : Program} {w : World} {K : PySem.W.Frag} {mg : Str → Option Value} {base : Heap}
def spCell (K : PySem.W.Frag) : Sp := fun vs H Q _ => ∃ (a : Addr) (ns : List Int) (k : Int), vs = [.ref a, .int k] ∧ SqL K H a (ns.map V.int) ∧ 0 ≤ k ∧ k ≤ 1000 ∧ ∀ z : Int, Q (.int z) H
theorem ok_cell (T : Top K mg) : FnG P w K mg base CX0 1 T.a_cell T.d_cell ["_law_script", "_law_k"] (spCell K) := by
  refine okG T.F_cell sc_cell (fun vs H Q E h => ?_) (fun cdv A outer s H vs Q E hr hgd h => ?_)
  · obtain ⟨a, ns, k, rfl, _⟩ := h
    rfl
  · obtain ⟨a, ns, k, rfl, hS, k0, hk, q⟩ := h
    obtain ⟨k, rfl⟩ := Int.eq_ofNat_of_zero_le k0
    refine ⟨_, (pss_cons (ps_if (pt_cmpR op_lt (pv 1) (pe_callB c_len (by rfl) T.n_len (by decide +kernel) (pa_cons (pv 0) pa_nil)) (nomark _))
        (pss_one (ps_ret (pe_ix ix_list (pv 0) (pv 1) (fun _ _ => rfl))))
        pss_nil)
      (pss_one (ps_ret (pe_op op_add (pe_op op_mul pe_int (pv 1)) pe_int)))), ?_⟩
    walk_at "rd"
    refine ifs (fun hc => ?_) (fun hc => ?_)
    · walk_at "rd"
      simp only [decide_eq_true_eq, List.length_map] at hc
      have hc' : k < ns.length := by omega
      exact i_ixL hS (atI_nat (by rw [List.getElem?_map, List.getElem?_eq_getElem hc']; rfl)) (q _)
    · walk_at "rd"
      exact q _
def spBox : Sp := fun vs H Q _ => ∃ z : Int, vs = [.int z] ∧ ∀ (p : Addr) (H' : Hp), H p = none → Same H H' → Box H' p 0 → Q (.ref p) H'
theorem ok_box (T : Top K mg) : FnG P w K mg base CX0 1 T.a_box T.d_box ["_law_cell_here"] spBox := by
  refine okG T.F_box sc_box (fun vs H Q E h => ?_) (fun cdv A outer s H vs Q E hr hgd h => ?_)
  · obtain ⟨z, rfl, _⟩ := h
    rfl
  · obtain ⟨z, rfl, q⟩ := h
    refine ⟨_, (pss_one (ps_ret (pe_lst (pa_cons (pe_callB (c_max2) (by rfl) T.n_max (by decide +kernel) (pa_cons pe_int (pa_cons (pe_op op_sub (pv 0) (pe_op op_pow pe_int pe_int)) pa_nil))) (pa_cons (pe_op op_modN (pv 0) pe_int) (pa_cons pe_int pa_nil)))))), ?_⟩
    walk_at "rd"
    (intro p hp; generalize ep : upd _ p _ = J; have N := New.of ep hp; clear ep hp)
    walk_at "rd"
    refine q p _ N.free N.same ⟨_, _, _, N.at_, ?_, Int.fmod_nonneg_of_pos _ (by decide), Int.fmod_lt_of_pos _ (by decide), by omega, by omega⟩
    split <;> omega
theorem sq_bound {z : Int} (h0 : 0 ≤ z) (h1 : z ≤ 1000) : 0 ≤ 104729 * (z + 1) * (z + 1) ∧ 104729 * (z + 1) * (z + 1) ≤ 104729 * 1001 * 1001 := by
  have a : 0 ≤ (z + 1) * (z + 1) := Int.mul_nonneg (by omega) (by omega)
  have b : (z + 1) * (z + 1) ≤ 1001 * 1001 := Int.mul_le_mul (by omega) (by omega) (by omega) (by omega)
  rw [Int.mul_assoc]
  omega
def spTake : Sp := fun vs H Q _ => ∃ (b : Addr) (m : Int) (n : Nat), vs = [.ref b, .int m] ∧ Box H b n ∧ n ≤ 900 ∧ 0 < m ∧ m.natAbs < 2 ^ 100 ∧
  ∀ (d : Int) (H' : Hp), 0 ≤ d → d < m → But b H H' → Box H' b (n + 1) → Q (.int d) H'
theorem ok_take (T : Top K mg) : FnG P w K mg base CX0 1 T.a_take T.d_take ["_law_box_here", "_law_many"] spTake := by
  refine okG T.F_take sc_take (fun vs H Q E h => ?_) (fun cdv A outer s H vs Q E hr hgd h => ?_)
  · obtain ⟨b, m, n, rfl, _⟩ := h
    rfl
  · obtain ⟨b, m, n, rfl, ⟨x, y, z, hb, x0, y0, y1, z0, z1⟩, hn, m0, m1, q⟩ := h
    refine ⟨_, (pss_cons (ps_if (pt_cmpR op_gt (pe_ix ix_list (pv 0) pe_int (fun _ _ => rfl)) pe_int (nomark _))
        (pss_cons (ps_set (i := 2) sc_take.nd rfl (by first | exact Or.inl rfl | exact Or.inr rfl) (pe_op op_modN (pe_ix ix_list (pv 0) pe_int (fun _ _ => rfl)) (pv 1)))
      (pss_cons (ps_asg (pe_op op_fdivW (pe_ix ix_list (pv 0) pe_int (fun _ _ => rfl)) (pv 1)) (pg_sub (pv 0) pe_int set_list))
      (pss_one (ps_ret (pv 2)))))
        pss_nil)
      (pss_cons (ps_asg (pe_op op_add (pe_ix ix_list (pv 0) pe_int (fun _ _ => rfl)) pe_int) (pg_sub (pv 0) pe_int set_list))
      (pss_cons (ps_set (i := 3) sc_take.nd rfl (by first | exact Or.inl rfl | exact Or.inr rfl) (pe_op op_modN (pe_op op_pow (pe_op op_add (pe_op op_add (pe_ix ix_list (pv 0) pe_int (fun _ _ => rfl)) (pe_op op_mul pe_int (pe_ix ix_list (pv 0) pe_int (fun _ _ => rfl)))) pe_int) pe_int) pe_int))
      (pss_cons (ps_set (i := 4) sc_take.nd rfl (by first | exact Or.inl rfl | exact Or.inr rfl) (pe_op op_modN (pe_op op_pow (pe_op op_add (pe_op op_add (pe_op op_fdivN (pv 3) pe_int) (pe_op op_mul (pe_op op_mul pe_int (pe_ix ix_list (pv 0) pe_int (fun _ _ => rfl))) (pe_ix ix_list (pv 0) pe_int (fun _ _ => rfl)))) pe_int) pe_int) pe_int))
      (pss_one (ps_ret (pe_op op_modN (pe_op op_add (pe_op op_fdivN (pv 3) pe_int) (pe_op op_mul pe_int (pe_op op_fdivN (pv 4) pe_int))) (pv 1)))))))), ?_⟩
    walk_at "rd"
    refine ifs (fun hc => ?_) (fun hc => ?_)
    · have hx : 0 < x := of_decide_eq_true hc
      walk_at "rd"
      refine i_rI (wide_div m0 m1 (by decide) (by decide)) ?_
      walk_at "rd"
      exact q _ _ (Int.fmod_nonneg_of_pos _ m0) (Int.fmod_lt_of_pos _ m0) (But.set _) ⟨_, _, _, upd_same, Int.ediv_nonneg x0 (by omega), y0, y1, z0, by omega⟩
    · walk_at "rd"
      have o0 : 0 ≤ ((y + 7919 * (z + 1) + 101) ^ Int.toNat 5).fmod 2147483647 := Int.fmod_nonneg_of_pos _ (by decide)
      have o1 : ((y + 7919 * (z + 1) + 101) ^ Int.toNat 5).fmod 2147483647 < 2147483647 := Int.fmod_lt_of_pos _ (by decide)
      have s2 := sq_bound z0 (by omega)
      refine i_rI ⟨by decide, by decide, ?_⟩ ?_
      · generalize ((y + 7919 * (z + 1) + 101) ^ Int.toNat 5).fmod 2147483647 = o at o0 o1 ⊢
        rw [Int.fdiv_eq_ediv_of_nonneg _ (by decide)]
        omega
      · walk_at "rd"
        exact q _ _ (Int.fmod_nonneg_of_pos _ m0) (Int.fmod_lt_of_pos _ m0) (But.set _) ⟨_, _, _, upd_same, x0, y0, y1, by omega, by omega⟩
end

section
variable {P : Program} {w : World} {K : PySem.W.Frag} {mg : Str → Option Value} {base : Heap}
def spBetween : Sp := fun vs H Q _ => ∃ (s lo hi : Str) (l h : Nat), vs = [.str s, .str lo, .str hi] ∧ tl lo = [l] ∧ tl hi = [h] ∧ Q (.bl (decide (∀ c ∈ tl s, l ≤ c ∧ c ≤ h))) H
theorem ok_all_between (T : Top K mg) : FnG P w K mg base CX0 1 T.a_all_between T.d_all_between ["text", "low", "high"] spBetween := by
  refine okG T.F_all_between sc_all_between (fun vs H Q E h => ?_) (fun cdv A outer s H vs Q E hr hgd h => ?_)
  · obtain ⟨s, lo, hi, l, h, rfl, _⟩ := h
    rfl
  · obtain ⟨s, lo, hi, l, h, rfl, hl, hh, q⟩ := h
    refine ⟨_, (pss_cons (ps_for PassesOwn.never rfl (pi_str (pv 0)) (pg_name (i := 3) sc_all_between.nd rfl (by first | exact Or.inl rfl | exact Or.inr rfl))
        (pss_one (ps_if (pt_not (pt_chain o_leT o_leT (pv 1) (pv 3) (pv 2)))
        (pss_one (ps_ret pe_bl))
        pss_nil)))
      (pss_one (ps_ret pe_bl))), ?_⟩
    walk_at "rd"
    refine ⟨.str s, rfl, s, rfl, for_text (fun i σ H' => H' = H ∧ (∃ v, σ = [some (.str s), some (.str lo), some (.str hi), v]) ∧ ∀ c ∈ (tl s).take i, l ≤ c ∧ c ≤ h) ⟨rfl, ⟨none, rfl⟩, by simp⟩ ?_ ?_⟩
    · rintro i c σ H' hc ⟨rfl, ⟨v, rfl⟩, hi'⟩
      have mem : c ∈ tl s := List.mem_of_getElem? hc
      have no : ¬ (l ≤ c ∧ c ≤ h) → Q (.bl false) H' := fun n => by rw [decide_eq_false (fun z => n (z c mem))] at q; exact q
      walk_at "rd"
      have e1 : (tl { cps := #[c] } < tl lo) ↔ c < l := by rw [hl]; exact one_lt c l
      have e2 : (tl hi < tl { cps := #[c] }) ↔ h < c := by rw [hh]; exact one_lt h c
      simp only [e1]
      refine ifs (fun h1 => ?_) (fun h1 => ?_)
      · walk_at "rd"
        simp only [e2]
        refine ifs (fun h2 => ?_) (fun h2 => ?_)
        · walk_at "rd"
          exact no (by simp at h1 h2; omega)
        · refine ⟨rfl, ⟨_, rfl⟩, take_all hi' hc ?_⟩
          simp at h1 h2; omega
      · walk_at "rd"
        exact no (by simp at h1; omega)
    · rintro σ H' ⟨rfl, ⟨v, rfl⟩, hi'⟩
      walk_at "rd"
      rw [List.take_length] at hi'
      rw [decide_eq_true hi'] at q
      exact q
end

section
variable {P : Program} {w : World} {K : PySem.W.Frag} {mg : Str → Option Value} {base : Heap}
def spWhole : Sp := fun vs H Q _ => ∃ v, vs = [v] ∧ Th H v ∧ Q (.bl (isW v)) H
theorem ok_is_whole (T : Top K mg) : FnG P w K mg base CX0 1 T.a_is_whole T.d_is_whole ["thing"] spWhole := by
  refine okG T.F_is_whole sc_is_whole (fun vs H Q E h => ?_) (fun cdv A outer s H vs Q E hr hgd h => ?_)
  · obtain ⟨v, rfl, _⟩ := h
    rfl
  · obtain ⟨v, rfl, th, q⟩ := h
    obtain ⟨n, ty, k1, k2, k3⟩ := th.ty (K := K)
    refine ⟨_, (pss_one (ps_ret (pe_and (pe_callB c_isi (by rfl) T.n_isinstance (by decide +kernel) (pa_cons (pv 0) (pa_cons (pe_bltn (v := .ty "int") (by rfl) T.n_int (by decide +kernel) rfl) pa_nil))) (pe_one (pe_not (pe_callB c_isi (by rfl) T.n_isinstance (by decide +kernel) (pa_cons (pv 0) (pa_cons (pe_bltn (v := .ty "bool") (by rfl) T.n_bool (by decide +kernel) rfl) pa_nil)))))))), ?_⟩
    walk_at "rd"
    refine i_isi ty k1 ?_
    walk_at "rd"
    refine ifs (fun h1 => ?_) (fun h1 => ?_)
    · walk_at "rd"
      refine i_isi ty k2 ?_
      walk_at "rd"
      have e : isW v = !decide (n = "bool") := by
        by_cases z : n = "bool"
        · obtain ⟨b, rfl⟩ := k3 z
          rw [decide_eq_true z]; rfl
        · rw [decide_eq_false z] at h1 ⊢
          simpa using h1
      rw [← e]
      exact q
    · have e : isW v = false := by simp at h1; exact h1.1
      rw [e] at q
      exact q
def spWithin : Sp := fun vs H Q _ => ∃ (v : V) (lo hi : Int), vs = [v, .int lo, .int hi] ∧ Th H v ∧ Q (.bl (inB lo hi v)) H
theorem ok_is_within (T : Top K mg) : FnG P w K mg base CX0 2 T.a_is_within T.d_is_within ["thing", "low", "high"] spWithin := by
  have G_is_whole := ok_is_whole (P := P) (w := w) (base := base) T
  refine okG T.F_is_within sc_is_within (fun vs H Q E h => ?_) (fun cdv A outer s H vs Q E hr hgd h => ?_)
  · obtain ⟨v, lo, hi, rfl, _⟩ := h
    rfl
  · obtain ⟨v, lo, hi, rfl, th, q⟩ := h
    refine ⟨_, (pss_one (ps_ret (pe_and (g_call G_is_whole (hr.mono (by decide)) hgd (by rfl) T.m_is_whole T.F_is_whole.kp T.b_is_whole .nil pass0 (pa_cons (pv 0) pa_nil)) (pe_one (pe_chain op_le op_le (pv 1) (pv 0) (pv 2)))))), ?_⟩
    walk_at "rd"
    refine ⟨v, rfl, th, ?_⟩
    walk_at "rd"
    refine ifs (fun h1 => ?_) (fun h1 => ?_)
    · obtain ⟨i, rfl⟩ : ∃ i, v = .int i := by cases v <;> first | exact ⟨_, rfl⟩ | cases h1
      have e : inB lo hi (.int i) = (decide (lo ≤ i) && decide (i ≤ hi)) := rfl
      rw [e] at q
      walk_at "rd"
      refine ifs (fun h2 => ?_) (fun h2 => ?_)
      · walk_at "rd"
        rw [h2] at q
        exact q
      · rw [h2] at q
        exact q
    · have e : inB lo hi v = false := by cases v <;> first | rfl | cases h1
      rw [e] at q
      exact q
def spName : Sp := fun vs H Q _ => ∃ v, vs = [v] ∧ Th H v ∧ Q (.bl (isN v)) H
theorem ok_is_name (T : Top K mg) : FnG P w K mg base CX0 2 T.a_is_name T.d_is_name ["thing"] spName := by
  have G_all_between := ok_all_between (P := P) (w := w) (base := base) T
  refine okG T.F_is_name sc_is_name (fun vs H Q E h => ?_) (fun cdv A outer s H vs Q E hr hgd h => ?_)
  · obtain ⟨v, rfl, _⟩ := h
    rfl
  · obtain ⟨v, rfl, th, q⟩ := h
    refine ⟨_, (pss_cons (ps_if (PW.pt (pw_or (pt_not (pt_val (pe_callB c_isi (by rfl) T.n_isinstance (by decide +kernel) (pa_cons (pv 0) (pa_cons (pe_bltn (v := .ty "str") (by rfl) T.n_str (by decide +kernel) rfl) pa_nil))))) (pw_or1 (pt_not (pt_chain op_le op_le pe_int (pe_callB c_lenS (by rfl) T.n_len (by decide +kernel) (pa_cons (pv 0) pa_nil)) (pe_glob (v := .int 8) (by rfl) T.c_NAME_MOST ⟨_, rfl⟩))))))
        (pss_one (ps_ret pe_bl))
        pss_nil)
      (pss_one (ps_ret (g_call G_all_between (hr.mono (by decide)) hgd (by rfl) T.m_all_between T.F_all_between.kp T.b_all_between .nil pass0 (pa_cons (pv 0) (pa_cons pe_str (pa_cons pe_str pa_nil))))))), ?_⟩
    rcases th with ⟨s, rfl, hs⟩ | ⟨n, hn⟩
    · have hz : s.length ≤ sizeLine := sz_of (by omega)
      have e : isN (.str s) = decide (1 ≤ s.length ∧ s.length ≤ 8 ∧ ∀ c ∈ tl s, 97 ≤ c ∧ c ≤ 122) := rfl
      rw [e] at q
      walk_at "rd"
      refine i_isi ty_str (b := true) (by decide +kernel) ?_
      walk_at "rd"
      refine i_lenS hz ?_
      walk_at "rd"
      refine ifs (fun h1 => ?_) (fun h1 => ?_)
      · walk_at "rd"
        refine ifs (fun h2 => ?_) (fun h2 => ?_)
        · walk_at "rd"
          rw [decide_eq_false (fun z => by simp at h1 h2; omega)] at q
          exact q
        · walk_at "rd"
          refine ⟨s, _, _, 97, 122, rfl, by decide +kernel, by decide +kernel, ?_⟩
          have e2 : decide (1 ≤ s.length ∧ s.length ≤ 8 ∧ ∀ c ∈ tl s, 97 ≤ c ∧ c ≤ 122) = decide (∀ c ∈ tl s, 97 ≤ c ∧ c ≤ 122) := by
            rw [decide_eq_decide]
            exact ⟨fun z => z.2.2, fun z => ⟨by simp at h1 h2; omega, by simp at h1 h2; omega, z⟩⟩
          rw [e2] at q
          exact q
      · walk_at "rd"
        rw [decide_eq_false (fun z => by simp at h1; omega)] at q
        exact q
    · rw [hn.isN] at q
      walk_at "rd"
      refine i_isi hn.tyx hn.noStr ?_
      walk_at "rd"
      exact q
end

section
variable {P : Program} {w : World} {K : PySem.W.Frag} {mg : Str → Option Value} {base : Heap}
theorem ok_NoName___init__ (T : Top K mg) : FnOk P w K mg base CX0 1 T.a_NoName___init__ T.d_NoName___init__ ["self", "found"] (spErr K "found") := by
  refine T.F_NoName___init__.ok sc_NoName___init__ (fun vs H Q E h => ?_) (fun cdv A outer s H vs Q E hr h => ?_)
  · obtain ⟨a, C, v, rfl, _⟩ := h
    rfl
  · obtain ⟨a, C, v, rfl, O, hno, ha, q⟩ := h
    refine ⟨_, (pss_cons (ps_expr (pe_kinit (by rfl) T.c_IceError T.sp_IceError T.ty_IceError T.rd_IceError T.fc_IceError (pa_cons (pv 0) (pa_cons pe_str pa_nil))))
      (pss_one (ps_ost (pv 0) (pv 1)))), ?_⟩
    walk_at "rd"
    refine ⟨a, C, _, rfl, by show 1 ≤ 1000; decide, O, ha, ?_⟩
    walk_at "rd"
    exact ⟨a, C, rfl, O, hno, .inl ⟨ha, q⟩⟩

theorem ok_NoNumber___init__ (T : Top K mg) : FnOk P w K mg base CX0 1 T.a_NoNumber___init__ T.d_NoNumber___init__ ["self", "found"] (spErr K "found") := by
  refine T.F_NoNumber___init__.ok sc_NoNumber___init__ (fun vs H Q E h => ?_) (fun cdv A outer s H vs Q E hr h => ?_)
  · obtain ⟨a, C, v, rfl, _⟩ := h
    rfl
  · obtain ⟨a, C, v, rfl, O, hno, ha, q⟩ := h
    refine ⟨_, (pss_cons (ps_expr (pe_kinit (by rfl) T.c_IceError T.sp_IceError T.ty_IceError T.rd_IceError T.fc_IceError (pa_cons (pv 0) (pa_cons pe_str pa_nil))))
      (pss_one (ps_ost (pv 0) (pv 1)))), ?_⟩
    walk_at "rd"
    refine ⟨a, C, _, rfl, by show 1 ≤ 1000; decide, O, ha, ?_⟩
    walk_at "rd"
    exact ⟨a, C, rfl, O, hno, .inl ⟨ha, q⟩⟩

theorem ok_Doubled___init__ (T : Top K mg) : FnOk P w K mg base CX0 1 T.a_Doubled___init__ T.d_Doubled___init__ ["self", "name"] (spErr K "name") := by
  refine T.F_Doubled___init__.ok sc_Doubled___init__ (fun vs H Q E h => ?_) (fun cdv A outer s H vs Q E hr h => ?_)
  · obtain ⟨a, C, v, rfl, _⟩ := h
    rfl
  · obtain ⟨a, C, v, rfl, O, hno, ha, q⟩ := h
    refine ⟨_, (pss_cons (ps_expr (pe_kinit (by rfl) T.c_IceError T.sp_IceError T.ty_IceError T.rd_IceError T.fc_IceError (pa_cons (pv 0) (pa_cons pe_str pa_nil))))
      (pss_one (ps_ost (pv 0) (pv 1)))), ?_⟩
    walk_at "rd"
    refine ⟨a, C, _, rfl, by show 1 ≤ 1000; decide, O, ha, ?_⟩
    walk_at "rd"
    exact ⟨a, C, rfl, O, hno, .inl ⟨ha, q⟩⟩

theorem ok_NoKind___init__ (T : Top K mg) : FnOk P w K mg base CX0 1 T.a_NoKind___init__ T.d_NoKind___init__ ["self", "found"] (spErr K "found") := by
  refine T.F_NoKind___init__.ok sc_NoKind___init__ (fun vs H Q E h => ?_) (fun cdv A outer s H vs Q E hr h => ?_)
  · obtain ⟨a, C, v, rfl, _⟩ := h
    rfl
  · obtain ⟨a, C, v, rfl, O, hno, ha, q⟩ := h
    refine ⟨_, (pss_cons (ps_expr (pe_kinit (by rfl) T.c_IceError T.sp_IceError T.ty_IceError T.rd_IceError T.fc_IceError (pa_cons (pv 0) (pa_cons pe_str pa_nil))))
      (pss_one (ps_ost (pv 0) (pv 1)))), ?_⟩
    walk_at "rd"
    refine ⟨a, C, _, rfl, by show 1 ≤ 1000; decide, O, ha, ?_⟩
    walk_at "rd"
    exact ⟨a, C, rfl, O, hno, .inl ⟨ha, q⟩⟩

end
end Ice

set_option Elab.async false
set_option linter.all false
set_option maxRecDepth 100000
set_option maxHeartbeats 4000000
namespace Ice
open PySem PySem.Spec PyProof.Rows L2 TL
/-! side conditions, heaps, one step of a reading, and many -/
local macro_rules | `(tactic| walk_at "hp") => `(tactic| first | assumption | exact upd_same | exact New.at_ (by assumption) | (refine keepU ?_ (by assumption); walk_at "hp") | (refine New.app (by assumption) ?_; walk_at "hp") | (refine Same.app (by assumption) ?_; walk_at "hp") | (refine But.app (by assumption) (by assumption) ?_; walk_at "hp"))
local macro_rules | `(tactic| walk_at "sq") => `(tactic| first | assumption | exact SqL.lst (by walk_at "hp") | exact L2.Same.seq (New.same (by assumption)) (by assumption) | exact L2.Same.seq (by assumption) (by assumption))
local macro_rules | `(tactic| walk_at "len") => `(tactic| first | assumption | (simp only [List.length_cons, List.length_nil, List.length_append, List.length_map]; decide) | (refine Ice.sz_of ?_; simp only [List.length_cons, List.length_nil, List.length_append, List.length_map]; omega))
local macro_rules | `(tactic| walk_at "fresh") => `(tactic| (simp only [List.map_append, List.map_cons, List.map_nil, List.nil_append, List.cons_append]; decide +kernel))
local macro_rules | `(tactic| walk_at "sd") => `(tactic| first | assumption | (show _ ≠ _; omega) | exact Or.inl ⟨by omega, by omega⟩ | exact Or.inr ⟨by omega, by omega⟩ | exact ⟨by decide, by decide⟩ | exact ⟨by decide, by decide, by decide⟩ | exact ⟨by omega, by omega, by omega⟩)
/-! one step of a reading, and many -/
local macro_rules | `(tactic| walk_at "st") => `(tactic| first
  | with_reducible refine i_seq ?_
  | with_reducible refine i_if ?_
  | with_reducible refine i_next ?_
  | with_reducible refine i_ret ?_
  | with_reducible refine i_retN ?_
  | with_reducible refine i_drop ?_
  | with_reducible refine i_asg ?_
  | with_reducible refine i_gname ?_
  | with_reducible refine i_gsub ?_
  | ((with_reducible refine i_var (v := ?vv) ?hv ?_); (case hv => exact rfl))
  | with_reducible refine i_c ?_
  | with_reducible refine i_op ?_
  | with_reducible refine i_un ?_
  | with_reducible refine i_test ?_
  | with_reducible refine i_tB ?_
  | with_reducible refine i_and ?_
  | with_reducible refine i_or ?_
  | with_reducible refine i_not ?_
  | with_reducible refine i_andV ?_
  | with_reducible refine i_orV ?_
  | with_reducible refine i_notV ?_
  | with_reducible refine i_ifE ?_
  | with_reducible refine i_chain ?_
  | with_reducible refine i_bl ?_
  | with_reducible refine i_nil ?_
  | with_reducible refine i_cons ?_
  | with_reducible refine i_call ?_
  | with_reducible refine i_cb ?_
  | with_reducible refine i_rI0 ?_
  | with_reducible refine i_rU ?_
  | ((with_reducible refine i_rEq ?hs ?_); (case hs => exact rfl))
  | ((with_reducible refine i_rNe ?hs ?_); (case hs => exact rfl))
  | ((with_reducible refine i_rI ?hc ?_); (case hc => walk_at "sd"))
  | ((with_reducible refine i_ixL (xs := ?xs) (v := ?vv) ?hS ?he ?_); (case hS => walk_at "sq"); (case he => exact rfl))
  | ((with_reducible refine i_setL (xs := ?xs) (j := ?jj) ?hS ?he ?_); (case hS => walk_at "hp"); (case he => exact rfl))
  | with_reducible refine i_tup ?_
  | with_reducible refine i_lst ?_
  | with_reducible refine i_bm ?_
  | with_reducible refine i_bm0 ?_
  | with_reducible refine i_m1 ?_
  | with_reducible refine i_sl ?_
  | with_reducible refine i_nopart ?_
  | with_reducible refine i_part ?_
  | with_reducible refine i_int ?_
  | with_reducible refine i_str ?_
  | with_reducible refine i_for ?_
  | with_reducible refine i_yes ?_
  | ((with_reducible refine i_lenL (xs := ?xs) ?hS ?_); (case hS => walk_at "sq"))
  | ((with_reducible refine i_room ?hz ?_); (case hz => walk_at "len"))
  | with_reducible refine i_leT ?_
  | with_reducible refine i_notInS ?_
  | with_reducible refine i_inS ?_
  | with_reducible refine i_find ?_
  | with_reducible refine i_isB ?_
  | with_reducible refine i_max2 ?_
  | with_reducible refine i_min2 ?_
  | with_reducible exact trivial
  | with_reducible refine iteT ?_
  | with_reducible refine iteF ?_
  | with_reducible refine i_isstr ?_
  | with_reducible refine i_lc ?_
  | ((with_reducible refine i_cat (xs := ?xs) (zs := ?zs) ?ha ?hb ?hz ?_); (case ha => walk_at "hp"); (case hb => walk_at "hp"); (case hz => walk_at "len"))
  | ((with_reducible refine i_tyL (xs := ?xs) ?ha ?_); (case ha => walk_at "hp"))
  | with_reducible refine i_list ?_
  | with_reducible refine i_disp ?_
  | with_reducible refine i_pairs0 ?_
  | with_reducible refine i_pairs ?_
  | with_reducible refine i_newK ?_
  | with_reducible refine i_gcons ?_
  | with_reducible refine i_gnil ?_
  | with_reducible refine i_revL ?_
  | with_reducible refine i_rng1 ?_
  | ((with_reducible refine i_wipe ?hw ?_); (case hw => exact rfl))
  | with_reducible refine iteNT ?_
  | with_reducible refine iteNF ?_)
local macro_rules | `(tactic| walk_at "sx") => `(tactic| first
  | walk_at "st"
  | with_reducible refine i_kinit ?_
  | with_reducible refine i_ost ?_
  | with_reducible refine i_mkO ?_
  | with_reducible refine i_callE ?_
  | with_reducible refine i_makeE ?_
  | with_reducible refine i_xf ?_
  | with_reducible refine i_sfld ?_
  | with_reducible refine i_fld ?_
  | ((with_reducible refine i_ixT (xs := ?xs) (v := ?vv) ?hS ?he ?_); (case hS => exact SqT.tup (by walk_at "hp")); (case he => exact rfl))
  | with_reducible refine i_intB ?_
  | with_reducible refine i_runS ?_
  | with_reducible refine i_runN ?_
  | ((with_reducible refine i_xf1 (fs := ?ff) (v := ?vv) ?hx ?hl ?_); (case hx => walk_at "hp"); (case hl => exact rfl))
  | with_reducible refine i_methE ?_
  | with_reducible refine i_meth ?_
  | with_reducible refine i_make ?_
  | ((with_reducible refine i_obj (dx := ?dd) (fs := ?ff) ?hx ?hl ?_); (case hx => walk_at "hp"); (case hl => exact rfl))
  | ((with_reducible refine i_fld1 (C := ?CC) (dx := ?dd) (fs := ?ff) (v := ?vv) ?hx ?cl ?na ?hl ?_); (case hx => walk_at "hp"); (case cl => assumption); (case na => assumption); (case hl => exact rfl)))
local macro_rules | `(tactic| walk_at "rd") => `(tactic| repeat (walk_at "sx"))

section
variable {P : Program} {w : World} {K : PySem.W.Frag} {mg : Str → Option Value} {base : Heap}
def bad (v : V) : Bool := !isN v
def spNames (K : PySem.W.Frag) (C : Addr) : Sp := fun vs H Q E => ∃ (p : Addr) (xs : List V), vs = [.ref p] ∧ H p = some (.lst xs) ∧ (∀ v ∈ xs, Th H v) ∧
  ((xs.find? bad = none → Q .non H) ∧ ∀ v, xs.find? bad = some v → ∀ d, H d = none → E (.ref C) (some d) (upd H d (.xd [(Str.ofString "found", v)])))
theorem find_take {xs : List V} {i : Nat} {v : V} (h : (xs.take i).find? bad = none) (hi : xs[i]? = some v) : (bad v = true → xs.find? bad = some v) ∧ (bad v = false → (xs.take (i + 1)).find? bad = none) := by
  have e : xs.take (i + 1) = xs.take i ++ [v] := by rw [List.take_add_one, hi]; rfl
  refine ⟨fun z => ?_, fun z => ?_⟩
  · have e2 : xs = xs.take i ++ v :: xs.drop (i + 1) := by
      have hl := (List.getElem?_eq_some_iff.mp hi)
      rw [← hl.2, ← List.drop_eq_getElem_cons hl.1, List.take_append_drop]
    rw [e2, List.find?_append, h, List.find?_cons, z]; rfl
  · rw [e, List.find?_append, h, List.find?_cons, z]; rfl
theorem ok_check_names (T : Top K mg) : FnG P w K mg base (L2.CX P w) 3 T.a_check_names T.d_check_names ["things"] (spNames K T.a_NoName) := by
  have G_is_name := ok_is_name (P := P) (w := w) (base := base) T
  have G_NoName___init__ := ok_NoName___init__ (P := P) (w := w) (base := base) T
  refine okGX T.F_check_names sc_check_names (fun vs H Q E h => ?_) (fun cdv A outer s H vs Q E hr hgd h => ?_)
  · obtain ⟨p, xs, rfl, _⟩ := h
    rfl
  · obtain ⟨p, xs, rfl, hp, th, q0, q1⟩ := h
    have G_NoName___init__ := ok_NoName___init__ (P := P) (w := w) (base := base) T
    refine ⟨_, (pss_one (ps_for (passes_of rfl) rfl (pi_list (pv 0)) (pg_name (i := 1) sc_check_names.nd rfl (by first | exact Or.inl rfl | exact Or.inr rfl))
        (pss_one (ps_if (pt_not (pt_val (g_call G_is_name (hr.mono (by decide)) hgd (by rfl) T.m_is_name T.F_is_name.kp T.b_is_name .nil pass0 (pa_cons (pv 1) pa_nil))))
        (pss_one (ps_raise rfl (takes_of rfl rfl rfl rfl) (pmk_oex T.ox_NoName T.in_NoName T.tf_NoName G_NoName___init__ (hr.mono (by decide)) T.b_NoName___init__ .nil pass0 (by rfl) T.c_NoName (pa_cons (pv 1) pa_nil))))
        pss_nil)))), ?_⟩
    walk_at "rd"
    refine ⟨p, rfl, ⟨_, SqL.lst hp⟩, ?_⟩
    refine for_list (K := K) (a := p) (xs := xs) (fun i σ H' => H' = H ∧ (∃ v, σ = [some (.ref p), v]) ∧ (xs.take i).find? bad = none) ⟨rfl, ⟨none, rfl⟩, rfl⟩ (fun i σ H' _ h => by rw [h.1]; exact SqL.lst hp) ?_ ?_
    · rintro i v σ H' hi ⟨rfl, ⟨_, rfl⟩, hf⟩
      obtain ⟨f1, f2⟩ := find_take hf hi
      walk_at "rd"
      refine ⟨v, rfl, th v (List.mem_of_getElem? hi), ?_⟩
      walk_at "rd"
      refine ifs (fun h1 => ?_) (fun h1 => ?_)
      · walk_at "rd"
        exact i_mkE T.ox_NoName T.nf_NoName_found (q1 v (f1 h1))
      · exact ⟨rfl, ⟨_, rfl⟩, f2 (by simpa [bad] using h1)⟩
    · rintro σ H' ⟨rfl, ⟨_, rfl⟩, hf⟩
      walk_at "rd"
      rw [List.take_length] at hf
      exact q0 hf
def spNumber (K : PySem.W.Frag) (C : Addr) : Sp := fun vs H Q E => ∃ (v : V) (lo hi : Int), vs = [v, .int lo, .int hi] ∧ Th H v ∧
  ((inB lo hi v = true → Q .non H) ∧ (inB lo hi v = false → ∀ d, H d = none → E (.ref C) (some d) (upd H d (.xd [(Str.ofString "found", v)]))))
theorem ok_check_number (T : Top K mg) : FnG P w K mg base (L2.CX P w) 3 T.a_check_number T.d_check_number ["thing", "low", "high"] (spNumber K T.a_NoNumber) := by
  have G_is_within := ok_is_within (P := P) (w := w) (base := base) T
  have G_NoNumber___init__ := ok_NoNumber___init__ (P := P) (w := w) (base := base) T
  refine okGX T.F_check_number sc_check_number (fun vs H Q E h => ?_) (fun cdv A outer s H vs Q E hr hgd h => ?_)
  · obtain ⟨v, lo, hi, rfl, _⟩ := h
    rfl
  · obtain ⟨v, lo, hi, rfl, th, q0, q1⟩ := h
    have G_NoNumber___init__ := ok_NoNumber___init__ (P := P) (w := w) (base := base) T
    refine ⟨_, (pss_one (ps_if (pt_not (pt_val (g_call G_is_within (hr.mono (by decide)) hgd (by rfl) T.m_is_within T.F_is_within.kp T.b_is_within .nil pass0 (pa_cons (pv 0) (pa_cons (pv 1) (pa_cons (pv 2) pa_nil))))))
        (pss_one (ps_raise rfl (takes_of rfl rfl rfl rfl) (pmk_oex T.ox_NoNumber T.in_NoNumber T.tf_NoNumber G_NoNumber___init__ (hr.mono (by decide)) T.b_NoNumber___init__ .nil pass0 (by rfl) T.c_NoNumber (pa_cons (pv 0) pa_nil))))
        pss_nil)), ?_⟩
    walk_at "rd"
    refine ⟨v, lo, hi, rfl, th, ?_⟩
    walk_at "rd"
    refine ifs (fun h1 => ?_) (fun h1 => ?_)
    · walk_at "rd"
      exact i_mkE T.ox_NoNumber T.nf_NoNumber_found (q1 (by simpa using h1))
    · exact q0 (by simpa using h1)
end

/-- what comes of names and numbers: a vessel, or what is refused -/
inductive ResV
  | made | name (v : V) | number (v : V)
def offB (z : V × Int × Int) : Bool := !inB z.2.1 z.2.2 z.1
def resV (names : List V) (nums : List (V × Int × Int)) : ResV :=
  match names.find? bad with
  | some v => .name v
  | none => match nums.find? offB with
    | some z => .number z.1
    | none => .made
section
variable {P : Program} {w : World} {K : PySem.W.Frag} {mg : Str → Option Value} {base : Heap}
def fldV (n p h s d : V) : List (Str × V) := [(Str.ofString "name", n), (Str.ofString "port", p), (Str.ofString "hour", h), (Str.ofString "strength", s), (Str.ofString "draught", d)]
/-- what is wanted of each outcome -/
def WantsV (x : Addr) (r : ResV) (cN cR : Addr) (E : XK) (H : Hp) (made : Prop) : Prop := match r with
  | .made => made
  | .name v => ∀ d H', But x H H' → H' d = some (.xd [(Str.ofString "found", v)]) → E (.ref cN) (some d) H'
  | .number v => ∀ d H', But x H H' → H' d = some (.xd [(Str.ofString "found", v)]) → E (.ref cR) (some d) H'
/-- what is known of the class of an object that is being made -/
structure KnV (K : PySem.W.Frag) (C : Addr) : Prop where
  cl : Cls K C
  n1 : NoAttr K C "name"
  n2 : NoAttr K C "port"
  n3 : NoAttr K C "hour"
  n4 : NoAttr K C "strength"
  n5 : NoAttr K C "draught"
def spInitV (K : PySem.W.Frag) (cN cR : Addr) : Sp := fun vs H Q E => ∃ (x C dx : Addr) (n p h s d : V) (fs0 : List (Str × V)), vs = [.ref x, n, p, h, s, d] ∧ H x = some (.ins C dx fs0) ∧ (fs0 = [] ∨ ∃ v0, fs0 = [(Str.ofString "_vessels", v0)]) ∧ KnV K C ∧ (∀ v ∈ [n, p, h, s, d], Th H v) ∧
  WantsV x (resV [n, p] [(h, 0, 1000000), (s, 0, 1000000), (d, 0, 1000)]) cN cR E H (∀ H', But x H H' → H' x = some (.ins C dx (fs0 ++ fldV n p h s d)) → Q .non H')
theorem ok_Vessel___init__ (T : Top K mg) : FnG P w K mg base (L2.CX P w) 4 T.a_Vessel___init__ T.d_Vessel___init__ ["self", "name", "port", "hour", "strength", "draught"] (spInitV K T.a_NoName T.a_NoNumber) := by
  have G_check_names := ok_check_names (P := P) (w := w) (base := base) T
  have G_check_number := ok_check_number (P := P) (w := w) (base := base) T
  refine okGX T.F_Vessel___init__ sc_Vessel___init__ (fun vs H Q E h => ?_) (fun cdv A outer s H vs Q E hr hgd h => ?_)
  · obtain ⟨x, C, dx, n, p, h, s, d, fs0, rfl, _⟩ := h
    rfl
  · obtain ⟨x, C, dx, n, p, h, s', d, fs0, rfl, hx, hfs, kn, th, q⟩ := h
    have thn := th n (by simp); have thp := th p (by simp); have thh := th h (by simp); have ths := th s' (by simp); have thd := th d (by simp)
    refine ⟨_, (pss_cons (ps_expr (g_callE (E := WE _) G_check_names (hr.mono (by decide)) hgd (by rfl) T.m_check_names T.F_check_names.kp T.b_check_names .nil (passAt (takes_of rfl rfl rfl rfl)) (pa_cons (pe_lst (pa_cons (pv 1) (pa_cons (pv 2) pa_nil))) pa_nil)))
      (pss_cons (ps_expr (g_callE (E := WE _) G_check_number (hr.mono (by decide)) hgd (by rfl) T.m_check_number T.F_check_number.kp T.b_check_number .nil (passAt (takes_of rfl rfl rfl rfl)) (pa_cons (pv 3) (pa_cons pe_int (pa_cons (pe_glob (v := .int 1000000) (by rfl) T.c_HOUR_MOST ⟨_, rfl⟩) pa_nil)))))
      (pss_cons (ps_expr (g_callE (E := WE _) G_check_number (hr.mono (by decide)) hgd (by rfl) T.m_check_number T.F_check_number.kp T.b_check_number .nil (passAt (takes_of rfl rfl rfl rfl)) (pa_cons (pv 4) (pa_cons pe_int (pa_cons (pe_glob (v := .int 1000000) (by rfl) T.c_STRENGTH_MOST ⟨_, rfl⟩) pa_nil)))))
      (pss_cons (ps_expr (g_callE (E := WE _) G_check_number (hr.mono (by decide)) hgd (by rfl) T.m_check_number T.F_check_number.kp T.b_check_number .nil (passAt (takes_of rfl rfl rfl rfl)) (pa_cons (pv 5) (pa_cons pe_int (pa_cons (pe_glob (v := .int 1000) (by rfl) T.c_DEPTH_MOST ⟨_, rfl⟩) pa_nil)))))
      (pss_cons (ps_fld (pv 0) (pv 1) rfl)
      (pss_cons (ps_fld (pv 0) (pv 2) rfl)
      (pss_cons (ps_fld (pv 0) (pv 3) rfl)
      (pss_cons (ps_fld (pv 0) (pv 4) rfl)
      (pss_one (ps_fld (pv 0) (pv 5) rfl)))))))))), ?_⟩
    walk_at "rd"
    (intro p1 hp1; generalize ep1 : upd _ p1 _ = J; have N := New.of ep1 hp1; clear ep1 hp1)
    walk_at "rd"
    have xp : x ≠ p1 := ne_of_none hx N.free
    refine ⟨p1, [n, p], rfl, N.at_, ?_, ?_, ?_⟩
    · intro v hv
      simp at hv
      rcases hv with rfl | rfl
      · exact thn.same N.same
      · exact thp.same N.same
    · intro nb
      unfold resV at q
      rw [nb] at q
      dsimp only at q
      walk_at "rd"
      refine ⟨h, _, _, rfl, thh.same N.same, fun b1 => ?_, fun b1 dd hd => ?_⟩
      · walk_at "rd"
        rw [List.find?_cons_of_neg (by show ¬ (!inB 0 1000000 h) = true; rw [b1]; decide)] at q
        refine ⟨s', _, _, rfl, ths.same N.same, fun b2 => ?_, fun b2 dd hd => ?_⟩
        · walk_at "rd"
          rw [List.find?_cons_of_neg (by show ¬ (!inB 0 1000000 s') = true; rw [b2]; decide)] at q
          refine ⟨d, _, _, rfl, thd.same N.same, fun b3 => ?_, fun b3 dd hd => ?_⟩
          · rw [List.find?_cons_of_neg (by show ¬ (!inB 0 1000 d) = true; rw [b3]; decide), List.find?_nil] at q
            have hx0 : J x = some (.ins C dx fs0) := N.app hx
            walk_at "rd"
            rcases hfs with rfl | ⟨v0, rfl⟩
            all_goals
              (refine i_store hx0 kn.cl kn.n1 (by simp) (by walk_at "fresh") ?_
               walk_at "rd"
               refine i_store upd_same kn.cl kn.n2 (by simp) (by walk_at "fresh") ?_
               walk_at "rd"
               refine i_store upd_same kn.cl kn.n3 (by simp) (by walk_at "fresh") ?_
               walk_at "rd"
               refine i_store upd_same kn.cl kn.n4 (by simp) (by walk_at "fresh") ?_
               walk_at "rd"
               refine i_store upd_same kn.cl kn.n5 (by simp) (by walk_at "fresh") ?_
               refine q _ ?_ upd_same
               intro b u nb hb
               repeat rw [upd_ne nb]
               exact N.app hb)
          · rw [List.find?_cons_of_pos (by show (!inB 0 1000 d) = true; rw [b3]; decide)] at q
            exact q dd _ (Ice.Same.but (N.same.trans (Same.new _ hd))) upd_same
        · rw [List.find?_cons_of_pos (by show (!inB 0 1000000 s') = true; rw [b2]; decide)] at q
          exact q dd _ (Ice.Same.but (N.same.trans (Same.new _ hd))) upd_same
      · rw [List.find?_cons_of_pos (by show (!inB 0 1000000 h) = true; rw [b1]; decide)] at q
        exact q dd _ (Ice.Same.but (N.same.trans (Same.new _ hd))) upd_same
    · intro v hv dd hd
      unfold resV at q
      rw [hv] at q
      exact q dd _ (Ice.Same.but (N.same.trans (Same.new _ hd))) upd_same
end

/-- what comes of eight things: a channel, or what is refused -/
inductive Res
  | made | name (v : V) | doubled (v : V) | number (v : V)
def inV6 (f m : V) : Bool := match f with
  | .int lo => inB lo 1000000 m
  | _ => false
def resC (n o t h d f g m : V) : Res :=
  match [n, o, t].find? bad with
  | some v => .name v
  | none => if o = t then .doubled o else if inB 1 1000 h = false then .number h else if inB 0 1000 d = false then .number d
    else if inB 0 1000000 f = false then .number f else if inB 0 1000 g = false then .number g else if inV6 f m = false then .number m else .made
section
variable {P : Program} {w : World} {K : PySem.W.Frag} {mg : Str → Option Value} {base : Heap}
def fldC (n o t h d f g m : V) : List (Str × V) := [(Str.ofString "name", n), (Str.ofString "one", o), (Str.ofString "other", t), (Str.ofString "hours", h), (Str.ofString "depth", d), (Str.ofString "first", f), (Str.ofString "growth", g), (Str.ofString "most", m)]
/-- what is wanted of each outcome -/
def Wants (r : Res) (cN cD cR : Addr) (E : XK) (H : Hp) (made : Prop) : Prop := match r with
  | .made => made
  | .name v => ∀ d H', Same H H' → H' d = some (.xd [(Str.ofString "found", v)]) → E (.ref cN) (some d) H'
  | .doubled v => ∀ d H', Same H H' → H' d = some (.xd [(Str.ofString "name", v)]) → E (.ref cD) (some d) H'
  | .number v => ∀ d H', Same H H' → H' d = some (.xd [(Str.ofString "found", v)]) → E (.ref cR) (some d) H'
def spInitC (C cN cD cR : Addr) : Sp := fun vs H Q E => ∃ (x dx : Addr) (n o t h d f g m : V), vs = [.ref x, n, o, t, h, d, f, g, m] ∧ H x = some (.ins C dx []) ∧ (∀ v ∈ [n, o, t, h, d, f, g, m], Th H v) ∧
  Wants (resC n o t h d f g m) cN cD cR E H (∀ H', But x H H' → H' x = some (.ins C dx (fldC n o t h d f g m)) → Q .non H')
theorem name_of {H : Hp} {v : V} (h : bad v = false) : ∃ s, v = .str s := by
  cases v <;> first | exact ⟨_, rfl⟩ | cases h
theorem ok_Channel___init__ (T : Top K mg) : FnG P w K mg base (L2.CX P w) 4 T.a_Channel___init__ T.d_Channel___init__ ["self", "name", "one", "other", "hours", "depth", "first", "growth", "most"] (spInitC T.a_Channel T.a_NoName T.a_Doubled T.a_NoNumber) := by
  have G_check_names := ok_check_names (P := P) (w := w) (base := base) T
  have G_check_number := ok_check_number (P := P) (w := w) (base := base) T
  have G_Doubled___init__ := ok_Doubled___init__ (P := P) (w := w) (base := base) T
  refine okGX T.F_Channel___init__ sc_Channel___init__ (fun vs H Q E h => ?_) (fun cdv A outer s H vs Q E hr hgd h => ?_)
  · obtain ⟨x, dx, n, o, t, h, d, f, g, m, rfl, _⟩ := h
    rfl
  · obtain ⟨x, dx, n, o, t, h, d, f, g, m, rfl, hx, th, q⟩ := h
    have G_Doubled___init__ := ok_Doubled___init__ (P := P) (w := w) (base := base) T
    have thn := th n (by simp); have tho := th o (by simp); have tht := th t (by simp); have thh := th h (by simp)
    have thd := th d (by simp); have thf := th f (by simp); have thg := th g (by simp); have thm := th m (by simp)
    refine ⟨_, (pss_cons (ps_expr (g_callE (E := WE _) G_check_names (hr.mono (by decide)) hgd (by rfl) T.m_check_names T.F_check_names.kp T.b_check_names .nil (passAt (takes_of rfl rfl rfl rfl)) (pa_cons (pe_lst (pa_cons (pv 1) (pa_cons (pv 2) (pa_cons (pv 3) pa_nil)))) pa_nil)))
      (pss_cons (ps_if (pt_cmpR op_eq (pv 2) (pv 3) (nomark _))
        (pss_one (ps_raise rfl (takes_of rfl rfl rfl rfl) (pmk_oex T.ox_Doubled T.in_Doubled T.tf_Doubled G_Doubled___init__ (hr.mono (by decide)) T.b_Doubled___init__ .nil pass0 (by rfl) T.c_Doubled (pa_cons (pv 2) pa_nil))))
        pss_nil)
      (pss_cons (ps_expr (g_callE (E := WE _) G_check_number (hr.mono (by decide)) hgd (by rfl) T.m_check_number T.F_check_number.kp T.b_check_number .nil (passAt (takes_of rfl rfl rfl rfl)) (pa_cons (pv 4) (pa_cons pe_int (pa_cons (pe_glob (v := .int 1000) (by rfl) T.c_HOURS_MOST ⟨_, rfl⟩) pa_nil)))))
      (pss_cons (ps_expr (g_callE (E := WE _) G_check_number (hr.mono (by decide)) hgd (by rfl) T.m_check_number T.F_check_number.kp T.b_check_number .nil (passAt (takes_of rfl rfl rfl rfl)) (pa_cons (pv 5) (pa_cons pe_int (pa_cons (pe_glob (v := .int 1000) (by rfl) T.c_DEPTH_MOST ⟨_, rfl⟩) pa_nil)))))
      (pss_cons (ps_expr (g_callE (E := WE _) G_check_number (hr.mono (by decide)) hgd (by rfl) T.m_check_number T.F_check_number.kp T.b_check_number .nil (passAt (takes_of rfl rfl rfl rfl)) (pa_cons (pv 6) (pa_cons pe_int (pa_cons (pe_glob (v := .int 1000000) (by rfl) T.c_THICK_MOST ⟨_, rfl⟩) pa_nil)))))
      (pss_cons (ps_expr (g_callE (E := WE _) G_check_number (hr.mono (by decide)) hgd (by rfl) T.m_check_number T.F_check_number.kp T.b_check_number .nil (passAt (takes_of rfl rfl rfl rfl)) (pa_cons (pv 7) (pa_cons pe_int (pa_cons (pe_glob (v := .int 1000) (by rfl) T.c_GROWTH_MOST ⟨_, rfl⟩) pa_nil)))))
      (pss_cons (ps_expr (g_callE (E := WE _) G_check_number (hr.mono (by decide)) hgd (by rfl) T.m_check_number T.F_check_number.kp T.b_check_number .nil (passAt (takes_of rfl rfl rfl rfl)) (pa_cons (pv 8) (pa_cons (pv 6) (pa_cons (pe_glob (v := .int 1000000) (by rfl) T.c_THICK_MOST ⟨_, rfl⟩) pa_nil)))))
      (pss_cons (ps_fld (pv 0) (pv 1) rfl)
      (pss_cons (ps_fld (pv 0) (pv 2) rfl)
      (pss_cons (ps_fld (pv 0) (pv 3) rfl)
      (pss_cons (ps_fld (pv 0) (pv 4) rfl)
      (pss_cons (ps_fld (pv 0) (pv 5) rfl)
      (pss_cons (ps_fld (pv 0) (pv 6) rfl)
      (pss_cons (ps_fld (pv 0) (pv 7) rfl)
      (pss_one (ps_fld (pv 0) (pv 8) rfl)))))))))))))))), ?_⟩
    walk_at "rd"
    (intro p hp; generalize ep : upd _ p _ = J; have N := New.of ep hp; clear ep hp)
    walk_at "rd"
    have xp : x ≠ p := ne_of_none hx N.free
    refine ⟨p, [n, o, t], rfl, N.at_, ?_, ?_, ?_⟩
    · intro v hv
      simp at hv
      rcases hv with rfl | rfl | rfl
      · exact thn.same N.same
      · exact tho.same N.same
      · exact tht.same N.same
    · intro nb
      obtain ⟨bo, bt⟩ : bad o = false ∧ bad t = false := by simp at nb; exact ⟨nb.2.1, nb.2.2⟩
      obtain ⟨so, rfl⟩ := name_of (H := H) bo
      obtain ⟨st, rfl⟩ := name_of (H := H) bt
      unfold resC at q
      rw [nb] at q
      walk_at "rd"
      refine ifs (fun h1 => ?_) (fun h1 => ?_)
      · walk_at "rd"
        dsimp only at q
        rw [if_pos (of_decide_eq_true h1)] at q
        exact i_mkE T.ox_Doubled T.nf_Doubled_name (fun d hd => q d _ (N.same.trans (Same.new _ hd)) upd_same)
      · walk_at "rd"
        dsimp only at q
        rw [if_neg (of_decide_eq_false h1)] at q
        refine ⟨h, 1, 1000, rfl, thh.same N.same, fun b1 => ?_, fun b1 d hd => ?_⟩
        · walk_at "rd"
          rw [if_neg (by rw [b1]; simp)] at q
          refine ⟨d, 0, 1000, rfl, thd.same N.same, fun b2 => ?_, fun b2 d hd => ?_⟩
          · walk_at "rd"
            rw [if_neg (by rw [b2]; simp)] at q
            refine ⟨f, 0, 1000000, rfl, thf.same N.same, fun b3 => ?_, fun b3 d hd => ?_⟩
            · walk_at "rd"
              rw [if_neg (by rw [b3]; simp)] at q
              refine ⟨g, 0, 1000, rfl, thg.same N.same, fun b4 => ?_, fun b4 d hd => ?_⟩
              · walk_at "rd"
                rw [if_neg (by rw [b4]; simp)] at q
                obtain ⟨lo, rfl⟩ : ∃ i, f = .int i := by cases f <;> first | exact ⟨_, rfl⟩ | cases b3
                refine ⟨m, lo, 1000000, rfl, thm.same N.same, fun b5 => ?_, fun b5 d hd => ?_⟩
                · rw [if_neg (by show ¬ inB lo 1000000 m = false; rw [b5]; simp)] at q
                  have hx0 : J x = some (.ins T.a_Channel dx []) := N.app hx
                  walk_at "rd"
                  refine i_store hx0 T.cl_Channel T.na_Channel_name (by decide) (by decide +kernel) ?_
                  walk_at "rd"
                  refine i_store upd_same T.cl_Channel T.na_Channel_one (by simp) (by walk_at "fresh") ?_
                  walk_at "rd"
                  refine i_store upd_same T.cl_Channel T.na_Channel_other (by simp) (by walk_at "fresh") ?_
                  walk_at "rd"
                  refine i_store upd_same T.cl_Channel T.na_Channel_hours (by simp) (by walk_at "fresh") ?_
                  walk_at "rd"
                  refine i_store upd_same T.cl_Channel T.na_Channel_depth (by simp) (by walk_at "fresh") ?_
                  walk_at "rd"
                  refine i_store upd_same T.cl_Channel T.na_Channel_first (by simp) (by walk_at "fresh") ?_
                  walk_at "rd"
                  refine i_store upd_same T.cl_Channel T.na_Channel_growth (by simp) (by walk_at "fresh") ?_
                  walk_at "rd"
                  refine i_store upd_same T.cl_Channel T.na_Channel_most (by simp) (by walk_at "fresh") ?_
                  refine q _ ?_ upd_same
                  intro b u nb hb
                  repeat rw [upd_ne nb]
                  exact N.app hb
                · rw [if_pos (show inV6 (.int lo) m = false from b5)] at q
                  exact q d _ (N.same.trans (Same.new _ hd)) upd_same
              · rw [if_pos b4] at q
                exact q d _ (N.same.trans (Same.new _ hd)) upd_same
            · rw [if_pos b3] at q
              exact q d _ (N.same.trans (Same.new _ hd)) upd_same
          · rw [if_pos b2] at q
            exact q d _ (N.same.trans (Same.new _ hd)) upd_same
        · rw [if_pos b1] at q
          exact q d _ (N.same.trans (Same.new _ hd)) upd_same
    · intro v hv d hd
      unfold resC at q
      rw [hv] at q
      exact q d _ (N.same.trans (Same.new _ hd)) upd_same
end

end Ice

set_option Elab.async false
set_option linter.all false
set_option maxRecDepth 100000
set_option maxHeartbeats 4000000
namespace Ice
open PySem PySem.Spec PyProof.Rows L2 TL
/-! side conditions, heaps, one step of a reading, and many -/
local macro_rules | `(tactic| walk_at "hp") => `(tactic| first | assumption | exact upd_same | exact New.at_ (by assumption) | (refine keepU ?_ (by assumption); walk_at "hp") | (refine New.app (by assumption) ?_; walk_at "hp") | (refine Same.app (by assumption) ?_; walk_at "hp") | (refine But.app (by assumption) (by assumption) ?_; walk_at "hp"))
local macro_rules | `(tactic| walk_at "sq") => `(tactic| first | assumption | exact SqL.lst (by walk_at "hp") | exact L2.Same.seq (New.same (by assumption)) (by assumption) | exact L2.Same.seq (by assumption) (by assumption))
local macro_rules | `(tactic| walk_at "len") => `(tactic| first | assumption | (simp only [List.length_cons, List.length_nil, List.length_append, List.length_map]; decide) | (refine Ice.sz_of ?_; simp only [List.length_cons, List.length_nil, List.length_append, List.length_map]; omega))
local macro_rules | `(tactic| walk_at "fresh") => `(tactic| (simp only [List.map_append, List.map_cons, List.map_nil, List.nil_append, List.cons_append]; decide +kernel))
local macro_rules | `(tactic| walk_at "sd") => `(tactic| first | assumption | (show _ ≠ _; omega) | exact Or.inl ⟨by omega, by omega⟩ | exact Or.inr ⟨by omega, by omega⟩ | exact ⟨by decide, by decide⟩ | exact ⟨by decide, by decide, by decide⟩ | exact ⟨by omega, by omega, by omega⟩)
/-! one step of a reading, and many -/
local macro_rules | `(tactic| walk_at "st") => `(tactic| first
  | with_reducible refine i_seq ?_
  | with_reducible refine i_if ?_
  | with_reducible refine i_next ?_
  | with_reducible refine i_ret ?_
  | with_reducible refine i_retN ?_
  | with_reducible refine i_drop ?_
  | with_reducible refine i_asg ?_
  | with_reducible refine i_gname ?_
  | with_reducible refine i_gsub ?_
  | ((with_reducible refine i_var (v := ?vv) ?hv ?_); (case hv => exact rfl))
  | with_reducible refine i_c ?_
  | with_reducible refine i_op ?_
  | with_reducible refine i_un ?_
  | with_reducible refine i_test ?_
  | with_reducible refine i_tB ?_
  | with_reducible refine i_and ?_
  | with_reducible refine i_or ?_
  | with_reducible refine i_not ?_
  | with_reducible refine i_andV ?_
  | with_reducible refine i_orV ?_
  | with_reducible refine i_notV ?_
  | with_reducible refine i_ifE ?_
  | with_reducible refine i_chain ?_
  | with_reducible refine i_bl ?_
  | with_reducible refine i_nil ?_
  | with_reducible refine i_cons ?_
  | with_reducible refine i_call ?_
  | with_reducible refine i_cb ?_
  | with_reducible refine i_rI0 ?_
  | with_reducible refine i_rU ?_
  | ((with_reducible refine i_rEq ?hs ?_); (case hs => exact rfl))
  | ((with_reducible refine i_rNe ?hs ?_); (case hs => exact rfl))
  | ((with_reducible refine i_rI ?hc ?_); (case hc => walk_at "sd"))
  | ((with_reducible refine i_ixL (xs := ?xs) (v := ?vv) ?hS ?he ?_); (case hS => walk_at "sq"); (case he => exact rfl))
  | ((with_reducible refine i_setL (xs := ?xs) (j := ?jj) ?hS ?he ?_); (case hS => walk_at "hp"); (case he => exact rfl))
  | with_reducible refine i_tup ?_
  | with_reducible refine i_lst ?_
  | with_reducible refine i_bm ?_
  | with_reducible refine i_bm0 ?_
  | with_reducible refine i_m1 ?_
  | with_reducible refine i_sl ?_
  | with_reducible refine i_nopart ?_
  | with_reducible refine i_part ?_
  | with_reducible refine i_int ?_
  | with_reducible refine i_str ?_
  | with_reducible refine i_for ?_
  | with_reducible refine i_yes ?_
  | ((with_reducible refine i_lenL (xs := ?xs) ?hS ?_); (case hS => walk_at "sq"))
  | ((with_reducible refine i_room ?hz ?_); (case hz => walk_at "len"))
  | with_reducible refine i_leT ?_
  | with_reducible refine i_notInS ?_
  | with_reducible refine i_inS ?_
  | with_reducible refine i_find ?_
  | with_reducible refine i_isB ?_
  | with_reducible refine i_max2 ?_
  | with_reducible refine i_min2 ?_
  | with_reducible exact trivial
  | with_reducible refine iteT ?_
  | with_reducible refine iteF ?_
  | with_reducible refine i_isstr ?_
  | with_reducible refine i_lc ?_
  | ((with_reducible refine i_cat (xs := ?xs) (zs := ?zs) ?ha ?hb ?hz ?_); (case ha => walk_at "hp"); (case hb => walk_at "hp"); (case hz => walk_at "len"))
  | ((with_reducible refine i_tyL (xs := ?xs) ?ha ?_); (case ha => walk_at "hp"))
  | with_reducible refine i_list ?_
  | with_reducible refine i_disp ?_
  | with_reducible refine i_pairs0 ?_
  | with_reducible refine i_pairs ?_
  | with_reducible refine i_newK ?_
  | with_reducible refine i_gcons ?_
  | with_reducible refine i_gnil ?_
  | with_reducible refine i_revL ?_
  | with_reducible refine i_rng1 ?_
  | ((with_reducible refine i_wipe ?hw ?_); (case hw => exact rfl))
  | with_reducible refine iteNT ?_
  | with_reducible refine iteNF ?_)
local macro_rules | `(tactic| walk_at "sx") => `(tactic| first
  | walk_at "st"
  | with_reducible refine i_kinit ?_
  | with_reducible refine i_ost ?_
  | with_reducible refine i_mkO ?_
  | with_reducible refine i_callE ?_
  | with_reducible refine i_makeE ?_
  | with_reducible refine i_xf ?_
  | with_reducible refine i_sfld ?_
  | with_reducible refine i_fld ?_
  | ((with_reducible refine i_ixT (xs := ?xs) (v := ?vv) ?hS ?he ?_); (case hS => exact SqT.tup (by walk_at "hp")); (case he => exact rfl))
  | with_reducible refine i_intB ?_
  | with_reducible refine i_runS ?_
  | with_reducible refine i_runN ?_
  | ((with_reducible refine i_xf1 (fs := ?ff) (v := ?vv) ?hx ?hl ?_); (case hx => walk_at "hp"); (case hl => exact rfl))
  | with_reducible refine i_methE ?_
  | with_reducible refine i_meth ?_
  | with_reducible refine i_make ?_
  | ((with_reducible refine i_obj (dx := ?dd) (fs := ?ff) ?hx ?hl ?_); (case hx => walk_at "hp"); (case hl => exact rfl))
  | ((with_reducible refine i_fld1 (C := ?CC) (dx := ?dd) (fs := ?ff) (v := ?vv) ?hx ?cl ?na ?hl ?_); (case hx => walk_at "hp"); (case cl => assumption); (case na => assumption); (case hl => exact rfl)))
local macro_rules | `(tactic| walk_at "rd") => `(tactic| repeat (walk_at "sx"))

theorem Th.butI {H H' : Hp} {x C dx : Addr} {fs : List (Str × V)} {v : V} (h : Th H v) (hx : H x = some (.ins C dx fs)) (e : But x H H') : Th H' v := by
  rcases h with h | ⟨n, h⟩
  · exact .inl h
  · refine .inr ?_
    cases h with
    | non => exact ⟨_, .non⟩
    | int i => exact ⟨_, .int i⟩
    | bl b => exact ⟨_, .bl b⟩
    | lst h => exact ⟨_, .lst (e _ _ (ne_of h hx (by intro z; cases z)) h)⟩
    | tup h => exact ⟨_, .tup (e _ _ (ne_of h hx (by intro z; cases z)) h)⟩
    | dct h => exact ⟨_, .dct (e _ _ (ne_of h hx (by intro z; cases z)) h)⟩
theorem resV_snoc (names : List V) (l : List (V × Int × Int)) (z : V × Int × Int) : resV names (l ++ [z]) = match resV names l with
    | .made => if offB z = true then .number z.1 else .made
    | .name v => .name v
    | .number v => .number v := by
  unfold resV
  cases names.find? bad with
  | some v => rfl
  | none =>
    dsimp only
    rw [List.find?_append]
    cases l.find? offB with
    | some u => rfl
    | none =>
      dsimp only [Option.none_or]
      by_cases e : offB z = true
      · rw [List.find?_cons_of_pos e, if_pos e]
      · rw [List.find?_cons_of_neg e, if_neg e]; rfl
section
variable {P : Program} {w : World} {K : PySem.W.Frag} {mg : Str → Option Value} {base : Heap}
def spInitB (C cN cR : Addr) : Sp := fun vs H Q E => ∃ (x dx : Addr) (n p h s d c : V), vs = [.ref x, n, p, h, s, d, c] ∧ H x = some (.ins C dx []) ∧ (∀ v ∈ [n, p, h, s, d, c], Th H v) ∧
  WantsV x (resV [n, p] ([(h, 0, 1000000), (s, 0, 1000000), (d, 0, 1000)] ++ [(c, 1, 1000000)])) cN cR E H (∀ H', But x H H' → H' x = some (.ins C dx (fldV n p h s d ++ [(Str.ofString "cut", c)])) → Q .non H')
theorem kn_Breaker (T : Top K mg) : KnV K T.a_Breaker := ⟨T.cl_Breaker, T.na_Breaker_name, T.na_Breaker_port, T.na_Breaker_hour, T.na_Breaker_strength, T.na_Breaker_draught⟩
theorem kn_Ship (T : Top K mg) : KnV K T.a_Ship := ⟨T.cl_Ship, T.na_Ship_name, T.na_Ship_port, T.na_Ship_hour, T.na_Ship_strength, T.na_Ship_draught⟩
theorem ok_Breaker___init__ (T : Top K mg) : FnG P w K mg base (L2.CX P w) 5 T.a_Breaker___init__ T.d_Breaker___init__ ["self", "name", "port", "hour", "strength", "draught", "cut"] (spInitB T.a_Breaker T.a_NoName T.a_NoNumber) := by
  have G_check_number := ok_check_number (P := P) (w := w) (base := base) T
  have G_Vessel___init__ := ok_Vessel___init__ (P := P) (w := w) (base := base) T
  refine okGX T.F_Breaker___init__ sc_Breaker___init__ (fun vs H Q E h => ?_) (fun cdv A outer s H vs Q E hr hgd h => ?_)
  · obtain ⟨x, dx, n, p, h, s, d, c, rfl, _⟩ := h
    rfl
  · obtain ⟨x, dx, n, p, h, s', d, c, rfl, hx, th, q⟩ := h
    refine ⟨_, (pss_cons (ps_expr (g_kinitE (E := WE _) T.ki_Vessel G_Vessel___init__ (hr.mono (by decide)) hgd (by rfl) T.c_Vessel T.b_Vessel___init__ .nil (passAt (takes_of rfl rfl rfl rfl)) (pa_cons (pv 0) (pa_cons (pv 1) (pa_cons (pv 2) (pa_cons (pv 3) (pa_cons (pv 4) (pa_cons (pv 5) pa_nil))))))))
      (pss_cons (ps_expr (g_callE (E := WE _) G_check_number (hr.mono (by decide)) hgd (by rfl) T.m_check_number T.F_check_number.kp T.b_check_number .nil (passAt (takes_of rfl rfl rfl rfl)) (pa_cons (pv 6) (pa_cons pe_int (pa_cons (pe_glob (v := .int 1000000) (by rfl) T.c_CUT_MOST ⟨_, rfl⟩) pa_nil)))))
      (pss_one (ps_fld (pv 0) (pv 6) rfl)))), ?_⟩
    walk_at "rd"
    refine ⟨x, T.a_Breaker, dx, n, p, h, s', d, [], rfl, hx, .inl rfl, kn_Breaker T, fun v hv => th v (by simp at hv ⊢; rcases hv with h | h | h | h | h <;> simp [h]), ?_⟩
    rw [resV_snoc] at q
    generalize resV [n, p] [(h, 0, 1000000), (s', 0, 1000000), (d, 0, 1000)] = r at q ⊢
    cases r with
    | name v => exact q
    | number v => exact q
    | made =>
      intro H1 b1 k1
      have thc : Th H1 c := (th c (by simp)).butI hx b1
      walk_at "rd"
      refine ⟨c, _, _, rfl, thc, fun e1 => ?_, fun e1 dd hd => ?_⟩
      · walk_at "rd"
        dsimp only at q
        rw [if_neg (by show ¬ (!inB 1 1000000 c) = true; rw [e1]; decide)] at q
        refine i_store k1 T.cl_Breaker T.na_Breaker_cut (by simp [fldV]) (by simp only [fldV, List.nil_append, List.map_cons, List.map_nil]; decide +kernel) ?_
        refine q _ ?_ upd_same
        intro a o na ha
        rw [upd_ne na]
        exact b1 a o na ha
      · dsimp only at q
        rw [if_pos (by show (!inB 1 1000000 c) = true; rw [e1]; decide)] at q
        refine q dd _ (fun a o na ha => ?_) upd_same
        rw [upd_ne (ne_of_none (b1 a o na ha) hd)]
        exact b1 a o na ha
theorem resV_goal {n p g : V} {l : List (V × Int × Int)} (h : [n, p, g].find? bad = none) : resV [n, p, g] l = resV [n, p] l := by
  have h2 : [n, p].find? bad = none := by
    simp at h ⊢
    exact ⟨h.1, h.2.1⟩
  unfold resV
  rw [h, h2]
def spInitS (C cN cR : Addr) : Sp := fun vs H Q E => ∃ (x dx : Addr) (n p g h s d : V), vs = [.ref x, n, p, g, h, s, d] ∧ H x = some (.ins C dx []) ∧ (∀ v ∈ [n, p, g, h, s, d], Th H v) ∧
  WantsV x (resV [n, p, g] [(h, 0, 1000000), (s, 0, 1000000), (d, 0, 1000)]) cN cR E H (∀ H', But x H H' → H' x = some (.ins C dx (fldV n p h s d ++ [(Str.ofString "goal", g)])) → Q .non H')
theorem ok_Ship___init__ (T : Top K mg) : FnG P w K mg base (L2.CX P w) 5 T.a_Ship___init__ T.d_Ship___init__ ["self", "name", "port", "goal", "hour", "strength", "draught"] (spInitS T.a_Ship T.a_NoName T.a_NoNumber) := by
  have G_check_names := ok_check_names (P := P) (w := w) (base := base) T
  have G_Vessel___init__ := ok_Vessel___init__ (P := P) (w := w) (base := base) T
  refine okGX T.F_Ship___init__ sc_Ship___init__ (fun vs H Q E h => ?_) (fun cdv A outer s H vs Q E hr hgd h => ?_)
  · obtain ⟨x, dx, n, p, g, h, s, d, rfl, _⟩ := h
    rfl
  · obtain ⟨x, dx, n, p, g, h, s', d, rfl, hx, th, q⟩ := h
    refine ⟨_, (pss_cons (ps_expr (g_callE (E := WE _) G_check_names (hr.mono (by decide)) hgd (by rfl) T.m_check_names T.F_check_names.kp T.b_check_names .nil (passAt (takes_of rfl rfl rfl rfl)) (pa_cons (pe_lst (pa_cons (pv 1) (pa_cons (pv 2) (pa_cons (pv 3) pa_nil)))) pa_nil)))
      (pss_cons (ps_expr (g_kinitE (E := WE _) T.ki_Vessel G_Vessel___init__ (hr.mono (by decide)) hgd (by rfl) T.c_Vessel T.b_Vessel___init__ .nil (passAt (takes_of rfl rfl rfl rfl)) (pa_cons (pv 0) (pa_cons (pv 1) (pa_cons (pv 2) (pa_cons (pv 4) (pa_cons (pv 5) (pa_cons (pv 6) pa_nil))))))))
      (pss_one (ps_fld (pv 0) (pv 3) rfl)))), ?_⟩
    walk_at "rd"
    (intro p1 hp1; generalize ep1 : upd _ p1 _ = J; have N := New.of ep1 hp1; clear ep1 hp1)
    walk_at "rd"
    refine ⟨p1, [n, p, g], rfl, N.at_, fun v hv => (th v (by simp at hv ⊢; rcases hv with h | h | h <;> simp [h])).same N.same, fun nb => ?_, fun v hv dd hd => ?_⟩
    · rw [resV_goal nb] at q
      walk_at "rd"
      refine ⟨x, T.a_Ship, dx, n, p, h, s', d, [], rfl, N.app hx, .inl rfl, kn_Ship T, fun v hv => (th v (by simp at hv ⊢; rcases hv with h | h | h | h | h <;> simp [h])).same N.same, ?_⟩
      generalize resV [n, p] [(h, 0, 1000000), (s', 0, 1000000), (d, 0, 1000)] = r at q ⊢
      cases r with
      | name v => exact fun d' H' b k => q d' H' ((Ice.Same.but N.same).trans b) k
      | number v => exact fun d' H' b k => q d' H' ((Ice.Same.but N.same).trans b) k
      | made =>
        intro H1 b1 k1
        walk_at "rd"
        refine i_store k1 T.cl_Ship T.na_Ship_goal (by simp [fldV]) (by simp only [fldV, List.nil_append, List.map_cons, List.map_nil]; decide +kernel) ?_
        refine q _ ?_ upd_same
        intro a o na ha
        rw [upd_ne na]
        exact b1 a o na (N.app ha)
    · unfold resV at q
      rw [hv] at q
      exact q dd _ (Ice.Same.but (N.same.trans (Same.new _ hd))) upd_same
end

section
variable {P : Program} {w : World} {K : PySem.W.Frag} {mg : Str → Option Value} {base : Heap}
/-- the kinds -/
inductive Kd | v | b | s
def Kd.txt : Kd → Str
  | .v => Str.ofString "vessel"
  | .b => Str.ofString "breaker"
  | .s => Str.ofString "ship"
theorem resV_made {names : List V} {nums : List (V × Int × Int)} (h1 : ∀ v ∈ names, isN v = true) (h2 : ∀ z ∈ nums, inB z.2.1 z.2.2 z.1 = true) : resV names nums = .made := by
  unfold resV
  rw [List.find?_eq_none.mpr (fun v hv => by simp [bad, h1 v hv])]
  dsimp only
  rw [List.find?_eq_none.mpr (fun z hz => by simp [offB, h2 z hz])]
theorem inB_of {lo hi i : Int} (h0 : lo ≤ i) (h1 : i ≤ hi) : inB lo hi (.int i) = true := by
  show (decide (lo ≤ i) && decide (i ≤ hi)) = true
  rw [decide_eq_true h0, decide_eq_true h1]; rfl
/-- a row that stands -/
structure Five (n p : Str) (h s d : Int) : Prop where
  nn : isN (.str n) = true
  np : isN (.str p) = true
  bh : 0 ≤ h ∧ h ≤ 1000000
  bs : 0 ≤ s ∧ s ≤ 1000000
  bd : 0 ≤ d ∧ d ≤ 1000
def RowK : Kd → List V → Prop
  | .v, xs => ∃ n p h s d, Five n p h s d ∧ xs = [.str n, .str p, .int h, .int s, .int d]
  | .b, xs => ∃ n p h s d c, Five n p h s d ∧ (1 ≤ c ∧ c ≤ 1000000) ∧ xs = [.str n, .str p, .int h, .int s, .int d, .int c]
  | .s, xs => ∃ n p h s d g, Five n p h s d ∧ isN (.str g) = true ∧ xs = [.str n, .str p, .str g, .int h, .int s, .int d]
theorem Five.made {n p : Str} {h s d : Int} (f : Five n p h s d) : resV [.str n, .str p] [(.int h, 0, 1000000), (.int s, 0, 1000000), (.int d, 0, 1000)] = .made := by
  refine resV_made ?_ ?_
  · intro v hv
    simp only [List.mem_cons, List.not_mem_nil, or_false] at hv
    rcases hv with rfl | rfl
    · exact f.nn
    · exact f.np
  · intro z hz
    simp only [List.mem_cons, List.not_mem_nil, or_false] at hz
    rcases hz with rfl | rfl | rfl
    · exact inB_of f.bh.1 f.bh.2
    · exact inB_of f.bs.1 f.bs.2
    · exact inB_of f.bd.1 f.bd.2
theorem name_asc {x : Str} (h : isN (.str x) = true) : (1 ≤ x.length ∧ x.length ≤ 8 ∧ ∀ c ∈ tl x, 97 ≤ c ∧ c ≤ 122) := of_decide_eq_true h
theorem name_Asc {x : Str} (h : isN (.str x) = true) : ∀ c ∈ x.cps.toList, c < 128 := fun c hc => by have := (name_asc h).2.2 c hc; omega
theorem name_ps {x : Str} (h : isN (.str x) = true) : Ps (.str x) (.str x) := .str (by have := (name_asc h).2.1; omega) (name_Asc h)
theorem name_th {x : Str} (H : Hp) (h : isN (.str x) = true) : Th H (.str x) := .inl ⟨x, rfl, by have := (name_asc h).2.1; omega⟩
theorem RowK.th {k : Kd} {xs : List V} (H : Hp) (r : RowK k xs) : ∀ v ∈ xs, Th H v := by
  intro v hv
  cases k with
  | v =>
    obtain ⟨n, p, h, s, d, f, rfl⟩ := r
    simp only [List.mem_cons, List.not_mem_nil, or_false] at hv
    rcases hv with rfl | rfl | rfl | rfl | rfl
    · exact name_th H f.nn
    · exact name_th H f.np
    all_goals exact .inr ⟨_, .int _⟩
  | b =>
    obtain ⟨n, p, h, s, d, c, f, _, rfl⟩ := r
    simp only [List.mem_cons, List.not_mem_nil, or_false] at hv
    rcases hv with rfl | rfl | rfl | rfl | rfl | rfl
    · exact name_th H f.nn
    · exact name_th H f.np
    all_goals exact .inr ⟨_, .int _⟩
  | s =>
    obtain ⟨n, p, h, s, d, g, f, hg, rfl⟩ := r
    simp only [List.mem_cons, List.not_mem_nil, or_false] at hv
    rcases hv with rfl | rfl | rfl | rfl | rfl | rfl
    · exact name_th H f.nn
    · exact name_th H f.np
    · exact name_th H hg
    all_goals exact .inr ⟨_, .int _⟩
/-- an object's fields, by its row -/
def fldK : Kd → List V → List (Str × V)
  | .v, [n, p, h, s, d] => fldV n p h s d
  | .b, [n, p, h, s, d, c] => fldV n p h s d ++ [(Str.ofString "cut", c)]
  | .s, [n, p, g, h, s, d] => fldV n p h s d ++ [(Str.ofString "goal", g)]
  | _, _ => []
def clsK (aV aB aS : Addr) : Kd → Addr
  | .v => aV
  | .b => aB
  | .s => aS

def spTxt (t : String) : Sp := fun vs H Q _ => ∃ x, vs = [.ref x] ∧ Q (.str (Str.ofString t)) H
theorem ok_Vessel_kind (T : Top K mg) : FnG P w K mg base CX0 1 T.a_Vessel_kind T.d_Vessel_kind ["self"] (spTxt "vessel") := by
  refine okG T.F_Vessel_kind sc_Vessel_kind (fun vs H Q E h => ?_) (fun cdv A outer s H vs Q E hr hgd h => ?_)
  · obtain ⟨x, rfl, _⟩ := h
    rfl
  · obtain ⟨x, rfl, q⟩ := h
    refine ⟨_, (pss_one (ps_ret pe_str)), ?_⟩
    walk_at "rd"
    exact q
theorem ok_Breaker_kind (T : Top K mg) : FnG P w K mg base CX0 1 T.a_Breaker_kind T.d_Breaker_kind ["self"] (spTxt "breaker") := by
  refine okG T.F_Breaker_kind sc_Breaker_kind (fun vs H Q E h => ?_) (fun cdv A outer s H vs Q E hr hgd h => ?_)
  · obtain ⟨x, rfl, _⟩ := h
    rfl
  · obtain ⟨x, rfl, q⟩ := h
    refine ⟨_, (pss_one (ps_ret pe_str)), ?_⟩
    walk_at "rd"
    exact q
theorem ok_Ship_kind (T : Top K mg) : FnG P w K mg base CX0 1 T.a_Ship_kind T.d_Ship_kind ["self"] (spTxt "ship") := by
  refine okG T.F_Ship_kind sc_Ship_kind (fun vs H Q E h => ?_) (fun cdv A outer s H vs Q E hr hgd h => ?_)
  · obtain ⟨x, rfl, _⟩ := h
    rfl
  · obtain ⟨x, rfl, q⟩ := h
    refine ⟨_, (pss_one (ps_ret pe_str)), ?_⟩
    walk_at "rd"
    exact q
def spZero : Sp := fun vs H Q _ => ∃ x, vs = [.ref x] ∧ Q (.int 0) H
theorem ok_Vessel_thins (T : Top K mg) : FnG P w K mg base CX0 1 T.a_Vessel_thins T.d_Vessel_thins ["self"] spZero := by
  refine okG T.F_Vessel_thins sc_Vessel_thins (fun vs H Q E h => ?_) (fun cdv A outer s H vs Q E hr hgd h => ?_)
  · obtain ⟨x, rfl, _⟩ := h
    rfl
  · obtain ⟨x, rfl, q⟩ := h
    refine ⟨_, (pss_one (ps_ret pe_int)), ?_⟩
    walk_at "rd"
    exact q
def spCut (C : Addr) : Sp := fun vs H Q _ => ∃ (x dx : Addr) (fs : List (Str × V)) (v : V), vs = [.ref x] ∧ H x = some (.ins C dx fs) ∧ fs.lookup (Str.ofString "cut") = some v ∧ Q v H
theorem ok_Breaker_thins (T : Top K mg) : FnG P w K mg base CX0 1 T.a_Breaker_thins T.d_Breaker_thins ["self"] (spCut T.a_Breaker) := by
  refine okG T.F_Breaker_thins sc_Breaker_thins (fun vs H Q E h => ?_) (fun cdv A outer s H vs Q E hr hgd h => ?_)
  · obtain ⟨x, dx, fs, v, rfl, _⟩ := h
    rfl
  · obtain ⟨x, dx, fs, v, rfl, hx, hl, q⟩ := h
    refine ⟨_, (pss_one (ps_ret (pe_fld (pv 0) rfl))), ?_⟩
    walk_at "rd"
    exact ⟨x, _, dx, fs, v, rfl, hx, T.cl_Breaker, T.na_Breaker_cut, hl, q⟩
def spLets (K : PySem.W.Frag) (cC : Addr) : Sp := fun vs H Q _ => ∃ (x C dx y dy : Addr) (fs gs : List (Str × V)) (d e : Int), vs = [.ref x, .ref y] ∧ H x = some (.ins C dx fs) ∧ Cls K C ∧ NoAttr K C "draught" ∧ fs.lookup (Str.ofString "draught") = some (.int d) ∧
  H y = some (.ins cC dy gs) ∧ gs.lookup (Str.ofString "depth") = some (.int e) ∧ Q (.bl (decide (e ≥ d))) H
theorem ok_Vessel_lets (T : Top K mg) : FnG P w K mg base CX0 1 T.a_Vessel_lets T.d_Vessel_lets ["self", "channel"] (spLets K T.a_Channel) := by
  refine okG T.F_Vessel_lets sc_Vessel_lets (fun vs H Q E h => ?_) (fun cdv A outer s H vs Q E hr hgd h => ?_)
  · obtain ⟨x, C, dx, y, dy, fs, gs, d, e, rfl, _⟩ := h
    rfl
  · obtain ⟨x, C, dx, y, dy, fs, gs, d, e, rfl, hx, cl, na, hl, hy, hg, q⟩ := h
    refine ⟨_, (pss_one (ps_ret (pe_cmpR op_ge (pe_fld (pv 1) rfl) (pe_fld (pv 0) rfl) (nomark _)))), ?_⟩
    walk_at "rd"
    refine ⟨y, _, dy, gs, _, rfl, hy, T.cl_Channel, T.na_Channel_depth, hg, ?_⟩
    walk_at "rd"
    refine ⟨x, _, dx, fs, _, rfl, hx, cl, na, hl, ?_⟩
    walk_at "rd"
    exact q
def spRowF (C : Addr) (g : List V → List (Str × V)) (n : Nat) : Sp := fun vs H Q _ => ∃ (x dx : Addr) (xs : List V), vs = [.ref x] ∧ xs.length = n ∧ H x = some (.ins C dx (g xs)) ∧ ∀ p H', New H p (.tup xs) H' → Q (.ref p) H'
theorem ok_Vessel_row (T : Top K mg) : FnG P w K mg base CX0 1 T.a_Vessel_row T.d_Vessel_row ["self"] (spRowF T.a_Vessel (fldK .v) 5) := by
  refine okG T.F_Vessel_row sc_Vessel_row (fun vs H Q E h => ?_) (fun cdv A outer s H vs Q E hr hgd h => ?_)
  · obtain ⟨x, dx, xs, rfl, _⟩ := h
    rfl
  · obtain ⟨x, dx, xs, rfl, hl, hx, q⟩ := h
    obtain ⟨n, p, h, s', d, rfl⟩ : ∃ n p h s d, xs = [n, p, h, s, d] := by
      match xs, hl with
      | [n, p, h, s', d], _ => exact ⟨n, p, h, s', d, rfl⟩
    have hx' : H x = some (.ins T.a_Vessel dx (fldV n p h s' d)) := hx
    refine ⟨_, (pss_one (ps_ret (pe_tup (pa_cons (pe_fld (pv 0) rfl) (pa_cons (pe_fld (pv 0) rfl) (pa_cons (pe_fld (pv 0) rfl) (pa_cons (pe_fld (pv 0) rfl) (pa_cons (pe_fld (pv 0) rfl) pa_nil)))))))), ?_⟩
    (have cl_Vessel := T.cl_Vessel; have na_Vessel_name := T.na_Vessel_name; have na_Vessel_port := T.na_Vessel_port; have na_Vessel_hour := T.na_Vessel_hour; have na_Vessel_strength := T.na_Vessel_strength; have na_Vessel_draught := T.na_Vessel_draught)
    walk_at "rd"
    (intro p hp; generalize ep : upd _ p _ = J; have N := New.of ep hp; clear ep hp)
    exact q p J N
theorem ok_Breaker_row (T : Top K mg) : FnG P w K mg base CX0 1 T.a_Breaker_row T.d_Breaker_row ["self"] (spRowF T.a_Breaker (fldK .b) 6) := by
  refine okG T.F_Breaker_row sc_Breaker_row (fun vs H Q E h => ?_) (fun cdv A outer s H vs Q E hr hgd h => ?_)
  · obtain ⟨x, dx, xs, rfl, _⟩ := h
    rfl
  · obtain ⟨x, dx, xs, rfl, hl, hx, q⟩ := h
    obtain ⟨n, p, h, s', d, c, rfl⟩ : ∃ n p h s d c, xs = [n, p, h, s, d, c] := by
      match xs, hl with
      | [n, p, h, s', d, c], _ => exact ⟨n, p, h, s', d, c, rfl⟩
    have hx' : H x = some (.ins T.a_Breaker dx (fldV n p h s' d ++ [(Str.ofString "cut", c)])) := hx
    refine ⟨_, (pss_one (ps_ret (pe_tup (pa_cons (pe_fld (pv 0) rfl) (pa_cons (pe_fld (pv 0) rfl) (pa_cons (pe_fld (pv 0) rfl) (pa_cons (pe_fld (pv 0) rfl) (pa_cons (pe_fld (pv 0) rfl) (pa_cons (pe_fld (pv 0) rfl) pa_nil))))))))), ?_⟩
    (have cl_Breaker := T.cl_Breaker; have na_Breaker_name := T.na_Breaker_name; have na_Breaker_port := T.na_Breaker_port; have na_Breaker_hour := T.na_Breaker_hour; have na_Breaker_strength := T.na_Breaker_strength; have na_Breaker_draught := T.na_Breaker_draught; have na_Breaker_cut := T.na_Breaker_cut)
    walk_at "rd"
    (intro p hp; generalize ep : upd _ p _ = J; have N := New.of ep hp; clear ep hp)
    exact q p J N
theorem ok_Ship_row (T : Top K mg) : FnG P w K mg base CX0 1 T.a_Ship_row T.d_Ship_row ["self"] (spRowF T.a_Ship (fldK .s) 6) := by
  refine okG T.F_Ship_row sc_Ship_row (fun vs H Q E h => ?_) (fun cdv A outer s H vs Q E hr hgd h => ?_)
  · obtain ⟨x, dx, xs, rfl, _⟩ := h
    rfl
  · obtain ⟨x, dx, xs, rfl, hl, hx, q⟩ := h
    obtain ⟨n, p, g, h, s', d, rfl⟩ : ∃ n p g h s d, xs = [n, p, g, h, s, d] := by
      match xs, hl with
      | [n, p, g, h, s', d], _ => exact ⟨n, p, g, h, s', d, rfl⟩
    have hx' : H x = some (.ins T.a_Ship dx (fldV n p h s' d ++ [(Str.ofString "goal", g)])) := hx
    refine ⟨_, (pss_one (ps_ret (pe_tup (pa_cons (pe_fld (pv 0) rfl) (pa_cons (pe_fld (pv 0) rfl) (pa_cons (pe_fld (pv 0) rfl) (pa_cons (pe_fld (pv 0) rfl) (pa_cons (pe_fld (pv 0) rfl) (pa_cons (pe_fld (pv 0) rfl) pa_nil))))))))), ?_⟩
    (have cl_Ship := T.cl_Ship; have na_Ship_name := T.na_Ship_name; have na_Ship_port := T.na_Ship_port; have na_Ship_hour := T.na_Ship_hour; have na_Ship_strength := T.na_Ship_strength; have na_Ship_draught := T.na_Ship_draught; have na_Ship_goal := T.na_Ship_goal)
    walk_at "rd"
    (intro p hp; generalize ep : upd _ p _ = J; have N := New.of ep hp; clear ep hp)
    exact q p J N

end
end Ice

set_option Elab.async false
set_option linter.all false
set_option maxRecDepth 100000
set_option maxHeartbeats 4000000
namespace Ice
open PySem PySem.Spec PyProof.Rows L2 TL
/-! side conditions, heaps, one step of a reading, and many -/
local macro_rules | `(tactic| walk_at "hp") => `(tactic| first | assumption | exact upd_same | exact New.at_ (by assumption) | (refine keepU ?_ (by assumption); walk_at "hp") | (refine New.app (by assumption) ?_; walk_at "hp") | (refine Same.app (by assumption) ?_; walk_at "hp") | (refine But.app (by assumption) (by assumption) ?_; walk_at "hp"))
local macro_rules | `(tactic| walk_at "sq") => `(tactic| first | assumption | exact SqL.lst (by walk_at "hp") | exact L2.Same.seq (New.same (by assumption)) (by assumption) | exact L2.Same.seq (by assumption) (by assumption))
local macro_rules | `(tactic| walk_at "len") => `(tactic| first | assumption | (simp only [List.length_cons, List.length_nil, List.length_append, List.length_map]; decide) | (refine Ice.sz_of ?_; simp only [List.length_cons, List.length_nil, List.length_append, List.length_map]; omega))
local macro_rules | `(tactic| walk_at "fresh") => `(tactic| (simp only [List.map_append, List.map_cons, List.map_nil, List.nil_append, List.cons_append]; decide +kernel))
local macro_rules | `(tactic| walk_at "sd") => `(tactic| first | assumption | (show _ ≠ _; omega) | exact Or.inl ⟨by omega, by omega⟩ | exact Or.inr ⟨by omega, by omega⟩ | exact ⟨by decide, by decide⟩ | exact ⟨by decide, by decide, by decide⟩ | exact ⟨by omega, by omega, by omega⟩)
/-! one step of a reading, and many -/
local macro_rules | `(tactic| walk_at "st") => `(tactic| first
  | with_reducible refine i_seq ?_
  | with_reducible refine i_if ?_
  | with_reducible refine i_next ?_
  | with_reducible refine i_ret ?_
  | with_reducible refine i_retN ?_
  | with_reducible refine i_drop ?_
  | with_reducible refine i_asg ?_
  | with_reducible refine i_gname ?_
  | with_reducible refine i_gsub ?_
  | ((with_reducible refine i_var (v := ?vv) ?hv ?_); (case hv => exact rfl))
  | with_reducible refine i_c ?_
  | with_reducible refine i_op ?_
  | with_reducible refine i_un ?_
  | with_reducible refine i_test ?_
  | with_reducible refine i_tB ?_
  | with_reducible refine i_and ?_
  | with_reducible refine i_or ?_
  | with_reducible refine i_not ?_
  | with_reducible refine i_andV ?_
  | with_reducible refine i_orV ?_
  | with_reducible refine i_notV ?_
  | with_reducible refine i_ifE ?_
  | with_reducible refine i_chain ?_
  | with_reducible refine i_bl ?_
  | with_reducible refine i_nil ?_
  | with_reducible refine i_cons ?_
  | with_reducible refine i_call ?_
  | with_reducible refine i_cb ?_
  | with_reducible refine i_rI0 ?_
  | with_reducible refine i_rU ?_
  | ((with_reducible refine i_rEq ?hs ?_); (case hs => exact rfl))
  | ((with_reducible refine i_rNe ?hs ?_); (case hs => exact rfl))
  | ((with_reducible refine i_rI ?hc ?_); (case hc => walk_at "sd"))
  | ((with_reducible refine i_ixL (xs := ?xs) (v := ?vv) ?hS ?he ?_); (case hS => walk_at "sq"); (case he => exact rfl))
  | ((with_reducible refine i_setL (xs := ?xs) (j := ?jj) ?hS ?he ?_); (case hS => walk_at "hp"); (case he => exact rfl))
  | with_reducible refine i_tup ?_
  | with_reducible refine i_lst ?_
  | with_reducible refine i_bm ?_
  | with_reducible refine i_bm0 ?_
  | with_reducible refine i_m1 ?_
  | with_reducible refine i_sl ?_
  | with_reducible refine i_nopart ?_
  | with_reducible refine i_part ?_
  | with_reducible refine i_int ?_
  | with_reducible refine i_str ?_
  | with_reducible refine i_for ?_
  | with_reducible refine i_yes ?_
  | ((with_reducible refine i_lenL (xs := ?xs) ?hS ?_); (case hS => walk_at "sq"))
  | ((with_reducible refine i_room ?hz ?_); (case hz => walk_at "len"))
  | with_reducible refine i_leT ?_
  | with_reducible refine i_notInS ?_
  | with_reducible refine i_inS ?_
  | with_reducible refine i_find ?_
  | with_reducible refine i_isB ?_
  | with_reducible refine i_max2 ?_
  | with_reducible refine i_min2 ?_
  | with_reducible exact trivial
  | with_reducible refine iteT ?_
  | with_reducible refine iteF ?_
  | with_reducible refine i_isstr ?_
  | with_reducible refine i_lc ?_
  | ((with_reducible refine i_cat (xs := ?xs) (zs := ?zs) ?ha ?hb ?hz ?_); (case ha => walk_at "hp"); (case hb => walk_at "hp"); (case hz => walk_at "len"))
  | ((with_reducible refine i_tyL (xs := ?xs) ?ha ?_); (case ha => walk_at "hp"))
  | with_reducible refine i_list ?_
  | with_reducible refine i_disp ?_
  | with_reducible refine i_pairs0 ?_
  | with_reducible refine i_pairs ?_
  | with_reducible refine i_newK ?_
  | with_reducible refine i_gcons ?_
  | with_reducible refine i_gnil ?_
  | with_reducible refine i_revL ?_
  | with_reducible refine i_rng1 ?_
  | ((with_reducible refine i_wipe ?hw ?_); (case hw => exact rfl))
  | with_reducible refine iteNT ?_
  | with_reducible refine iteNF ?_)
local macro_rules | `(tactic| walk_at "sx") => `(tactic| first
  | walk_at "st"
  | with_reducible refine i_kinit ?_
  | with_reducible refine i_ost ?_
  | with_reducible refine i_mkO ?_
  | with_reducible refine i_callE ?_
  | with_reducible refine i_makeE ?_
  | with_reducible refine i_xf ?_
  | with_reducible refine i_sfld ?_
  | with_reducible refine i_fld ?_
  | ((with_reducible refine i_ixT (xs := ?xs) (v := ?vv) ?hS ?he ?_); (case hS => exact SqT.tup (by walk_at "hp")); (case he => exact rfl))
  | with_reducible refine i_intB ?_
  | with_reducible refine i_runS ?_
  | with_reducible refine i_runN ?_
  | ((with_reducible refine i_xf1 (fs := ?ff) (v := ?vv) ?hx ?hl ?_); (case hx => walk_at "hp"); (case hl => exact rfl))
  | with_reducible refine i_methE ?_
  | with_reducible refine i_meth ?_
  | with_reducible refine i_make ?_
  | ((with_reducible refine i_obj (dx := ?dd) (fs := ?ff) ?hx ?hl ?_); (case hx => walk_at "hp"); (case hl => exact rfl))
  | ((with_reducible refine i_fld1 (C := ?CC) (dx := ?dd) (fs := ?ff) (v := ?vv) ?hx ?cl ?na ?hl ?_); (case hx => walk_at "hp"); (case cl => assumption); (case na => assumption); (case hl => exact rfl)))
local macro_rules | `(tactic| walk_at "rd") => `(tactic| repeat (walk_at "sx"))

section
variable {P : Program} {w : World} {K : PySem.W.Frag} {mg : Str → Option Value} {base : Heap}
/-- a drawn number -/
def spDraw : Sp := fun vs H Q _ => ∃ (b : Addr) (lo hi : Int) (n : Nat), vs = [.ref b, .int lo, .int hi] ∧ Box H b n ∧ n ≤ 800 ∧ 0 ≤ lo ∧ lo ≤ hi ∧ hi ≤ 10 ^ 20 ∧ ∀ (d : Int) (H' : Hp), lo ≤ d → d ≤ hi → But b H H' → Box H' b (n + 2) → Q (.int d) H'
theorem ok_number (T : Top K mg) : FnG P w K mg base CX0 2 T.a_number T.d_number ["_law_box_here", "_law_low", "_law_high"] spDraw := by
  have G_take := ok_take (P := P) (w := w) (base := base) T
  refine okG T.F_number sc_number (fun vs H Q E h => ?_) (fun cdv A outer s H vs Q E hr hgd h => ?_)
  · obtain ⟨b, lo, hi, n, rfl, _⟩ := h
    rfl
  · obtain ⟨b, lo, hi, n, rfl, hB, hn, h0, h1, h2, q⟩ := h
    refine ⟨_, (pss_cons (ps_set (i := 3) sc_number.nd rfl (by first | exact Or.inl rfl | exact Or.inr rfl) (g_call G_take (hr.mono (by decide)) hgd (by rfl) T.m_take T.F_take.kp T.b_take .nil pass0 (pa_cons (pv 0) (pa_cons pe_int pa_nil))))
      (pss_cons (ps_if (pt_cmpR op_lt (pv 3) pe_int (nomark _))
        (pss_one (ps_ret (pe_ix ix_list (pe_lst (pa_cons (pv 1) (pa_cons (pv 2) pa_nil))) (pv 3) (fun _ _ => rfl))))
        pss_nil)
      (pss_one (ps_ret (pe_op op_add (pv 1) (g_call G_take (hr.mono (by decide)) hgd (by rfl) T.m_take T.F_take.kp T.b_take .nil pass0 (pa_cons (pv 0) (pa_cons (pe_ix ix_list (pe_lst (pa_cons (pe_callB (c_min2) (by rfl) T.n_min (by decide +kernel) (pa_cons pe_int (pa_cons (pe_op op_add (pe_op op_sub (pv 2) (pv 1)) pe_int) pa_nil))) (pa_cons (pe_op op_add (pe_op op_sub (pv 2) (pv 1)) pe_int) pa_nil))) (pe_op op_modN (pv 3) pe_int) (fun _ _ => rfl)) pa_nil)))))))), ?_⟩
    walk_at "rd"
    refine ⟨b, 5, n, rfl, hB, by omega, by decide, by decide, fun way H1 w0 w1 e1 B1 => ?_⟩
    walk_at "rd"
    refine ifs (fun hc => ?_) (fun hc => ?_)
    · simp only [decide_eq_true_eq] at hc
      walk_at "rd"
      (intro p hp; generalize ep : upd _ p _ = J; have N := New.of ep hp; clear ep hp)
      walk_at "rd"
      obtain ⟨v, hv, hm, _⟩ := atI_some (xs := [V.int lo, V.int hi]) w0 (by simpa using hc)
      refine i_ixL (SqL.lst N.at_) hv ?_
      simp only [List.mem_cons, List.not_mem_nil, or_false] at hm
      rcases hm with rfl | rfl
      · exact q _ _ (by omega) h1 (e1.trans N.but) ((B1.nw N).mono (by omega))
      · exact q _ _ h1 (by omega) (e1.trans N.but) ((B1.nw N).mono (by omega))
    · walk_at "rd"
      (intro p hp; generalize ep : upd _ p _ = J; have N := New.of ep hp; clear ep hp)
      walk_at "rd"
      generalize hm1 : (if hi - lo + 1 < 10 then hi - lo + 1 else (10 : Int)) = m1
      have m1b : 1 ≤ m1 ∧ m1 ≤ hi - lo + 1 := by rw [← hm1]; split <;> omega
      obtain ⟨v, hv, hm, _⟩ := atI_some (xs := [V.int m1, V.int (hi - lo + 1)]) (i := Int.fmod way 2) (Int.fmod_nonneg_of_pos _ (by decide)) (by simpa using Int.fmod_lt_of_pos way (by decide : (0:Int) < 2))
      obtain ⟨m, rfl, mb⟩ : ∃ m : Int, v = .int m ∧ 1 ≤ m ∧ m ≤ hi - lo + 1 := by
        simp only [List.mem_cons, List.not_mem_nil, or_false] at hm
        rcases hm with rfl | rfl
        · exact ⟨_, rfl, m1b⟩
        · exact ⟨_, rfl, by omega, by omega⟩
      rw [← hm1] at hv
      refine i_ixL (SqL.lst N.at_) hv ?_
      walk_at "rd"
      refine ⟨b, m, n + 1, rfl, B1.nw N, by omega, by omega, by omega, fun d H2 d0 d1 e2 B2 => ?_⟩
      walk_at "rd"
      exact q _ _ (by omega) (by omega) (e1.trans (N.but.trans e2)) (B2.mono (by omega))
/-- drawn names, unlike -/
theorem letters_len : (Str.ofString "abcdefghijklmnopqrstuvwxyz").length = 26 := by decide +kernel
def Low (c : Nat) : Prop := 97 ≤ c ∧ c ≤ 122
theorem low_all : ∀ c ∈ tl (Str.ofString "abcdefghijklmnopqrstuvwxyz"), Low c := by
  intro c hc
  rw [show tl (Str.ofString "abcdefghijklmnopqrstuvwxyz") = List.range' 97 26 by decide +kernel, List.mem_range'_1] at hc
  exact ⟨by omega, by omega⟩
theorem letter_at {d : Int} (h0 : 0 ≤ d) (h1 : d < 26) : atI (Str.ofString "abcdefghijklmnopqrstuvwxyz").cps.toList d = some (97 + d.toNat) := by
  obtain ⟨k, rfl⟩ := Int.eq_ofNat_of_zero_le h0
  have hk : k < 26 := by omega
  refine atI_nat ?_
  rw [show (Str.ofString "abcdefghijklmnopqrstuvwxyz").cps.toList = List.range' 97 26 by decide +kernel, List.getElem?_range' (by omega)]
  simp
/-- a comprehension over a range whose element changes nothing -/
theorem lc_map {n : Nat} {f : Nat → V} {g : TG} {tt : TT} {te : TE} {vs : List Nat} {σ : L2.St} {H1 : Hp} {D : Addr} {Qd : Hp → Prop} (hD : H1 D = none) (hz : n ≤ 1000)
    (hs : ∀ i H (N : V → Hp → Prop) (M : Hp → Prop), i < n → N (f i) H → g (.int (0 + i)) (wipe σ vs) H fun σ2 H2 => wipe σ2 vs = wipe σ vs ∧ tt σ2 H2 fun b H3 => if b = true then te σ2 H3 N else M H3)
    (hd : Qd (upd H1 D (.lst ((List.range n).map f)))) :
    ∃ W : Nat → Nat → Hp → Prop, (∃ m, W 0 m (upd H1 D (.lst []))) ∧ ∀ i m H, W i m H →
      ((Itr 0 n).stop i H ∧ Qd H) ∨ ((Itr 0 n).go i H ∧ ∃ Nx : Hp → Prop, (∀ H', Nx H' → ∃ m', m' < m ∧ W (i + 1) m' H') ∧ ∀ x H', (Itr 0 n).yld i H x H' → g x (wipe σ vs) H' fun σ2 H2 => wipe σ2 vs = wipe σ vs ∧ tt σ2 H2 fun b H3 =>
        if b = true then te σ2 H3 fun y H4 => ∃ acc, H4 D = some (.lst acc) ∧ acc.length < sizeLine ∧ Nx (upd H4 D (.lst (acc ++ [y]))) else Nx H3) := by
  refine lc_range (lo := 0) (n := n) (fun i H' => H' = upd H1 D (.lst ((List.range i).map f))) rfl ?_ ?_
  · rintro i H' hi rfl
    refine hs i _ _ _ hi ⟨_, upd_same, by simp; exact small1000 (by omega), ?_⟩
    rw [upd_upd, List.range_succ, List.map_append]
    rfl
  · rintro H' rfl
    exact hd
def spNamesD : Sp := fun vs H Q _ => ∃ (b : Addr) (M n : Nat), vs = [.ref b, .int M] ∧ Box H b n ∧ n ≤ 800 ∧ M ≤ 26 ∧
  ∀ (p : Addr) (xs : List Str) (H' : Hp), H p = none → But b H H' → Box H' b (n + 12) → H' p = some (.lst (xs.map V.str)) → xs.length = M → xs.Nodup → (∀ x ∈ xs, isN (.str x) = true) → Q (.ref p) H'
theorem nodup_map {f : Nat → Str} {n : Nat} (h : ∀ i j, i < n → j < n → f i = f j → i = j) : ((List.range n).map f).Nodup := by
  rw [List.nodup_iff_pairwise_ne, List.pairwise_map]
  refine List.Pairwise.imp_of_mem (fun {a b} ha hb n e => n (h a b (List.mem_range.mp ha) (List.mem_range.mp hb) e)) (List.nodup_iff_pairwise_ne.mp List.nodup_range)
theorem low_name {x : Str} (h1 : 1 ≤ x.length) (h2 : x.length ≤ 8) (h : ∀ c ∈ tl x, Low c) : isN (.str x) = true := decide_eq_true ⟨h1, h2, h⟩
theorem cut0 {x : Str} (hx : x.length = 8) {z : Int} (hz : 0 ≤ z) : (cutS x none (some (1 + z.fmod 8))).length = 1 + (z % 8).toNat := by
  rw [Int.fmod_eq_emod_of_nonneg _ (by decide)]
  obtain ⟨k, hk⟩ := Int.eq_ofNat_of_zero_le (show 0 ≤ 1 + z % 8 by omega)
  rw [hk, len_cut_to]; omega
theorem cut_len (x : Str) (a e : Nat) : (cutS x (some (a : Int)) (some ((a : Int) + (e : Int)))).length ≤ e ∧ (cutS x (some (a : Int)) (some ((a : Int) + (e : Int)))).length ≤ x.length - a := by
  rw [← tl_len, show ((a : Int) + (e : Int)) = ((a + e : Nat) : Int) by simp, tl_cut, HT.sIx_nat, HT.sIx_nat, List.length_take, List.length_drop, tl_len]
  have : x.cps.size = x.length := rfl
  omega
theorem mid_eq {x y : Str} {a i j : Nat} (ha : a ≤ x.length) (h : (cutS x none (some (a : Int)) ++ (⟨#[97 + i]⟩ : Str)) ++ y = (cutS x none (some (a : Int)) ++ (⟨#[97 + j]⟩ : Str)) ++ y) : i = j := by
  have key : ∀ c, (tl ((cutS x none (some (a : Int)) ++ (⟨#[c]⟩ : Str)) ++ y))[a]? = some c := by
    intro c
    rw [tl_append, tl_append, tl_cut_to, List.append_assoc, List.getElem?_append_right (by simp [tl_len]; omega), List.length_take, tl_len, Nat.min_eq_left ha, Nat.sub_self]
    rfl
  have e := (key (97 + i)).symm.trans ((congrArg (fun z => (tl z)[a]?) h).trans (key (97 + j)))
  have : 97 + i = 97 + j := by simpa using e
  omega
theorem step_inj {step first : Int} {i j : Nat} (hs : step = 1 ∨ step = 3 ∨ step = 5 ∨ step = 7 ∨ step = 9 ∨ step = 11) (f0 : 0 ≤ first) (hi : i < 26) (hj : j < 26)
    (e : ((first + step * (0 + (i : Int))).fmod 26).toNat = ((first + step * (0 + (j : Int))).fmod 26).toNat) : i = j := by
  rw [Int.fmod_eq_emod_of_nonneg _ (by decide), Int.fmod_eq_emod_of_nonneg _ (by decide)] at e
  rcases hs with rfl | rfl | rfl | rfl | rfl | rfl <;> omega
theorem ok_names (T : Top K mg) : FnG P w K mg base CX0 2 T.a_names T.d_names ["_law_box_here", "_law_many"] spNamesD := by
  have G_take := ok_take (P := P) (w := w) (base := base) T
  refine okG T.F_names sc_names (fun vs H Q E h => ?_) (fun cdv A outer s H vs Q E hr hgd h => ?_)
  · obtain ⟨b, M, n, rfl, _⟩ := h
    rfl
  · obtain ⟨b, M, n, rfl, hB, hn, hM, q⟩ := h
    refine ⟨_, (pss_cons (ps_set (i := 2) sc_names.nd rfl (by first | exact Or.inl rfl | exact Or.inr rfl) pe_str)
      (pss_cons (ps_set (i := 3) sc_names.nd rfl (by first | exact Or.inl rfl | exact Or.inr rfl) (g_call G_take (hr.mono (by decide)) hgd (by rfl) T.m_take T.F_take.kp T.b_take .nil pass0 (pa_cons (pv 0) (pa_cons pe_int pa_nil))))
      (pss_cons (ps_set (i := 4) sc_names.nd rfl (by first | exact Or.inl rfl | exact Or.inr rfl) (g_call G_take (hr.mono (by decide)) hgd (by rfl) T.m_take T.F_take.kp T.b_take .nil pass0 (pa_cons (pv 0) (pa_cons pe_int pa_nil))))
      (pss_cons (ps_set (i := 5) sc_names.nd rfl (by first | exact Or.inl rfl | exact Or.inr rfl) (pe_ix ix_list (pe_lst (pa_cons pe_int (pa_cons pe_int (pa_cons pe_int (pa_cons pe_int (pa_cons pe_int (pa_cons pe_int pa_nil))))))) (g_call G_take (hr.mono (by decide)) hgd (by rfl) T.m_take T.F_take.kp T.b_take .nil pass0 (pa_cons (pv 0) (pa_cons pe_int pa_nil))) (fun _ _ => rfl)))
      (pss_cons (ps_set (i := 6) sc_names.nd rfl (by first | exact Or.inl rfl | exact Or.inr rfl) (g_call G_take (hr.mono (by decide)) hgd (by rfl) T.m_take T.F_take.kp T.b_take .nil pass0 (pa_cons (pv 0) (pa_cons pe_int pa_nil))))
      (pss_cons (ps_set (i := 7) sc_names.nd rfl (by first | exact Or.inl rfl | exact Or.inr rfl) (pe_op op_add (pv 6) (g_call G_take (hr.mono (by decide)) hgd (by rfl) T.m_take T.F_take.kp T.b_take .nil pass0 (pa_cons (pv 0) (pa_cons (pe_op op_sub pe_int (pv 6)) pa_nil)))))
      (pss_cons (ps_set (i := 8) sc_names.nd rfl (by first | exact Or.inl rfl | exact Or.inr rfl) (pe_m1 PySem.F.slot_str_join PySem.F.type_str_join m_join pe_str (pe_lc (own := [("_law_k", 9)]) (g := gName 9) rfl sc_names.nd (pi_range1 (by rfl) T.n_range (pa_cons pe_int pa_nil)) (blkOk_by (own := [("_law_k", 9)]) (N := ["_law_box_here", "_law_many", "_law_letters", "_law_way", "_law_first", "_law_step", "_law_at", "_law_size", "_law_stem", "_law_k"]) (sc := defScope s_names) (by decide +kernel)) (fun _ _ _ _ _ => (pg_name (i := 9) sc_names.nd rfl (by first | exact Or.inl rfl | exact Or.inr rfl))) (fun _ _ _ _ _ => pts_nil) (fun _ _ _ _ _ => (pe_ix ix_str (pv 2) (g_call G_take (hr.mono (by decide)) hgd (by rfl) T.m_take T.F_take.kp T.b_take .nil pass0 (pa_cons (pv 0) (pa_cons pe_int pa_nil))) (fun _ _ => rfl))))))
      (pss_cons (ps_if (PW.pt (pw_and (pt_cmpR op_eq (pv 3) pe_int (nomark _)) (pw_and1 (pt_cmpR op_lt (pv 1) pe_int (nomark _)))))
        (pss_one (ps_ret (pe_lc (own := [("_law_k", 9)]) (g := gName 9) rfl sc_names.nd (pi_range1 (by rfl) T.n_range (pa_cons (pv 1) pa_nil)) (blkOk_by (own := [("_law_k", 9)]) (N := ["_law_box_here", "_law_many", "_law_letters", "_law_way", "_law_first", "_law_step", "_law_at", "_law_size", "_law_stem", "_law_k"]) (sc := defScope s_names) (by decide +kernel)) (fun _ _ _ _ _ => (pg_name (i := 9) sc_names.nd rfl (by first | exact Or.inl rfl | exact Or.inr rfl))) (fun _ _ _ _ _ => pts_nil) (fun _ _ _ _ _ => (pe_slice sl_str (pe_op o_addT (pe_ix ix_str (pv 2) (pv 4) (fun _ _ => rfl)) (pv 8)) po_none (po_some (pe_op op_add pe_int (pe_op op_modN (pe_op op_add (pv 4) (pe_op op_mul pe_int (pv 9))) pe_int))))))))
        pss_nil)
      (pss_one (ps_ret (pe_lc (own := [("_law_k", 9)]) (g := gName 9) rfl sc_names.nd (pi_range1 (by rfl) T.n_range (pa_cons (pv 1) pa_nil)) (blkOk_by (own := [("_law_k", 9)]) (N := ["_law_box_here", "_law_many", "_law_letters", "_law_way", "_law_first", "_law_step", "_law_at", "_law_size", "_law_stem", "_law_k"]) (sc := defScope s_names) (by decide +kernel)) (fun _ _ _ _ _ => (pg_name (i := 9) sc_names.nd rfl (by first | exact Or.inl rfl | exact Or.inr rfl))) (fun _ _ _ _ _ => pts_nil) (fun _ _ _ _ _ => (pe_op o_addT (pe_op o_addT (pe_slice sl_str (pv 8) po_none (po_some (pv 6))) (pe_ix ix_str (pv 2) (pe_op op_modN (pe_op op_add (pv 4) (pe_op op_mul (pv 5) (pv 9))) pe_int) (fun _ _ => rfl))) (pe_slice sl_str (pv 8) (po_some (pv 6)) (po_some (pv 7)))))))))))))))), ?_⟩
    walk_at "rd"
    refine ⟨b, 3, n, rfl, hB, by omega, by decide, by decide, fun way H1 w0 w1 e1 B1 => ?_⟩
    walk_at "rd"
    refine ⟨b, 26, n + 1, rfl, B1, by omega, by decide, by decide, fun first H2 f0 f1 e2 B2 => ?_⟩
    walk_at "rd"
    (intro p hp; generalize ep : upd _ p _ = J; have N := New.of ep hp; clear ep hp)
    walk_at "rd"
    refine ⟨b, 6, n + 2, rfl, B2.nw N, by omega, by decide, by decide, fun d3 H3 d30 d31 e3 B3 => ?_⟩
    obtain ⟨v, hv, hm, _⟩ := atI_some (xs := [V.int 1, V.int 3, V.int 5, V.int 7, V.int 9, V.int 11]) d30 (by simpa using d31)
    refine i_ixL (SqL.lst (e3 p _ (B2.off N) N.at_)) hv ?_
    obtain ⟨step, rfl, hs⟩ : ∃ s : Int, v = .int s ∧ (s = 1 ∨ s = 3 ∨ s = 5 ∨ s = 7 ∨ s = 9 ∨ s = 11) := by
      simp only [List.mem_cons, List.not_mem_nil, or_false] at hm
      rcases hm with h | h | h | h | h | h
      all_goals exact ⟨_, h, by decide⟩
    walk_at "rd"
    refine ⟨b, 4, n + 3, rfl, B3, by omega, by decide, by decide, fun at_ H4 a0 a1 e4 B4 => ?_⟩
    walk_at "rd"
    refine ⟨b, 8 - at_, n + 4, rfl, B4, by omega, by omega, by omega, fun d5 H5 d50 d51 e5 B5 => ?_⟩
    walk_at "rd"
    refine ⟨7, rfl, by decide, by decide, fun D hD => ?_⟩
    refine lc_draw (P := Low) B5 hD (by decide) ?_ (fun i H N M h => ⟨h.1, h.2⟩) ?_
    · intro i H' hi e6 B6 N hN
      walk_at "rd"
      refine ⟨b, 26, _, rfl, B6, by omega, by decide, by decide, fun d H7 d0 d1 e7 B7 => ?_⟩
      obtain ⟨c, hc, pc⟩ := sign_at (P := Low) (x := Str.ofString "abcdefghijklmnopqrstuvwxyz") d0 (by rw [letters_len]; exact d1) low_all
      exact i_ixS (by decide +kernel) hc (hN c _ pc e7 B7)
    · intro acc H6 e6 B6 hA hl h1
      refine join_draw (e := Str.ofString "") (by decide +kernel) hA (by omega) h1 fun stem slen sall => ?_
      rw [hl] at slen
      have e06 : But b H H6 := e1.trans (e2.trans (N.but.trans (e3.trans (e4.trans (e5.trans e6)))))
      walk_at "rd"
      have sb : 1 ≤ step ∧ step ≤ 11 := by omega
      obtain ⟨sb0, sb1⟩ := sb
      obtain ⟨a, rfl⟩ := Int.eq_ofNat_of_zero_le a0
      obtain ⟨e, rfl⟩ := Int.eq_ofNat_of_zero_le d50
      refine ifs (fun h1 => ?_) (fun h1 => ?_)
      focus (walk_at "rd"; refine ifs (fun h2 => ?_) (fun h2 => ?_))
      focus
        (walk_at "rd"
         refine ⟨M, rfl, by omega, by omega, fun D2 hD2 => ?_⟩
         have b2 := B6.ne hD2
         have l8 : ((⟨#[97 + first.toNat]⟩ : Str) ++ stem).length = 8 := by rw [len_add, slen]; rfl
         have h2' : M < 9 := by have := of_decide_eq_true h2; omega
         refine lc_map (f := fun k => V.str (cutS ((⟨#[97 + first.toNat]⟩ : Str) ++ stem) none (some (1 + (first + 3 * (0 + (k : Int))).fmod 8)))) hD2 (by omega) ?_ ?_
         · intro i H9 N9 M9 hi hN
           have hi' : i < M := by simpa using hi
           walk_at "rd"
           refine i_ixS (by decide +kernel) (letter_at f0 f1) ?_
           walk_at "rd"
           refine i_addT (sz_of (by rw [slen]; show 1 + 7 ≤ _; decide)) ?_
           walk_at "rd"
           refine i_slS (sz_of (by rw [l8]; decide)) ?_
           exact hN
         · refine q D2 ((List.range (M : Int).toNat).map fun (k : Nat) => cutS ((⟨#[97 + first.toNat]⟩ : Str) ++ stem) none (some (1 + (first + 3 * (0 + (k : Int))).fmod 8))) _ (e06.free b2 hD2) (e06.trans (But.new _ hD2)) ((B6.new hD2).mono (by omega)) (by rw [upd_same, List.map_map]; rfl) (by simp) ?_ ?_
           · refine nodup_map fun i j hi hj e => ?_
             have hi' : i < M := by simpa using hi
             have hj' : j < M := by simpa using hj
             have e2 := congrArg Str.length e
             rw [cut0 l8 (by omega), cut0 l8 (by omega)] at e2
             omega
           · intro x hx
             obtain ⟨k, hk, rfl⟩ := List.mem_map.mp hx
             refine low_name (by rw [cut0 l8 (by omega)]; omega) (by rw [cut0 l8 (by omega)]; omega) (cut_all (add_all (one_all ⟨by omega, by omega⟩) sall)))
      all_goals
        (walk_at "rd"
         refine ⟨M, rfl, by omega, by omega, fun D2 hD2 => ?_⟩
         have b2 := B6.ne hD2
         refine lc_map (f := fun k => V.str ((cutS stem none (some (a : Int)) ++ (⟨#[97 + ((first + step * (0 + (k : Int))).fmod 26).toNat]⟩ : Str)) ++ cutS stem (some (a : Int)) (some ((a : Int) + (e : Int))))) hD2 (by omega) ?_ ?_
         · intro i H9 N9 M9 hi hN
           have hi' : i < M := by simpa using hi
           walk_at "rd"
           refine i_slS (sz_of (by omega)) ?_
           walk_at "rd"
           refine i_ixS (by decide +kernel) (letter_at (Int.fmod_nonneg_of_pos _ (by decide)) (Int.fmod_lt_of_pos _ (by decide))) ?_
           have l1 := len_cut_to stem a
           refine i_addT (sz_of (by rw [l1]; show _ + 1 ≤ _; omega)) ?_
           walk_at "rd"
           refine i_slS (sz_of (by omega)) ?_
           have l2 := cut_len stem a e
           refine i_addT (sz_of (by rw [len_add, l1]; show (_ + 1) + _ ≤ _; omega)) ?_
           exact hN
         · refine q D2 ((List.range (M : Int).toNat).map fun (k : Nat) => ((cutS stem none (some (a : Int)) ++ (⟨#[97 + ((first + step * (0 + (k : Int))).fmod 26).toNat]⟩ : Str)) ++ cutS stem (some (a : Int)) (some ((a : Int) + (e : Int))))) _ (e06.free b2 hD2) (e06.trans (But.new _ hD2)) ((B6.new hD2).mono (by omega)) (by rw [upd_same, List.map_map]; rfl) (by simp) ?_ ?_
           · refine nodup_map fun i j hi hj e => ?_
             have hi' : i < M := by simpa using hi
             have hj' : j < M := by simpa using hj
             have e2 := mid_eq (by rw [slen]; omega) e
             exact step_inj hs f0 (by omega) (by omega) e2
           · intro x hx
             obtain ⟨k, hk, rfl⟩ := List.mem_map.mp hx
             have l1 := len_cut_to stem a
             have l2 := cut_len stem a e
             have fl := Int.fmod_lt_of_pos (first + step * (0 + (k : Int))) (by decide : (0 : Int) < 26)
             refine low_name ?_ ?_ (add_all (add_all (cut_all sall) (one_all ⟨by omega, by omega⟩)) (cut_all sall))
             · rw [len_add, len_add, l1]; show 1 ≤ (_ + 1) + _; omega
             · rw [len_add, len_add, l1]; show (_ + 1) + _ ≤ 8; omega)
end

end Ice

set_option Elab.async false
set_option linter.all false
set_option maxRecDepth 100000
set_option maxHeartbeats 4000000
namespace Ice
open PySem PySem.Spec PyProof.Rows L2 TL
/-! side conditions, heaps, one step of a reading, and many -/
local macro_rules | `(tactic| walk_at "hp") => `(tactic| first | assumption | exact upd_same | exact New.at_ (by assumption) | (refine keepU ?_ (by assumption); walk_at "hp") | (refine New.app (by assumption) ?_; walk_at "hp") | (refine Same.app (by assumption) ?_; walk_at "hp") | (refine But.app (by assumption) (by assumption) ?_; walk_at "hp"))
local macro_rules | `(tactic| walk_at "sq") => `(tactic| first | assumption | exact SqL.lst (by walk_at "hp") | exact L2.Same.seq (New.same (by assumption)) (by assumption) | exact L2.Same.seq (by assumption) (by assumption))
local macro_rules | `(tactic| walk_at "len") => `(tactic| first | assumption | (simp only [List.length_cons, List.length_nil, List.length_append, List.length_map]; decide) | (refine Ice.sz_of ?_; simp only [List.length_cons, List.length_nil, List.length_append, List.length_map]; omega))
local macro_rules | `(tactic| walk_at "fresh") => `(tactic| (simp only [List.map_append, List.map_cons, List.map_nil, List.nil_append, List.cons_append]; decide +kernel))
local macro_rules | `(tactic| walk_at "sd") => `(tactic| first | assumption | (show _ ≠ _; omega) | exact Or.inl ⟨by omega, by omega⟩ | exact Or.inr ⟨by omega, by omega⟩ | exact ⟨by decide, by decide⟩ | exact ⟨by decide, by decide, by decide⟩ | exact ⟨by omega, by omega, by omega⟩)
/-! one step of a reading, and many -/
local macro_rules | `(tactic| walk_at "st") => `(tactic| first
  | with_reducible refine i_seq ?_
  | with_reducible refine i_if ?_
  | with_reducible refine i_next ?_
  | with_reducible refine i_ret ?_
  | with_reducible refine i_retN ?_
  | with_reducible refine i_drop ?_
  | with_reducible refine i_asg ?_
  | with_reducible refine i_gname ?_
  | with_reducible refine i_gsub ?_
  | ((with_reducible refine i_var (v := ?vv) ?hv ?_); (case hv => exact rfl))
  | with_reducible refine i_c ?_
  | with_reducible refine i_op ?_
  | with_reducible refine i_un ?_
  | with_reducible refine i_test ?_
  | with_reducible refine i_tB ?_
  | with_reducible refine i_and ?_
  | with_reducible refine i_or ?_
  | with_reducible refine i_not ?_
  | with_reducible refine i_andV ?_
  | with_reducible refine i_orV ?_
  | with_reducible refine i_notV ?_
  | with_reducible refine i_ifE ?_
  | with_reducible refine i_chain ?_
  | with_reducible refine i_bl ?_
  | with_reducible refine i_nil ?_
  | with_reducible refine i_cons ?_
  | with_reducible refine i_call ?_
  | with_reducible refine i_cb ?_
  | with_reducible refine i_rI0 ?_
  | with_reducible refine i_rU ?_
  | ((with_reducible refine i_rEq ?hs ?_); (case hs => exact rfl))
  | ((with_reducible refine i_rNe ?hs ?_); (case hs => exact rfl))
  | ((with_reducible refine i_rI ?hc ?_); (case hc => walk_at "sd"))
  | ((with_reducible refine i_ixL (xs := ?xs) (v := ?vv) ?hS ?he ?_); (case hS => walk_at "sq"); (case he => exact rfl))
  | ((with_reducible refine i_setL (xs := ?xs) (j := ?jj) ?hS ?he ?_); (case hS => walk_at "hp"); (case he => exact rfl))
  | with_reducible refine i_tup ?_
  | with_reducible refine i_lst ?_
  | with_reducible refine i_bm ?_
  | with_reducible refine i_bm0 ?_
  | with_reducible refine i_m1 ?_
  | with_reducible refine i_sl ?_
  | with_reducible refine i_nopart ?_
  | with_reducible refine i_part ?_
  | with_reducible refine i_int ?_
  | with_reducible refine i_str ?_
  | with_reducible refine i_for ?_
  | with_reducible refine i_yes ?_
  | ((with_reducible refine i_lenL (xs := ?xs) ?hS ?_); (case hS => walk_at "sq"))
  | ((with_reducible refine i_room ?hz ?_); (case hz => walk_at "len"))
  | with_reducible refine i_leT ?_
  | with_reducible refine i_notInS ?_
  | with_reducible refine i_inS ?_
  | with_reducible refine i_find ?_
  | with_reducible refine i_isB ?_
  | with_reducible refine i_max2 ?_
  | with_reducible refine i_min2 ?_
  | with_reducible exact trivial
  | with_reducible refine iteT ?_
  | with_reducible refine iteF ?_
  | with_reducible refine i_isstr ?_
  | with_reducible refine i_lc ?_
  | ((with_reducible refine i_cat (xs := ?xs) (zs := ?zs) ?ha ?hb ?hz ?_); (case ha => walk_at "hp"); (case hb => walk_at "hp"); (case hz => walk_at "len"))
  | ((with_reducible refine i_tyL (xs := ?xs) ?ha ?_); (case ha => walk_at "hp"))
  | with_reducible refine i_list ?_
  | with_reducible refine i_disp ?_
  | with_reducible refine i_pairs0 ?_
  | with_reducible refine i_pairs ?_
  | with_reducible refine i_newK ?_
  | with_reducible refine i_gcons ?_
  | with_reducible refine i_gnil ?_
  | with_reducible refine i_revL ?_
  | with_reducible refine i_rng1 ?_
  | ((with_reducible refine i_wipe ?hw ?_); (case hw => exact rfl))
  | with_reducible refine iteNT ?_
  | with_reducible refine iteNF ?_)
local macro_rules | `(tactic| walk_at "sx") => `(tactic| first
  | walk_at "st"
  | with_reducible refine i_kinit ?_
  | with_reducible refine i_ost ?_
  | with_reducible refine i_mkO ?_
  | with_reducible refine i_callE ?_
  | with_reducible refine i_makeE ?_
  | with_reducible refine i_xf ?_
  | with_reducible refine i_sfld ?_
  | with_reducible refine i_fld ?_
  | ((with_reducible refine i_ixT (xs := ?xs) (v := ?vv) ?hS ?he ?_); (case hS => exact SqT.tup (by walk_at "hp")); (case he => exact rfl))
  | with_reducible refine i_intB ?_
  | with_reducible refine i_runS ?_
  | with_reducible refine i_runN ?_
  | ((with_reducible refine i_xf1 (fs := ?ff) (v := ?vv) ?hx ?hl ?_); (case hx => walk_at "hp"); (case hl => exact rfl))
  | with_reducible refine i_methE ?_
  | with_reducible refine i_meth ?_
  | with_reducible refine i_make ?_
  | ((with_reducible refine i_obj (dx := ?dd) (fs := ?ff) ?hx ?hl ?_); (case hx => walk_at "hp"); (case hl => exact rfl))
  | ((with_reducible refine i_fld1 (C := ?CC) (dx := ?dd) (fs := ?ff) (v := ?vv) ?hx ?cl ?na ?hl ?_); (case hx => walk_at "hp"); (case cl => assumption); (case na => assumption); (case hl => exact rfl)))
local macro_rules | `(tactic| walk_at "rd") => `(tactic| repeat (walk_at "sx"))

section
variable {K : PySem.W.Frag} {H : Hp} {Q : VK}
theorem i_catA {a b : Addr} {xs ys : List V} (ha : H a = some (.tup xs)) (hb : H b = some (.tup ys)) (hz : xs.length + ys.length ≤ sizeLine) (q : ∀ r H', Same H H' → H' r = some (.tup (xs ++ ys)) → Q (.ref r) H') : rCatA K (.ref a) (.ref b) H Q :=
  ⟨a, b, xs, ys, rfl, rfl, SqT.tup ha, SqT.tup hb, hz, fun e => q b H (Same.refl _) (by rw [e]; exact hb), fun _ e => q a H (Same.refl _) (by rw [e, List.append_nil]; exact ha), fun _ _ p hp => q p _ (Same.new _ hp) upd_same⟩
theorem i_slA {a : Addr} {xs : List V} {lo hi : Option Int} (ha : H a = some (.tup xs)) (q : ∀ r H', Same H H' → H' r = some (.tup (cutV xs lo hi)) → Q (.ref r) H') : rSlA K (.ref a) lo hi H Q := by
  refine ⟨a, xs, rfl, SqT.tup ha, fun e => q a H (Same.refl _) ?_, fun _ p hp => q p _ (Same.new _ hp) upd_same⟩
  have : cutV xs lo hi = xs := by
    unfold cutV
    rw [e.1, e.2]
    simp
  rw [this]; exact ha
end
theorem cutV_to (xs : List V) {a : Nat} (h : a ≤ xs.length) : cutV xs none (some (a : Int)) = xs.take a := by
  unfold cutV
  rw [HT.sIx_none, HT.sIx_nat, Nat.min_eq_left h, List.drop_zero, Nat.sub_zero]
theorem cutV_from (xs : List V) {a : Nat} (h : a ≤ xs.length) : cutV xs (some (a : Int)) none = xs.drop a := by
  unfold cutV
  rw [HT.sIx_none, HT.sIx_nat, Nat.min_eq_left h, List.take_of_length_le (by rw [List.length_drop]; omega)]

section
variable {P : Program} {w : World} {K : PySem.W.Frag} {mg : Str → Option Value} {base : Heap}
/-- a row that stands -/
def spVRow : Sp := fun vs H Q _ => ∃ (b pl : Addr) (k : Kd) (x : Str) (ns : List Str) (n : Nat), vs = [.ref b, .str k.txt, .str x, .ref pl] ∧ Box H b n ∧ n ≤ 700 ∧ pl ≠ b ∧ H pl = some (.lst (ns.map V.str)) ∧ isN (.str x) = true ∧
  (1 ≤ ns.length ∧ ns.length ≤ 26 ∧ ∀ y ∈ ns, isN (.str y) = true) ∧
  ∀ (p : Addr) (xs : List V) (H' : Hp), But b H H' → Box H' b (n + 10) → H' p = some (.tup xs) → RowK k xs → Q (.ref p) H'
theorem pickN {ns : List Str} {d : Int} (h : 1 ≤ ns.length ∧ ns.length ≤ 26 ∧ ∀ y ∈ ns, isN (.str y) = true) (d0 : 0 ≤ d) (d1 : d < ((ns.map V.str).length : Int)) : ∃ g, atI (ns.map V.str) d = some (.str g) ∧ isN (.str g) = true := by
  obtain ⟨v, hv, hm, _⟩ := atI_some (xs := ns.map V.str) d0 d1
  obtain ⟨g, hg, rfl⟩ := List.mem_map.mp hm
  exact ⟨g, hv, h.2.2 g hg⟩
theorem ok_vessel_row (T : Top K mg) : FnG P w K mg base CX0 3 T.a_vessel_row T.d_vessel_row ["_law_box_here", "_law_kind", "_law_name", "_law_ports"] spVRow := by
  have G_number := ok_number (P := P) (w := w) (base := base) T
  have G_take := ok_take (P := P) (w := w) (base := base) T
  refine okG T.F_vessel_row sc_vessel_row (fun vs H Q E h => ?_) (fun cdv A outer s H vs Q E hr hgd h => ?_)
  · obtain ⟨b, pl, k, x, ns, n, rfl, _⟩ := h
    rfl
  · obtain ⟨b, pl, k, x, ns, n, rfl, hB, hn, pb, hp, hx, hall, q⟩ := h
    refine ⟨_, (pss_cons (ps_set (i := 4) sc_vessel_row.nd rfl (by first | exact Or.inl rfl | exact Or.inr rfl) (pe_tup (pa_cons (pv 2) (pa_cons (pe_ix ix_list (pv 3) (g_call G_take (hr.mono (by decide)) hgd (by rfl) T.m_take T.F_take.kp T.b_take .nil pass0 (pa_cons (pv 0) (pa_cons (pe_callB c_len (by rfl) T.n_len (by decide +kernel) (pa_cons (pv 3) pa_nil)) pa_nil))) (fun _ _ => rfl)) pa_nil))))
      (pss_cons (ps_if (pt_cmpR op_eq (pv 1) pe_str (nomark _))
        (pss_one (ps_set (i := 4) sc_vessel_row.nd rfl (by first | exact Or.inl rfl | exact Or.inr rfl) (pe_op op_catA (pv 4) (pe_tup (pa_cons (pe_ix ix_list (pv 3) (g_call G_take (hr.mono (by decide)) hgd (by rfl) T.m_take T.F_take.kp T.b_take .nil pass0 (pa_cons (pv 0) (pa_cons (pe_callB c_len (by rfl) T.n_len (by decide +kernel) (pa_cons (pv 3) pa_nil)) pa_nil))) (fun _ _ => rfl)) pa_nil)))))
        pss_nil)
      (pss_cons (ps_set (i := 5) sc_vessel_row.nd rfl (by first | exact Or.inl rfl | exact Or.inr rfl) (pe_tup (pa_cons (g_call G_number (hr.mono (by decide)) hgd (by rfl) T.m_number T.F_number.kp T.b_number .nil pass0 (pa_cons (pv 0) (pa_cons pe_int (pa_cons (pe_op op_pow pe_int pe_int) pa_nil)))) (pa_cons (g_call G_number (hr.mono (by decide)) hgd (by rfl) T.m_number T.F_number.kp T.b_number .nil pass0 (pa_cons (pv 0) (pa_cons pe_int (pa_cons (pe_op op_pow pe_int pe_int) pa_nil)))) (pa_cons (g_call G_number (hr.mono (by decide)) hgd (by rfl) T.m_number T.F_number.kp T.b_number .nil pass0 (pa_cons (pv 0) (pa_cons pe_int (pa_cons pe_int pa_nil)))) pa_nil)))))
      (pss_cons (ps_if (pt_cmpR op_eq (pv 1) pe_str (nomark _))
        (pss_one (ps_set (i := 5) sc_vessel_row.nd rfl (by first | exact Or.inl rfl | exact Or.inr rfl) (pe_op op_catA (pv 5) (pe_tup (pa_cons (g_call G_number (hr.mono (by decide)) hgd (by rfl) T.m_number T.F_number.kp T.b_number .nil pass0 (pa_cons (pv 0) (pa_cons pe_int (pa_cons (pe_op op_pow pe_int pe_int) pa_nil)))) pa_nil)))))
        pss_nil)
      (pss_one (ps_ret (pe_op op_catA (pv 4) (pv 5)))))))), ?_⟩
    walk_at "rd"
    have hlen := hall.1; have hlen2 := hall.2.1
    refine ⟨b, ((ns.map V.str).length : Int), n, rfl, hB, by omega, by simp; omega, by simp; omega, fun d H1 d0 d1 e1 B1 => ?_⟩
    obtain ⟨g, hg, ng⟩ := pickN hall d0 d1
    refine i_ixL (SqL.lst (e1 pl _ pb hp)) hg ?_
    walk_at "rd"
    (intro p1 hp1; generalize ep1 : upd _ p1 _ = J1; have N1 := New.of ep1 hp1; clear ep1 hp1)
    have B2 := B1.nw N1
    have e02 := e1.trans N1.but
    walk_at "rd"
    cases k with
    | s =>
      rw [show decide (V.str Kd.s.txt = V.str (Str.ofString "ship")) = true by decide +kernel]
      have hp1 := e02 pl _ pb hp
      walk_at "rd"
      refine ⟨b, ((ns.map V.str).length : Int), _, rfl, B2, by omega, by simp; omega, by simp; omega, fun d' H3 d0' d1' e3 B3 => ?_⟩
      obtain ⟨g2, hg2, ng2⟩ := pickN hall d0' d1'
      refine i_ixL (SqL.lst (e3 pl _ pb hp1)) hg2 ?_
      walk_at "rd"
      (intro p2 hp2; generalize ep2 : upd _ p2 _ = J2; have N2 := New.of ep2 hp2; clear ep2 hp2)
      refine i_catA (N2.app (e3 p1 _ (B1.off N1) N1.at_)) N2.at_ (by show 3 ≤ sizeLine; decide) (fun r H4 s4 k4 => ?_)
      have e04 : But b H H4 := e02.trans (e3.trans (N2.but.trans (Ice.Same.but s4)))
      have B4 : Box H4 b (n + 2) := (B3.nw N2).same s4
      walk_at "rd"
      refine ⟨b, 0, _, _, rfl, B4, by omega, by decide, by decide, by decide, fun h H5 h0 h1 e5 B5 => ?_⟩
      walk_at "rd"
      refine ⟨b, 0, _, _, rfl, B5, by omega, by decide, by decide, by decide, fun s H6 s0 s1 e6 B6 => ?_⟩
      walk_at "rd"
      refine ⟨b, 0, _, _, rfl, B6, by omega, by decide, by decide, by decide, fun f H7 f0 f1 e7 B7 => ?_⟩
      walk_at "rd"
      (intro p3 hp3; generalize ep3 : upd _ p3 _ = J3; have N3 := New.of ep3 hp3; clear ep3 hp3)
      walk_at "rd"
      rw [show decide (V.str Kd.s.txt = V.str (Str.ofString "breaker")) = false by decide +kernel]
      walk_at "rd"
      have rb : r ≠ b := by
        obtain ⟨_, _, _, z, _⟩ := B4.ex
        exact ne_of k4 z (by intro z; cases z)
      refine i_catA (N3.app (e7 r _ rb (e6 r _ rb (e5 r _ rb k4)))) N3.at_ (by show 6 ≤ sizeLine; decide) (fun r8 H8 s8 k8 => ?_)
      have h1' : h ≤ 1000000 := h1
      have s1' : s ≤ 1000000 := s1
      refine q r8 _ H8 (e04.trans (e5.trans (e6.trans (e7.trans (N3.but.trans (Ice.Same.but s8)))))) (((B7.nw N3).same s8).mono (by omega)) k8 ⟨_, _, _, _, _, _, ⟨hx, ng, ⟨h0, h1'⟩, ⟨s0, s1'⟩, ⟨f0, f1⟩⟩, ng2, rfl⟩
    | b =>
      rw [show decide (V.str Kd.b.txt = V.str (Str.ofString "ship")) = false by decide +kernel]
      walk_at "rd"
      refine ⟨b, 0, _, _, rfl, B2, by omega, by decide, by decide, by decide, fun h H5 h0 h1 e5 B5 => ?_⟩
      walk_at "rd"
      refine ⟨b, 0, _, _, rfl, B5, by omega, by decide, by decide, by decide, fun s H6 s0 s1 e6 B6 => ?_⟩
      walk_at "rd"
      refine ⟨b, 0, _, _, rfl, B6, by omega, by decide, by decide, by decide, fun f H7 f0 f1 e7 B7 => ?_⟩
      walk_at "rd"
      (intro p3 hp3; generalize ep3 : upd _ p3 _ = J3; have N3 := New.of ep3 hp3; clear ep3 hp3)
      walk_at "rd"
      rw [show decide (V.str Kd.b.txt = V.str (Str.ofString "breaker")) = true by decide +kernel]
      walk_at "rd"
      have B8 := B7.nw N3
      refine ⟨b, 1, _, _, rfl, B8, by omega, by decide, by decide, by decide, fun c H9 c0 c1 e9 B9 => ?_⟩
      walk_at "rd"
      (intro p4 hp4; generalize ep4 : upd _ p4 _ = J4; have N4 := New.of ep4 hp4; clear ep4 hp4)
      refine i_catA (N4.app (e9 p3 _ (B7.off N3) N3.at_)) N4.at_ (by show 4 ≤ sizeLine; decide) (fun r7 H10 s10 k10 => ?_)
      walk_at "rd"
      have p1b := B1.off N1
      refine i_catA (s10 _ _ (N4.app (e9 p1 _ p1b (N3.app (e7 p1 _ p1b (e6 p1 _ p1b (e5 p1 _ p1b N1.at_))))))) k10 (by show 6 ≤ sizeLine; decide) (fun r8 H8 s8 k8 => ?_)
      have h1' : h ≤ 1000000 := h1
      have s1' : s ≤ 1000000 := s1
      have c1' : c ≤ 1000000 := c1
      have s108 := s10.trans s8
      refine q r8 _ H8 (e02.trans (e5.trans (e6.trans (e7.trans (N3.but.trans (e9.trans (N4.but.trans (Ice.Same.but s108)))))))) (((B9.nw N4).same s108).mono (by omega)) k8 ⟨_, _, _, _, _, _, ⟨hx, ng, ⟨h0, h1'⟩, ⟨s0, s1'⟩, ⟨f0, f1⟩⟩, ⟨c0, c1'⟩, rfl⟩
    | v =>
      rw [show decide (V.str Kd.v.txt = V.str (Str.ofString "ship")) = false by decide +kernel]
      walk_at "rd"
      refine ⟨b, 0, _, _, rfl, B2, by omega, by decide, by decide, by decide, fun h H5 h0 h1 e5 B5 => ?_⟩
      walk_at "rd"
      refine ⟨b, 0, _, _, rfl, B5, by omega, by decide, by decide, by decide, fun s H6 s0 s1 e6 B6 => ?_⟩
      walk_at "rd"
      refine ⟨b, 0, _, _, rfl, B6, by omega, by decide, by decide, by decide, fun f H7 f0 f1 e7 B7 => ?_⟩
      walk_at "rd"
      (intro p3 hp3; generalize ep3 : upd _ p3 _ = J3; have N3 := New.of ep3 hp3; clear ep3 hp3)
      walk_at "rd"
      rw [show decide (V.str Kd.v.txt = V.str (Str.ofString "breaker")) = false by decide +kernel]
      walk_at "rd"
      have p1b := B1.off N1
      refine i_catA (N3.app (e7 p1 _ p1b (e6 p1 _ p1b (e5 p1 _ p1b N1.at_)))) N3.at_ (by show 5 ≤ sizeLine; decide) (fun r8 H8 s8 k8 => ?_)
      have h1' : h ≤ 1000000 := h1
      have s1' : s ≤ 1000000 := s1
      refine q r8 _ H8 (e02.trans (e5.trans (e6.trans (e7.trans (N3.but.trans (Ice.Same.but s8)))))) (((B7.nw N3).same s8).mono (by omega)) k8 ⟨_, _, _, _, _, ⟨hx, ng, ⟨h0, h1'⟩, ⟨s0, s1'⟩, ⟨f0, f1⟩⟩, rfl⟩

theorem made_same {H H' : Hp} {x dx : Addr} {u v : HO} (hx : H x = none) (hd : H dx = none) (e : But x (upd (upd H dx u) x v) H') : Same H H' := fun a o h => e a o (ne_of_none h hx) (by rw [upd_ne (ne_of_none h hx), upd_ne (ne_of_none h hd)]; exact h)
def spVesselM (aV aB aS : Addr) : Sp := fun vs H Q _ => ∃ (k : Kd) (r : Addr) (xs : List V), vs = [.str k.txt, .ref r] ∧ H r = some (.tup xs) ∧ RowK k xs ∧
  ∀ x dx H', Same H H' → H x = none → H' x = some (.ins (clsK aV aB aS k) dx (fldK k xs)) → Q (.ref x) H'
theorem ok_vessel (T : Top K mg) : FnG P w K mg base CX0 7 T.a_vessel T.d_vessel ["_law_kind", "_law_row"] (spVesselM T.a_Vessel T.a_Breaker T.a_Ship) := by
  have G_Vessel___init__ := ok_Vessel___init__ (P := P) (w := w) (base := base) T
  have G_Ship___init__ := ok_Ship___init__ (P := P) (w := w) (base := base) T
  have G_Breaker___init__ := ok_Breaker___init__ (P := P) (w := w) (base := base) T
  refine okG T.F_vessel sc_vessel (fun vs H Q E h => ?_) (fun cdv A outer s H vs Q E hr hgd h => ?_)
  · obtain ⟨k, r, xs, rfl, _⟩ := h
    rfl
  · obtain ⟨k, r, xs, rfl, hr', rk, q⟩ := h
    refine ⟨_, (pss_cons (ps_if (pt_cmpR op_eq (pv 0) pe_str (nomark _))
        (pss_one (ps_ret (g_make T.mk_Ship G_Ship___init__ (hr.mono (by decide)) hgd (by rfl) T.c_Ship T.b_Ship___init__ .nil passL (pa_cons (pe_ix ix_tup (pv 1) pe_int (fun _ _ => rfl)) (pa_cons (pe_ix ix_tup (pv 1) pe_int (fun _ _ => rfl)) (pa_cons (pe_ix ix_tup (pv 1) pe_int (fun _ _ => rfl)) (pa_cons (pe_ix ix_tup (pv 1) pe_int (fun _ _ => rfl)) (pa_cons (pe_ix ix_tup (pv 1) pe_int (fun _ _ => rfl)) (pa_cons (pe_ix ix_tup (pv 1) pe_int (fun _ _ => rfl)) pa_nil)))))))))
        pss_nil)
      (pss_cons (ps_if (pt_cmpR op_eq (pv 0) pe_str (nomark _))
        (pss_one (ps_ret (g_make T.mk_Breaker G_Breaker___init__ (hr.mono (by decide)) hgd (by rfl) T.c_Breaker T.b_Breaker___init__ .nil passL (pa_cons (pe_ix ix_tup (pv 1) pe_int (fun _ _ => rfl)) (pa_cons (pe_ix ix_tup (pv 1) pe_int (fun _ _ => rfl)) (pa_cons (pe_ix ix_tup (pv 1) pe_int (fun _ _ => rfl)) (pa_cons (pe_ix ix_tup (pv 1) pe_int (fun _ _ => rfl)) (pa_cons (pe_ix ix_tup (pv 1) pe_int (fun _ _ => rfl)) (pa_cons (pe_ix ix_tup (pv 1) pe_int (fun _ _ => rfl)) pa_nil)))))))))
        pss_nil)
      (pss_one (ps_ret (g_make T.mk_Vessel G_Vessel___init__ (hr.mono (by decide)) hgd (by rfl) T.c_Vessel T.b_Vessel___init__ .nil passL (pa_cons (pe_ix ix_tup (pv 1) pe_int (fun _ _ => rfl)) (pa_cons (pe_ix ix_tup (pv 1) pe_int (fun _ _ => rfl)) (pa_cons (pe_ix ix_tup (pv 1) pe_int (fun _ _ => rfl)) (pa_cons (pe_ix ix_tup (pv 1) pe_int (fun _ _ => rfl)) (pa_cons (pe_ix ix_tup (pv 1) pe_int (fun _ _ => rfl)) pa_nil)))))))))), ?_⟩
    walk_at "rd"
    cases k with
    | s =>
      have th := fun H => rk.th H
      obtain ⟨n, p, h, s', d, g, f, hg, rfl⟩ := rk
      rw [show decide (V.str Kd.s.txt = V.str (Str.ofString "ship")) = true by decide +kernel]
      walk_at "rd"
      intro x dx hx hdx nex
      refine ⟨x, dx, _, _, _, _, _, _, rfl, upd_same, th _, ?_⟩
      have nb : [V.str n, V.str p, V.str g].find? bad = none := by simp [bad, f.nn, f.np, hg]
      rw [resV_goal nb, f.made]
      exact fun H1 b1 k1 => ⟨rfl, q x dx _ (made_same hx hdx b1) hx k1⟩
    | b =>
      have th := fun H => rk.th H
      obtain ⟨n, p, h, s', d, c, f, hc, rfl⟩ := rk
      rw [show decide (V.str Kd.b.txt = V.str (Str.ofString "ship")) = false by decide +kernel]
      walk_at "rd"
      rw [show decide (V.str Kd.b.txt = V.str (Str.ofString "breaker")) = true by decide +kernel]
      walk_at "rd"
      intro x dx hx hdx nex
      refine ⟨x, dx, _, _, _, _, _, _, rfl, upd_same, th _, ?_⟩
      rw [resV_snoc, f.made]
      dsimp only
      rw [if_neg (by show ¬ (!inB 1 1000000 (.int c)) = true; rw [inB_of hc.1 hc.2]; decide)]
      exact fun H1 b1 k1 => ⟨rfl, q x dx _ (made_same hx hdx b1) hx k1⟩
    | v =>
      have th := fun H => rk.th H
      obtain ⟨n, p, h, s', d, f, rfl⟩ := rk
      rw [show decide (V.str Kd.v.txt = V.str (Str.ofString "ship")) = false by decide +kernel]
      walk_at "rd"
      rw [show decide (V.str Kd.v.txt = V.str (Str.ofString "breaker")) = false by decide +kernel]
      walk_at "rd"
      intro x dx hx hdx nex
      refine ⟨x, T.a_Vessel, dx, _, _, _, _, _, [], rfl, upd_same, .inl rfl, ⟨T.cl_Vessel, T.na_Vessel_name, T.na_Vessel_port, T.na_Vessel_hour, T.na_Vessel_strength, T.na_Vessel_draught⟩, th _, ?_⟩
      rw [f.made]
      exact fun H1 b1 k1 => ⟨rfl, q x dx _ (made_same hx hdx b1) hx k1⟩

end
end Ice

set_option Elab.async false
set_option linter.all false
set_option maxRecDepth 100000
set_option maxHeartbeats 4000000
namespace Ice
open PySem PySem.Spec PyProof.Rows L2 TL
/-! side conditions, heaps, one step of a reading, and many -/
local macro_rules | `(tactic| walk_at "hp") => `(tactic| first | assumption | exact upd_same | exact New.at_ (by assumption) | (refine keepU ?_ (by assumption); walk_at "hp") | (refine New.app (by assumption) ?_; walk_at "hp") | (refine Same.app (by assumption) ?_; walk_at "hp") | (refine But.app (by assumption) (by assumption) ?_; walk_at "hp"))
local macro_rules | `(tactic| walk_at "sq") => `(tactic| first | assumption | exact SqL.lst (by walk_at "hp") | exact L2.Same.seq (New.same (by assumption)) (by assumption) | exact L2.Same.seq (by assumption) (by assumption))
local macro_rules | `(tactic| walk_at "len") => `(tactic| first | assumption | (simp only [List.length_cons, List.length_nil, List.length_append, List.length_map]; decide) | (refine Ice.sz_of ?_; simp only [List.length_cons, List.length_nil, List.length_append, List.length_map]; omega))
local macro_rules | `(tactic| walk_at "fresh") => `(tactic| (simp only [List.map_append, List.map_cons, List.map_nil, List.nil_append, List.cons_append]; decide +kernel))
local macro_rules | `(tactic| walk_at "sd") => `(tactic| first | assumption | (show _ ≠ _; omega) | exact Or.inl ⟨by omega, by omega⟩ | exact Or.inr ⟨by omega, by omega⟩ | exact ⟨by decide, by decide⟩ | exact ⟨by decide, by decide, by decide⟩ | exact ⟨by omega, by omega, by omega⟩)
/-! one step of a reading, and many -/
local macro_rules | `(tactic| walk_at "st") => `(tactic| first
  | with_reducible refine i_seq ?_
  | with_reducible refine i_if ?_
  | with_reducible refine i_next ?_
  | with_reducible refine i_ret ?_
  | with_reducible refine i_retN ?_
  | with_reducible refine i_drop ?_
  | with_reducible refine i_asg ?_
  | with_reducible refine i_gname ?_
  | with_reducible refine i_gsub ?_
  | ((with_reducible refine i_var (v := ?vv) ?hv ?_); (case hv => exact rfl))
  | with_reducible refine i_c ?_
  | with_reducible refine i_op ?_
  | with_reducible refine i_un ?_
  | with_reducible refine i_test ?_
  | with_reducible refine i_tB ?_
  | with_reducible refine i_and ?_
  | with_reducible refine i_or ?_
  | with_reducible refine i_not ?_
  | with_reducible refine i_andV ?_
  | with_reducible refine i_orV ?_
  | with_reducible refine i_notV ?_
  | with_reducible refine i_ifE ?_
  | with_reducible refine i_chain ?_
  | with_reducible refine i_bl ?_
  | with_reducible refine i_nil ?_
  | with_reducible refine i_cons ?_
  | with_reducible refine i_call ?_
  | with_reducible refine i_cb ?_
  | with_reducible refine i_rI0 ?_
  | with_reducible refine i_rU ?_
  | ((with_reducible refine i_rEq ?hs ?_); (case hs => exact rfl))
  | ((with_reducible refine i_rNe ?hs ?_); (case hs => exact rfl))
  | ((with_reducible refine i_rI ?hc ?_); (case hc => walk_at "sd"))
  | ((with_reducible refine i_ixL (xs := ?xs) (v := ?vv) ?hS ?he ?_); (case hS => walk_at "sq"); (case he => exact rfl))
  | ((with_reducible refine i_setL (xs := ?xs) (j := ?jj) ?hS ?he ?_); (case hS => walk_at "hp"); (case he => exact rfl))
  | with_reducible refine i_tup ?_
  | with_reducible refine i_lst ?_
  | with_reducible refine i_bm ?_
  | with_reducible refine i_bm0 ?_
  | with_reducible refine i_m1 ?_
  | with_reducible refine i_sl ?_
  | with_reducible refine i_nopart ?_
  | with_reducible refine i_part ?_
  | with_reducible refine i_int ?_
  | with_reducible refine i_str ?_
  | with_reducible refine i_for ?_
  | with_reducible refine i_yes ?_
  | ((with_reducible refine i_lenL (xs := ?xs) ?hS ?_); (case hS => walk_at "sq"))
  | ((with_reducible refine i_room ?hz ?_); (case hz => walk_at "len"))
  | with_reducible refine i_leT ?_
  | with_reducible refine i_notInS ?_
  | with_reducible refine i_inS ?_
  | with_reducible refine i_find ?_
  | with_reducible refine i_isB ?_
  | with_reducible refine i_max2 ?_
  | with_reducible refine i_min2 ?_
  | with_reducible exact trivial
  | with_reducible refine iteT ?_
  | with_reducible refine iteF ?_
  | with_reducible refine i_isstr ?_
  | with_reducible refine i_lc ?_
  | ((with_reducible refine i_cat (xs := ?xs) (zs := ?zs) ?ha ?hb ?hz ?_); (case ha => walk_at "hp"); (case hb => walk_at "hp"); (case hz => walk_at "len"))
  | ((with_reducible refine i_tyL (xs := ?xs) ?ha ?_); (case ha => walk_at "hp"))
  | with_reducible refine i_list ?_
  | with_reducible refine i_disp ?_
  | with_reducible refine i_pairs0 ?_
  | with_reducible refine i_pairs ?_
  | with_reducible refine i_newK ?_
  | with_reducible refine i_gcons ?_
  | with_reducible refine i_gnil ?_
  | with_reducible refine i_revL ?_
  | with_reducible refine i_rng1 ?_
  | ((with_reducible refine i_wipe ?hw ?_); (case hw => exact rfl))
  | with_reducible refine iteNT ?_
  | with_reducible refine iteNF ?_)
local macro_rules | `(tactic| walk_at "sx") => `(tactic| first
  | walk_at "st"
  | with_reducible refine i_kinit ?_
  | with_reducible refine i_ost ?_
  | with_reducible refine i_mkO ?_
  | with_reducible refine i_callE ?_
  | with_reducible refine i_makeE ?_
  | with_reducible refine i_xf ?_
  | with_reducible refine i_sfld ?_
  | with_reducible refine i_fld ?_
  | ((with_reducible refine i_ixT (xs := ?xs) (v := ?vv) ?hS ?he ?_); (case hS => exact SqT.tup (by walk_at "hp")); (case he => exact rfl))
  | with_reducible refine i_intB ?_
  | with_reducible refine i_runS ?_
  | with_reducible refine i_runN ?_
  | ((with_reducible refine i_xf1 (fs := ?ff) (v := ?vv) ?hx ?hl ?_); (case hx => walk_at "hp"); (case hl => exact rfl))
  | with_reducible refine i_methE ?_
  | with_reducible refine i_meth ?_
  | with_reducible refine i_make ?_
  | ((with_reducible refine i_obj (dx := ?dd) (fs := ?ff) ?hx ?hl ?_); (case hx => walk_at "hp"); (case hl => exact rfl))
  | ((with_reducible refine i_fld1 (C := ?CC) (dx := ?dd) (fs := ?ff) (v := ?vv) ?hx ?cl ?na ?hl ?_); (case hx => walk_at "hp"); (case cl => assumption); (case na => assumption); (case hl => exact rfl)))
local macro_rules | `(tactic| walk_at "rd") => `(tactic| repeat (walk_at "sx"))

/-- a vessel's data -/
structure Vd where
  k : Kd
  n : Str
  p : Str
  g : Str
  h : Int
  s : Int
  d : Int
  c : Int
structure Vd.ok (v : Vd) : Prop where
  five : Five v.n v.p v.h v.s v.d
  g : isN (.str v.g) = true
  c : 1 ≤ v.c ∧ v.c ≤ 1000000
def Vd.row (v : Vd) : List V := match v.k with
  | .v => [.str v.n, .str v.p, .int v.h, .int v.s, .int v.d]
  | .b => [.str v.n, .str v.p, .int v.h, .int v.s, .int v.d, .int v.c]
  | .s => [.str v.n, .str v.p, .str v.g, .int v.h, .int v.s, .int v.d]
def Vd.rowD (v : Vd) : List PyData := match v.k with
  | .v => [.str v.n, .str v.p, .int v.h, .int v.s, .int v.d]
  | .b => [.str v.n, .str v.p, .int v.h, .int v.s, .int v.d, .int v.c]
  | .s => [.str v.n, .str v.p, .str v.g, .int v.h, .int v.s, .int v.d]
def Vd.thin (v : Vd) : Int := match v.k with
  | .b => v.c
  | _ => 0
def Vd.flds (v : Vd) : List (Str × V) := fldK v.k v.row
theorem Vd.flds_eq (v : Vd) : ∃ r, v.flds = fldV (.str v.n) (.str v.p) (.int v.h) (.int v.s) (.int v.d) ++ r := by
  unfold Vd.flds Vd.row
  cases v.k with
  | v => exact ⟨[], rfl⟩
  | b => exact ⟨_, rfl⟩
  | s => exact ⟨_, rfl⟩
theorem Vd.l_name (v : Vd) : v.flds.lookup (Str.ofString "name") = some (.str v.n) := by obtain ⟨r, e⟩ := v.flds_eq; rw [e]; rfl
theorem Vd.l_port (v : Vd) : v.flds.lookup (Str.ofString "port") = some (.str v.p) := by obtain ⟨r, e⟩ := v.flds_eq; rw [e]; rfl
theorem Vd.l_hour (v : Vd) : v.flds.lookup (Str.ofString "hour") = some (.int v.h) := by obtain ⟨r, e⟩ := v.flds_eq; rw [e]; rfl
theorem Vd.l_strength (v : Vd) : v.flds.lookup (Str.ofString "strength") = some (.int v.s) := by obtain ⟨r, e⟩ := v.flds_eq; rw [e]; rfl
theorem Vd.l_draught (v : Vd) : v.flds.lookup (Str.ofString "draught") = some (.int v.d) := by obtain ⟨r, e⟩ := v.flds_eq; rw [e]; rfl
theorem Vd.l_none (v : Vd) : v.flds.lookup (Str.ofString "thins") = none ∧ v.flds.lookup (Str.ofString "row") = none := by
  unfold Vd.flds Vd.row
  cases v.k with
  | v => exact ⟨rfl, rfl⟩
  | b => exact ⟨rfl, rfl⟩
  | s => exact ⟨rfl, rfl⟩
theorem Vd.ps {v : Vd} (o : v.ok) : PsAll v.row v.rowD := by
  have f := o.five
  have := f.bh; have := f.bs; have := f.bd; have := o.c
  unfold Vd.row Vd.rowD
  cases v.k with
  | v => exact .cons (name_ps f.nn) (.cons (name_ps f.np) (.cons (.int (by omega)) (.cons (.int (by omega)) (.cons (.int (by omega)) .nil))))
  | b => exact .cons (name_ps f.nn) (.cons (name_ps f.np) (.cons (.int (by omega)) (.cons (.int (by omega)) (.cons (.int (by omega)) (.cons (.int (by omega)) .nil)))))
  | s => exact .cons (name_ps f.nn) (.cons (name_ps f.np) (.cons (name_ps o.g) (.cons (.int (by omega)) (.cons (.int (by omega)) (.cons (.int (by omega)) .nil)))))
theorem Vd.thin_le {v : Vd} (o : v.ok) : 0 ≤ v.thin ∧ v.thin ≤ 1000000 := by
  have := o.c
  unfold Vd.thin
  cases v.k with
  | v => exact ⟨Int.le_refl 0, by show (0 : Int) ≤ 1000000; decide⟩
  | s => exact ⟨Int.le_refl 0, by show (0 : Int) ≤ 1000000; decide⟩
  | b => exact ⟨by show 0 ≤ v.c; omega, by show v.c ≤ _; omega⟩
theorem Vd.of {k : Kd} {xs : List V} (r : RowK k xs) : ∃ v : Vd, v.ok ∧ v.k = k ∧ v.row = xs := by
  cases k with
  | v =>
    obtain ⟨n, p, h, s, d, f, rfl⟩ := r
    exact ⟨⟨.v, n, p, n, h, s, d, 1⟩, ⟨f, f.nn, (by decide : (1 : Int) ≤ 1 ∧ (1 : Int) ≤ 1000000)⟩, rfl, rfl⟩
  | b =>
    obtain ⟨n, p, h, s, d, c, f, hc, rfl⟩ := r
    exact ⟨⟨.b, n, p, n, h, s, d, c⟩, ⟨f, f.nn, hc⟩, rfl, rfl⟩
  | s =>
    obtain ⟨n, p, h, s, d, g, f, hg, rfl⟩ := r
    exact ⟨⟨.s, n, p, g, h, s, d, 1⟩, ⟨f, hg, (by decide : (1 : Int) ≤ 1 ∧ (1 : Int) ≤ 1000000)⟩, rfl, rfl⟩
abbrev VL := List (Addr × Vd)
def refs (L : VL) : List V := L.map fun z => .ref z.1
def IsMax (m : Int) (l : List Int) : Prop := m ∈ l ∧ ∀ y ∈ l, y ≤ m
def IsMin (m : Int) (l : List Int) : Prop := m ∈ l ∧ ∀ y ∈ l, m ≤ y
theorem IsMax.uniq {a b : Int} {l : List Int} (h : IsMax a l) (h' : IsMax b l) : a = b := by have := h.2 b h'.1; have := h'.2 a h.1; omega
def thins (L : VL) : Int := (L.map fun z => z.2.thin).sum
def hoursL (L : VL) : List Int := L.map fun z => z.2.h
def drL (L : VL) : List Int := L.map fun z => z.2.d
def strL : Int → VL → List Int
  | _, [] => []
  | t, z :: r => (z.2.s + t) :: strL (t + z.2.thin) r
def letsAll : VL → Int → Bool
  | [], _ => true
  | z :: r, t => decide (t ≤ z.2.s) && letsAll r (max 0 (t - z.2.thin))
theorem strL_app : ∀ (L M : VL) (t : Int), strL t (L ++ M) = strL t L ++ strL (t + thins L) M
  | [], M, t => by simp [strL, thins]
  | z :: r, M, t => by
    show (z.2.s + t) :: strL (t + z.2.thin) (r ++ M) = _
    rw [strL_app r M]
    have e : t + z.2.thin + thins r = t + thins (z :: r) := by unfold thins; simp; omega
    rw [e]; rfl
theorem thins_app (L M : VL) : thins (L ++ M) = thins L + thins M := by unfold thins; simp
theorem strL_len : ∀ (L : VL) (t : Int), (strL t L).length = L.length
  | [], _ => rfl
  | _ :: r, _ => by show (strL _ r).length + 1 = _; rw [strL_len r]; rfl
theorem thins_nonneg : ∀ {L : VL}, (∀ z ∈ L, z.2.ok) → 0 ≤ thins L ∧ thins L ≤ 1000000 * L.length
  | [], _ => ⟨by decide, by decide⟩
  | z :: r, h => by
    have := (h z (by simp)).c
    have t := Vd.thin_le (h z (by simp))
    have ih := thins_nonneg (L := r) fun y hy => h y (by simp [hy])
    have e : thins (z :: r) = z.2.thin + thins r := by unfold thins; simp
    have e2 : ((z :: r).length : Int) = r.length + 1 := by simp
    rw [e, e2]
    omega
theorem letsAll_iff : ∀ {L : VL} (T t : Int), (∀ z ∈ L, z.2.ok) → 0 ≤ T → letsAll L (max 0 (t - T)) = decide (∀ y ∈ strL T L, t ≤ y)
  | [], T, t, _, _ => by simp [letsAll, strL]
  | z :: r, T, t, h, hT => by
    have o := h z (by simp)
    have t1 := Vd.thin_le o
    have s0 := o.five.bs.1
    have ih := letsAll_iff (L := r) (T + z.2.thin) t (fun y hy => h y (by simp [hy])) (by omega)
    have e : max 0 (max 0 (t - T) - z.2.thin) = max 0 (t - (T + z.2.thin)) := by omega
    show (decide (max 0 (t - T) ≤ z.2.s) && letsAll r (max 0 (max 0 (t - T) - z.2.thin))) = decide (∀ y ∈ (z.2.s + T) :: strL (T + z.2.thin) r, t ≤ y)
    rw [e, ih, ← Bool.decide_and, decide_eq_decide, List.forall_mem_cons]
    constructor
    · rintro ⟨a, b⟩; exact ⟨by omega, b⟩
    · rintro ⟨a, b⟩; exact ⟨by omega, b⟩
theorem lets_min {L : VL} {m : Int} (h : ∀ z ∈ L, z.2.ok) (hm : IsMin m (strL 0 L)) (m0 : 0 ≤ m) : letsAll L m = true ∧ letsAll L (m + 1) = false := by
  have a := letsAll_iff (L := L) 0 m h (by decide)
  have b := letsAll_iff (L := L) 0 (m + 1) h (by decide)
  rw [show max 0 (m - 0) = m by omega] at a
  rw [show max 0 (m + 1 - 0) = m + 1 by omega] at b
  refine ⟨a.trans (decide_eq_true hm.2), b.trans (decide_eq_false fun z => ?_)⟩
  have := z m hm.1
  omega
section
variable {K : PySem.W.Frag}
/-- the vessel at x -/
def VesA (aV aB aS : Addr) (H : Hp) (x : Addr) (v : Vd) : Prop := v.ok ∧ ∃ dx, H x = some (.ins (clsK aV aB aS v.k) dx v.flds)
def VesL (aV aB aS : Addr) (H : Hp) (L : VL) : Prop := ∀ z ∈ L, VesA aV aB aS H z.1 z.2
variable {aV aB aS : Addr}
theorem VesA.same {H H' : Hp} {x : Addr} {v : Vd} (a : VesA aV aB aS H x v) (e : Same H H') : VesA aV aB aS H' x v := by obtain ⟨o, dx, h⟩ := a; exact ⟨o, dx, e _ _ h⟩
theorem VesL.same {H H' : Hp} {L : VL} (a : VesL aV aB aS H L) (e : Same H H') : VesL aV aB aS H' L := fun z hz => (a z hz).same e
theorem VesL.updL {H : Hp} {L : VL} {D : Addr} {xs ys : List V} (a : VesL aV aB aS H L) (hD : H D = some (.lst xs)) : VesL aV aB aS (upd H D (.lst ys)) L := fun z hz => by
  obtain ⟨o, dx, h⟩ := a z hz
  exact ⟨o, dx, by rw [upd_ne (ne_of h hD (by intro q; cases q))]; exact h⟩
theorem VesL.updN {H : Hp} {L : VL} {D : Addr} {o : HO} (a : VesL aV aB aS H L) (hD : H D = none) : VesL aV aB aS (upd H D o) L := a.same (Same.new _ hD)
theorem VesL.ok {H : Hp} {L : VL} (a : VesL aV aB aS H L) : ∀ z ∈ L, z.2.ok := fun z hz => (a z hz).1
theorem VesL.but {H H' : Hp} {L : VL} {b : Addr} {xs : List V} (a : VesL aV aB aS H L) (hb : H b = some (.lst xs)) (e : But b H H') : VesL aV aB aS H' L := fun z hz => by
  obtain ⟨o, dx, h⟩ := a z hz
  exact ⟨o, dx, e _ _ (ne_of h hb (by intro q; cases q)) h⟩
theorem refs_get {L : VL} {i : Nat} {v : V} (h : (refs L)[i]? = some v) : ∃ z, L[i]? = some z ∧ v = .ref z.1 := by
  unfold refs at h
  rw [List.getElem?_map] at h
  cases hz : L[i]? with
  | none => rw [hz] at h; cases h
  | some z => rw [hz] at h; exact ⟨z, rfl, (Option.some.inj h).symm⟩
theorem take_succ_of {α : Type} {L : List α} {i : Nat} {z : α} (h : L[i]? = some z) : L.take (i + 1) = L.take i ++ [z] := by rw [List.take_add_one, h]; rfl
end
/-- facts of the classes -/
theorem clsK_ok {K : PySem.W.Frag} {mg : Str → Option Value} (T : Top K mg) (k : Kd) : Cls K (clsK T.a_Vessel T.a_Breaker T.a_Ship k) ∧ NoAttr K (clsK T.a_Vessel T.a_Breaker T.a_Ship k) "name" ∧ NoAttr K (clsK T.a_Vessel T.a_Breaker T.a_Ship k) "port" ∧ NoAttr K (clsK T.a_Vessel T.a_Breaker T.a_Ship k) "hour" ∧
    NoAttr K (clsK T.a_Vessel T.a_Breaker T.a_Ship k) "strength" ∧ NoAttr K (clsK T.a_Vessel T.a_Breaker T.a_Ship k) "draught" := by
  cases k with
  | v => exact ⟨T.cl_Vessel, T.na_Vessel_name, T.na_Vessel_port, T.na_Vessel_hour, T.na_Vessel_strength, T.na_Vessel_draught⟩
  | b => exact ⟨T.cl_Breaker, T.na_Breaker_name, T.na_Breaker_port, T.na_Breaker_hour, T.na_Breaker_strength, T.na_Breaker_draught⟩
  | s => exact ⟨T.cl_Ship, T.na_Ship_name, T.na_Ship_port, T.na_Ship_hour, T.na_Ship_strength, T.na_Ship_draught⟩
section
variable {K : PySem.W.Frag} {mg : Str → Option Value} {H : Hp} {B : V → Prop}
abbrev VesT (T : Top K mg) (H : Hp) (x : Addr) (v : Vd) : Prop := VesA T.a_Vessel T.a_Breaker T.a_Ship H x v
theorem f_name (T : Top K mg) {x : Addr} {v : Vd} (h : VesT T H x v) (q : B (.str v.n)) : ∃ a C dx fs u, V.ref x = .ref a ∧ H a = some (.ins C dx fs) ∧ Cls K C ∧ NoAttr K C "name" ∧ fs.lookup (Str.ofString "name") = some u ∧ B u := by
  obtain ⟨_, dx, hx⟩ := h
  exact ⟨x, _, dx, _, _, rfl, hx, (clsK_ok T v.k).1, (clsK_ok T v.k).2.1, v.l_name, q⟩
theorem f_port (T : Top K mg) {x : Addr} {v : Vd} (h : VesT T H x v) (q : B (.str v.p)) : ∃ a C dx fs u, V.ref x = .ref a ∧ H a = some (.ins C dx fs) ∧ Cls K C ∧ NoAttr K C "port" ∧ fs.lookup (Str.ofString "port") = some u ∧ B u := by
  obtain ⟨_, dx, hx⟩ := h
  exact ⟨x, _, dx, _, _, rfl, hx, (clsK_ok T v.k).1, (clsK_ok T v.k).2.2.1, v.l_port, q⟩
theorem f_hour (T : Top K mg) {x : Addr} {v : Vd} (h : VesT T H x v) (q : B (.int v.h)) : ∃ a C dx fs u, V.ref x = .ref a ∧ H a = some (.ins C dx fs) ∧ Cls K C ∧ NoAttr K C "hour" ∧ fs.lookup (Str.ofString "hour") = some u ∧ B u := by
  obtain ⟨_, dx, hx⟩ := h
  exact ⟨x, _, dx, _, _, rfl, hx, (clsK_ok T v.k).1, (clsK_ok T v.k).2.2.2.1, v.l_hour, q⟩
theorem f_strength (T : Top K mg) {x : Addr} {v : Vd} (h : VesT T H x v) (q : B (.int v.s)) : ∃ a C dx fs u, V.ref x = .ref a ∧ H a = some (.ins C dx fs) ∧ Cls K C ∧ NoAttr K C "strength" ∧ fs.lookup (Str.ofString "strength") = some u ∧ B u := by
  obtain ⟨_, dx, hx⟩ := h
  exact ⟨x, _, dx, _, _, rfl, hx, (clsK_ok T v.k).1, (clsK_ok T v.k).2.2.2.2.1, v.l_strength, q⟩
theorem f_draught (T : Top K mg) {x : Addr} {v : Vd} (h : VesT T H x v) (q : B (.int v.d)) : ∃ a C dx fs u, V.ref x = .ref a ∧ H a = some (.ins C dx fs) ∧ Cls K C ∧ NoAttr K C "draught" ∧ fs.lookup (Str.ofString "draught") = some u ∧ B u := by
  obtain ⟨_, dx, hx⟩ := h
  exact ⟨x, _, dx, _, _, rfl, hx, (clsK_ok T v.k).1, (clsK_ok T v.k).2.2.2.2.2, v.l_draught, q⟩
end
section
variable {K : PySem.W.Frag} {H1 : Hp} {a D : Addr} {xs ys : List V} {g : TG} {tt : TT} {te : TE} {vs : List Nat} {σ : L2.St} {Qd : Hp → Prop}
theorem seqT {K : PySem.W.Frag} {H H' : Hp} {a : Addr} {xs : List V} (e : Same H H') (h : SqT K H a xs) : SqT K H' a xs := by
  rcases h with (h | ⟨o, h⟩) | h
  · exact .inl (.inl (e _ _ h))
  · exact .inl (.inr ⟨o, e _ _ h⟩)
  · exact .inr h
/-- a comprehension over a list or a tuple whose element changes nothing -/
theorem lc_pureL (hl : ys.length = xs.length) (hz : xs.length ≤ 1000) (hS : SqL K H1 a xs) (hD : H1 D = none)
    (hs : ∀ (i : Nat) (x y : V) (H : Hp) (N : V → Hp → Prop) (M : Hp → Prop), xs[i]? = some x → ys[i]? = some y → Same H1 H → N y H → g x (wipe σ vs) H fun σ2 H2 => wipe σ2 vs = wipe σ vs ∧ tt σ2 H2 fun b H3 => if b = true then te σ2 H3 N else M H3)
    (hd : Qd (upd H1 D (.lst ys))) :
    ∃ W : Nat → Nat → Hp → Prop, (∃ m, W 0 m (upd H1 D (.lst []))) ∧ ∀ i m H, W i m H →
      ((Itl K a).stop i H ∧ Qd H) ∨ ((Itl K a).go i H ∧ ∃ Nx : Hp → Prop, (∀ H', Nx H' → ∃ m', m' < m ∧ W (i + 1) m' H') ∧ ∀ x H', (Itl K a).yld i H x H' → g x (wipe σ vs) H' fun σ2 H2 => wipe σ2 vs = wipe σ vs ∧ tt σ2 H2 fun b H3 =>
        if b = true then te σ2 H3 fun y H4 => ∃ acc, H4 D = some (.lst acc) ∧ acc.length < sizeLine ∧ Nx (upd H4 D (.lst (acc ++ [y]))) else Nx H3) := by
  refine lc_list (fun i H' => H' = upd H1 D (.lst (ys.take i))) rfl (fun i H' _ e => by rw [e]; exact L2.Same.seq (Same.new _ hD) hS) ?_ ?_
  · rintro i x H' hx rfl
    have lt : i < ys.length := by rw [hl]; exact (List.getElem?_eq_some_iff.mp hx).1
    have hy : ys[i]? = some ys[i] := List.getElem?_eq_getElem lt
    refine hs i x _ _ _ _ hx hy (Same.new _ hD) ⟨_, upd_same, small1000 (by rw [List.length_take]; omega), ?_⟩
    rw [upd_upd, take_succ_of hy]
  · rintro H' rfl
    rw [← hl, List.take_length]; exact hd
theorem lc_pureT (hl : ys.length = xs.length) (hz : xs.length ≤ 1000) (hS : SqT K H1 a xs) (hD : H1 D = none)
    (hs : ∀ (i : Nat) (x y : V) (H : Hp) (N : V → Hp → Prop) (M : Hp → Prop), xs[i]? = some x → ys[i]? = some y → Same H1 H → N y H → g x (wipe σ vs) H fun σ2 H2 => wipe σ2 vs = wipe σ vs ∧ tt σ2 H2 fun b H3 => if b = true then te σ2 H3 N else M H3)
    (hd : Qd (upd H1 D (.lst ys))) :
    ∃ W : Nat → Nat → Hp → Prop, (∃ m, W 0 m (upd H1 D (.lst []))) ∧ ∀ i m H, W i m H →
      ((Itt K a).stop i H ∧ Qd H) ∨ ((Itt K a).go i H ∧ ∃ Nx : Hp → Prop, (∀ H', Nx H' → ∃ m', m' < m ∧ W (i + 1) m' H') ∧ ∀ x H', (Itt K a).yld i H x H' → g x (wipe σ vs) H' fun σ2 H2 => wipe σ2 vs = wipe σ vs ∧ tt σ2 H2 fun b H3 =>
        if b = true then te σ2 H3 fun y H4 => ∃ acc, H4 D = some (.lst acc) ∧ acc.length < sizeLine ∧ Nx (upd H4 D (.lst (acc ++ [y]))) else Nx H3) := by
  refine lc_tup (fun i H' => H' = upd H1 D (.lst (ys.take i))) rfl (fun i H' _ e => by
    rw [e]
    exact seqT (Same.new _ hD) hS) ?_ ?_
  · rintro i x H' hx rfl
    have lt : i < ys.length := by rw [hl]; exact (List.getElem?_eq_some_iff.mp hx).1
    have hy : ys[i]? = some ys[i] := List.getElem?_eq_getElem lt
    refine hs i x _ _ _ _ hx hy (Same.new _ hD) ⟨_, upd_same, small1000 (by rw [List.length_take]; omega), ?_⟩
    rw [upd_upd, take_succ_of hy]
  · rintro H' rfl
    rw [← hl, List.take_length]; exact hd
end
end Ice

set_option Elab.async false
set_option linter.all false
set_option maxRecDepth 100000
set_option maxHeartbeats 4000000
namespace Ice
open PySem PySem.Spec PyProof.Rows L2 TL
/-! side conditions, heaps, one step of a reading, and many -/
local macro_rules | `(tactic| walk_at "hp") => `(tactic| first | assumption | exact upd_same | exact New.at_ (by assumption) | (refine keepU ?_ (by assumption); walk_at "hp") | (refine New.app (by assumption) ?_; walk_at "hp") | (refine Same.app (by assumption) ?_; walk_at "hp") | (refine But.app (by assumption) (by assumption) ?_; walk_at "hp"))
local macro_rules | `(tactic| walk_at "sq") => `(tactic| first | assumption | exact SqL.lst (by walk_at "hp") | exact L2.Same.seq (New.same (by assumption)) (by assumption) | exact L2.Same.seq (by assumption) (by assumption))
local macro_rules | `(tactic| walk_at "len") => `(tactic| first | assumption | (simp only [List.length_cons, List.length_nil, List.length_append, List.length_map]; decide) | (refine Ice.sz_of ?_; simp only [List.length_cons, List.length_nil, List.length_append, List.length_map]; omega))
local macro_rules | `(tactic| walk_at "fresh") => `(tactic| (simp only [List.map_append, List.map_cons, List.map_nil, List.nil_append, List.cons_append]; decide +kernel))
local macro_rules | `(tactic| walk_at "sd") => `(tactic| first | assumption | (show _ ≠ _; omega) | exact Or.inl ⟨by omega, by omega⟩ | exact Or.inr ⟨by omega, by omega⟩ | exact ⟨by decide, by decide⟩ | exact ⟨by decide, by decide, by decide⟩ | exact ⟨by omega, by omega, by omega⟩)
/-! one step of a reading, and many -/
local macro_rules | `(tactic| walk_at "st") => `(tactic| first
  | with_reducible refine i_seq ?_
  | with_reducible refine i_if ?_
  | with_reducible refine i_next ?_
  | with_reducible refine i_ret ?_
  | with_reducible refine i_retN ?_
  | with_reducible refine i_drop ?_
  | with_reducible refine i_asg ?_
  | with_reducible refine i_gname ?_
  | with_reducible refine i_gsub ?_
  | ((with_reducible refine i_var (v := ?vv) ?hv ?_); (case hv => exact rfl))
  | with_reducible refine i_c ?_
  | with_reducible refine i_op ?_
  | with_reducible refine i_un ?_
  | with_reducible refine i_test ?_
  | with_reducible refine i_tB ?_
  | with_reducible refine i_and ?_
  | with_reducible refine i_or ?_
  | with_reducible refine i_not ?_
  | with_reducible refine i_andV ?_
  | with_reducible refine i_orV ?_
  | with_reducible refine i_notV ?_
  | with_reducible refine i_ifE ?_
  | with_reducible refine i_chain ?_
  | with_reducible refine i_bl ?_
  | with_reducible refine i_nil ?_
  | with_reducible refine i_cons ?_
  | with_reducible refine i_call ?_
  | with_reducible refine i_cb ?_
  | with_reducible refine i_rI0 ?_
  | with_reducible refine i_rU ?_
  | ((with_reducible refine i_rEq ?hs ?_); (case hs => exact rfl))
  | ((with_reducible refine i_rNe ?hs ?_); (case hs => exact rfl))
  | ((with_reducible refine i_rI ?hc ?_); (case hc => walk_at "sd"))
  | ((with_reducible refine i_ixL (xs := ?xs) (v := ?vv) ?hS ?he ?_); (case hS => walk_at "sq"); (case he => exact rfl))
  | ((with_reducible refine i_setL (xs := ?xs) (j := ?jj) ?hS ?he ?_); (case hS => walk_at "hp"); (case he => exact rfl))
  | with_reducible refine i_tup ?_
  | with_reducible refine i_lst ?_
  | with_reducible refine i_bm ?_
  | with_reducible refine i_bm0 ?_
  | with_reducible refine i_m1 ?_
  | with_reducible refine i_sl ?_
  | with_reducible refine i_nopart ?_
  | with_reducible refine i_part ?_
  | with_reducible refine i_int ?_
  | with_reducible refine i_str ?_
  | with_reducible refine i_for ?_
  | with_reducible refine i_yes ?_
  | ((with_reducible refine i_lenL (xs := ?xs) ?hS ?_); (case hS => walk_at "sq"))
  | ((with_reducible refine i_room ?hz ?_); (case hz => walk_at "len"))
  | with_reducible refine i_leT ?_
  | with_reducible refine i_notInS ?_
  | with_reducible refine i_inS ?_
  | with_reducible refine i_find ?_
  | with_reducible refine i_isB ?_
  | with_reducible refine i_max2 ?_
  | with_reducible refine i_min2 ?_
  | with_reducible exact trivial
  | with_reducible refine iteT ?_
  | with_reducible refine iteF ?_
  | with_reducible refine i_isstr ?_
  | with_reducible refine i_lc ?_
  | ((with_reducible refine i_cat (xs := ?xs) (zs := ?zs) ?ha ?hb ?hz ?_); (case ha => walk_at "hp"); (case hb => walk_at "hp"); (case hz => walk_at "len"))
  | ((with_reducible refine i_tyL (xs := ?xs) ?ha ?_); (case ha => walk_at "hp"))
  | with_reducible refine i_list ?_
  | with_reducible refine i_disp ?_
  | with_reducible refine i_pairs0 ?_
  | with_reducible refine i_pairs ?_
  | with_reducible refine i_newK ?_
  | with_reducible refine i_gcons ?_
  | with_reducible refine i_gnil ?_
  | with_reducible refine i_revL ?_
  | with_reducible refine i_rng1 ?_
  | ((with_reducible refine i_wipe ?hw ?_); (case hw => exact rfl))
  | with_reducible refine iteNT ?_
  | with_reducible refine iteNF ?_)
local macro_rules | `(tactic| walk_at "sx") => `(tactic| first
  | walk_at "st"
  | with_reducible refine i_kinit ?_
  | with_reducible refine i_ost ?_
  | with_reducible refine i_mkO ?_
  | with_reducible refine i_callE ?_
  | with_reducible refine i_makeE ?_
  | with_reducible refine i_xf ?_
  | with_reducible refine i_sfld ?_
  | with_reducible refine i_fld ?_
  | ((with_reducible refine i_ixT (xs := ?xs) (v := ?vv) ?hS ?he ?_); (case hS => exact SqT.tup (by walk_at "hp")); (case he => exact rfl))
  | with_reducible refine i_intB ?_
  | with_reducible refine i_runS ?_
  | with_reducible refine i_runN ?_
  | ((with_reducible refine i_xf1 (fs := ?ff) (v := ?vv) ?hx ?hl ?_); (case hx => walk_at "hp"); (case hl => exact rfl))
  | with_reducible refine i_methE ?_
  | with_reducible refine i_meth ?_
  | with_reducible refine i_make ?_
  | ((with_reducible refine i_obj (dx := ?dd) (fs := ?ff) ?hx ?hl ?_); (case hx => walk_at "hp"); (case hl => exact rfl))
  | ((with_reducible refine i_fld1 (C := ?CC) (dx := ?dd) (fs := ?ff) (v := ?vv) ?hx ?cl ?na ?hl ?_); (case hx => walk_at "hp"); (case cl => assumption); (case na => assumption); (case hl => exact rfl)))
local macro_rules | `(tactic| walk_at "rd") => `(tactic| repeat (walk_at "sx"))

section
variable {P : Program} {w : World} {K : PySem.W.Frag} {mg : Str → Option Value} {base : Heap}
theorem i_tupI {σ : L2.St} {H : Hp} {te : TE} {R : It → Hp → Prop} (h : te σ H fun x H1 => ∃ a, x = .ref a ∧ (∃ xs, SqT K H1 a xs) ∧ R (Itt K a) H1) : iTup K te σ H R := h
/-- a thing of a list that is to be a train -/
inductive ItT (T : Top K mg) (H : Hp) : V → Bool → Prop
  | ves {x : Addr} {v : Vd} : VesT T H x v → ItT T H (.ref x) true
  | oth {v : V} {t : Value} : TyX K H v t → PySem.W.kitOne K t (.ref T.a_Vessel) = some false → ItT T H v false
  | trn {x dx : Addr} {fs : List (Str × V)} : H x = some (.ins T.a_Train dx fs) → ItT T H (.ref x) false
theorem tyI {C a dx : Addr} {fs : List (Str × V)} {H : Hp} (e : H a = some (.ins C dx fs)) (cl : Cls K C) (ca : PySem.W.findIn K (.ref C) "__class__" = some (some (.builtin "object.__class__"))) (mo : PySem.W.mroIn K C (.type "object") = some true) (T : Top K mg) :
    TyX K H (.ref a) (.ref C) := .base (.ins e cl ca T.sgc T.tkc mo)
theorem ves_ty (T : Top K mg) {H : Hp} {x : Addr} {v : Vd} (h : VesT T H x v) : ∃ C, TyX K H (.ref x) (.ref C) ∧ PySem.W.kitOne K (.ref C) (.ref T.a_Vessel) = some true ∧ PySem.W.kitOne K (.ref C) (.ref T.a_Train) = some false := by
  obtain ⟨_, dx, hx⟩ := h
  cases hk : v.k with
  | v => rw [hk] at hx; exact ⟨_, tyI hx T.cl_Vessel T.ca_Vessel T.mo_Vessel T, T.io_Vessel_Vessel, T.io_Vessel_Train⟩
  | b => rw [hk] at hx; exact ⟨_, tyI hx T.cl_Breaker T.ca_Breaker T.mo_Breaker T, T.io_Breaker_Vessel, T.io_Breaker_Train⟩
  | s => rw [hk] at hx; exact ⟨_, tyI hx T.cl_Ship T.ca_Ship T.mo_Ship T, T.io_Ship_Vessel, T.io_Ship_Train⟩
theorem i_isiV {H : Hp} {Q : VK} {v : V} {D : Addr} {t : Value} {b : Bool} (h : TyX K H v t) (e : PySem.W.kitOne K t (.ref D) = some b) (q : Q (.bl b) H) : rIsi K [v, .ref D] H Q := ⟨v, .ref D, t, .ref D, b, rfl, .own D, h, e, q⟩
theorem tyx_same {H H' : Hp} {v : V} {t : Value} (h : TyX K H v t) (e : Same H H') : TyX K H' v t := by
  cases h with
  | base h =>
    refine .base ?_
    cases h with
    | non => exact .non
    | bl x => exact .bl x
    | int i => exact .int i
    | str x => exact .str x
    | flt x => exact .flt x
    | lst h => exact .lst (e _ _ h)
    | frz h => exact .frz (e _ _ h)
    | tup h => exact .tup (e _ _ h)
    | dK h => exact .dK (e _ _ h)
    | dT h => exact .dT (e _ _ h)
    | ins h cl a b c d => exact .ins (e _ _ h) cl a b c d
  | byt b => exact .byt b
  | set h => exact .set (e _ _ h)
  | kList h c => exact .kList h c
  | kTuple h c => exact .kTuple h c
  | kDict h c => exact .kDict h c
  | fTuple h => exact .fTuple (e _ _ h)
  | fDict h => exact .fDict (e _ _ h)
theorem ItT.same {T : Top K mg} {H H' : Hp} {v : V} {b : Bool} (h : ItT T H v b) (e : Same H H') : ItT T H' v b := by
  cases h with
  | ves h => exact .ves (h.same e)
  | oth h k => exact .oth (tyx_same h e) k
  | trn h => exact .trn (e _ _ h)
/-- what can be a train -/
inductive CanT (T : Top K mg) (H : Hp) : V → Bool → Prop
  | no {v : V} {t : Value} : TyX K H v t → PySem.W.kitAny K t [.type "list", .type "tuple"] = some false → CanT T H v false
  | lst {p : Addr} {xs : List V} {bs : List Bool} : SqL K H p xs → TyX K H (.ref p) (.type "list") → bs.length = xs.length → (∀ (i : Nat) (x : V) (b : Bool), xs[i]? = some x → bs[i]? = some b → ItT T H x b) → CanT T H (.ref p) (decide ((1 : Int) ≤ xs.length) && decide ((xs.length : Int) ≤ 6) && bs.all id)
  | tup {p : Addr} {xs : List V} {bs : List Bool} : SqT K H p xs → TyX K H (.ref p) (.type "tuple") → bs.length = xs.length → (∀ (i : Nat) (x : V) (b : Bool), xs[i]? = some x → bs[i]? = some b → ItT T H x b) → CanT T H (.ref p) (decide ((1 : Int) ≤ xs.length) && decide ((xs.length : Int) ≤ 6) && bs.all id)
def spCan (T : Top K mg) : Sp := fun vs H Q _ => ∃ (v : V) (b : Bool), vs = [v] ∧ CanT T H v b ∧ ∀ H', Same H H' → Q (.bl b) H'
theorem tail_all {bs : List Bool} {i : Nat} (h : (bs.take i).all id = true) {b : Bool} (hb : bs[i]? = some b) : (b = false → bs.all id = false) ∧ (b = true → (bs.take (i + 1)).all id = true) := by
  refine ⟨fun e => ?_, fun e => ?_⟩
  · subst e
    rw [List.all_eq_false]
    exact ⟨false, List.mem_of_getElem? hb, by decide⟩
  · rw [take_succ_of hb, List.all_append, h, e]; rfl
theorem i_isiTT {H : Hp} {Q : VK} {v : V} {tp : Addr} {t : Value} {b : Bool} (hT : H tp = some (.tup [.ty "list", .ty "tuple"])) (h : TyX K H v t) (e : PySem.W.kitAny K t [.type "list", .type "tuple"] = some b) (q : Q (.bl b) H) : rIsiT K [v, .ref tp] H Q :=
  ⟨v, tp, _, t, _, b, rfl, hT, .cons (.ty _) (.cons (.ty _) .nil), h, e, q⟩
theorem kitL : PySem.W.kitAny K (.type "list") [.type "list", .type "tuple"] = some true := rfl
theorem kitT : PySem.W.kitAny K (.type "tuple") [.type "list", .type "tuple"] = some true := by
  show (match PySem.W.kitOne K (.type "tuple") (.type "list") with | some true => some true | some false => PySem.W.kitAny K (.type "tuple") [.type "tuple"] | none => none) = some true
  rw [show PySem.W.kitOne K (.type "tuple") (.type "list") = some false from kit_ty (by decide +kernel)]
  rfl
theorem ok_can_be_train (T : Top K mg) : FnG P w K mg base CX0 1 T.a_can_be_train T.d_can_be_train ["thing"] (spCan T) := by
  refine okG T.F_can_be_train sc_can_be_train (fun vs H Q E h => ?_) (fun cdv A outer s H vs Q E hr hgd h => ?_)
  · obtain ⟨v, b, rfl, _⟩ := h
    rfl
  · obtain ⟨v, b, rfl, c, q⟩ := h
    cases c with
    | no ty k =>
      refine ⟨_, (pss_cons (ps_if (PW.pt (pw_or (pt_not (pt_val (pe_callB call_isiT (by rfl) T.n_isinstance (by decide +kernel) (pa_cons (pv 0) (pa_cons (pe_tup (pa_cons (pe_bltn (v := .ty "list") (by rfl) T.n_list (by decide +kernel) rfl) (pa_cons (pe_bltn (v := .ty "tuple") (by rfl) T.n_tuple (by decide +kernel) rfl) pa_nil))) pa_nil))))) (pw_or1 (pt_not (pt_chain op_le op_le pe_int (pe_callB c_len (by rfl) T.n_len (by decide +kernel) (pa_cons (pv 0) pa_nil)) (pe_glob (v := .int 6) (by rfl) T.c_TRAIN_MOST ⟨_, rfl⟩))))))
        (pss_one (ps_ret pe_bl))
        pss_nil)
      (pss_cons (ps_for PassesOwn.never rfl (pi_list (pv 0)) (pg_name (i := 1) sc_can_be_train.nd rfl (by first | exact Or.inl rfl | exact Or.inr rfl))
        (pss_one (ps_if (PW.pt (pw_or (pt_not (pt_val (pe_callB c_isi (by rfl) T.n_isinstance (by decide +kernel) (pa_cons (pv 1) (pa_cons (pe_glob (v := .ref T.a_Vessel) (by rfl) T.c_Vessel rfl) pa_nil))))) (pw_or1 (pt_val (pe_callB c_isi (by rfl) T.n_isinstance (by decide +kernel) (pa_cons (pv 1) (pa_cons (pe_glob (v := .ref T.a_Train) (by rfl) T.c_Train rfl) pa_nil)))))))
        (pss_one (ps_ret pe_bl))
        pss_nil)))
      (pss_one (ps_ret pe_bl)))), ?_⟩
      walk_at "rd"
      (intro p1 hp1; generalize ep1 : upd _ p1 _ = J1; have N1 := New.of ep1 hp1; clear ep1 hp1)
      walk_at "rd"
      refine i_isiTT N1.at_ (tyx_same ty N1.same) k ?_
      walk_at "rd"
      exact q _ N1.same
    | @lst p xs bs hS ty hl hit =>
      refine ⟨_, (pss_cons (ps_if (PW.pt (pw_or (pt_not (pt_val (pe_callB call_isiT (by rfl) T.n_isinstance (by decide +kernel) (pa_cons (pv 0) (pa_cons (pe_tup (pa_cons (pe_bltn (v := .ty "list") (by rfl) T.n_list (by decide +kernel) rfl) (pa_cons (pe_bltn (v := .ty "tuple") (by rfl) T.n_tuple (by decide +kernel) rfl) pa_nil))) pa_nil))))) (pw_or1 (pt_not (pt_chain op_le op_le pe_int (pe_callB c_len (by rfl) T.n_len (by decide +kernel) (pa_cons (pv 0) pa_nil)) (pe_glob (v := .int 6) (by rfl) T.c_TRAIN_MOST ⟨_, rfl⟩))))))
        (pss_one (ps_ret pe_bl))
        pss_nil)
      (pss_cons (ps_for PassesOwn.never rfl (pi_list (pv 0)) (pg_name (i := 1) sc_can_be_train.nd rfl (by first | exact Or.inl rfl | exact Or.inr rfl))
        (pss_one (ps_if (PW.pt (pw_or (pt_not (pt_val (pe_callB c_isi (by rfl) T.n_isinstance (by decide +kernel) (pa_cons (pv 1) (pa_cons (pe_glob (v := .ref T.a_Vessel) (by rfl) T.c_Vessel rfl) pa_nil))))) (pw_or1 (pt_val (pe_callB c_isi (by rfl) T.n_isinstance (by decide +kernel) (pa_cons (pv 1) (pa_cons (pe_glob (v := .ref T.a_Train) (by rfl) T.c_Train rfl) pa_nil)))))))
        (pss_one (ps_ret pe_bl))
        pss_nil)))
      (pss_one (ps_ret pe_bl)))), ?_⟩
      walk_at "rd"
      (intro p1 hp1; generalize ep1 : upd _ p1 _ = J1; have N1 := New.of ep1 hp1; clear ep1 hp1)
      walk_at "rd"
      refine i_isiTT N1.at_ (tyx_same ty N1.same) kitL ?_
      have hS1 := L2.Same.seq N1.same hS
      walk_at "rd"
      refine ifs (fun h1 => ?_) (fun h1 => ?_)
      · walk_at "rd"
        refine ifs (fun h2 => ?_) (fun h2 => ?_)
        · walk_at "rd"
          replace h2 : decide ((xs.length : Int) ≤ 6) = false := by simpa using h2
          rw [h2, Bool.and_false, Bool.false_and] at q
          exact q _ N1.same
        · walk_at "rd"
          replace h2 : decide ((xs.length : Int) ≤ 6) = true := by simpa using h2
          rw [h1, h2, Bool.and_self, Bool.true_and] at q
          refine ⟨p, rfl, ⟨_, hS1⟩, ?_⟩
          refine for_list (K := K) (a := p) (xs := xs) (fun i σ H' => Same J1 H' ∧ (bs.take i).all id = true ∧ ∃ z, σ = [some (.ref p), z])
            ⟨Same.refl _, rfl, _, rfl⟩ (fun i σ H' _ h => L2.Same.seq h.1 hS1) ?_ ?_
          · rintro i v σ H1 hi ⟨sH, hf, z, rfl⟩
            have lt : i < bs.length := by rw [hl]; exact (List.getElem?_eq_some_iff.mp hi).1
            have hb : bs[i]? = some bs[i] := List.getElem?_eq_getElem lt
            obtain ⟨t1, t2⟩ := tail_all hf hb
            have s01 := N1.same.trans sH
            have it := (hit i v _ hi hb).same s01
            generalize bs[i] = b at it t1 t2
            walk_at "rd"
            cases it with
            | ves h =>
              obtain ⟨C, ty1, k1, k2⟩ := ves_ty T h
              refine i_isiV ty1 k1 ?_
              walk_at "rd"
              refine i_isiV ty1 k2 ?_
              walk_at "rd"
              exact ⟨sH, t2 rfl, _, rfl⟩
            | oth h k =>
              refine i_isiV h k ?_
              walk_at "rd"
              rw [t1 rfl] at q
              exact q _ s01
            | trn h =>
              have ty1 := tyI h T.cl_Train T.ca_Train T.mo_Train T
              refine i_isiV ty1 T.io_Train_Vessel ?_
              walk_at "rd"
              refine i_isiV ty1 T.io_Train_Train ?_
              walk_at "rd"
              rw [t1 rfl] at q
              exact q _ s01
          · rintro σ H1 ⟨sH, hf, z, rfl⟩
            rw [← hl, List.take_length] at hf
            rw [hf] at q
            walk_at "rd"
            exact q _ (N1.same.trans sH)
      · walk_at "rd"
        rw [h1, Bool.false_and, Bool.false_and] at q
        exact q _ N1.same
    | @tup p xs bs hS ty hl hit =>
      refine ⟨_, (pss_cons (ps_if (PW.pt (pw_or (pt_not (pt_val (pe_callB call_isiT (by rfl) T.n_isinstance (by decide +kernel) (pa_cons (pv 0) (pa_cons (pe_tup (pa_cons (pe_bltn (v := .ty "list") (by rfl) T.n_list (by decide +kernel) rfl) (pa_cons (pe_bltn (v := .ty "tuple") (by rfl) T.n_tuple (by decide +kernel) rfl) pa_nil))) pa_nil))))) (pw_or1 (pt_not (pt_chain op_le op_le pe_int (pe_callB c_len (by rfl) T.n_len (by decide +kernel) (pa_cons (pv 0) pa_nil)) (pe_glob (v := .int 6) (by rfl) T.c_TRAIN_MOST ⟨_, rfl⟩))))))
        (pss_one (ps_ret pe_bl))
        pss_nil)
      (pss_cons (ps_for PassesOwn.never rfl (pi_tup (pv 0)) (pg_name (i := 1) sc_can_be_train.nd rfl (by first | exact Or.inl rfl | exact Or.inr rfl))
        (pss_one (ps_if (PW.pt (pw_or (pt_not (pt_val (pe_callB c_isi (by rfl) T.n_isinstance (by decide +kernel) (pa_cons (pv 1) (pa_cons (pe_glob (v := .ref T.a_Vessel) (by rfl) T.c_Vessel rfl) pa_nil))))) (pw_or1 (pt_val (pe_callB c_isi (by rfl) T.n_isinstance (by decide +kernel) (pa_cons (pv 1) (pa_cons (pe_glob (v := .ref T.a_Train) (by rfl) T.c_Train rfl) pa_nil)))))))
        (pss_one (ps_ret pe_bl))
        pss_nil)))
      (pss_one (ps_ret pe_bl)))), ?_⟩
      walk_at "rd"
      (intro p1 hp1; generalize ep1 : upd _ p1 _ = J1; have N1 := New.of ep1 hp1; clear ep1 hp1)
      walk_at "rd"
      refine i_isiTT N1.at_ (tyx_same ty N1.same) kitT ?_
      have hS1 := seqT N1.same hS
      walk_at "rd"
      refine ⟨p, xs, rfl, .inr hS1, ?_⟩
      walk_at "rd"
      refine ifs (fun h1 => ?_) (fun h1 => ?_)
      · walk_at "rd"
        refine ifs (fun h2 => ?_) (fun h2 => ?_)
        · walk_at "rd"
          replace h2 : decide ((xs.length : Int) ≤ 6) = false := by simpa using h2
          rw [h2, Bool.and_false, Bool.false_and] at q
          exact q _ N1.same
        · walk_at "rd"
          replace h2 : decide ((xs.length : Int) ≤ 6) = true := by simpa using h2
          rw [h1, h2, Bool.and_self, Bool.true_and] at q
          refine i_tupI ?_
          walk_at "rd"
          refine ⟨p, rfl, ⟨_, hS1⟩, ?_⟩
          refine for_tup (K := K) (a := p) (xs := xs) (fun i σ H' => Same J1 H' ∧ (bs.take i).all id = true ∧ ∃ z, σ = [some (.ref p), z])
            ⟨Same.refl _, rfl, _, rfl⟩ (fun i σ H' _ h => seqT h.1 hS1) ?_ ?_
          · rintro i v σ H1 hi ⟨sH, hf, z, rfl⟩
            have lt : i < bs.length := by rw [hl]; exact (List.getElem?_eq_some_iff.mp hi).1
            have hb : bs[i]? = some bs[i] := List.getElem?_eq_getElem lt
            obtain ⟨t1, t2⟩ := tail_all hf hb
            have s01 := N1.same.trans sH
            have it := (hit i v _ hi hb).same s01
            generalize bs[i] = b at it t1 t2
            walk_at "rd"
            cases it with
            | ves h =>
              obtain ⟨C, ty1, k1, k2⟩ := ves_ty T h
              refine i_isiV ty1 k1 ?_
              walk_at "rd"
              refine i_isiV ty1 k2 ?_
              walk_at "rd"
              exact ⟨sH, t2 rfl, _, rfl⟩
            | oth h k =>
              refine i_isiV h k ?_
              walk_at "rd"
              rw [t1 rfl] at q
              exact q _ s01
            | trn h =>
              have ty1 := tyI h T.cl_Train T.ca_Train T.mo_Train T
              refine i_isiV ty1 T.io_Train_Vessel ?_
              walk_at "rd"
              refine i_isiV ty1 T.io_Train_Train ?_
              walk_at "rd"
              rw [t1 rfl] at q
              exact q _ s01
          · rintro σ H1 ⟨sH, hf, z, rfl⟩
            rw [← hl, List.take_length] at hf
            rw [hf] at q
            walk_at "rd"
            exact q _ (N1.same.trans sH)
      · walk_at "rd"
        rw [h1, Bool.false_and, Bool.false_and] at q
        exact q _ N1.same
end
end Ice

set_option Elab.async false
set_option linter.all false
set_option maxRecDepth 100000
set_option maxHeartbeats 4000000
namespace Ice
open PySem PySem.Spec PyProof.Rows L2 TL
/-! side conditions, heaps, one step of a reading, and many -/
local macro_rules | `(tactic| walk_at "hp") => `(tactic| first | assumption | exact upd_same | exact New.at_ (by assumption) | (refine keepU ?_ (by assumption); walk_at "hp") | (refine New.app (by assumption) ?_; walk_at "hp") | (refine Same.app (by assumption) ?_; walk_at "hp") | (refine But.app (by assumption) (by assumption) ?_; walk_at "hp"))
local macro_rules | `(tactic| walk_at "sq") => `(tactic| first | assumption | exact SqL.lst (by walk_at "hp") | exact L2.Same.seq (New.same (by assumption)) (by assumption) | exact L2.Same.seq (by assumption) (by assumption))
local macro_rules | `(tactic| walk_at "len") => `(tactic| first | assumption | (simp only [List.length_cons, List.length_nil, List.length_append, List.length_map]; decide) | (refine Ice.sz_of ?_; simp only [List.length_cons, List.length_nil, List.length_append, List.length_map]; omega))
local macro_rules | `(tactic| walk_at "fresh") => `(tactic| (simp only [List.map_append, List.map_cons, List.map_nil, List.nil_append, List.cons_append]; decide +kernel))
local macro_rules | `(tactic| walk_at "sd") => `(tactic| first | assumption | (show _ ≠ _; omega) | exact Or.inl ⟨by omega, by omega⟩ | exact Or.inr ⟨by omega, by omega⟩ | exact ⟨by decide, by decide⟩ | exact ⟨by decide, by decide, by decide⟩ | exact ⟨by omega, by omega, by omega⟩)
/-! one step of a reading, and many -/
local macro_rules | `(tactic| walk_at "st") => `(tactic| first
  | with_reducible refine i_seq ?_
  | with_reducible refine i_if ?_
  | with_reducible refine i_next ?_
  | with_reducible refine i_ret ?_
  | with_reducible refine i_retN ?_
  | with_reducible refine i_drop ?_
  | with_reducible refine i_asg ?_
  | with_reducible refine i_gname ?_
  | with_reducible refine i_gsub ?_
  | ((with_reducible refine i_var (v := ?vv) ?hv ?_); (case hv => exact rfl))
  | with_reducible refine i_c ?_
  | with_reducible refine i_op ?_
  | with_reducible refine i_un ?_
  | with_reducible refine i_test ?_
  | with_reducible refine i_tB ?_
  | with_reducible refine i_and ?_
  | with_reducible refine i_or ?_
  | with_reducible refine i_not ?_
  | with_reducible refine i_andV ?_
  | with_reducible refine i_orV ?_
  | with_reducible refine i_notV ?_
  | with_reducible refine i_ifE ?_
  | with_reducible refine i_chain ?_
  | with_reducible refine i_bl ?_
  | with_reducible refine i_nil ?_
  | with_reducible refine i_cons ?_
  | with_reducible refine i_call ?_
  | with_reducible refine i_cb ?_
  | with_reducible refine i_rI0 ?_
  | with_reducible refine i_rU ?_
  | ((with_reducible refine i_rEq ?hs ?_); (case hs => exact rfl))
  | ((with_reducible refine i_rNe ?hs ?_); (case hs => exact rfl))
  | ((with_reducible refine i_rI ?hc ?_); (case hc => walk_at "sd"))
  | ((with_reducible refine i_ixL (xs := ?xs) (v := ?vv) ?hS ?he ?_); (case hS => walk_at "sq"); (case he => exact rfl))
  | ((with_reducible refine i_setL (xs := ?xs) (j := ?jj) ?hS ?he ?_); (case hS => walk_at "hp"); (case he => exact rfl))
  | with_reducible refine i_tup ?_
  | with_reducible refine i_lst ?_
  | with_reducible refine i_bm ?_
  | with_reducible refine i_bm0 ?_
  | with_reducible refine i_m1 ?_
  | with_reducible refine i_sl ?_
  | with_reducible refine i_nopart ?_
  | with_reducible refine i_part ?_
  | with_reducible refine i_int ?_
  | with_reducible refine i_str ?_
  | with_reducible refine i_for ?_
  | with_reducible refine i_yes ?_
  | ((with_reducible refine i_lenL (xs := ?xs) ?hS ?_); (case hS => walk_at "sq"))
  | ((with_reducible refine i_room ?hz ?_); (case hz => walk_at "len"))
  | with_reducible refine i_leT ?_
  | with_reducible refine i_notInS ?_
  | with_reducible refine i_inS ?_
  | with_reducible refine i_find ?_
  | with_reducible refine i_isB ?_
  | with_reducible refine i_max2 ?_
  | with_reducible refine i_min2 ?_
  | with_reducible exact trivial
  | with_reducible refine iteT ?_
  | with_reducible refine iteF ?_
  | with_reducible refine i_isstr ?_
  | with_reducible refine i_lc ?_
  | ((with_reducible refine i_cat (xs := ?xs) (zs := ?zs) ?ha ?hb ?hz ?_); (case ha => walk_at "hp"); (case hb => walk_at "hp"); (case hz => walk_at "len"))
  | ((with_reducible refine i_tyL (xs := ?xs) ?ha ?_); (case ha => walk_at "hp"))
  | with_reducible refine i_list ?_
  | with_reducible refine i_disp ?_
  | with_reducible refine i_pairs0 ?_
  | with_reducible refine i_pairs ?_
  | with_reducible refine i_newK ?_
  | with_reducible refine i_gcons ?_
  | with_reducible refine i_gnil ?_
  | with_reducible refine i_revL ?_
  | with_reducible refine i_rng1 ?_
  | ((with_reducible refine i_wipe ?hw ?_); (case hw => exact rfl))
  | with_reducible refine iteNT ?_
  | with_reducible refine iteNF ?_)
local macro_rules | `(tactic| walk_at "sx") => `(tactic| first
  | walk_at "st"
  | with_reducible refine i_kinit ?_
  | with_reducible refine i_ost ?_
  | with_reducible refine i_mkO ?_
  | with_reducible refine i_callE ?_
  | with_reducible refine i_makeE ?_
  | with_reducible refine i_xf ?_
  | with_reducible refine i_sfld ?_
  | with_reducible refine i_fld ?_
  | ((with_reducible refine i_ixT (xs := ?xs) (v := ?vv) ?hS ?he ?_); (case hS => exact SqT.tup (by walk_at "hp")); (case he => exact rfl))
  | with_reducible refine i_intB ?_
  | with_reducible refine i_runS ?_
  | with_reducible refine i_runN ?_
  | ((with_reducible refine i_xf1 (fs := ?ff) (v := ?vv) ?hx ?hl ?_); (case hx => walk_at "hp"); (case hl => exact rfl))
  | with_reducible refine i_methE ?_
  | with_reducible refine i_meth ?_
  | with_reducible refine i_make ?_
  | ((with_reducible refine i_obj (dx := ?dd) (fs := ?ff) ?hx ?hl ?_); (case hx => walk_at "hp"); (case hl => exact rfl))
  | ((with_reducible refine i_fld1 (C := ?CC) (dx := ?dd) (fs := ?ff) (v := ?vv) ?hx ?cl ?na ?hl ?_); (case hx => walk_at "hp"); (case cl => assumption); (case na => assumption); (case hl => exact rfl)))
local macro_rules | `(tactic| walk_at "rd") => `(tactic| repeat (walk_at "sx"))

section
variable {P : Program} {w : World} {K : PySem.W.Frag} {mg : Str → Option Value} {base : Heap}
theorem VesL.get {T : Top K mg} {H : Hp} {L : VL} (h : VesL T.a_Vessel T.a_Breaker T.a_Ship H L) {i : Nat} {z : Addr × Vd} (hz : L[i]? = some z) : VesT T H z.1 z.2 := h z (List.mem_of_getElem? hz)
theorem i_thins (T : Top K mg) {H : Hp} {Q : VK} {E : XK} {i : Nat} {σ : L2.St} {x : Addr} {v : Vd} (h : VesT T H x v) (hx : σ[i]? = some (some (.ref x))) (q : Q (.int v.thin) H) :
    tAlt (tMeth T.a_Vessel (Str.ofString "thins") spZero [] E (tVar i) tNil) (tAlt (tMeth T.a_Breaker (Str.ofString "thins") (spCut T.a_Breaker) [] E (tVar i) tNil) (tMeth T.a_Ship (Str.ofString "thins") spZero [] E (tVar i) tNil)) σ H Q := by
  obtain ⟨_, dx, hO⟩ := h
  have hl := v.l_none.1
  unfold Vd.thin at q
  cases hk : v.k with
  | v =>
    rw [hk] at hO q
    exact .inl ⟨_, hx, x, dx, _, rfl, hO, hl, x, rfl, q⟩
  | b =>
    rw [hk] at hO q
    refine .inr (.inl ⟨_, hx, x, dx, _, rfl, hO, hl, x, dx, _, _, rfl, hO, ?_, q⟩)
    unfold Vd.flds Vd.row
    rw [hk]; rfl
  | s =>
    rw [hk] at hO q
    exact .inr (.inr ⟨_, hx, x, dx, _, rfl, hO, hl, x, rfl, q⟩)
def spStr (T : Top K mg) : Sp := fun vs H Q _ => ∃ (p : Addr) (L : VL), vs = [.ref p] ∧ (SqL K H p (refs L) ∨ SqT K H p (refs L)) ∧ 1 ≤ L.length ∧ L.length ≤ 6 ∧ VesL T.a_Vessel T.a_Breaker T.a_Ship H L ∧ ∀ m H', IsMin m (strL 0 L) → Same H H' → Q (.int m) H'
theorem ok_strength_together (T : Top K mg) : FnG P w K mg base CX0 2 T.a_strength_together T.d_strength_together ["vessels"] (spStr T) := by
  have G_Vessel_thins := ok_Vessel_thins (P := P) (w := w) (base := base) T
  have G_Breaker_thins := ok_Breaker_thins (P := P) (w := w) (base := base) T
  refine okG T.F_strength_together sc_strength_together (fun vs H Q E h => ?_) (fun cdv A outer s H vs Q E hr hgd h => ?_)
  · obtain ⟨p, L, rfl, _⟩ := h
    rfl
  · obtain ⟨p, L, rfl, hS, l1, l6, hv, q⟩ := h
    rcases hS with hS | hS
    · refine ⟨_, (pss_cons (ps_set (i := 1) sc_strength_together.nd rfl (by first | exact Or.inl rfl | exact Or.inr rfl) pe_int)
      (pss_cons (ps_set (i := 2) sc_strength_together.nd rfl (by first | exact Or.inl rfl | exact Or.inr rfl) (pe_lst pa_nil))
      (pss_cons (ps_for PassesOwn.never rfl (pi_list (pv 0)) (pg_name (i := 3) sc_strength_together.nd rfl (by first | exact Or.inl rfl | exact Or.inr rfl))
        (pss_cons (ps_expr (pe_bm PySem.F.plainAttrs_list PySem.F.slot_list_append PySem.F.type_list_append mt_append (pv 2) (pa_cons (pe_op op_add (pe_fld (pv 3) rfl) (pv 1)) pa_nil)))
      (pss_one (ps_aug (i := 1) sc_strength_together.nd rfl (by first | exact Or.inl rfl | exact Or.inr rfl) (pe_alt (g_meth0 (pv 3) T.cl_Vessel T.me_Vessel_thins G_Vessel_thins (hr.mono (by decide)) hgd T.b_Vessel_thins .nil pass0) (pe_alt (g_meth0 (pv 3) T.cl_Breaker T.me_Breaker_thins G_Breaker_thins (hr.mono (by decide)) hgd T.b_Breaker_thins .nil pass0) (g_meth0 (pv 3) T.cl_Ship T.me_Ship_thins G_Vessel_thins (hr.mono (by decide)) hgd T.b_Vessel_thins .nil pass0))) ip_add))))
      (pss_one (ps_ret (pe_callB (cr_min (by rfl)) (by rfl) T.n_min (by decide +kernel) (pa_cons (pv 2) pa_nil))))))), ?_⟩
      walk_at "rd"
      (intro D hD; generalize eD : upd _ D _ = J0; have N0 := New.of eD hD; clear eD hD)
      walk_at "rd"
      refine ⟨p, rfl, ⟨_, L2.Same.seq N0.same hS⟩, ?_⟩
      refine for_list (K := K) (a := p) (xs := refs L) (fun i σ H' => Same H H' ∧ H' D = some (.lst ((strL 0 (L.take i)).map V.int)) ∧ ∃ z, σ = [some (.ref p), some (.int (thins (L.take i))), some (.ref D), z])
        ⟨N0.same, N0.at_, _, rfl⟩ (fun i σ H' _ h => L2.Same.seq h.1 hS) ?_ ?_
      · rintro i v σ H1 hi ⟨sH, hD, z0, rfl⟩
        obtain ⟨z, hz, rfl⟩ := refs_get hi
        have vz := (hv.get hz).same sH
        walk_at "rd"
        refine f_strength T vz ?_
        walk_at "rd"
        refine i_append hD (by simp [strL_len]; omega) ?_
        walk_at "rd"
        have s1 : Same H (upd H1 D (.lst ((strL 0 (L.take i)).map V.int ++ [V.int (z.2.s + thins (L.take i))]))) := Same.upd sH N0.free
        refine i_aug rfl ?_
        refine i_thins T ((hv.get hz).same s1) rfl ?_
        refine i_ipI ?_
        refine ⟨s1, ?_, some (.ref z.1), ?_⟩
        · rw [upd_same, take_succ_of hz, strL_app]
          simp [strL]
        · rw [take_succ_of hz, thins_app]
          have e : thins [z] = z.2.thin := by simp [thins]
          rw [e]; rfl
      · rintro σ H1 ⟨sH, hD, z0, rfl⟩
        rw [show (refs L).length = L.length by simp [refs], List.take_length] at hD
        walk_at "rd"
        refine ⟨D, _, rfl, SqL.lst hD, by rw [strL_len]; omega, fun m hm hall => ?_⟩
        exact q m H1 ⟨hm, hall⟩ sH
    · refine ⟨_, (pss_cons (ps_set (i := 1) sc_strength_together.nd rfl (by first | exact Or.inl rfl | exact Or.inr rfl) pe_int)
      (pss_cons (ps_set (i := 2) sc_strength_together.nd rfl (by first | exact Or.inl rfl | exact Or.inr rfl) (pe_lst pa_nil))
      (pss_cons (ps_for PassesOwn.never rfl (pi_tup (pv 0)) (pg_name (i := 3) sc_strength_together.nd rfl (by first | exact Or.inl rfl | exact Or.inr rfl))
        (pss_cons (ps_expr (pe_bm PySem.F.plainAttrs_list PySem.F.slot_list_append PySem.F.type_list_append mt_append (pv 2) (pa_cons (pe_op op_add (pe_fld (pv 3) rfl) (pv 1)) pa_nil)))
      (pss_one (ps_aug (i := 1) sc_strength_together.nd rfl (by first | exact Or.inl rfl | exact Or.inr rfl) (pe_alt (g_meth0 (pv 3) T.cl_Vessel T.me_Vessel_thins G_Vessel_thins (hr.mono (by decide)) hgd T.b_Vessel_thins .nil pass0) (pe_alt (g_meth0 (pv 3) T.cl_Breaker T.me_Breaker_thins G_Breaker_thins (hr.mono (by decide)) hgd T.b_Breaker_thins .nil pass0) (g_meth0 (pv 3) T.cl_Ship T.me_Ship_thins G_Vessel_thins (hr.mono (by decide)) hgd T.b_Vessel_thins .nil pass0))) ip_add))))
      (pss_one (ps_ret (pe_callB (cr_min (by rfl)) (by rfl) T.n_min (by decide +kernel) (pa_cons (pv 2) pa_nil))))))), ?_⟩
      walk_at "rd"
      (intro D hD; generalize eD : upd _ D _ = J0; have N0 := New.of eD hD; clear eD hD)
      walk_at "rd"
      refine i_tupI ?_
      walk_at "rd"
      refine ⟨p, rfl, ⟨_, seqT N0.same hS⟩, ?_⟩
      refine for_tup (K := K) (a := p) (xs := refs L) (fun i σ H' => Same H H' ∧ H' D = some (.lst ((strL 0 (L.take i)).map V.int)) ∧ ∃ z, σ = [some (.ref p), some (.int (thins (L.take i))), some (.ref D), z])
        ⟨N0.same, N0.at_, _, rfl⟩ (fun i σ H' _ h => seqT h.1 hS) ?_ ?_
      · rintro i v σ H1 hi ⟨sH, hD, z0, rfl⟩
        obtain ⟨z, hz, rfl⟩ := refs_get hi
        have vz := (hv.get hz).same sH
        walk_at "rd"
        refine f_strength T vz ?_
        walk_at "rd"
        refine i_append hD (by simp [strL_len]; omega) ?_
        walk_at "rd"
        have s1 : Same H (upd H1 D (.lst ((strL 0 (L.take i)).map V.int ++ [V.int (z.2.s + thins (L.take i))]))) := Same.upd sH N0.free
        refine i_aug rfl ?_
        refine i_thins T ((hv.get hz).same s1) rfl ?_
        refine i_ipI ?_
        refine ⟨s1, ?_, some (.ref z.1), ?_⟩
        · rw [upd_same, take_succ_of hz, strL_app]
          simp [strL]
        · rw [take_succ_of hz, thins_app]
          have e : thins [z] = z.2.thin := by simp [thins]
          rw [e]; rfl
      · rintro σ H1 ⟨sH, hD, z0, rfl⟩
        rw [show (refs L).length = L.length by simp [refs], List.take_length] at hD
        walk_at "rd"
        refine ⟨D, _, rfl, SqL.lst hD, by rw [strL_len]; omega, fun m hm hall => ?_⟩
        exact q m H1 ⟨hm, hall⟩ sH
end
end Ice

set_option Elab.async false
set_option linter.all false
set_option maxRecDepth 100000
set_option maxHeartbeats 4000000
namespace Ice
open PySem PySem.Spec PyProof.Rows L2 TL
/-! side conditions, heaps, one step of a reading, and many -/
local macro_rules | `(tactic| walk_at "hp") => `(tactic| first | assumption | exact upd_same | exact New.at_ (by assumption) | (refine keepU ?_ (by assumption); walk_at "hp") | (refine New.app (by assumption) ?_; walk_at "hp") | (refine Same.app (by assumption) ?_; walk_at "hp") | (refine But.app (by assumption) (by assumption) ?_; walk_at "hp"))
local macro_rules | `(tactic| walk_at "sq") => `(tactic| first | assumption | exact SqL.lst (by walk_at "hp") | exact L2.Same.seq (New.same (by assumption)) (by assumption) | exact L2.Same.seq (by assumption) (by assumption))
local macro_rules | `(tactic| walk_at "len") => `(tactic| first | assumption | (simp only [List.length_cons, List.length_nil, List.length_append, List.length_map]; decide) | (refine Ice.sz_of ?_; simp only [List.length_cons, List.length_nil, List.length_append, List.length_map]; omega))
local macro_rules | `(tactic| walk_at "fresh") => `(tactic| (simp only [List.map_append, List.map_cons, List.map_nil, List.nil_append, List.cons_append]; decide +kernel))
local macro_rules | `(tactic| walk_at "sd") => `(tactic| first | assumption | (show _ ≠ _; omega) | exact Or.inl ⟨by omega, by omega⟩ | exact Or.inr ⟨by omega, by omega⟩ | exact ⟨by decide, by decide⟩ | exact ⟨by decide, by decide, by decide⟩ | exact ⟨by omega, by omega, by omega⟩)
/-! one step of a reading, and many -/
local macro_rules | `(tactic| walk_at "st") => `(tactic| first
  | with_reducible refine i_seq ?_
  | with_reducible refine i_if ?_
  | with_reducible refine i_next ?_
  | with_reducible refine i_ret ?_
  | with_reducible refine i_retN ?_
  | with_reducible refine i_drop ?_
  | with_reducible refine i_asg ?_
  | with_reducible refine i_gname ?_
  | with_reducible refine i_gsub ?_
  | ((with_reducible refine i_var (v := ?vv) ?hv ?_); (case hv => exact rfl))
  | with_reducible refine i_c ?_
  | with_reducible refine i_op ?_
  | with_reducible refine i_un ?_
  | with_reducible refine i_test ?_
  | with_reducible refine i_tB ?_
  | with_reducible refine i_and ?_
  | with_reducible refine i_or ?_
  | with_reducible refine i_not ?_
  | with_reducible refine i_andV ?_
  | with_reducible refine i_orV ?_
  | with_reducible refine i_notV ?_
  | with_reducible refine i_ifE ?_
  | with_reducible refine i_chain ?_
  | with_reducible refine i_bl ?_
  | with_reducible refine i_nil ?_
  | with_reducible refine i_cons ?_
  | with_reducible refine i_call ?_
  | with_reducible refine i_cb ?_
  | with_reducible refine i_rI0 ?_
  | with_reducible refine i_rU ?_
  | ((with_reducible refine i_rEq ?hs ?_); (case hs => exact rfl))
  | ((with_reducible refine i_rNe ?hs ?_); (case hs => exact rfl))
  | ((with_reducible refine i_rI ?hc ?_); (case hc => walk_at "sd"))
  | ((with_reducible refine i_ixL (xs := ?xs) (v := ?vv) ?hS ?he ?_); (case hS => walk_at "sq"); (case he => exact rfl))
  | ((with_reducible refine i_setL (xs := ?xs) (j := ?jj) ?hS ?he ?_); (case hS => walk_at "hp"); (case he => exact rfl))
  | with_reducible refine i_tup ?_
  | with_reducible refine i_lst ?_
  | with_reducible refine i_bm ?_
  | with_reducible refine i_bm0 ?_
  | with_reducible refine i_m1 ?_
  | with_reducible refine i_sl ?_
  | with_reducible refine i_nopart ?_
  | with_reducible refine i_part ?_
  | with_reducible refine i_int ?_
  | with_reducible refine i_str ?_
  | with_reducible refine i_for ?_
  | with_reducible refine i_yes ?_
  | ((with_reducible refine i_lenL (xs := ?xs) ?hS ?_); (case hS => walk_at "sq"))
  | ((with_reducible refine i_room ?hz ?_); (case hz => walk_at "len"))
  | with_reducible refine i_leT ?_
  | with_reducible refine i_notInS ?_
  | with_reducible refine i_inS ?_
  | with_reducible refine i_find ?_
  | with_reducible refine i_isB ?_
  | with_reducible refine i_max2 ?_
  | with_reducible refine i_min2 ?_
  | with_reducible exact trivial
  | with_reducible refine iteT ?_
  | with_reducible refine iteF ?_
  | with_reducible refine i_isstr ?_
  | with_reducible refine i_lc ?_
  | ((with_reducible refine i_cat (xs := ?xs) (zs := ?zs) ?ha ?hb ?hz ?_); (case ha => walk_at "hp"); (case hb => walk_at "hp"); (case hz => walk_at "len"))
  | ((with_reducible refine i_tyL (xs := ?xs) ?ha ?_); (case ha => walk_at "hp"))
  | with_reducible refine i_list ?_
  | with_reducible refine i_disp ?_
  | with_reducible refine i_pairs0 ?_
  | with_reducible refine i_pairs ?_
  | with_reducible refine i_newK ?_
  | with_reducible refine i_gcons ?_
  | with_reducible refine i_gnil ?_
  | with_reducible refine i_revL ?_
  | with_reducible refine i_rng1 ?_
  | ((with_reducible refine i_wipe ?hw ?_); (case hw => exact rfl))
  | with_reducible refine iteNT ?_
  | with_reducible refine iteNF ?_)
local macro_rules | `(tactic| walk_at "sx") => `(tactic| first
  | walk_at "st"
  | with_reducible refine i_kinit ?_
  | with_reducible refine i_ost ?_
  | with_reducible refine i_mkO ?_
  | with_reducible refine i_callE ?_
  | with_reducible refine i_makeE ?_
  | with_reducible refine i_xf ?_
  | with_reducible refine i_sfld ?_
  | with_reducible refine i_fld ?_
  | ((with_reducible refine i_ixT (xs := ?xs) (v := ?vv) ?hS ?he ?_); (case hS => exact SqT.tup (by walk_at "hp")); (case he => exact rfl))
  | with_reducible refine i_intB ?_
  | with_reducible refine i_runS ?_
  | with_reducible refine i_runN ?_
  | ((with_reducible refine i_xf1 (fs := ?ff) (v := ?vv) ?hx ?hl ?_); (case hx => walk_at "hp"); (case hl => exact rfl))
  | with_reducible refine i_methE ?_
  | with_reducible refine i_meth ?_
  | with_reducible refine i_make ?_
  | ((with_reducible refine i_obj (dx := ?dd) (fs := ?ff) ?hx ?hl ?_); (case hx => walk_at "hp"); (case hl => exact rfl))
  | ((with_reducible refine i_fld1 (C := ?CC) (dx := ?dd) (fs := ?ff) (v := ?vv) ?hx ?cl ?na ?hl ?_); (case hx => walk_at "hp"); (case cl => assumption); (case na => assumption); (case hl => exact rfl)))
local macro_rules | `(tactic| walk_at "rd") => `(tactic| repeat (walk_at "sx"))

section
variable {P : Program} {w : World} {K : PySem.W.Frag} {mg : Str → Option Value} {base : Heap}
abbrev VesLT (T : Top K mg) (H : Hp) (L : VL) : Prop := VesL T.a_Vessel T.a_Breaker T.a_Ship H L
def TrA (T : Top K mg) (H : Hp) (x : Addr) (L : VL) : Prop := ∃ (dx t : Addr) (n p : Str) (h s d : Int), H x = some (.ins T.a_Train dx ([(Str.ofString "_vessels", .ref t)] ++ fldV (.str n) (.str p) (.int h) (.int s) (.int d))) ∧ H t = some (.tup (refs L)) ∧
  (∃ z, L[0]? = some z ∧ z.2.n = n ∧ z.2.p = p) ∧ IsMax h (hoursL L) ∧ IsMax d (drL L) ∧ IsMin s (strL 0 L)
theorem TrA.same {T : Top K mg} {H H' : Hp} {x : Addr} {L : VL} (a : TrA T H x L) (e : Same H H') : TrA T H' x L := by
  obtain ⟨dx, t, n, p, h, s, d, h1, h2, r⟩ := a
  exact ⟨dx, t, n, p, h, s, d, e _ _ h1, e _ _ h2, r⟩
theorem VesL.butI {T : Top K mg} {H H' : Hp} {L : VL} {x C dx : Addr} (a : VesLT T H L) (hx : H x = some (.ins C dx [])) (e : But x H H') : VesLT T H' L := fun z hz => by
  obtain ⟨o, dz, h⟩ := a z hz
  refine ⟨o, dz, e _ _ (ne_of h hx ?_) h⟩
  intro q
  injection q with _ _ q
  obtain ⟨r, e⟩ := z.2.flds_eq
  rw [e] at q
  cases q
theorem canT_lst {T : Top K mg} {H : Hp} {p : Addr} {L : VL} (hp : H p = some (.lst (refs L))) (l1 : 1 ≤ L.length) (l6 : L.length ≤ 6) (hv : VesLT T H L) : CanT T H (.ref p) true := by
  have hl : (refs L).length = L.length := by simp [refs]
  have c := CanT.lst (T := T) (bs := List.replicate L.length true) (SqL.lst (K := K) hp) (.base (.lst hp)) (by simp [hl]) (by
    intro i x b hx hb
    obtain ⟨z, hz, rfl⟩ := refs_get hx
    have : b = true := by
      have := List.mem_of_getElem? hb
      simpa using (List.mem_replicate.mp this).2
    subst this
    exact .ves (hv.get hz))
  rw [hl, decide_eq_true (by omega : (1 : Int) ≤ L.length), decide_eq_true (by omega : (L.length : Int) ≤ 6), show (List.replicate L.length true).all id = true by simp] at c
  exact c
theorem canT_tup {T : Top K mg} {H : Hp} {p : Addr} {L : VL} (hp : H p = some (.tup (refs L))) (l1 : 1 ≤ L.length) (l6 : L.length ≤ 6) (hv : VesLT T H L) : CanT T H (.ref p) true := by
  have hl : (refs L).length = L.length := by simp [refs]
  have c := CanT.tup (T := T) (bs := List.replicate L.length true) (SqT.tup (K := K) hp) (.base (.tup hp)) (by simp [hl]) (by
    intro i x b hx hb
    obtain ⟨z, hz, rfl⟩ := refs_get hx
    have : b = true := by
      have := List.mem_of_getElem? hb
      simpa using (List.mem_replicate.mp this).2
    subst this
    exact .ves (hv.get hz))
  rw [hl, decide_eq_true (by omega : (1 : Int) ≤ L.length), decide_eq_true (by omega : (L.length : Int) ≤ 6), show (List.replicate L.length true).all id = true by simp] at c
  exact c
theorem strL_nonneg : ∀ {L : VL} {t : Int}, (∀ z ∈ L, z.2.ok) → 0 ≤ t → ∀ y ∈ strL t L, 0 ≤ y
  | [], _, _, _, y, hy => by cases hy
  | z :: r, t, h, ht, y, hy => by
    have o := h z (by simp)
    have t1 := Vd.thin_le o
    have s0 := o.five.bs.1
    rcases List.mem_cons.mp hy with e | e
    · subst e; omega
    · exact strL_nonneg (L := r) (t := t + z.2.thin) (fun u hu => h u (by simp [hu])) (by omega) y e
theorem min_bounds {L : VL} {m : Int} (h : ∀ z ∈ L, z.2.ok) (hm : IsMin m (strL 0 L)) : 0 ≤ m ∧ m ≤ 1000000 := by
  refine ⟨strL_nonneg h (by decide) m hm.1, ?_⟩
  match L, h, hm with
  | z :: r, h, hm =>
    have o := h z (by simp)
    have := hm.2 (z.2.s + 0) (by show _ ∈ (z.2.s + 0) :: _; simp)
    have := o.five.bs.2
    omega
theorem max_of {m lo hi : Int} {L : VL} {f : Vd → Int} (h : ∀ z ∈ L, z.2.ok) (hf : ∀ v : Vd, v.ok → lo ≤ f v ∧ f v ≤ hi) (hm : IsMax m (L.map fun z => f z.2)) : lo ≤ m ∧ m ≤ hi := by
  obtain ⟨z, hz, e⟩ := List.mem_map.mp hm.1
  have := hf z.2 (h z hz)
  omega
theorem map_get {L : VL} {f : Vd → Int} {i : Nat} {y : V} {z : Addr × Vd} (h : ((L.map fun z => f z.2).map V.int)[i]? = some y) (hz : L[i]? = some z) : y = .int (f z.2) := by
  rw [List.getElem?_map, List.getElem?_map, hz] at h
  exact (Option.some.inj h).symm
/-- what a train is made of -/
def spInitT (T : Top K mg) : Sp := fun vs H Q E => ∃ (x dx : Addr) (v : V), vs = [.ref x, v] ∧ H x = some (.ins T.a_Train dx []) ∧
  ((∃ (p : Addr) (L : VL), v = .ref p ∧ (H p = some (.lst (refs L)) ∨ H p = some (.tup (refs L))) ∧ 1 ≤ L.length ∧ L.length ≤ 6 ∧ VesLT T H L ∧ ∀ H', But x H H' → TrA T H' x L → Q .non H') ∨
    (CanT T H v false ∧ ∀ d H', But x H H' → H' d = some (.xd [(Str.ofString "found", v)]) → E (.ref T.a_NoKind) (some d) H'))
theorem ok_Train___init__ (T : Top K mg) : FnG P w K mg base (L2.CX P w) 5 T.a_Train___init__ T.d_Train___init__ ["self", "vessels"] (spInitT T) := by
  have G_can_be_train := ok_can_be_train (P := P) (w := w) (base := base) T
  have G_strength_together := ok_strength_together (P := P) (w := w) (base := base) T
  have G_NoKind___init__ := ok_NoKind___init__ (P := P) (w := w) (base := base) T
  have G_Vessel___init__ := ok_Vessel___init__ (P := P) (w := w) (base := base) T
  refine okGX T.F_Train___init__ sc_Train___init__ (fun vs H Q E h => ?_) (fun cdv A outer s H vs Q E hr hgd h => ?_)
  · obtain ⟨x, dx, v, rfl, _⟩ := h
    rfl
  · obtain ⟨x, dx, v, rfl, hx, q⟩ := h
    have G_NoKind___init__ := ok_NoKind___init__ (P := P) (w := w) (base := base) T
    rcases q with ⟨p, L, rfl, hp, l1, l6, hv, q⟩ | ⟨c, q⟩
    · have hlen : (refs L).length = L.length := by simp [refs]
      have knT : KnV K T.a_Train := ⟨T.cl_Train, T.na_Train_name, T.na_Train_port, T.na_Train_hour, T.na_Train_strength, T.na_Train_draught⟩
      obtain ⟨z0, hz0⟩ : ∃ z0, L[0]? = some z0 := ⟨L[0], by simp⟩
      have at0 : atI (refs L) 0 = some (.ref z0.1) := by
        have : (refs L)[0]? = some (V.ref z0.1) := by unfold refs; rw [List.getElem?_map, hz0]; rfl
        exact atI_nat (j := 0) this
      rcases hp with hp | hp
      · have px : p ≠ x := ne_of hp hx (by intro z; cases z)
        refine ⟨_, (pss_cons (ps_if (pt_not (pt_val (g_call G_can_be_train (hr.mono (by decide)) hgd (by rfl) T.m_can_be_train T.F_can_be_train.kp T.b_can_be_train .nil pass0 (pa_cons (pv 1) pa_nil))))
        (pss_one (ps_raise rfl (takes_of rfl rfl rfl rfl) (pmk_oex T.ox_NoKind T.in_NoKind T.tf_NoKind G_NoKind___init__ (hr.mono (by decide)) T.b_NoKind___init__ .nil pass0 (by rfl) T.c_NoKind (pa_cons (pv 1) pa_nil))))
        pss_nil)
      (pss_cons (ps_fld (pv 0) (pe_callTy call_tuple_of (by rfl) T.n_tuple (by decide +kernel) (pa_cons (pv 1) pa_nil)) rfl)
      (pss_cons (ps_set (i := 2) sc_Train___init__.nd rfl (by first | exact Or.inl rfl | exact Or.inr rfl) (pe_ix ix_list (pv 1) pe_int (fun _ _ => rfl)))
      (pss_cons (ps_set (i := 3) sc_Train___init__.nd rfl (by first | exact Or.inl rfl | exact Or.inr rfl) (pe_callB (cr_max (by rfl)) (by rfl) T.n_max (by decide +kernel) (pa_cons (pe_lc (own := [("vessel", 5)]) (g := gName 5) rfl sc_Train___init__.nd (pi_list (pv 1)) (blkOk_by (own := [("vessel", 5)]) (N := ["self", "vessels", "leader", "hour", "draught", "vessel"]) (sc := defScope s_Train___init__) (by decide +kernel)) (fun _ _ _ _ _ => (pg_name (i := 5) sc_Train___init__.nd rfl (by first | exact Or.inl rfl | exact Or.inr rfl))) (fun _ _ _ _ _ => pts_nil) (fun _ _ _ _ _ => (pe_fldB (pv 5) rfl))) pa_nil)))
      (pss_cons (ps_set (i := 4) sc_Train___init__.nd rfl (by first | exact Or.inl rfl | exact Or.inr rfl) (pe_callB (cr_max (by rfl)) (by rfl) T.n_max (by decide +kernel) (pa_cons (pe_lc (own := [("vessel", 5)]) (g := gName 5) rfl sc_Train___init__.nd (pi_list (pv 1)) (blkOk_by (own := [("vessel", 5)]) (N := ["self", "vessels", "leader", "hour", "draught", "vessel"]) (sc := defScope s_Train___init__) (by decide +kernel)) (fun _ _ _ _ _ => (pg_name (i := 5) sc_Train___init__.nd rfl (by first | exact Or.inl rfl | exact Or.inr rfl))) (fun _ _ _ _ _ => pts_nil) (fun _ _ _ _ _ => (pe_fldB (pv 5) rfl))) pa_nil)))
      (pss_one (ps_expr (g_kinitE (E := WE _) T.ki_Vessel G_Vessel___init__ (hr.mono (by decide)) hgd (by rfl) T.c_Vessel T.b_Vessel___init__ .nil (passAt (takes_of rfl rfl rfl rfl)) (pa_cons (pv 0) (pa_cons (pe_fld (pv 2) rfl) (pa_cons (pe_fld (pv 2) rfl) (pa_cons (pv 3) (pa_cons (g_call G_strength_together (hr.mono (by decide)) hgd (by rfl) T.m_strength_together T.F_strength_together.kp T.b_strength_together .nil pass0 (pa_cons (pv 1) pa_nil)) (pa_cons (pv 4) pa_nil)))))))))))))), ?_⟩
        walk_at "rd"
        refine ⟨_, true, rfl, canT_lst hp l1 l6 hv, fun H1 s1 => ?_⟩
        walk_at "rd"
        refine ⟨p, refs L, rfl, .inl ⟨SqL.lst (s1 _ _ hp), ?_⟩⟩
        (intro t ht; generalize et : upd _ t _ = J; have N := New.of et ht; clear et ht)
        walk_at "rd"
        have kx0 := N.app (s1 _ _ hx)
        have kt0 := N.at_
        have e0 : But x H J := Ice.Same.but (s1.trans N.same)
        have tx : t ≠ x := ne_of kt0 kx0 (by intro z; cases z)
        refine i_store kx0 T.cl_Train T.na_Train__vessels (by simp) (by walk_at "fresh") ?_
        generalize eX : upd _ x (HO.ins T.a_Train dx ([] ++ [(Str.ofString "_vessels", V.ref t)])) = JX
        have kx1 : JX x = some (.ins T.a_Train dx [(Str.ofString "_vessels", V.ref t)]) := by rw [← eX]; exact upd_same
        have e1 : But x H JX := fun a o na ha => by rw [← eX, upd_ne na]; exact e0 a o na ha
        have kt1 : JX t = some (.tup (refs L)) := by rw [← eX, upd_ne tx]; exact kt0
        clear eX
        have kp1 := e1 p _ px hp
        have hv1 := hv.butI hx e1
        walk_at "rd"
        refine i_ixL (SqL.lst kp1) at0 ?_
        walk_at "rd"
        refine ⟨p, rfl, ⟨_, SqL.lst kp1⟩, fun D1 hD1 => ?_⟩
        refine lc_pureL (ys := (hoursL L).map V.int) (by simp [hoursL, refs]) (by omega) (SqL.lst kp1) hD1 (fun i v y Hi N' M' hi hy sm hN => ?_) ?_
        · obtain ⟨z, hz, rfl⟩ := refs_get hi
          walk_at "rd"
          refine f_hour T ((hv1.get hz).same sm) ?_
          rw [map_get hy hz] at hN
          exact hN
        generalize eH : upd _ D1 (HO.lst ((hoursL L).map V.int)) = J2
        have N2 := New.of eH hD1
        walk_at "rd"
        refine ⟨D1, hoursL L, rfl, SqL.lst N2.at_, by simp [hoursL]; omega, fun mh mh1 mh2 => ?_⟩
        walk_at "rd"
        have kp2 := N2.app kp1
        have hv2 := hv1.same N2.same
        refine ⟨p, rfl, ⟨_, SqL.lst kp2⟩, fun D2 hD2 => ?_⟩
        refine lc_pureL (ys := (drL L).map V.int) (by simp [drL, refs]) (by omega) (SqL.lst kp2) hD2 (fun i v y Hi N' M' hi hy sm hN => ?_) ?_
        · obtain ⟨z, hz, rfl⟩ := refs_get hi
          walk_at "rd"
          refine f_draught T ((hv2.get hz).same sm) ?_
          rw [map_get hy hz] at hN
          exact hN
        generalize eH2 : upd _ D2 (HO.lst ((drL L).map V.int)) = J3
        have N3 := New.of eH2 hD2
        walk_at "rd"
        refine ⟨D2, drL L, rfl, SqL.lst N3.at_, by simp [drL]; omega, fun md md1 md2 => ?_⟩
        walk_at "rd"
        have hv3 := hv2.same N3.same
        have vz0 := hv3.get hz0
        refine f_name T vz0 ?_
        walk_at "rd"
        refine f_port T vz0 ?_
        walk_at "rd"
        refine ⟨p, L, rfl, .inl (SqL.lst (N3.app kp2)), l1, l6, hv3, fun m H4 hm s4 => ?_⟩
        walk_at "rd"
        have s14 : Same JX H4 := N2.same.trans (N3.same.trans s4)
        have o0 := vz0.1.five
        have bh := max_of (f := Vd.h) hv.ok (fun v o => o.five.bh) ⟨mh1, mh2⟩
        have bd := max_of (f := Vd.d) hv.ok (fun v o => o.five.bd) ⟨md1, md2⟩
        have bs := min_bounds hv.ok hm
        refine ⟨x, T.a_Train, dx, _, _, _, _, _, [(Str.ofString "_vessels", V.ref t)], rfl, s14 _ _ kx1, .inr ⟨_, rfl⟩, knT, ?_, ?_⟩
        · intro v hv
          simp only [List.mem_cons, List.not_mem_nil, or_false] at hv
          rcases hv with rfl | rfl | rfl | rfl | rfl
          · exact name_th _ o0.nn
          · exact name_th _ o0.np
          all_goals exact .inr ⟨_, .int _⟩
        rw [(show Five z0.2.n z0.2.p mh m md from ⟨o0.nn, o0.np, bh, bs, bd⟩).made]
        intro H5 b5 k5
        refine q H5 (fun a o na ha => b5 a o na (s14 _ _ (e1 a o na ha))) ⟨dx, t, _, _, _, _, _, k5, b5 _ _ tx (s14 _ _ kt1), ⟨z0, hz0, rfl, rfl⟩, ⟨mh1, mh2⟩, ⟨md1, md2⟩, hm⟩
      · have px : p ≠ x := ne_of hp hx (by intro z; cases z)
        refine ⟨_, (pss_cons (ps_if (pt_not (pt_val (g_call G_can_be_train (hr.mono (by decide)) hgd (by rfl) T.m_can_be_train T.F_can_be_train.kp T.b_can_be_train .nil pass0 (pa_cons (pv 1) pa_nil))))
        (pss_one (ps_raise rfl (takes_of rfl rfl rfl rfl) (pmk_oex T.ox_NoKind T.in_NoKind T.tf_NoKind G_NoKind___init__ (hr.mono (by decide)) T.b_NoKind___init__ .nil pass0 (by rfl) T.c_NoKind (pa_cons (pv 1) pa_nil))))
        pss_nil)
      (pss_cons (ps_fld (pv 0) (pe_callTy call_tuple_of (by rfl) T.n_tuple (by decide +kernel) (pa_cons (pv 1) pa_nil)) rfl)
      (pss_cons (ps_set (i := 2) sc_Train___init__.nd rfl (by first | exact Or.inl rfl | exact Or.inr rfl) (pe_ix ix_tup (pv 1) pe_int (fun _ _ => rfl)))
      (pss_cons (ps_set (i := 3) sc_Train___init__.nd rfl (by first | exact Or.inl rfl | exact Or.inr rfl) (pe_callB (cr_max (by rfl)) (by rfl) T.n_max (by decide +kernel) (pa_cons (pe_lc (own := [("vessel", 5)]) (g := gName 5) rfl sc_Train___init__.nd (pi_tup (pv 1)) (blkOk_by (own := [("vessel", 5)]) (N := ["self", "vessels", "leader", "hour", "draught", "vessel"]) (sc := defScope s_Train___init__) (by decide +kernel)) (fun _ _ _ _ _ => (pg_name (i := 5) sc_Train___init__.nd rfl (by first | exact Or.inl rfl | exact Or.inr rfl))) (fun _ _ _ _ _ => pts_nil) (fun _ _ _ _ _ => (pe_fldB (pv 5) rfl))) pa_nil)))
      (pss_cons (ps_set (i := 4) sc_Train___init__.nd rfl (by first | exact Or.inl rfl | exact Or.inr rfl) (pe_callB (cr_max (by rfl)) (by rfl) T.n_max (by decide +kernel) (pa_cons (pe_lc (own := [("vessel", 5)]) (g := gName 5) rfl sc_Train___init__.nd (pi_tup (pv 1)) (blkOk_by (own := [("vessel", 5)]) (N := ["self", "vessels", "leader", "hour", "draught", "vessel"]) (sc := defScope s_Train___init__) (by decide +kernel)) (fun _ _ _ _ _ => (pg_name (i := 5) sc_Train___init__.nd rfl (by first | exact Or.inl rfl | exact Or.inr rfl))) (fun _ _ _ _ _ => pts_nil) (fun _ _ _ _ _ => (pe_fldB (pv 5) rfl))) pa_nil)))
      (pss_one (ps_expr (g_kinitE (E := WE _) T.ki_Vessel G_Vessel___init__ (hr.mono (by decide)) hgd (by rfl) T.c_Vessel T.b_Vessel___init__ .nil (passAt (takes_of rfl rfl rfl rfl)) (pa_cons (pv 0) (pa_cons (pe_fld (pv 2) rfl) (pa_cons (pe_fld (pv 2) rfl) (pa_cons (pv 3) (pa_cons (g_call G_strength_together (hr.mono (by decide)) hgd (by rfl) T.m_strength_together T.F_strength_together.kp T.b_strength_together .nil pass0 (pa_cons (pv 1) pa_nil)) (pa_cons (pv 4) pa_nil)))))))))))))), ?_⟩
        walk_at "rd"
        refine ⟨_, true, rfl, canT_tup hp l1 l6 hv, fun H1 s1 => ?_⟩
        walk_at "rd"
        have kx0 := s1 _ _ hx
        have kt0 := s1 _ _ hp
        have e0 : But x H H1 := Ice.Same.but s1
        refine ⟨p, refs L, rfl, .inr ⟨SqT.tup kt0, ?_⟩⟩
        walk_at "rd"
        have tx : p ≠ x := ne_of kt0 kx0 (by intro z; cases z)
        refine i_store kx0 T.cl_Train T.na_Train__vessels (by simp) (by walk_at "fresh") ?_
        generalize eX : upd _ x (HO.ins T.a_Train dx ([] ++ [(Str.ofString "_vessels", V.ref p)])) = JX
        have kx1 : JX x = some (.ins T.a_Train dx [(Str.ofString "_vessels", V.ref p)]) := by rw [← eX]; exact upd_same
        have e1 : But x H JX := fun a o na ha => by rw [← eX, upd_ne na]; exact e0 a o na ha
        have kt1 : JX p = some (.tup (refs L)) := by rw [← eX, upd_ne tx]; exact kt0
        clear eX
        have kp1 := e1 p _ px hp
        have hv1 := hv.butI hx e1
        walk_at "rd"
        refine i_ixT (SqT.tup kp1) at0 ?_
        walk_at "rd"
        refine i_tupI ?_
        walk_at "rd"
        refine ⟨p, rfl, ⟨_, SqT.tup kp1⟩, fun D1 hD1 => ?_⟩
        refine lc_pureT (ys := (hoursL L).map V.int) (by simp [hoursL, refs]) (by omega) (SqT.tup kp1) hD1 (fun i v y Hi N' M' hi hy sm hN => ?_) ?_
        · obtain ⟨z, hz, rfl⟩ := refs_get hi
          walk_at "rd"
          refine f_hour T ((hv1.get hz).same sm) ?_
          rw [map_get hy hz] at hN
          exact hN
        generalize eH : upd _ D1 (HO.lst ((hoursL L).map V.int)) = J2
        have N2 := New.of eH hD1
        walk_at "rd"
        refine ⟨D1, hoursL L, rfl, SqL.lst N2.at_, by simp [hoursL]; omega, fun mh mh1 mh2 => ?_⟩
        walk_at "rd"
        have kp2 := N2.app kp1
        have hv2 := hv1.same N2.same
        refine i_tupI ?_
        walk_at "rd"
        refine ⟨p, rfl, ⟨_, SqT.tup kp2⟩, fun D2 hD2 => ?_⟩
        refine lc_pureT (ys := (drL L).map V.int) (by simp [drL, refs]) (by omega) (SqT.tup kp2) hD2 (fun i v y Hi N' M' hi hy sm hN => ?_) ?_
        · obtain ⟨z, hz, rfl⟩ := refs_get hi
          walk_at "rd"
          refine f_draught T ((hv2.get hz).same sm) ?_
          rw [map_get hy hz] at hN
          exact hN
        generalize eH2 : upd _ D2 (HO.lst ((drL L).map V.int)) = J3
        have N3 := New.of eH2 hD2
        walk_at "rd"
        refine ⟨D2, drL L, rfl, SqL.lst N3.at_, by simp [drL]; omega, fun md md1 md2 => ?_⟩
        walk_at "rd"
        have hv3 := hv2.same N3.same
        have vz0 := hv3.get hz0
        refine f_name T vz0 ?_
        walk_at "rd"
        refine f_port T vz0 ?_
        walk_at "rd"
        refine ⟨p, L, rfl, .inr (SqT.tup (N3.app kp2)), l1, l6, hv3, fun m H4 hm s4 => ?_⟩
        walk_at "rd"
        have s14 : Same JX H4 := N2.same.trans (N3.same.trans s4)
        have o0 := vz0.1.five
        have bh := max_of (f := Vd.h) hv.ok (fun v o => o.five.bh) ⟨mh1, mh2⟩
        have bd := max_of (f := Vd.d) hv.ok (fun v o => o.five.bd) ⟨md1, md2⟩
        have bs := min_bounds hv.ok hm
        refine ⟨x, T.a_Train, dx, _, _, _, _, _, [(Str.ofString "_vessels", V.ref p)], rfl, s14 _ _ kx1, .inr ⟨_, rfl⟩, knT, ?_, ?_⟩
        · intro v hv
          simp only [List.mem_cons, List.not_mem_nil, or_false] at hv
          rcases hv with rfl | rfl | rfl | rfl | rfl
          · exact name_th _ o0.nn
          · exact name_th _ o0.np
          all_goals exact .inr ⟨_, .int _⟩
        rw [(show Five z0.2.n z0.2.p mh m md from ⟨o0.nn, o0.np, bh, bs, bd⟩).made]
        intro H5 b5 k5
        refine q H5 (fun a o na ha => b5 a o na (s14 _ _ (e1 a o na ha))) ⟨dx, p, _, _, _, _, _, k5, b5 _ _ tx (s14 _ _ kt1), ⟨z0, hz0, rfl, rfl⟩, ⟨mh1, mh2⟩, ⟨md1, md2⟩, hm⟩
    · refine ⟨_, (pss_cons (ps_if (pt_not (pt_val (g_call G_can_be_train (hr.mono (by decide)) hgd (by rfl) T.m_can_be_train T.F_can_be_train.kp T.b_can_be_train .nil pass0 (pa_cons (pv 1) pa_nil))))
        (pss_one (ps_raise rfl (takes_of rfl rfl rfl rfl) (pmk_oex T.ox_NoKind T.in_NoKind T.tf_NoKind G_NoKind___init__ (hr.mono (by decide)) T.b_NoKind___init__ .nil pass0 (by rfl) T.c_NoKind (pa_cons (pv 1) pa_nil))))
        pss_nil)
      (pss_cons (ps_fld (pv 0) (pe_callTy call_tuple_of (by rfl) T.n_tuple (by decide +kernel) (pa_cons (pv 1) pa_nil)) rfl)
      (pss_cons (ps_set (i := 2) sc_Train___init__.nd rfl (by first | exact Or.inl rfl | exact Or.inr rfl) (pe_ix ix_list (pv 1) pe_int (fun _ _ => rfl)))
      (pss_cons (ps_set (i := 3) sc_Train___init__.nd rfl (by first | exact Or.inl rfl | exact Or.inr rfl) (pe_callB (cr_max (by rfl)) (by rfl) T.n_max (by decide +kernel) (pa_cons (pe_lc (own := [("vessel", 5)]) (g := gName 5) rfl sc_Train___init__.nd (pi_list (pv 1)) (blkOk_by (own := [("vessel", 5)]) (N := ["self", "vessels", "leader", "hour", "draught", "vessel"]) (sc := defScope s_Train___init__) (by decide +kernel)) (fun _ _ _ _ _ => (pg_name (i := 5) sc_Train___init__.nd rfl (by first | exact Or.inl rfl | exact Or.inr rfl))) (fun _ _ _ _ _ => pts_nil) (fun _ _ _ _ _ => (pe_fldB (pv 5) rfl))) pa_nil)))
      (pss_cons (ps_set (i := 4) sc_Train___init__.nd rfl (by first | exact Or.inl rfl | exact Or.inr rfl) (pe_callB (cr_max (by rfl)) (by rfl) T.n_max (by decide +kernel) (pa_cons (pe_lc (own := [("vessel", 5)]) (g := gName 5) rfl sc_Train___init__.nd (pi_list (pv 1)) (blkOk_by (own := [("vessel", 5)]) (N := ["self", "vessels", "leader", "hour", "draught", "vessel"]) (sc := defScope s_Train___init__) (by decide +kernel)) (fun _ _ _ _ _ => (pg_name (i := 5) sc_Train___init__.nd rfl (by first | exact Or.inl rfl | exact Or.inr rfl))) (fun _ _ _ _ _ => pts_nil) (fun _ _ _ _ _ => (pe_fldB (pv 5) rfl))) pa_nil)))
      (pss_one (ps_expr (g_kinitE (E := WE _) T.ki_Vessel G_Vessel___init__ (hr.mono (by decide)) hgd (by rfl) T.c_Vessel T.b_Vessel___init__ .nil (passAt (takes_of rfl rfl rfl rfl)) (pa_cons (pv 0) (pa_cons (pe_fld (pv 2) rfl) (pa_cons (pe_fld (pv 2) rfl) (pa_cons (pv 3) (pa_cons (g_call G_strength_together (hr.mono (by decide)) hgd (by rfl) T.m_strength_together T.F_strength_together.kp T.b_strength_together .nil pass0 (pa_cons (pv 1) pa_nil)) (pa_cons (pv 4) pa_nil)))))))))))))), ?_⟩
      walk_at "rd"
      refine ⟨v, false, rfl, c, fun H1 s1 => ?_⟩
      walk_at "rd"
      exact i_mkE T.ox_NoKind T.nf_NoKind_found (fun d hd => q d _ (Ice.Same.but (s1.trans (Same.new _ hd))) upd_same)
def spTrK (T : Top K mg) : Sp := fun vs H Q _ => ∃ x, vs = [.ref x] ∧ Q (.str (Str.ofString "train")) H
theorem ok_Train_kind (T : Top K mg) : FnG P w K mg base CX0 1 T.a_Train_kind T.d_Train_kind ["self"] (spTrK T) := by
  refine okG T.F_Train_kind sc_Train_kind (fun vs H Q E h => ?_) (fun cdv A outer s H vs Q E hr hgd h => ?_)
  · obtain ⟨x, rfl, _⟩ := h
    rfl
  · obtain ⟨x, rfl, q⟩ := h
    refine ⟨_, (pss_one (ps_ret pe_str)), ?_⟩
    walk_at "rd"
    exact q
end
end Ice

set_option Elab.async false
set_option linter.all false
set_option maxRecDepth 100000
set_option maxHeartbeats 4000000
namespace Ice
open PySem PySem.Spec PyProof.Rows L2 TL
/-! side conditions, heaps, one step of a reading, and many -/
local macro_rules | `(tactic| walk_at "hp") => `(tactic| first | assumption | exact upd_same | exact New.at_ (by assumption) | (refine keepU ?_ (by assumption); walk_at "hp") | (refine New.app (by assumption) ?_; walk_at "hp") | (refine Same.app (by assumption) ?_; walk_at "hp") | (refine But.app (by assumption) (by assumption) ?_; walk_at "hp"))
local macro_rules | `(tactic| walk_at "sq") => `(tactic| first | assumption | exact SqL.lst (by walk_at "hp") | exact L2.Same.seq (New.same (by assumption)) (by assumption) | exact L2.Same.seq (by assumption) (by assumption))
local macro_rules | `(tactic| walk_at "len") => `(tactic| first | assumption | (simp only [List.length_cons, List.length_nil, List.length_append, List.length_map]; decide) | (refine Ice.sz_of ?_; simp only [List.length_cons, List.length_nil, List.length_append, List.length_map]; omega))
local macro_rules | `(tactic| walk_at "fresh") => `(tactic| (simp only [List.map_append, List.map_cons, List.map_nil, List.nil_append, List.cons_append]; decide +kernel))
local macro_rules | `(tactic| walk_at "sd") => `(tactic| first | assumption | (show _ ≠ _; omega) | exact Or.inl ⟨by omega, by omega⟩ | exact Or.inr ⟨by omega, by omega⟩ | exact ⟨by decide, by decide⟩ | exact ⟨by decide, by decide, by decide⟩ | exact ⟨by omega, by omega, by omega⟩)
/-! one step of a reading, and many -/
local macro_rules | `(tactic| walk_at "st") => `(tactic| first
  | with_reducible refine i_seq ?_
  | with_reducible refine i_if ?_
  | with_reducible refine i_next ?_
  | with_reducible refine i_ret ?_
  | with_reducible refine i_retN ?_
  | with_reducible refine i_drop ?_
  | with_reducible refine i_asg ?_
  | with_reducible refine i_gname ?_
  | with_reducible refine i_gsub ?_
  | ((with_reducible refine i_var (v := ?vv) ?hv ?_); (case hv => exact rfl))
  | with_reducible refine i_c ?_
  | with_reducible refine i_op ?_
  | with_reducible refine i_un ?_
  | with_reducible refine i_test ?_
  | with_reducible refine i_tB ?_
  | with_reducible refine i_and ?_
  | with_reducible refine i_or ?_
  | with_reducible refine i_not ?_
  | with_reducible refine i_andV ?_
  | with_reducible refine i_orV ?_
  | with_reducible refine i_notV ?_
  | with_reducible refine i_ifE ?_
  | with_reducible refine i_chain ?_
  | with_reducible refine i_bl ?_
  | with_reducible refine i_nil ?_
  | with_reducible refine i_cons ?_
  | with_reducible refine i_call ?_
  | with_reducible refine i_cb ?_
  | with_reducible refine i_rI0 ?_
  | with_reducible refine i_rU ?_
  | ((with_reducible refine i_rEq ?hs ?_); (case hs => exact rfl))
  | ((with_reducible refine i_rNe ?hs ?_); (case hs => exact rfl))
  | ((with_reducible refine i_rI ?hc ?_); (case hc => walk_at "sd"))
  | ((with_reducible refine i_ixL (xs := ?xs) (v := ?vv) ?hS ?he ?_); (case hS => walk_at "sq"); (case he => exact rfl))
  | ((with_reducible refine i_setL (xs := ?xs) (j := ?jj) ?hS ?he ?_); (case hS => walk_at "hp"); (case he => exact rfl))
  | with_reducible refine i_tup ?_
  | with_reducible refine i_lst ?_
  | with_reducible refine i_bm ?_
  | with_reducible refine i_bm0 ?_
  | with_reducible refine i_m1 ?_
  | with_reducible refine i_sl ?_
  | with_reducible refine i_nopart ?_
  | with_reducible refine i_part ?_
  | with_reducible refine i_int ?_
  | with_reducible refine i_str ?_
  | with_reducible refine i_for ?_
  | with_reducible refine i_yes ?_
  | ((with_reducible refine i_lenL (xs := ?xs) ?hS ?_); (case hS => walk_at "sq"))
  | ((with_reducible refine i_room ?hz ?_); (case hz => walk_at "len"))
  | with_reducible refine i_leT ?_
  | with_reducible refine i_notInS ?_
  | with_reducible refine i_inS ?_
  | with_reducible refine i_find ?_
  | with_reducible refine i_isB ?_
  | with_reducible refine i_max2 ?_
  | with_reducible refine i_min2 ?_
  | with_reducible exact trivial
  | with_reducible refine iteT ?_
  | with_reducible refine iteF ?_
  | with_reducible refine i_isstr ?_
  | with_reducible refine i_lc ?_
  | ((with_reducible refine i_cat (xs := ?xs) (zs := ?zs) ?ha ?hb ?hz ?_); (case ha => walk_at "hp"); (case hb => walk_at "hp"); (case hz => walk_at "len"))
  | ((with_reducible refine i_tyL (xs := ?xs) ?ha ?_); (case ha => walk_at "hp"))
  | with_reducible refine i_list ?_
  | with_reducible refine i_disp ?_
  | with_reducible refine i_pairs0 ?_
  | with_reducible refine i_pairs ?_
  | with_reducible refine i_newK ?_
  | with_reducible refine i_gcons ?_
  | with_reducible refine i_gnil ?_
  | with_reducible refine i_revL ?_
  | with_reducible refine i_rng1 ?_
  | ((with_reducible refine i_wipe ?hw ?_); (case hw => exact rfl))
  | with_reducible refine iteNT ?_
  | with_reducible refine iteNF ?_)
local macro_rules | `(tactic| walk_at "sx") => `(tactic| first
  | walk_at "st"
  | with_reducible refine i_kinit ?_
  | with_reducible refine i_ost ?_
  | with_reducible refine i_mkO ?_
  | with_reducible refine i_callE ?_
  | with_reducible refine i_makeE ?_
  | with_reducible refine i_xf ?_
  | with_reducible refine i_sfld ?_
  | with_reducible refine i_fld ?_
  | ((with_reducible refine i_ixT (xs := ?xs) (v := ?vv) ?hS ?he ?_); (case hS => exact SqT.tup (by walk_at "hp")); (case he => exact rfl))
  | with_reducible refine i_intB ?_
  | with_reducible refine i_runS ?_
  | with_reducible refine i_runN ?_
  | ((with_reducible refine i_xf1 (fs := ?ff) (v := ?vv) ?hx ?hl ?_); (case hx => walk_at "hp"); (case hl => exact rfl))
  | with_reducible refine i_methE ?_
  | with_reducible refine i_meth ?_
  | with_reducible refine i_make ?_
  | ((with_reducible refine i_obj (dx := ?dd) (fs := ?ff) ?hx ?hl ?_); (case hx => walk_at "hp"); (case hl => exact rfl))
  | ((with_reducible refine i_fld1 (C := ?CC) (dx := ?dd) (fs := ?ff) (v := ?vv) ?hx ?cl ?na ?hl ?_); (case hx => walk_at "hp"); (case cl => assumption); (case na => assumption); (case hl => exact rfl)))
local macro_rules | `(tactic| walk_at "rd") => `(tactic| repeat (walk_at "sx"))

section
variable {P : Program} {w : World} {K : PySem.W.Frag} {mg : Str → Option Value} {base : Heap}
theorem i_row (T : Top K mg) {H : Hp} {Q : VK} {E : XK} {i : Nat} {σ : L2.St} {x : Addr} {v : Vd} (h : VesT T H x v) (hx : σ[i]? = some (some (.ref x))) (q : ∀ p H', New H p (.tup v.row) H' → Q (.ref p) H') :
    tAlt (tMeth T.a_Vessel (Str.ofString "row") (spRowF T.a_Vessel (fldK .v) 5) [] E (tVar i) tNil) (tAlt (tMeth T.a_Breaker (Str.ofString "row") (spRowF T.a_Breaker (fldK .b) 6) [] E (tVar i) tNil) (tMeth T.a_Ship (Str.ofString "row") (spRowF T.a_Ship (fldK .s) 6) [] E (tVar i) tNil)) σ H Q := by
  obtain ⟨_, dx, hO⟩ := h
  have hl := v.l_none.2
  have hf : v.flds = fldK v.k v.row := rfl
  cases hk : v.k with
  | v =>
    have hn : v.row.length = 5 := by unfold Vd.row; rw [hk]; rfl
    rw [hk] at hO hf
    rw [hf] at hO hl
    exact .inl ⟨_, hx, x, dx, _, rfl, hO, hl, x, dx, _, rfl, hn, hO, q⟩
  | b =>
    have hn : v.row.length = 6 := by unfold Vd.row; rw [hk]; rfl
    rw [hk] at hO hf
    rw [hf] at hO hl
    exact .inr (.inl ⟨_, hx, x, dx, _, rfl, hO, hl, x, dx, _, rfl, hn, hO, q⟩)
  | s =>
    have hn : v.row.length = 6 := by unfold Vd.row; rw [hk]; rfl
    rw [hk] at hO hf
    rw [hf] at hO hl
    exact .inr (.inr ⟨_, hx, x, dx, _, rfl, hO, hl, x, dx, _, rfl, hn, hO, q⟩)
def spTrThins (T : Top K mg) : Sp := fun vs H Q _ => ∃ (x : Addr) (L : VL), vs = [.ref x] ∧ TrA T H x L ∧ VesLT T H L ∧ L.length ≤ 6 ∧ ∀ H', Same H H' → Q (.int (thins L)) H'
theorem ok_Train_thins (T : Top K mg) : FnG P w K mg base CX0 2 T.a_Train_thins T.d_Train_thins ["self"] (spTrThins T) := by
  have G_Vessel_thins := ok_Vessel_thins (P := P) (w := w) (base := base) T
  have G_Breaker_thins := ok_Breaker_thins (P := P) (w := w) (base := base) T
  refine okG T.F_Train_thins sc_Train_thins (fun vs H Q E h => ?_) (fun cdv A outer s H vs Q E hr hgd h => ?_)
  · obtain ⟨x, L, rfl, _⟩ := h
    rfl
  · obtain ⟨x, L, rfl, ⟨dx, t, n, p, h, s', d, hx, ht, _⟩, hv, l6, q⟩ := h
    refine ⟨_, (pss_one (ps_ret (pe_callB (cr_sum (by rfl)) (by rfl) T.n_sum (by decide +kernel) (pa_cons (pe_lc (own := [("vessel", 1)]) (g := gName 1) rfl sc_Train_thins.nd (pi_tup (pe_fld (pv 0) rfl)) (blkOk_by (own := [("vessel", 1)]) (N := ["self", "vessel"]) (sc := defScope s_Train_thins) (by decide +kernel)) (fun _ _ _ _ _ => (pg_name (i := 1) sc_Train_thins.nd rfl (by first | exact Or.inl rfl | exact Or.inr rfl))) (fun _ _ _ _ _ => pts_nil) (fun _ _ _ _ _ => (pe_alt (g_meth0 (pv 1) T.cl_Vessel T.me_Vessel_thins G_Vessel_thins (hr.mono (by decide)) hgd T.b_Vessel_thins .nil pass0) (pe_alt (g_meth0 (pv 1) T.cl_Breaker T.me_Breaker_thins G_Breaker_thins (hr.mono (by decide)) hgd T.b_Breaker_thins .nil pass0) (g_meth0 (pv 1) T.cl_Ship T.me_Ship_thins G_Vessel_thins (hr.mono (by decide)) hgd T.b_Vessel_thins .nil pass0))))) pa_nil)))), ?_⟩
    walk_at "rd"
    refine i_tupI ?_
    walk_at "rd"
    refine ⟨x, _, dx, _, _, rfl, hx, T.cl_Train, T.na_Train__vessels, rfl, ?_⟩
    refine ⟨t, rfl, ⟨_, SqT.tup ht⟩, fun D hD => ?_⟩
    refine lc_pureT (ys := (L.map fun z => z.2.thin).map V.int) (by simp [refs]) (by simp [refs]; omega) (SqT.tup ht) hD (fun i v y Hi N' M' hi hy sm hN => ?_) ?_
    · obtain ⟨z, hz, rfl⟩ := refs_get hi
      walk_at "rd"
      refine i_thins T ((hv.get hz).same sm) rfl ?_
      rw [map_get hy hz] at hN
      exact hN
    refine ⟨D, _, rfl, SqL.lst upd_same, ?_⟩
    exact q _ (Same.new _ hD)
def namesL (L : VL) : List V := L.map fun z => .str z.2.n
theorem name_get {L : VL} {i : Nat} {y : V} {z : Addr × Vd} (h : (namesL L)[i]? = some y) (hz : L[i]? = some z) : y = .str z.2.n := by
  unfold namesL at h
  rw [List.getElem?_map, hz] at h
  exact (Option.some.inj h).symm
def spTrNames (T : Top K mg) : Sp := fun vs H Q _ => ∃ (x : Addr) (L : VL), vs = [.ref x] ∧ TrA T H x L ∧ VesLT T H L ∧ L.length ≤ 6 ∧ ∀ D H', New H D (.lst (namesL L)) H' → Q (.ref D) H'
theorem ok_Train_names (T : Top K mg) : FnG P w K mg base CX0 1 T.a_Train_names T.d_Train_names ["self"] (spTrNames T) := by
  refine okG T.F_Train_names sc_Train_names (fun vs H Q E h => ?_) (fun cdv A outer s H vs Q E hr hgd h => ?_)
  · obtain ⟨x, L, rfl, _⟩ := h
    rfl
  · obtain ⟨x, L, rfl, ⟨dx, t, n, p, h, s', d, hx, ht, _⟩, hv, l6, q⟩ := h
    refine ⟨_, (pss_one (ps_ret (pe_lc (own := [("vessel", 1)]) (g := gName 1) rfl sc_Train_names.nd (pi_tup (pe_fld (pv 0) rfl)) (blkOk_by (own := [("vessel", 1)]) (N := ["self", "vessel"]) (sc := defScope s_Train_names) (by decide +kernel)) (fun _ _ _ _ _ => (pg_name (i := 1) sc_Train_names.nd rfl (by first | exact Or.inl rfl | exact Or.inr rfl))) (fun _ _ _ _ _ => pts_nil) (fun _ _ _ _ _ => (pe_fldB (pv 1) rfl))))), ?_⟩
    walk_at "rd"
    refine i_tupI ?_
    walk_at "rd"
    refine ⟨x, _, dx, _, _, rfl, hx, T.cl_Train, T.na_Train__vessels, rfl, ?_⟩
    refine ⟨t, rfl, ⟨_, SqT.tup ht⟩, fun D hD => ?_⟩
    refine lc_pureT (ys := namesL L) (by simp [refs, namesL]) (by simp [refs]; omega) (SqT.tup ht) hD (fun i v y Hi N' M' hi hy sm hN => ?_) ?_
    · obtain ⟨z, hz, rfl⟩ := refs_get hi
      walk_at "rd"
      refine f_name T ((hv.get hz).same sm) ?_
      rw [name_get hy hz] at hN
      exact hN
    exact q _ _ (.mk' hD)
/-- rows of vessels -/
def RowsOk (H : Hp) (rs : List V) (L : VL) : Prop := rs.length = L.length ∧ ∀ (j : Nat) (v : V) (z : Addr × Vd), rs[j]? = some v → L[j]? = some z → ∃ a, v = .ref a ∧ H a = some (.tup z.2.row)
theorem RowsOk.same {H H' : Hp} {rs : List V} {L : VL} (r : RowsOk H rs L) (e : Same H H') : RowsOk H' rs L := ⟨r.1, fun j v z h1 h2 => by obtain ⟨a, e1, e2⟩ := r.2 j v z h1 h2; exact ⟨a, e1, e _ _ e2⟩⟩
theorem RowsOk.snoc {H H' : Hp} {rs : List V} {L : VL} {i : Nat} {z : Addr × Vd} {r : Addr} (h : RowsOk H rs (L.take i)) (hz : L[i]? = some z) (e : Same H H') (hr : H' r = some (.tup z.2.row)) : RowsOk H' (rs ++ [.ref r]) (L.take (i + 1)) := by
  have lt := (List.getElem?_eq_some_iff.mp hz).1
  have l0 : rs.length = i := by rw [h.1, List.length_take]; omega
  rw [take_succ_of hz]
  refine ⟨by simp [h.1], fun j v y hv hy => ?_⟩
  by_cases hj : j < i
  · rw [List.getElem?_append_left (by omega)] at hv
    rw [List.getElem?_append_left (by rw [List.length_take]; omega)] at hy
    obtain ⟨a, e1, e2⟩ := h.2 j v y hv hy
    exact ⟨a, e1, e _ _ e2⟩
  · have lj : j < (rs ++ [V.ref r]).length := (List.getElem?_eq_some_iff.mp hv).1
    have : j = i := by simp at lj; omega
    subst this
    rw [List.getElem?_append_right (by omega), l0, Nat.sub_self] at hv
    rw [List.getElem?_append_right (by rw [List.length_take]; omega), List.length_take, show j - min j L.length = 0 by omega] at hy
    simp at hv hy
    subst hv hy
    exact ⟨r, rfl, hr⟩
theorem RowsOk.updL {H : Hp} {rs : List V} {L : VL} {D : Addr} {xs ys : List V} (r : RowsOk H rs L) (hD : H D = some (.lst xs)) : RowsOk (upd H D (.lst ys)) rs L := ⟨r.1, fun j v z h1 h2 => by
  obtain ⟨a, e1, e2⟩ := r.2 j v z h1 h2
  exact ⟨a, e1, by rw [upd_ne (ne_of e2 hD (by intro q; cases q))]; exact e2⟩⟩
def rowsD (L : VL) : List PyData := L.map fun z => .tuple z.2.rowD
theorem RowsOk.dp {H : Hp} : ∀ {L : VL} {rs : List V}, (∀ z ∈ L, z.2.ok) → RowsOk H rs L → DpAll K H rs (rowsD L)
  | [], rs, _, r => by
    have : rs = [] := List.eq_nil_of_length_eq_zero r.1
    subst this; exact .nil
  | z :: L, rs, ho, r => by
    match rs, r with
    | [], r => exact absurd r.1 (by simp)
    | v :: rs, r =>
      obtain ⟨a, rfl, ha⟩ := r.2 0 v z rfl rfl
      refine .cons (.tup (SqT.tup ha) (Vd.ps (ho z (by simp))).dp) (RowsOk.dp (fun y hy => ho y (by simp [hy])) ⟨by have := r.1; simpa using this, fun j u y h1 h2 => r.2 (j + 1) u y h1 h2⟩)
theorem rowsD_shaped {L : VL} (ho : ∀ z ∈ L, z.2.ok) : SeqAt.shaped (.tuple (rowsD L)) = true ∧ PyData.canLay0 (.tuple (rowsD L)) = true := by
  have h : PyData.canLayAll0 (rowsD L) = true ∧ PyData.depthAll (rowsD L) ≤ 1 := by
    induction L with
    | nil => exact ⟨rfl, Nat.zero_le _⟩
    | cons z L ih =>
      obtain ⟨a, b⟩ := ih fun y hy => ho y (by simp [hy])
      have p := Vd.ps (ho z (by simp))
      refine ⟨?_, ?_⟩
      · show (PyData.canLayAll0 z.2.rowD && PyData.canLayAll0 (rowsD L)) = true
        rw [p.lay, a]; rfl
      · show max (PyData.depthAll z.2.rowD + 1) (PyData.depthAll (rowsD L)) ≤ 1
        rw [p.show.2.1]; omega
  refine ⟨?_, h.1⟩
  show (PyData.canLayAll0 (rowsD L) && decide (PyData.depthAll (rowsD L) + 1 ≤ 64)) = true
  rw [h.1, decide_eq_true (by omega)]; rfl
def spTrRow (T : Top K mg) : Sp := fun vs H Q _ => ∃ (x : Addr) (L : VL), vs = [.ref x] ∧ TrA T H x L ∧ VesLT T H L ∧ L.length ≤ 6 ∧ ∀ r rs H', Same H H' → H' r = some (.tup rs) → RowsOk H' rs L → Q (.ref r) H'
theorem ok_Train_row (T : Top K mg) : FnG P w K mg base CX0 2 T.a_Train_row T.d_Train_row ["self"] (spTrRow T) := by
  have G_Vessel_row := ok_Vessel_row (P := P) (w := w) (base := base) T
  have G_Breaker_row := ok_Breaker_row (P := P) (w := w) (base := base) T
  have G_Ship_row := ok_Ship_row (P := P) (w := w) (base := base) T
  refine okG T.F_Train_row sc_Train_row (fun vs H Q E h => ?_) (fun cdv A outer s H vs Q E hr hgd h => ?_)
  · obtain ⟨x, L, rfl, _⟩ := h
    rfl
  · obtain ⟨x, L, rfl, ⟨dx, t, n, p, h, s', d, hx, ht, _⟩, hv, l6, q⟩ := h
    refine ⟨_, (pss_one (ps_ret (pe_callTy call_tuple_of (by rfl) T.n_tuple (by decide +kernel) (pa_cons (pe_lc (own := [("vessel", 1)]) (g := gName 1) rfl sc_Train_row.nd (pi_tup (pe_fld (pv 0) rfl)) (blkOk_by (own := [("vessel", 1)]) (N := ["self", "vessel"]) (sc := defScope s_Train_row) (by decide +kernel)) (fun _ _ _ _ _ => (pg_name (i := 1) sc_Train_row.nd rfl (by first | exact Or.inl rfl | exact Or.inr rfl))) (fun _ _ _ _ _ => pts_nil) (fun _ _ _ _ _ => (pe_alt (g_meth0 (pv 1) T.cl_Vessel T.me_Vessel_row G_Vessel_row (hr.mono (by decide)) hgd T.b_Vessel_row .nil pass0) (pe_alt (g_meth0 (pv 1) T.cl_Breaker T.me_Breaker_row G_Breaker_row (hr.mono (by decide)) hgd T.b_Breaker_row .nil pass0) (g_meth0 (pv 1) T.cl_Ship T.me_Ship_row G_Ship_row (hr.mono (by decide)) hgd T.b_Ship_row .nil pass0))))) pa_nil)))), ?_⟩
    walk_at "rd"
    refine i_tupI ?_
    walk_at "rd"
    refine ⟨x, _, dx, _, _, rfl, hx, T.cl_Train, T.na_Train__vessels, rfl, ?_⟩
    refine ⟨t, rfl, ⟨_, SqT.tup ht⟩, fun D hD => ?_⟩
    refine lc_tup (K := K) (a := t) (xs := refs L) (fun i H' => Same H H' ∧ ∃ rs, H' D = some (.lst rs) ∧ RowsOk H' rs (L.take i)) ⟨Same.new _ hD, [], upd_same, ⟨by simp, fun j v z h1 h2 => by simp at h1⟩⟩ (fun i H' _ h => seqT h.1 (SqT.tup ht)) ?_ ?_
    · rintro i v H1 hi ⟨sH, rs, kD, ro⟩
      obtain ⟨z, hz, rfl⟩ := refs_get hi
      walk_at "rd"
      refine i_row T ((hv.get hz).same sH) rfl (fun r H2 N => ?_)
      have kD2 := N.app kD
      have l0 : rs.length ≤ 6 := by rw [ro.1, List.length_take]; omega
      refine ⟨rs, kD2, small1000 (by omega), Same.upd (sH.trans N.same) hD, _, upd_same, (ro.snoc hz N.same N.at_).updL kD2⟩
    · rintro H1 ⟨sH, rs, kD, ro⟩
      rw [show (refs L).length = L.length by simp [refs], List.take_length] at ro
      walk_at "rd"
      refine ⟨D, rs, rfl, .inl ⟨SqL.lst kD, ?_⟩⟩
      (intro r hr; generalize er : upd _ r _ = J; have N := New.of er hr; clear er hr)
      exact q r rs J (sH.trans N.same) N.at_ (ro.same N.same)
def spLetAll (T : Top K mg) : Sp := fun vs H Q _ => ∃ (p : Addr) (L : VL) (t : Int), vs = [.ref p, .int t] ∧ H p = some (.lst (refs L)) ∧ L.length ≤ 6 ∧ VesLT T H L ∧ Q (.bl (letsAll L t)) H
theorem lets_take : ∀ {L : VL} {i : Nat} {z : Addr × Vd} (t : Int), L[i]? = some z → letsAll L t = (letsAll (L.take i) t && letsAll (L.drop i) (L.take i |>.foldl (fun t z => max 0 (t - z.2.thin)) t))
  | [], i, z, t, h => by simp at h
  | y :: L, 0, z, t, h => by simp [letsAll]
  | y :: L, i + 1, z, t, h => by
    have ih := lets_take (L := L) (i := i) (z := z) (max 0 (t - y.2.thin)) (by simpa using h)
    show (decide (t ≤ y.2.s) && letsAll L (max 0 (t - y.2.thin))) = _
    rw [ih, ← Bool.and_assoc]
    rfl
theorem ok_all_let (T : Top K mg) : FnG P w K mg base CX0 2 T.a_all_let T.d_all_let ["_law_vessels_here", "_law_thick"] (spLetAll T) := by
  have G_Vessel_thins := ok_Vessel_thins (P := P) (w := w) (base := base) T
  have G_Breaker_thins := ok_Breaker_thins (P := P) (w := w) (base := base) T
  refine okG T.F_all_let sc_all_let (fun vs H Q E h => ?_) (fun cdv A outer s H vs Q E hr hgd h => ?_)
  · obtain ⟨p, L, t, rfl, _⟩ := h
    rfl
  · obtain ⟨p, L, t, rfl, hp, l6, hv, q⟩ := h
    refine ⟨_, (pss_cons (ps_for PassesOwn.never rfl (pi_list (pv 0)) (pg_name (i := 2) sc_all_let.nd rfl (by first | exact Or.inl rfl | exact Or.inr rfl))
        (pss_cons (ps_if (pt_cmpR op_gt (pv 1) (pe_fld (pv 2) rfl) (nomark _))
        (pss_one (ps_ret pe_bl))
        pss_nil)
      (pss_one (ps_set (i := 1) sc_all_let.nd rfl (by first | exact Or.inl rfl | exact Or.inr rfl) (pe_callB (c_max2) (by rfl) T.n_max (by decide +kernel) (pa_cons pe_int (pa_cons (pe_op op_sub (pv 1) (pe_alt (g_meth0 (pv 2) T.cl_Vessel T.me_Vessel_thins G_Vessel_thins (hr.mono (by decide)) hgd T.b_Vessel_thins .nil pass0) (pe_alt (g_meth0 (pv 2) T.cl_Breaker T.me_Breaker_thins G_Breaker_thins (hr.mono (by decide)) hgd T.b_Breaker_thins .nil pass0) (g_meth0 (pv 2) T.cl_Ship T.me_Ship_thins G_Vessel_thins (hr.mono (by decide)) hgd T.b_Vessel_thins .nil pass0)))) pa_nil)))))))
      (pss_one (ps_ret pe_bl))), ?_⟩
    walk_at "rd"
    refine ⟨p, rfl, ⟨_, SqL.lst hp⟩, ?_⟩
    refine for_list (K := K) (a := p) (xs := refs L) (fun i σ H' => H' = H ∧ ∃ (u : Int) (z : Option V), letsAll L t = letsAll (L.drop i) u ∧ σ = [some (.ref p), some (.int u), z])
      ⟨rfl, t, _, rfl, rfl⟩ (fun i σ H' _ h => by rw [h.1]; exact SqL.lst hp) ?_ ?_
    · rintro i v σ H1 hi ⟨rfl, u, z0, hu, rfl⟩
      obtain ⟨z, hz, rfl⟩ := refs_get hi
      have vz := hv.get hz
      have ed : L.drop i = z :: L.drop (i + 1) := by
        have hl := List.getElem?_eq_some_iff.mp hz
        rw [← hl.2]; exact List.drop_eq_getElem_cons hl.1
      rw [ed] at hu
      have hu' : letsAll L t = (decide (u ≤ z.2.s) && letsAll (L.drop (i + 1)) (max 0 (u - z.2.thin))) := hu
      walk_at "rd"
      refine f_strength T vz ?_
      walk_at "rd"
      refine ifs (fun h1 => ?_) (fun h1 => ?_)
      · walk_at "rd"
        have : u > z.2.s := of_decide_eq_true h1
        rw [hu', decide_eq_false (by omega), Bool.false_and] at q
        exact q
      · have h1' : u ≤ z.2.s := by have := of_decide_eq_false h1; omega
        rw [decide_eq_true h1', Bool.true_and] at hu'
        walk_at "rd"
        refine i_thins T vz rfl ?_
        walk_at "rd"
        refine ⟨rfl, _, _, ?_, rfl⟩
        rw [hu']
        congr 1
        split <;> omega
    · rintro σ H1 ⟨rfl, u, z0, hu, rfl⟩
      rw [show (refs L).length = L.length by simp [refs], List.drop_length] at hu
      rw [show letsAll L t = true from hu] at q
      walk_at "rd"
      exact q
end
end Ice

set_option Elab.async false
set_option linter.all false
set_option maxRecDepth 100000
set_option maxHeartbeats 4000000
namespace Ice
open PySem PySem.Spec PyProof.Rows L2 TL
/-! side conditions, heaps, one step of a reading, and many -/
local macro_rules | `(tactic| walk_at "hp") => `(tactic| first | assumption | exact upd_same | exact New.at_ (by assumption) | (refine keepU ?_ (by assumption); walk_at "hp") | (refine New.app (by assumption) ?_; walk_at "hp") | (refine Same.app (by assumption) ?_; walk_at "hp") | (refine But.app (by assumption) (by assumption) ?_; walk_at "hp"))
local macro_rules | `(tactic| walk_at "sq") => `(tactic| first | assumption | exact SqL.lst (by walk_at "hp") | exact L2.Same.seq (New.same (by assumption)) (by assumption) | exact L2.Same.seq (by assumption) (by assumption))
local macro_rules | `(tactic| walk_at "len") => `(tactic| first | assumption | (simp only [List.length_cons, List.length_nil, List.length_append, List.length_map]; decide) | (refine Ice.sz_of ?_; simp only [List.length_cons, List.length_nil, List.length_append, List.length_map]; omega))
local macro_rules | `(tactic| walk_at "fresh") => `(tactic| (simp only [List.map_append, List.map_cons, List.map_nil, List.nil_append, List.cons_append]; decide +kernel))
local macro_rules | `(tactic| walk_at "sd") => `(tactic| first | assumption | (show _ ≠ _; omega) | exact Or.inl ⟨by omega, by omega⟩ | exact Or.inr ⟨by omega, by omega⟩ | exact ⟨by decide, by decide⟩ | exact ⟨by decide, by decide, by decide⟩ | exact ⟨by omega, by omega, by omega⟩)
/-! one step of a reading, and many -/
local macro_rules | `(tactic| walk_at "st") => `(tactic| first
  | with_reducible refine i_seq ?_
  | with_reducible refine i_if ?_
  | with_reducible refine i_next ?_
  | with_reducible refine i_ret ?_
  | with_reducible refine i_retN ?_
  | with_reducible refine i_drop ?_
  | with_reducible refine i_asg ?_
  | with_reducible refine i_gname ?_
  | with_reducible refine i_gsub ?_
  | ((with_reducible refine i_var (v := ?vv) ?hv ?_); (case hv => exact rfl))
  | with_reducible refine i_c ?_
  | with_reducible refine i_op ?_
  | with_reducible refine i_un ?_
  | with_reducible refine i_test ?_
  | with_reducible refine i_tB ?_
  | with_reducible refine i_and ?_
  | with_reducible refine i_or ?_
  | with_reducible refine i_not ?_
  | with_reducible refine i_andV ?_
  | with_reducible refine i_orV ?_
  | with_reducible refine i_notV ?_
  | with_reducible refine i_ifE ?_
  | with_reducible refine i_chain ?_
  | with_reducible refine i_bl ?_
  | with_reducible refine i_nil ?_
  | with_reducible refine i_cons ?_
  | with_reducible refine i_call ?_
  | with_reducible refine i_cb ?_
  | with_reducible refine i_rI0 ?_
  | with_reducible refine i_rU ?_
  | ((with_reducible refine i_rEq ?hs ?_); (case hs => exact rfl))
  | ((with_reducible refine i_rNe ?hs ?_); (case hs => exact rfl))
  | ((with_reducible refine i_rI ?hc ?_); (case hc => walk_at "sd"))
  | ((with_reducible refine i_ixL (xs := ?xs) (v := ?vv) ?hS ?he ?_); (case hS => walk_at "sq"); (case he => exact rfl))
  | ((with_reducible refine i_setL (xs := ?xs) (j := ?jj) ?hS ?he ?_); (case hS => walk_at "hp"); (case he => exact rfl))
  | with_reducible refine i_tup ?_
  | with_reducible refine i_lst ?_
  | with_reducible refine i_bm ?_
  | with_reducible refine i_bm0 ?_
  | with_reducible refine i_m1 ?_
  | with_reducible refine i_sl ?_
  | with_reducible refine i_nopart ?_
  | with_reducible refine i_part ?_
  | with_reducible refine i_int ?_
  | with_reducible refine i_str ?_
  | with_reducible refine i_for ?_
  | with_reducible refine i_yes ?_
  | ((with_reducible refine i_lenL (xs := ?xs) ?hS ?_); (case hS => walk_at "sq"))
  | ((with_reducible refine i_room ?hz ?_); (case hz => walk_at "len"))
  | with_reducible refine i_leT ?_
  | with_reducible refine i_notInS ?_
  | with_reducible refine i_inS ?_
  | with_reducible refine i_find ?_
  | with_reducible refine i_isB ?_
  | with_reducible refine i_max2 ?_
  | with_reducible refine i_min2 ?_
  | with_reducible exact trivial
  | with_reducible refine iteT ?_
  | with_reducible refine iteF ?_
  | with_reducible refine i_isstr ?_
  | with_reducible refine i_lc ?_
  | ((with_reducible refine i_cat (xs := ?xs) (zs := ?zs) ?ha ?hb ?hz ?_); (case ha => walk_at "hp"); (case hb => walk_at "hp"); (case hz => walk_at "len"))
  | ((with_reducible refine i_tyL (xs := ?xs) ?ha ?_); (case ha => walk_at "hp"))
  | with_reducible refine i_list ?_
  | with_reducible refine i_disp ?_
  | with_reducible refine i_pairs0 ?_
  | with_reducible refine i_pairs ?_
  | with_reducible refine i_newK ?_
  | with_reducible refine i_gcons ?_
  | with_reducible refine i_gnil ?_
  | with_reducible refine i_revL ?_
  | with_reducible refine i_rng1 ?_
  | ((with_reducible refine i_wipe ?hw ?_); (case hw => exact rfl))
  | with_reducible refine iteNT ?_
  | with_reducible refine iteNF ?_)
local macro_rules | `(tactic| walk_at "sx") => `(tactic| first
  | walk_at "st"
  | with_reducible refine i_kinit ?_
  | with_reducible refine i_ost ?_
  | with_reducible refine i_mkO ?_
  | with_reducible refine i_callE ?_
  | with_reducible refine i_makeE ?_
  | with_reducible refine i_xf ?_
  | with_reducible refine i_sfld ?_
  | with_reducible refine i_fld ?_
  | ((with_reducible refine i_ixT (xs := ?xs) (v := ?vv) ?hS ?he ?_); (case hS => exact SqT.tup (by walk_at "hp")); (case he => exact rfl))
  | with_reducible refine i_intB ?_
  | with_reducible refine i_runS ?_
  | with_reducible refine i_runN ?_
  | ((with_reducible refine i_xf1 (fs := ?ff) (v := ?vv) ?hx ?hl ?_); (case hx => walk_at "hp"); (case hl => exact rfl))
  | with_reducible refine i_methE ?_
  | with_reducible refine i_meth ?_
  | with_reducible refine i_make ?_
  | ((with_reducible refine i_obj (dx := ?dd) (fs := ?ff) ?hx ?hl ?_); (case hx => walk_at "hp"); (case hl => exact rfl))
  | ((with_reducible refine i_fld1 (C := ?CC) (dx := ?dd) (fs := ?ff) (v := ?vv) ?hx ?cl ?na ?hl ?_); (case hx => walk_at "hp"); (case cl => assumption); (case na => assumption); (case hl => exact rfl)))
local macro_rules | `(tactic| walk_at "rd") => `(tactic| repeat (walk_at "sx"))

theorem op_eqSfS {X : Cx} {a : Addr} {pn : List (Addr × Obj)} (hu : X.A.units + 64 < cLine) : OpR (X.suite a pn) (compareOp .Eq) (rEqSf X.K) := op_eqSf (X := X.suite a pn) hu
theorem un64 {k : Nat} {A : Around} (hr : Room k A) : A.units + 64 < cLine := by have := hr.un; omega
theorem Self.same {K : PySem.W.Frag} {H H' : Hp} {v : V} (h : Self K H v) (e : Same H H') : Self K H' v := by
  cases h with
  | ps h => exact .ps h
  | lst h k => exact .lst (L2.Same.seq e h) k
  | tup h k => exact .tup (seqT e h) k
  | dct h => exact .dct (e _ _ h)
  | ins h m n => exact .ins (e _ _ h) m n
theorem But.updF {b l : Addr} {H H' : Hp} {o : HO} (e : But b H H') (hl : H l = none) : But b H (L2.upd H' l o) := fun a u na ha => by rw [upd_ne (ne_of_none ha hl)]; exact e a u na ha
section
variable {P : Program} {w : World} {K : PySem.W.Frag} {mg : Str → Option Value} {base : Heap}
theorem CanT.same {T : Top K mg} {H H' : Hp} {v : V} {b : Bool} (c : CanT T H v b) (e : Same H H') : CanT T H' v b := by
  cases c with
  | no h k => exact .no (tyx_same h e) k
  | lst h t l i => exact .lst (L2.Same.seq e h) (tyx_same t e) l (fun j x b h1 h2 => (i j x b h1 h2).same e)
  | tup h t l i => exact .tup (seqT e h) (tyx_same t e) l (fun j x b h1 h2 => (i j x b h1 h2).same e)
def spNoKind (T : Top K mg) : Sp := fun vs H Q _ => ∃ v, vs = [v] ∧ CanT T H v false ∧ Self K H v ∧ ∀ H', Same H H' → Q (.bl true) H'
theorem made_same2 {H H' : Hp} {x dx : Addr} {u v : HO} (hx : H x = none) (hd : H dx = none) (e : But x (upd (upd H dx u) x v) H') : Same H H' := made_same hx hd e
theorem ok_no_kind (T : Top K mg) : FnG P w K mg base CX0 7 T.a_no_kind T.d_no_kind ["_law_thing"] (spNoKind T) := by
  have G_Train___init__ := ok_Train___init__ (P := P) (w := w) (base := base) T
  refine okG T.F_no_kind sc_no_kind (fun vs H Q E h => ?_) (fun cdv A outer s H vs Q E hr hgd h => ?_)
  · obtain ⟨v, rfl, _⟩ := h
    rfl
  · obtain ⟨v, rfl, c, sf, q⟩ := h
    have hu64 := un64 hr
    refine ⟨_, (pss_cons (ps_try_hds rfl rfl sc_no_kind.nd takes0 (fun W pn xe tk po => (pss_one (ps_expr (g_makeE (E := WE _) T.mk_Train G_Train___init__ (hr.mono (by decide)) hgd (by rfl) T.c_Train T.b_Train___init__ .nil (passAt tk) (pa_cons (pv 0) pa_nil)))))
      (.named (i := 1) rfl rfl ⟨by rfl, by decide, .inl T.c_NoKind⟩ (fun a oe cls d pn hz hf => (pss_one (ps_ret (pe_cmpR (op_eqSfS hu64) (pe_xf T.xf_NoKind T.nf_NoKind_found hz hf (pv 1)) (pv 0) (nomark _))))) (.plain ⟨by rfl, by decide, .inl T.c_IceError⟩ (fun a oe cls d pn hz hf => (pss_one (ps_ret pe_bl))) .nil)))
      (pss_one (ps_ret pe_bl))), ?_⟩
    walk_at "rd"
    intro x dx hx hdx nex
    have s0 : Same H (upd (upd H dx (.own x)) x (.ins T.a_Train dx [])) := fun a o h => by rw [upd_ne (ne_of_none h hx), upd_ne (ne_of_none h hdx)]; exact h
    refine ⟨x, dx, v, rfl, upd_same, .inr ⟨c.same s0, fun d H1 b1 k1 => ?_⟩⟩
    have s1 := made_same hx hdx b1
    refine ⟨true, T.ex_NoKind_NoKind, fun _ a ha => ?_, fun z => by cases z⟩
    walk_at "rd"
    refine ⟨rfl, sf.same s1, ?_⟩
    walk_at "rd"
    exact q _ s1
theorem pick4 {d : Int} (d0 : 0 ≤ d) (d1 : d < 4) : ∃ k : Kd, atI [V.str (Str.ofString "vessel"), V.str (Str.ofString "breaker"), V.str (Str.ofString "ship"), V.str (Str.ofString "breaker")] d = some (.str k.txt) := by
  obtain ⟨mv, hv, hm, _⟩ := atI_some (xs := [V.str (Str.ofString "vessel"), V.str (Str.ofString "breaker"), V.str (Str.ofString "ship"), V.str (Str.ofString "breaker")]) d0 (by simpa using d1)
  simp only [List.mem_cons, List.not_mem_nil, or_false] at hm
  rcases hm with rfl | rfl | rfl | rfl
  · exact ⟨.v, hv⟩
  · exact ⟨.b, hv⟩
  · exact ⟨.s, hv⟩
  · exact ⟨.b, hv⟩
def spVessels (T : Top K mg) : Sp := fun vs H Q _ => ∃ (b : Addr) (n : Nat), vs = [.ref b] ∧ Box H b n ∧ n ≤ 400 ∧
  ∀ (l : Addr) (L : VL) (H' : Hp), H l = none → But b H H' → Box H' b (n + 110) → H' l = some (.lst (refs L)) → 1 ≤ L.length → L.length ≤ 7 → VesLT T H' L → Q (.ref l) H'
theorem ok_vessels (T : Top K mg) : FnG P w K mg base CX0 8 T.a_vessels T.d_vessels ["_law_box_here"] (spVessels T) := by
  have G_names := ok_names (P := P) (w := w) (base := base) T
  have G_take := ok_take (P := P) (w := w) (base := base) T
  have G_vessel := ok_vessel (P := P) (w := w) (base := base) T
  have G_vessel_row := ok_vessel_row (P := P) (w := w) (base := base) T
  refine okG T.F_vessels sc_vessels (fun vs H Q E h => ?_) (fun cdv A outer s H vs Q E hr hgd h => ?_)
  · obtain ⟨b, n, rfl, _⟩ := h
    rfl
  · obtain ⟨b, n, rfl, hB, hn, q⟩ := h
    refine ⟨_, (pss_cons (ps_set (i := 1) sc_vessels.nd rfl (by first | exact Or.inl rfl | exact Or.inr rfl) (pe_lst pa_nil))
      (pss_cons (ps_set (i := 2) sc_vessels.nd rfl (by first | exact Or.inl rfl | exact Or.inr rfl) (g_call G_names (hr.mono (by decide)) hgd (by rfl) T.m_names T.F_names.kp T.b_names .nil pass0 (pa_cons (pv 0) (pa_cons pe_int pa_nil))))
      (pss_cons (ps_set (i := 3) sc_vessels.nd rfl (by first | exact Or.inl rfl | exact Or.inr rfl) (pe_op op_add pe_int (g_call G_take (hr.mono (by decide)) hgd (by rfl) T.m_take T.F_take.kp T.b_take .nil pass0 (pa_cons (pv 0) (pa_cons pe_int pa_nil)))))
      (pss_cons (ps_for PassesOwn.never rfl (pi_range1 (by rfl) T.n_range (pa_cons (pv 3) pa_nil)) (pg_name (i := 4) sc_vessels.nd rfl (by first | exact Or.inl rfl | exact Or.inr rfl))
        (pss_cons (ps_set (i := 5) sc_vessels.nd rfl (by first | exact Or.inl rfl | exact Or.inr rfl) (pe_ix ix_list (pe_lst (pa_cons pe_str (pa_cons pe_str (pa_cons pe_str (pa_cons pe_str pa_nil))))) (g_call G_take (hr.mono (by decide)) hgd (by rfl) T.m_take T.F_take.kp T.b_take .nil pass0 (pa_cons (pv 0) (pa_cons pe_int pa_nil))) (fun _ _ => rfl)))
      (pss_one (ps_if (PW.pt (pw_and (pt_cmpR op_gt (pv 4) pe_int (nomark _)) (pw_and1 (pt_cmpR op_eq (g_call G_take (hr.mono (by decide)) hgd (by rfl) T.m_take T.F_take.kp T.b_take .nil pass0 (pa_cons (pv 0) (pa_cons pe_int pa_nil))) pe_int (nomark _)))))
        (pss_one (ps_expr (pe_bm PySem.F.plainAttrs_list PySem.F.slot_list_append PySem.F.type_list_append mt_append (pv 1) (pa_cons (pe_ix ix_list (pv 1) (g_call G_take (hr.mono (by decide)) hgd (by rfl) T.m_take T.F_take.kp T.b_take .nil pass0 (pa_cons (pv 0) (pa_cons (pv 4) pa_nil))) (fun _ _ => rfl)) pa_nil))))
        (pss_one (ps_expr (pe_bm PySem.F.plainAttrs_list PySem.F.slot_list_append PySem.F.type_list_append mt_append (pv 1) (pa_cons (g_call G_vessel (hr.mono (by decide)) hgd (by rfl) T.m_vessel T.F_vessel.kp T.b_vessel .nil pass0 (pa_cons (pv 5) (pa_cons (g_call G_vessel_row (hr.mono (by decide)) hgd (by rfl) T.m_vessel_row T.F_vessel_row.kp T.b_vessel_row .nil pass0 (pa_cons (pv 0) (pa_cons (pv 5) (pa_cons (pe_ix ix_list (pv 2) (pv 4) (fun _ _ => rfl)) (pa_cons (pv 2) pa_nil))))) pa_nil))) pa_nil))))))))
      (pss_one (ps_ret (pv 1))))))), ?_⟩
    walk_at "rd"
    (intro l hl; generalize el : upd _ l _ = J0; have N0 := New.of el hl; clear el hl)
    have B0 := hB.nw N0
    have lb := hB.off N0
    have hl0 := N0.free
    walk_at "rd"
    refine ⟨b, 7, _, rfl, B0, by omega, by omega, fun pn ns H1 hpn e1 B1 k1 nl1 nnd hall => ?_⟩
    have pnb : pn ≠ b := by
      obtain ⟨_, _, _, z, _⟩ := B0.ex
      exact fun e => by rw [e] at hpn; rw [hpn] at z; cases z
    have pnl : pn ≠ l := fun e => by have z := N0.at_; rw [← e, hpn] at z; cases z
    have kl1 := e1 l _ lb N0.at_
    walk_at "rd"
    refine ⟨b, 7, _, rfl, B1, by omega, by decide, by decide, fun m H2 m0 m1 e2 B2 => ?_⟩
    walk_at "rd"
    obtain ⟨m, rfl⟩ := Int.eq_ofNat_of_zero_le m0
    refine ⟨(1 : Int) + m, rfl, by omega, by omega, ?_⟩
    refine for_range (lo := 0) (n := ((1 : Int) + m).toNat) (fun i σ H' => But b H H' ∧ Box H' b (n + 13 + 13 * i) ∧ H' pn = some (.lst (ns.map V.str)) ∧ (∃ L, H' l = some (.lst (refs L)) ∧ L.length = i ∧ VesLT T H' L) ∧ ∃ z1 z2, σ = [some (.ref b), some (.ref l), some (.ref pn), some (.int ((1 : Int) + m)), z1, z2])
      ⟨N0.but.trans (e1.trans e2), B2.mono (by omega), e2 pn _ pnb k1, ⟨[], e2 l _ lb kl1, rfl, fun z hz => by cases hz⟩, _, _, rfl⟩ ?_ ?_
    · rintro i σ H3 hi ⟨e3, B3, kp3, ⟨L, kl3, ll3, hv3⟩, z1, z2, rfl⟩
      have hi7 : i < 7 := by omega
      walk_at "rd"
      (intro p4 hp4; generalize ep4 : upd _ p4 _ = J4; have N4 := New.of ep4 hp4; clear ep4 hp4)
      walk_at "rd"
      refine ⟨b, 4, _, rfl, B3.nw N4, by omega, by decide, by decide, fun d5 H5 d50 d51 e5 B5 => ?_⟩
      obtain ⟨k, hk⟩ := pick4 d50 d51
      refine i_ixL (SqL.lst (e5 p4 _ (B3.off N4) N4.at_)) hk ?_
      have bb : ∃ xs, J4 b = some (.lst xs) := by obtain ⟨_, _, _, z, _⟩ := (B3.nw N4).ex; exact ⟨_, z⟩
      obtain ⟨bx, hbx⟩ := bb
      have e35 : But b H3 H5 := N4.but.trans e5
      have kl5 := e35 l _ lb kl3
      have kp5 := e35 pn _ pnb kp3
      have hv5 : VesLT T H5 L := (hv3.same N4.same).but hbx e5
      have e05 : But b H H5 := e3.trans e35
      have fin : ∀ (H6 : Hp) (z : Addr × Vd) (z2 : Option V), But b H H6 → Box H6 b (n + 13 + 13 * (i + 1)) → H6 pn = some (.lst (ns.map V.str)) → H6 l = some (.lst (refs L)) → VesLT T H6 L → VesT T H6 z.1 z.2 →
          (But b H (upd H6 l (.lst (refs L ++ [.ref z.1]))) ∧ Box (upd H6 l (.lst (refs L ++ [.ref z.1]))) b (n + 13 + 13 * (i + 1)) ∧ upd H6 l (.lst (refs L ++ [.ref z.1])) pn = some (.lst (ns.map V.str)) ∧
            (∃ L', upd H6 l (.lst (refs L ++ [.ref z.1])) l = some (.lst (refs L')) ∧ L'.length = i + 1 ∧ VesLT T (upd H6 l (.lst (refs L ++ [.ref z.1]))) L') ∧ ∃ z1 z2', ([some (.ref b), some (.ref l), some (.ref pn), some (.int ((1 : Int) + m)), some (.int (0 + (i : Int))), z2] : L2.St) = [some (.ref b), some (.ref l), some (.ref pn), some (.int ((1 : Int) + m)), z1, z2']) := by
        intro H6 z z2 e6 B6 kp6 kl6 hv6 vz
        refine ⟨e6.updF hl0, ?_, by rw [upd_ne pnl]; exact kp6, ⟨L ++ [z], by rw [upd_same]; simp [refs], by simp [ll3], ?_⟩, _, _, rfl⟩
        · exact B6.upd lb
        · intro y hy
          rcases List.mem_append.mp hy with h | h
          · exact (hv6.updL kl6) y h
          · have : y = z := by simpa using h
            rw [this]
            exact (VesL.updL (L := [z]) (fun u hu => by have : u = z := by simpa using hu
                                                        rw [this]; exact vz) kl6) z (by simp)
      walk_at "rd"
      have nmi : ∃ g, atI (ns.map V.str) (0 + (i : Int)) = some (.str g) ∧ isN (.str g) = true := pickN ⟨by omega, by omega, hall⟩ (by omega) (by simp; omega)
      obtain ⟨g, hg, hgn⟩ := nmi
      refine ifs (fun h1 => ?_) (fun h1 => ?_)
      · walk_at "rd"
        have i1 : 0 < i := by have := of_decide_eq_true h1; omega
        refine ⟨b, 5, _, rfl, B5, by omega, by decide, by decide, fun d6 H6 d60 d61 e6 B6 => ?_⟩
        have kl6 := e6 l _ lb kl5
        have kp6 := e6 pn _ pnb kp5
        have bb : ∃ xs, H5 b = some (.lst xs) := by obtain ⟨_, _, _, z, _⟩ := B5.ex; exact ⟨_, z⟩
        obtain ⟨by5, hby5⟩ := bb
        have hv6 := hv5.but hby5 e6
        have e06 := e05.trans e6
        walk_at "rd"
        refine ifs (fun h2 => ?_) (fun h2 => ?_)
        · walk_at "rd"
          refine ⟨b, (0 : Int) + i, _, rfl, B6, by omega, by omega, by omega, fun d7 H7 d70 d71 e7 B7 => ?_⟩
          have kl7 := e7 l _ lb kl6
          have bb : ∃ xs, H6 b = some (.lst xs) := by obtain ⟨_, _, _, z, _⟩ := B6.ex; exact ⟨_, z⟩
          obtain ⟨bz, hbz⟩ := bb
          have hv7 := hv6.but hbz e7
          have lt7 : d7.toNat < L.length := by omega
          have az : atI (refs L) d7 = some (.ref (L[d7.toNat]).1) := by
            obtain ⟨dn, rfl⟩ := Int.eq_ofNat_of_zero_le d70
            refine atI_nat ?_
            unfold refs
            rw [List.getElem?_map, List.getElem?_eq_getElem (by simpa using lt7)]
            rfl
          refine i_ixL (SqL.lst kl7) az ?_
          walk_at "rd"
          refine i_append kl7 (by simp [refs]; omega) ?_
          walk_at "rd"
          exact fin H7 _ _ (e06.trans e7) (B7.mono (by omega)) (e7 pn _ pnb kp6) kl7 hv7 (hv7 _ (List.getElem_mem lt7))
        · walk_at "rd"
          refine i_ixL (SqL.lst kp6) hg ?_
          walk_at "rd"
          refine ⟨b, pn, k, g, ns, _, rfl, B6, by omega, pnb, kp6, hgn, ⟨by omega, by omega, hall⟩, fun p xs H7 e7 B7 k7 rk => ?_⟩
          walk_at "rd"
          refine ⟨k, p, xs, rfl, k7, rk, fun x dx H8 s8 hx8 k8 => ?_⟩
          obtain ⟨v, ov, rfl, rfl⟩ := Vd.of rk
          have bb : ∃ xs, H6 b = some (.lst xs) := by obtain ⟨_, _, _, z, _⟩ := B6.ex; exact ⟨_, z⟩
          obtain ⟨bz, hbz⟩ := bb
          have e68 : But b H6 H8 := e7.trans (Ice.Same.but s8)
          have kl8 := e68 l _ lb kl6
          walk_at "rd"
          refine i_append kl8 (by simp [refs]; omega) ?_
          walk_at "rd"
          exact fin H8 (x, v) _ (e06.trans e68) ((B7.same s8).mono (by omega)) (e68 pn _ pnb kp6) kl8 (hv6.but hbz e68) ⟨ov, dx, k8⟩
      · walk_at "rd"
        refine i_ixL (SqL.lst kp5) hg ?_
        walk_at "rd"
        refine ⟨b, pn, k, g, ns, _, rfl, B5, by omega, pnb, kp5, hgn, ⟨by omega, by omega, hall⟩, fun p xs H7 e7 B7 k7 rk => ?_⟩
        walk_at "rd"
        refine ⟨k, p, xs, rfl, k7, rk, fun x dx H8 s8 hx8 k8 => ?_⟩
        obtain ⟨v, ov, rfl, rfl⟩ := Vd.of rk
        have bb : ∃ xs, H5 b = some (.lst xs) := by obtain ⟨_, _, _, z, _⟩ := B5.ex; exact ⟨_, z⟩
        obtain ⟨bz, hbz⟩ := bb
        have e68 : But b H5 H8 := e7.trans (Ice.Same.but s8)
        have kl8 := e68 l _ lb kl5
        walk_at "rd"
        refine i_append kl8 (by simp [refs]; omega) ?_
        walk_at "rd"
        exact fin H8 (x, v) _ (e05.trans e68) ((B7.same s8).mono (by omega)) (e68 pn _ pnb kp5) kl8 (hv5.but hbz e68) ⟨ov, dx, k8⟩
    · rintro σ H3 ⟨e3, B3, kp3, ⟨L, kl3, ll3, hv3⟩, z1, z2, rfl⟩
      walk_at "rd"
      exact q l L H3 hl0 e3 (B3.mono (by omega)) kl3 (by omega) (by omega) hv3
end
end Ice

set_option Elab.async false
set_option linter.all false
set_option maxRecDepth 100000
set_option maxHeartbeats 4000000
namespace Ice
open PySem PySem.Spec PyProof.Rows L2 TL
/-! side conditions, heaps, one step of a reading, and many -/
local macro_rules | `(tactic| walk_at "hp") => `(tactic| first | assumption | exact upd_same | exact New.at_ (by assumption) | (refine keepU ?_ (by assumption); walk_at "hp") | (refine New.app (by assumption) ?_; walk_at "hp") | (refine Same.app (by assumption) ?_; walk_at "hp") | (refine But.app (by assumption) (by assumption) ?_; walk_at "hp"))
local macro_rules | `(tactic| walk_at "sq") => `(tactic| first | assumption | exact SqL.lst (by walk_at "hp") | exact L2.Same.seq (New.same (by assumption)) (by assumption) | exact L2.Same.seq (by assumption) (by assumption))
local macro_rules | `(tactic| walk_at "len") => `(tactic| first | assumption | (simp only [List.length_cons, List.length_nil, List.length_append, List.length_map]; decide) | (refine Ice.sz_of ?_; simp only [List.length_cons, List.length_nil, List.length_append, List.length_map]; omega))
local macro_rules | `(tactic| walk_at "fresh") => `(tactic| (simp only [List.map_append, List.map_cons, List.map_nil, List.nil_append, List.cons_append]; decide +kernel))
local macro_rules | `(tactic| walk_at "sd") => `(tactic| first | assumption | (show _ ≠ _; omega) | exact Or.inl ⟨by omega, by omega⟩ | exact Or.inr ⟨by omega, by omega⟩ | exact ⟨by decide, by decide⟩ | exact ⟨by decide, by decide, by decide⟩ | exact ⟨by omega, by omega, by omega⟩)
/-! one step of a reading, and many -/
local macro_rules | `(tactic| walk_at "st") => `(tactic| first
  | with_reducible refine i_seq ?_
  | with_reducible refine i_if ?_
  | with_reducible refine i_next ?_
  | with_reducible refine i_ret ?_
  | with_reducible refine i_retN ?_
  | with_reducible refine i_drop ?_
  | with_reducible refine i_asg ?_
  | with_reducible refine i_gname ?_
  | with_reducible refine i_gsub ?_
  | ((with_reducible refine i_var (v := ?vv) ?hv ?_); (case hv => exact rfl))
  | with_reducible refine i_c ?_
  | with_reducible refine i_op ?_
  | with_reducible refine i_un ?_
  | with_reducible refine i_test ?_
  | with_reducible refine i_tB ?_
  | with_reducible refine i_and ?_
  | with_reducible refine i_or ?_
  | with_reducible refine i_not ?_
  | with_reducible refine i_andV ?_
  | with_reducible refine i_orV ?_
  | with_reducible refine i_notV ?_
  | with_reducible refine i_ifE ?_
  | with_reducible refine i_chain ?_
  | with_reducible refine i_bl ?_
  | with_reducible refine i_nil ?_
  | with_reducible refine i_cons ?_
  | with_reducible refine i_call ?_
  | with_reducible refine i_cb ?_
  | with_reducible refine i_rI0 ?_
  | with_reducible refine i_rU ?_
  | ((with_reducible refine i_rEq ?hs ?_); (case hs => exact rfl))
  | ((with_reducible refine i_rNe ?hs ?_); (case hs => exact rfl))
  | ((with_reducible refine i_rI ?hc ?_); (case hc => walk_at "sd"))
  | ((with_reducible refine i_ixL (xs := ?xs) (v := ?vv) ?hS ?he ?_); (case hS => walk_at "sq"); (case he => exact rfl))
  | ((with_reducible refine i_setL (xs := ?xs) (j := ?jj) ?hS ?he ?_); (case hS => walk_at "hp"); (case he => exact rfl))
  | with_reducible refine i_tup ?_
  | with_reducible refine i_lst ?_
  | with_reducible refine i_bm ?_
  | with_reducible refine i_bm0 ?_
  | with_reducible refine i_m1 ?_
  | with_reducible refine i_sl ?_
  | with_reducible refine i_nopart ?_
  | with_reducible refine i_part ?_
  | with_reducible refine i_int ?_
  | with_reducible refine i_str ?_
  | with_reducible refine i_for ?_
  | with_reducible refine i_yes ?_
  | ((with_reducible refine i_lenL (xs := ?xs) ?hS ?_); (case hS => walk_at "sq"))
  | ((with_reducible refine i_room ?hz ?_); (case hz => walk_at "len"))
  | with_reducible refine i_leT ?_
  | with_reducible refine i_notInS ?_
  | with_reducible refine i_inS ?_
  | with_reducible refine i_find ?_
  | with_reducible refine i_isB ?_
  | with_reducible refine i_max2 ?_
  | with_reducible refine i_min2 ?_
  | with_reducible exact trivial
  | with_reducible refine iteT ?_
  | with_reducible refine iteF ?_
  | with_reducible refine i_isstr ?_
  | with_reducible refine i_lc ?_
  | ((with_reducible refine i_cat (xs := ?xs) (zs := ?zs) ?ha ?hb ?hz ?_); (case ha => walk_at "hp"); (case hb => walk_at "hp"); (case hz => walk_at "len"))
  | ((with_reducible refine i_tyL (xs := ?xs) ?ha ?_); (case ha => walk_at "hp"))
  | with_reducible refine i_list ?_
  | with_reducible refine i_disp ?_
  | with_reducible refine i_pairs0 ?_
  | with_reducible refine i_pairs ?_
  | with_reducible refine i_newK ?_
  | with_reducible refine i_gcons ?_
  | with_reducible refine i_gnil ?_
  | with_reducible refine i_revL ?_
  | with_reducible refine i_rng1 ?_
  | ((with_reducible refine i_wipe ?hw ?_); (case hw => exact rfl))
  | with_reducible refine iteNT ?_
  | with_reducible refine iteNF ?_)
local macro_rules | `(tactic| walk_at "sx") => `(tactic| first
  | walk_at "st"
  | with_reducible refine i_kinit ?_
  | with_reducible refine i_ost ?_
  | with_reducible refine i_mkO ?_
  | with_reducible refine i_callE ?_
  | with_reducible refine i_makeE ?_
  | with_reducible refine i_xf ?_
  | with_reducible refine i_sfld ?_
  | with_reducible refine i_fld ?_
  | ((with_reducible refine i_ixT (xs := ?xs) (v := ?vv) ?hS ?he ?_); (case hS => exact SqT.tup (by walk_at "hp")); (case he => exact rfl))
  | with_reducible refine i_intB ?_
  | with_reducible refine i_runS ?_
  | with_reducible refine i_runN ?_
  | ((with_reducible refine i_xf1 (fs := ?ff) (v := ?vv) ?hx ?hl ?_); (case hx => walk_at "hp"); (case hl => exact rfl))
  | with_reducible refine i_methE ?_
  | with_reducible refine i_meth ?_
  | with_reducible refine i_make ?_
  | ((with_reducible refine i_obj (dx := ?dd) (fs := ?ff) ?hx ?hl ?_); (case hx => walk_at "hp"); (case hl => exact rfl))
  | ((with_reducible refine i_fld1 (C := ?CC) (dx := ?dd) (fs := ?ff) (v := ?vv) ?hx ?cl ?na ?hl ?_); (case hx => walk_at "hp"); (case cl => assumption); (case na => assumption); (case hl => exact rfl)))
local macro_rules | `(tactic| walk_at "rd") => `(tactic| repeat (walk_at "sx"))

section
variable {K : PySem.W.Frag} {H : Hp} {Q : VK}
theorem same_ne {a b : Addr} {vs : List V} {ds : List PyData} (ha : H a = some (.lst vs)) (hb : H b = some (.lst vs)) (h : PsAll vs ds) (q : Q (.bl false) H) : rNeD K (.ref a) (.ref b) H Q := by
  refine ⟨.list ds, .list ds, .lst (SqL.lst ha) h.dp, .lst (SqL.lst hb) h.dp, h.shapedL, h.shapedL, ?_⟩
  rw [SeqAt.eqv_refl _ (show PyData.canLay0 (.list ds) = true from h.lay)]
  exact q
theorem rows_ne {a b : Addr} {rs rs' : List V} {L : VL} (ho : ∀ z ∈ L, z.2.ok) (ha : H a = some (.tup rs)) (hb : H b = some (.tup rs')) (h : RowsOk H rs L) (h' : RowsOk H rs' L) (q : Q (.bl false) H) : rNeD K (.ref a) (.ref b) H Q := by
  have sh := rowsD_shaped ho
  refine ⟨.tuple (rowsD L), .tuple (rowsD L), .tup (SqT.tup ha) (RowsOk.dp ho h), .tup (SqT.tup hb) (RowsOk.dp ho h'), sh.1, sh.1, ?_⟩
  rw [SeqAt.eqv_refl _ sh.2]
  exact q
end
theorem namesPs {L : VL} (ho : ∀ z ∈ L, z.2.ok) : PsAll (namesL L) (L.map fun z => .str z.2.n) := by
  induction L with
  | nil => exact .nil
  | cons z L ih => exact .cons (name_ps (ho z (by simp)).five.nn) (ih fun y hy => ho y (by simp [hy]))
theorem res_made {n o t : Str} {h d f g m : Int} (hn : isN (.str n) = true) (ho : isN (.str o) = true) (ht : isN (.str t) = true) (ne : o ≠ t) (bh : 1 ≤ h ∧ h ≤ 1000) (bd : 0 ≤ d ∧ d ≤ 1000) (bf : 0 ≤ f ∧ f ≤ 1000000)
    (bg : 0 ≤ g ∧ g ≤ 1000) (bm : f ≤ m ∧ m ≤ 1000000) : resC (.str n) (.str o) (.str t) (.int h) (.int d) (.int f) (.int g) (.int m) = .made := by
  have e : [V.str n, V.str o, V.str t].find? bad = none := by simp [bad, hn, ho, ht]
  have i1 : ∀ {lo hi i : Int}, lo ≤ i ∧ i ≤ hi → ¬ inB lo hi (.int i) = false := fun {lo hi i} z => by
    show ¬ (decide (lo ≤ i) && decide (i ≤ hi)) = false
    rw [decide_eq_true z.1, decide_eq_true z.2]; decide
  unfold resC
  rw [e]
  dsimp only
  rw [if_neg (fun z => ne (by injection z)), if_neg (i1 bh), if_neg (i1 bd), if_neg (i1 bf), if_neg (i1 bg), if_neg (show ¬ inV6 (.int f) (.int m) = false from i1 bm)]
section
variable {P : Program} {w : World} {K : PySem.W.Frag} {mg : Str → Option Value} {base : Heap}
theorem free_back {H J : Hp} {p : Addr} (s : Same H J) (h : J p = none) : H p = none := by
  cases e : H p with
  | none => rfl
  | some o => rw [s _ _ e] at h; cases h
def HUp (L : VL) (i : Nat) (h : Int) : Prop := h ∈ hoursL L ∧ ∀ z ∈ L.take i, z.2.h ≤ h
def DUp (L : VL) (i : Nat) (d : Int) : Prop := (d = 0 ∨ d ∈ drL L) ∧ 0 ≤ d ∧ ∀ z ∈ L.take i, z.2.d ≤ d
theorem HUp.end {L : VL} {h : Int} (u : HUp L L.length h) : IsMax h (hoursL L) := ⟨u.1, fun y hy => by
  obtain ⟨z, hz, rfl⟩ := List.mem_map.mp hy
  exact u.2 z (by rw [List.take_length]; exact hz)⟩
theorem DUp.end {L : VL} {d e : Int} (u : DUp L L.length d) (m : IsMax e (drL L)) (ho : ∀ z ∈ L, z.2.ok) : d = e := by
  have h1 : ∀ y ∈ drL L, y ≤ d := fun y hy => by
    obtain ⟨z, hz, rfl⟩ := List.mem_map.mp hy
    exact u.2.2 z (by rw [List.take_length]; exact hz)
  have h2 := h1 e m.1
  have e0 : 0 ≤ e := by
    obtain ⟨z, hz, rfl⟩ := List.mem_map.mp m.1
    exact (ho z hz).five.bd.1
  rcases u.1 with h | h
  · omega
  · have := m.2 d h; omega
theorem ty_train (T : Top K mg) {H : Hp} {x dx : Addr} {fs : List (Str × V)} (hx : H x = some (.ins T.a_Train dx fs)) : TyX K H (.ref x) (.ref T.a_Train) := tyI hx T.cl_Train T.ca_Train T.mo_Train T
theorem train_any (T : Top K mg) : PySem.W.kitAny K (.ref T.a_Train) [.ref T.a_Breaker, .ref T.a_Ship] = some false := by
  show (match PySem.W.kitOne K (.ref T.a_Train) (.ref T.a_Breaker) with | some true => some true | some false => PySem.W.kitAny K (.ref T.a_Train) [.ref T.a_Ship] | none => none) = some false
  rw [T.io_Train_Breaker]
  show (match PySem.W.kitOne K (.ref T.a_Train) (.ref T.a_Ship) with | some true => some true | some false => PySem.W.kitAny K (.ref T.a_Train) [] | none => none) = some false
  rw [T.io_Train_Ship]
  rfl
def spRight (T : Top K mg) : Sp := fun vs H Q _ => ∃ (x l : Addr) (L : VL), vs = [.ref x, .ref l] ∧ TrA T H x L ∧ H l = some (.lst (refs L)) ∧ VesLT T H L ∧ 1 ≤ L.length ∧ L.length ≤ 6 ∧ ∀ H', Same H H' → Q (.bl true) H'
theorem ok_right (T : Top K mg) : FnG P w K mg base CX0 6 T.a_right T.d_right ["_law_train", "_law_vessels_here"] (spRight T) := by
  have G_all_let := ok_all_let (P := P) (w := w) (base := base) T
  have G_Channel___init__ := ok_Channel___init__ (P := P) (w := w) (base := base) T
  have G_Channel___init__ := ok_Channel___init__ (P := P) (w := w) (base := base) T
  have G_Train_kind := ok_Train_kind (P := P) (w := w) (base := base) T
  have G_Train_thins := ok_Train_thins (P := P) (w := w) (base := base) T
  have G_Train_names := ok_Train_names (P := P) (w := w) (base := base) T
  have G_Train_row := ok_Train_row (P := P) (w := w) (base := base) T
  have G_Vessel_lets := ok_Vessel_lets (P := P) (w := w) (base := base) T
  have G_Vessel_thins := ok_Vessel_thins (P := P) (w := w) (base := base) T
  have G_Breaker_thins := ok_Breaker_thins (P := P) (w := w) (base := base) T
  have G_Vessel_row := ok_Vessel_row (P := P) (w := w) (base := base) T
  have G_Breaker_row := ok_Breaker_row (P := P) (w := w) (base := base) T
  have G_Ship_row := ok_Ship_row (P := P) (w := w) (base := base) T
  refine okG T.F_right sc_right (fun vs H Q E h => ?_) (fun cdv A outer s H vs Q E hr hgd h => ?_)
  · obtain ⟨x, l, L, rfl, _⟩ := h
    rfl
  · obtain ⟨x, l, L, rfl, ta, hl, hv, l1, l6, q⟩ := h
    have hu110 := un110 hr
    have hu64 := un64 hr
    have ta' := ta
    obtain ⟨dx, t, n, p, h, s', d, hx, ht, ⟨z0, hz0, rfl, rfl⟩, mh, md, ms⟩ := ta'
    have o0 := (hv.get hz0).1.five
    have bh := max_of (f := Vd.h) hv.ok (fun v o => o.five.bh) mh
    have bd := max_of (f := Vd.d) hv.ok (fun v o => o.five.bd) md
    have bs := min_bounds hv.ok ms
    have bt := thins_nonneg hv.ok
    have at0 : atI (refs L) 0 = some (.ref z0.1) := by
      have : (refs L)[0]? = some (V.ref z0.1) := by unfold refs; rw [List.getElem?_map, hz0]; rfl
      exact atI_nat (j := 0) this
    (have cl_Train := T.cl_Train; have na_Train_name := T.na_Train_name; have na_Train_port := T.na_Train_port; have na_Train_hour := T.na_Train_hour; have na_Train_strength := T.na_Train_strength; have na_Train_draught := T.na_Train_draught; have na_Train__vessels := T.na_Train__vessels)
    refine ⟨_, (pss_cons (ps_if (PW.pt (pw_or (pt_not (pt_val (pe_callB c_isi (by rfl) T.n_isinstance (by decide +kernel) (pa_cons (pv 0) (pa_cons (pe_glob (v := .ref T.a_Vessel) (by rfl) T.c_Vessel rfl) pa_nil))))) (pw_or (pt_val (pe_callB call_isiT (by rfl) T.n_isinstance (by decide +kernel) (pa_cons (pv 0) (pa_cons (pe_tup (pa_cons (pe_glob (v := .ref T.a_Breaker) (by rfl) T.c_Breaker rfl) (pa_cons (pe_glob (v := .ref T.a_Ship) (by rfl) T.c_Ship rfl) pa_nil))) pa_nil)))) (pw_or1 (pt_not (pt_val (pe_callB c_isi (by rfl) T.n_isinstance (by decide +kernel) (pa_cons (pv 0) (pa_cons (pe_glob (v := .ref T.a_Train) (by rfl) T.c_Train rfl) pa_nil)))))))))
        (pss_one (ps_ret pe_bl))
        pss_nil)
      (pss_cons (ps_if (pt_cmpR op_ne (g_meth0 (pv 0) T.cl_Train T.me_Train_kind G_Train_kind (hr.mono (by decide)) hgd T.b_Train_kind .nil pass0) pe_str (nomark _))
        (pss_one (ps_ret pe_bl))
        pss_nil)
      (pss_cons (ps_set (i := 2) sc_right.nd rfl (by first | exact Or.inl rfl | exact Or.inr rfl) (pe_fld (pe_ix ix_list (pv 1) pe_int (fun _ _ => rfl)) rfl))
      (pss_cons (ps_set (i := 3) sc_right.nd rfl (by first | exact Or.inl rfl | exact Or.inr rfl) pe_int)
      (pss_cons (ps_set (i := 4) sc_right.nd rfl (by first | exact Or.inl rfl | exact Or.inr rfl) pe_int)
      (pss_cons (ps_for PassesOwn.never rfl (pi_list (pv 1)) (pg_name (i := 5) sc_right.nd rfl (by first | exact Or.inl rfl | exact Or.inr rfl))
        (C8.pss_cut (ps_if (pt_cmpR op_gt (pe_fld (pv 5) rfl) (pv 2) (nomark _))
        (pss_one (ps_set (i := 2) sc_right.nd rfl (by first | exact Or.inl rfl | exact Or.inr rfl) (pe_fld (pv 5) rfl)))
        pss_nil)
      (C8.pss_cut (ps_if (pt_cmpR op_gt (pe_fld (pv 5) rfl) (pv 3) (nomark _))
        (pss_one (ps_set (i := 3) sc_right.nd rfl (by first | exact Or.inl rfl | exact Or.inr rfl) (pe_fld (pv 5) rfl)))
        pss_nil)
      (pss_one (ps_set (i := 4) sc_right.nd rfl (by first | exact Or.inl rfl | exact Or.inr rfl) (pe_op op_add (pv 4) (pe_alt (g_meth0 (pv 5) T.cl_Vessel T.me_Vessel_thins G_Vessel_thins (hr.mono (by decide)) hgd T.b_Vessel_thins .nil pass0) (pe_alt (g_meth0 (pv 5) T.cl_Breaker T.me_Breaker_thins G_Breaker_thins (hr.mono (by decide)) hgd T.b_Breaker_thins .nil pass0) (g_meth0 (pv 5) T.cl_Ship T.me_Ship_thins G_Vessel_thins (hr.mono (by decide)) hgd T.b_Vessel_thins .nil pass0)))))))))
      (pss_cons (ps_set (i := 6) sc_right.nd rfl (by first | exact Or.inl rfl | exact Or.inr rfl) (pe_tup (pa_cons (pe_fld (pe_ix ix_list (pv 1) pe_int (fun _ _ => rfl)) rfl) (pa_cons (pe_fld (pe_ix ix_list (pv 1) pe_int (fun _ _ => rfl)) rfl) (pa_cons (pv 2) (pa_cons (pv 3) (pa_cons (pv 4) pa_nil)))))))
      (pss_cons (ps_if (pt_cmpR op_ne (pe_callB (c_repr hgd hu110) (by rfl) T.n_repr (by decide +kernel) (pa_cons (pe_tup (pa_cons (pe_fld (pv 0) rfl) (pa_cons (pe_fld (pv 0) rfl) (pa_cons (pe_fld (pv 0) rfl) (pa_cons (pe_fld (pv 0) rfl) (pa_cons (g_meth0 (pv 0) T.cl_Train T.me_Train_thins G_Train_thins (hr.mono (by decide)) hgd T.b_Train_thins .nil pass0) pa_nil)))))) pa_nil)) (pe_callB (c_repr hgd hu110) (by rfl) T.n_repr (by decide +kernel) (pa_cons (pv 6) pa_nil)) (nomark _))
        (pss_one (ps_ret pe_bl))
        pss_nil)
      (pss_cons (ps_set (i := 7) sc_right.nd rfl (by first | exact Or.inl rfl | exact Or.inr rfl) (g_meth0 (pv 0) T.cl_Train T.me_Train_names G_Train_names (hr.mono (by decide)) hgd T.b_Train_names .nil pass0))
      (pss_cons (ps_if (PW.pt (pw_or (pt_cmpR (op_neD hu64) (pv 7) (pe_lc (own := [("_law_vessel_here", 5)]) (g := gName 5) rfl sc_right.nd (pi_list (pv 1)) (blkOk_by (own := [("_law_vessel_here", 5)]) (N := ["_law_train", "_law_vessels_here", "_law_hour", "_law_draught", "_law_thins", "_law_vessel_here", "_law_due", "_law_names_here", "_law_channel"]) (sc := defScope s_right) (by decide +kernel)) (fun _ _ _ _ _ => (pg_name (i := 5) sc_right.nd rfl (by first | exact Or.inl rfl | exact Or.inr rfl))) (fun _ _ _ _ _ => pts_nil) (fun _ _ _ _ _ => (pe_fldB (pv 5) rfl))) (nomark _)) (pw_or1 (pt_cmpR (op_neD hu64) (g_meth0 (pv 0) T.cl_Train T.me_Train_row G_Train_row (hr.mono (by decide)) hgd T.b_Train_row .nil pass0) (pe_callTy call_tuple_of (by rfl) T.n_tuple (by decide +kernel) (pa_cons (pe_lc (own := [("_law_vessel_here", 5)]) (g := gName 5) rfl sc_right.nd (pi_list (pv 1)) (blkOk_by (own := [("_law_vessel_here", 5)]) (N := ["_law_train", "_law_vessels_here", "_law_hour", "_law_draught", "_law_thins", "_law_vessel_here", "_law_due", "_law_names_here", "_law_channel"]) (sc := defScope s_right) (by decide +kernel)) (fun _ _ _ _ _ => (pg_name (i := 5) sc_right.nd rfl (by first | exact Or.inl rfl | exact Or.inr rfl))) (fun _ _ _ _ _ => pts_nil) (fun _ _ _ _ _ => (pe_alt (g_meth0 (pv 5) T.cl_Vessel T.me_Vessel_row G_Vessel_row (hr.mono (by decide)) hgd T.b_Vessel_row .nil pass0) (pe_alt (g_meth0 (pv 5) T.cl_Breaker T.me_Breaker_row G_Breaker_row (hr.mono (by decide)) hgd T.b_Breaker_row .nil pass0) (g_meth0 (pv 5) T.cl_Ship T.me_Ship_row G_Ship_row (hr.mono (by decide)) hgd T.b_Ship_row .nil pass0))))) pa_nil)) (nomark _)))))
        (pss_one (ps_ret pe_bl))
        pss_nil)
      (pss_cons (ps_expr (pe_bm PySem.F.plainAttrs_list PySem.F.slot_list_append PySem.F.type_list_append mt_append (pv 7) (pa_cons pe_str pa_nil)))
      (pss_cons (ps_if (pt_cmpR (op_neD hu64) (g_meth0 (pv 0) T.cl_Train T.me_Train_names G_Train_names (hr.mono (by decide)) hgd T.b_Train_names .nil pass0) (pe_lc (own := [("_law_vessel_here", 5)]) (g := gName 5) rfl sc_right.nd (pi_list (pv 1)) (blkOk_by (own := [("_law_vessel_here", 5)]) (N := ["_law_train", "_law_vessels_here", "_law_hour", "_law_draught", "_law_thins", "_law_vessel_here", "_law_due", "_law_names_here", "_law_channel"]) (sc := defScope s_right) (by decide +kernel)) (fun _ _ _ _ _ => (pg_name (i := 5) sc_right.nd rfl (by first | exact Or.inl rfl | exact Or.inr rfl))) (fun _ _ _ _ _ => pts_nil) (fun _ _ _ _ _ => (pe_fldB (pv 5) rfl))) (nomark _))
        (pss_one (ps_ret pe_bl))
        pss_nil)
      (pss_cons (ps_if (PW.pt (pw_or (pt_not (pt_val (g_call G_all_let (hr.mono (by decide)) hgd (by rfl) T.m_all_let T.F_all_let.kp T.b_all_let .nil pass0 (pa_cons (pv 1) (pa_cons (pe_fld (pv 0) rfl) pa_nil))))) (pw_or1 (pt_val (g_call G_all_let (hr.mono (by decide)) hgd (by rfl) T.m_all_let T.F_all_let.kp T.b_all_let .nil pass0 (pa_cons (pv 1) (pa_cons (pe_op op_add (pe_fld (pv 0) rfl) pe_int) pa_nil)))))))
        (pss_one (ps_ret pe_bl))
        pss_nil)
      (pss_cons (ps_set (i := 8) sc_right.nd rfl (by first | exact Or.inl rfl | exact Or.inr rfl) (g_make T.mk_Channel G_Channel___init__ (hr.mono (by decide)) hgd (by rfl) T.c_Channel T.b_Channel___init__ .nil passL (pa_cons pe_str (pa_cons pe_str (pa_cons pe_str (pa_cons pe_int (pa_cons (pe_callB (c_max2) (by rfl) T.n_max (by decide +kernel) (pa_cons pe_int (pa_cons (pe_op op_sub (pv 3) pe_int) pa_nil))) (pa_cons pe_int (pa_cons pe_int (pa_cons pe_int pa_nil))))))))))
      (pss_one (ps_ret (pe_and (pe_cmpR op_eq (g_meth (pv 0) T.cl_Train T.me_Train_lets G_Vessel_lets (hr.mono (by decide)) hgd T.b_Vessel_lets .nil pass0 (pa_cons (pv 8) pa_nil)) (pe_cmpR op_eq (pv 3) pe_int (nomark _)) (nomark _)) (pe_one (g_meth (pv 0) T.cl_Train T.me_Train_lets G_Vessel_lets (hr.mono (by decide)) hgd T.b_Vessel_lets .nil pass0 (pa_cons (g_make T.mk_Channel G_Channel___init__ (hr.mono (by decide)) hgd (by rfl) T.c_Channel T.b_Channel___init__ .nil passL (pa_cons pe_str (pa_cons pe_str (pa_cons pe_str (pa_cons pe_int (pa_cons (pv 3) (pa_cons pe_int (pa_cons pe_int (pa_cons pe_int pa_nil))))))))) pa_nil)))))))))))))))))))), ?_⟩
    walk_at "rd"
    refine i_isiV (ty_train T hx) T.io_Train_Vessel ?_
    walk_at "rd"
    (intro p1 hp1; generalize ep1 : upd _ p1 _ = J1; have N1 := New.of ep1 hp1; clear ep1 hp1)
    walk_at "rd"
    have hx1 := N1.app hx
    refine ⟨.ref x, p1, _, .ref T.a_Train, _, false, rfl, N1.at_, .cons (.own _) (.cons (.own _) .nil), ty_train T hx1, train_any T, ?_⟩
    walk_at "rd"
    refine i_isiV (ty_train T hx1) T.io_Train_Train ?_
    walk_at "rd"
    refine ⟨x, rfl, ?_⟩
    walk_at "rd"
    rw [decide_eq_true rfl]
    have hl1 := N1.app hl
    have hv1 := hv.same N1.same
    walk_at "rd"
    refine i_ixL (SqL.lst hl1) at0 ?_
    refine f_hour T (hv1.get hz0) ?_
    walk_at "rd"
    refine ⟨l, rfl, ⟨_, SqL.lst hl1⟩, ?_⟩
    refine for_list (K := K) (a := l) (xs := refs L) (fun i σ H' => H' = J1 ∧ ∃ (hr dr : Int) (z : Option V), HUp L i hr ∧ DUp L i dr ∧ σ = [some (.ref x), some (.ref l), some (.int hr), some (.int dr), some (.int (thins (L.take i))), z, none, none, none])
      ⟨rfl, _, _, _, ⟨List.mem_map.mpr ⟨z0, List.mem_of_getElem? hz0, rfl⟩, by simp⟩, ⟨.inl rfl, by decide, by simp⟩, rfl⟩ (fun i σ H' _ h => by rw [h.1]; exact SqL.lst hl1) ?_ ?_
    · rintro i v σ H1 hi ⟨rfl, hr, dr, zo, uh, ud, rfl⟩
      obtain ⟨z, hz, rfl⟩ := refs_get hi
      have vz := hv1.get hz
      walk_at "rd"
      refine i_cut (fun σ H' => H' = H1 ∧ ∃ hr, HUp L (i + 1) hr ∧ σ = [some (.ref x), some (.ref l), some (.int hr), some (.int dr), some (.int (thins (L.take i))), some (.ref z.1), none, none, none]) ?_ ?_
      · walk_at "rd"
        refine f_hour T vz ?_
        walk_at "rd"
        refine ifs (fun h1 => ?_) (fun h1 => ?_)
        · walk_at "rd"
          refine f_hour T vz ?_
          have : z.2.h > hr := of_decide_eq_true h1
          refine ⟨rfl, z.2.h, ⟨List.mem_map.mpr ⟨z, List.mem_of_getElem? hz, rfl⟩, ?_⟩, rfl⟩
          rw [take_succ_of hz]
          intro y hy
          rcases List.mem_append.mp hy with e | e
          · have := uh.2 y e; omega
          · have : y = z := by simpa using e
            rw [this]; omega
        · have : ¬ z.2.h > hr := of_decide_eq_false h1
          refine ⟨rfl, hr, ⟨uh.1, ?_⟩, rfl⟩
          rw [take_succ_of hz]
          intro y hy
          rcases List.mem_append.mp hy with e | e
          · exact uh.2 y e
          · have : y = z := by simpa using e
            rw [this]; omega
      · rintro σ H2 ⟨rfl, hr2, uh2, rfl⟩
        refine i_cut (fun σ H' => H' = H2 ∧ ∃ dr, DUp L (i + 1) dr ∧ σ = [some (.ref x), some (.ref l), some (.int hr2), some (.int dr), some (.int (thins (L.take i))), some (.ref z.1), none, none, none]) ?_ ?_
        · walk_at "rd"
          refine f_draught T vz ?_
          walk_at "rd"
          have od := vz.1.five.bd
          refine ifs (fun h1 => ?_) (fun h1 => ?_)
          · walk_at "rd"
            refine f_draught T vz ?_
            have : z.2.d > dr := of_decide_eq_true h1
            refine ⟨rfl, z.2.d, ⟨.inr (List.mem_map.mpr ⟨z, List.mem_of_getElem? hz, rfl⟩), by omega, ?_⟩, rfl⟩
            rw [take_succ_of hz]
            intro y hy
            rcases List.mem_append.mp hy with e | e
            · have := ud.2.2 y e; omega
            · have : y = z := by simpa using e
              rw [this]; omega
          · have : ¬ z.2.d > dr := of_decide_eq_false h1
            refine ⟨rfl, dr, ⟨ud.1, ud.2.1, ?_⟩, rfl⟩
            rw [take_succ_of hz]
            intro y hy
            rcases List.mem_append.mp hy with e | e
            · exact ud.2.2 y e
            · have : y = z := by simpa using e
              rw [this]; omega
        · rintro σ H3 ⟨rfl, dr2, ud2, rfl⟩
          walk_at "rd"
          refine i_thins T vz rfl ?_
          walk_at "rd"
          refine ⟨rfl, hr2, dr2, some (.ref z.1), uh2, ud2, ?_⟩
          have e : thins (L.take (i + 1)) = thins (L.take i) + z.2.thin := by rw [take_succ_of hz, thins_app]; simp [thins]
          rw [e]; rfl
    · rintro σ H1 ⟨rfl, hr1, dr1, zo, uh, ud, rfl⟩
      have hlen : (refs L).length = L.length := by simp [refs]
      rw [hlen] at uh ud
      rw [hlen, List.take_length]
      have e1 := uh.end.uniq mh
      have e2 := ud.end md hv.ok
      subst e1 e2
      have s1 := N1.same
      walk_at "rd"
      refine i_ixL (SqL.lst hl1) at0 ?_
      refine f_name T (hv1.get hz0) ?_
      walk_at "rd"
      refine i_ixL (SqL.lst hl1) at0 ?_
      refine f_port T (hv1.get hz0) ?_
      walk_at "rd"
      (intro p2 hp2; generalize ep2 : upd _ p2 _ = J2; have N2 := New.of ep2 hp2; clear ep2 hp2)
      have s2 : Same H J2 := s1.trans N2.same
      have hx2 := s2 _ _ hx
      walk_at "rd"
      refine ⟨x, L, rfl, ta.same s2, hv.same s2, l6, fun J3 s23 => ?_⟩
      walk_at "rd"
      (intro p4 hp4; generalize ep4 : upd _ p4 _ = J4; have N4 := New.of ep4 hp4; clear ep4 hp4)
      have s4 : Same H J4 := s2.trans (s23.trans N4.same)
      have ps5 : PsAll [V.str z0.2.n, V.str z0.2.p, V.int hr1, V.int dr1, V.int (thins L)] [.str z0.2.n, .str z0.2.p, .int hr1, .int dr1, .int (thins L)] :=
        .cons (name_ps o0.nn) (.cons (name_ps o0.np) (.cons (.int (by omega)) (.cons (.int (by omega)) (.cons (.int (by omega)) .nil))))
      walk_at "rd"
      refine i_repr (Rp.tupP N4.at_ ps5 (by simp)) ?_
      walk_at "rd"
      refine i_repr (Rp.tupP (N4.app (s23 _ _ N2.at_)) ps5 (by simp)) ?_
      walk_at "rd"
      rw [decide_eq_true rfl]
      walk_at "rd"
      refine ⟨x, L, rfl, ta.same s4, hv.same s4, l6, fun D5 J5 N5 => ?_⟩
      have s5 : Same H J5 := s4.trans N5.same
      have f5 : H D5 = none := free_back s4 N5.free
      have hv5 := hv.same s5
      walk_at "rd"
      refine ⟨l, rfl, ⟨_, SqL.lst (s5 _ _ hl)⟩, fun D6 hD6 => ?_⟩
      refine lc_pureL (ys := namesL L) (by simp [refs, namesL]) (by simp [refs]; omega) (SqL.lst (s5 _ _ hl)) hD6 (fun i v y Hi N' M' hi hy sm hN => ?_) ?_
      · obtain ⟨z, hz, rfl⟩ := refs_get hi
        walk_at "rd"
        refine f_name T ((hv5.get hz).same sm) ?_
        rw [name_get hy hz] at hN
        exact hN
      generalize eH6 : upd _ D6 (HO.lst (namesL L)) = J6
      have N6 := New.of eH6 hD6
      have s6 : Same H J6 := s5.trans N6.same
      walk_at "rd"
      refine same_ne (N6.app N5.at_) N6.at_ (namesPs hv.ok) ?_
      walk_at "rd"
      refine ⟨x, L, rfl, ta.same s6, hv.same s6, l6, fun r7 rs7 J7 s67 k7 ro7 => ?_⟩
      have s7 : Same H J7 := s6.trans s67
      walk_at "rd"
      refine ⟨l, rfl, ⟨_, SqL.lst (s7 _ _ hl)⟩, fun D8 hD8 => ?_⟩
      refine lc_list (K := K) (a := l) (xs := refs L) (fun i H' => Same J7 H' ∧ ∃ rs, H' D8 = some (.lst rs) ∧ RowsOk H' rs (L.take i)) ⟨Same.new _ hD8, [], upd_same, ⟨by simp, fun j v z h1 h2 => by simp at h1⟩⟩ (fun i H' _ h => SqL.lst (h.1 _ _ (s7 _ _ hl))) ?_ ?_
      · rintro i v H1 hi ⟨sH, rs, kD, ro⟩
        obtain ⟨z, hz, rfl⟩ := refs_get hi
        walk_at "rd"
        refine i_row T ((hv.get hz).same (s7.trans sH)) rfl (fun r H2 N => ?_)
        have kD2 := N.app kD
        have l0 : rs.length ≤ 6 := by rw [ro.1, List.length_take]; omega
        refine ⟨rs, kD2, small1000 (by omega), Same.upd (sH.trans N.same) hD8, _, upd_same, (ro.snoc hz N.same N.at_).updL kD2⟩
      rintro J8 ⟨s78, rs8, k8, ro8⟩
      rw [show (refs L).length = L.length by simp [refs], List.take_length] at ro8
      walk_at "rd"
      refine ⟨D8, rs8, rfl, .inl ⟨SqL.lst k8, ?_⟩⟩
      (intro r9 hr9; generalize er9 : upd _ r9 _ = J9; have N9 := New.of er9 hr9; clear er9 hr9)
      have s9 : Same H J9 := s7.trans (s78.trans N9.same)
      refine rows_ne hv.ok (N9.app (s78 _ _ k7)) N9.at_ (ro7.same (s78.trans N9.same)) (ro8.same N9.same) ?_
      have kD9 : J9 D5 = some (.lst (namesL L)) := N9.app (s78 _ _ (s67 _ _ (N6.app N5.at_)))
      walk_at "rd"
      refine i_append kD9 (by simp [namesL]; omega) ?_
      generalize eH10 : upd J9 D5 (HO.lst (namesL L ++ [V.str (Str.ofString "more")])) = J10
      have s10 : Same H J10 := by rw [← eH10]; exact Same.upd s9 f5
      walk_at "rd"
      refine ⟨x, L, rfl, ta.same s10, hv.same s10, l6, fun D11 J11 N11 => ?_⟩
      have s11 : Same H J11 := s10.trans N11.same
      have hv11 := hv.same s11
      walk_at "rd"
      refine ⟨l, rfl, ⟨_, SqL.lst (s11 _ _ hl)⟩, fun D12 hD12 => ?_⟩
      refine lc_pureL (ys := namesL L) (by simp [refs, namesL]) (by simp [refs]; omega) (SqL.lst (s11 _ _ hl)) hD12 (fun i v y Hi N' M' hi hy sm hN => ?_) ?_
      · obtain ⟨z, hz, rfl⟩ := refs_get hi
        walk_at "rd"
        refine f_name T ((hv11.get hz).same sm) ?_
        rw [name_get hy hz] at hN
        exact hN
      generalize eH12 : upd _ D12 (HO.lst (namesL L)) = J12
      have N12 := New.of eH12 hD12
      have s12 : Same H J12 := s11.trans N12.same
      have hx12 := s12 _ _ hx
      have lm := lets_min hv.ok ms bs.1
      walk_at "rd"
      refine same_ne (N12.app N11.at_) N12.at_ (namesPs hv.ok) ?_
      walk_at "rd"
      refine ⟨l, L, _, rfl, s12 _ _ hl, l6, hv.same s12, ?_⟩
      rw [lm.1]
      walk_at "rd"
      refine ⟨l, L, _, rfl, s12 _ _ hl, l6, hv.same s12, ?_⟩
      rw [lm.2]
      walk_at "rd"
      have nc : isN (.str (Str.ofString "c")) = true := by decide +kernel
      have na : isN (.str (Str.ofString "a")) = true := by decide +kernel
      have nb : isN (.str (Str.ofString "b")) = true := by decide +kernel
      have thC : ∀ (Hx : Hp) (e : Int), ∀ v ∈ [V.str (Str.ofString "c"), V.str (Str.ofString "a"), V.str (Str.ofString "b"), V.int 1, V.int e, V.int 0, V.int 0, V.int 0], Th Hx v := by
        intro Hx e v hv
        simp only [List.mem_cons, List.not_mem_nil, or_false] at hv
        rcases hv with rfl | rfl | rfl | rfl | rfl | rfl | rfl | rfl
        · exact name_th _ nc
        · exact name_th _ na
        · exact name_th _ nb
        all_goals exact .inr ⟨_, .int _⟩
      generalize hde : (if dr1 - 1 > 0 then dr1 - 1 else 0) = de
      have bde : 0 ≤ de ∧ de ≤ 1000 ∧ (de ≥ dr1 ↔ dr1 = 0) := by rw [← hde]; split <;> omega
      intro y dy hy hdy ney
      refine ⟨y, dy, _, _, _, _, _, _, _, _, rfl, upd_same, thC _ _, ?_⟩
      rw [res_made nc na nb (by decide +kernel) (by decide) ⟨bde.1, bde.2.1⟩ (by decide) (by decide) (by decide)]
      intro J13 e13 k13
      have s13 : Same H J13 := s12.trans (made_same hy hdy e13)
      refine ⟨rfl, ?_⟩
      walk_at "rd"
      refine ⟨x, T.a_Train, dx, y, dy, _, _, dr1, de, rfl, s13 _ _ hx, T.cl_Train, T.na_Train_draught, rfl, k13, rfl, ?_⟩
      walk_at "rd"
      have be : decide (de ≥ dr1) = decide (V.int dr1 = V.int 0) := by
        rw [decide_eq_decide]
        exact ⟨fun z => by rw [bde.2.2.mp z], fun z => bde.2.2.mpr (by injection z)⟩
      rw [be, decide_eq_true rfl]
      have hx13 := s13 _ _ hx
      walk_at "rd"
      intro y2 dy2 hy2 hdy2 ney2
      refine ⟨y2, dy2, _, _, _, _, _, _, _, _, rfl, upd_same, thC _ _, ?_⟩
      rw [res_made nc na nb (by decide +kernel) (by decide) bd (by decide) (by decide) (by decide)]
      intro J14 e14 k14
      have s14 : Same H J14 := s13.trans (made_same hy2 hdy2 e14)
      refine ⟨rfl, ?_⟩
      walk_at "rd"
      refine ⟨x, T.a_Train, dx, y2, dy2, _, _, dr1, dr1, rfl, s14 _ _ hx, T.cl_Train, T.na_Train_draught, rfl, k14, rfl, ?_⟩
      rw [decide_eq_true (Int.le_refl dr1 : dr1 ≥ dr1)]
      exact q _ s14
end
end Ice

set_option Elab.async false
set_option linter.all false
set_option maxRecDepth 100000
set_option maxHeartbeats 4000000
namespace Ice
open PySem PySem.Spec PyProof.Rows L2 TL
/-! side conditions, heaps, one step of a reading, and many -/
local macro_rules | `(tactic| walk_at "hp") => `(tactic| first | assumption | exact upd_same | exact New.at_ (by assumption) | (refine keepU ?_ (by assumption); walk_at "hp") | (refine New.app (by assumption) ?_; walk_at "hp") | (refine Same.app (by assumption) ?_; walk_at "hp") | (refine But.app (by assumption) (by assumption) ?_; walk_at "hp"))
local macro_rules | `(tactic| walk_at "sq") => `(tactic| first | assumption | exact SqL.lst (by walk_at "hp") | exact L2.Same.seq (New.same (by assumption)) (by assumption) | exact L2.Same.seq (by assumption) (by assumption))
local macro_rules | `(tactic| walk_at "len") => `(tactic| first | assumption | (simp only [List.length_cons, List.length_nil, List.length_append, List.length_map]; decide) | (refine Ice.sz_of ?_; simp only [List.length_cons, List.length_nil, List.length_append, List.length_map]; omega))
local macro_rules | `(tactic| walk_at "fresh") => `(tactic| (simp only [List.map_append, List.map_cons, List.map_nil, List.nil_append, List.cons_append]; decide +kernel))
local macro_rules | `(tactic| walk_at "sd") => `(tactic| first | assumption | (show _ ≠ _; omega) | exact Or.inl ⟨by omega, by omega⟩ | exact Or.inr ⟨by omega, by omega⟩ | exact ⟨by decide, by decide⟩ | exact ⟨by decide, by decide, by decide⟩ | exact ⟨by omega, by omega, by omega⟩)
/-! one step of a reading, and many -/
local macro_rules | `(tactic| walk_at "st") => `(tactic| first
  | with_reducible refine i_seq ?_
  | with_reducible refine i_if ?_
  | with_reducible refine i_next ?_
  | with_reducible refine i_ret ?_
  | with_reducible refine i_retN ?_
  | with_reducible refine i_drop ?_
  | with_reducible refine i_asg ?_
  | with_reducible refine i_gname ?_
  | with_reducible refine i_gsub ?_
  | ((with_reducible refine i_var (v := ?vv) ?hv ?_); (case hv => exact rfl))
  | with_reducible refine i_c ?_
  | with_reducible refine i_op ?_
  | with_reducible refine i_un ?_
  | with_reducible refine i_test ?_
  | with_reducible refine i_tB ?_
  | with_reducible refine i_and ?_
  | with_reducible refine i_or ?_
  | with_reducible refine i_not ?_
  | with_reducible refine i_andV ?_
  | with_reducible refine i_orV ?_
  | with_reducible refine i_notV ?_
  | with_reducible refine i_ifE ?_
  | with_reducible refine i_chain ?_
  | with_reducible refine i_bl ?_
  | with_reducible refine i_nil ?_
  | with_reducible refine i_cons ?_
  | with_reducible refine i_call ?_
  | with_reducible refine i_cb ?_
  | with_reducible refine i_rI0 ?_
  | with_reducible refine i_rU ?_
  | ((with_reducible refine i_rEq ?hs ?_); (case hs => exact rfl))
  | ((with_reducible refine i_rNe ?hs ?_); (case hs => exact rfl))
  | ((with_reducible refine i_rI ?hc ?_); (case hc => walk_at "sd"))
  | ((with_reducible refine i_ixL (xs := ?xs) (v := ?vv) ?hS ?he ?_); (case hS => walk_at "sq"); (case he => exact rfl))
  | ((with_reducible refine i_setL (xs := ?xs) (j := ?jj) ?hS ?he ?_); (case hS => walk_at "hp"); (case he => exact rfl))
  | with_reducible refine i_tup ?_
  | with_reducible refine i_lst ?_
  | with_reducible refine i_bm ?_
  | with_reducible refine i_bm0 ?_
  | with_reducible refine i_m1 ?_
  | with_reducible refine i_sl ?_
  | with_reducible refine i_nopart ?_
  | with_reducible refine i_part ?_
  | with_reducible refine i_int ?_
  | with_reducible refine i_str ?_
  | with_reducible refine i_for ?_
  | with_reducible refine i_yes ?_
  | ((with_reducible refine i_lenL (xs := ?xs) ?hS ?_); (case hS => walk_at "sq"))
  | ((with_reducible refine i_room ?hz ?_); (case hz => walk_at "len"))
  | with_reducible refine i_leT ?_
  | with_reducible refine i_notInS ?_
  | with_reducible refine i_inS ?_
  | with_reducible refine i_find ?_
  | with_reducible refine i_isB ?_
  | with_reducible refine i_max2 ?_
  | with_reducible refine i_min2 ?_
  | with_reducible exact trivial
  | with_reducible refine iteT ?_
  | with_reducible refine iteF ?_
  | with_reducible refine i_isstr ?_
  | with_reducible refine i_lc ?_
  | ((with_reducible refine i_cat (xs := ?xs) (zs := ?zs) ?ha ?hb ?hz ?_); (case ha => walk_at "hp"); (case hb => walk_at "hp"); (case hz => walk_at "len"))
  | ((with_reducible refine i_tyL (xs := ?xs) ?ha ?_); (case ha => walk_at "hp"))
  | with_reducible refine i_list ?_
  | with_reducible refine i_disp ?_
  | with_reducible refine i_pairs0 ?_
  | with_reducible refine i_pairs ?_
  | with_reducible refine i_newK ?_
  | with_reducible refine i_gcons ?_
  | with_reducible refine i_gnil ?_
  | with_reducible refine i_revL ?_
  | with_reducible refine i_rng1 ?_
  | ((with_reducible refine i_wipe ?hw ?_); (case hw => exact rfl))
  | with_reducible refine iteNT ?_
  | with_reducible refine iteNF ?_)
local macro_rules | `(tactic| walk_at "sx") => `(tactic| first
  | walk_at "st"
  | with_reducible refine i_kinit ?_
  | with_reducible refine i_ost ?_
  | with_reducible refine i_mkO ?_
  | with_reducible refine i_callE ?_
  | with_reducible refine i_makeE ?_
  | with_reducible refine i_xf ?_
  | with_reducible refine i_sfld ?_
  | with_reducible refine i_fld ?_
  | ((with_reducible refine i_ixT (xs := ?xs) (v := ?vv) ?hS ?he ?_); (case hS => exact SqT.tup (by walk_at "hp")); (case he => exact rfl))
  | with_reducible refine i_intB ?_
  | with_reducible refine i_runS ?_
  | with_reducible refine i_runN ?_
  | ((with_reducible refine i_xf1 (fs := ?ff) (v := ?vv) ?hx ?hl ?_); (case hx => walk_at "hp"); (case hl => exact rfl))
  | with_reducible refine i_methE ?_
  | with_reducible refine i_meth ?_
  | with_reducible refine i_make ?_
  | ((with_reducible refine i_obj (dx := ?dd) (fs := ?ff) ?hx ?hl ?_); (case hx => walk_at "hp"); (case hl => exact rfl))
  | ((with_reducible refine i_fld1 (C := ?CC) (dx := ?dd) (fs := ?ff) (v := ?vv) ?hx ?cl ?na ?hl ?_); (case hx => walk_at "hp"); (case cl => assumption); (case na => assumption); (case hl => exact rfl)))
local macro_rules | `(tactic| walk_at "rd") => `(tactic| repeat (walk_at "sx"))

section
variable {P : Program} {w : World} {K : PySem.W.Frag} {mg : Str → Option Value} {base : Heap}
/-- a thing that no train can be made of -/
structure BadT (T : Top K mg) (H : Hp) (v : V) : Prop where
  can : CanT T H v false
  self : Self K H v
  it : ItT T H v false
  one : It1 v
theorem BadT.same {T : Top K mg} {H H' : Hp} {v : V} (h : BadT T H v) (e : Same H H') : BadT T H' v := ⟨h.can.same e, h.self.same e, h.it.same e, h.one⟩
theorem kitNo {n : String} (h1 : kitB n "list" = some false) (h2 : kitB n "tuple" = some false) : PySem.W.kitAny K (.type n) [.type "list", .type "tuple"] = some false := by
  show (match PySem.W.kitOne K (.type n) (.type "list") with | some true => some true | some false => PySem.W.kitAny K (.type n) [.type "tuple"] | none => none) = some false
  rw [kit_ty h1]
  show (match PySem.W.kitOne K (.type n) (.type "tuple") with | some true => some true | some false => PySem.W.kitAny K (.type n) [] | none => none) = some false
  rw [kit_ty h2]
  rfl
theorem kitNoC {C : Addr} (h1 : PySem.W.kitOne K (.ref C) (.type "list") = some false) (h2 : PySem.W.kitOne K (.ref C) (.type "tuple") = some false) : PySem.W.kitAny K (.ref C) [.type "list", .type "tuple"] = some false := by
  show (match PySem.W.kitOne K (.ref C) (.type "list") with | some true => some true | some false => PySem.W.kitAny K (.ref C) [.type "tuple"] | none => none) = some false
  rw [h1]
  show (match PySem.W.kitOne K (.ref C) (.type "tuple") with | some true => some true | some false => PySem.W.kitAny K (.ref C) [] | none => none) = some false
  rw [h2]
  rfl
theorem can_nil {T : Top K mg} {H : Hp} {p : Addr} (hp : H p = some (.lst [])) : CanT T H (.ref p) false :=
  .lst (bs := []) (SqL.lst hp) (.base (.lst hp)) rfl (fun i x b h => by simp at h)
theorem can_nilT {T : Top K mg} {H : Hp} {p : Addr} (hp : H p = some (.tup [])) : CanT T H (.ref p) false :=
  .tup (bs := []) (SqT.tup hp) (.base (.tup hp)) rfl (fun i x b h => by simp at h)
theorem bad_ps (T : Top K mg) {H : Hp} {v : V} {r : PyData} (h : Ps v r) : BadT T H v := by
  have s : Self K H v := .ps h
  have o : It1 v := .inr ⟨_, h⟩
  cases h with
  | non => exact ⟨.no (.base .non) (kitNo (by decide +kernel) (by decide +kernel)), s, .oth (.base .non) T.ib_NoneType_Vessel, o⟩
  | bl b => exact ⟨.no (.base (.bl b)) (kitNo (by decide +kernel) (by decide +kernel)), s, .oth (.base (.bl b)) T.ib_bool_Vessel, o⟩
  | @int i _ => exact ⟨.no (.base (.int i)) (kitNo (by decide +kernel) (by decide +kernel)), s, .oth (.base (.int i)) T.ib_int_Vessel, o⟩
  | @str x _ _ => exact ⟨.no (.base (.str x)) (kitNo (by decide +kernel) (by decide +kernel)), s, .oth (.base (.str x)) T.ib_str_Vessel, o⟩
theorem bad_lst (T : Top K mg) {H : Hp} {p : Addr} (hp : H p = some (.lst [])) : BadT T H (.ref p) :=
  ⟨can_nil hp, .lst (SqL.lst hp) (fun v hv => by cases hv), .oth (.base (.lst hp)) T.ib_list_Vessel, .inl ⟨p, rfl⟩⟩
theorem bad_dct (T : Top K mg) {H : Hp} {p : Addr} (hp : H p = some (.dK [])) : BadT T H (.ref p) :=
  ⟨.no (.base (.dK hp)) (kitNo (by decide +kernel) (by decide +kernel)), .dct hp, .oth (.base (.dK hp)) T.ib_dict_Vessel, .inl ⟨p, rfl⟩⟩
theorem bad_trn (T : Top K mg) {H : Hp} {x dx : Addr} {fs : List (Str × V)} (hx : H x = some (.ins T.a_Train dx fs)) : BadT T H (.ref x) :=
  ⟨.no (ty_train T hx) (kitNoC T.io_Train_list T.io_Train_tuple), .ins hx T.mo_Train T.eq_Train, .trn hx, .inl ⟨x, rfl⟩⟩
/-- an odd thing that stands apart from the list hd -/
def OddS (hd D : Addr) (H : Hp) (v : V) : Prop := (∃ r, Ps v r) ∨ (∃ p, v = .ref p ∧ (p ≠ hd ∧ p ≠ D) ∧ H p = some (.lst [])) ∨ ∃ p, v = .ref p ∧ H p = some (.dK [])
theorem OddS.same {hd D : Addr} {H H' : Hp} {v : V} (o : OddS hd D H v) (e : Same H H') : OddS hd D H' v := by
  rcases o with h | ⟨p, h1, h2, h3⟩ | ⟨p, h1, h2⟩
  · exact .inl h
  · exact .inr (.inl ⟨p, h1, h2, e _ _ h3⟩)
  · exact .inr (.inr ⟨p, h1, e _ _ h2⟩)
theorem OddS.updL {hd D e : Addr} {H : Hp} {v : V} {xs ys : List V} (he : e = hd ∨ e = D) (o : OddS hd D H v) (h : H e = some (.lst xs)) : OddS hd D (L2.upd H e (.lst ys)) v := by
  rcases o with h | ⟨p, h1, h2, h3⟩ | ⟨p, h1, h2⟩
  · exact .inl h
  · exact .inr (.inl ⟨p, h1, h2, by rw [upd_ne (by rcases he with rfl | rfl; exact h2.1; exact h2.2)]; exact h3⟩)
  · exact .inr (.inr ⟨p, h1, by rw [upd_ne (ne_of h2 h (by intro z; cases z))]; exact h2⟩)
theorem OddS.bad (T : Top K mg) {hd D : Addr} {H : Hp} {v : V} (o : OddS hd D H v) : BadT T H v := by
  rcases o with ⟨r, h⟩ | ⟨p, rfl, h2, h3⟩ | ⟨p, rfl, h2⟩
  · exact bad_ps T h
  · exact bad_lst T h3
  · exact bad_dct T h2
theorem ves_no (T : Top K mg) {H : Hp} {x : Addr} {v : Vd} (h : VesT T H x v) : CanT T H (.ref x) false ∧ Self K H (.ref x) := by
  obtain ⟨_, dx, hx⟩ := h
  cases hk : v.k with
  | v => rw [hk] at hx; exact ⟨.no (tyI hx T.cl_Vessel T.ca_Vessel T.mo_Vessel T) (kitNoC T.io_Vessel_list T.io_Vessel_tuple), .ins hx T.mo_Vessel T.eq_Vessel⟩
  | b => rw [hk] at hx; exact ⟨.no (tyI hx T.cl_Breaker T.ca_Breaker T.mo_Breaker T) (kitNoC T.io_Breaker_list T.io_Breaker_tuple), .ins hx T.mo_Breaker T.eq_Breaker⟩
  | s => rw [hk] at hx; exact ⟨.no (tyI hx T.cl_Ship T.ca_Ship T.mo_Ship T) (kitNoC T.io_Ship_list T.io_Ship_tuple), .ins hx T.mo_Ship T.eq_Ship⟩
theorem refs_it {T : Top K mg} {H : Hp} {L : VL} (hv : VesLT T H L) {i : Nat} {x : V} {b : Bool} (hx : (refs L)[i]? = some x) (hb : (List.replicate L.length true)[i]? = some b) : ItT T H x b := by
  obtain ⟨z, hz, rfl⟩ := refs_get hx
  have : b = true := (List.mem_replicate.mp (List.mem_of_getElem? hb)).2
  subst this
  exact .ves (hv.get hz)
theorem refs_one (L : VL) : ∀ v ∈ refs L, It1 v := fun v hv => by obtain ⟨z, _, rfl⟩ := List.mem_map.mp hv; exact .inl ⟨_, rfl⟩
theorem can7 {T : Top K mg} {H : Hp} {p : Addr} {L : VL} (hp : H p = some (.lst (refs L))) (h7 : L.length = 7) (hv : VesLT T H L) : CanT T H (.ref p) false := by
  have c := CanT.lst (T := T) (bs := List.replicate L.length true) (SqL.lst (K := K) hp) (.base (.lst hp)) (by simp [refs]) (fun i x b h1 h2 => refs_it hv h1 h2)
  rw [show ((refs L).length : Int) = 7 by simp [refs, h7]] at c
  exact c
theorem can7T {T : Top K mg} {H : Hp} {p : Addr} {L : VL} (hp : H p = some (.tup (refs L))) (h7 : L.length = 7) (hv : VesLT T H L) : CanT T H (.ref p) false := by
  have c := CanT.tup (T := T) (bs := List.replicate L.length true) (SqT.tup (K := K) hp) (.base (.tup hp)) (by simp [refs]) (fun i x b h1 h2 => refs_it hv h1 h2)
  rw [show ((refs L).length : Int) = 7 by simp [refs, h7]] at c
  exact c
/-- a list with a bad thing among vessels -/
theorem can_bad {T : Top K mg} {H : Hp} {p : Addr} {A B : VL} {v : V} (hp : H p = some (.lst (refs A ++ [v] ++ refs B))) (ha : VesLT T H A) (hb : VesLT T H B) (hv : ItT T H v false) : CanT T H (.ref p) false := by
  have la : (refs A).length = A.length := by simp [refs]
  have c := CanT.lst (T := T) (bs := List.replicate A.length true ++ [false] ++ List.replicate B.length true) (SqL.lst (K := K) hp) (.base (.lst hp)) (by simp [refs]) (by
    intro i x b h1 h2
    by_cases h : i < A.length
    · rw [List.append_assoc, List.getElem?_append_left (by rw [la]; exact h)] at h1
      rw [List.append_assoc, List.getElem?_append_left (by simpa using h)] at h2
      exact refs_it ha h1 h2
    · rw [List.append_assoc, List.getElem?_append_right (by rw [la]; omega), la] at h1
      rw [List.append_assoc, List.getElem?_append_right (by simp; omega), List.length_replicate] at h2
      cases hj : i - A.length with
      | zero =>
        rw [hj] at h1 h2
        simp at h1 h2
        subst h1 h2
        exact hv
      | succ j =>
        rw [hj] at h1 h2
        simp only [List.singleton_append, List.getElem?_cons_succ] at h1 h2
        exact refs_it hb h1 h2)
  rw [show (List.replicate A.length true ++ [false] ++ List.replicate B.length true).all id = false by simp, Bool.and_false] at c
  exact c
def KeptT (T : Top K mg) (D : Addr) (H : Hp) (v : V) : Prop := ∃ (u x l : Addr) (L : VL), v = .ref u ∧ H u = some (.tup [.ref x, .ref l]) ∧ TrA T H x L ∧ H l = some (.lst (refs L)) ∧ l ≠ D ∧ VesLT T H L ∧ 1 ≤ L.length ∧ L.length ≤ 6
theorem KeptT.same {T : Top K mg} {D : Addr} {H H' : Hp} {v : V} (e : Same H H') (k : KeptT T D H v) : KeptT T D H' v := by
  obtain ⟨u, x, l, L, rfl, hu, ta, hl, n, hv, r⟩ := k
  exact ⟨u, x, l, L, rfl, e _ _ hu, ta.same e, e _ _ hl, n, hv.same e, r⟩
theorem TrA.updL {T : Top K mg} {H : Hp} {x D : Addr} {L : VL} {xs ys : List V} (a : TrA T H x L) (hD : H D = some (.lst xs)) : TrA T (L2.upd H D (.lst ys)) x L := by
  obtain ⟨dx, t, n, p, h, s, d, h1, h2, r⟩ := a
  exact ⟨dx, t, n, p, h, s, d, by rw [upd_ne (ne_of h1 hD (by intro z; cases z))]; exact h1, by rw [upd_ne (ne_of h2 hD (by intro z; cases z))]; exact h2, r⟩
theorem KeptT.updL {T : Top K mg} {D : Addr} {H : Hp} {v : V} {xs ys : List V} (hD : H D = some (.lst xs)) (k : KeptT T D H v) : KeptT T D (L2.upd H D (.lst ys)) v := by
  obtain ⟨u, x, l, L, rfl, hu, ta, hl, n, hv, r⟩ := k
  exact ⟨u, x, l, L, rfl, by rw [upd_ne (ne_of hu hD (by intro z; cases z))]; exact hu, ta.updL hD, by rw [upd_ne n]; exact hl, n, VesL.updL hv hD, r⟩
theorem i_slLs {K : PySem.W.Frag} {H : Hp} {Q : VK} {a : Addr} {xs : List V} {lo hi : Option Int} (ha : H a = some (.lst xs)) (q : ∀ p H', New H p (.lst (cutV xs lo hi)) H' → Q (.ref p) H') : rSlL K (.ref a) lo hi H Q := ⟨a, xs, rfl, SqL.lst ha, fun p hp => q p _ (.mk' hp)⟩
theorem cut_to (L : VL) (k : Nat) : cutV (refs L) none (some (k : Int)) = refs (L.take k) := by
  unfold cutV refs
  rw [HT.sIx_none, HT.sIx_nat, List.drop_zero, Nat.sub_zero, ← List.map_take]
  congr 1
  rw [List.take_eq_take_iff]
  simp
theorem cut_from (L : VL) (k : Nat) : cutV (refs L) (some (k : Int)) none = refs (L.drop k) := by
  unfold cutV refs
  rw [HT.sIx_none, HT.sIx_nat, ← List.map_drop, ← List.map_take, List.take_of_length_le (by simp)]
  congr 1
  by_cases h : k ≤ L.length
  · rw [List.length_map, Nat.min_eq_left h]
  · rw [List.length_map, Nat.min_eq_right (by omega), List.drop_eq_nil_of_le (Nat.le_refl _), List.drop_eq_nil_of_le (by omega)]
theorem VesL.take {T : Top K mg} {H : Hp} {L : VL} (h : VesLT T H L) (k : Nat) : VesLT T H (L.take k) := fun z hz => h z (List.mem_of_mem_take hz)
theorem VesL.drop {T : Top K mg} {H : Hp} {L : VL} (h : VesLT T H L) (k : Nat) : VesLT T H (L.drop k) := fun z hz => h z (List.mem_of_mem_drop hz)
theorem ok_law (T : Top K mg) : FnG P w K mg base CX0 9 T.a_law T.d_law ["_law_script"] (spLaw K) := by
  have G_box := ok_box (P := P) (w := w) (base := base) T
  have G_take := ok_take (P := P) (w := w) (base := base) T
  have G_vessels := ok_vessels (P := P) (w := w) (base := base) T
  have G_cell := ok_cell (P := P) (w := w) (base := base) T
  have G_right := ok_right (P := P) (w := w) (base := base) T
  have G_no_kind := ok_no_kind (P := P) (w := w) (base := base) T
  have G_Train___init__ := ok_Train___init__ (P := P) (w := w) (base := base) T
  have G_Train___init__ := ok_Train___init__ (P := P) (w := w) (base := base) T
  refine okG T.F_law sc_law (fun vs H Q E h => ?_) (fun cdv A outer s H vs Q E hr hgd h => ?_)
  · obtain ⟨a, ns, rfl, _⟩ := h
    rfl
  · obtain ⟨a, ns, rfl, hS, hlen, _, hO, q⟩ := h
    have hu64 := un64 hr
    refine ⟨_, (pss_cons (ps_set (i := 1) sc_law.nd rfl (by first | exact Or.inl rfl | exact Or.inr rfl) (pe_lst pa_nil))
      (pss_cons (ps_for PassesOwn.never rfl (pi_range1 (by rfl) T.n_range (pa_cons (pe_callB (c_max2) (by rfl) T.n_max (by decide +kernel) (pa_cons pe_int (pa_cons (pe_callB (c_min2) (by rfl) T.n_min (by decide +kernel) (pa_cons pe_int (pa_cons (pe_callB c_len (by rfl) T.n_len (by decide +kernel) (pa_cons (pv 0) pa_nil)) pa_nil))) pa_nil))) pa_nil)) (pg_name (i := 2) sc_law.nd rfl (by first | exact Or.inl rfl | exact Or.inr rfl))
        (pss_cons (ps_set (i := 3) sc_law.nd rfl (by first | exact Or.inl rfl | exact Or.inr rfl) (g_call G_box (hr.mono (by decide)) hgd (by rfl) T.m_box T.F_box.kp T.b_box .nil pass0 (pa_cons (g_call G_cell (hr.mono (by decide)) hgd (by rfl) T.m_cell T.F_cell.kp T.b_cell .nil pass0 (pa_cons (pv 0) (pa_cons (pv 2) pa_nil))) pa_nil)))
      (pss_cons (ps_set (i := 4) sc_law.nd rfl (by first | exact Or.inl rfl | exact Or.inr rfl) (pe_cmpR op_eq (g_call G_take (hr.mono (by decide)) hgd (by rfl) T.m_take T.F_take.kp T.b_take .nil pass0 (pa_cons (pv 3) (pa_cons pe_int pa_nil))) pe_int (nomark _)))
      (pss_cons (ps_set (i := 5) sc_law.nd rfl (by first | exact Or.inl rfl | exact Or.inr rfl) (g_call G_take (hr.mono (by decide)) hgd (by rfl) T.m_take T.F_take.kp T.b_take .nil pass0 (pa_cons (pv 3) (pa_cons pe_int pa_nil))))
      (pss_cons (ps_set (i := 6) sc_law.nd rfl (by first | exact Or.inl rfl | exact Or.inr rfl) (pe_ix ix_list (pe_lst (pa_cons pe_non (pa_cons pe_int (pa_cons pe_str (pa_cons (pe_lst pa_nil) (pa_cons pe_bl (pa_cons pe_dnewK pa_nil))))))) (g_call G_take (hr.mono (by decide)) hgd (by rfl) T.m_take T.F_take.kp T.b_take .nil pass0 (pa_cons (pv 3) (pa_cons pe_int pa_nil))) (fun _ _ => rfl)))
      (pss_cons (ps_set (i := 7) sc_law.nd rfl (by first | exact Or.inl rfl | exact Or.inr rfl) (g_call G_vessels (hr.mono (by decide)) hgd (by rfl) T.m_vessels T.F_vessels.kp T.b_vessels .nil pass0 (pa_cons (pv 3) pa_nil)))
      (pss_cons (ps_set (i := 8) sc_law.nd rfl (by first | exact Or.inl rfl | exact Or.inr rfl) (pe_callTy call_list_of (by rfl) T.n_list (by decide +kernel) (pa_cons (pv 7) pa_nil)))
      (C8.pss_cut (ps_if (pt_cmpR op_eq (pe_callB c_len (by rfl) T.n_len (by decide +kernel) (pa_cons (pv 7) pa_nil)) pe_int (nomark _))
        (pss_cons (ps_if (PW.pt (pw_or (pt_not (pt_val (g_call G_no_kind (hr.mono (by decide)) hgd (by rfl) T.m_no_kind T.F_no_kind.kp T.b_no_kind .nil pass0 (pa_cons (pv 7) pa_nil)))) (pw_or1 (pt_not (pt_val (g_call G_no_kind (hr.mono (by decide)) hgd (by rfl) T.m_no_kind T.F_no_kind.kp T.b_no_kind .nil pass0 (pa_cons (pe_callTy call_tuple_of (by rfl) T.n_tuple (by decide +kernel) (pa_cons (pv 7) pa_nil)) pa_nil)))))))
        (pss_one (ps_ret pe_bl))
        pss_nil)
      (pss_cons (ps_expr (pe_bm0 PySem.F.plainAttrs_list PySem.F.slot_list_pop PySem.F.type_list_pop mt_pop (pv 8)))
      (pss_one (ps_set (i := 7) sc_law.nd rfl (by first | exact Or.inl rfl | exact Or.inr rfl) (pe_slice sl_list (pv 7) po_none (po_some pe_int))))))
        pss_nil)
      (C8.pss_cut (ps_set (i := 9) sc_law.nd rfl (by first | exact Or.inl rfl | exact Or.inr rfl) (pe_ifExp (pt_val (pv 4)) (g_make T.mk_Train G_Train___init__ (hr.mono (by decide)) hgd (by rfl) T.c_Train T.b_Train___init__ .nil passL (pa_cons (pv 8) pa_nil)) (g_make T.mk_Train G_Train___init__ (hr.mono (by decide)) hgd (by rfl) T.c_Train T.b_Train___init__ .nil passL (pa_cons (pe_callTy call_tuple_of (by rfl) T.n_tuple (by decide +kernel) (pa_cons (pv 8) pa_nil)) pa_nil))))
      (pss_cons (ps_if (pt_cmpR (op_neSm hu64) (pv 8) (pv 7) (nomark _))
        (pss_one (ps_ret pe_bl))
        pss_nil)
      (pss_cons (ps_expr (pe_bm0 PySem.F.plainAttrs_list PySem.F.slot_list_clear PySem.F.type_list_clear mt_clear (pv 8)))
      (pss_cons (ps_expr (pe_bm PySem.F.plainAttrs_list PySem.F.slot_list_append PySem.F.type_list_append mt_append (pv 1) (pa_cons (pe_tup (pa_cons (pv 9) (pa_cons (pv 7) pa_nil))) pa_nil)))
      (pss_cons (ps_for PassesOwn.never rfl (pi_list (pe_lst (pa_cons (pv 6) (pa_cons (pv 9) pa_nil)))) (pg_name (i := 10) sc_law.nd rfl (by first | exact Or.inl rfl | exact Or.inr rfl))
        (pss_cons (ps_set (i := 11) sc_law.nd rfl (by first | exact Or.inl rfl | exact Or.inr rfl) (pe_slice sl_list (pv 7) po_none (po_some pe_int)))
      (pss_one (ps_if (PW.pt (pw_or (pt_not (pt_val (g_call G_no_kind (hr.mono (by decide)) hgd (by rfl) T.m_no_kind T.F_no_kind.kp T.b_no_kind .nil pass0 (pa_cons (pe_op op_cat (pe_op op_cat (pe_slice sl_list (pv 11) po_none (po_some (pv 5))) (pe_lst (pa_cons (pv 10) pa_nil))) (pe_slice sl_list (pv 11) (po_some (pv 5)) po_none)) pa_nil)))) (pw_or1 (pt_not (pt_val (g_call G_no_kind (hr.mono (by decide)) hgd (by rfl) T.m_no_kind T.F_no_kind.kp T.b_no_kind .nil pass0 (pa_cons (pv 10) pa_nil)))))))
        (pss_one (ps_ret pe_bl))
        pss_nil))))
      (pss_one (ps_if (PW.pt (pw_or (pt_not (pt_val (g_call G_no_kind (hr.mono (by decide)) hgd (by rfl) T.m_no_kind T.F_no_kind.kp T.b_no_kind .nil pass0 (pa_cons (pe_lst pa_nil) pa_nil)))) (pw_or (pt_not (pt_val (g_call G_no_kind (hr.mono (by decide)) hgd (by rfl) T.m_no_kind T.F_no_kind.kp T.b_no_kind .nil pass0 (pa_cons (pe_tup pa_nil) pa_nil)))) (pw_or1 (pt_not (pt_val (g_call G_no_kind (hr.mono (by decide)) hgd (by rfl) T.m_no_kind T.F_no_kind.kp T.b_no_kind .nil pass0 (pa_cons (pe_ix ix_list (pv 7) pe_int (fun _ _ => rfl)) pa_nil))))))))
        (pss_one (ps_ret pe_bl))
        pss_nil)))))))))))))))
      (pss_cons (ps_for PassesOwn.never rfl (pi_list (pe_op op_cat (pv 1) (pe_revL (pv 1)))) (pg_tup rfl (pgs_cons (pg_name (i := 9) sc_law.nd rfl (by first | exact Or.inl rfl | exact Or.inr rfl)) (pgs_cons (pg_name (i := 7) sc_law.nd rfl (by first | exact Or.inl rfl | exact Or.inr rfl)) pgs_nil)))
        (pss_one (ps_if (pt_not (pt_val (g_call G_right (hr.mono (by decide)) hgd (by rfl) T.m_right T.F_right.kp T.b_right .nil pass0 (pa_cons (pv 9) (pa_cons (pv 7) pa_nil)))))
        (pss_one (ps_ret pe_bl))
        pss_nil)))
      (pss_one (ps_ret pe_bl))))), ?_⟩
    walk_at "rd"
    (intro D hD; generalize eD : upd _ D _ = J0; have N0 := New.of eD hD; clear eD hD)
    walk_at "rd"
    generalize hN : (if (if ((ns.map V.int).length : Int) < 10 then ((ns.map V.int).length : Int) else 10) > 2 then (if ((ns.map V.int).length : Int) < 10 then ((ns.map V.int).length : Int) else 10) else 2) = N
    have hN2 : 2 ≤ N ∧ N ≤ 10 := by rw [← hN]; split <;> split <;> omega
    refine ⟨N, rfl, by omega, by omega, ?_⟩
    refine for_range (lo := 0) (n := N.toNat) (fun i σ H' => Same H H' ∧ (∃ acc : List V, H' D = some (.lst acc) ∧ acc.length = i ∧ ∀ v ∈ acc, KeptT T D H' v) ∧ ∃ z1 z2 z3 z4 z5 z6 z7 z8 z9 z10, σ = [some (.ref a), some (.ref D), z1, z2, z3, z4, z5, z6, z7, z8, z9, z10])
      ⟨N0.same, ⟨[], N0.at_, rfl, by simp⟩, _, _, _, _, _, _, _, _, _, _, rfl⟩ ?_ ?_
    · rintro i σ H1 hi ⟨s1, ⟨acc, hA, hl, hk⟩, z1, z2, z3, z4, z5, z6, z7, z8, z9, z10, rfl⟩
      have hfD : H D = none := N0.free
      walk_at "rd"
      refine ⟨a, ns, _, rfl, s1.seq hS, by omega, by omega, fun z => ?_⟩
      walk_at "rd"
      refine ⟨z, rfl, fun b H2 hb sm B => ?_⟩
      walk_at "rd"
      refine ⟨b, 2, _, rfl, B, by omega, by decide, by decide, fun d3 H3 d30 d31 e3 B3 => ?_⟩
      walk_at "rd"
      refine ⟨b, 7, _, rfl, B3, by omega, by decide, by decide, fun at_ H4 a0 a1 e4 B4 => ?_⟩
      walk_at "rd"
      (intro pe hpe; generalize epe : upd _ pe _ = J5; have N5 := New.of epe hpe; clear epe hpe)
      walk_at "rd"
      (intro pd hpd; generalize epd : upd _ pd _ = J6; have N6 := New.of epd hpd; clear epd hpd)
      walk_at "rd"
      (intro pl hpl; generalize epl : upd _ pl _ = J7; have N7 := New.of epl hpl; clear epl hpl)
      walk_at "rd"
      have B7 := ((B4.nw N5).nw N6).nw N7
      refine ⟨b, 6, _, rfl, B7, by omega, by decide, by decide, fun d8 H8 d80 d81 e8 B8 => ?_⟩
      have peb := B4.off N5
      have pdb := (B4.nw N5).off N6
      have plb := ((B4.nw N5).nw N6).off N7
      have kpe8 : H8 pe = some (.lst []) := e8 pe _ peb (N7.app (N6.app N5.at_))
      have kpd8 : H8 pd = some (.dK []) := e8 pd _ pdb (N7.app N6.at_)
      obtain ⟨odd, hodd, modd, _⟩ := atI_some (xs := [V.non, V.int 7, V.str (Str.ofString "a"), V.ref pe, V.bl true, V.ref pd]) d80 (by simpa using d81)
      refine i_ixL (SqL.lst (e8 pl _ plb N7.at_)) hodd ?_
      walk_at "rd"
      refine ⟨b, _, rfl, B8, by omega, fun l0 L0 H9 hl0 e9 B9 kl9 n1 n7 hv9 => ?_⟩
      have s9 : Same H1 H9 := But.to sm (e3.trans (e4.trans (N5.but.trans (N6.but.trans (N7.but.trans (e8.trans e9)))))) hb
      walk_at "rd"
      refine ⟨l0, refs L0, rfl, .inl (SqL.lst kl9), ?_⟩
      (intro hd hhd; generalize ehd : upd _ hd _ = J10; have N10 := New.of ehd hhd; clear ehd hhd)
      have s10 : Same H1 J10 := s9.trans N10.same
      have fhd : H1 hd = none := free_back s9 N10.free
      have hodd10 : OddS hd D J10 odd := by
        simp only [List.mem_cons, List.not_mem_nil, or_false] at modd
        rcases modd with rfl | rfl | rfl | rfl | rfl | rfl
        · exact .inl ⟨_, .non⟩
        · exact .inl ⟨_, .int (by decide)⟩
        · exact .inl ⟨_, .str (by decide +kernel) (by decide +kernel)⟩
        · exact .inr (.inl ⟨_, rfl, ⟨ne_of_none (e9 pe _ peb kpe8) N10.free, (ne_of_none ((But.to sm (e3.trans e4) hb) D _ hA) N5.free).symm⟩, N10.app (e9 pe _ peb kpe8)⟩)
        · exact .inl ⟨_, .bl _⟩
        · exact .inr (.inr ⟨_, rfl, N10.app (e9 pd _ pdb kpd8)⟩)
      walk_at "rd"
      refine i_cut (fun σ H' => ∃ (l : Addr) (L : VL), Same H1 H' ∧ OddS hd D H' odd ∧ H' l = some (.lst (refs L)) ∧ H' hd = some (.lst (refs L)) ∧ l ≠ hd ∧ l ≠ D ∧ VesLT T H' L ∧ 1 ≤ L.length ∧ L.length ≤ 6 ∧
        ∃ z1 z9 z10 z11, σ = [some (.ref a), some (.ref D), z1, some (.ref b), some (.bl (decide (V.int d3 = V.int 0))), some (.int at_), some odd, some (.ref l), some (.ref hd), z9, z10, z11]) ?_ ?_
      · walk_at "rd"
        have kl10 := N10.app kl9
        have lnD : l0 ≠ D := by
          have := s9 D _ hA
          intro e
          rw [e] at hl0
          have h8 : H8 D = some (.lst acc) := (But.to sm (e3.trans (e4.trans (N5.but.trans (N6.but.trans (N7.but.trans e8))))) hb) D _ hA
          rw [hl0] at h8; cases h8
        have lnh : l0 ≠ hd := ne_of_none kl9 N10.free
        have hv10 := hv9.same N10.same
        refine ifs (fun h7 => ?_) (fun h7 => ?_)
        · have l7 : L0.length = 7 := by
            have := of_decide_eq_true h7
            injection this with this
            simp [refs] at this
            omega
          walk_at "rd"
          refine ⟨_, rfl, can7 kl10 l7 hv10, .lst (SqL.lst kl10) (refs_one L0), fun J11 s11 => ?_⟩
          walk_at "rd"
          refine ⟨l0, refs L0, rfl, .inl ⟨SqL.lst (s11 _ _ kl10), ?_⟩⟩
          (intro p12 hp12; generalize ep12 : upd _ p12 _ = J12; have N12 := New.of ep12 hp12; clear ep12 hp12)
          walk_at "rd"
          have hv12 := hv10.same (s11.trans N12.same)
          refine ⟨_, rfl, can7T N12.at_ l7 hv12, .tup (SqT.tup N12.at_) (refs_one L0), fun J13 s13 => ?_⟩
          walk_at "rd"
          have s1013 : Same J10 J13 := s11.trans (N12.same.trans s13)
          have kh13 := s1013 _ _ N10.at_
          have ylast : (refs L0)[(refs L0).length - 1]? = some (V.ref (L0[6]'(by omega)).1) := by
            rw [show (refs L0).length - 1 = 6 by simp [refs, l7]]
            unfold refs
            rw [List.getElem?_map, List.getElem?_eq_getElem (by omega)]
            rfl
          refine ⟨hd, refs L0, _, rfl, rfl, kh13, ylast, ?_⟩
          have edl : (refs L0).dropLast = refs (L0.take 6) := by
            unfold refs
            rw [List.dropLast_eq_take, List.length_map, l7, ← List.map_take]
          rw [edl]
          generalize eX : upd J13 hd (HO.lst (refs (L0.take 6))) = J14
          have s14 : Same H1 J14 := by rw [← eX]; exact Same.upd (s10.trans s1013) fhd
          have kh14 : J14 hd = some (.lst (refs (L0.take 6))) := by rw [← eX]; exact upd_same
          have kl14 : J14 l0 = some (.lst (refs L0)) := by rw [← eX, upd_ne lnh]; exact s1013 _ _ kl10
          have hv14 : VesLT T J14 L0 := by rw [← eX]; exact VesL.updL (hv10.same s1013) kh13
          have hb14 : OddS hd D J14 odd := by rw [← eX]; exact (hodd10.same s1013).updL (.inl rfl) kh13
          walk_at "rd"
          refine i_slLs kl14 (fun l2 J15 N15 => ?_)
          rw [show (6 : Int) = ((6 : Nat) : Int) from rfl, cut_to] at N15
          refine ⟨l2, L0.take 6, s14.trans N15.same, hb14.same N15.same, N15.at_, N15.app kh14, (ne_of_none kh14 N15.free).symm, (ne_of_none (s14 D _ hA) N15.free).symm, (hv14.same N15.same).take 6, by rw [List.length_take]; omega, by rw [List.length_take]; omega, _, _, _, _, rfl⟩
        · refine ⟨l0, L0, s10, hodd10, kl10, N10.at_, lnh, lnD, hv10, n1, ?_, _, _, _, _, rfl⟩
          have := of_decide_eq_false h7
          have : ¬ L0.length = 7 := fun e => this (by simp [refs, e])
          omega
      · rintro σ J11 ⟨l, L, s11, bo, kl, kh, nlh, nlD, hv, n1, n6, z1, z9, z10, z11, rfl⟩
        refine i_cut (fun σ H' => ∃ (x : Addr), Same J11 H' ∧ TrA T H' x L ∧ ∃ z1 z10 z11, σ = [some (.ref a), some (.ref D), z1, some (.ref b), some (.bl (decide (V.int d3 = V.int 0))), some (.int at_), some odd, some (.ref l), some (.ref hd), some (.ref x), z10, z11]) ?_ ?_
        · walk_at "rd"
          refine ifs (fun h1 => ?_) (fun h1 => ?_)
          · walk_at "rd"
            intro x dx hx hdx nex
            have s0 : Same J11 (upd (upd J11 dx (.own x)) x (.ins T.a_Train dx [])) := fun a o h => by rw [upd_ne (ne_of_none h hx), upd_ne (ne_of_none h hdx)]; exact h
            refine ⟨x, dx, .ref hd, rfl, upd_same, .inl ⟨hd, L, rfl, .inl (s0 _ _ kh), n1, n6, hv.same s0, fun H' b' ta => ⟨rfl, ?_⟩⟩⟩
            exact ⟨x, made_same hx hdx b', ta, _, _, _, rfl⟩
          · walk_at "rd"
            refine ⟨hd, refs L, rfl, .inl ⟨SqL.lst kh, ?_⟩⟩
            (intro p12 hp12; generalize ep12 : upd _ p12 _ = J12; have N12 := New.of ep12 hp12; clear ep12 hp12)
            walk_at "rd"
            intro x dx hx hdx nex
            have s0 : Same J12 (upd (upd J12 dx (.own x)) x (.ins T.a_Train dx [])) := fun a o h => by rw [upd_ne (ne_of_none h hx), upd_ne (ne_of_none h hdx)]; exact h
            refine ⟨x, dx, .ref p12, rfl, upd_same, .inl ⟨p12, L, rfl, .inr (s0 _ _ N12.at_), n1, n6, hv.same (N12.same.trans s0), fun H' b' ta => ⟨rfl, ?_⟩⟩⟩
            exact ⟨x, N12.same.trans (made_same hx hdx b'), ta, _, _, _, rfl⟩
        · rintro σ J16 ⟨x, s1116, ta, w1, w10, w11, rfl⟩
          have kl16 := s1116 _ _ kl
          have kh16 := s1116 _ _ kh
          walk_at "rd"
          refine ⟨hd, l, refs L, rfl, rfl, SqL.lst kh16, SqL.lst kl16, refs_one L, ?_⟩
          walk_at "rd"
          refine ⟨hd, _, rfl, rfl, kh16, ?_⟩
          generalize eX : upd J16 hd (HO.lst []) = J17
          have s17 : Same H1 J17 := by rw [← eX]; exact Same.upd (s11.trans s1116) fhd
          have ta17 : TrA T J17 x L := by rw [← eX]; exact ta.updL kh16
          have kl17 : J17 l = some (.lst (refs L)) := by rw [← eX, upd_ne nlh]; exact kl16
          have hv17 : VesLT T J17 L := by rw [← eX]; exact VesL.updL (hv.same s1116) kh16
          have bo17 : OddS hd D J17 odd := by rw [← eX]; exact (bo.same s1116).updL (.inl rfl) kh16
          walk_at "rd"
          (intro u hu; generalize eu : upd _ u _ = J18; have N18 := New.of eu hu; clear eu hu)
          have s18 : Same H1 J18 := s17.trans N18.same
          have hA18 := s18 D _ hA
          walk_at "rd"
          refine i_append hA18 (by omega) ?_
          generalize eY : upd J18 D (HO.lst (acc ++ [V.ref u])) = J19
          have s019 : Same H J19 := by rw [← eY]; exact Same.upd (s1.trans s18) hfD
          have kD19 : J19 D = some (.lst (acc ++ [.ref u])) := by rw [← eY]; exact upd_same
          have ta18 := ta17.same N18.same
          have hv18 := hv17.same N18.same
          have kept19 : ∀ v ∈ acc ++ [V.ref u], KeptT T D J19 v := by
            intro v hv'
            rw [← eY]
            refine KeptT.updL hA18 ?_
            rcases List.mem_append.mp hv' with z | z
            · exact (hk v z).same s18
            · have : v = .ref u := by simpa using z
              exact ⟨u, x, l, L, this, N18.at_, ta18, N18.app kl17, nlD, hv18, n1, n6⟩
          have kl19 : J19 l = some (.lst (refs L)) := by rw [← eY, upd_ne nlD]; exact N18.app kl17
          have ta19 : TrA T J19 x L := by rw [← eY]; exact ta18.updL hA18
          have hv19 : VesLT T J19 L := by rw [← eY]; exact VesL.updL hv18 hA18
          have bo19 : BadT T J19 odd := by
            rw [← eY]
            exact ((bo17.same N18.same).updL (.inr rfl) hA18).bad T
          walk_at "rd"
          (intro pt hpt; generalize ept : upd _ pt _ = J20; have N20 := New.of ept hpt; clear ept hpt)
          walk_at "rd"
          have s1920 := N20.same
          refine ⟨pt, rfl, ⟨_, SqL.lst N20.at_⟩, ?_⟩
          refine for_list (K := K) (a := pt) (xs := [odd, .ref x]) (fun i σ H' => Same J20 H' ∧ ∃ z1 z10 z11, σ = [some (.ref a), some (.ref D), z1, some (.ref b), some (.bl (decide (V.int d3 = V.int 0))), some (.int at_), some odd, some (.ref l), some (.ref hd), some (.ref x), z10, z11])
            ⟨Same.refl _, _, _, _, rfl⟩ (fun i σ H' _ h => SqL.lst (h.1 _ _ N20.at_)) ?_ ?_
          · rintro i2 v σ H21 hi2 ⟨sH, y1, y10, y11, rfl⟩
            have s21 : Same J19 H21 := s1920.trans sH
            have bv : BadT T H21 v := by
              match i2, hi2 with
              | 0, hi2 => cases hi2; exact bo19.same s21
              | 1, hi2 =>
                cases hi2
                obtain ⟨dx, t, n, p, h, s, d, h1, _⟩ := ta19
                exact (bad_trn T h1).same s21
              | k + 2, hi2 => simp at hi2
            have kl21 := s21 _ _ kl19
            have hv21 := hv19.same s21
            obtain ⟨ak, rfl⟩ := Int.eq_ofNat_of_zero_le a0
            walk_at "rd"
            refine i_slLs kl21 (fun q1 J22 N22 => ?_)
            rw [show (5 : Int) = ((5 : Nat) : Int) from rfl, cut_to] at N22
            walk_at "rd"
            refine i_slLs N22.at_ (fun q2 J23 N23 => ?_)
            rw [cut_to] at N23
            walk_at "rd"
            (intro q3 hq3; generalize eq3 : upd _ q3 _ = J24; have N24 := New.of eq3 hq3; clear eq3 hq3)
            refine i_cat (N24.app N23.at_) N24.at_ (sz_of (by simp [refs]; omega)) (fun q4 hq4 => ?_)
            generalize e25 : upd J24 q4 (HO.lst (refs (List.take ak (List.take 5 L)) ++ [v])) = J25
            have N25 := New.of e25 hq4
            walk_at "rd"
            refine i_slLs (N25.app (N24.app (N23.app N22.at_))) (fun q5 J26 N26 => ?_)
            rw [cut_from] at N26
            refine i_cat (N26.app N25.at_) N26.at_ (sz_of (by simp [refs]; omega)) (fun q6 hq6 => ?_)
            generalize e27 : upd J26 q6 (HO.lst (refs (List.take ak (List.take 5 L)) ++ [v] ++ refs (List.drop ak (List.take 5 L)))) = J27
            have N27 := New.of e27 hq6
            have s27 : Same H21 J27 := N22.same.trans (N23.same.trans (N24.same.trans (N25.same.trans (N26.same.trans N27.same))))
            have hv27 := hv21.same s27
            have hA27 : VesLT T J27 (List.take ak (List.take 5 L)) := VesL.take (VesL.take hv27 5) ak
            have hB27 : VesLT T J27 (List.drop ak (List.take 5 L)) := VesL.drop (VesL.take hv27 5) ak
            walk_at "rd"
            refine ⟨_, rfl, can_bad N27.at_ hA27 hB27 (bv.it.same s27), .lst (SqL.lst N27.at_) ?_, fun J28 s28 => ?_⟩
            · intro y hy
              rcases List.mem_append.mp hy with h | h
              · rcases List.mem_append.mp h with h | h
                · exact refs_one _ y h
                · have : y = v := by simpa using h
                  rw [this]; exact bv.one
              · exact refs_one _ y h
            walk_at "rd"
            refine ⟨v, rfl, (bv.same (s27.trans s28)).can, (bv.same (s27.trans s28)).self, fun J29 s29 => ?_⟩
            walk_at "rd"
            exact ⟨sH.trans (s27.trans (s28.trans s29)), _, _, _, rfl⟩
          · rintro σ H21 ⟨sH, y1, y10, y11, rfl⟩
            have s21 : Same J19 H21 := s1920.trans sH
            walk_at "rd"
            (intro q4 hq4; generalize eq4 : upd _ q4 _ = J25; have N25 := New.of eq4 hq4; clear eq4 hq4)
            walk_at "rd"
            refine ⟨_, rfl, can_nil N25.at_, .lst (SqL.lst N25.at_) (fun v hv => by cases hv), fun J26 s26 => ?_⟩
            walk_at "rd"
            (intro q5 hq5; generalize eq5 : upd _ q5 _ = J27; have N27 := New.of eq5 hq5; clear eq5 hq5)
            walk_at "rd"
            refine ⟨_, rfl, can_nilT N27.at_, .tup (SqT.tup N27.at_) (fun v hv => by cases hv), fun J28 s28 => ?_⟩
            have s1928 : Same J19 J28 := s21.trans (N25.same.trans (s26.trans (N27.same.trans s28)))
            obtain ⟨zf, hzf⟩ : ∃ zf, L[0]? = some zf := ⟨L[0], by simp⟩
            have at0 : atI (refs L) 0 = some (.ref zf.1) := by
              have : (refs L)[0]? = some (V.ref zf.1) := by unfold refs; rw [List.getElem?_map, hzf]; rfl
              exact atI_nat (j := 0) this
            walk_at "rd"
            refine i_ixL (SqL.lst (s1928 _ _ kl19)) at0 ?_
            walk_at "rd"
            have vz := ves_no T ((hv19.same s1928).get hzf)
            refine ⟨_, rfl, vz.1, vz.2, fun J29 s29 => ?_⟩
            walk_at "rd"
            have s1929 := s1928.trans s29
            exact ⟨s019.trans s1929, ⟨acc ++ [.ref u], s1929 _ _ kD19, by simp [hl], fun v hv => (kept19 v hv).same s1929⟩, _, _, _, _, _, _, _, _, _, _, rfl⟩
    · rintro σ H1 ⟨s1, ⟨acc, hA, hl, hk⟩, z1, z2, z3, z4, z5, z6, z7, z8, z9, z10, rfl⟩
      walk_at "rd"
      refine ⟨D, acc, rfl, SqL.lst hA, ?_⟩
      (intro r hr; generalize er : upd _ r _ = J2; have N2 := New.of er hr; clear er hr)
      refine i_cat (N2.app hA) N2.at_ (sz_of (by simp; omega)) (fun r3 hr3 => ?_)
      generalize e3 : upd J2 r3 (HO.lst (acc ++ acc.reverse)) = J3
      have N3 := New.of e3 hr3
      have s13 : Same H1 J3 := N2.same.trans N3.same
      refine ⟨r3, rfl, ⟨_, SqL.lst N3.at_⟩, ?_⟩
      have hkk : ∀ v ∈ acc ++ acc.reverse, KeptT T D J3 v := by
        intro v hv
        refine (hk v ?_).same s13
        rcases List.mem_append.mp hv with h | h
        · exact h
        · exact List.mem_reverse.mp h
      refine for_list (K := K) (a := r3) (xs := acc ++ acc.reverse) (fun i σ H' => Same J3 H' ∧ ∃ z1 z2 z3 z4 z5 z6 z7 z8 z9 z10, σ = [some (.ref a), some (.ref D), z1, z2, z3, z4, z5, z6, z7, z8, z9, z10])
        ⟨Same.refl _, _, _, _, _, _, _, _, _, _, _, rfl⟩ (fun i σ H' _ h => SqL.lst (h.1 _ _ N3.at_)) ?_ ?_
      · rintro i v σ H4 hi ⟨sH, z1, z2, z3, z4, z5, z6, z7, z8, z9, z10, rfl⟩
        obtain ⟨u, x, l, L, rfl, hu, ta, hl', n, hv, n1, n6⟩ := (hkk v (List.mem_of_getElem? hi)).same sH
        refine i_gtup (xs := [.ref x, .ref l]) (SqT.tup hu) rfl ?_
        walk_at "rd"
        refine ⟨x, l, L, rfl, ta, hl', hv, n1, n6, fun H5 s5 => ?_⟩
        walk_at "rd"
        exact ⟨sH.trans s5, _, _, _, _, _, _, _, _, _, _, rfl⟩
      · rintro σ H4 ⟨_, z1, z2, z3, z4, z5, z6, z7, z8, z9, z10, rfl⟩
        walk_at "rd"
        exact q _
end
end Ice

set_option Elab.async false
set_option linter.all false
set_option maxRecDepth 100000
set_option maxHeartbeats 4000000
namespace Ice
open PySem PySem.Spec PyProof.Rows L2 TL
/-! side conditions, heaps, one step of a reading, and many -/
local macro_rules | `(tactic| walk_at "hp") => `(tactic| first | assumption | exact upd_same | exact New.at_ (by assumption) | (refine keepU ?_ (by assumption); walk_at "hp") | (refine New.app (by assumption) ?_; walk_at "hp") | (refine Same.app (by assumption) ?_; walk_at "hp") | (refine But.app (by assumption) (by assumption) ?_; walk_at "hp"))
local macro_rules | `(tactic| walk_at "sq") => `(tactic| first | assumption | exact SqL.lst (by walk_at "hp") | exact L2.Same.seq (New.same (by assumption)) (by assumption) | exact L2.Same.seq (by assumption) (by assumption))
local macro_rules | `(tactic| walk_at "len") => `(tactic| first | assumption | (simp only [List.length_cons, List.length_nil, List.length_append, List.length_map]; decide) | (refine Ice.sz_of ?_; simp only [List.length_cons, List.length_nil, List.length_append, List.length_map]; omega))
local macro_rules | `(tactic| walk_at "fresh") => `(tactic| (simp only [List.map_append, List.map_cons, List.map_nil, List.nil_append, List.cons_append]; decide +kernel))
local macro_rules | `(tactic| walk_at "sd") => `(tactic| first | assumption | (show _ ≠ _; omega) | exact Or.inl ⟨by omega, by omega⟩ | exact Or.inr ⟨by omega, by omega⟩ | exact ⟨by decide, by decide⟩ | exact ⟨by decide, by decide, by decide⟩ | exact ⟨by omega, by omega, by omega⟩)
/-! one step of a reading, and many -/
local macro_rules | `(tactic| walk_at "st") => `(tactic| first
  | with_reducible refine i_seq ?_
  | with_reducible refine i_if ?_
  | with_reducible refine i_next ?_
  | with_reducible refine i_ret ?_
  | with_reducible refine i_retN ?_
  | with_reducible refine i_drop ?_
  | with_reducible refine i_asg ?_
  | with_reducible refine i_gname ?_
  | with_reducible refine i_gsub ?_
  | ((with_reducible refine i_var (v := ?vv) ?hv ?_); (case hv => exact rfl))
  | with_reducible refine i_c ?_
  | with_reducible refine i_op ?_
  | with_reducible refine i_un ?_
  | with_reducible refine i_test ?_
  | with_reducible refine i_tB ?_
  | with_reducible refine i_and ?_
  | with_reducible refine i_or ?_
  | with_reducible refine i_not ?_
  | with_reducible refine i_andV ?_
  | with_reducible refine i_orV ?_
  | with_reducible refine i_notV ?_
  | with_reducible refine i_ifE ?_
  | with_reducible refine i_chain ?_
  | with_reducible refine i_bl ?_
  | with_reducible refine i_nil ?_
  | with_reducible refine i_cons ?_
  | with_reducible refine i_call ?_
  | with_reducible refine i_cb ?_
  | with_reducible refine i_rI0 ?_
  | with_reducible refine i_rU ?_
  | ((with_reducible refine i_rEq ?hs ?_); (case hs => exact rfl))
  | ((with_reducible refine i_rNe ?hs ?_); (case hs => exact rfl))
  | ((with_reducible refine i_rI ?hc ?_); (case hc => walk_at "sd"))
  | ((with_reducible refine i_ixL (xs := ?xs) (v := ?vv) ?hS ?he ?_); (case hS => walk_at "sq"); (case he => exact rfl))
  | ((with_reducible refine i_setL (xs := ?xs) (j := ?jj) ?hS ?he ?_); (case hS => walk_at "hp"); (case he => exact rfl))
  | with_reducible refine i_tup ?_
  | with_reducible refine i_lst ?_
  | with_reducible refine i_bm ?_
  | with_reducible refine i_bm0 ?_
  | with_reducible refine i_m1 ?_
  | with_reducible refine i_sl ?_
  | with_reducible refine i_nopart ?_
  | with_reducible refine i_part ?_
  | with_reducible refine i_int ?_
  | with_reducible refine i_str ?_
  | with_reducible refine i_for ?_
  | with_reducible refine i_yes ?_
  | ((with_reducible refine i_lenL (xs := ?xs) ?hS ?_); (case hS => walk_at "sq"))
  | ((with_reducible refine i_room ?hz ?_); (case hz => walk_at "len"))
  | with_reducible refine i_leT ?_
  | with_reducible refine i_notInS ?_
  | with_reducible refine i_inS ?_
  | with_reducible refine i_find ?_
  | with_reducible refine i_isB ?_
  | with_reducible refine i_max2 ?_
  | with_reducible refine i_min2 ?_
  | with_reducible exact trivial
  | with_reducible refine iteT ?_
  | with_reducible refine iteF ?_
  | with_reducible refine i_isstr ?_
  | with_reducible refine i_lc ?_
  | ((with_reducible refine i_cat (xs := ?xs) (zs := ?zs) ?ha ?hb ?hz ?_); (case ha => walk_at "hp"); (case hb => walk_at "hp"); (case hz => walk_at "len"))
  | ((with_reducible refine i_tyL (xs := ?xs) ?ha ?_); (case ha => walk_at "hp"))
  | with_reducible refine i_list ?_
  | with_reducible refine i_disp ?_
  | with_reducible refine i_pairs0 ?_
  | with_reducible refine i_pairs ?_
  | with_reducible refine i_newK ?_
  | with_reducible refine i_gcons ?_
  | with_reducible refine i_gnil ?_
  | with_reducible refine i_revL ?_
  | with_reducible refine i_rng1 ?_
  | ((with_reducible refine i_wipe ?hw ?_); (case hw => exact rfl))
  | with_reducible refine iteNT ?_
  | with_reducible refine iteNF ?_)
local macro_rules | `(tactic| walk_at "rd") => `(tactic| repeat (walk_at "st"))

theorem all_mk {l : PySem.W.OpenLaw} {w : World} {K : PySem.W.Frag} {h : Heap} {mg : Str → Option Value} {fa : Addr} (X : K.In h) (G : h.Ns mainGlobals mg) (hfa : mg "law" = some (.ref fa))
    {f0 : Addr} {od0 an0 : Option Addr} {sl0 : Array (Option Value)} {oc0 kV0 dc0 pm0 cd0 ct0 : Value}
    {f1 : Addr} {od1 an1 : Option Addr} {sl1 : Array (Option Value)} {oc1 kV1 dc1 pm1 cd1 ct1 : Value}
    {f2 : Addr} {od2 an2 : Option Addr} {sl2 : Array (Option Value)} {oc2 kV2 dc2 pm2 cd2 ct2 : Value}
    {f3 : Addr} {od3 an3 : Option Addr} {sl3 : Array (Option Value)} {oc3 kV3 dc3 pm3 cd3 ct3 : Value}
    {f4 : Addr} {od4 an4 : Option Addr} {sl4 : Array (Option Value)} {oc4 kV4 dc4 pm4 cd4 ct4 : Value}
    {f5 : Addr} {od5 an5 : Option Addr} {sl5 : Array (Option Value)} {oc5 kV5 dc5 pm5 cd5 ct5 : Value}
    {f6 : Addr} {od6 an6 : Option Addr} {sl6 : Array (Option Value)} {oc6 kV6 dc6 pm6 cd6 ct6 : Value}
    {f7 : Addr} {od7 an7 : Option Addr} {sl7 : Array (Option Value)} {oc7 kV7 dc7 pm7 cd7 ct7 : Value}
    {f8 : Addr} {od8 an8 : Option Addr} {sl8 : Array (Option Value)} {oc8 kV8 dc8 pm8 cd8 ct8 : Value}
    {f9 : Addr} {od9 an9 : Option Addr} {sl9 : Array (Option Value)} {oc9 kV9 dc9 pm9 cd9 ct9 : Value}
    {f10 : Addr} {od10 an10 : Option Addr} {sl10 : Array (Option Value)} {oc10 kV10 dc10 pm10 cd10 ct10 : Value}
    {f11 : Addr} {od11 an11 : Option Addr} {sl11 : Array (Option Value)} {oc11 kV11 dc11 pm11 cd11 ct11 : Value}
    {f12 : Addr} {od12 an12 : Option Addr} {sl12 : Array (Option Value)} {oc12 kV12 dc12 pm12 cd12 ct12 : Value}
    {f13 : Addr} {od13 an13 : Option Addr} {sl13 : Array (Option Value)} {oc13 kV13 dc13 pm13 cd13 ct13 : Value}
    {f14 : Addr} {od14 an14 : Option Addr} {sl14 : Array (Option Value)} {oc14 kV14 dc14 pm14 cd14 ct14 : Value}
    {f15 : Addr} {od15 an15 : Option Addr} {sl15 : Array (Option Value)} {oc15 kV15 dc15 pm15 cd15 ct15 : Value}
    {f16 : Addr} {od16 an16 : Option Addr} {sl16 : Array (Option Value)} {oc16 kV16 dc16 pm16 cd16 ct16 : Value}
    {f17 : Addr} {od17 an17 : Option Addr} {sl17 : Array (Option Value)} {oc17 kV17 dc17 pm17 cd17 ct17 : Value}
    {f18 : Addr} {od18 an18 : Option Addr} {sl18 : Array (Option Value)} {oc18 kV18 dc18 pm18 cd18 ct18 : Value}
    {f19 : Addr} {od19 an19 : Option Addr} {sl19 : Array (Option Value)} {oc19 kV19 dc19 pm19 cd19 ct19 : Value}
    {f20 : Addr} {od20 an20 : Option Addr} {sl20 : Array (Option Value)} {oc20 kV20 dc20 pm20 cd20 ct20 : Value}
    {f21 : Addr} {od21 an21 : Option Addr} {sl21 : Array (Option Value)} {oc21 kV21 dc21 pm21 cd21 ct21 : Value}
    {f22 : Addr} {od22 an22 : Option Addr} {sl22 : Array (Option Value)} {oc22 kV22 dc22 pm22 cd22 ct22 : Value}
    {f23 : Addr} {od23 an23 : Option Addr} {sl23 : Array (Option Value)} {oc23 kV23 dc23 pm23 cd23 ct23 : Value}
    {f24 : Addr} {od24 an24 : Option Addr} {sl24 : Array (Option Value)} {oc24 kV24 dc24 pm24 cd24 ct24 : Value}
    {f25 : Addr} {od25 an25 : Option Addr} {sl25 : Array (Option Value)} {oc25 kV25 dc25 pm25 cd25 ct25 : Value}
    {f26 : Addr} {od26 an26 : Option Addr} {sl26 : Array (Option Value)} {oc26 kV26 dc26 pm26 cd26 ct26 : Value}
    {f27 : Addr} {od27 an27 : Option Addr} {sl27 : Array (Option Value)} {oc27 kV27 dc27 pm27 cd27 ct27 : Value}
    {f28 : Addr} {od28 an28 : Option Addr} {sl28 : Array (Option Value)} {oc28 kV28 dc28 pm28 cd28 ct28 : Value}
    {f29 : Addr} {od29 an29 : Option Addr} {sl29 : Array (Option Value)} {oc29 kV29 dc29 pm29 cd29 ct29 : Value}
    {f30 : Addr} {od30 an30 : Option Addr} {sl30 : Array (Option Value)} {oc30 kV30 dc30 pm30 cd30 ct30 : Value}
    {f31 : Addr} {od31 an31 : Option Addr} {sl31 : Array (Option Value)} {oc31 kV31 dc31 pm31 cd31 ct31 : Value}
    {f32 : Addr} {od32 an32 : Option Addr} {sl32 : Array (Option Value)} {oc32 kV32 dc32 pm32 cd32 ct32 : Value}
    {f33 : Addr} {od33 an33 : Option Addr} {sl33 : Array (Option Value)} {oc33 kV33 dc33 pm33 cd33 ct33 : Value}
    {f34 : Addr} {od34 an34 : Option Addr} {sl34 : Array (Option Value)} {oc34 kV34 dc34 pm34 cd34 ct34 : Value}
    {f35 : Addr} {od35 an35 : Option Addr} {sl35 : Array (Option Value)} {oc35 kV35 dc35 pm35 cd35 ct35 : Value}
    {f36 : Addr} {od36 an36 : Option Addr} {sl36 : Array (Option Value)} {oc36 kV36 dc36 pm36 cd36 ct36 : Value}
    {f37 : Addr} {od37 an37 : Option Addr} {sl37 : Array (Option Value)} {oc37 kV37 dc37 pm37 cd37 ct37 : Value}
    {f38 : Addr} {od38 an38 : Option Addr} {sl38 : Array (Option Value)} {oc38 kV38 dc38 pm38 cd38 ct38 : Value}
    {f39 : Addr} {od39 an39 : Option Addr} {sl39 : Array (Option Value)} {oc39 kV39 dc39 pm39 cd39 ct39 : Value}
    {f40 : Addr} {od40 an40 : Option Addr} {sl40 : Array (Option Value)} {oc40 kV40 dc40 pm40 cd40 ct40 : Value}
    {f41 : Addr} {od41 an41 : Option Addr} {sl41 : Array (Option Value)} {oc41 kV41 dc41 pm41 cd41 ct41 : Value}
    {f42 : Addr} {od42 an42 : Option Addr} {sl42 : Array (Option Value)} {oc42 kV42 dc42 pm42 cd42 ct42 : Value}
    {t_NAME_MOST : Tok}
    {t_HOURS_MOST : Tok}
    {t_DEPTH_MOST : Tok}
    {t_GROWTH_MOST : Tok}
    {t_THICK_MOST : Tok}
    {t_HOUR_MOST : Tok}
    {t_STRENGTH_MOST : Tok}
    {t_CUT_MOST : Tok}
    {t_TRAIN_MOST : Tok}
    {C_IceError : Addr}
    {C_NoName : Addr}
    {nm_NoName q_NoName : Str} {N_NoName : Addr} {bs_NoName bm_NoName : List Value} {sn_NoName : List Str} {su_NoName : List Value} {ab_NoName : Bool} {co_NoName : Option Bool} {dd_NoName : Option Addr} {m0_NoName m1_NoName m2_NoName m3_NoName m5_NoName : Option Value}
    {C_NoNumber : Addr}
    {nm_NoNumber q_NoNumber : Str} {N_NoNumber : Addr} {bs_NoNumber bm_NoNumber : List Value} {sn_NoNumber : List Str} {su_NoNumber : List Value} {ab_NoNumber : Bool} {co_NoNumber : Option Bool} {dd_NoNumber : Option Addr} {m0_NoNumber m1_NoNumber m2_NoNumber m3_NoNumber m5_NoNumber : Option Value}
    {C_Doubled : Addr}
    {nm_Doubled q_Doubled : Str} {N_Doubled : Addr} {bs_Doubled bm_Doubled : List Value} {sn_Doubled : List Str} {su_Doubled : List Value} {ab_Doubled : Bool} {co_Doubled : Option Bool} {dd_Doubled : Option Addr} {m0_Doubled m1_Doubled m2_Doubled m3_Doubled m5_Doubled : Option Value}
    {C_NoKind : Addr}
    {nm_NoKind q_NoKind : Str} {N_NoKind : Addr} {bs_NoKind bm_NoKind : List Value} {sn_NoKind : List Str} {su_NoKind : List Value} {ab_NoKind : Bool} {co_NoKind : Option Bool} {dd_NoKind : Option Addr} {m0_NoKind m1_NoKind m2_NoKind m3_NoKind m5_NoKind : Option Value}
    {C_Channel : Addr}
    {C_Vessel : Addr}
    {C_Breaker : Addr}
    {C_Ship : Addr}
    {C_Train : Addr}
    (g_IceError : PySem.W.nsIn K mainGlobals "IceError" = some (some (.ref C_IceError)))
    (sp_IceError : PySem.W.specialIn K (.ref C_IceError) "__getattribute__" = some (some (.builtin "type.__getattribute__")))
    (ty_IceError : PySem.W.typeIn K (.ref C_IceError) = some (.type "type"))
    (rd_IceError : PySem.W.readsIn K C_IceError (.type "type") = true)
    (fc_IceError : PySem.W.findCls K (.ref C_IceError) (.type "type") "__init__" = some (.val (.builtin "ValueError.__init__")))
    (g_NoName : PySem.W.nsIn K mainGlobals "NoName" = some (some (.ref C_NoName)))
    (xl_NoName : K.lookup C_NoName = some (excClassObj nm_NoName q_NoName C_NoName N_NoName bs_NoName bm_NoName true sn_NoName su_NoName ab_NoName co_NoName dd_NoName m0_NoName m1_NoName m2_NoName m3_NoName m5_NoName "ValueError.__new__"))
    (hb_NoName : PySem.HandSPX.refsVE bm_NoName = true)
    (sa_NoName : PySem.W.findIn K (.ref C_NoName) "__setattr__" = some (some (.builtin "object.__setattr__")))
    (ec_NoName : PySem.W.subIn K (.ref C_NoName) (.type "BaseException") = some true)
    (tc_NoName : PySem.W.typeIn K (.ref C_NoName) = some (.type "type"))
    (kc_NoName : PySem.W.keepIn K (.ref C_NoName) = true)
    (ga_NoName : PySem.W.findIn K (.ref C_NoName) "__getattribute__" = some (some (.builtin "BaseException.__getattribute__")))
    (gg_NoName : PySem.W.findIn K (.ref C_NoName) "__getattr__" = some none)
    (hd_NoName : PySem.W.hasDictIn K C_NoName = true)
    (in_NoName : PySem.W.findIn K (.ref C_NoName) "__init__" = some (some (.ref f20)))
    (tf_NoName : PySem.W.typeIn K (.ref f20) = some (.type "function"))
    (nf_NoName_found : PySem.W.findIn K (.ref C_NoName) "found" = some none)
    (g_NoNumber : PySem.W.nsIn K mainGlobals "NoNumber" = some (some (.ref C_NoNumber)))
    (xl_NoNumber : K.lookup C_NoNumber = some (excClassObj nm_NoNumber q_NoNumber C_NoNumber N_NoNumber bs_NoNumber bm_NoNumber true sn_NoNumber su_NoNumber ab_NoNumber co_NoNumber dd_NoNumber m0_NoNumber m1_NoNumber m2_NoNumber m3_NoNumber m5_NoNumber "ValueError.__new__"))
    (hb_NoNumber : PySem.HandSPX.refsVE bm_NoNumber = true)
    (sa_NoNumber : PySem.W.findIn K (.ref C_NoNumber) "__setattr__" = some (some (.builtin "object.__setattr__")))
    (ec_NoNumber : PySem.W.subIn K (.ref C_NoNumber) (.type "BaseException") = some true)
    (tc_NoNumber : PySem.W.typeIn K (.ref C_NoNumber) = some (.type "type"))
    (kc_NoNumber : PySem.W.keepIn K (.ref C_NoNumber) = true)
    (ga_NoNumber : PySem.W.findIn K (.ref C_NoNumber) "__getattribute__" = some (some (.builtin "BaseException.__getattribute__")))
    (gg_NoNumber : PySem.W.findIn K (.ref C_NoNumber) "__getattr__" = some none)
    (hd_NoNumber : PySem.W.hasDictIn K C_NoNumber = true)
    (in_NoNumber : PySem.W.findIn K (.ref C_NoNumber) "__init__" = some (some (.ref f21)))
    (tf_NoNumber : PySem.W.typeIn K (.ref f21) = some (.type "function"))
    (nf_NoNumber_found : PySem.W.findIn K (.ref C_NoNumber) "found" = some none)
    (g_Doubled : PySem.W.nsIn K mainGlobals "Doubled" = some (some (.ref C_Doubled)))
    (xl_Doubled : K.lookup C_Doubled = some (excClassObj nm_Doubled q_Doubled C_Doubled N_Doubled bs_Doubled bm_Doubled true sn_Doubled su_Doubled ab_Doubled co_Doubled dd_Doubled m0_Doubled m1_Doubled m2_Doubled m3_Doubled m5_Doubled "ValueError.__new__"))
    (hb_Doubled : PySem.HandSPX.refsVE bm_Doubled = true)
    (sa_Doubled : PySem.W.findIn K (.ref C_Doubled) "__setattr__" = some (some (.builtin "object.__setattr__")))
    (ec_Doubled : PySem.W.subIn K (.ref C_Doubled) (.type "BaseException") = some true)
    (tc_Doubled : PySem.W.typeIn K (.ref C_Doubled) = some (.type "type"))
    (kc_Doubled : PySem.W.keepIn K (.ref C_Doubled) = true)
    (ga_Doubled : PySem.W.findIn K (.ref C_Doubled) "__getattribute__" = some (some (.builtin "BaseException.__getattribute__")))
    (gg_Doubled : PySem.W.findIn K (.ref C_Doubled) "__getattr__" = some none)
    (hd_Doubled : PySem.W.hasDictIn K C_Doubled = true)
    (in_Doubled : PySem.W.findIn K (.ref C_Doubled) "__init__" = some (some (.ref f22)))
    (tf_Doubled : PySem.W.typeIn K (.ref f22) = some (.type "function"))
    (nf_Doubled_name : PySem.W.findIn K (.ref C_Doubled) "name" = some none)
    (g_NoKind : PySem.W.nsIn K mainGlobals "NoKind" = some (some (.ref C_NoKind)))
    (xl_NoKind : K.lookup C_NoKind = some (excClassObj nm_NoKind q_NoKind C_NoKind N_NoKind bs_NoKind bm_NoKind true sn_NoKind su_NoKind ab_NoKind co_NoKind dd_NoKind m0_NoKind m1_NoKind m2_NoKind m3_NoKind m5_NoKind "ValueError.__new__"))
    (hb_NoKind : PySem.HandSPX.refsVE bm_NoKind = true)
    (sa_NoKind : PySem.W.findIn K (.ref C_NoKind) "__setattr__" = some (some (.builtin "object.__setattr__")))
    (ec_NoKind : PySem.W.subIn K (.ref C_NoKind) (.type "BaseException") = some true)
    (tc_NoKind : PySem.W.typeIn K (.ref C_NoKind) = some (.type "type"))
    (kc_NoKind : PySem.W.keepIn K (.ref C_NoKind) = true)
    (ga_NoKind : PySem.W.findIn K (.ref C_NoKind) "__getattribute__" = some (some (.builtin "BaseException.__getattribute__")))
    (gg_NoKind : PySem.W.findIn K (.ref C_NoKind) "__getattr__" = some none)
    (hd_NoKind : PySem.W.hasDictIn K C_NoKind = true)
    (in_NoKind : PySem.W.findIn K (.ref C_NoKind) "__init__" = some (some (.ref f23)))
    (tf_NoKind : PySem.W.typeIn K (.ref f23) = some (.type "function"))
    (nf_NoKind_found : PySem.W.findIn K (.ref C_NoKind) "found" = some none)
    (g_Channel : PySem.W.nsIn K mainGlobals "Channel" = some (some (.ref C_Channel)))
    (pg_Channel : PySem.W.plainGet K C_Channel Str.empty = true)
    (hd_Channel : PySem.W.hasDictIn K C_Channel = true)
    (po_Channel : PySem.W.plainOver K C_Channel = true)
    (sa_Channel : PySem.W.findIn K (.ref C_Channel) "__setattr__" = some (some (.builtin "object.__setattr__")))
    (mk_Channel : PySem.W.makesIn K C_Channel = true)
    (in_Channel : PySem.W.findIn K (.ref C_Channel) "__init__" = some (some (.ref f24)))
    (if_Channel : PySem.W.isFn K (.ref f24) = true)
    (kc_Channel : PySem.W.keepIn K (.ref C_Channel) = true)
    (na_Channel_name : PySem.W.findIn K (.ref C_Channel) "name" = some none)
    (na_Channel_one : PySem.W.findIn K (.ref C_Channel) "one" = some none)
    (na_Channel_other : PySem.W.findIn K (.ref C_Channel) "other" = some none)
    (na_Channel_hours : PySem.W.findIn K (.ref C_Channel) "hours" = some none)
    (na_Channel_depth : PySem.W.findIn K (.ref C_Channel) "depth" = some none)
    (na_Channel_first : PySem.W.findIn K (.ref C_Channel) "first" = some none)
    (na_Channel_growth : PySem.W.findIn K (.ref C_Channel) "growth" = some none)
    (na_Channel_most : PySem.W.findIn K (.ref C_Channel) "most" = some none)
    (me_Channel_row : PySem.W.findIn K (.ref C_Channel) "row" = some (some (.ref f25)))
    (mi_Channel_row : PySem.W.isFn K (.ref f25) = true)
    (g_Vessel : PySem.W.nsIn K mainGlobals "Vessel" = some (some (.ref C_Vessel)))
    (pg_Vessel : PySem.W.plainGet K C_Vessel Str.empty = true)
    (hd_Vessel : PySem.W.hasDictIn K C_Vessel = true)
    (po_Vessel : PySem.W.plainOver K C_Vessel = true)
    (sa_Vessel : PySem.W.findIn K (.ref C_Vessel) "__setattr__" = some (some (.builtin "object.__setattr__")))
    (mk_Vessel : PySem.W.makesIn K C_Vessel = true)
    (in_Vessel : PySem.W.findIn K (.ref C_Vessel) "__init__" = some (some (.ref f26)))
    (if_Vessel : PySem.W.isFn K (.ref f26) = true)
    (kc_Vessel : PySem.W.keepIn K (.ref C_Vessel) = true)
    (ks_Vessel : PySem.W.specialIn K (.ref C_Vessel) "__getattribute__" = some (some (.builtin "type.__getattribute__")))
    (kt_Vessel : PySem.W.typeIn K (.ref C_Vessel) = some (.type "type"))
    (kr_Vessel : PySem.W.readsIn K C_Vessel (.type "type") = true)
    (kf_Vessel : PySem.W.findCls K (.ref C_Vessel) (.type "type") "__init__" = some (.val (.ref f26)))
    (na_Vessel_name : PySem.W.findIn K (.ref C_Vessel) "name" = some none)
    (na_Vessel_port : PySem.W.findIn K (.ref C_Vessel) "port" = some none)
    (na_Vessel_hour : PySem.W.findIn K (.ref C_Vessel) "hour" = some none)
    (na_Vessel_strength : PySem.W.findIn K (.ref C_Vessel) "strength" = some none)
    (na_Vessel_draught : PySem.W.findIn K (.ref C_Vessel) "draught" = some none)
    (me_Vessel_kind : PySem.W.findIn K (.ref C_Vessel) "kind" = some (some (.ref f27)))
    (mi_Vessel_kind : PySem.W.isFn K (.ref f27) = true)
    (me_Vessel_thins : PySem.W.findIn K (.ref C_Vessel) "thins" = some (some (.ref f28)))
    (mi_Vessel_thins : PySem.W.isFn K (.ref f28) = true)
    (me_Vessel_lets : PySem.W.findIn K (.ref C_Vessel) "lets" = some (some (.ref f29)))
    (mi_Vessel_lets : PySem.W.isFn K (.ref f29) = true)
    (me_Vessel_row : PySem.W.findIn K (.ref C_Vessel) "row" = some (some (.ref f30)))
    (mi_Vessel_row : PySem.W.isFn K (.ref f30) = true)
    (g_Breaker : PySem.W.nsIn K mainGlobals "Breaker" = some (some (.ref C_Breaker)))
    (pg_Breaker : PySem.W.plainGet K C_Breaker Str.empty = true)
    (hd_Breaker : PySem.W.hasDictIn K C_Breaker = true)
    (po_Breaker : PySem.W.plainOver K C_Breaker = true)
    (sa_Breaker : PySem.W.findIn K (.ref C_Breaker) "__setattr__" = some (some (.builtin "object.__setattr__")))
    (mk_Breaker : PySem.W.makesIn K C_Breaker = true)
    (in_Breaker : PySem.W.findIn K (.ref C_Breaker) "__init__" = some (some (.ref f31)))
    (if_Breaker : PySem.W.isFn K (.ref f31) = true)
    (kc_Breaker : PySem.W.keepIn K (.ref C_Breaker) = true)
    (na_Breaker_name : PySem.W.findIn K (.ref C_Breaker) "name" = some none)
    (na_Breaker_port : PySem.W.findIn K (.ref C_Breaker) "port" = some none)
    (na_Breaker_hour : PySem.W.findIn K (.ref C_Breaker) "hour" = some none)
    (na_Breaker_strength : PySem.W.findIn K (.ref C_Breaker) "strength" = some none)
    (na_Breaker_draught : PySem.W.findIn K (.ref C_Breaker) "draught" = some none)
    (na_Breaker_cut : PySem.W.findIn K (.ref C_Breaker) "cut" = some none)
    (me_Breaker_kind : PySem.W.findIn K (.ref C_Breaker) "kind" = some (some (.ref f32)))
    (mi_Breaker_kind : PySem.W.isFn K (.ref f32) = true)
    (me_Breaker_thins : PySem.W.findIn K (.ref C_Breaker) "thins" = some (some (.ref f33)))
    (mi_Breaker_thins : PySem.W.isFn K (.ref f33) = true)
    (me_Breaker_row : PySem.W.findIn K (.ref C_Breaker) "row" = some (some (.ref f34)))
    (mi_Breaker_row : PySem.W.isFn K (.ref f34) = true)
    (me_Breaker_lets : PySem.W.findIn K (.ref C_Breaker) "lets" = some (some (.ref f29)))
    (mi_Breaker_lets : PySem.W.isFn K (.ref f29) = true)
    (g_Ship : PySem.W.nsIn K mainGlobals "Ship" = some (some (.ref C_Ship)))
    (pg_Ship : PySem.W.plainGet K C_Ship Str.empty = true)
    (hd_Ship : PySem.W.hasDictIn K C_Ship = true)
    (po_Ship : PySem.W.plainOver K C_Ship = true)
    (sa_Ship : PySem.W.findIn K (.ref C_Ship) "__setattr__" = some (some (.builtin "object.__setattr__")))
    (mk_Ship : PySem.W.makesIn K C_Ship = true)
    (in_Ship : PySem.W.findIn K (.ref C_Ship) "__init__" = some (some (.ref f35)))
    (if_Ship : PySem.W.isFn K (.ref f35) = true)
    (kc_Ship : PySem.W.keepIn K (.ref C_Ship) = true)
    (na_Ship_name : PySem.W.findIn K (.ref C_Ship) "name" = some none)
    (na_Ship_port : PySem.W.findIn K (.ref C_Ship) "port" = some none)
    (na_Ship_hour : PySem.W.findIn K (.ref C_Ship) "hour" = some none)
    (na_Ship_strength : PySem.W.findIn K (.ref C_Ship) "strength" = some none)
    (na_Ship_draught : PySem.W.findIn K (.ref C_Ship) "draught" = some none)
    (na_Ship_goal : PySem.W.findIn K (.ref C_Ship) "goal" = some none)
    (me_Ship_kind : PySem.W.findIn K (.ref C_Ship) "kind" = some (some (.ref f36)))
    (mi_Ship_kind : PySem.W.isFn K (.ref f36) = true)
    (me_Ship_row : PySem.W.findIn K (.ref C_Ship) "row" = some (some (.ref f37)))
    (mi_Ship_row : PySem.W.isFn K (.ref f37) = true)
    (me_Ship_thins : PySem.W.findIn K (.ref C_Ship) "thins" = some (some (.ref f28)))
    (mi_Ship_thins : PySem.W.isFn K (.ref f28) = true)
    (me_Ship_lets : PySem.W.findIn K (.ref C_Ship) "lets" = some (some (.ref f29)))
    (mi_Ship_lets : PySem.W.isFn K (.ref f29) = true)
    (g_Train : PySem.W.nsIn K mainGlobals "Train" = some (some (.ref C_Train)))
    (pg_Train : PySem.W.plainGet K C_Train Str.empty = true)
    (hd_Train : PySem.W.hasDictIn K C_Train = true)
    (po_Train : PySem.W.plainOver K C_Train = true)
    (sa_Train : PySem.W.findIn K (.ref C_Train) "__setattr__" = some (some (.builtin "object.__setattr__")))
    (mk_Train : PySem.W.makesIn K C_Train = true)
    (in_Train : PySem.W.findIn K (.ref C_Train) "__init__" = some (some (.ref f38)))
    (if_Train : PySem.W.isFn K (.ref f38) = true)
    (kc_Train : PySem.W.keepIn K (.ref C_Train) = true)
    (na_Train_name : PySem.W.findIn K (.ref C_Train) "name" = some none)
    (na_Train_port : PySem.W.findIn K (.ref C_Train) "port" = some none)
    (na_Train_hour : PySem.W.findIn K (.ref C_Train) "hour" = some none)
    (na_Train_strength : PySem.W.findIn K (.ref C_Train) "strength" = some none)
    (na_Train_draught : PySem.W.findIn K (.ref C_Train) "draught" = some none)
    (na_Train__vessels : PySem.W.findIn K (.ref C_Train) "_vessels" = some none)
    (me_Train_kind : PySem.W.findIn K (.ref C_Train) "kind" = some (some (.ref f39)))
    (mi_Train_kind : PySem.W.isFn K (.ref f39) = true)
    (me_Train_thins : PySem.W.findIn K (.ref C_Train) "thins" = some (some (.ref f40)))
    (mi_Train_thins : PySem.W.isFn K (.ref f40) = true)
    (me_Train_names : PySem.W.findIn K (.ref C_Train) "names" = some (some (.ref f41)))
    (mi_Train_names : PySem.W.isFn K (.ref f41) = true)
    (me_Train_row : PySem.W.findIn K (.ref C_Train) "row" = some (some (.ref f42)))
    (mi_Train_row : PySem.W.isFn K (.ref f42) = true)
    (me_Train_lets : PySem.W.findIn K (.ref C_Train) "lets" = some (some (.ref f29)))
    (mi_Train_lets : PySem.W.isFn K (.ref f29) = true)
    (ex_NoName_NoKind : PySem.W.exmOne K (.ref C_NoName) (.ref C_NoKind) = some false)
    (ex_NoName_IceError : PySem.W.exmOne K (.ref C_NoName) (.ref C_IceError) = some true)
    (ex_NoNumber_NoKind : PySem.W.exmOne K (.ref C_NoNumber) (.ref C_NoKind) = some false)
    (ex_NoNumber_IceError : PySem.W.exmOne K (.ref C_NoNumber) (.ref C_IceError) = some true)
    (ex_Doubled_NoKind : PySem.W.exmOne K (.ref C_Doubled) (.ref C_NoKind) = some false)
    (ex_Doubled_IceError : PySem.W.exmOne K (.ref C_Doubled) (.ref C_IceError) = some true)
    (ex_NoKind_NoKind : PySem.W.exmOne K (.ref C_NoKind) (.ref C_NoKind) = some true)
    (ex_NoKind_IceError : PySem.W.exmOne K (.ref C_NoKind) (.ref C_IceError) = some true)
    (sgc : PySem.W.specialIn K (.builtin "object.__class__") "__get__" = some (some (.builtin "getset_descriptor.__get__")))
    (tkc : PySem.W.takesIn K (.builtin "object.__class__") = some true)
    (ca_Channel : PySem.W.findIn K (.ref C_Channel) "__class__" = some (some (.builtin "object.__class__")))
    (mo_Channel : PySem.W.mroIn K C_Channel (.type "object") = some true)
    (io_Channel_Train : PySem.W.kitOne K (.ref C_Channel) (.ref C_Train) = some false)
    (io_Channel_Vessel : PySem.W.kitOne K (.ref C_Channel) (.ref C_Vessel) = some false)
    (io_Channel_Breaker : PySem.W.kitOne K (.ref C_Channel) (.ref C_Breaker) = some false)
    (io_Channel_Ship : PySem.W.kitOne K (.ref C_Channel) (.ref C_Ship) = some false)
    (ca_Vessel : PySem.W.findIn K (.ref C_Vessel) "__class__" = some (some (.builtin "object.__class__")))
    (mo_Vessel : PySem.W.mroIn K C_Vessel (.type "object") = some true)
    (io_Vessel_Train : PySem.W.kitOne K (.ref C_Vessel) (.ref C_Train) = some false)
    (io_Vessel_Vessel : PySem.W.kitOne K (.ref C_Vessel) (.ref C_Vessel) = some true)
    (io_Vessel_Breaker : PySem.W.kitOne K (.ref C_Vessel) (.ref C_Breaker) = some false)
    (io_Vessel_Ship : PySem.W.kitOne K (.ref C_Vessel) (.ref C_Ship) = some false)
    (ca_Breaker : PySem.W.findIn K (.ref C_Breaker) "__class__" = some (some (.builtin "object.__class__")))
    (mo_Breaker : PySem.W.mroIn K C_Breaker (.type "object") = some true)
    (io_Breaker_Train : PySem.W.kitOne K (.ref C_Breaker) (.ref C_Train) = some false)
    (io_Breaker_Vessel : PySem.W.kitOne K (.ref C_Breaker) (.ref C_Vessel) = some true)
    (io_Breaker_Breaker : PySem.W.kitOne K (.ref C_Breaker) (.ref C_Breaker) = some true)
    (io_Breaker_Ship : PySem.W.kitOne K (.ref C_Breaker) (.ref C_Ship) = some false)
    (ca_Ship : PySem.W.findIn K (.ref C_Ship) "__class__" = some (some (.builtin "object.__class__")))
    (mo_Ship : PySem.W.mroIn K C_Ship (.type "object") = some true)
    (io_Ship_Train : PySem.W.kitOne K (.ref C_Ship) (.ref C_Train) = some false)
    (io_Ship_Vessel : PySem.W.kitOne K (.ref C_Ship) (.ref C_Vessel) = some true)
    (io_Ship_Breaker : PySem.W.kitOne K (.ref C_Ship) (.ref C_Breaker) = some false)
    (io_Ship_Ship : PySem.W.kitOne K (.ref C_Ship) (.ref C_Ship) = some true)
    (ca_Train : PySem.W.findIn K (.ref C_Train) "__class__" = some (some (.builtin "object.__class__")))
    (mo_Train : PySem.W.mroIn K C_Train (.type "object") = some true)
    (io_Train_Train : PySem.W.kitOne K (.ref C_Train) (.ref C_Train) = some true)
    (io_Train_Vessel : PySem.W.kitOne K (.ref C_Train) (.ref C_Vessel) = some true)
    (io_Train_Breaker : PySem.W.kitOne K (.ref C_Train) (.ref C_Breaker) = some false)
    (io_Train_Ship : PySem.W.kitOne K (.ref C_Train) (.ref C_Ship) = some false)
    (io_Channel_list : PySem.W.kitOne K (.ref C_Channel) (.type "list") = some false)
    (io_Channel_tuple : PySem.W.kitOne K (.ref C_Channel) (.type "tuple") = some false)
    (eq_Channel : PySem.W.findIn K (.ref C_Channel) "__eq__" = some (some (.builtin "object.__eq__")))
    (io_Vessel_list : PySem.W.kitOne K (.ref C_Vessel) (.type "list") = some false)
    (io_Vessel_tuple : PySem.W.kitOne K (.ref C_Vessel) (.type "tuple") = some false)
    (eq_Vessel : PySem.W.findIn K (.ref C_Vessel) "__eq__" = some (some (.builtin "object.__eq__")))
    (io_Breaker_list : PySem.W.kitOne K (.ref C_Breaker) (.type "list") = some false)
    (io_Breaker_tuple : PySem.W.kitOne K (.ref C_Breaker) (.type "tuple") = some false)
    (eq_Breaker : PySem.W.findIn K (.ref C_Breaker) "__eq__" = some (some (.builtin "object.__eq__")))
    (io_Ship_list : PySem.W.kitOne K (.ref C_Ship) (.type "list") = some false)
    (io_Ship_tuple : PySem.W.kitOne K (.ref C_Ship) (.type "tuple") = some false)
    (eq_Ship : PySem.W.findIn K (.ref C_Ship) "__eq__" = some (some (.builtin "object.__eq__")))
    (io_Train_list : PySem.W.kitOne K (.ref C_Train) (.type "list") = some false)
    (io_Train_tuple : PySem.W.kitOne K (.ref C_Train) (.type "tuple") = some false)
    (eq_Train : PySem.W.findIn K (.ref C_Train) "__eq__" = some (some (.builtin "object.__eq__")))
    (ib_NoneType_Train : PySem.W.kitOne K (.type "NoneType") (.ref C_Train) = some false)
    (ib_NoneType_Vessel : PySem.W.kitOne K (.type "NoneType") (.ref C_Vessel) = some false)
    (ib_NoneType_Breaker : PySem.W.kitOne K (.type "NoneType") (.ref C_Breaker) = some false)
    (ib_NoneType_Ship : PySem.W.kitOne K (.type "NoneType") (.ref C_Ship) = some false)
    (ib_int_Train : PySem.W.kitOne K (.type "int") (.ref C_Train) = some false)
    (ib_int_Vessel : PySem.W.kitOne K (.type "int") (.ref C_Vessel) = some false)
    (ib_int_Breaker : PySem.W.kitOne K (.type "int") (.ref C_Breaker) = some false)
    (ib_int_Ship : PySem.W.kitOne K (.type "int") (.ref C_Ship) = some false)
    (ib_str_Train : PySem.W.kitOne K (.type "str") (.ref C_Train) = some false)
    (ib_str_Vessel : PySem.W.kitOne K (.type "str") (.ref C_Vessel) = some false)
    (ib_str_Breaker : PySem.W.kitOne K (.type "str") (.ref C_Breaker) = some false)
    (ib_str_Ship : PySem.W.kitOne K (.type "str") (.ref C_Ship) = some false)
    (ib_list_Train : PySem.W.kitOne K (.type "list") (.ref C_Train) = some false)
    (ib_list_Vessel : PySem.W.kitOne K (.type "list") (.ref C_Vessel) = some false)
    (ib_list_Breaker : PySem.W.kitOne K (.type "list") (.ref C_Breaker) = some false)
    (ib_list_Ship : PySem.W.kitOne K (.type "list") (.ref C_Ship) = some false)
    (ib_bool_Train : PySem.W.kitOne K (.type "bool") (.ref C_Train) = some false)
    (ib_bool_Vessel : PySem.W.kitOne K (.type "bool") (.ref C_Vessel) = some false)
    (ib_bool_Breaker : PySem.W.kitOne K (.type "bool") (.ref C_Breaker) = some false)
    (ib_bool_Ship : PySem.W.kitOne K (.type "bool") (.ref C_Ship) = some false)
    (ib_dict_Train : PySem.W.kitOne K (.type "dict") (.ref C_Train) = some false)
    (ib_dict_Vessel : PySem.W.kitOne K (.type "dict") (.ref C_Vessel) = some false)
    (ib_dict_Breaker : PySem.W.kitOne K (.type "dict") (.ref C_Breaker) = some false)
    (ib_dict_Ship : PySem.W.kitOne K (.type "dict") (.ref C_Ship) = some false)
    (ib_tuple_Train : PySem.W.kitOne K (.type "tuple") (.ref C_Train) = some false)
    (ib_tuple_Vessel : PySem.W.kitOne K (.type "tuple") (.ref C_Vessel) = some false)
    (ib_tuple_Breaker : PySem.W.kitOne K (.type "tuple") (.ref C_Breaker) = some false)
    (ib_tuple_Ship : PySem.W.kitOne K (.type "tuple") (.ref C_Ship) = some false)
    (a0 : PySem.W.nsIn K mainGlobals "is_whole" = some (some (.ref f0)))
    (l0 : K.lookup f0 = some ⟨oc0, od0, .func (PySem.W.fnOf "is_whole" "is_whole" (defArgs s_is_whole) (defBody s_is_whole) (defScope s_is_whole) .none kV0 dc0 pm0 an0 cd0 ct0), sl0⟩)
    (p0 : PySem.W.codeIn K cd0 "is_whole" = true)
    (k0 : PySem.W.keepIn K (.ref f0) = true)
    (a1 : PySem.W.nsIn K mainGlobals "is_within" = some (some (.ref f1)))
    (l1 : K.lookup f1 = some ⟨oc1, od1, .func (PySem.W.fnOf "is_within" "is_within" (defArgs s_is_within) (defBody s_is_within) (defScope s_is_within) .none kV1 dc1 pm1 an1 cd1 ct1), sl1⟩)
    (p1 : PySem.W.codeIn K cd1 "is_within" = true)
    (k1 : PySem.W.keepIn K (.ref f1) = true)
    (a2 : PySem.W.nsIn K mainGlobals "is_name" = some (some (.ref f2)))
    (l2 : K.lookup f2 = some ⟨oc2, od2, .func (PySem.W.fnOf "is_name" "is_name" (defArgs s_is_name) (defBody s_is_name) (defScope s_is_name) .none kV2 dc2 pm2 an2 cd2 ct2), sl2⟩)
    (p2 : PySem.W.codeIn K cd2 "is_name" = true)
    (k2 : PySem.W.keepIn K (.ref f2) = true)
    (a3 : PySem.W.nsIn K mainGlobals "_all_between" = some (some (.ref f3)))
    (l3 : K.lookup f3 = some ⟨oc3, od3, .func (PySem.W.fnOf "_all_between" "_all_between" (defArgs s_all_between) (defBody s_all_between) (defScope s_all_between) .none kV3 dc3 pm3 an3 cd3 ct3), sl3⟩)
    (p3 : PySem.W.codeIn K cd3 "_all_between" = true)
    (k3 : PySem.W.keepIn K (.ref f3) = true)
    (a4 : PySem.W.nsIn K mainGlobals "check_number" = some (some (.ref f4)))
    (l4 : K.lookup f4 = some ⟨oc4, od4, .func (PySem.W.fnOf "check_number" "check_number" (defArgs s_check_number) (defBody s_check_number) (defScope s_check_number) .none kV4 dc4 pm4 an4 cd4 ct4), sl4⟩)
    (p4 : PySem.W.codeIn K cd4 "check_number" = true)
    (k4 : PySem.W.keepIn K (.ref f4) = true)
    (a5 : PySem.W.nsIn K mainGlobals "_check_names" = some (some (.ref f5)))
    (l5 : K.lookup f5 = some ⟨oc5, od5, .func (PySem.W.fnOf "_check_names" "_check_names" (defArgs s_check_names) (defBody s_check_names) (defScope s_check_names) .none kV5 dc5 pm5 an5 cd5 ct5), sl5⟩)
    (p5 : PySem.W.codeIn K cd5 "_check_names" = true)
    (k5 : PySem.W.keepIn K (.ref f5) = true)
    (a6 : PySem.W.nsIn K mainGlobals "_can_be_train" = some (some (.ref f6)))
    (l6 : K.lookup f6 = some ⟨oc6, od6, .func (PySem.W.fnOf "_can_be_train" "_can_be_train" (defArgs s_can_be_train) (defBody s_can_be_train) (defScope s_can_be_train) .none kV6 dc6 pm6 an6 cd6 ct6), sl6⟩)
    (p6 : PySem.W.codeIn K cd6 "_can_be_train" = true)
    (k6 : PySem.W.keepIn K (.ref f6) = true)
    (a7 : PySem.W.nsIn K mainGlobals "_strength_together" = some (some (.ref f7)))
    (l7 : K.lookup f7 = some ⟨oc7, od7, .func (PySem.W.fnOf "_strength_together" "_strength_together" (defArgs s_strength_together) (defBody s_strength_together) (defScope s_strength_together) .none kV7 dc7 pm7 an7 cd7 ct7), sl7⟩)
    (p7 : PySem.W.codeIn K cd7 "_strength_together" = true)
    (k7 : PySem.W.keepIn K (.ref f7) = true)
    (a8 : PySem.W.nsIn K mainGlobals "_law_cell" = some (some (.ref f8)))
    (l8 : K.lookup f8 = some ⟨oc8, od8, .func (PySem.W.fnOf "_law_cell" "_law_cell" (defArgs s_cell) (defBody s_cell) (defScope s_cell) .none kV8 dc8 pm8 an8 cd8 ct8), sl8⟩)
    (p8 : PySem.W.codeIn K cd8 "_law_cell" = true)
    (k8 : PySem.W.keepIn K (.ref f8) = true)
    (a9 : PySem.W.nsIn K mainGlobals "_law_box" = some (some (.ref f9)))
    (l9 : K.lookup f9 = some ⟨oc9, od9, .func (PySem.W.fnOf "_law_box" "_law_box" (defArgs s_box) (defBody s_box) (defScope s_box) .none kV9 dc9 pm9 an9 cd9 ct9), sl9⟩)
    (p9 : PySem.W.codeIn K cd9 "_law_box" = true)
    (k9 : PySem.W.keepIn K (.ref f9) = true)
    (a10 : PySem.W.nsIn K mainGlobals "_law_take" = some (some (.ref f10)))
    (l10 : K.lookup f10 = some ⟨oc10, od10, .func (PySem.W.fnOf "_law_take" "_law_take" (defArgs s_take) (defBody s_take) (defScope s_take) .none kV10 dc10 pm10 an10 cd10 ct10), sl10⟩)
    (p10 : PySem.W.codeIn K cd10 "_law_take" = true)
    (k10 : PySem.W.keepIn K (.ref f10) = true)
    (a11 : PySem.W.nsIn K mainGlobals "_law_names" = some (some (.ref f11)))
    (l11 : K.lookup f11 = some ⟨oc11, od11, .func (PySem.W.fnOf "_law_names" "_law_names" (defArgs s_names) (defBody s_names) (defScope s_names) .none kV11 dc11 pm11 an11 cd11 ct11), sl11⟩)
    (p11 : PySem.W.codeIn K cd11 "_law_names" = true)
    (k11 : PySem.W.keepIn K (.ref f11) = true)
    (a12 : PySem.W.nsIn K mainGlobals "_law_number" = some (some (.ref f12)))
    (l12 : K.lookup f12 = some ⟨oc12, od12, .func (PySem.W.fnOf "_law_number" "_law_number" (defArgs s_number) (defBody s_number) (defScope s_number) .none kV12 dc12 pm12 an12 cd12 ct12), sl12⟩)
    (p12 : PySem.W.codeIn K cd12 "_law_number" = true)
    (k12 : PySem.W.keepIn K (.ref f12) = true)
    (a13 : PySem.W.nsIn K mainGlobals "_law_vessel_row" = some (some (.ref f13)))
    (l13 : K.lookup f13 = some ⟨oc13, od13, .func (PySem.W.fnOf "_law_vessel_row" "_law_vessel_row" (defArgs s_vessel_row) (defBody s_vessel_row) (defScope s_vessel_row) .none kV13 dc13 pm13 an13 cd13 ct13), sl13⟩)
    (p13 : PySem.W.codeIn K cd13 "_law_vessel_row" = true)
    (k13 : PySem.W.keepIn K (.ref f13) = true)
    (a14 : PySem.W.nsIn K mainGlobals "_law_vessel" = some (some (.ref f14)))
    (l14 : K.lookup f14 = some ⟨oc14, od14, .func (PySem.W.fnOf "_law_vessel" "_law_vessel" (defArgs s_vessel) (defBody s_vessel) (defScope s_vessel) .none kV14 dc14 pm14 an14 cd14 ct14), sl14⟩)
    (p14 : PySem.W.codeIn K cd14 "_law_vessel" = true)
    (k14 : PySem.W.keepIn K (.ref f14) = true)
    (a15 : PySem.W.nsIn K mainGlobals "_law_all_let" = some (some (.ref f15)))
    (l15 : K.lookup f15 = some ⟨oc15, od15, .func (PySem.W.fnOf "_law_all_let" "_law_all_let" (defArgs s_all_let) (defBody s_all_let) (defScope s_all_let) .none kV15 dc15 pm15 an15 cd15 ct15), sl15⟩)
    (p15 : PySem.W.codeIn K cd15 "_law_all_let" = true)
    (k15 : PySem.W.keepIn K (.ref f15) = true)
    (a16 : PySem.W.nsIn K mainGlobals "_law_right" = some (some (.ref f16)))
    (l16 : K.lookup f16 = some ⟨oc16, od16, .func (PySem.W.fnOf "_law_right" "_law_right" (defArgs s_right) (defBody s_right) (defScope s_right) .none kV16 dc16 pm16 an16 cd16 ct16), sl16⟩)
    (p16 : PySem.W.codeIn K cd16 "_law_right" = true)
    (k16 : PySem.W.keepIn K (.ref f16) = true)
    (a17 : PySem.W.nsIn K mainGlobals "_law_no_kind" = some (some (.ref f17)))
    (l17 : K.lookup f17 = some ⟨oc17, od17, .func (PySem.W.fnOf "_law_no_kind" "_law_no_kind" (defArgs s_no_kind) (defBody s_no_kind) (defScope s_no_kind) .none kV17 dc17 pm17 an17 cd17 ct17), sl17⟩)
    (p17 : PySem.W.codeIn K cd17 "_law_no_kind" = true)
    (k17 : PySem.W.keepIn K (.ref f17) = true)
    (a18 : PySem.W.nsIn K mainGlobals "_law_vessels" = some (some (.ref f18)))
    (l18 : K.lookup f18 = some ⟨oc18, od18, .func (PySem.W.fnOf "_law_vessels" "_law_vessels" (defArgs s_vessels) (defBody s_vessels) (defScope s_vessels) .none kV18 dc18 pm18 an18 cd18 ct18), sl18⟩)
    (p18 : PySem.W.codeIn K cd18 "_law_vessels" = true)
    (k18 : PySem.W.keepIn K (.ref f18) = true)
    (a19 : PySem.W.nsIn K mainGlobals "law" = some (some (.ref f19)))
    (l19 : K.lookup f19 = some ⟨oc19, od19, .func (PySem.W.fnOf "law" "law" (defArgs s_law) (defBody s_law) (defScope s_law) .none kV19 dc19 pm19 an19 cd19 ct19), sl19⟩)
    (p19 : PySem.W.codeIn K cd19 "law" = true)
    (k19 : PySem.W.keepIn K (.ref f19) = true)
    (l20 : K.lookup f20 = some ⟨oc20, od20, .func (PySem.W.fnOf "__init__" "NoName.__init__" (defArgs s_NoName___init__) (defBody s_NoName___init__) (defScope s_NoName___init__) .none kV20 dc20 pm20 an20 cd20 ct20), sl20⟩)
    (p20 : PySem.W.codeIn K cd20 "NoName.__init__" = true)
    (k20 : PySem.W.keepIn K (.ref f20) = true)
    (l21 : K.lookup f21 = some ⟨oc21, od21, .func (PySem.W.fnOf "__init__" "NoNumber.__init__" (defArgs s_NoNumber___init__) (defBody s_NoNumber___init__) (defScope s_NoNumber___init__) .none kV21 dc21 pm21 an21 cd21 ct21), sl21⟩)
    (p21 : PySem.W.codeIn K cd21 "NoNumber.__init__" = true)
    (k21 : PySem.W.keepIn K (.ref f21) = true)
    (l22 : K.lookup f22 = some ⟨oc22, od22, .func (PySem.W.fnOf "__init__" "Doubled.__init__" (defArgs s_Doubled___init__) (defBody s_Doubled___init__) (defScope s_Doubled___init__) .none kV22 dc22 pm22 an22 cd22 ct22), sl22⟩)
    (p22 : PySem.W.codeIn K cd22 "Doubled.__init__" = true)
    (k22 : PySem.W.keepIn K (.ref f22) = true)
    (l23 : K.lookup f23 = some ⟨oc23, od23, .func (PySem.W.fnOf "__init__" "NoKind.__init__" (defArgs s_NoKind___init__) (defBody s_NoKind___init__) (defScope s_NoKind___init__) .none kV23 dc23 pm23 an23 cd23 ct23), sl23⟩)
    (p23 : PySem.W.codeIn K cd23 "NoKind.__init__" = true)
    (k23 : PySem.W.keepIn K (.ref f23) = true)
    (l24 : K.lookup f24 = some ⟨oc24, od24, .func (PySem.W.fnOf "__init__" "Channel.__init__" (defArgs s_Channel___init__) (defBody s_Channel___init__) (defScope s_Channel___init__) .none kV24 dc24 pm24 an24 cd24 ct24), sl24⟩)
    (p24 : PySem.W.codeIn K cd24 "Channel.__init__" = true)
    (k24 : PySem.W.keepIn K (.ref f24) = true)
    (l25 : K.lookup f25 = some ⟨oc25, od25, .func (PySem.W.fnOf "row" "Channel.row" (defArgs s_Channel_row) (defBody s_Channel_row) (defScope s_Channel_row) .none kV25 dc25 pm25 an25 cd25 ct25), sl25⟩)
    (p25 : PySem.W.codeIn K cd25 "Channel.row" = true)
    (k25 : PySem.W.keepIn K (.ref f25) = true)
    (l26 : K.lookup f26 = some ⟨oc26, od26, .func (PySem.W.fnOf "__init__" "Vessel.__init__" (defArgs s_Vessel___init__) (defBody s_Vessel___init__) (defScope s_Vessel___init__) .none kV26 dc26 pm26 an26 cd26 ct26), sl26⟩)
    (p26 : PySem.W.codeIn K cd26 "Vessel.__init__" = true)
    (k26 : PySem.W.keepIn K (.ref f26) = true)
    (l27 : K.lookup f27 = some ⟨oc27, od27, .func (PySem.W.fnOf "kind" "Vessel.kind" (defArgs s_Vessel_kind) (defBody s_Vessel_kind) (defScope s_Vessel_kind) .none kV27 dc27 pm27 an27 cd27 ct27), sl27⟩)
    (p27 : PySem.W.codeIn K cd27 "Vessel.kind" = true)
    (k27 : PySem.W.keepIn K (.ref f27) = true)
    (l28 : K.lookup f28 = some ⟨oc28, od28, .func (PySem.W.fnOf "thins" "Vessel.thins" (defArgs s_Vessel_thins) (defBody s_Vessel_thins) (defScope s_Vessel_thins) .none kV28 dc28 pm28 an28 cd28 ct28), sl28⟩)
    (p28 : PySem.W.codeIn K cd28 "Vessel.thins" = true)
    (k28 : PySem.W.keepIn K (.ref f28) = true)
    (l29 : K.lookup f29 = some ⟨oc29, od29, .func (PySem.W.fnOf "lets" "Vessel.lets" (defArgs s_Vessel_lets) (defBody s_Vessel_lets) (defScope s_Vessel_lets) .none kV29 dc29 pm29 an29 cd29 ct29), sl29⟩)
    (p29 : PySem.W.codeIn K cd29 "Vessel.lets" = true)
    (k29 : PySem.W.keepIn K (.ref f29) = true)
    (l30 : K.lookup f30 = some ⟨oc30, od30, .func (PySem.W.fnOf "row" "Vessel.row" (defArgs s_Vessel_row) (defBody s_Vessel_row) (defScope s_Vessel_row) .none kV30 dc30 pm30 an30 cd30 ct30), sl30⟩)
    (p30 : PySem.W.codeIn K cd30 "Vessel.row" = true)
    (k30 : PySem.W.keepIn K (.ref f30) = true)
    (l31 : K.lookup f31 = some ⟨oc31, od31, .func (PySem.W.fnOf "__init__" "Breaker.__init__" (defArgs s_Breaker___init__) (defBody s_Breaker___init__) (defScope s_Breaker___init__) .none kV31 dc31 pm31 an31 cd31 ct31), sl31⟩)
    (p31 : PySem.W.codeIn K cd31 "Breaker.__init__" = true)
    (k31 : PySem.W.keepIn K (.ref f31) = true)
    (l32 : K.lookup f32 = some ⟨oc32, od32, .func (PySem.W.fnOf "kind" "Breaker.kind" (defArgs s_Breaker_kind) (defBody s_Breaker_kind) (defScope s_Breaker_kind) .none kV32 dc32 pm32 an32 cd32 ct32), sl32⟩)
    (p32 : PySem.W.codeIn K cd32 "Breaker.kind" = true)
    (k32 : PySem.W.keepIn K (.ref f32) = true)
    (l33 : K.lookup f33 = some ⟨oc33, od33, .func (PySem.W.fnOf "thins" "Breaker.thins" (defArgs s_Breaker_thins) (defBody s_Breaker_thins) (defScope s_Breaker_thins) .none kV33 dc33 pm33 an33 cd33 ct33), sl33⟩)
    (p33 : PySem.W.codeIn K cd33 "Breaker.thins" = true)
    (k33 : PySem.W.keepIn K (.ref f33) = true)
    (l34 : K.lookup f34 = some ⟨oc34, od34, .func (PySem.W.fnOf "row" "Breaker.row" (defArgs s_Breaker_row) (defBody s_Breaker_row) (defScope s_Breaker_row) .none kV34 dc34 pm34 an34 cd34 ct34), sl34⟩)
    (p34 : PySem.W.codeIn K cd34 "Breaker.row" = true)
    (k34 : PySem.W.keepIn K (.ref f34) = true)
    (l35 : K.lookup f35 = some ⟨oc35, od35, .func (PySem.W.fnOf "__init__" "Ship.__init__" (defArgs s_Ship___init__) (defBody s_Ship___init__) (defScope s_Ship___init__) .none kV35 dc35 pm35 an35 cd35 ct35), sl35⟩)
    (p35 : PySem.W.codeIn K cd35 "Ship.__init__" = true)
    (k35 : PySem.W.keepIn K (.ref f35) = true)
    (l36 : K.lookup f36 = some ⟨oc36, od36, .func (PySem.W.fnOf "kind" "Ship.kind" (defArgs s_Ship_kind) (defBody s_Ship_kind) (defScope s_Ship_kind) .none kV36 dc36 pm36 an36 cd36 ct36), sl36⟩)
    (p36 : PySem.W.codeIn K cd36 "Ship.kind" = true)
    (k36 : PySem.W.keepIn K (.ref f36) = true)
    (l37 : K.lookup f37 = some ⟨oc37, od37, .func (PySem.W.fnOf "row" "Ship.row" (defArgs s_Ship_row) (defBody s_Ship_row) (defScope s_Ship_row) .none kV37 dc37 pm37 an37 cd37 ct37), sl37⟩)
    (p37 : PySem.W.codeIn K cd37 "Ship.row" = true)
    (k37 : PySem.W.keepIn K (.ref f37) = true)
    (l38 : K.lookup f38 = some ⟨oc38, od38, .func (PySem.W.fnOf "__init__" "Train.__init__" (defArgs s_Train___init__) (defBody s_Train___init__) (defScope s_Train___init__) .none kV38 dc38 pm38 an38 cd38 ct38), sl38⟩)
    (p38 : PySem.W.codeIn K cd38 "Train.__init__" = true)
    (k38 : PySem.W.keepIn K (.ref f38) = true)
    (l39 : K.lookup f39 = some ⟨oc39, od39, .func (PySem.W.fnOf "kind" "Train.kind" (defArgs s_Train_kind) (defBody s_Train_kind) (defScope s_Train_kind) .none kV39 dc39 pm39 an39 cd39 ct39), sl39⟩)
    (p39 : PySem.W.codeIn K cd39 "Train.kind" = true)
    (k39 : PySem.W.keepIn K (.ref f39) = true)
    (l40 : K.lookup f40 = some ⟨oc40, od40, .func (PySem.W.fnOf "thins" "Train.thins" (defArgs s_Train_thins) (defBody s_Train_thins) (defScope s_Train_thins) .none kV40 dc40 pm40 an40 cd40 ct40), sl40⟩)
    (p40 : PySem.W.codeIn K cd40 "Train.thins" = true)
    (k40 : PySem.W.keepIn K (.ref f40) = true)
    (l41 : K.lookup f41 = some ⟨oc41, od41, .func (PySem.W.fnOf "names" "Train.names" (defArgs s_Train_names) (defBody s_Train_names) (defScope s_Train_names) .none kV41 dc41 pm41 an41 cd41 ct41), sl41⟩)
    (p41 : PySem.W.codeIn K cd41 "Train.names" = true)
    (k41 : PySem.W.keepIn K (.ref f41) = true)
    (l42 : K.lookup f42 = some ⟨oc42, od42, .func (PySem.W.fnOf "row" "Train.row" (defArgs s_Train_row) (defBody s_Train_row) (defScope s_Train_row) .none kV42 dc42 pm42 an42 cd42 ct42), sl42⟩)
    (p42 : PySem.W.codeIn K cd42 "Train.row" = true)
    (k42 : PySem.W.keepIn K (.ref f42) = true)
    (c_NAME_MOST : PySem.W.nsIn K mainGlobals "NAME_MOST" = some (some (.int 8 t_NAME_MOST)))
    (c_HOURS_MOST : PySem.W.nsIn K mainGlobals "HOURS_MOST" = some (some (.int 1000 t_HOURS_MOST)))
    (c_DEPTH_MOST : PySem.W.nsIn K mainGlobals "DEPTH_MOST" = some (some (.int 1000 t_DEPTH_MOST)))
    (c_GROWTH_MOST : PySem.W.nsIn K mainGlobals "GROWTH_MOST" = some (some (.int 1000 t_GROWTH_MOST)))
    (c_THICK_MOST : PySem.W.nsIn K mainGlobals "THICK_MOST" = some (some (.int 1000000 t_THICK_MOST)))
    (c_HOUR_MOST : PySem.W.nsIn K mainGlobals "HOUR_MOST" = some (some (.int 1000000 t_HOUR_MOST)))
    (c_STRENGTH_MOST : PySem.W.nsIn K mainGlobals "STRENGTH_MOST" = some (some (.int 1000000 t_STRENGTH_MOST)))
    (c_CUT_MOST : PySem.W.nsIn K mainGlobals "CUT_MOST" = some (some (.int 1000000 t_CUT_MOST)))
    (c_TRAIN_MOST : PySem.W.nsIn K mainGlobals "TRAIN_MOST" = some (some (.int 6 t_TRAIN_MOST)))
    (n_isinstance : PySem.W.nsIn K mainGlobals "isinstance" = some none)
    (n_int : PySem.W.nsIn K mainGlobals "int" = some none)
    (n_bool : PySem.W.nsIn K mainGlobals "bool" = some none)
    (n_str : PySem.W.nsIn K mainGlobals "str" = some none)
    (n_len : PySem.W.nsIn K mainGlobals "len" = some none)
    (n_list : PySem.W.nsIn K mainGlobals "list" = some none)
    (n_tuple : PySem.W.nsIn K mainGlobals "tuple" = some none)
    (n_min : PySem.W.nsIn K mainGlobals "min" = some none)
    (n_max : PySem.W.nsIn K mainGlobals "max" = some none)
    (n_range : PySem.W.nsIn K mainGlobals "range" = some none)
    (n_repr : PySem.W.nsIn K mainGlobals "repr" = some none)
    (n_sum : PySem.W.nsIn K mainGlobals "sum" = some none)
    : ∃ fd : FuncData, (∀ (s : Shared) (v : Value), BindsTo s fd ⟨[v], []⟩ [("_law_script", v)]) ∧ ∀ base : Heap, K.In base → base.Ns mainGlobals mg → FnG l.prog w K mg base CX0 9 fa fd ["_law_script"] (spLaw K) := by
  cases hfa.symm.trans (PySem.W.mg_of X G a19)
  have F0 := fun_mk (st := s_is_whole) l0 p0 k0
  have b0 := F0.binds (ps := ["thing"]) fun _ _ _ _ _ _ us hl => match us, hl with | [_], _ => rfl
  have F1 := fun_mk (st := s_is_within) l1 p1 k1
  have b1 := F1.binds (ps := ["thing", "low", "high"]) fun _ _ _ _ _ _ us hl => match us, hl with | [_, _, _], _ => rfl
  have F2 := fun_mk (st := s_is_name) l2 p2 k2
  have b2 := F2.binds (ps := ["thing"]) fun _ _ _ _ _ _ us hl => match us, hl with | [_], _ => rfl
  have F3 := fun_mk (st := s_all_between) l3 p3 k3
  have b3 := F3.binds (ps := ["text", "low", "high"]) fun _ _ _ _ _ _ us hl => match us, hl with | [_, _, _], _ => rfl
  have F4 := fun_mk (st := s_check_number) l4 p4 k4
  have b4 := F4.binds (ps := ["thing", "low", "high"]) fun _ _ _ _ _ _ us hl => match us, hl with | [_, _, _], _ => rfl
  have F5 := fun_mk (st := s_check_names) l5 p5 k5
  have b5 := F5.binds (ps := ["things"]) fun _ _ _ _ _ _ us hl => match us, hl with | [_], _ => rfl
  have F6 := fun_mk (st := s_can_be_train) l6 p6 k6
  have b6 := F6.binds (ps := ["thing"]) fun _ _ _ _ _ _ us hl => match us, hl with | [_], _ => rfl
  have F7 := fun_mk (st := s_strength_together) l7 p7 k7
  have b7 := F7.binds (ps := ["vessels"]) fun _ _ _ _ _ _ us hl => match us, hl with | [_], _ => rfl
  have F8 := fun_mk (st := s_cell) l8 p8 k8
  have b8 := F8.binds (ps := ["_law_script", "_law_k"]) fun _ _ _ _ _ _ us hl => match us, hl with | [_, _], _ => rfl
  have F9 := fun_mk (st := s_box) l9 p9 k9
  have b9 := F9.binds (ps := ["_law_cell_here"]) fun _ _ _ _ _ _ us hl => match us, hl with | [_], _ => rfl
  have F10 := fun_mk (st := s_take) l10 p10 k10
  have b10 := F10.binds (ps := ["_law_box_here", "_law_many"]) fun _ _ _ _ _ _ us hl => match us, hl with | [_, _], _ => rfl
  have F11 := fun_mk (st := s_names) l11 p11 k11
  have b11 := F11.binds (ps := ["_law_box_here", "_law_many"]) fun _ _ _ _ _ _ us hl => match us, hl with | [_, _], _ => rfl
  have F12 := fun_mk (st := s_number) l12 p12 k12
  have b12 := F12.binds (ps := ["_law_box_here", "_law_low", "_law_high"]) fun _ _ _ _ _ _ us hl => match us, hl with | [_, _, _], _ => rfl
  have F13 := fun_mk (st := s_vessel_row) l13 p13 k13
  have b13 := F13.binds (ps := ["_law_box_here", "_law_kind", "_law_name", "_law_ports"]) fun _ _ _ _ _ _ us hl => match us, hl with | [_, _, _, _], _ => rfl
  have F14 := fun_mk (st := s_vessel) l14 p14 k14
  have b14 := F14.binds (ps := ["_law_kind", "_law_row"]) fun _ _ _ _ _ _ us hl => match us, hl with | [_, _], _ => rfl
  have F15 := fun_mk (st := s_all_let) l15 p15 k15
  have b15 := F15.binds (ps := ["_law_vessels_here", "_law_thick"]) fun _ _ _ _ _ _ us hl => match us, hl with | [_, _], _ => rfl
  have F16 := fun_mk (st := s_right) l16 p16 k16
  have b16 := F16.binds (ps := ["_law_train", "_law_vessels_here"]) fun _ _ _ _ _ _ us hl => match us, hl with | [_, _], _ => rfl
  have F17 := fun_mk (st := s_no_kind) l17 p17 k17
  have b17 := F17.binds (ps := ["_law_thing"]) fun _ _ _ _ _ _ us hl => match us, hl with | [_], _ => rfl
  have F18 := fun_mk (st := s_vessels) l18 p18 k18
  have b18 := F18.binds (ps := ["_law_box_here"]) fun _ _ _ _ _ _ us hl => match us, hl with | [_], _ => rfl
  have F19 := fun_mk (st := s_law) l19 p19 k19
  have b19 := F19.binds (ps := ["_law_script"]) fun _ _ _ _ _ _ us hl => match us, hl with | [_], _ => rfl
  have F20 := fun_mk (st := s_NoName___init__) l20 p20 k20
  have b20 := F20.binds (ps := ["self", "found"]) fun _ _ _ _ _ _ us hl => match us, hl with | [_, _], _ => rfl
  have F21 := fun_mk (st := s_NoNumber___init__) l21 p21 k21
  have b21 := F21.binds (ps := ["self", "found"]) fun _ _ _ _ _ _ us hl => match us, hl with | [_, _], _ => rfl
  have F22 := fun_mk (st := s_Doubled___init__) l22 p22 k22
  have b22 := F22.binds (ps := ["self", "name"]) fun _ _ _ _ _ _ us hl => match us, hl with | [_, _], _ => rfl
  have F23 := fun_mk (st := s_NoKind___init__) l23 p23 k23
  have b23 := F23.binds (ps := ["self", "found"]) fun _ _ _ _ _ _ us hl => match us, hl with | [_, _], _ => rfl
  have F24 := fun_mk (st := s_Channel___init__) l24 p24 k24
  have b24 := F24.binds (ps := ["self", "name", "one", "other", "hours", "depth", "first", "growth", "most"]) fun _ _ _ _ _ _ us hl => match us, hl with | [_, _, _, _, _, _, _, _, _], _ => rfl
  have F25 := fun_mk (st := s_Channel_row) l25 p25 k25
  have b25 := F25.binds (ps := ["self"]) fun _ _ _ _ _ _ us hl => match us, hl with | [_], _ => rfl
  have F26 := fun_mk (st := s_Vessel___init__) l26 p26 k26
  have b26 := F26.binds (ps := ["self", "name", "port", "hour", "strength", "draught"]) fun _ _ _ _ _ _ us hl => match us, hl with | [_, _, _, _, _, _], _ => rfl
  have F27 := fun_mk (st := s_Vessel_kind) l27 p27 k27
  have b27 := F27.binds (ps := ["self"]) fun _ _ _ _ _ _ us hl => match us, hl with | [_], _ => rfl
  have F28 := fun_mk (st := s_Vessel_thins) l28 p28 k28
  have b28 := F28.binds (ps := ["self"]) fun _ _ _ _ _ _ us hl => match us, hl with | [_], _ => rfl
  have F29 := fun_mk (st := s_Vessel_lets) l29 p29 k29
  have b29 := F29.binds (ps := ["self", "channel"]) fun _ _ _ _ _ _ us hl => match us, hl with | [_, _], _ => rfl
  have F30 := fun_mk (st := s_Vessel_row) l30 p30 k30
  have b30 := F30.binds (ps := ["self"]) fun _ _ _ _ _ _ us hl => match us, hl with | [_], _ => rfl
  have F31 := fun_mk (st := s_Breaker___init__) l31 p31 k31
  have b31 := F31.binds (ps := ["self", "name", "port", "hour", "strength", "draught", "cut"]) fun _ _ _ _ _ _ us hl => match us, hl with | [_, _, _, _, _, _, _], _ => rfl
  have F32 := fun_mk (st := s_Breaker_kind) l32 p32 k32
  have b32 := F32.binds (ps := ["self"]) fun _ _ _ _ _ _ us hl => match us, hl with | [_], _ => rfl
  have F33 := fun_mk (st := s_Breaker_thins) l33 p33 k33
  have b33 := F33.binds (ps := ["self"]) fun _ _ _ _ _ _ us hl => match us, hl with | [_], _ => rfl
  have F34 := fun_mk (st := s_Breaker_row) l34 p34 k34
  have b34 := F34.binds (ps := ["self"]) fun _ _ _ _ _ _ us hl => match us, hl with | [_], _ => rfl
  have F35 := fun_mk (st := s_Ship___init__) l35 p35 k35
  have b35 := F35.binds (ps := ["self", "name", "port", "goal", "hour", "strength", "draught"]) fun _ _ _ _ _ _ us hl => match us, hl with | [_, _, _, _, _, _, _], _ => rfl
  have F36 := fun_mk (st := s_Ship_kind) l36 p36 k36
  have b36 := F36.binds (ps := ["self"]) fun _ _ _ _ _ _ us hl => match us, hl with | [_], _ => rfl
  have F37 := fun_mk (st := s_Ship_row) l37 p37 k37
  have b37 := F37.binds (ps := ["self"]) fun _ _ _ _ _ _ us hl => match us, hl with | [_], _ => rfl
  have F38 := fun_mk (st := s_Train___init__) l38 p38 k38
  have b38 := F38.binds (ps := ["self", "vessels"]) fun _ _ _ _ _ _ us hl => match us, hl with | [_, _], _ => rfl
  have F39 := fun_mk (st := s_Train_kind) l39 p39 k39
  have b39 := F39.binds (ps := ["self"]) fun _ _ _ _ _ _ us hl => match us, hl with | [_], _ => rfl
  have F40 := fun_mk (st := s_Train_thins) l40 p40 k40
  have b40 := F40.binds (ps := ["self"]) fun _ _ _ _ _ _ us hl => match us, hl with | [_], _ => rfl
  have F41 := fun_mk (st := s_Train_names) l41 p41 k41
  have b41 := F41.binds (ps := ["self"]) fun _ _ _ _ _ _ us hl => match us, hl with | [_], _ => rfl
  have F42 := fun_mk (st := s_Train_row) l42 p42 k42
  have b42 := F42.binds (ps := ["self"]) fun _ _ _ _ _ _ us hl => match us, hl with | [_], _ => rfl
  let T : Top K mg := { a_IceError := C_IceError, c_IceError := PySem.W.mg_of X G g_IceError, sp_IceError := sp_IceError, ty_IceError := ty_IceError, rd_IceError := rd_IceError, fc_IceError := fc_IceError, a_NoName := C_NoName, c_NoName := PySem.W.mg_of X G g_NoName, ox_NoName := ⟨⟨nm_NoName, q_NoName, N_NoName, bs_NoName, bm_NoName, sn_NoName, su_NoName, ab_NoName, co_NoName, dd_NoName, m0_NoName, m1_NoName, m2_NoName, m3_NoName, m5_NoName, xl_NoName, hb_NoName⟩, sa_NoName, ec_NoName, tc_NoName, kc_NoName⟩, xf_NoName := ⟨ga_NoName, gg_NoName, ec_NoName, hd_NoName⟩, in_NoName := in_NoName, tf_NoName := tf_NoName, nf_NoName_found := nf_NoName_found, a_NoNumber := C_NoNumber, c_NoNumber := PySem.W.mg_of X G g_NoNumber, ox_NoNumber := ⟨⟨nm_NoNumber, q_NoNumber, N_NoNumber, bs_NoNumber, bm_NoNumber, sn_NoNumber, su_NoNumber, ab_NoNumber, co_NoNumber, dd_NoNumber, m0_NoNumber, m1_NoNumber, m2_NoNumber, m3_NoNumber, m5_NoNumber, xl_NoNumber, hb_NoNumber⟩, sa_NoNumber, ec_NoNumber, tc_NoNumber, kc_NoNumber⟩, xf_NoNumber := ⟨ga_NoNumber, gg_NoNumber, ec_NoNumber, hd_NoNumber⟩, in_NoNumber := in_NoNumber, tf_NoNumber := tf_NoNumber, nf_NoNumber_found := nf_NoNumber_found, a_Doubled := C_Doubled, c_Doubled := PySem.W.mg_of X G g_Doubled, ox_Doubled := ⟨⟨nm_Doubled, q_Doubled, N_Doubled, bs_Doubled, bm_Doubled, sn_Doubled, su_Doubled, ab_Doubled, co_Doubled, dd_Doubled, m0_Doubled, m1_Doubled, m2_Doubled, m3_Doubled, m5_Doubled, xl_Doubled, hb_Doubled⟩, sa_Doubled, ec_Doubled, tc_Doubled, kc_Doubled⟩, xf_Doubled := ⟨ga_Doubled, gg_Doubled, ec_Doubled, hd_Doubled⟩, in_Doubled := in_Doubled, tf_Doubled := tf_Doubled, nf_Doubled_name := nf_Doubled_name, a_NoKind := C_NoKind, c_NoKind := PySem.W.mg_of X G g_NoKind, ox_NoKind := ⟨⟨nm_NoKind, q_NoKind, N_NoKind, bs_NoKind, bm_NoKind, sn_NoKind, su_NoKind, ab_NoKind, co_NoKind, dd_NoKind, m0_NoKind, m1_NoKind, m2_NoKind, m3_NoKind, m5_NoKind, xl_NoKind, hb_NoKind⟩, sa_NoKind, ec_NoKind, tc_NoKind, kc_NoKind⟩, xf_NoKind := ⟨ga_NoKind, gg_NoKind, ec_NoKind, hd_NoKind⟩, in_NoKind := in_NoKind, tf_NoKind := tf_NoKind, nf_NoKind_found := nf_NoKind_found, a_Channel := C_Channel, c_Channel := PySem.W.mg_of X G g_Channel, cl_Channel := ⟨pg_Channel, hd_Channel, po_Channel, sa_Channel⟩, mk_Channel := ⟨mk_Channel, in_Channel, if_Channel, kc_Channel⟩, na_Channel_name := na_Channel_name, na_Channel_one := na_Channel_one, na_Channel_other := na_Channel_other, na_Channel_hours := na_Channel_hours, na_Channel_depth := na_Channel_depth, na_Channel_first := na_Channel_first, na_Channel_growth := na_Channel_growth, na_Channel_most := na_Channel_most, me_Channel_row := ⟨me_Channel_row, mi_Channel_row, k25⟩, a_Vessel := C_Vessel, c_Vessel := PySem.W.mg_of X G g_Vessel, cl_Vessel := ⟨pg_Vessel, hd_Vessel, po_Vessel, sa_Vessel⟩, mk_Vessel := ⟨mk_Vessel, in_Vessel, if_Vessel, kc_Vessel⟩, ki_Vessel := ⟨ks_Vessel, kt_Vessel, kr_Vessel, kf_Vessel, k26⟩, na_Vessel_name := na_Vessel_name, na_Vessel_port := na_Vessel_port, na_Vessel_hour := na_Vessel_hour, na_Vessel_strength := na_Vessel_strength, na_Vessel_draught := na_Vessel_draught, me_Vessel_kind := ⟨me_Vessel_kind, mi_Vessel_kind, k27⟩, me_Vessel_thins := ⟨me_Vessel_thins, mi_Vessel_thins, k28⟩, me_Vessel_lets := ⟨me_Vessel_lets, mi_Vessel_lets, k29⟩, me_Vessel_row := ⟨me_Vessel_row, mi_Vessel_row, k30⟩, a_Breaker := C_Breaker, c_Breaker := PySem.W.mg_of X G g_Breaker, cl_Breaker := ⟨pg_Breaker, hd_Breaker, po_Breaker, sa_Breaker⟩, mk_Breaker := ⟨mk_Breaker, in_Breaker, if_Breaker, kc_Breaker⟩, na_Breaker_name := na_Breaker_name, na_Breaker_port := na_Breaker_port, na_Breaker_hour := na_Breaker_hour, na_Breaker_strength := na_Breaker_strength, na_Breaker_draught := na_Breaker_draught, na_Breaker_cut := na_Breaker_cut, me_Breaker_kind := ⟨me_Breaker_kind, mi_Breaker_kind, k32⟩, me_Breaker_thins := ⟨me_Breaker_thins, mi_Breaker_thins, k33⟩, me_Breaker_row := ⟨me_Breaker_row, mi_Breaker_row, k34⟩, me_Breaker_lets := ⟨me_Breaker_lets, mi_Breaker_lets, k29⟩, a_Ship := C_Ship, c_Ship := PySem.W.mg_of X G g_Ship, cl_Ship := ⟨pg_Ship, hd_Ship, po_Ship, sa_Ship⟩, mk_Ship := ⟨mk_Ship, in_Ship, if_Ship, kc_Ship⟩, na_Ship_name := na_Ship_name, na_Ship_port := na_Ship_port, na_Ship_hour := na_Ship_hour, na_Ship_strength := na_Ship_strength, na_Ship_draught := na_Ship_draught, na_Ship_goal := na_Ship_goal, me_Ship_kind := ⟨me_Ship_kind, mi_Ship_kind, k36⟩, me_Ship_row := ⟨me_Ship_row, mi_Ship_row, k37⟩, me_Ship_thins := ⟨me_Ship_thins, mi_Ship_thins, k28⟩, me_Ship_lets := ⟨me_Ship_lets, mi_Ship_lets, k29⟩, a_Train := C_Train, c_Train := PySem.W.mg_of X G g_Train, cl_Train := ⟨pg_Train, hd_Train, po_Train, sa_Train⟩, mk_Train := ⟨mk_Train, in_Train, if_Train, kc_Train⟩, na_Train_name := na_Train_name, na_Train_port := na_Train_port, na_Train_hour := na_Train_hour, na_Train_strength := na_Train_strength, na_Train_draught := na_Train_draught, na_Train__vessels := na_Train__vessels, me_Train_kind := ⟨me_Train_kind, mi_Train_kind, k39⟩, me_Train_thins := ⟨me_Train_thins, mi_Train_thins, k40⟩, me_Train_names := ⟨me_Train_names, mi_Train_names, k41⟩, me_Train_row := ⟨me_Train_row, mi_Train_row, k42⟩, me_Train_lets := ⟨me_Train_lets, mi_Train_lets, k29⟩, ex_NoName_NoKind := ex_NoName_NoKind, ex_NoName_IceError := ex_NoName_IceError, ex_NoNumber_NoKind := ex_NoNumber_NoKind, ex_NoNumber_IceError := ex_NoNumber_IceError, ex_Doubled_NoKind := ex_Doubled_NoKind, ex_Doubled_IceError := ex_Doubled_IceError, ex_NoKind_NoKind := ex_NoKind_NoKind, ex_NoKind_IceError := ex_NoKind_IceError, sgc := sgc, tkc := tkc, ca_Channel := ca_Channel, mo_Channel := mo_Channel, io_Channel_Train := io_Channel_Train, io_Channel_Vessel := io_Channel_Vessel, io_Channel_Breaker := io_Channel_Breaker, io_Channel_Ship := io_Channel_Ship, ca_Vessel := ca_Vessel, mo_Vessel := mo_Vessel, io_Vessel_Train := io_Vessel_Train, io_Vessel_Vessel := io_Vessel_Vessel, io_Vessel_Breaker := io_Vessel_Breaker, io_Vessel_Ship := io_Vessel_Ship, ca_Breaker := ca_Breaker, mo_Breaker := mo_Breaker, io_Breaker_Train := io_Breaker_Train, io_Breaker_Vessel := io_Breaker_Vessel, io_Breaker_Breaker := io_Breaker_Breaker, io_Breaker_Ship := io_Breaker_Ship, ca_Ship := ca_Ship, mo_Ship := mo_Ship, io_Ship_Train := io_Ship_Train, io_Ship_Vessel := io_Ship_Vessel, io_Ship_Breaker := io_Ship_Breaker, io_Ship_Ship := io_Ship_Ship, ca_Train := ca_Train, mo_Train := mo_Train, io_Train_Train := io_Train_Train, io_Train_Vessel := io_Train_Vessel, io_Train_Breaker := io_Train_Breaker, io_Train_Ship := io_Train_Ship, io_Channel_list := io_Channel_list, io_Channel_tuple := io_Channel_tuple, eq_Channel := eq_Channel, io_Vessel_list := io_Vessel_list, io_Vessel_tuple := io_Vessel_tuple, eq_Vessel := eq_Vessel, io_Breaker_list := io_Breaker_list, io_Breaker_tuple := io_Breaker_tuple, eq_Breaker := eq_Breaker, io_Ship_list := io_Ship_list, io_Ship_tuple := io_Ship_tuple, eq_Ship := eq_Ship, io_Train_list := io_Train_list, io_Train_tuple := io_Train_tuple, eq_Train := eq_Train, ib_NoneType_Train := ib_NoneType_Train, ib_NoneType_Vessel := ib_NoneType_Vessel, ib_NoneType_Breaker := ib_NoneType_Breaker, ib_NoneType_Ship := ib_NoneType_Ship, ib_int_Train := ib_int_Train, ib_int_Vessel := ib_int_Vessel, ib_int_Breaker := ib_int_Breaker, ib_int_Ship := ib_int_Ship, ib_str_Train := ib_str_Train, ib_str_Vessel := ib_str_Vessel, ib_str_Breaker := ib_str_Breaker, ib_str_Ship := ib_str_Ship, ib_list_Train := ib_list_Train, ib_list_Vessel := ib_list_Vessel, ib_list_Breaker := ib_list_Breaker, ib_list_Ship := ib_list_Ship, ib_bool_Train := ib_bool_Train, ib_bool_Vessel := ib_bool_Vessel, ib_bool_Breaker := ib_bool_Breaker, ib_bool_Ship := ib_bool_Ship, ib_dict_Train := ib_dict_Train, ib_dict_Vessel := ib_dict_Vessel, ib_dict_Breaker := ib_dict_Breaker, ib_dict_Ship := ib_dict_Ship, ib_tuple_Train := ib_tuple_Train, ib_tuple_Vessel := ib_tuple_Vessel, ib_tuple_Breaker := ib_tuple_Breaker, ib_tuple_Ship := ib_tuple_Ship, a_is_whole := f0, d_is_whole := _, F_is_whole := F0, b_is_whole := b0, m_is_whole := PySem.W.mg_of X G a0, a_is_within := f1, d_is_within := _, F_is_within := F1, b_is_within := b1, m_is_within := PySem.W.mg_of X G a1, a_is_name := f2, d_is_name := _, F_is_name := F2, b_is_name := b2, m_is_name := PySem.W.mg_of X G a2, a_all_between := f3, d_all_between := _, F_all_between := F3, b_all_between := b3, m_all_between := PySem.W.mg_of X G a3, a_check_number := f4, d_check_number := _, F_check_number := F4, b_check_number := b4, m_check_number := PySem.W.mg_of X G a4, a_check_names := f5, d_check_names := _, F_check_names := F5, b_check_names := b5, m_check_names := PySem.W.mg_of X G a5, a_can_be_train := f6, d_can_be_train := _, F_can_be_train := F6, b_can_be_train := b6, m_can_be_train := PySem.W.mg_of X G a6, a_strength_together := f7, d_strength_together := _, F_strength_together := F7, b_strength_together := b7, m_strength_together := PySem.W.mg_of X G a7, a_cell := f8, d_cell := _, F_cell := F8, b_cell := b8, m_cell := PySem.W.mg_of X G a8, a_box := f9, d_box := _, F_box := F9, b_box := b9, m_box := PySem.W.mg_of X G a9, a_take := f10, d_take := _, F_take := F10, b_take := b10, m_take := PySem.W.mg_of X G a10, a_names := f11, d_names := _, F_names := F11, b_names := b11, m_names := PySem.W.mg_of X G a11, a_number := f12, d_number := _, F_number := F12, b_number := b12, m_number := PySem.W.mg_of X G a12, a_vessel_row := f13, d_vessel_row := _, F_vessel_row := F13, b_vessel_row := b13, m_vessel_row := PySem.W.mg_of X G a13, a_vessel := f14, d_vessel := _, F_vessel := F14, b_vessel := b14, m_vessel := PySem.W.mg_of X G a14, a_all_let := f15, d_all_let := _, F_all_let := F15, b_all_let := b15, m_all_let := PySem.W.mg_of X G a15, a_right := f16, d_right := _, F_right := F16, b_right := b16, m_right := PySem.W.mg_of X G a16, a_no_kind := f17, d_no_kind := _, F_no_kind := F17, b_no_kind := b17, m_no_kind := PySem.W.mg_of X G a17, a_vessels := f18, d_vessels := _, F_vessels := F18, b_vessels := b18, m_vessels := PySem.W.mg_of X G a18, a_law := fa, d_law := _, F_law := F19, b_law := b19, m_law := PySem.W.mg_of X G a19, a_NoName___init__ := f20, d_NoName___init__ := _, F_NoName___init__ := F20, b_NoName___init__ := b20, a_NoNumber___init__ := f21, d_NoNumber___init__ := _, F_NoNumber___init__ := F21, b_NoNumber___init__ := b21, a_Doubled___init__ := f22, d_Doubled___init__ := _, F_Doubled___init__ := F22, b_Doubled___init__ := b22, a_NoKind___init__ := f23, d_NoKind___init__ := _, F_NoKind___init__ := F23, b_NoKind___init__ := b23, a_Channel___init__ := f24, d_Channel___init__ := _, F_Channel___init__ := F24, b_Channel___init__ := b24, a_Channel_row := f25, d_Channel_row := _, F_Channel_row := F25, b_Channel_row := b25, a_Vessel___init__ := f26, d_Vessel___init__ := _, F_Vessel___init__ := F26, b_Vessel___init__ := b26, a_Vessel_kind := f27, d_Vessel_kind := _, F_Vessel_kind := F27, b_Vessel_kind := b27, a_Vessel_thins := f28, d_Vessel_thins := _, F_Vessel_thins := F28, b_Vessel_thins := b28, a_Vessel_lets := f29, d_Vessel_lets := _, F_Vessel_lets := F29, b_Vessel_lets := b29, a_Vessel_row := f30, d_Vessel_row := _, F_Vessel_row := F30, b_Vessel_row := b30, a_Breaker___init__ := f31, d_Breaker___init__ := _, F_Breaker___init__ := F31, b_Breaker___init__ := b31, a_Breaker_kind := f32, d_Breaker_kind := _, F_Breaker_kind := F32, b_Breaker_kind := b32, a_Breaker_thins := f33, d_Breaker_thins := _, F_Breaker_thins := F33, b_Breaker_thins := b33, a_Breaker_row := f34, d_Breaker_row := _, F_Breaker_row := F34, b_Breaker_row := b34, a_Ship___init__ := f35, d_Ship___init__ := _, F_Ship___init__ := F35, b_Ship___init__ := b35, a_Ship_kind := f36, d_Ship_kind := _, F_Ship_kind := F36, b_Ship_kind := b36, a_Ship_row := f37, d_Ship_row := _, F_Ship_row := F37, b_Ship_row := b37, a_Train___init__ := f38, d_Train___init__ := _, F_Train___init__ := F38, b_Train___init__ := b38, a_Train_kind := f39, d_Train_kind := _, F_Train_kind := F39, b_Train_kind := b39, a_Train_thins := f40, d_Train_thins := _, F_Train_thins := F40, b_Train_thins := b40, a_Train_names := f41, d_Train_names := _, F_Train_names := F41, b_Train_names := b41, a_Train_row := f42, d_Train_row := _, F_Train_row := F42, b_Train_row := b42, t_NAME_MOST := t_NAME_MOST, c_NAME_MOST := PySem.W.mg_of X G c_NAME_MOST, t_HOURS_MOST := t_HOURS_MOST, c_HOURS_MOST := PySem.W.mg_of X G c_HOURS_MOST, t_DEPTH_MOST := t_DEPTH_MOST, c_DEPTH_MOST := PySem.W.mg_of X G c_DEPTH_MOST, t_GROWTH_MOST := t_GROWTH_MOST, c_GROWTH_MOST := PySem.W.mg_of X G c_GROWTH_MOST, t_THICK_MOST := t_THICK_MOST, c_THICK_MOST := PySem.W.mg_of X G c_THICK_MOST, t_HOUR_MOST := t_HOUR_MOST, c_HOUR_MOST := PySem.W.mg_of X G c_HOUR_MOST, t_STRENGTH_MOST := t_STRENGTH_MOST, c_STRENGTH_MOST := PySem.W.mg_of X G c_STRENGTH_MOST, t_CUT_MOST := t_CUT_MOST, c_CUT_MOST := PySem.W.mg_of X G c_CUT_MOST, t_TRAIN_MOST := t_TRAIN_MOST, c_TRAIN_MOST := PySem.W.mg_of X G c_TRAIN_MOST, n_isinstance := PySem.W.mg_none_of X G n_isinstance, n_int := PySem.W.mg_none_of X G n_int, n_bool := PySem.W.mg_none_of X G n_bool, n_str := PySem.W.mg_none_of X G n_str, n_len := PySem.W.mg_none_of X G n_len, n_list := PySem.W.mg_none_of X G n_list, n_tuple := PySem.W.mg_none_of X G n_tuple, n_min := PySem.W.mg_none_of X G n_min, n_max := PySem.W.mg_none_of X G n_max, n_range := PySem.W.mg_none_of X G n_range, n_repr := PySem.W.mg_none_of X G n_repr, n_sum := PySem.W.mg_none_of X G n_sum }
  exact ⟨_, fun s v => .of_eq rfl, fun base _ _ => ok_law (P := l.prog) (w := w) (base := base) T⟩
end Ice
open PySem PySem.W PyProof.Rows
set_option maxRecDepth 100000 in
set_option maxHeartbeats 0 in
theorem PySem.Challenge.cw_iceopened_k10_trains_holds : PySem.Challenge.rw_iceopened_k10_trains.Holds := by
  w_on; o_law; k_head; (case hw => w_witness2)
  k_fill
  refine Ice.walkG (l := PySem.Challenge.rw_iceopened_k10_trains) (n := 63) (k := 9) (x := "_law_script") (sp := Ice.spLaw) rfl (by decide) rfl ⟨rfl, by decide, by decide⟩ (fun w h Y => PySem.W.kIn_of Y) ?F Ice.law_sp
  case F =>
    intro w mg fa h KX G hmg
    refine' Ice.all_mk KX G hmg ?g_IceError ?sp_IceError ?ty_IceError ?rd_IceError ?fc_IceError ?g_NoName ?xl_NoName ?hb_NoName ?sa_NoName ?ec_NoName ?tc_NoName ?kc_NoName ?ga_NoName ?gg_NoName ?hd_NoName ?in_NoName ?tf_NoName ?nf_NoName_found ?g_NoNumber ?xl_NoNumber ?hb_NoNumber ?sa_NoNumber ?ec_NoNumber ?tc_NoNumber ?kc_NoNumber ?ga_NoNumber ?gg_NoNumber ?hd_NoNumber ?in_NoNumber ?tf_NoNumber ?nf_NoNumber_found ?g_Doubled ?xl_Doubled ?hb_Doubled ?sa_Doubled ?ec_Doubled ?tc_Doubled ?kc_Doubled ?ga_Doubled ?gg_Doubled ?hd_Doubled ?in_Doubled ?tf_Doubled ?nf_Doubled_name ?g_NoKind ?xl_NoKind ?hb_NoKind ?sa_NoKind ?ec_NoKind ?tc_NoKind ?kc_NoKind ?ga_NoKind ?gg_NoKind ?hd_NoKind ?in_NoKind ?tf_NoKind ?nf_NoKind_found ?g_Channel ?pg_Channel ?hd_Channel ?po_Channel ?sa_Channel ?mk_Channel ?in_Channel ?if_Channel ?kc_Channel ?na_Channel_name ?na_Channel_one ?na_Channel_other ?na_Channel_hours ?na_Channel_depth ?na_Channel_first ?na_Channel_growth ?na_Channel_most ?me_Channel_row ?mi_Channel_row ?g_Vessel ?pg_Vessel ?hd_Vessel ?po_Vessel ?sa_Vessel ?mk_Vessel ?in_Vessel ?if_Vessel ?kc_Vessel ?ks_Vessel ?kt_Vessel ?kr_Vessel ?kf_Vessel ?na_Vessel_name ?na_Vessel_port ?na_Vessel_hour ?na_Vessel_strength ?na_Vessel_draught ?me_Vessel_kind ?mi_Vessel_kind ?me_Vessel_thins ?mi_Vessel_thins ?me_Vessel_lets ?mi_Vessel_lets ?me_Vessel_row ?mi_Vessel_row ?g_Breaker ?pg_Breaker ?hd_Breaker ?po_Breaker ?sa_Breaker ?mk_Breaker ?in_Breaker ?if_Breaker ?kc_Breaker ?na_Breaker_name ?na_Breaker_port ?na_Breaker_hour ?na_Breaker_strength ?na_Breaker_draught ?na_Breaker_cut ?me_Breaker_kind ?mi_Breaker_kind ?me_Breaker_thins ?mi_Breaker_thins ?me_Breaker_row ?mi_Breaker_row ?me_Breaker_lets ?mi_Breaker_lets ?g_Ship ?pg_Ship ?hd_Ship ?po_Ship ?sa_Ship ?mk_Ship ?in_Ship ?if_Ship ?kc_Ship ?na_Ship_name ?na_Ship_port ?na_Ship_hour ?na_Ship_strength ?na_Ship_draught ?na_Ship_goal ?me_Ship_kind ?mi_Ship_kind ?me_Ship_row ?mi_Ship_row ?me_Ship_thins ?mi_Ship_thins ?me_Ship_lets ?mi_Ship_lets ?g_Train ?pg_Train ?hd_Train ?po_Train ?sa_Train ?mk_Train ?in_Train ?if_Train ?kc_Train ?na_Train_name ?na_Train_port ?na_Train_hour ?na_Train_strength ?na_Train_draught ?na_Train__vessels ?me_Train_kind ?mi_Train_kind ?me_Train_thins ?mi_Train_thins ?me_Train_names ?mi_Train_names ?me_Train_row ?mi_Train_row ?me_Train_lets ?mi_Train_lets ?ex_NoName_NoKind ?ex_NoName_IceError ?ex_NoNumber_NoKind ?ex_NoNumber_IceError ?ex_Doubled_NoKind ?ex_Doubled_IceError ?ex_NoKind_NoKind ?ex_NoKind_IceError ?sgc ?tkc ?ca_Channel ?mo_Channel ?io_Channel_Train ?io_Channel_Vessel ?io_Channel_Breaker ?io_Channel_Ship ?ca_Vessel ?mo_Vessel ?io_Vessel_Train ?io_Vessel_Vessel ?io_Vessel_Breaker ?io_Vessel_Ship ?ca_Breaker ?mo_Breaker ?io_Breaker_Train ?io_Breaker_Vessel ?io_Breaker_Breaker ?io_Breaker_Ship ?ca_Ship ?mo_Ship ?io_Ship_Train ?io_Ship_Vessel ?io_Ship_Breaker ?io_Ship_Ship ?ca_Train ?mo_Train ?io_Train_Train ?io_Train_Vessel ?io_Train_Breaker ?io_Train_Ship ?io_Channel_list ?io_Channel_tuple ?eq_Channel ?io_Vessel_list ?io_Vessel_tuple ?eq_Vessel ?io_Breaker_list ?io_Breaker_tuple ?eq_Breaker ?io_Ship_list ?io_Ship_tuple ?eq_Ship ?io_Train_list ?io_Train_tuple ?eq_Train ?ib_NoneType_Train ?ib_NoneType_Vessel ?ib_NoneType_Breaker ?ib_NoneType_Ship ?ib_int_Train ?ib_int_Vessel ?ib_int_Breaker ?ib_int_Ship ?ib_str_Train ?ib_str_Vessel ?ib_str_Breaker ?ib_str_Ship ?ib_list_Train ?ib_list_Vessel ?ib_list_Breaker ?ib_list_Ship ?ib_bool_Train ?ib_bool_Vessel ?ib_bool_Breaker ?ib_bool_Ship ?ib_dict_Train ?ib_dict_Vessel ?ib_dict_Breaker ?ib_dict_Ship ?ib_tuple_Train ?ib_tuple_Vessel ?ib_tuple_Breaker ?ib_tuple_Ship ?a0 ?l0 ?p0 ?k0 ?a1 ?l1 ?p1 ?k1 ?a2 ?l2 ?p2 ?k2 ?a3 ?l3 ?p3 ?k3 ?a4 ?l4 ?p4 ?k4 ?a5 ?l5 ?p5 ?k5 ?a6 ?l6 ?p6 ?k6 ?a7 ?l7 ?p7 ?k7 ?a8 ?l8 ?p8 ?k8 ?a9 ?l9 ?p9 ?k9 ?a10 ?l10 ?p10 ?k10 ?a11 ?l11 ?p11 ?k11 ?a12 ?l12 ?p12 ?k12 ?a13 ?l13 ?p13 ?k13 ?a14 ?l14 ?p14 ?k14 ?a15 ?l15 ?p15 ?k15 ?a16 ?l16 ?p16 ?k16 ?a17 ?l17 ?p17 ?k17 ?a18 ?l18 ?p18 ?k18 ?a19 ?l19 ?p19 ?k19 ?l20 ?p20 ?k20 ?l21 ?p21 ?k21 ?l22 ?p22 ?k22 ?l23 ?p23 ?k23 ?l24 ?p24 ?k24 ?l25 ?p25 ?k25 ?l26 ?p26 ?k26 ?l27 ?p27 ?k27 ?l28 ?p28 ?k28 ?l29 ?p29 ?k29 ?l30 ?p30 ?k30 ?l31 ?p31 ?k31 ?l32 ?p32 ?k32 ?l33 ?p33 ?k33 ?l34 ?p34 ?k34 ?l35 ?p35 ?k35 ?l36 ?p36 ?k36 ?l37 ?p37 ?k37 ?l38 ?p38 ?k38 ?l39 ?p39 ?k39 ?l40 ?p40 ?k40 ?l41 ?p41 ?k41 ?l42 ?p42 ?k42 ?c_NAME_MOST ?c_HOURS_MOST ?c_DEPTH_MOST ?c_GROWTH_MOST ?c_THICK_MOST ?c_HOUR_MOST ?c_STRENGTH_MOST ?c_CUT_MOST ?c_TRAIN_MOST ?n_isinstance ?n_int ?n_bool ?n_str ?n_len ?n_list ?n_tuple ?n_min ?n_max ?n_range ?n_repr ?n_sum
    (case g_IceError => k_is)
    (case sp_IceError => k_is)
    (case ty_IceError => k_is)
    (case rd_IceError => k_is)
    (case fc_IceError => k_is)
    (case g_NoName => k_is)
    (case xl_NoName => k_is)
    (case hb_NoName => decide +kernel)
    (case sa_NoName => k_is)
    (case ec_NoName => k_is)
    (case tc_NoName => k_is)
    (case kc_NoName => k_is)
    (case ga_NoName => k_is)
    (case gg_NoName => k_is)
    (case hd_NoName => k_is)
    (case in_NoName => k_is)
    (case tf_NoName => k_is)
    (case nf_NoName_found => k_is)
    (case g_NoNumber => k_is)
    (case xl_NoNumber => k_is)
    (case hb_NoNumber => decide +kernel)
    (case sa_NoNumber => k_is)
    (case ec_NoNumber => k_is)
    (case tc_NoNumber => k_is)
    (case kc_NoNumber => k_is)
    (case ga_NoNumber => k_is)
    (case gg_NoNumber => k_is)
    (case hd_NoNumber => k_is)
    (case in_NoNumber => k_is)
    (case tf_NoNumber => k_is)
    (case nf_NoNumber_found => k_is)
    (case g_Doubled => k_is)
    (case xl_Doubled => k_is)
    (case hb_Doubled => decide +kernel)
    (case sa_Doubled => k_is)
    (case ec_Doubled => k_is)
    (case tc_Doubled => k_is)
    (case kc_Doubled => k_is)
    (case ga_Doubled => k_is)
    (case gg_Doubled => k_is)
    (case hd_Doubled => k_is)
    (case in_Doubled => k_is)
    (case tf_Doubled => k_is)
    (case nf_Doubled_name => k_is)
    (case g_NoKind => k_is)
    (case xl_NoKind => k_is)
    (case hb_NoKind => decide +kernel)
    (case sa_NoKind => k_is)
    (case ec_NoKind => k_is)
    (case tc_NoKind => k_is)
    (case kc_NoKind => k_is)
    (case ga_NoKind => k_is)
    (case gg_NoKind => k_is)
    (case hd_NoKind => k_is)
    (case in_NoKind => k_is)
    (case tf_NoKind => k_is)
    (case nf_NoKind_found => k_is)
    (case g_Channel => k_is)
    (case pg_Channel => k_is)
    (case hd_Channel => k_is)
    (case po_Channel => k_is)
    (case sa_Channel => k_is)
    (case mk_Channel => k_is)
    (case in_Channel => k_is)
    (case if_Channel => k_is)
    (case kc_Channel => k_is)
    (case na_Channel_name => k_is)
    (case na_Channel_one => k_is)
    (case na_Channel_other => k_is)
    (case na_Channel_hours => k_is)
    (case na_Channel_depth => k_is)
    (case na_Channel_first => k_is)
    (case na_Channel_growth => k_is)
    (case na_Channel_most => k_is)
    (case me_Channel_row => k_is)
    (case mi_Channel_row => k_is)
    (case g_Vessel => k_is)
    (case pg_Vessel => k_is)
    (case hd_Vessel => k_is)
    (case po_Vessel => k_is)
    (case sa_Vessel => k_is)
    (case mk_Vessel => k_is)
    (case in_Vessel => k_is)
    (case if_Vessel => k_is)
    (case kc_Vessel => k_is)
    (case ks_Vessel => k_is)
    (case kt_Vessel => k_is)
    (case kr_Vessel => k_is)
    (case kf_Vessel => k_is)
    (case na_Vessel_name => k_is)
    (case na_Vessel_port => k_is)
    (case na_Vessel_hour => k_is)
    (case na_Vessel_strength => k_is)
    (case na_Vessel_draught => k_is)
    (case me_Vessel_kind => k_is)
    (case mi_Vessel_kind => k_is)
    (case me_Vessel_thins => k_is)
    (case mi_Vessel_thins => k_is)
    (case me_Vessel_lets => k_is)
    (case mi_Vessel_lets => k_is)
    (case me_Vessel_row => k_is)
    (case mi_Vessel_row => k_is)
    (case g_Breaker => k_is)
    (case pg_Breaker => k_is)
    (case hd_Breaker => k_is)
    (case po_Breaker => k_is)
    (case sa_Breaker => k_is)
    (case mk_Breaker => k_is)
    (case in_Breaker => k_is)
    (case if_Breaker => k_is)
    (case kc_Breaker => k_is)
    (case na_Breaker_name => k_is)
    (case na_Breaker_port => k_is)
    (case na_Breaker_hour => k_is)
    (case na_Breaker_strength => k_is)
    (case na_Breaker_draught => k_is)
    (case na_Breaker_cut => k_is)
    (case me_Breaker_kind => k_is)
    (case mi_Breaker_kind => k_is)
    (case me_Breaker_thins => k_is)
    (case mi_Breaker_thins => k_is)
    (case me_Breaker_row => k_is)
    (case mi_Breaker_row => k_is)
    (case me_Breaker_lets => k_is)
    (case mi_Breaker_lets => k_is)
    (case g_Ship => k_is)
    (case pg_Ship => k_is)
    (case hd_Ship => k_is)
    (case po_Ship => k_is)
    (case sa_Ship => k_is)
    (case mk_Ship => k_is)
    (case in_Ship => k_is)
    (case if_Ship => k_is)
    (case kc_Ship => k_is)
    (case na_Ship_name => k_is)
    (case na_Ship_port => k_is)
    (case na_Ship_hour => k_is)
    (case na_Ship_strength => k_is)
    (case na_Ship_draught => k_is)
    (case na_Ship_goal => k_is)
    (case me_Ship_kind => k_is)
    (case mi_Ship_kind => k_is)
    (case me_Ship_row => k_is)
    (case mi_Ship_row => k_is)
    (case me_Ship_thins => k_is)
    (case mi_Ship_thins => k_is)
    (case me_Ship_lets => k_is)
    (case mi_Ship_lets => k_is)
    (case g_Train => k_is)
    (case pg_Train => k_is)
    (case hd_Train => k_is)
    (case po_Train => k_is)
    (case sa_Train => k_is)
    (case mk_Train => k_is)
    (case in_Train => k_is)
    (case if_Train => k_is)
    (case kc_Train => k_is)
    (case na_Train_name => k_is)
    (case na_Train_port => k_is)
    (case na_Train_hour => k_is)
    (case na_Train_strength => k_is)
    (case na_Train_draught => k_is)
    (case na_Train__vessels => k_is)
    (case me_Train_kind => k_is)
    (case mi_Train_kind => k_is)
    (case me_Train_thins => k_is)
    (case mi_Train_thins => k_is)
    (case me_Train_names => k_is)
    (case mi_Train_names => k_is)
    (case me_Train_row => k_is)
    (case mi_Train_row => k_is)
    (case me_Train_lets => k_is)
    (case mi_Train_lets => k_is)
    (case ex_NoName_NoKind => first | k_is | (first | rfl | decide +kernel))
    (case ex_NoName_IceError => first | k_is | (first | rfl | decide +kernel))
    (case ex_NoNumber_NoKind => first | k_is | (first | rfl | decide +kernel))
    (case ex_NoNumber_IceError => first | k_is | (first | rfl | decide +kernel))
    (case ex_Doubled_NoKind => first | k_is | (first | rfl | decide +kernel))
    (case ex_Doubled_IceError => first | k_is | (first | rfl | decide +kernel))
    (case ex_NoKind_NoKind => first | k_is | (first | rfl | decide +kernel))
    (case ex_NoKind_IceError => first | k_is | (first | rfl | decide +kernel))
    (case sgc => k_is)
    (case tkc => k_is)
    (case ca_Channel => k_is)
    (case mo_Channel => k_is)
    (case io_Channel_Train => kit_is)
    (case io_Channel_Vessel => kit_is)
    (case io_Channel_Breaker => kit_is)
    (case io_Channel_Ship => kit_is)
    (case ca_Vessel => k_is)
    (case mo_Vessel => k_is)
    (case io_Vessel_Train => kit_is)
    (case io_Vessel_Vessel => kit_is)
    (case io_Vessel_Breaker => kit_is)
    (case io_Vessel_Ship => kit_is)
    (case ca_Breaker => k_is)
    (case mo_Breaker => k_is)
    (case io_Breaker_Train => kit_is)
    (case io_Breaker_Vessel => kit_is)
    (case io_Breaker_Breaker => kit_is)
    (case io_Breaker_Ship => kit_is)
    (case ca_Ship => k_is)
    (case mo_Ship => k_is)
    (case io_Ship_Train => kit_is)
    (case io_Ship_Vessel => kit_is)
    (case io_Ship_Breaker => kit_is)
    (case io_Ship_Ship => kit_is)
    (case ca_Train => k_is)
    (case mo_Train => k_is)
    (case io_Train_Train => kit_is)
    (case io_Train_Vessel => kit_is)
    (case io_Train_Breaker => kit_is)
    (case io_Train_Ship => kit_is)
    (case io_Channel_list => kit_is)
    (case io_Channel_tuple => kit_is)
    (case eq_Channel => k_is)
    (case io_Vessel_list => kit_is)
    (case io_Vessel_tuple => kit_is)
    (case eq_Vessel => k_is)
    (case io_Breaker_list => kit_is)
    (case io_Breaker_tuple => kit_is)
    (case eq_Breaker => k_is)
    (case io_Ship_list => kit_is)
    (case io_Ship_tuple => kit_is)
    (case eq_Ship => k_is)
    (case io_Train_list => kit_is)
    (case io_Train_tuple => kit_is)
    (case eq_Train => k_is)
    (case ib_NoneType_Train => kit_is)
    (case ib_NoneType_Vessel => kit_is)
    (case ib_NoneType_Breaker => kit_is)
    (case ib_NoneType_Ship => kit_is)
    (case ib_int_Train => kit_is)
    (case ib_int_Vessel => kit_is)
    (case ib_int_Breaker => kit_is)
    (case ib_int_Ship => kit_is)
    (case ib_str_Train => kit_is)
    (case ib_str_Vessel => kit_is)
    (case ib_str_Breaker => kit_is)
    (case ib_str_Ship => kit_is)
    (case ib_list_Train => kit_is)
    (case ib_list_Vessel => kit_is)
    (case ib_list_Breaker => kit_is)
    (case ib_list_Ship => kit_is)
    (case ib_bool_Train => kit_is)
    (case ib_bool_Vessel => kit_is)
    (case ib_bool_Breaker => kit_is)
    (case ib_bool_Ship => kit_is)
    (case ib_dict_Train => kit_is)
    (case ib_dict_Vessel => kit_is)
    (case ib_dict_Breaker => kit_is)
    (case ib_dict_Ship => kit_is)
    (case ib_tuple_Train => kit_is)
    (case ib_tuple_Vessel => kit_is)
    (case ib_tuple_Breaker => kit_is)
    (case ib_tuple_Ship => kit_is)
    (case a0 => k_is)
    (case l0 => k_is)
    (case p0 => k_is)
    (case k0 => k_is)
    (case a1 => k_is)
    (case l1 => k_is)
    (case p1 => k_is)
    (case k1 => k_is)
    (case a2 => k_is)
    (case l2 => k_is)
    (case p2 => k_is)
    (case k2 => k_is)
    (case a3 => k_is)
    (case l3 => k_is)
    (case p3 => k_is)
    (case k3 => k_is)
    (case a4 => k_is)
    (case l4 => k_is)
    (case p4 => k_is)
    (case k4 => k_is)
    (case a5 => k_is)
    (case l5 => k_is)
    (case p5 => k_is)
    (case k5 => k_is)
    (case a6 => k_is)
    (case l6 => k_is)
    (case p6 => k_is)
    (case k6 => k_is)
    (case a7 => k_is)
    (case l7 => k_is)
    (case p7 => k_is)
    (case k7 => k_is)
    (case a8 => k_is)
    (case l8 => k_is)
    (case p8 => k_is)
    (case k8 => k_is)
    (case a9 => k_is)
    (case l9 => k_is)
    (case p9 => k_is)
    (case k9 => k_is)
    (case a10 => k_is)
    (case l10 => k_is)
    (case p10 => k_is)
    (case k10 => k_is)
    (case a11 => k_is)
    (case l11 => k_is)
    (case p11 => k_is)
    (case k11 => k_is)
    (case a12 => k_is)
    (case l12 => k_is)
    (case p12 => k_is)
    (case k12 => k_is)
    (case a13 => k_is)
    (case l13 => k_is)
    (case p13 => k_is)
    (case k13 => k_is)
    (case a14 => k_is)
    (case l14 => k_is)
    (case p14 => k_is)
    (case k14 => k_is)
    (case a15 => k_is)
    (case l15 => k_is)
    (case p15 => k_is)
    (case k15 => k_is)
    (case a16 => k_is)
    (case l16 => k_is)
    (case p16 => k_is)
    (case k16 => k_is)
    (case a17 => k_is)
    (case l17 => k_is)
    (case p17 => k_is)
    (case k17 => k_is)
    (case a18 => k_is)
    (case l18 => k_is)
    (case p18 => k_is)
    (case k18 => k_is)
    (case a19 => k_is)
    (case l19 => k_is)
    (case p19 => k_is)
    (case k19 => k_is)
    (case l20 => k_is)
    (case p20 => k_is)
    (case k20 => k_is)
    (case l21 => k_is)
    (case p21 => k_is)
    (case k21 => k_is)
    (case l22 => k_is)
    (case p22 => k_is)
    (case k22 => k_is)
    (case l23 => k_is)
    (case p23 => k_is)
    (case k23 => k_is)
    (case l24 => k_is)
    (case p24 => k_is)
    (case k24 => k_is)
    (case l25 => k_is)
    (case p25 => k_is)
    (case k25 => k_is)
    (case l26 => k_is)
    (case p26 => k_is)
    (case k26 => k_is)
    (case l27 => k_is)
    (case p27 => k_is)
    (case k27 => k_is)
    (case l28 => k_is)
    (case p28 => k_is)
    (case k28 => k_is)
    (case l29 => k_is)
    (case p29 => k_is)
    (case k29 => k_is)
    (case l30 => k_is)
    (case p30 => k_is)
    (case k30 => k_is)
    (case l31 => k_is)
    (case p31 => k_is)
    (case k31 => k_is)
    (case l32 => k_is)
    (case p32 => k_is)
    (case k32 => k_is)
    (case l33 => k_is)
    (case p33 => k_is)
    (case k33 => k_is)
    (case l34 => k_is)
    (case p34 => k_is)
    (case k34 => k_is)
    (case l35 => k_is)
    (case p35 => k_is)
    (case k35 => k_is)
    (case l36 => k_is)
    (case p36 => k_is)
    (case k36 => k_is)
    (case l37 => k_is)
    (case p37 => k_is)
    (case k37 => k_is)
    (case l38 => k_is)
    (case p38 => k_is)
    (case k38 => k_is)
    (case l39 => k_is)
    (case p39 => k_is)
    (case k39 => k_is)
    (case l40 => k_is)
    (case p40 => k_is)
    (case k40 => k_is)
    (case l41 => k_is)
    (case p41 => k_is)
    (case k41 => k_is)
    (case l42 => k_is)
    (case p42 => k_is)
    (case k42 => k_is)
    (case c_NAME_MOST => k_is)
    (case c_HOURS_MOST => k_is)
    (case c_DEPTH_MOST => k_is)
    (case c_GROWTH_MOST => k_is)
    (case c_THICK_MOST => k_is)
    (case c_HOUR_MOST => k_is)
    (case c_STRENGTH_MOST => k_is)
    (case c_CUT_MOST => k_is)
    (case c_TRAIN_MOST => k_is)
    (case n_isinstance => k_is)
    (case n_int => k_is)
    (case n_bool => k_is)
    (case n_str => k_is)
    (case n_len => k_is)
    (case n_list => k_is)
    (case n_tuple => k_is)
    (case n_min => k_is)
    (case n_max => k_is)
    (case n_range => k_is)
    (case n_repr => k_is)
    (case n_sum => k_is)

