import PyProof.Rows.All
import Wide.All
import OpenK.AllK
import Wide.FinOn
import HandS.ForMost
import HandS.Wide
import HandS.Style
import HandS.IsInst
import HandS.Codes
import HandS.Steps
import PyProof.ReprRoads
import HandS.ForExc
import HandS.EndBits
import KE.IntTextLaws
import HandS.ExcInit
import HandS.ExcField
import HandS.TryMany
import KE.KEqDict
import HandS.TryOnly
import KE.KEqNest
import HandS.More
import HandS.Iter
import HandS.Walk
import HandS.Deep
import HandS.SetFor
import HandS.SortRule
import KE.DataFind
import HandS.DictComp
import HandS.RaiseMore
import KE.GoesMore
import HandS.Star
import HandS.Strs
import KE.RegKIsAll
import KE.KStateDown
import KE.OsRunLaw
import HandS.Head0
import HandS.Head1
import HandS.Head2
import HandS.TupAny
import PySem.Challenge.RW_iceopened_k76_turned_more_and_less
set_option Elab.async false
set_option linter.all false
set_option maxRecDepth 100000
set_option maxHeartbeats 4000000
/-! The steps of a reading, one lemma for each construct; facts of heaps. -/
namespace Ice
open PySem PySem.Spec PyProof.Rows L2
section
variable {σ : L2.St} {H H' : Hp} {D : Ends} {t u : TS} {c tt tu : TT} {te ta tb tc : TE} {tA : TA} {Q : VK} {QA : List V → Hp → Prop} {QT : Bool → Hp → Prop} {i : Nat} {v x y : V} {g : TG} {r : R2}
theorem i_seq (h : t { D with nx := u D } σ H) : tSeq t u D σ H := h
theorem i_if (h : c σ H fun b H1 => if b = true then t D σ H1 else u D σ H1) : tIfS c t u D σ H := h
theorem i_next (h : D.nx σ H) : tNext D σ H := h
theorem i_brk (h : D.bk σ H) : tBreak D σ H := h
theorem i_cont (h : D.ct σ H) : tCont D σ H := h
theorem i_ret (h : te σ H D.rt) : tRet te D σ H := h
theorem i_retN (h : D.rt .non H) : tRetN D σ H := h
theorem i_drop (h : te σ H fun _ H1 => D.nx σ H1) : tDrop te D σ H := h
theorem i_asg (h : te σ H fun x H1 => g x σ H1 D.nx) : tAsg te g D σ H := h
theorem i_gname {q : L2.St → Hp → Prop} (h : q (σ.set i (some v)) H) : gName i v σ H q := h
theorem i_gsub {to ti : TE} {s : TSet} {q : L2.St → Hp → Prop} (h : to σ H fun o H1 => ti σ H1 fun i H2 => s o i v H2 fun H3 => q σ H3) : gSub to ti s v σ H q := h
theorem i_var (h : σ[i]? = some (some v)) (q : Q v H) : tVar i σ H Q := ⟨v, h, q⟩
theorem i_c (q : Q v H) : tC v σ H Q := q
theorem i_op (h : ta σ H fun x H1 => tb σ H1 fun y H2 => r x y H2 Q) : tOp r ta tb σ H Q := h
theorem i_un {r : V → Hp → VK → Prop} (h : ta σ H fun x H1 => r x H1 Q) : tUn r ta σ H Q := h
theorem i_test (h : te σ H fun x H' => ∃ k, x = .bl k ∧ QT k H') : tTest te σ H QT := h
theorem i_tB (h : te σ H fun x H' => ∃ k, x = .bl k ∧ QT k H') : tB te σ H QT := h
theorem i_and (h : c σ H fun b H1 => if b = true then tt σ H1 QT else QT false H1) : tAnd c tt σ H QT := h
theorem i_or (h : c σ H fun b H1 => if b = true then QT true H1 else tt σ H1 QT) : tOr c tt σ H QT := h
theorem i_not (h : c σ H fun b H1 => QT (!b) H1) : tNot c σ H QT := h
theorem i_andV (h : ta σ H fun x H1 => ∃ c, x = .bl c ∧ if c = true then tb σ H1 Q else Q (.bl false) H1) : tAndV ta tb σ H Q := h
theorem i_orV (h : ta σ H fun x H1 => ∃ c, x = .bl c ∧ if c = true then Q (.bl true) H1 else tb σ H1 Q) : tOrV ta tb σ H Q := h
theorem i_notV (h : ta σ H fun x H1 => ∃ c, x = .bl c ∧ Q (.bl (!c)) H1) : tNotV ta σ H Q := h
theorem i_ifE (h : c σ H fun b H1 => if b = true then ta σ H1 Q else tb σ H1 Q) : tIf c ta tb σ H Q := h
theorem i_bl {b : Bool} {q : Bool → Prop} (h : q b) : ∃ k, V.bl b = .bl k ∧ q k := ⟨b, rfl, h⟩
theorem i_nil (q : QA [] H) : tNil σ H QA := q
theorem i_cons (h : te σ H fun x H1 => tA σ H1 fun xs H2 => QA (x :: xs) H2) : tCons te tA σ H QA := h
theorem i_call {sp : Sp} {dvs : List V} {E : XK} (h : tA σ H fun vs H1 => sp (vs ++ dvs) H1 Q E) : tCall sp dvs E tA σ H Q := h
theorem i_cb {r : List V → Hp → VK → Prop} (h : tA σ H fun vs H1 => r vs H1 Q) : tCB r tA σ H Q := h
theorem i_rI0 {f : Int → Int → V} {a b : Int} (q : Q (f a b) H) : rI0 f (.int a) (.int b) H Q := ⟨a, b, rfl, rfl, q⟩
theorem i_rI {C : Int → Int → Prop} {f : Int → Int → V} {a b : Int} (hc : C a b) (q : Q (f a b) H) : rI C f (.int a) (.int b) H Q := ⟨a, b, rfl, rfl, hc, q⟩
theorem i_rU {f : Int → V} {a : Int} (q : Q (f a) H) : rU f (.int a) H Q := ⟨a, rfl, q⟩
theorem i_rEq (h : scal x y = true) (q : Q (.bl (decide (x = y))) H) : rEq x y H Q := ⟨h, q⟩
theorem i_rNe (h : scal x y = true) (q : Q (.bl (!decide (x = y))) H) : rNe x y H Q := ⟨h, q⟩
theorem i_chain {r' : R2} (h : ta σ H fun x H1 => tb σ H1 fun y H2 => r x y H2 fun z H3 => ∃ k, z = .bl k ∧ (if k = true then tc σ H3 fun w' H4 => r' y w' H4 Q else Q (.bl false) H3)) : tChain r r' ta tb tc σ H Q := h
theorem i_tup (h : tA σ H fun xs H1 => xs.length ≤ sizeLine ∧ ∀ p, H1 p = none → Q (.ref p) (upd H1 p (.tup xs))) : tTup tA σ H Q := h
theorem i_lst (h : tA σ H fun xs H1 => xs.length ≤ sizeLine ∧ ∀ p, H1 p = none → Q (.ref p) (upd H1 p (.lst xs))) : tLst tA σ H Q := h
theorem i_bm {K : PySem.W.Frag} {T : String} {r : V → List V → Hp → VK → Prop} (h : te σ H fun x H1 => tyV K T x H1 ∧ tA σ H1 fun xs H2 => r x xs H2 Q) : tBM K T r te tA σ H Q := h
theorem i_bm0 {K : PySem.W.Frag} {T : String} {r : V → List V → Hp → VK → Prop} (h : te σ H fun x H1 => tyV K T x H1 ∧ r x [] H1 Q) : tBM0 K T r te σ H Q := h
theorem i_m1 {r : V → List V → Hp → VK → Prop} (h : te σ H fun x H1 => (∃ a, x = .str a) ∧ tb σ H1 fun y H2 => r x [y] H2 Q) : tM1 r te tb σ H Q := h
theorem i_sl {r : V → Option Int → Option Int → Hp → VK → Prop} {tl th : TO} (h : te σ H fun x H1 => tl σ H1 fun a H2 => th σ H2 fun b H3 => r x a b H3 Q) : tSl r te tl th σ H Q := h
theorem i_nopart {q : Option Int → Hp → Prop} (h : q none H) : tNoPart σ H q := h
theorem i_part {q : Option Int → Hp → Prop} (h : te σ H fun x H1 => ∃ i, x = .int i ∧ q (some i) H1) : tPart te σ H q := h
theorem i_int {a : Int} {q : Int → Prop} (h : q a) : ∃ k, V.int a = .int k ∧ q k := ⟨a, rfl, h⟩
theorem i_str {a : Str} {q : Str → Prop} (h : q a) : ∃ k, V.str a = .str k ∧ q k := ⟨a, rfl, h⟩
theorem i_for {wi : TI} {tb : TS} (h : wi σ H fun J H1 => ∃ W : Nat → Nat → L2.St → Hp → Prop, (∃ m, W 0 m σ H1) ∧ ∀ i m σ H, W i m σ H →
      (J.stop i H ∧ D.nx σ H) ∨ (J.go i H ∧ ∃ N : L2.St → Hp → Prop, (∀ σ' H', N σ' H' → ∃ m', m' < m ∧ W (i + 1) m' σ' H') ∧ ∀ x H', J.yld i H x H' → g x σ H' fun σ2 H2 => tb { D with nx := N, ct := N, bk := D.nx } σ2 H2)) : tFor wi g tb D σ H := h
theorem i_yes {q : Bool → Hp → Prop} (h : q true H) : tYes σ H q := h
theorem ifs {b : Bool} {A B : Prop} (h1 : b = true → A) (h2 : b = false → B) : if b = true then A else B := by
  cases b with
  | true => exact h1 rfl
  | false => exact h2 rfl
end
/-! ### heaps -/
/-- all but what stands at b is as it was -/
def But (b : Addr) (H H' : Hp) : Prop := ∀ a o, a ≠ b → H a = some o → H' a = some o
theorem But.refl (b : Addr) (H : Hp) : But b H H := fun _ _ _ h => h
theorem But.trans {b : Addr} {H H1 H2 : Hp} (e : But b H H1) (e' : But b H1 H2) : But b H H2 := fun a o n h => e' a o n (e a o n h)
theorem But.set {b : Addr} {H : Hp} (o : HO) : But b H (upd H b o) := fun a u n h => by rw [upd_ne n]; exact h
theorem But.new {b p : Addr} {H : Hp} (o : HO) (hp : H p = none) : But b H (upd H p o) := fun a u n h => by rw [upd_ne (ne_of_none h hp)]; exact h
theorem Same.new {p : Addr} {H : Hp} (o : HO) (hp : H p = none) : Same H (upd H p o) := fun a u h => by rw [upd_ne (ne_of_none h hp)]; exact h
theorem Same.but {b : Addr} {H H' : Hp} (e : Same H H') : But b H H' := fun a o _ h => e a o h
/-- behind a change at b that H doesn't know -/
theorem But.same {b : Addr} {H H' : Hp} (e : But b H H') (hb : H b = none) : Same H H' := fun a o h => e a o (ne_of_none h hb) h
theorem keepU {H : Hp} {b p : Addr} {o u : HO} (h : H b = some o) (n : H p = none) : upd H p u b = some o := by rw [upd_ne (ne_of_none h n)]; exact h
theorem freeU {H : Hp} {b p : Addr} {u : HO} (h : upd H p u b = none) : H b = none := by
  by_cases e : b = p
  · subst e; rw [upd_same] at h; cases h
  · rw [upd_ne e] at h; exact h
theorem freeNe {H : Hp} {b p : Addr} {u : HO} (h : upd H p u b = none) : b ≠ p := fun e => by subst e; rw [upd_same] at h; cases h
theorem But.free {b p : Addr} {H H' : Hp} (e : But b H H') (n : p ≠ b) (h : H' p = none) : H p = none := by
  cases q : H p with
  | none => rfl
  | some o => rw [e p o n q] at h; cases h
theorem SqL.lst {K : PySem.W.Frag} {H : Hp} {a : Addr} {xs : List V} (h : H a = some (.lst xs)) : SqL K H a xs := .inl (.inl h)
theorem SqT.tup {K : PySem.W.Frag} {H : Hp} {a : Addr} {xs : List V} (h : H a = some (.tup xs)) : SqT K H a xs := .inl (.inl h)
/-- a law's script: what is read never changes -/
theorem SqL.but {K : PySem.W.Frag} {b : Addr} {H H' : Hp} {a : Addr} {xs : List V} (e : But b H H') (n : a ≠ b) (h : SqL K H a xs) : SqL K H' a xs := by
  rcases h with (h | ⟨o, h⟩) | h
  · exact .inl (.inl (e _ _ n h))
  · exact .inl (.inr ⟨o, e _ _ n h⟩)
  · exact .inr h
section
variable {H H' : Hp} {Q : VK} {K : PySem.W.Frag}
theorem i_ixL {p : Addr} {xs : List V} {i : Int} {v : V} (hS : SqL K H p xs) (he : atI xs i = some v) (q : Q v H) : rIxL K (.ref p) (.int i) H Q := ⟨p, xs, i, v, rfl, rfl, hS, he, q⟩
theorem i_ixT {p : Addr} {xs : List V} {i : Int} {v : V} (hS : SqT K H p xs) (he : atI xs i = some v) (q : Q v H) : rIxT K (.ref p) (.int i) H Q := ⟨p, xs, i, v, rfl, rfl, hS, he, q⟩
theorem i_ixS {z : Str} {i : Int} {c : Nat} (hz : z.length ≤ sizeLine) (he : atI z.cps.toList i = some c) (q : Q (.str ⟨#[c]⟩) H) : rIxS (.str z) (.int i) H Q := ⟨z, i, c, rfl, rfl, hz, he, q⟩
theorem i_setL {p : Addr} {xs : List V} {k : Int} {j : Nat} {v : V} {q : Hp → Prop} (h : H p = some (.lst xs)) (hj : ixN xs.length k = some j) (hq : q (upd H p (.lst (xs.set j v)))) : rSetL (.ref p) (.int k) v H q := ⟨p, xs, k, j, rfl, rfl, h, hj, hq⟩
end
/-! ### rules by name -/
def rLen (K : PySem.W.Frag) : List V → Hp → VK → Prop := fun xs H Q => ∃ p ys, xs = [.ref p] ∧ (SqL K H p ys ∨ SqT K H p ys) ∧ Q (.int ys.length) H
def rLenS : List V → Hp → VK → Prop := fun xs H Q => ∃ x, xs = [.str x] ∧ x.length ≤ sizeLine ∧ Q (.int x.length) H
def rMax2 : List V → Hp → VK → Prop := fun xs H Q => ∃ i j, xs = [.int i, .int j] ∧ Q (.int (if j > i then j else i)) H
def rMin2 : List V → Hp → VK → Prop := fun xs H Q => ∃ i j, xs = [.int i, .int j] ∧ Q (.int (if j < i then j else i)) H
def rStrI : List V → Hp → VK → Prop := fun xs H Q => ∃ i, xs = [.int i] ∧ i.natAbs.log2 < 1920 ∧ Q (.str (toString i)) H
def rAddT : R2 := fun x y H Q => ∃ i j, x = .str i ∧ y = .str j ∧ i.length + j.length ≤ sizeLine ∧ Q (.str (i ++ j)) H
section
variable {X : Cx} {H H' : Hp} {Q : VK} {K : PySem.W.Frag}
theorem c_len : CallR X (.builtin "len") (rLen X.K) := call_len_seq
theorem c_lenS : CallR X (.builtin "len") rLenS := call_len_str
theorem c_max2 (hc : X.calm = true := by rfl) : CallR X (.builtin "max") rMax2 := call_max2 hc
theorem c_min2 (hc : X.calm = true := by rfl) : CallR X (.builtin "min") rMin2 := call_min2 hc
theorem c_strI : CallR X (.type "str") rStrI := call_str_int
theorem o_addT : OpR X (binaryOp .Add) rAddT := op_add_str
theorem i_lenL {p : Addr} {xs : List V} (hS : SqL K H p xs) (q : Q (.int xs.length) H) : rLen K [.ref p] H Q := ⟨p, xs, rfl, .inl hS, q⟩
theorem i_lenT {p : Addr} {xs : List V} (hS : SqT K H p xs) (q : Q (.int xs.length) H) : rLen K [.ref p] H Q := ⟨p, xs, rfl, .inr hS, q⟩
theorem i_lenS {x : Str} (hz : x.length ≤ sizeLine) (q : Q (.int x.length) H) : rLenS [.str x] H Q := ⟨x, rfl, hz, q⟩
theorem i_max2 {i j : Int} (q : Q (.int (if j > i then j else i)) H) : rMax2 [.int i, .int j] H Q := ⟨i, j, rfl, q⟩
theorem i_min2 {i j : Int} (q : Q (.int (if j < i then j else i)) H) : rMin2 [.int i, .int j] H Q := ⟨i, j, rfl, q⟩
theorem i_strI {i : Int} (h : i.natAbs.log2 < 1920) (q : Q (.str (toString i)) H) : rStrI [.int i] H Q := ⟨i, rfl, h, q⟩
theorem i_addT {x y : Str} (h : x.length + y.length ≤ sizeLine) (q : Q (.str (x ++ y)) H) : rAddT (.str x) (.str y) H Q := ⟨x, y, rfl, rfl, h, q⟩
end
/-- the box that numbers are drawn from -/
structure Box (H : Hp) (b : Addr) (n : Nat) : Prop where
  ex : ∃ (x y z : Int), H b = some (.lst [.int x, .int y, .int z]) ∧ 0 ≤ x ∧ 0 ≤ y ∧ y < 2147483629 ∧ 0 ≤ z ∧ z ≤ n
theorem Box.mono {H : Hp} {b : Addr} {n m : Nat} (h : Box H b n) (e : n ≤ m) : Box H b m := by
  obtain ⟨x, y, z, h1, h2, h3, h4, h5, h6⟩ := h
  exact ⟨x, y, z, h1, h2, h3, h4, h5, by omega⟩
theorem Box.same {H H' : Hp} {b : Addr} {n : Nat} (h : Box H b n) (e : Same H H') : Box H' b n := by
  obtain ⟨x, y, z, h1, h2⟩ := h
  exact ⟨x, y, z, e _ _ h1, h2⟩
/-- the law's own promise -/
def spLaw (K : PySem.W.Frag) : Sp := fun vs H Q _ => ∃ (a : Addr) (ns : List Int), vs = [.ref a] ∧ SqL K H a (ns.map V.int) ∧ ns.length ≤ 63 ∧ (∀ z ∈ ns, Builtin.Int.intBits z ≤ 1048576) ∧ Only H ∧ ∀ H', Q (.bl true) H'
theorem law_sp (K : PySem.W.Frag) (H : Hp) (a : Addr) (ns : List Int) (h1 : ns.length ≤ 63) (h2 : ∀ z ∈ ns, Builtin.Int.intBits z ≤ 1048576) (h3 : Only H) (h4 : SqL K H a (ns.map V.int)) :
    spLaw K [.ref a] H (fun v _ => v = .bl true) fun _ _ _ => False := ⟨a, ns, rfl, h4, h1, h2, h3, fun _ => rfl⟩
theorem sz_of {n : Nat} (h : n ≤ 100000) : n ≤ sizeLine := Nat.le_trans h (by decide)
theorem i_room {n : Nat} {B : Prop} (h : n ≤ sizeLine) (q : B) : n ≤ sizeLine ∧ B := ⟨h, q⟩
theorem iteNT {A B : Prop} (h : B) : if (!true) = true then A else B := h
theorem iteNF {A B : Prop} (h : A) : if (!false) = true then A else B := h
theorem i_cut {t u : TS} {D : Ends} {σ : L2.St} {H : Hp} (Mid : L2.St → Hp → Prop) (h1 : t { D with nx := Mid } σ H) (h2 : ∀ σ' H', Mid σ' H' → u D σ' H') : C8.tCut t u D σ H := ⟨Mid, h1, h2⟩
theorem i_isstr {x : Str} {B : Prop} (h : B) : (∃ a, V.str x = .str a) ∧ B := ⟨⟨x, rfl⟩, h⟩
theorem i_wipe {a b : L2.St} {vs : List Nat} {B : Prop} (h : wipe a vs = wipe b vs) (q : B) : wipe a vs = wipe b vs ∧ B := ⟨h, q⟩
theorem i_rng1 {tA : TA} {σ : L2.St} {H : Hp} {R : It → Hp → Prop} (h : tA σ H fun vs H1 => ∃ j : Int, vs = [.int j] ∧ -(2 ^ 62) ≤ j ∧ j < 2 ^ 62 ∧ R (Itr 0 j.toNat) H1) : iRng1 tA σ H R := h
theorem i_lc {wi : TI} {g : TG} {tt : TT} {te : TE} {vs : List Nat} {σ : L2.St} {H : Hp} {Q : VK} (h : wi σ H fun J H1 => ∀ D, H1 D = none → ∃ W : Nat → Nat → Hp → Prop, (∃ m, W 0 m (upd H1 D (.lst []))) ∧ ∀ i m H, W i m H →
    (J.stop i H ∧ Q (.ref D) H) ∨ (J.go i H ∧ ∃ Nx : Hp → Prop, (∀ H', Nx H' → ∃ m', m' < m ∧ W (i + 1) m' H') ∧ ∀ x H', J.yld i H x H' → g x (wipe σ vs) H' fun σ2 H2 => wipe σ2 vs = wipe σ vs ∧ tt σ2 H2 fun b H3 =>
      if b = true then te σ2 H3 fun y H4 => ∃ acc, H4 D = some (.lst acc) ∧ acc.length < sizeLine ∧ Nx (upd H4 D (.lst (acc ++ [y]))) else Nx H3)) : tLc wi g tt te vs σ H Q := h
theorem Box.ne {H : Hp} {b p : Addr} {n : Nat} (h : Box H b n) (hp : H p = none) : p ≠ b := by
  obtain ⟨x, y, z, h1, _⟩ := h
  exact (ne_of_none h1 hp).symm
theorem Box.upd {H : Hp} {b p : Addr} {n : Nat} {o : HO} (h : Box H b n) (hp : p ≠ b) : Box (upd H p o) b n := by
  obtain ⟨x, y, z, h1, h2⟩ := h
  exact ⟨x, y, z, by rw [upd_ne hp.symm]; exact h1, h2⟩
theorem But.upd {H H' : Hp} {b p : Addr} {o : HO} (e : But b H H') (hp : H p = none) : But b H (upd H' p o) := fun a u n h => by rw [upd_ne (ne_of_none h hp)]; exact e a u n h
theorem Box.new {H : Hp} {b p : Addr} {n : Nat} {o : HO} (h : Box H b n) (hp : H p = none) : Box (L2.upd H p o) b n := h.upd (h.ne hp)
theorem i_list {K : PySem.W.Frag} {te : TE} {σ : L2.St} {H : Hp} {R : It → Hp → Prop} (h : te σ H fun x H1 => ∃ a, x = .ref a ∧ (∃ xs, SqL K H1 a xs) ∧ R (Itl K a) H1) : iList K te σ H R := h
theorem i_revL {K : PySem.W.Frag} {te : TE} {σ : L2.St} {H : Hp} {Q : VK} (h : te σ H fun x H1 => ∃ a xs, x = .ref a ∧ SqL K H1 a xs ∧ ∀ p, H1 p = none → Q (.ref p) (upd H1 p (.lst xs.reverse))) : tRevL K te σ H Q := h
theorem But.to {b : Addr} {H H1 H2 : Hp} (s : Same H H1) (e : But b H1 H2) (hb : H b = none) : Same H H2 := fun a o h => e a o (ne_of_none h hb) (s a o h)
theorem Same.upd {H H' : Hp} {p : Addr} {o : HO} (s : Same H H') (hp : H p = none) : Same H (L2.upd H' p o) := fun a u h => by rw [upd_ne (ne_of_none h hp)]; exact s a u h
theorem i_disp {trs : List (TE × TE)} {σ : L2.St} {H : Hp} {Q : VK} (h : ∀ p, H p = none → tPairs trs σ (upd H p (.dK [])) fun ps H2 => H2 p = some (.dK []) ∧ ∃ kvs : List (Key × V), ps = kvs.map (fun kv => (kV kv.1, kv.2)) ∧ kvs.length ≤ 15 ∧ Q (.ref p) (upd H2 p (.dK (mergeK [] kvs)))) : tDisp trs σ H Q := h
theorem i_pairs0 {σ : L2.St} {H : Hp} {Q : List (V × V) → Hp → Prop} (h : Q [] H) : tPairs [] σ H Q := h
theorem i_pairs {tk tv : TE} {r : List (TE × TE)} {σ : L2.St} {H : Hp} {Q : List (V × V) → Hp → Prop} (h : tk σ H fun x H1 => tv σ H1 fun y H2 => tPairs r σ H2 fun ps H3 => Q ((x, y) :: ps) H3) : tPairs ((tk, tv) :: r) σ H Q := h
theorem i_newK {σ : L2.St} {H : Hp} {Q : VK} (h : ∀ p, H p = none → Q (.ref p) (upd H p (.dK []))) : tDNewK σ H Q := h
theorem i_gtup {K : PySem.W.Frag} {n : Nat} {t : TGs} {a : Addr} {xs : List V} {σ : L2.St} {H : Hp} {Q : L2.St → Hp → Prop} (hS : SqT K H a xs) (hl : xs.length = n) (q : t xs σ H Q) : gTup K n t (.ref a) σ H Q := ⟨a, xs, rfl, hS, hl, q⟩
theorem i_gcons {t : TG} {u : TGs} {v : V} {r : List V} {σ : L2.St} {H : Hp} {Q : L2.St → Hp → Prop} (q : t v σ H fun σ' H' => u r σ' H' Q) : gCons t u (v :: r) σ H Q := ⟨v, r, rfl, q⟩
theorem i_gnil {σ : L2.St} {H : Hp} {Q : L2.St → Hp → Prop} (q : Q σ H) : gNil [] σ H Q := ⟨rfl, q⟩
/-- p is new in H', and holds o -/
structure New (H : Hp) (p : Addr) (o : HO) (H' : Hp) : Prop where
  free : H p = none
  same : Same H H'
  at_ : H' p = some o
theorem New.mk' {H : Hp} {p : Addr} {o : HO} (hp : H p = none) : New H p o (upd H p o) := ⟨hp, Same.new o hp, upd_same⟩
theorem i_new {H : Hp} {o : HO} {G : Addr → Hp → Prop} (h : ∀ p H', New H p o H' → G p H') : ∀ p, H p = none → G p (upd H p o) := fun p hp => h p _ (.mk' hp)
theorem Box.nw {H H' : Hp} {b p : Addr} {n : Nat} {o : HO} (h : Box H b n) (N : New H p o H') : Box H' b n := h.same N.same
theorem Box.off {H H' : Hp} {b p : Addr} {n : Nat} {o : HO} (h : Box H b n) (N : New H p o H') : p ≠ b := h.ne N.free
theorem New.but {H H' : Hp} {b p : Addr} {o : HO} (N : New H p o H') : But b H H' := Same.but N.same
theorem Same.app {H H' : Hp} {a : Addr} {o : HO} (s : Same H H') (h : H a = some o) : H' a = some o := s a o h
theorem But.app {H H' : Hp} {a b : Addr} {o : HO} (s : But b H H') (n : a ≠ b) (h : H a = some o) : H' a = some o := s a o n h
theorem New.app {H H' : Hp} {a p : Addr} {o u : HO} (N : New H p o H') (h : H a = some u) : H' a = some u := N.same a u h
theorem i_cat {H : Hp} {Q : VK} {l b : Addr} {xs zs : List V} (hl : H l = some (.lst xs)) (hb : H b = some (.lst zs)) (hz : xs.length + zs.length ≤ sizeLine) (h : ∀ p, H p = none → Q (.ref p) (upd H p (.lst (xs ++ zs)))) : rCat (.ref l) (.ref b) H Q := ⟨l, b, xs, zs, rfl, rfl, hl, hb, hz, h⟩
theorem New.of {H H' : Hp} {p : Addr} {o : HO} (e : upd H p o = H') (hp : H p = none) : New H p o H' := e ▸ .mk' hp
theorem i_tyL {K : PySem.W.Frag} {H : Hp} {l : Addr} {xs : List V} {B : Prop} (h : H l = some (.lst xs)) (q : B) : tyV K "list" (.ref l) H ∧ B := ⟨.inl ⟨rfl, _, SqL.lst h⟩, q⟩
theorem i_append {H : Hp} {Q : VK} {l : Addr} {xs : List V} {v : V} (h : H l = some (.lst xs)) (hz : xs.length ≤ 100000) (q : Q .non (upd H l (.lst (xs ++ [v])))) : rAppend (.ref l) [v] H Q := ⟨l, xs, v, rfl, rfl, h, Nat.lt_of_le_of_lt hz (by decide), q⟩
theorem i_rng1v {j : Int} {R : It → Hp → Prop} {H : Hp} (h0 : 0 ≤ j) (h1 : j ≤ 1000000) (q : R (Itr 0 j.toNat) H) : ∃ j' : Int, [V.int j] = [.int j'] ∧ -(2 ^ 62) ≤ j' ∧ j' < 2 ^ 62 ∧ R (Itr 0 j'.toNat) H := ⟨j, rfl, by omega, by omega, q⟩
end Ice

set_option Elab.async false
set_option linter.all false
set_option maxRecDepth 100000
set_option maxHeartbeats 4000000
/-! A def's promise where no repr is under way (guards are none): as the layer's, with that one fact more. -/
namespace Ice
open PySem PySem.Spec PyProof.Rows L2
/-- as the layer's promise of a def, called where no repr is under way -/
structure FnG (P : Program) (w : World) (K : PySem.W.Frag) (mg : Str → Option Value) (base : Heap) (X0 : CXT) (k : Nat) (f : Addr) (fd : FuncData) (ps : List Str) (sp : Sp) : Prop where
  len : ∀ vs H Q E, sp vs H Q E → vs.length = ps.length
  run : ∀ (A : Around) (outer : List Env) (s : Shared) (H : Hp) (args : Args) (us : List Value) (vs : List V) (Q : VK) (E : XK),
    Room k A → A.guards = some [] → Env0 P w K mg base A outer s H → BindsTo s fd args (ps.zip us) → Vals vs us → sp vs H Q E →
      codeAny (model P w) A (.call (.ref f) args) (CR X0 outer P w H s Q E) s
section
variable {P : Program} {w : World} {K : PySem.W.Frag} {mg : Str → Option Value} {base : Heap} {X0 : CXT} {k j : Nat} {f : Addr} {fd : FuncData} {ps : List Str} {sp : Sp}
theorem FnG.of (F : FnOk P w K mg base X0 k f fd ps sp) : FnG P w K mg base X0 k f fd ps sp :=
  ⟨F.len, fun A outer s H args us vs Q E hr _ => F.run A outer s H args us vs Q E hr⟩
theorem FnG.mono (F : FnG P w K mg base X0 j f fd ps sp) (h : j ≤ k) : FnG P w K mg base X0 k f fd ps sp :=
  ⟨F.len, fun A outer s H args us vs Q E hr => F.run A outer s H args us vs Q E (hr.mono h)⟩
/-- a def of the text by its body, told where no repr is under way -/
theorem fn_ofG {name qual : Str} {params : Arguments} {body : List Stmt} {scope : Scope} {dV kV doc pm cdv ct oc : Value} {an od : Option Addr} {osl : Array (Option Value)} {N : List Str}
    (lk : K.lookup f = some ⟨oc, od, .func (PySem.W.fnOf name qual params body scope dV kV doc pm an cdv ct), osl⟩) (hcd : PySem.W.codeIn K cdv qual = true)
    (S : FnScope N ps scope) (len : ∀ vs H Q E, sp vs H Q E → vs.length = ps.length)
    (hbody : ∀ (A : Around) (outer : List Env) (s : Shared) (H : Hp) (vs : List V) (Q : VK) (E : XK), Room k (A.deeper (envOfC qual scope s.heap.objs.size f cdv)) → A.guards = some [] → sp vs H Q E →
      ∃ t, PSs (cxOf X0 P w K mg base N qual scope f cdv A outer s H E) body t ∧ t { nx := fun _ H' => Q .non H', rt := Q } (start N vs) H) :
    FnG P w K mg base X0 (k + 1) f (PySem.W.fnOf name qual params body scope dV kV doc pm an cdv ct) ps sp := by
  refine ⟨len, fun A outer s H args us vs Q E hr hgd e0 hb r hsp => ?_⟩
  have hl := len _ _ _ _ hsp
  have KX : K.In s.heap := e0.mod.kin.keeps (fun b o e => And.left (e0.bs b o e))
  have lim : s.heap.NoLimit := e0.mod.nolimit.keeps (fun b o e => And.left (e0.bs b o e))
  have hk2 : ∀ y ∈ ps.zip us, scope.names.lookup y.1 = some .local ∨
      (scope.names.lookup y.1 = some .cell ∧ ((cellsFrom (s.heap.objs.size + 1) scope.names []).lookup y.1).isSome = true) := by
    rintro ⟨n, v⟩ hy
    rcases S.par n (List.of_mem_zip hy).1 with q | q
    · exact Or.inl q
    · exact Or.inr ⟨q, PySem.W.cellsFrom_some _ _ _ (Or.inl q)⟩
  refine codeAny_call_function hr.depth (KX _ _ lk) rfl S.co S.gen rfl (PySem.W.codeRec_of KX hcd) (hb _ _ _ _ (wpAny_newFunctionEnv_cells S.kind hk2 (fun env he s1 x => ?_)))
  subst he
  refine And.intro (lim.keeps x.toInCall.keep) (codeAny_func ?_)
  obtain ⟨t, ht, hq⟩ := hbody A outer s H vs Q E (hr.deeper _) hgd hsp
  have I := inv_start (CX := X0) (P := P) (w := w) (K := K) (mg := mg) (base := base) (f := f) (cd := cdv) (A := A) (outer := outer) (E := E) S hr.hd e0 hl r x
  refine wpAny_mono (ht.run [] s1 (start N vs) H _ I hq) (fun fl s' hs => ?_) (fun e s' hs => hs)
  cases fl with
  | ret u => obtain ⟨v, σ', H', J, rv, q⟩ := hs; exact ⟨v, H', J.os, J.bare, J.base, J.hok, rv, q⟩
  | next => obtain ⟨σ', H', J, q⟩ := hs; exact ⟨V.non, H', J.os, J.bare, J.base, J.hok, rfl, q⟩
  | brk => obtain ⟨_, _, _, q⟩ := hs; exact q.elim
  | cont => obtain ⟨_, _, _, q⟩ := hs; exact q.elim
end
section
variable {P : Program} {w : World} {K : PySem.W.Frag} {mg : Str → Option Value} {base : Heap} {x qual : Str} {st : Stmt} {f : Addr} {fd : FuncData} {N ps : List Str} {k : Nat} {sp : Sp}
theorem okG (F : Fun K x qual st f fd) (S : FnScope N ps (defScope st)) (len : ∀ vs H Q E, sp vs H Q E → vs.length = ps.length)
    (hbody : ∀ (cdv : Value) (A : Around) (outer : List Env) (s : Shared) (H : Hp) (vs : List V) (Q : VK) (E : XK), Room k (A.deeper (envOfC qual (defScope st) s.heap.objs.size f cdv)) → A.guards = some [] → sp vs H Q E →
      ∃ t, PSs (cxOf CX0 P w K mg base N qual (defScope st) f cdv A outer s H E).nox (defBody st) t ∧ t { nx := fun _ H' => Q .non H', rt := Q } (start N vs) H) :
    FnG P w K mg base CX0 (k + 1) f fd ps sp := by
  obtain ⟨oc, od, kV, doc, pm, an, cdv, ct, osl, rfl, lk, hcd⟩ := F.ex
  refine fn_ofG lk hcd S len (fun A outer s H vs Q E hr hgd hsp => ?_)
  obtain ⟨t, h, q⟩ := hbody cdv A outer s H vs Q E hr hgd hsp
  exact ⟨t, h.nox, q⟩
theorem okGX (F : Fun K x qual st f fd) (S : FnScope N ps (defScope st)) (len : ∀ vs H Q E, sp vs H Q E → vs.length = ps.length)
    (hbody : ∀ (cdv : Value) (A : Around) (outer : List Env) (s : Shared) (H : Hp) (vs : List V) (Q : VK) (E : XK), Room k (A.deeper (envOfC qual (defScope st) s.heap.objs.size f cdv)) → A.guards = some [] → sp vs H Q E →
      ∃ t, PSs (cxOf (L2.CX P w) P w K mg base N qual (defScope st) f cdv A outer s H E) (defBody st) t ∧ t { nx := fun _ H' => Q .non H', rt := Q } (start N vs) H) :
    FnG P w K mg base (L2.CX P w) (k + 1) f fd ps sp := by
  obtain ⟨oc, od, kV, doc, pm, an, cdv, ct, osl, rfl, lk, hcd⟩ := F.ex
  exact fn_ofG lk hcd S len (fun A outer s H vs Q E hr hgd hsp => hbody cdv A outer s H vs Q E hr hgd hsp)
end
/-! ### calls of such defs -/
section
variable {X : Cx} {X0 : CXT} {k : Nat} {f C : Addr} {fd : FuncData} {ps : List Str} {sp : Sp} {dvs : List V} {ds : List Value} {E : XK} {x m : Str} {p pos apos : Pos} {e o : Expr} {es : List Expr} {ta : TE} {t : TA}
theorem run_g {pins : List (Addr × Obj)} {σ : L2.St} {H : Hp} {s : Shared} {Q : VK} {us : List Value} {vs : List V} (F : FnG X.prog X.w X.K X.mg X.base X0 k f fd ps sp) (hr : Room k X.A) (hgd : X.A.guards = some [])
    (hb : Binds X.K fd ps ds) (hd : Vals dvs ds) (hx : Passes X0 X E) (I : Inv X pins σ H s) (r : Vals vs us) (h : sp (vs ++ dvs) H Q E) :
    wpAny (model X.prog X.w) X.A (call (.ref f) us) (EP X pins σ Q) X.xe s := by
  have r2 := Vals.append r hd
  have hl : (us ++ ds).length = ps.length := (Vals.length r2).symm.trans (F.len _ _ _ _ h)
  refine wpAny_call (codeAny_mono (F.run X.A X.stack s H ⟨us, []⟩ (us ++ ds) (vs ++ dvs) Q E hr hgd I.env0 (hb s us I.kIn hl) r2 h) (fun r s' hq => ?_))
  match r, hq with
  | .error e, hq => exact hx pins σ H s e s' I hq
  | .ok (.ret u), hq => exact I.after hq
  | .ok .next, hq => exact False.elim hq
  | .ok .brk, hq => exact False.elim hq
  | .ok .cont, hq => exact False.elim hq
theorem g_call (F : FnG X.prog X.w X.K X.mg X.base X0 k f fd ps sp) (hr : Room k X.A) (hgd : X.A.guards = some []) (hg : Gl X x) (hm : X.mg x = some (.ref f)) (hk : PySem.W.keepIn X.K (.ref f) = true) (hb : Binds X.K fd ps ds) (hd : Vals dvs ds)
    (hx : Passes X0 X E) (ha : PA X (e :: es) t) (hdb : (x == ("__debug__" : Str)) = false := by decide) (he : starEach (e :: es) X.env = (false, eval e X.env) :: starEach es X.env := by rfl)
    (hpl : (backTo pos (starEach es X.env)).any (·.1) = false := by rfl) : PE X (.Call (.Name x p) (e :: es) [] pos) (tCall sp dvs E t) := by
  constructor
  intro pins s σ H Q I h
  refine wpAny_Call_Name_kw (ld_glob I hg hm (PySem.W.callWith_K (h₀ := X.base) I.ok.mod.kin hk ?_ he hpl) hdb)
  exact thn (ha.run pos pins s σ H _ I h) (fun us s1 ⟨vs, H1, I1, r, q⟩ => ⟨I1.kIn, run_g F hr hgd hb hd hx I1 r q⟩)
theorem g_call0 (F : FnG X.prog X.w X.K X.mg X.base X0 k f fd ps sp) (hr : Room k X.A) (hgd : X.A.guards = some []) (hg : Gl X x) (hm : X.mg x = some (.ref f)) (hk : PySem.W.keepIn X.K (.ref f) = true) (hb : Binds X.K fd ps ds) (hd : Vals dvs ds)
    (hx : Passes X0 X E) (hdb : (x == ("__debug__" : Str)) = false := by decide) : PE X (.Call (.Name x p) [] [] pos) (tCall sp dvs E tNil) := by
  constructor
  intro pins s σ H Q I h
  exact wpAny_Call_Name_kw (ld_glob I hg hm (PySem.W.callWith_K0 I.kIn hk (run_g (us := []) F hr hgd hb hd hx I .nil h)) hdb)
theorem g_meth {pl : Sem Bool} (he : PE X o ta) (c : Cls X.K C) (hm : Meth X.K C m f) (F : FnG X.prog X.w X.K X.mg X.base X0 k f fd ps sp) (hr : Room k X.A) (hgd : X.A.guards = some []) (hb : Binds X.K fd ps ds) (hd : Vals dvs ds)
    (hx : Passes X0 X E) (ha : PA X (e :: es) t) (hst : starEach (e :: es) X.env = (false, eval e X.env) :: starEach es X.env := by rfl) (hpl : (backTo pos (starEach es X.env)).any (·.1) = false := by rfl)
    (ht : eval (.Call (.Attribute o m apos) (e :: es) [] pos) X.env =
      (do let ov ← eval o X.env; standAt apos.atName; let (f, first) ← holding [ov] (getMethod ov m pl); callWith pos f first (backTo pos (starEach (e :: es) X.env)) (backToKw pos (keywordEach [] X.env))) := by rfl) :
    PE X (.Call (.Attribute o m apos) (e :: es) [] pos) (tMeth C m sp dvs E ta t) := by
  constructor
  intro pins s σ H Q I h
  refine PySem.W.methodCall_KW (pl := pl) (thn (he.run pins s σ H _ I h) (fun u s1 ⟨x, H1, I1, rx, a, dx, fs, ex, ea, l, q⟩ => ?_)) ht
  subst ex
  cases (show u = Value.ref a from rx)
  refine getmeth_ok I1 ea c hm l (PySem.W.callWith_K (first := [.ref a]) (h₀ := X.base) I.ok.mod.kin hm.kp ?_ hst hpl)
  exact thn (ha.run pos pins s1 σ H1 _ I1 q) (fun us s2 ⟨vs, H2, I2, r, q2⟩ => ⟨I2.kIn, run_g (us := .ref a :: us) (vs := .ref a :: vs) F hr hgd hb hd hx I2 (.cons rfl r) q2⟩)
theorem g_meth0 {pl : Sem Bool} (he : PE X o ta) (c : Cls X.K C) (hm : Meth X.K C m f) (F : FnG X.prog X.w X.K X.mg X.base X0 k f fd ps sp) (hr : Room k X.A) (hgd : X.A.guards = some []) (hb : Binds X.K fd ps ds) (hd : Vals dvs ds)
    (hx : Passes X0 X E)
    (ht : eval (.Call (.Attribute o m apos) [] [] pos) X.env =
      (do let ov ← eval o X.env; standAt apos.atName; let (f, first) ← holding [ov] (getMethod ov m pl); callWith pos f first (backTo pos (starEach [] X.env)) (backToKw pos (keywordEach [] X.env))) := by rfl) :
    PE X (.Call (.Attribute o m apos) [] [] pos) (tMeth C m sp dvs E ta tNil) := by
  constructor
  intro pins s σ H Q I h
  refine PySem.W.methodCall_KW (pl := pl) (thn (he.run pins s σ H _ I h) (fun u s1 ⟨x, H1, I1, rx, a, dx, fs, ex, ea, l, q⟩ => ?_)) ht
  subst ex
  cases (show u = Value.ref a from rx)
  exact getmeth_ok I1 ea c hm l (PySem.W.callWith_K0 (first := [.ref a]) I1.kIn hm.kp (run_g (us := [.ref a]) (vs := [.ref a]) F hr hgd hb hd hx I1 (.cons rfl .nil) q))
theorem make_guards {A : Around} {C : Addr} {us : List Value} {kw : List (Str × Value)} (h : A.guards = some []) : (A.under (.builtin "type.__call__" ⟨.ref C :: us, kw⟩)).guards = some [] := by
  show pushGuards (Code.guards (.builtin "type.__call__" ⟨.ref C :: us, kw⟩)) A.guards = some []
  rw [h]; rfl
theorem run_mk {pins : List (Addr × Obj)} {σ : L2.St} {H : Hp} {s : Shared} {Q : VK} {us : List Value} {vs : List V} (M : Mk X.K C f) (F : FnG X.prog X.w X.K X.mg X.base X0 k f fd ps sp) (hr : Room (k + 1) X.A) (hgd : X.A.guards = some [])
    (hb : Binds X.K fd ps ds) (hd : Vals dvs ds) (hx : Passes X0 X E) (I : Inv X pins σ H s) (r : Vals vs us)
    (h : ∀ x dx, H x = none → H dx = none → dx ≠ x → sp (.ref x :: (vs ++ dvs)) (upd (upd H dx (.own x)) x (.ins C dx [])) (fun v H2 => v = .non ∧ Q (.ref x) H2) E) :
    wpAny (model X.prog X.w) X.A (call (.ref C) us) (EP X pins σ Q) X.xe s := by
  have hq := h (s.heap.objs.size + 1) s.heap.objs.size (I.hok.fresh (Nat.le_succ _)) (I.hok.fresh (Nat.le_refl _)) (by simp)
  have I2 := Inv.made (C := C) I
  have r2 : Vals (V.ref (s.heap.objs.size + 1) :: (vs ++ dvs)) (Value.ref (s.heap.objs.size + 1) :: (us ++ ds)) := .cons rfl (Vals.append r hd)
  have hl : (Value.ref (s.heap.objs.size + 1) :: us ++ ds).length = ps.length := (Vals.length r2).symm.trans (F.len _ _ _ _ hq)
  have run := F.run _ X.stack _ _ ⟨Value.ref (s.heap.objs.size + 1) :: us, []⟩ (Value.ref (s.heap.objs.size + 1) :: (us ++ ds)) _ _ E (hr.make C us []) (make_guards hgd) (I2.env0.make C us [])
    (hb _ (Value.ref (s.heap.objs.size + 1) :: us) I2.kIn hl) r2 hq
  refine wpAny_call (make_map (f := f) I.kIn M.makes M.init (beq_iff_eq.mp M.fn) (codeAny_mono run (fun r s' hq' => ?_)))
  match r, hq' with
  | .error e, hq' => exact hx pins σ _ _ e s' I2 hq'
  | .ok (.ret u), hq' =>
    obtain ⟨v, H', I3, rv, ev, q3⟩ := I2.after hq'
    subst ev
    exact ⟨rv, V.ref (s.heap.objs.size + 1), H', I3, rfl, q3⟩
  | .ok .next, hq' => exact False.elim hq'
  | .ok .brk, hq' => exact False.elim hq'
  | .ok .cont, hq' => exact False.elim hq'
theorem g_make (M : Mk X.K C f) (F : FnG X.prog X.w X.K X.mg X.base X0 k f fd ps sp) (hr : Room (k + 1) X.A) (hgd : X.A.guards = some []) (hg : Gl X x) (hm : X.mg x = some (.ref C)) (hb : Binds X.K fd ps ds) (hd : Vals dvs ds) (hx : Passes X0 X E)
    (ha : PA X (e :: es) t) (hdb : (x == ("__debug__" : Str)) = false := by decide) (he : starEach (e :: es) X.env = (false, eval e X.env) :: starEach es X.env := by rfl)
    (hpl : (backTo pos (starEach es X.env)).any (·.1) = false := by rfl) : PE X (.Call (.Name x p) (e :: es) [] pos) (tMake C sp dvs E t) := by
  constructor
  intro pins s σ H Q I h
  refine wpAny_Call_Name_kw (ld_glob I hg hm (PySem.W.callWith_K (h₀ := X.base) I.ok.mod.kin M.kp ?_ he hpl) hdb)
  exact thn (ha.run pos pins s σ H _ I h) (fun us s1 ⟨vs, H1, I1, r, q⟩ => ⟨I1.kIn, run_mk M F hr hgd hb hd hx I1 r q⟩)
end
end Ice

set_option Elab.async false
set_option linter.all false
set_option maxRecDepth 100000
set_option maxHeartbeats 4000000
/-! The law's own call, where its def is told with no repr under way. -/
namespace Ice
open PySem PySem.Spec PyProof.Rows L2
section
variable {P : Program} {w : World} {K : PySem.W.Frag} {mg mb : Str → Option Value} {X0 : CXT} {k : Nat} {fa a : Addr} {fd : FuncData} {x : Str} {sp : Sp} {s : Shared} {vs : List Value} {ns : List Int}
/-- the heap at the law's entry, where at most the script at a is tracked -/
theorem law_at (KX : K.In s.heap) (hns : s.heap.Ns mainGlobals mg) (hb : s.heap.Ns builtinsNs mb) (hbb : ∀ y : Str, y ≠ "__name__" → mb y = bootBuiltins y) (hlim : s.heap.NoLimit) (hg : s.gens = #[])
    (ha : s.heap.get? a = some { cls := .type "list", data := .seq vs.toArray }) (hr : Room k callerA)
    (F : ∀ base : Heap, K.In base → base.Ns mainGlobals mg → FnG P w K mg base X0 k fa fd [x] sp) (hbind : ∀ (s : Shared) (u : Value), BindsTo s fd ⟨[u], []⟩ [(x, u)])
    (hX : ∀ H e s', X0 [] H s (fun _ _ _ => False) e s' → False) (H : Hp) (hO : Only H) (hsp : sp [.ref a] H (fun v _ => v = .bl true) fun _ _ _ => False)
    (ok : HOk P w H s.heap) (hA : ∀ b u, H b = some u → b = a) (hK : ∀ u, H a = some u → K.lookup a = none) :
    codeAny (model P w) callerA (.call (.ref fa) ⟨[.ref a], []⟩) (fun r s' => r = .ok (.ret (.bool true)) ∧ OldK s.heap s'.heap ∧ s'.os = s.os ∧ AllBare s'.gens) s := by
  -- a dict's object is not the script's
  have nd : ∀ {b : Addr} {o : Obj} {es : Array DictEntry} {ep : Nat}, s.heap.get? b = some o → o.data = .dict es ep → H b = none := by
    intro b o es ep e d
    match q : H b with
    | none => rfl
    | some u =>
      cases hA b u q
      rw [ha] at e
      cases e
      cases (show Data.seq vs.toArray _ = Data.dict es ep from d)
  have up : ∀ {b : Addr} {m : Str → Option Value}, s.heap.Ns b m → (hidT s.heap H).Ns b m := by
    rintro b m ⟨o, es, ep, e, d, r⟩
    exact ⟨o, es, ep, hidT_get e (nd e d), d, r⟩
  have KB : K.In (hidT s.heap H) := by
    intro b o e
    refine hidT_get (KX b o e) ?_
    match q : H b with
    | none => rfl
    | some u =>
      cases hA b u q
      rw [hK u q] at e
      cases e
  have md : Mod K mg (hidT s.heap H) := by
    obtain ⟨mc, l1, l2⟩ := hlim
    exact ⟨KB, up hns, ⟨mb, up hb, hbb⟩, mc, up l1, l2⟩
  have e0 : Env0 P w K mg (hidT s.heap H) callerA [] s H := by
    refine ⟨rfl, md, fun b o e => of_hidT e, Nat.le_of_eq (hidT_size _ _), trivial, ?_, ok, .of_eq hg⟩
    intro b z
    cases (show b ∈ ([] : List Addr) from z)
  have R := (F (hidT s.heap H) KB (up hns)).run callerA [] s H ⟨[.ref a], []⟩ [.ref a] [.ref a] _ _ hr rfl e0 (hbind s (.ref a)) (.cons rfl .nil) hsp
  refine codeAny_mono R ?_
  intro r s' h
  match r, h with
  | .error e, h => exact (hX H e s' h).elim
  | .ok .next, h => exact False.elim h
  | .ok .brk, h => exact False.elim h
  | .ok .cont, h => exact False.elim h
  | .ok (.ret u), h =>
    obtain ⟨v, H', os, bare, un, ok', r', q⟩ := h
    cases (show v = V.bl true from q)
    cases (show u = Value.bool true from r')
    refine ⟨rfl, OldK.of_keep ?_, os, bare⟩
    intro b o e
    match q : H b with
    | none => exact un.keep b o e q (fun z => by cases (show b ∈ ([] : List Addr) from z)) (by simp)
    | some u =>
      rcases hO b with z | ⟨ob, xs, z⟩
      · rw [q] at z; cases z
      · have e1 := (ok b _ z).1
        have e2 := (ok' b _ (un.frzs b ob _ z)).1
        rw [e] at e1
        cases e1
        exact e2
theorem law_callG (KX : K.In s.heap) (hns : s.heap.Ns mainGlobals mg) (hb : s.heap.Ns builtinsNs mb) (hbb : ∀ y : Str, y ≠ "__name__" → mb y = bootBuiltins y) (hlim : s.heap.NoLimit) (hg : s.gens = #[])
    (ha : s.heap.get? a = some { cls := .type "list", data := .seq vs.toArray }) (hi : IntsAre vs ns) (hl : ns.length ≤ sizeLine) (hr : Room k callerA)
    (F : ∀ base : Heap, K.In base → base.Ns mainGlobals mg → FnG P w K mg base X0 k fa fd [x] sp) (hbind : ∀ (s : Shared) (u : Value), BindsTo s fd ⟨[u], []⟩ [(x, u)])
    (hsp : ∀ H : Hp, Only H → SqL K H a (ns.map V.int) → sp [.ref a] H (fun v _ => v = .bl true) fun _ _ _ => False) (hX : ∀ H e s', X0 [] H s (fun _ _ _ => False) e s' → False) :
    codeAny (model P w) callerA (.call (.ref fa) ⟨[.ref a], []⟩) (fun r s' => r = .ok (.ret (.bool true)) ∧ OldK s.heap s'.heap ∧ s'.os = s.os ∧ AllBare s'.gens) s := by
  have rv := vals_ints hi
  have lv : vs.length = ns.length := hi.length
  match hk : K.lookup a with
  | some o =>
    have e := KX a o hk
    rw [ha] at e
    cases e
    have hS : SqL K (fun _ => none) a (ns.map V.int) := .inr ⟨_, vs.toArray, _, hk, rfl, rfl, rfl, (by rw [List.size_toArray, lv]; exact hl), by simpa using rv⟩
    have z : ∀ (b : Addr) (u : HO), ((fun _ => none : Hp) b = some u) → False := fun _ _ h => by cases h
    exact law_at KX hns hb hbb hlim hg ha hr F hbind hX _ (fun _ => .inl rfl) (hsp _ (fun _ => .inl rfl) hS) (fun b u q => (z b u q).elim) (fun b u q => (z b u q).elim) (fun u q => (z a u q).elim)
  | none =>
    let o : HO := .frz { cls := .type "list", data := .seq vs.toArray } (.lst (ns.map V.int))
    let H : Hp := fun b => if b = a then some o else none
    have at_a : H a = some o := if_pos rfl
    have only : ∀ b u, H b = some u → b = a ∧ u = o := by
      intro b u q
      by_cases e : b = a
      · subst e; rw [at_a] at q; exact ⟨rfl, (Option.some.inj q).symm⟩
      · rw [show H b = none from if_neg e] at q; cases q
    have hO : Only H := by
      intro b
      by_cases e : b = a
      · subst e; exact .inr ⟨_, _, at_a⟩
      · exact .inl (if_neg e)
    have hok : HOk P w H s.heap := by
      intro b u q
      obtain ⟨rfl, rfl⟩ := only b u q
      exact ⟨ha, by rw [List.length_map]; exact hl, vs, _, rv, ha⟩
    exact law_at KX hns hb hbb hlim hg ha hr F hbind hX H hO (hsp H hO (.inl (.inr ⟨_, at_a⟩))) hok (fun b u q => (only b u q).1) (fun _ _ => hk)
end
/-- the end of a law, with the bits of its script told -/
theorem walkG {l : PySem.W.OpenLaw} {n k : Nat} {q : Program} {loose : List Str} {XP : (Str → Option Value) → Heap → Prop} {YP : World → Heap → Prop} {d : DefRec} {K : Params → PySem.W.Frag} {sp : PySem.W.Frag → Sp} {x : Str}
    (hn : l.most = some n) (hn2 : n ≤ sizeLine) (hdf : d.params.defaults = []) (hr : Room k callerA) (hY : ∀ (w : World) (h : Heap), YP w h → (K w.params).In h)
    (F : ∀ (w : World) (mg : Str → Option Value) (fa : Addr) (h : Heap), (K w.params).In h → h.Ns mainGlobals mg → mg d.name = some (.ref fa) →
      ∃ fd : FuncData, (∀ (s : Shared) (u : Value), BindsTo s fd ⟨[u], []⟩ [(x, u)]) ∧
        ∀ base : Heap, (K w.params).In base → base.Ns mainGlobals mg → FnG l.prog w (K w.params) mg base CX0 k fa fd [x] (sp (K w.params)))
    (hsp : ∀ (K : PySem.W.Frag) (H : Hp) (a : Addr) (ns : List Int), ns.length ≤ n → (∀ z ∈ ns, Builtin.Int.intBits z ≤ 1048576) → Only H → SqL K H a (ns.map V.int) → sp K [.ref a] H (fun v _ => v = .bl true) fun _ _ _ => False) :
    PySem.W.WalkO q loose XP YP l.row.toRowW d [] (fun f vs => PySem.call f vs) := by
  refine Att.attach_callB hn hdf (fun w s₀ s₁ mg mb fa o pm cd doc a vs ns G Y ho hd hcd hmg hobj hints hlen hbits hg => ?_)
  obtain ⟨fd, hb, hF⟩ := F w mg fa _ (hY w _ Y) G.T.g hmg
  exact law_callG (hY w _ Y) G.T.g G.T.b G.T.builtins G.T.nolimit hg hobj hints (Nat.le_trans hlen hn2) hr hF hb (fun H hO hS => hsp _ H a ns hlen hbits hO hS) (fun H e s' h => h)
end Ice

set_option Elab.async false
set_option linter.all false
set_option maxRecDepth 100000
set_option maxHeartbeats 4000000
/-! repr of data at any depth, dicts of plain things within tuples among them. -/
namespace Ice
open PySem PySem.Spec PyProof.Rows L2
/-- a plain thing -/
inductive Ds : V → PyData → Prop
  | non : Ds .non .none
  | bl (b : Bool) : Ds (.bl b) (.bool b)
  | int (i : Int) : Ds (.int i) (.int i)
  | str (x : Str) : Ds (.str x) (.str x)
def kD : Key → PyData
  | .inl i => .int i
  | .inr x => .str x
mutual
/-- data without lists; dicts hold plain things -/
inductive Dd (K : PySem.W.Frag) (H : Hp) : V → PyData → Prop
  | sc {v : V} {d : PyData} : Ds v d → Dd K H v d
  | tup {a : Addr} {xs : List V} {ds : List PyData} : SqT K H a xs → DdAll K H xs ds → Dd K H (.ref a) (.tuple ds)
  | dct {a : Addr} {kvs : List (Key × V)} {ds : List PyData} : H a = some (.dK kvs) → Paired Ds (kvs.map (·.2)) ds → Dd K H (.ref a) (.dict ((kvs.map fun kv => kD kv.1).zip ds))
inductive DdAll (K : PySem.W.Frag) (H : Hp) : List V → List PyData → Prop
  | nil : DdAll K H [] []
  | cons {v : V} {vs : List V} {d : PyData} {ds : List PyData} : Dd K H v d → DdAll K H vs ds → DdAll K H (v :: vs) (d :: ds)
end
theorem Ds.reads {h : Heap} {v : V} {u : Value} {d : PyData} (s : Ds v d) (r : RelV v u) : Reads h u d [] := by
  cases s with
  | non => cases (show u = .none from r); exact .none
  | bl b => cases (show u = .bool b from r); exact .bool b
  | int i => obtain ⟨t, rfl⟩ := (show ∃ t, u = .int i t from r); exact .int i t
  | str x => obtain ⟨t, rfl⟩ := (show ∃ t, u = .str x t from r); exact .str x t
theorem Ds.readsAll {h : Heap} : ∀ {vs : List V} {us : List Value} {ds : List PyData}, Paired Ds vs ds → Vals vs us → ReadsAll h us ds []
  | [], _, _, .nil, .nil => .nil
  | _ :: _, _, _, .cons s t, .cons r q => .cons (Ds.reads s r) (Ds.readsAll t q)
theorem kD_reads {h : Heap} {k : Key} {u : Value} (e : keyIs k u = true) : Reads h u (kD k) [] := by
  rcases keyIs_shape e with ⟨i, t, rfl, rfl⟩ | ⟨x, t, rfl, rfl⟩
  · exact .int i t
  · exact .str x t
theorem kv_reads {P : Program} {w : World} {h : Heap} {es : List DictEntry} {us : List (Key × Value)} (p : Pairs (mixKind P w) es us) : ∀ (kvs : List (Key × V)) (ds : List PyData), KV kvs us → Paired Ds (kvs.map (·.2)) ds →
    ReadsAll h (es.map (·.key)) (((kvs.map fun kv => kD kv.1).zip ds).map (·.1)) [] ∧ ReadsAll h (es.map (·.val)) (((kvs.map fun kv => kD kv.1).zip ds).map (·.2)) [] := by
  induction p with
  | nil =>
    intro kvs ds hk hd
    cases kvs with
    | cons _ _ => cases hk
    | nil => exact ⟨.nil, .nil⟩
  | @cons e u es us h1 h2 h3 ih =>
    intro kvs ds hk hd
    cases kvs with
    | nil => cases hk
    | cons kv kvs =>
      cases hk with
      | cons e1 hk =>
        cases ds with
        | nil => cases hd
        | cons d ds =>
          cases hd with
          | cons s1 hd =>
            obtain ⟨r1, r2⟩ := ih kvs ds hk hd
            have k1 : keyIs kv.1 e.key = true := by rw [e1.1]; exact h1
            have v1 : RelV kv.2 e.val := by rw [h2]; exact e1.2
            exact ⟨ReadsAll.cons (as := []) (kD_reads k1) r1, ReadsAll.cons (as := []) (Ds.reads s1 v1) r2⟩
section
variable {X : Cx} {pins : List (Addr × Obj)} {σ : L2.St} {H : Hp} {s : Shared}
mutual
theorem Dd.reads (I : Inv X pins σ H s) : ∀ (d : PyData) (v : V) (u : Value), Dd X.K H v d → RelV v u → ∃ as, Reads s.heap u d as ∧ sysModules ∉ as
  | d, v, u, .sc z, r => ⟨[], z.reads r, by simp⟩
  | .tuple ds, _, u, .tup (a := a) hs ha, r => by
    cases (show u = .ref a from r)
    obtain ⟨its, rv, ⟨o, ho, hc, n, hd⟩, _⟩ := I.tuple hs
    obtain ⟨as, hr, hn⟩ := Dd.readsAll I ds _ its ha rv
    exact ⟨as, Reads.tuple ho hc hd hr, hn⟩
  | .dict _, _, u, .dct (a := a) (kvs := kvs) hk hd, r => by
    cases (show u = .ref a from r)
    obtain ⟨_, hn, us, rv, o, es, ep, e1, e2, e3, _, e4, _⟩ := I.hok a _ hk
    obtain ⟨r1, r2⟩ := kv_reads (h := s.heap) e4 _ _ rv hd
    refine ⟨_, Reads.dict (n := ep) e1 e2.1 e3 r1 r2, ?_⟩
    intro z
    have : sysModules = a := by simpa using z
    rw [this] at hn
    simp at hn
theorem Dd.readsAll (I : Inv X pins σ H s) : ∀ (ds : List PyData) (vs : List V) (us : List Value), DdAll X.K H vs ds → Vals vs us → ∃ as, ReadsAll s.heap us ds as ∧ sysModules ∉ as
  | [], _, _, .nil, .nil => ⟨_, .nil, by simp⟩
  | d :: ds, _, _, .cons h1 h2, .cons r1 r2 => by
    obtain ⟨as, q1, n1⟩ := Dd.reads I d _ _ h1 r1
    obtain ⟨bs, q2, n2⟩ := Dd.readsAll I ds _ _ h2 r2
    exact ⟨_, .cons q1 q2, by simp [n1, n2]⟩
end
mutual
theorem Dp.noDict {K : PySem.W.Frag} {H : Hp} : ∀ (d : PyData) (v : V), Dp K H v d → d.hasDict = false
  | .none, _, _ => rfl
  | .bool _, _, _ => rfl
  | .int _, _, _ => rfl
  | .str _, _, _ => rfl
  | .list ds, _, h => by
    cases h with
    | lst hs ha => exact Dp.noDictAll ds _ ha
  | .tuple ds, _, h => by
    cases h with
    | tup hs ha => exact Dp.noDictAll ds _ ha
  | .dict _, _, h => by cases h
theorem Dp.noDictAll {K : PySem.W.Frag} {H : Hp} : ∀ (ds : List PyData) (vs : List V), DpAll K H vs ds → PyData.hasDictAll ds = false
  | [], _, _ => rfl
  | d :: ds, _, h => by
    cases h with
    | cons h1 h2 => rw [PyData.hasDictAll, Dp.noDict d _ h1, Dp.noDictAll ds _ h2]; rfl
end
end
/-- what repr tells -/
def Rp (K : PySem.W.Frag) (H : Hp) (v : V) (d : PyData) : Prop := (Dp K H v d ∨ Dd K H v d) ∧ d.showable = true ∧ d.depth ≤ 100 ∧ d.shown.length ≤ sizeLine
def rRepr (K : PySem.W.Frag) : List V → Hp → VK → Prop := fun xs H Q => ∃ v d, xs = [v] ∧ Rp K H v d ∧ Q (.str d.shown) H
theorem i_repr {K : PySem.W.Frag} {H : Hp} {Q : VK} {v : V} {d : PyData} (h : Rp K H v d) (q : Q (.str d.shown) H) : rRepr K [v] H Q := ⟨v, d, rfl, h, q⟩
section
variable {X : Cx}
theorem c_repr (hgd : X.A.guards = some []) (hu : X.A.units + 110 < cLine) : CallR X (.builtin "repr") (rRepr X.K) := by
  intro pins s σ H xs us Q I r h
  obtain ⟨v, d, rfl, ⟨hD, hs, hp, hz⟩, q⟩ := h
  obtain ⟨u, rfl, rx⟩ := vals1 r
  have red : ∃ as, Reads s.heap u d as ∧ (d.hasDict = true → sysModules ∉ as) := by
    rcases hD with hD | hD
    · obtain ⟨as, h1⟩ := Dp.reads I d v u hD rx
      exact ⟨as, h1, fun z => by rw [Dp.noDict d v hD] at z; cases z⟩
    · obtain ⟨as, h1, h2⟩ := Dd.reads I d v u hD rx
      exact ⟨as, h1, fun _ => h2⟩
  obtain ⟨as, rd, hsm⟩ := red
  have fin : ∀ (tk : Nat), EP X pins σ Q (.str d.shown s.toks) { s with toks := tk } := fun tk => ⟨.str d.shown, H, I.tok _, ⟨_, rfl⟩, q⟩
  cases rd with
  | none => exact P.repr_of_none (fin _)
  | bool b => exact P.repr_of_bool (fin _)
  | int i t => exact P.repr_of_int (of_decide_eq_true hs) (fin _)
  | str x t => exact P.repr_of_str (fin _) hz
  | list h1 h2 h3 h4 => exact repr_of_reads' (.list h1 h2 h3 h4) hs hsm hgd (by omega) (fun _ _ e => e) (fun h' t tk hk => ⟨.str _, H, I.kept hk, ⟨_, rfl⟩, q⟩) hz
  | tuple h1 h2 h3 h4 => exact repr_of_reads' (.tuple h1 h2 h3 h4) hs hsm hgd (by omega) (fun _ _ e => e) (fun h' t tk hk => ⟨.str _, H, I.kept hk, ⟨_, rfl⟩, q⟩) hz
  | dict h1 h2 h3 h4 h5 => exact repr_of_reads' (.dict h1 h2 h3 h4 h5) hs hsm hgd (by omega) (fun _ _ e => e) (fun h' t tk hk => ⟨.str _, H, I.kept hk, ⟨_, rfl⟩, q⟩) hz
end
section
variable {K : PySem.W.Frag} {H : Hp}
theorem Rp.int {i : Int} (h : i.natAbs.log2 < 1920) : Rp K H (.int i) (.int i) := ⟨.inl (.int i), decide_eq_true h, Nat.zero_le _, int_text_fits h⟩
theorem Rp.non : Rp K H .non .none := ⟨.inl .non, rfl, by decide, by decide +kernel⟩
theorem Rp.bl (b : Bool) : Rp K H (.bl b) (.bool b) := ⟨.inl (.bl b), rfl, Nat.zero_le _, by cases b <;> decide +kernel⟩
end
end Ice
namespace Ice
open PySem PySem.Spec PyProof.Rows L2
/-! ### what is told stays told -/
section
variable {K : PySem.W.Frag} {H H' : Hp}
theorem SqL.same (s : Same H H') {a : Addr} {xs : List V} (h : SqL K H a xs) : SqL K H' a xs := s.seq h
theorem SqT.same (s : Same H H') {a : Addr} {xs : List V} (h : SqT K H a xs) : SqT K H' a xs := by
  rcases h with (h | ⟨o, h⟩) | h
  · exact .inl (.inl (s _ _ h))
  · exact .inl (.inr ⟨o, s _ _ h⟩)
  · exact .inr h
mutual
theorem Dp.same (s : Same H H') : ∀ (d : PyData) (v : V), Dp K H v d → Dp K H' v d
  | .none, _, h => by cases h; exact .non
  | .bool _, _, h => by cases h; exact .bl _
  | .int _, _, h => by cases h; exact .int _
  | .str _, _, h => by cases h; exact .str _
  | .list ds, _, h => by
    cases h with
    | lst hs ha => exact .lst (SqL.same s hs) (Dp.sameAll s ds _ ha)
  | .tuple ds, _, h => by
    cases h with
    | tup hs ha => exact .tup (SqT.same s hs) (Dp.sameAll s ds _ ha)
  | .dict _, _, h => by cases h
theorem Dp.sameAll (s : Same H H') : ∀ (ds : List PyData) (vs : List V), DpAll K H vs ds → DpAll K H' vs ds
  | [], _, h => by cases h; exact .nil
  | d :: ds, _, h => by
    cases h with
    | cons h1 h2 => exact .cons (Dp.same s d _ h1) (Dp.sameAll s ds _ h2)
end
mutual
theorem Dd.same (s : Same H H') : ∀ (d : PyData) (v : V), Dd K H v d → Dd K H' v d
  | _, _, .sc z => .sc z
  | .tuple ds, _, .tup hs ha => .tup (SqT.same s hs) (Dd.sameAll s ds _ ha)
  | .dict _, _, .dct hk hd => .dct (s _ _ hk) hd
theorem Dd.sameAll (s : Same H H') : ∀ (ds : List PyData) (vs : List V), DdAll K H vs ds → DdAll K H' vs ds
  | [], _, .nil => .nil
  | d :: ds, _, .cons h1 h2 => .cons (Dd.same s d _ h1) (Dd.sameAll s ds _ h2)
end
theorem Rp.same (s : Same H H') {v : V} {d : PyData} (h : Rp K H v d) : Rp K H' v d :=
  ⟨h.1.imp (Dp.same s d v) (Dd.same s d v), h.2⟩
theorem Rp.str {x : Str} (hl : x.length ≤ 1000) (hc : ∀ c ∈ x.cps.toList, c < 128) : Rp K H (.str x) (.str x) := by
  refine ⟨.inl (.str x), rfl, Nat.zero_le _, ?_⟩
  have b := PySem.StrLaws.reprText_len x (fun c h => Nat.lt_trans (hc c h) (by decide))
  show (reprText x).length ≤ _
  exact sz_of (by omega)
end
end Ice

set_option Elab.async false
set_option linter.all false
set_option maxRecDepth 100000
set_option maxHeartbeats 4000000
set_option autoImplicit false
/-! Texts: walked sign by sign, compared, joined, cut, repeated. -/
namespace Ice
open PySem PySem.Spec PyProof.Rows L2 TL
theorem tl_len (x : Str) : (tl x).length = x.length := by show x.cps.toList.length = x.cps.size; simp
/-- a for over a text's signs -/
theorem for_text {x : Str} {g : TG} {tb : TS} {D : Ends} {σ : L2.St} {H : Hp} (Pv : Nat → L2.St → Hp → Prop) (h0 : Pv 0 σ H)
    (hs : ∀ i c σ H, (tl x)[i]? = some c → Pv i σ H → g (.str ⟨#[c]⟩) σ H fun σ2 H2 => tb { D with nx := Pv (i + 1), ct := Pv (i + 1), bk := D.nx } σ2 H2) (hd : ∀ σ H, Pv (tl x).length σ H → D.nx σ H) :
    ∃ W : Nat → Nat → L2.St → Hp → Prop, (∃ m, W 0 m σ H) ∧ ∀ i m σ H, W i m σ H →
      ((Its x).stop i H ∧ D.nx σ H) ∨ ((Its x).go i H ∧ ∃ N : L2.St → Hp → Prop, (∀ σ' H', N σ' H' → ∃ m', m' < m ∧ W (i + 1) m' σ' H') ∧ ∀ v H', (Its x).yld i H v H' → g v σ H' fun σ2 H2 => tb { D with nx := N, ct := N, bk := D.nx } σ2 H2) := by
  have sz : (tl x).length = x.cps.size := by show x.cps.toList.length = _; simp
  refine ⟨fun i m σ H => m = (tl x).length - i ∧ i ≤ (tl x).length ∧ Pv i σ H, ⟨(tl x).length, by simp, Nat.zero_le _, h0⟩, ?_⟩
  rintro i m σ H ⟨rfl, hi, p⟩
  by_cases lt : i < (tl x).length
  · refine .inr ⟨by show i < x.cps.size; omega, Pv (i + 1), fun σ' H' p' => ⟨(tl x).length - (i + 1), by omega, rfl, lt, p'⟩, ?_⟩
    rintro v H' ⟨rfl, c, hc, rfl⟩
    exact hs i c σ H' (by show x.cps.toList[i]? = some c; rw [Array.getElem?_toList]; exact hc) p
  · have e : i = (tl x).length := by omega
    subst e
    exact .inl ⟨by show x.cps.size ≤ _; omega, hd σ H p⟩
/-- a comprehension over a text's signs -/
theorem lc_text {x : Str} {g : TG} {tt : TT} {te : TE} {vs : List Nat} {σ : L2.St} {H1 : Hp} {D : Addr} {Qd : Hp → Prop} (Pv : Nat → Hp → Prop) (h0 : Pv 0 (upd H1 D (.lst [])))
    (hs : ∀ i c H, (tl x)[i]? = some c → Pv i H → g (.str ⟨#[c]⟩) (wipe σ vs) H fun σ2 H2 => wipe σ2 vs = wipe σ vs ∧ tt σ2 H2 fun b H3 =>
      if b = true then te σ2 H3 fun y H4 => ∃ acc, H4 D = some (.lst acc) ∧ acc.length < sizeLine ∧ Pv (i + 1) (upd H4 D (.lst (acc ++ [y]))) else Pv (i + 1) H3) (hd : ∀ H, Pv (tl x).length H → Qd H) :
    ∃ W : Nat → Nat → Hp → Prop, (∃ m, W 0 m (upd H1 D (.lst []))) ∧ ∀ i m H, W i m H →
      ((Its x).stop i H ∧ Qd H) ∨ ((Its x).go i H ∧ ∃ Nx : Hp → Prop, (∀ H', Nx H' → ∃ m', m' < m ∧ W (i + 1) m' H') ∧ ∀ v H', (Its x).yld i H v H' → g v (wipe σ vs) H' fun σ2 H2 => wipe σ2 vs = wipe σ vs ∧ tt σ2 H2 fun b H3 =>
        if b = true then te σ2 H3 fun y H4 => ∃ acc, H4 D = some (.lst acc) ∧ acc.length < sizeLine ∧ Nx (upd H4 D (.lst (acc ++ [y]))) else Nx H3) := by
  have sz : (tl x).length = x.cps.size := by show x.cps.toList.length = _; simp
  refine ⟨fun i m H => m = (tl x).length - i ∧ i ≤ (tl x).length ∧ Pv i H, ⟨(tl x).length, by simp, Nat.zero_le _, h0⟩, ?_⟩
  rintro i m H ⟨rfl, hi, p⟩
  by_cases lt : i < (tl x).length
  · refine .inr ⟨by show i < x.cps.size; omega, Pv (i + 1), fun H' p' => ⟨(tl x).length - (i + 1), by omega, rfl, lt, p'⟩, ?_⟩
    rintro v H' ⟨rfl, c, hc, rfl⟩
    exact hs i c H' (by show x.cps.toList[i]? = some c; rw [Array.getElem?_toList]; exact hc) p
  · have e : i = (tl x).length := by omega
    subst e
    exact .inl ⟨by show x.cps.size ≤ _; omega, hd H p⟩
/-! ### joined with nothing between -/
theorem joinL_nil : ∀ ps : List (List Nat), joinL [] ps = ps.flatten
  | [] => rfl
  | [p] => by simp [joinL]
  | p :: q :: r => by
    show p ++ ([] ++ joinL [] (q :: r)) = _
    rw [joinL_nil (q :: r)]
    simp
theorem tl_joined {e : Str} (he : tl e = []) (ys : List Str) : tl (Txt.join e ys) = (ys.map tl).flatten := by rw [join_eq, tl_join, he, joinL_nil]
theorem flat_ones : ∀ (ys : List Str), (∀ y ∈ ys, y.length = 1) → ((ys.map tl).flatten).length = ys.length
  | [], _ => rfl
  | y :: ys, h => by
    have h1 := h y (List.mem_cons_self ..)
    rw [List.map_cons, List.flatten_cons, List.length_append, tl_len, h1, flat_ones ys fun z hz => h z (List.mem_cons_of_mem _ hz), List.length_cons]
    omega
theorem len_joined {e : Str} (he : tl e = []) {ys : List Str} (h : ∀ y ∈ ys, y.length = 1) : (Txt.join e ys).length = ys.length := by rw [← tl_len, tl_joined he, flat_ones ys h]
theorem sum_ones : ∀ {ys : List Str}, (∀ y ∈ ys, y.length = 1) → (ys.map (·.length)).sum = ys.length
  | [], _ => rfl
  | y :: ys, h => by
    rw [List.map_cons, List.sum_cons, h y (List.mem_cons_self ..), sum_ones fun z hz => h z (List.mem_cons_of_mem _ hz), List.length_cons]
    omega
/-! ### cut, put together -/
theorem len_add (x y : Str) : (x ++ y).length = x.length + y.length := by rw [← tl_len, tl_append, List.length_append, tl_len, tl_len]
theorem tl_cut (z : Str) (lo hi : Option Int) : tl (cutS z lo hi) = ((tl z).drop (HT.sIx z.length 0 lo)).take (HT.sIx z.length z.length hi - HT.sIx z.length 0 lo) := rfl
theorem tl_cut_to (z : Str) (k : Nat) : tl (cutS z none (some (k : Int))) = (tl z).take k := by
  rw [tl_cut, HT.sIx_none, HT.sIx_nat, List.drop_zero, Nat.sub_zero]
  by_cases h : k ≤ z.length
  · rw [Nat.min_eq_left h]
  · rw [Nat.min_eq_right (by omega), List.take_of_length_le (by rw [tl_len]; omega), List.take_of_length_le (by rw [tl_len]; omega)]
theorem tl_cut_from (z : Str) (k : Nat) : tl (cutS z (some (k : Int)) none) = (tl z).drop k := by
  rw [tl_cut, HT.sIx_none, HT.sIx_nat]
  by_cases h : k ≤ z.length
  · rw [Nat.min_eq_left h, List.take_of_length_le (by rw [List.length_drop, tl_len]; omega)]
  · rw [Nat.min_eq_right (by omega), List.drop_of_length_le (by rw [tl_len]; omega), List.drop_of_length_le (by rw [tl_len]; omega)]
    simp
theorem len_cut_to (z : Str) (k : Nat) : (cutS z none (some (k : Int))).length = min k z.length := by rw [← tl_len, tl_cut_to, List.length_take, tl_len]
theorem len_cut_from (z : Str) (k : Nat) : (cutS z (some (k : Int)) none).length = z.length - k := by rw [← tl_len, tl_cut_from, List.length_drop, tl_len]
/-! ### items -/
theorem atI_some {α : Type} {xs : List α} {i : Int} (h0 : 0 ≤ i) (h1 : i < xs.length) : ∃ v, atI xs i = some v ∧ v ∈ xs ∧ xs[i.toNat]? = some v := by
  obtain ⟨k, rfl⟩ := Int.eq_ofNat_of_zero_le h0
  have hk : k < xs.length := by omega
  exact ⟨xs[k], atI_nat (List.getElem?_eq_getElem hk), List.getElem_mem _, by simp [List.getElem?_eq_getElem hk]⟩
/-! ### rules -/
def repS (x : Str) (k : Int) : Str := ⟨((List.replicate k.toNat (tl x)).flatten).toArray⟩
theorem tl_rep (x : Str) (k : Int) : tl (repS x k) = (List.replicate k.toNat (tl x)).flatten := by show ((List.replicate k.toNat (tl x)).flatten).toArray.toList = _; simp
theorem len_rep (x : Str) (k : Int) : (repS x k).length = k.toNat * x.length := by rw [← tl_len, tl_rep, List.length_flatten, List.map_replicate, List.sum_replicate_nat, tl_len]
def rMulT : R2 := fun x y H Q => ∃ i k, x = .str i ∧ y = .int k ∧ 0 ≤ k ∧ k ≤ 1000 ∧ i.length ≤ 1000 ∧ Q (.str (repS i k)) H
def rFind : V → List V → Hp → VK → Prop := fun x xs H Q => ∃ a b, x = .str a ∧ xs = [.str b] ∧ Q (.int (Txt.find a b)) H
def rJoin (K : PySem.W.Frag) : V → List V → Hp → VK → Prop := fun x xs H Q => ∃ a p, ∃ ys : List Str, x = .str a ∧ xs = [.ref p] ∧ (SqL K H p (ys.map V.str) ∨ SqT K H p (ys.map V.str)) ∧ (ys.map (·.length)).sum + ys.length * a.length ≤ 16777216 ∧ Q (.str (Txt.join a ys)) H
def rLeT : R2 := fun x y H Q => ∃ i j, x = .str i ∧ y = .str j ∧ Q (.bl (!decide (j.cps.toList < i.cps.toList))) H
def rIsBl : R2 := fun x y H Q => ∃ b, y = .bl b ∧ Q (.bl (decide (x = .bl b))) H
theorem fold_flat : ∀ (l : List (Array Nat)) (acc : Array Nat), (l.foldl (· ++ ·) acc).toList = acc.toList ++ (l.map (·.toList)).flatten
  | [], acc => by simp
  | a :: l, acc => by rw [List.foldl_cons, fold_flat l, Array.toList_append, List.map_cons, List.flatten_cons, List.append_assoc]
theorem rep_fold (x : Str) (k : Int) : (⟨(List.replicate k.toNat x.cps).foldl (· ++ ·) #[]⟩ : Str) = repS x k := by
  have e : ((List.replicate k.toNat x.cps).foldl (· ++ ·) #[]) = ((List.replicate k.toNat (tl x)).flatten).toArray := by
    apply Array.toList_inj.mp
    rw [fold_flat, List.map_replicate]
    simp
  rw [e]
  rfl
section
variable {X : Cx} {H : Hp} {Q : VK} {K : PySem.W.Frag}
theorem o_leT : OpR X (compareOp .LtE) rLeT := op_le_str
theorem m_join : MtR X "str.join" (rJoin X.K) := mt_join
theorem m_find : MtR X "str.find" rFind := mt_find
theorem c_isi : CallR X (.builtin "isinstance") (rIsi X.K) := call_isi
theorem c_intS : CallR X (.type "int") (fun xs H Q => ∃ a n, xs = [.str a] ∧ PySem.intText? a = some n ∧ a.length ≤ 640 ∧ Q (.int n) H) := call_int_str
theorem o_mulT : OpR X (binaryOp .Mult) rMulT := by
  intro pins s σ H x y v u Q I rx ry h
  obtain ⟨i, k, rfl, rfl, h0, h1, hz, q⟩ := h
  obtain ⟨t, rfl⟩ := rx
  obtain ⟨t', rfl⟩ := ry
  have big : i.length * k.toNat ≤ 1000 * 1000 := Nat.mul_le_mul hz (by omega)
  have lim : (1000 : Int) * 1000 ≤ (2 ^ 63 - 1) := by decide
  refine PySem.P.mul_str ?_ ?_ ?_ ?_
  · rw [decide_eq_false (by omega), decide_eq_false (by omega)]; rfl
  · intro h2 _ h3
    have k0 : 0 < k := by omega
    have a1 : (i.length : Int) * k ≤ 1000 * 1000 := Int.mul_le_mul (by omega) h1 (by omega) (by omega)
    have a2 : (2 ^ 63 - 1 : Int) / k < i.length := h3
    have a3 : (2 ^ 63 - 1 : Int) < i.length * k := Int.lt_mul_of_ediv_lt k0 a2
    omega
  · intro _ _
    unfold Builtin.Str.tooLong
    exact decide_eq_false (by rw [sizeLine_eq]; omega)
  · have fin : ∀ (z : Str) (tk1 tk2 : Nat), z = repS i k → EP X pins σ Q (.str z tk1) { s with toks := tk2 } := fun z a b e => ⟨.str z, H, I.tok _, ⟨_, rfl⟩, by rw [e]; exact q⟩
    by_cases k1 : k < 1
    · rw [if_pos k1]
      have k0 : k = 0 := by omega
      exact ⟨by decide, fin _ _ _ (by subst k0; rfl)⟩
    · rw [if_neg k1]
      by_cases k2 : (k == 1 || i.length == 0) = true
      · rw [if_pos k2]
        refine fin i t s.toks ?_
        rw [← mk_tl i]
        show _ = (⟨((List.replicate k.toNat (tl i)).flatten).toArray⟩ : Str)
        rcases Bool.or_eq_true _ _ ▸ k2 with e | e
        · rw [beq_iff_eq.mp e]; simp
        · have e0 : tl i = [] := List.eq_nil_of_length_eq_zero (by rw [tl_len]; exact beq_iff_eq.mp e)
          rw [e0]; simp
      · rw [if_neg k2]
        refine ⟨?_, fin _ _ _ (rep_fold i k)⟩
        rw [rep_fold]
        rw [len_rep, sizeLine_eq]
        have : k.toNat * i.length ≤ 1000 * 1000 := Nat.mul_le_mul (by omega) hz
        omega
theorem o_isB : OpR X (compareOp .Is) rIsBl := by
  intro pins s σ H x y v u Q I rx ry h
  obtain ⟨b, rfl, q⟩ := h
  cases (show u = Value.bool b from ry)
  by_cases e : x = .bl b
  · subst e
    cases (show v = Value.bool b from rx)
    exact wpAny_is_self rfl ⟨.bl true, H, I, rfl, by simpa using q⟩
  · have q' : Q (.bl false) H := by simpa [e] using q
    have fin : ∀ s', s' = s → EP X pins σ Q (.bool false) s' := fun s' z => ⟨.bl false, H, z ▸ I, rfl, q'⟩
    cases x with
    | bl c => cases (show v = Value.bool c from rx); exact wpAny_is_other rfl (fun z => e (by cases z; rfl)) (fin _ rfl)
    | non => cases (show v = Value.none from rx); exact wpAny_is_other rfl (fun z => by cases z) (fin _ rfl)
    | int i => obtain ⟨t, rfl⟩ := (show ∃ t, v = Value.int i t from rx); exact wpAny_is_other rfl (fun z => by cases z) (fin _ rfl)
    | str i => obtain ⟨t, rfl⟩ := (show ∃ t, v = Value.str i t from rx); exact wpAny_is_other rfl (fun z => by cases z) (fin _ rfl)
    | byt i => obtain ⟨t, rfl⟩ := (show ∃ t, v = Value.bytes i t from rx); exact wpAny_is_other rfl (fun z => by cases z) (fin _ rfl)
    | flt i => obtain ⟨t, rfl⟩ := (show ∃ t, v = Value.float i t from rx); exact wpAny_is_other rfl (fun z => by cases z) (fin _ rfl)
    | ref a => cases (show v = Value.ref a from rx); exact wpAny_is_other rfl (fun z => by cases z) (fin _ rfl)
    | ty n => cases (show v = Value.type n from rx); exact wpAny_is_other rfl (fun z => by cases z) (fin _ rfl)
theorem i_isi {v : V} {n m : String} {b : Bool} (h : TyX K H v (.type n)) (e : kitB n m = some b) (q : Q (.bl b) H) : rIsi K [v, .ty m] H Q := ⟨v, .ty m, .type n, .type m, b, rfl, .ty m, h, kit_ty e, q⟩
theorem i_mulT {i : Str} {k : Int} (h0 : 0 ≤ k) (h1 : k ≤ 1000) (hz : i.length ≤ 1000) (q : Q (.str (repS i k)) H) : rMulT (.str i) (.int k) H Q := ⟨i, k, rfl, rfl, h0, h1, hz, q⟩
theorem i_find {a b : Str} (q : Q (.int (Txt.find a b)) H) : rFind (.str a) [.str b] H Q := ⟨a, b, rfl, rfl, q⟩
theorem i_leT {a b : Str} (q : Q (.bl (!decide (tl b < tl a))) H) : rLeT (.str a) (.str b) H Q := ⟨a, b, rfl, rfl, q⟩
theorem i_isB {x : V} {b : Bool} (q : Q (.bl (decide (x = .bl b))) H) : rIsBl x (.bl b) H Q := ⟨b, rfl, q⟩
theorem i_notInS {c : Nat} {z : Str} (q : Q (.bl (!decide (c ∈ z.cps.toList))) H) : rNotInS (.str ⟨#[c]⟩) (.str z) H Q := ⟨c, z, rfl, rfl, q⟩
theorem i_inS {c : Nat} {z : Str} (q : Q (.bl (decide (c ∈ z.cps.toList))) H) : rInS (.str ⟨#[c]⟩) (.str z) H Q := ⟨c, z, rfl, rfl, q⟩
theorem i_slS {z : Str} {lo hi : Option Int} (hz : z.length ≤ sizeLine) (q : Q (.str (cutS z lo hi)) H) : rSlS (.str z) lo hi H Q := ⟨z, rfl, hz, q⟩
end
end Ice

set_option Elab.async false
set_option linter.all false
set_option maxRecDepth 100000
set_option maxHeartbeats 4000000
set_option autoImplicit false
/-! Things of any kind. -/
namespace Ice
open PySem PySem.Spec PyProof.Rows L2 TL
theorem one_lt (c l : Nat) : ([c] < [l]) ↔ c < l := by rw [List.cons_lt_cons_iff]; simp
theorem str_ext {x y : Str} (h : tl x = tl y) : x = y := by rw [← mk_tl x, ← mk_tl y, h]
theorem take_all {P : Nat → Prop} {l : List Nat} {i c : Nat} (h : ∀ x ∈ l.take i, P x) (hc : l[i]? = some c) (hp : P c) : ∀ x ∈ l.take (i + 1), P x := by
  intro x hx
  rw [List.take_add_one, hc] at hx
  rcases List.mem_append.mp hx with z | z
  · exact h x z
  · have : x = c := by simpa using z
    rw [this]; exact hp
theorem empty_eq (s : Str) : (V.str s = V.str (Str.ofString "")) ↔ s.length = 0 := by
  constructor
  · intro h; injection h with h; rw [h]; decide +kernel
  · intro h
    have : tl s = tl (Str.ofString "") := by rw [List.eq_nil_of_length_eq_zero (by rw [tl_len]; exact h : (tl s).length = 0)]; decide +kernel
    rw [str_ext this]
theorem sign_eq (c d : Nat) : (V.str ⟨#[c]⟩ = V.str ⟨#[d]⟩) ↔ c = d := by
  constructor
  · intro h; injection h with h; injection h with h; simpa using h
  · rintro rfl; rfl
/-- what is no text -/
inductive NoTx (H : Hp) : V → String → Prop
  | non : NoTx H .non "NoneType"
  | int (i : Int) : NoTx H (.int i) "int"
  | bl (b : Bool) : NoTx H (.bl b) "bool"
  | lst {p : Addr} {xs : List V} (h : H p = some (.lst xs)) : NoTx H (.ref p) "list"
  | tup {p : Addr} {xs : List V} (h : H p = some (.tup xs)) : NoTx H (.ref p) "tuple"
  | dct {p : Addr} {xs : List (Key × V)} (h : H p = some (.dK xs)) : NoTx H (.ref p) "dict"
def Th (H : Hp) (v : V) : Prop := (∃ s, v = .str s ∧ s.length ≤ 100000) ∨ ∃ n, NoTx H v n
theorem NoTx.same {H H' : Hp} {v : V} {n : String} (e : Same H H') (h : NoTx H v n) : NoTx H' v n := by
  cases h with
  | non => exact .non
  | int i => exact .int i
  | bl b => exact .bl b
  | lst h => exact .lst (e _ _ h)
  | tup h => exact .tup (e _ _ h)
  | dct h => exact .dct (e _ _ h)
theorem Th.same {H H' : Hp} {v : V} (e : Same H H') (h : Th H v) : Th H' v := by
  rcases h with h | ⟨n, h⟩
  · exact .inl h
  · exact .inr ⟨n, h.same e⟩
theorem Th.updL {H : Hp} {D : Addr} {xs ys : List V} {v : V} (hD : H D = some (.lst xs)) (h : Th H v) : Th (upd H D (.lst ys)) v := by
  rcases h with h | ⟨n, h⟩
  · exact .inl h
  · refine .inr ?_
    cases h with
    | non => exact ⟨_, .non⟩
    | int i => exact ⟨_, .int i⟩
    | bl b => exact ⟨_, .bl b⟩
    | @lst p xs h =>
      by_cases e : p = D
      · subst e; exact ⟨_, .lst upd_same⟩
      · exact ⟨_, .lst (by rw [upd_ne e]; exact h)⟩
    | tup h => exact ⟨_, .tup (by rw [upd_ne (ne_of h hD (by intro z; cases z))]; exact h)⟩
    | dct h => exact ⟨_, .dct (by rw [upd_ne (ne_of h hD (by intro z; cases z))]; exact h)⟩
section
variable {K : PySem.W.Frag} {H : Hp}
theorem ty_str {s : Str} : TyX K H (.str s) (.type "str") := .base (.str s)
theorem NoTx.tyx {v : V} {n : String} (h : NoTx H v n) : TyX K H v (.type n) := by
  cases h with
  | non => exact .base .non
  | int i => exact .base (.int i)
  | bl b => exact .base (.bl b)
  | lst h => exact .base (.lst h)
  | tup h => exact .base (.tup h)
  | dct h => exact .base (.dK h)
theorem NoTx.noStr {v : V} {n : String} (h : NoTx H v n) : kitB n "str" = some false := by cases h <;> decide +kernel
theorem NoTx.ty {v : V} {n : String} (h : NoTx H v n) : TyX K H v (.type n) ∧ kitB n "str" = some false := ⟨h.tyx, h.noStr⟩
end
/-- a whole number; one within bounds; a name -/
def isW : V → Bool
  | .int _ => true
  | _ => false
def inB (lo hi : Int) : V → Bool
  | .int i => decide (lo ≤ i) && decide (i ≤ hi)
  | _ => false
def isN : V → Bool
  | .str s => decide (1 ≤ s.length ∧ s.length ≤ 8 ∧ ∀ c ∈ tl s, 97 ≤ c ∧ c ≤ 122)
  | _ => false
theorem NoTx.isN {H : Hp} {v : V} {n : String} (h : NoTx H v n) : isN v = false := by cases h <;> rfl
theorem Th.ty {K : PySem.W.Frag} {H : Hp} {v : V} (h : Th H v) : ∃ n, TyX K H v (.type n) ∧ kitB n "int" = some (isW v || decide (n = "bool")) ∧ kitB n "bool" = some (decide (n = "bool")) ∧ (n = "bool" → ∃ b, v = .bl b) := by
  rcases h with ⟨s, rfl, _⟩ | ⟨n, h⟩
  · exact ⟨"str", ty_str, (by decide +kernel : kitB "str" "int" = some (false || decide ("str" = "bool"))), by decide +kernel, fun z => absurd z (by decide)⟩
  · refine ⟨n, h.tyx, ?_⟩
    cases h with
    | non => exact ⟨(by decide +kernel : kitB "NoneType" "int" = some (false || decide ("NoneType" = "bool"))), by decide +kernel, fun z => absurd z (by decide)⟩
    | int i => exact ⟨(by decide +kernel : kitB "int" "int" = some (true || decide ("int" = "bool"))), by decide +kernel, fun z => absurd z (by decide)⟩
    | bl b => exact ⟨(by decide +kernel : kitB "bool" "int" = some (false || decide ("bool" = "bool"))), by decide +kernel, fun _ => ⟨b, rfl⟩⟩
    | lst h => exact ⟨(by decide +kernel : kitB "list" "int" = some (false || decide ("list" = "bool"))), by decide +kernel, fun z => absurd z (by decide)⟩
    | tup h => exact ⟨(by decide +kernel : kitB "tuple" "int" = some (false || decide ("tuple" = "bool"))), by decide +kernel, fun z => absurd z (by decide)⟩
    | dct h => exact ⟨(by decide +kernel : kitB "dict" "int" = some (false || decide ("dict" = "bool"))), by decide +kernel, fun z => absurd z (by decide)⟩
end Ice

set_option Elab.async false
set_option linter.all false
set_option maxRecDepth 100000
set_option maxHeartbeats 4000000
set_option autoImplicit false
/-! Texts drawn sign by sign from a box. -/
namespace Ice
open PySem PySem.Spec PyProof.Rows L2 TL
/-- a comprehension over a range whose element draws one sign from the box b -/
theorem lc_draw {b : Addr} {n size : Nat} {P : Nat → Prop} {g : TG} {tt : TT} {te : TE} {vs : List Nat} {σ : L2.St} {H1 : Hp} {D : Addr} {Qd : Hp → Prop} (hB : Box H1 b n) (hD : H1 D = none) (hz : size ≤ 1000)
    (hs : ∀ i H, i < size → But b H1 H → Box H b (n + i) → ∀ N : V → Hp → Prop, (∀ c H4, P c → But b H H4 → Box H4 b (n + i + 1) → N (.str ⟨#[c]⟩) H4) →
      g (.int (0 + i)) (wipe σ vs) H fun σ2 H2 => wipe σ2 vs = wipe σ vs ∧ tt σ2 H2 fun b H3 => if b = true then te σ2 H3 N else False)
    (mono : ∀ i H (N : V → Hp → Prop) (M : Hp → Prop), (g (.int (0 + i)) (wipe σ vs) H fun σ2 H2 => wipe σ2 vs = wipe σ vs ∧ tt σ2 H2 fun b H3 => if b = true then te σ2 H3 N else False) →
      g (.int (0 + i)) (wipe σ vs) H fun σ2 H2 => wipe σ2 vs = wipe σ vs ∧ tt σ2 H2 fun b H3 => if b = true then te σ2 H3 N else M H3)
    (hd : ∀ (acc : List Str) H, But b H1 H → Box H b (n + size) → H D = some (.lst (acc.map V.str)) → acc.length = size → (∀ y ∈ acc, ∃ c, y = ⟨#[c]⟩ ∧ P c) → Qd H) :
    ∃ W : Nat → Nat → Hp → Prop, (∃ m, W 0 m (upd H1 D (.lst []))) ∧ ∀ i m H, W i m H →
      ((Itr 0 size).stop i H ∧ Qd H) ∨ ((Itr 0 size).go i H ∧ ∃ Nx : Hp → Prop, (∀ H', Nx H' → ∃ m', m' < m ∧ W (i + 1) m' H') ∧ ∀ x H', (Itr 0 size).yld i H x H' → g x (wipe σ vs) H' fun σ2 H2 => wipe σ2 vs = wipe σ vs ∧ tt σ2 H2 fun b H3 =>
        if b = true then te σ2 H3 fun y H4 => ∃ acc, H4 D = some (.lst acc) ∧ acc.length < sizeLine ∧ Nx (upd H4 D (.lst (acc ++ [y]))) else Nx H3) := by
  have bD := hB.ne hD
  refine lc_range (lo := 0) (n := size) (fun i H' => But b H1 H' ∧ Box H' b (n + i) ∧ ∃ acc : List Str, H' D = some (.lst (acc.map V.str)) ∧ acc.length = i ∧ ∀ y ∈ acc, ∃ c, y = ⟨#[c]⟩ ∧ P c)
    ⟨But.new _ hD, hB.new hD, [], upd_same, rfl, by simp⟩ ?_ ?_
  · rintro i H' hi ⟨e6, B6, acc, hA, hl, h1⟩
    refine mono i H' _ _ (hs i H' hi e6 B6 _ ?_)
    intro c H4 pc e7 B7
    refine ⟨_, e7 D _ bD hA, by rw [List.length_map]; exact small1000 (by omega), fun a o na ha => ?_, B7.upd bD, acc ++ [⟨#[c]⟩], by rw [upd_same, List.map_append]; rfl, by simp [hl], ?_⟩
    · rw [upd_ne (ne_of_none ha hD)]
      exact e7 a o na (e6 a o na ha)
    · intro y hy
      rcases List.mem_append.mp hy with z | z
      · exact h1 y z
      · simp at z; exact ⟨c, z, pc⟩
  · rintro H' ⟨e6, B6, acc, hA, hl, h1⟩
    exact hd acc H' e6 B6 hA hl h1
/-- what is joined of such signs -/
theorem join_draw {K : PySem.W.Frag} {P : Nat → Prop} {e : Str} {D : Addr} {acc : List Str} {H : Hp} {Q : VK} (he : tl e = []) (hA : H D = some (.lst (acc.map V.str))) (hz : acc.length ≤ 1000) (h1 : ∀ y ∈ acc, ∃ c, y = ⟨#[c]⟩ ∧ P c)
    (q : ∀ t : Str, t.length = acc.length → (∀ c ∈ tl t, P c) → Q (.str t) H) :
    rJoin K (.str e) [.ref D] H Q := by
  have one : ∀ y ∈ acc, y.length = 1 := fun y hy => by obtain ⟨c, rfl, _⟩ := h1 y hy; rfl
  have e0 : e.length = 0 := by rw [← tl_len, he]; rfl
  refine ⟨e, D, acc, rfl, rfl, .inl (SqL.lst hA), by rw [sum_ones one, e0]; omega, q _ (len_joined he one) ?_⟩
  intro c hc
  rw [tl_joined he] at hc
  obtain ⟨l, hl, hcl⟩ := List.mem_flatten.mp hc
  obtain ⟨y, hy, rfl⟩ := List.mem_map.mp hl
  obtain ⟨d, rfl, pd⟩ := h1 y hy
  have : c = d := by simpa using (show c ∈ [d] from hcl)
  rw [this]; exact pd
/-- a sign of a written text at a drawn place -/
theorem sign_at {P : Nat → Prop} {x : Str} {d : Int} (h0 : 0 ≤ d) (h1 : d < x.length) (hp : ∀ c ∈ tl x, P c) : ∃ c, atI x.cps.toList d = some c ∧ P c := by
  obtain ⟨c, hc, hm, _⟩ := atI_some (xs := x.cps.toList) h0 (by simp only [Array.length_toList]; exact h1)
  exact ⟨c, hc, hp c hm⟩
theorem cut_all {P : Nat → Prop} {z : Str} {lo hi : Option Int} (h : ∀ c ∈ tl z, P c) : ∀ c ∈ tl (cutS z lo hi), P c := by
  intro c hc
  rw [tl_cut] at hc
  exact h c (List.mem_of_mem_drop (List.mem_of_mem_take hc))
theorem add_all {P : Nat → Prop} {x y : Str} (h1 : ∀ c ∈ tl x, P c) (h2 : ∀ c ∈ tl y, P c) : ∀ c ∈ tl (x ++ y), P c := by
  intro c hc
  rw [tl_append] at hc
  rcases List.mem_append.mp hc with z | z
  · exact h1 c z
  · exact h2 c z
theorem one_all {P : Nat → Prop} {d : Nat} (h : P d) : ∀ c ∈ tl (⟨#[d]⟩ : Str), P c := by
  intro c hc
  have : c = d := by simpa using (show c ∈ [d] from hc)
  rw [this]; exact h
end Ice

set_option Elab.async false
set_option linter.all false
set_option maxRecDepth 100000
set_option maxHeartbeats 4000000
set_option autoImplicit false
/-! Own errors over an own error over ValueError; several except clauses, with names or without. -/
namespace Ice
open PySem PySem.Spec PyProof.Rows L2
/-- one except clause: its class, the slot of its name, its suite -/
structure Hd where
  c : Value
  i : Option Nat
  ts : Addr → Value → Option Addr → TS
/-- the slots behind a suite whose name is gone -/
def goneE (i : Nat) (D : Ends) : Ends := { nx := fun σ' H' => D.nx (σ'.set i none) H', rt := D.rt, bk := fun σ' H' => D.bk (σ'.set i none) H', ct := fun σ' H' => D.ct (σ'.set i none) H' }
def Hd.run (h : Hd) (a : Addr) (cls : Value) (d : Option Addr) (D : Ends) (σ : L2.St) (H : Hp) : Prop :=
  match h.i with
  | none => h.ts a cls d D σ H
  | some i => h.ts a cls d (goneE i D) (σ.set i (some (.ref a))) H
def wHds (K : PySem.W.Frag) (Wout : WX) (D : Ends) : List Hd → WX
  | [] => Wout
  | h :: r => fun cls d σ H => ∃ b, PySem.W.exmOne K cls h.c = some b ∧ (b = true → ∀ a, H a = none → h.run a cls d D σ H) ∧ (b = false → wHds K Wout D r cls d σ H)
inductive HdOk (X : Cx) : List ExceptHandler → List Hd → Prop
  | nil : HdOk X [] []
  | plain {x : Str} {c : Value} {ts : Addr → Value → Option Addr → TS} {b₀ : Stmt} {suite : List Stmt} {np pos' : Pos} {hds : List ExceptHandler} {l : List Hd} (hc : Names X x c)
      (hsu : ∀ (a : Addr) (oe : Obj) (cls : Value) (d : Option Addr) (pn : List (Addr × Obj)), Zc cls d oe → (∃ vs, oe.data = .fields vs) → PSs (X.suite a ((a, oe) :: pn)) (b₀ :: suite) (ts a cls d)) (r : HdOk X hds l) :
      HdOk X (.ExceptHandler (some (.Name x np)) none (b₀ :: suite) pos' :: hds) (⟨c, none, ts⟩ :: l)
  | named {x n : Str} {i : Nat} {c : Value} {ts : Addr → Value → Option Addr → TS} {b₀ : Stmt} {suite : List Stmt} {np pos' : Pos} {hds : List ExceptHandler} {l : List Hd} (hi : X.N[i]? = some n) (hln : X.env.kindOf n = some .local) (hc : Names X x c)
      (hsu : ∀ (a : Addr) (oe : Obj) (cls : Value) (d : Option Addr) (pn : List (Addr × Obj)), Zc cls d oe → (∃ vs, oe.data = .fields vs) → PSs (X.suite a ((a, oe) :: pn)) (b₀ :: suite) (ts a cls d)) (r : HdOk X hds l) :
      HdOk X (.ExceptHandler (some (.Name x np)) (some n) (b₀ :: suite) pos' :: hds) (⟨c, some i, ts⟩ :: l)
section
variable {X : Cx} {body : List Stmt} {h₀ : ExceptHandler} {hds : List ExceptHandler} {l : List Hd} {pos : Pos} {tb : WX → TS} {Wout : WX}
/-- the exception at a is caught by one of the clauses, or goes on -/
theorem handled {pins : List (Addr × Obj)} {D : Ends} (hs : X.stack = X.env :: X.outer) (hf : X.env.frame = some X.env.locals) (hN : X.N.Nodup) (tk : Takes X Wout) (ok : X.Ok)
    {a : Addr} {B : Heap} {sI s' : Shared} {σ' : L2.St} {H' : Hp} {cls : Value} {d : Option Addr} {h3 : Heap} (J : Inv X pins σ' H' sI) (nb : ∀ b o, sI.heap.get? b = some o → b ∉ frs X.stack → B.get? b = some o)
    (up : sI.heap.UpToSlots s'.heap) (na : H' a = none) (os : s'.os = sI.os) (ag : AllBare s'.gens) (fl3 : HandSPX.FlyingZ B (X.env :: X.outer) a (Zc cls d) h3) (up3 : s'.heap.UpToSlots h3)
    {hds' : List ExceptHandler} {l' : List Hd} (hk : HdOk X hds' l') :
    wHds X.K Wout D l' cls d σ' H' → wpAny (model X.prog X.w) X.A (handleBy (.ref a) X.env hds') (SP X pins D) X.xe { s' with heap := h3 } := by
  have J3 : Inv X pins σ' H' { s' with heap := h3 } := J.landed nb fl3.1 (up.trans up3) os ag
  obtain ⟨oe3, vs3, he3, hz3, hd3⟩ := fl3.there
  have nfr : a ∉ frs (X.env :: X.outer) := by
    intro hm
    obtain ⟨_, o', e', hnf⟩ := fl3.2.2.1.mem hm
    rw [he3] at e'; cases e'
    exact hnf _ hd3
  have nL : a ≠ X.env.locals := fun z => nfr (List.mem_filterMap.mpr ⟨X.env, List.mem_cons_self, by rw [hf, z]⟩)
  have nF : a ∉ X.fs := by
    intro hm
    obtain ⟨e, he, q⟩ := List.mem_filterMap.mp hm
    exact nfr (List.mem_filterMap.mpr ⟨e, List.mem_cons_of_mem _ he, q⟩)
  have S3 := J3.suite he3 hd3 na nL nF
  have LT : PySem.W.Looks (model X.prog X.w) h3 (typeOf (.ref a)) cls := fun A Q E s k q => wpAny_typeOf_ref (k _ _ he3) (by rw [hz3.1]; exact q)
  have test : ∀ {x : Str} {c : Value} {np : Pos} {Q : Value → Shared → Prop} {E : Value → Shared → Prop}, Names X x c → Q c { s' with heap := h3 } →
      wpAny (model X.prog X.w) (X.A.mark (some (.ref a))) (eval (.Name x np) X.env) Q E { s' with heap := h3 } := by
    rintro x c np Q E ⟨hg, hdbg, hm | ⟨hm, hv, hnn⟩⟩ q
    · exact ld_glob (X := X.suite a ((a, oe3) :: (X.pn ++ pins))) S3 hg hm q hdbg
    · exact ld_blt (X := X.suite a ((a, oe3) :: (X.pn ++ pins))) S3 hg hm hv q hnn hdbg
  have land : ∀ {R : Shared → Prop}, (∀ h4 oe4, (∃ vs, oe4.data = .fields vs) → Zc cls d oe4 → Inv (X.suite a ((a, oe4) :: (X.pn ++ pins))) [] σ' H' { s' with heap := h4 } → R { s' with heap := h4 }) →
      ∀ h4, HandSPX.FlyingZ B (X.env :: X.outer) a (Zc cls d) h4 → s'.heap.UpToSlots h4 → R { s' with heap := h4 } := by
    intro R hR h4 fl4 up4
    have J4 : Inv X pins σ' H' { s' with heap := h4 } := J.landed nb fl4.1 (up.trans up4) os ag
    obtain ⟨oe4, vs4, he4, hz4, hd4⟩ := fl4.there
    exact hR h4 oe4 ⟨_, hd4⟩ hz4 (J4.suite he4 hd4 na nL nF)
  induction hk with
  | nil =>
    intro w
    refine wpAny_handleBy_nil ?_
    obtain ⟨k1, k2, k3, oe, vs, T, oT, ts', he, hz, hd, h1, hr⟩ := id fl3
    unfold PySem.passOn
    refine wpAny_bind (wpAny_field he hd h1 ?_)
    rw [if_neg (show ¬ ((Value.ref T == Value.none) = true) from by simp)]
    have fin : wpAny (model X.prog X.w) X.A (setFlight (.ref a) X.env.frame) (fun _ s4 => wpAny (model X.prog X.w) X.A (throw (.ref a) : Sem Flow) (SP X pins D) X.xe s4) X.xe { s' with heap := h3 } := by
      rw [hf]
      exact HandSPX.setFlight_upZ fl3 (fun h4 hh4 up4 => wpAny_throw (tk _ _ ⟨a, B, sI, pins, σ', H', cls, d, rfl, J, nb, (up.trans up3).trans up4, .inr (.inr (by rw [hs]; exact hh4)), na, os, ag, w⟩))
    first
      | exact wpAny_bind (wpAny_pure (wpAny_bind fin))
      | exact wpAny_bind fin
  | @plain x c ts b₀ suite np pos' hds2 l2 hc hsu r ih =>
    rintro ⟨b, hb1, hyes, hno⟩
    refine wpAny_handleBy_cons (codeAny_handlers_test ?_) (by intro q; cases q)
    refine test hc ((PySem.W.exm_one (M := model X.prog X.w) J3.kIn LT hb1).here ?_)
    match b, hyes, hno with
    | true, hyes, _ =>
      refine codeAny_handlers_suite (HandSPX.lands_againZ fl3 (fun h4 fl4 up4 => ?_))
      refine land ?_ h4 fl4 (up3.trans up4)
      intro h5 oe5 hd5 hz5 S5
      refine wpAny_mono ((hsu a oe5 cls d (X.pn ++ pins) hz5 hd5).run [] _ _ H' _ S5 (hyes rfl a na)) (fun f s6 hsp => ?_) (fun _ _ z => False.elim z)
      match f, hsp with
      | .next, ⟨σ6, H6, S6, q6⟩ => exact ⟨_, _, S6.unsuite ok, q6⟩
      | .brk, ⟨σ6, H6, S6, q6⟩ => exact ⟨_, _, S6.unsuite ok, q6⟩
      | .cont, ⟨σ6, H6, S6, q6⟩ => exact ⟨_, _, S6.unsuite ok, q6⟩
      | .ret u, ⟨v6, σ6, H6, S6, r6, q6⟩ => exact ⟨_, _, _, S6.unsuite ok, r6, q6⟩
    | false, _, hno => exact ih (hno rfl)
  | @named x n i c ts b₀ suite np pos' hds2 l2 hi hln hc hsu r ih =>
    rintro ⟨b, hb1, hyes, hno⟩
    refine wpAny_handleBy_cons (codeAny_handlers_test ?_) (by intro q; cases q)
    refine test hc ((PySem.W.exm_one (M := model X.prog X.w) J3.kIn LT hb1).here ?_)
    match b, hyes, hno with
    | true, hyes, _ =>
      refine codeAny_handlers_suite_as (HandSPX.lands_againZ fl3 (fun h4 fl4 up4 => ?_))
      refine land ?_ h4 fl4 (up3.trans up4)
      intro h5 oe5 hd5 hz5 S5
      refine store_ok (X := X.suite a ((a, oe5) :: (X.pn ++ pins))) (v := .ref a) S5 hN hi (.inl hln) rfl (fun s6 S6 => ?_) (.inr hln)
      refine wpAny_mono ((hsu a oe5 cls d (X.pn ++ pins) hz5 hd5).run [] s6 _ H' _ S6 (hyes rfl a na)) (fun f s7 hsp => ?_) (fun _ _ z => False.elim z)
      match f, hsp with
      | .next, ⟨σ6, H6, S7, q6⟩ => exact gone_ok (S7.unsuite ok) hN hi hln (fun s8 J8 => ⟨_, _, J8, q6⟩)
      | .brk, ⟨σ6, H6, S7, q6⟩ => exact gone_ok (S7.unsuite ok) hN hi hln (fun s8 J8 => ⟨_, _, J8, q6⟩)
      | .cont, ⟨σ6, H6, S7, q6⟩ => exact gone_ok (S7.unsuite ok) hN hi hln (fun s8 J8 => ⟨_, _, J8, q6⟩)
      | .ret u, ⟨v6, σ6, H6, S7, r6, q6⟩ => exact gone_ok (S7.unsuite ok) hN hi hln (fun s8 J8 => ⟨_, _, _, J8, r6, q6⟩)
    | false, _, hno => exact ih (hno rfl)
theorem ps_try_hds (hs : X.stack = X.env :: X.outer) (hf : X.env.frame = some X.env.locals) (hN : X.N.Nodup) (tk : Takes X Wout)
    (hb : ∀ (W : WX) (pn : List (Addr × Obj)) (xe : Value → Shared → Prop), Takes (X.tr pn xe) W → PassesOwn (model X.prog X.w) X.A X.env xe → PSs (X.tr pn xe) body (tb W))
    (hh : HdOk X (h₀ :: hds) l) : PS X (.Try body (h₀ :: hds) [] [] pos) (fun D σ H => tb (wHds X.K Wout D l) D σ H) := by
  constructor
  intro pins s σ H D I h
  have ok := I.ok
  have hfr : X.A.frames = some (X.env :: X.outer) := by rw [ok.frames, hs]
  refine wpAny_Try_except ?_
  have run := (hb (wHds X.K Wout D l) (X.pn ++ pins) (fun e s₁ => wpAny (model X.prog X.w) X.A (noteFrame e X.env)
    (fun _ s₂ => wpAny (model X.prog X.w) X.A (setFlight e none) (fun _ s₃ => wpAny (model X.prog X.w) X.A (handleBy e X.env (h₀ :: hds)) (SP X pins D) X.xe s₃) X.xe s₂) X.xe s₁) ?_ PassesOwn.looking).run [] s σ H D (I.toTry _) h
  · refine wpAny_mono run (fun f s1 hsp => ?_) (fun e s1 he => he)
    match f, hsp with
    | .next, ⟨σ', H', J', q⟩ => exact wpAny_execs_nil ⟨σ', H', J'.ofTry ok, q⟩
    | .brk, ⟨σ', H', J', q⟩ => exact ⟨σ', H', J'.ofTry ok, q⟩
    | .cont, ⟨σ', H', J', q⟩ => exact ⟨σ', H', J'.ofTry ok, q⟩
    | .ret u, ⟨v, σ', H', J', r, q⟩ => exact ⟨v, σ', H', J'.ofTry ok, r, q⟩
  · rintro u s' ⟨a, B, sI, pins', σ', H', cls, d, rfl, J', nb, up, sky, na, os, ag, w⟩
    have sky' : Sky B (X.env :: X.outer) a (Zc cls d) X.env.locals s'.heap := by rw [← hs]; exact sky
    exact Sky.land Zc.steady hfr hf sky' (fun h3 fl3 up3 => handled hs hf hN tk ok (J'.ofTry ok) nb up na os ag fl3 up3 hh w)
end
/-! ### Base.__init__(self, ..), Base an own error class over ValueError -/
section
variable {X : Cx} {e : Expr} {es : List Expr} {ta : TA} {p1 p2 pos : Pos} {x : Str} {B : Addr}
theorem pe_kinit {pl : Sem Bool} (hg : Gl X x) (hm : X.mg x = some (.ref B)) (hsp : PySem.W.specialIn X.K (.ref B) "__getattribute__" = some (some (.builtin "type.__getattribute__"))) (ht : PySem.W.typeIn X.K (.ref B) = some (.type "type"))
    (hr : PySem.W.readsIn X.K B (.type "type") = true) (hF : PySem.W.findCls X.K (.ref B) (.type "type") "__init__" = some (.val (.builtin "ValueError.__init__"))) (ha : PA X (e :: es) ta)
    (hdb : (x == ("__debug__" : Str)) = false := by decide)
    (hc : eval (.Call (.Attribute (.Name x p1) "__init__" p2) (e :: es) [] pos) X.env =
      (do let ov ← eval (.Name x p1) X.env; standAt p2.atName; let (f, first) ← holding [ov] (getMethod ov "__init__" pl); callWith pos f first (backTo pos (starEach (e :: es) X.env)) (backToKw pos (keywordEach [] X.env))) := by rfl)
    (he : starEach (e :: es) X.env = (false, eval e X.env) :: starEach es X.env := by rfl) (hpl : (backTo pos (starEach es X.env)).any (·.1) = false := by rfl) :
    PE X (.Call (.Attribute (.Name x p1) "__init__" p2) (e :: es) [] pos) (tVeI X.K ta) := by
  constructor
  intro pins s σ H Q I h
  refine PySem.W.methodCall_KW (ld_glob I hg hm ?_ hdb) hc
  obtain ⟨m, fr⟩ := I.fr
  refine PySem.W.method_of_cls fr I.ok.mod.kin hsp (PySem.W.cls_val fr I.ok.mod.kin ht hr hF (by decide +kernel) ?_)
  show wpAny _ _ (callWith pos (Value.builtin "ValueError.__init__") [] (backTo pos (starEach (e :: es) X.env)) []) _ _ _
  refine PyProof.Rows.callWith_method1 (thn (ha.run pos pins _ σ H _ (I.tok _) h) (fun us s1 ⟨vs, H1, I1, r1, a, C, ws, ev, hl, T, ea, q⟩ => ?_)) he hpl
  subst ev
  cases r1 with
  | @cons _ u0 _ ur ra rw' =>
    cases (show u0 = Value.ref a from ra)
    exact oinit_ok T I1 ea (by rw [← Paired.length rw', sizeLine_eq]; omega) (fun s' J => ⟨.non, H1, J, rfl, q⟩)
end
end Ice
namespace Ice
open PySem PySem.Spec PyProof.Rows L2
/-! ### calls whose errors are wished for at the caller's slots -/
section
variable {X : Cx} {X0 : CXT} {k : Nat} {f C : Addr} {fd : FuncData} {ps : List Str} {sp : Sp} {dvs : List V} {ds : List Value} {E : L2.St → XK} {x m : Str} {p pos apos : Pos} {e o : Expr} {es : List Expr} {ta : TE} {t : TA}
def tCallE (sp : Sp) (dvs : List V) (E : L2.St → XK) (t : TA) : TE := fun σ H Q => t σ H fun vs H1 => sp (vs ++ dvs) H1 Q (E σ)
def tMakeE (C : Addr) (sp : Sp) (dvs : List V) (E : L2.St → XK) (t : TA) : TE := fun σ H Q => t σ H fun vs H1 => ∀ x dx, H1 x = none → H1 dx = none → dx ≠ x →
  sp (.ref x :: (vs ++ dvs)) (upd (upd H1 dx (.own x)) x (.ins C dx [])) (fun v H2 => v = .non ∧ Q (.ref x) H2) (E σ)
def tMethE (C : Addr) (m : Str) (sp : Sp) (dvs : List V) (E : L2.St → XK) (ta : TE) (t : TA) : TE := fun σ H Q => ta σ H fun x H1 => ∃ a dx fs, x = .ref a ∧ H1 a = some (.ins C dx fs) ∧ fs.lookup m = none ∧
  t σ H1 fun vs H2 => sp (x :: (vs ++ dvs)) H2 Q (E σ)
theorem run_ge {pins : List (Addr × Obj)} {σ : L2.St} {H : Hp} {s : Shared} {Q : VK} {us : List Value} {vs : List V} (F : FnG X.prog X.w X.K X.mg X.base X0 k f fd ps sp) (hr : Room k X.A) (hgd : X.A.guards = some [])
    (hb : Binds X.K fd ps ds) (hd : Vals dvs ds) (hx : PassesAt X0 X σ (E σ)) (I : Inv X pins σ H s) (r : Vals vs us) (h : sp (vs ++ dvs) H Q (E σ)) :
    wpAny (model X.prog X.w) X.A (call (.ref f) us) (EP X pins σ Q) X.xe s := by
  have r2 := Vals.append r hd
  have hl : (us ++ ds).length = ps.length := (Vals.length r2).symm.trans (F.len _ _ _ _ h)
  refine wpAny_call (codeAny_mono (F.run X.A X.stack s H ⟨us, []⟩ (us ++ ds) (vs ++ dvs) Q (E σ) hr hgd I.env0 (hb s us I.kIn hl) r2 h) (fun r s' hq => ?_))
  match r, hq with
  | .error e, hq => exact hx pins H s e s' I hq
  | .ok (.ret u), hq => exact I.after hq
  | .ok .next, hq => exact False.elim hq
  | .ok .brk, hq => exact False.elim hq
  | .ok .cont, hq => exact False.elim hq
theorem g_callE (F : FnG X.prog X.w X.K X.mg X.base X0 k f fd ps sp) (hr : Room k X.A) (hgd : X.A.guards = some []) (hg : Gl X x) (hm : X.mg x = some (.ref f)) (hk : PySem.W.keepIn X.K (.ref f) = true) (hb : Binds X.K fd ps ds) (hd : Vals dvs ds)
    (hx : ∀ σ, PassesAt X0 X σ (E σ)) (ha : PA X (e :: es) t) (hdb : (x == ("__debug__" : Str)) = false := by decide) (he : starEach (e :: es) X.env = (false, eval e X.env) :: starEach es X.env := by rfl)
    (hpl : (backTo pos (starEach es X.env)).any (·.1) = false := by rfl) : PE X (.Call (.Name x p) (e :: es) [] pos) (tCallE sp dvs E t) := by
  constructor
  intro pins s σ H Q I h
  refine wpAny_Call_Name_kw (ld_glob I hg hm (PySem.W.callWith_K (h₀ := X.base) I.ok.mod.kin hk ?_ he hpl) hdb)
  exact thn (ha.run pos pins s σ H _ I h) (fun us s1 ⟨vs, H1, I1, r, q⟩ => ⟨I1.kIn, run_ge F hr hgd hb hd (hx σ) I1 r q⟩)
theorem g_methE {pl : Sem Bool} (he : PE X o ta) (c : Cls X.K C) (hm : Meth X.K C m f) (F : FnG X.prog X.w X.K X.mg X.base X0 k f fd ps sp) (hr : Room k X.A) (hgd : X.A.guards = some []) (hb : Binds X.K fd ps ds) (hd : Vals dvs ds)
    (hx : ∀ σ, PassesAt X0 X σ (E σ)) (ha : PA X (e :: es) t) (hst : starEach (e :: es) X.env = (false, eval e X.env) :: starEach es X.env := by rfl) (hpl : (backTo pos (starEach es X.env)).any (·.1) = false := by rfl)
    (ht : eval (.Call (.Attribute o m apos) (e :: es) [] pos) X.env =
      (do let ov ← eval o X.env; standAt apos.atName; let (f, first) ← holding [ov] (getMethod ov m pl); callWith pos f first (backTo pos (starEach (e :: es) X.env)) (backToKw pos (keywordEach [] X.env))) := by rfl) :
    PE X (.Call (.Attribute o m apos) (e :: es) [] pos) (tMethE C m sp dvs E ta t) := by
  constructor
  intro pins s σ H Q I h
  refine PySem.W.methodCall_KW (pl := pl) (thn (he.run pins s σ H _ I h) (fun u s1 ⟨x, H1, I1, rx, a, dx, fs, ex, ea, l, q⟩ => ?_)) ht
  subst ex
  cases (show u = Value.ref a from rx)
  refine getmeth_ok I1 ea c hm l (PySem.W.callWith_K (first := [.ref a]) (h₀ := X.base) I.ok.mod.kin hm.kp ?_ hst hpl)
  exact thn (ha.run pos pins s1 σ H1 _ I1 q) (fun us s2 ⟨vs, H2, I2, r, q2⟩ => ⟨I2.kIn, run_ge (us := .ref a :: us) (vs := .ref a :: vs) F hr hgd hb hd (hx σ) I2 (.cons rfl r) q2⟩)
theorem run_mke {pins : List (Addr × Obj)} {σ : L2.St} {H : Hp} {s : Shared} {Q : VK} {us : List Value} {vs : List V} (M : Mk X.K C f) (F : FnG X.prog X.w X.K X.mg X.base X0 k f fd ps sp) (hr : Room (k + 1) X.A) (hgd : X.A.guards = some [])
    (hb : Binds X.K fd ps ds) (hd : Vals dvs ds) (hx : PassesAt X0 X σ (E σ)) (hx2 : ∀ {H2 : Hp} {e : Value} {s2 s' : Shared}, Inv X pins σ H2 s2 → X0 X.stack H2 s2 (E σ) e s' → X.xe e s') (I : Inv X pins σ H s) (r : Vals vs us)
    (h : ∀ x dx, H x = none → H dx = none → dx ≠ x → sp (.ref x :: (vs ++ dvs)) (upd (upd H dx (.own x)) x (.ins C dx [])) (fun v H2 => v = .non ∧ Q (.ref x) H2) (E σ)) :
    wpAny (model X.prog X.w) X.A (call (.ref C) us) (EP X pins σ Q) X.xe s := by
  have hq := h (s.heap.objs.size + 1) s.heap.objs.size (I.hok.fresh (Nat.le_succ _)) (I.hok.fresh (Nat.le_refl _)) (by simp)
  have I2 := Inv.made (C := C) I
  have r2 : Vals (V.ref (s.heap.objs.size + 1) :: (vs ++ dvs)) (Value.ref (s.heap.objs.size + 1) :: (us ++ ds)) := .cons rfl (Vals.append r hd)
  have hl : (Value.ref (s.heap.objs.size + 1) :: us ++ ds).length = ps.length := (Vals.length r2).symm.trans (F.len _ _ _ _ hq)
  have run := F.run _ X.stack _ _ ⟨Value.ref (s.heap.objs.size + 1) :: us, []⟩ (Value.ref (s.heap.objs.size + 1) :: (us ++ ds)) _ _ (E σ) (hr.make C us []) (make_guards hgd) (I2.env0.make C us [])
    (hb _ (Value.ref (s.heap.objs.size + 1) :: us) I2.kIn hl) r2 hq
  refine wpAny_call (make_map (f := f) I.kIn M.makes M.init (beq_iff_eq.mp M.fn) (codeAny_mono run (fun r s' hq' => ?_)))
  match r, hq' with
  | .error e, hq' => exact hx2 I2 hq'
  | .ok (.ret u), hq' =>
    obtain ⟨v, H', I3, rv, ev, q3⟩ := I2.after hq'
    subst ev
    exact ⟨rv, V.ref (s.heap.objs.size + 1), H', I3, rfl, q3⟩
  | .ok .next, hq' => exact False.elim hq'
  | .ok .brk, hq' => exact False.elim hq'
  | .ok .cont, hq' => exact False.elim hq'
theorem g_makeE (M : Mk X.K C f) (F : FnG X.prog X.w X.K X.mg X.base X0 k f fd ps sp) (hr : Room (k + 1) X.A) (hgd : X.A.guards = some []) (hg : Gl X x) (hm : X.mg x = some (.ref C)) (hb : Binds X.K fd ps ds) (hd : Vals dvs ds) (hx : ∀ σ, PassesAt X0 X σ (E σ))
    (ha : PA X (e :: es) t) (hdb : (x == ("__debug__" : Str)) = false := by decide) (he : starEach (e :: es) X.env = (false, eval e X.env) :: starEach es X.env := by rfl)
    (hpl : (backTo pos (starEach es X.env)).any (·.1) = false := by rfl) : PE X (.Call (.Name x p) (e :: es) [] pos) (tMakeE C sp dvs E t) := by
  constructor
  intro pins s σ H Q I h
  refine wpAny_Call_Name_kw (ld_glob I hg hm (PySem.W.callWith_K (h₀ := X.base) I.ok.mod.kin M.kp ?_ he hpl) hdb)
  exact thn (ha.run pos pins s σ H _ I h) (fun us s1 ⟨vs, H1, I1, r, q⟩ => ⟨I1.kIn, run_mke M F hr hgd hb hd (hx σ) (fun {H2 e s2 s'} J c => hx σ _ H2 s2 e s' J c) I1 r q⟩)
end
/-! ### an own error's __init__, and its raise -/
def spErr (K : PySem.W.Frag) (f : Str) : Sp := fun vs H Q _ => ∃ (a C : Addr) (v : V), vs = [.ref a, v] ∧ OexC K C ∧ PySem.W.findIn K (.ref C) f = some none ∧ H a = some (exo a C none) ∧
  ∀ dx, H dx = none → dx ≠ a → Q .non (upd (upd H dx (exd dx [(f, v)])) a (exo a C (some dx)))
section
variable {K : PySem.W.Frag} {σ : L2.St} {H : Hp} {Q : VK}
theorem i_mkE {C : Addr} {f : Str} {v : V} {W : XK} (T : OexC K C) (hf : PySem.W.findIn K (.ref C) f = some none) (q : ∀ d, H d = none → W (.ref C) (some d) (upd H d (.xd [(f, v)]))) :
    [v].length ≤ 1000 ∧ ∀ a, H a = none → spErr K f (.ref a :: ([v] ++ [])) (upd H a (exo a C none))
      (fun v H2 => v = .non ∧ ∃ (d : Addr) (fs : List (Str × V)), H2 a = some (exo a C (some d)) ∧ H2 d = some (exd d fs) ∧ H d = none ∧ W (.ref C) (some d) (upd (del H2 a) d (.xd fs))) (fun _ _ _ => False) := by
  refine ⟨by show 1 ≤ 1000; decide, fun a ha => ⟨a, C, v, rfl, T, hf, upd_same, fun dx hdx ne => ⟨rfl, dx, [(f, v)], upd_same, by rw [upd_ne ne, upd_same], freeU hdx, ?_⟩⟩⟩
  have e : upd (del (upd (upd (upd H a (exo a C none)) dx (exd dx [(f, v)])) a (exo a C (some dx))) a) dx (.xd [(f, v)]) = upd H dx (.xd [(f, v)]) := by
    funext b
    by_cases h1 : b = dx
    · rw [h1, upd_same, upd_same]
    · rw [upd_ne h1, upd_ne h1]
      by_cases h2 : b = a
      · rw [h2, del_same, ha]
      · rw [del_ne h2, upd_ne h2, upd_ne h1, upd_ne h2]
  rw [e]
  exact q dx (freeU hdx)
theorem i_kinit {ta : TA} (h : ta σ H fun vs H1 => ∃ (a C : Addr) (ws : List V), vs = .ref a :: ws ∧ ws.length ≤ 1000 ∧ OexC K C ∧ H1 a = some (exo a C none) ∧ Q .non H1) : tVeI K ta σ H Q := h
theorem i_ost {f : Str} {to te : TE} {D : Ends} (h : te σ H fun y H1 => to σ H1 fun x H2 => ∃ a C : Addr, x = .ref a ∧ OexC K C ∧ PySem.W.findIn K (.ref C) f = some none ∧
    ((H2 a = some (exo a C none) ∧ ∀ dx, H2 dx = none → dx ≠ a → D.nx σ (upd (upd H2 dx (exd dx [(f, y)])) a (exo a C (some dx)))) ∨
      ∃ (dx : Addr) (fs : List (Str × V)), H2 a = some (exo a C (some dx)) ∧ H2 dx = some (exd dx fs) ∧ fs.length ≤ 900 ∧ D.nx σ (upd H2 dx (exd dx ((f, y) :: fs))))) : tOst K f to te D σ H := h
theorem i_mkO {C : Addr} {sp : Sp} {dvs : List V} {ta : TA} {W : XK} (h : ta σ H fun vs H1 => vs.length ≤ 1000 ∧ ∀ a, H1 a = none → sp (.ref a :: (vs ++ dvs)) (upd H1 a (exo a C none))
    (fun v H2 => v = .non ∧ ∃ (d : Addr) (fs : List (Str × V)), H2 a = some (exo a C (some d)) ∧ H2 d = some (exd d fs) ∧ H1 d = none ∧ W (.ref C) (some d) (upd (del H2 a) d (.xd fs))) (fun _ _ _ => False)) : tMkO C sp dvs ta σ H W := h
theorem i_callE {sp : Sp} {dvs : List V} {E : L2.St → XK} {t : TA} (h : t σ H fun vs H1 => sp (vs ++ dvs) H1 Q (E σ)) : tCallE sp dvs E t σ H Q := h
theorem i_makeE {C : Addr} {sp : Sp} {dvs : List V} {E : L2.St → XK} {t : TA} (h : t σ H fun vs H1 => ∀ x dx, H1 x = none → H1 dx = none → dx ≠ x →
    sp (.ref x :: (vs ++ dvs)) (upd (upd H1 dx (.own x)) x (.ins C dx [])) (fun v H2 => v = .non ∧ Q (.ref x) H2) (E σ)) : tMakeE C sp dvs E t σ H Q := h
theorem i_xf {a C dd : Addr} {cls : Value} {f : Str} {te : TE} (h : te σ H fun x H1 => x = .ref a ∧ cls = .ref C ∧ ∃ (d' : Addr) (fs : List (Str × V)) (v : V), some dd = some d' ∧ H1 d' = some (.xd fs) ∧ fs.lookup f = some v ∧ Q v H1) : tXf a cls (some dd) C f te σ H Q := h
theorem i_sfld {ta tv : TE} {f : Str} {D : Ends} (h : tv σ H fun y H1 => ta σ H1 fun x H2 => ∃ a C dx fs, x = .ref a ∧ H2 a = some (.ins C dx fs) ∧ Cls K C ∧ NoAttr K C f ∧ fs.length < 1000 ∧ D.nx σ (upd H2 a (.ins C dx (putF f y fs)))) : sFld K ta tv f D σ H := h
end
end Ice
namespace Ice
open PySem PySem.Spec PyProof.Rows L2
theorem putF_new {f : Str} {v : V} : ∀ {fs : List (Str × V)}, f ∉ fs.map (·.1) → putF f v fs = fs ++ [(f, v)]
  | [], _ => rfl
  | (g, u) :: r, h => by
    have h1 : ¬ g = f := fun e => h (by rw [e]; exact List.mem_cons_self ..)
    have h2 : f ∉ r.map (·.1) := fun e => h (List.mem_cons_of_mem _ e)
    show (if g = f then (g, v) :: r else (g, u) :: putF f v r) = _
    rw [if_neg h1, putF_new h2]
    rfl
theorem i_store {K : PySem.W.Frag} {H : Hp} {x C dx : Addr} {fs : List (Str × V)} {f : Str} {y : V} {N : Hp → Prop} (hx : H x = some (.ins C dx fs)) (cl : Cls K C) (na : NoAttr K C f) (hl : fs.length ≤ 900) (hf : f ∉ fs.map (·.1))
    (q : N (upd H x (.ins C dx (fs ++ [(f, y)])))) : ∃ a C dx fs, V.ref x = .ref a ∧ H a = some (.ins C dx fs) ∧ Cls K C ∧ NoAttr K C f ∧ fs.length < 1000 ∧ N (upd H a (.ins C dx (putF f y fs))) :=
  ⟨x, C, dx, fs, rfl, hx, cl, na, by omega, by rw [putF_new hf]; exact q⟩
end Ice

set_option Elab.async false
set_option linter.all false
set_option maxRecDepth 100000
set_option maxHeartbeats 4000000
set_option autoImplicit false
/-! repr of rows of plain things; a thing compared with a text. -/
namespace Ice
open PySem PySem.Spec PyProof.Rows L2
/-- a plain thing whose repr is short -/
inductive Ps : V → PyData → Prop
  | non : Ps .non .none
  | bl (b : Bool) : Ps (.bl b) (.bool b)
  | int {i : Int} : i.natAbs < 10 ^ 60 → Ps (.int i) (.int i)
  | str {x : Str} : x.length ≤ 64 → (∀ c ∈ x.cps.toList, c < 128) → Ps (.str x) (.str x)
inductive PsAll : List V → List PyData → Prop
  | nil : PsAll [] []
  | cons {v : V} {vs : List V} {d : PyData} {ds : List PyData} : Ps v d → PsAll vs ds → PsAll (v :: vs) (d :: ds)
section
variable {K : PySem.W.Frag} {H : Hp}
theorem Ps.dp {v : V} {d : PyData} (h : Ps v d) : Dp K H v d := by
  cases h with
  | non => exact .non
  | bl b => exact .bl b
  | int _ => exact .int _
  | str _ _ => exact .str _
theorem Ps.show {v : V} {d : PyData} (h : Ps v d) : d.showable = true ∧ d.depth = 0 ∧ d.shown.length ≤ 650 := by
  cases h with
  | non => exact ⟨rfl, rfl, by decide +kernel⟩
  | bl b => exact ⟨rfl, rfl, by cases b <;> decide +kernel⟩
  | @int i h =>
    refine ⟨decide_eq_true (Nat.lt_trans (PySem.Flt.log2_lt_of (k := 200) (by decide) (Nat.lt_trans h (by decide))) (by decide)), rfl, ?_⟩
    have := int_text_length_le10 (a := i) (k := 60) (by decide) h
    show (Str.ofString (toString i)).length ≤ _
    rw [PySem.ofString_length]; omega
  | @str x h1 h2 =>
    have b := PySem.StrLaws.reprText_len x (fun c h => Nat.lt_trans (h2 c h) (by decide))
    refine ⟨rfl, rfl, ?_⟩
    show (reprText x).length ≤ _
    omega
theorem PsAll.dp : ∀ {vs : List V} {ds : List PyData}, PsAll vs ds → DpAll K H vs ds
  | _, _, .nil => .nil
  | _, _, .cons h t => .cons h.dp t.dp
theorem PsAll.show {vs : List V} {ds : List PyData} (h : PsAll vs ds) : PyData.showableAll ds = true ∧ PyData.depthAll ds = 0 ∧ ((PyData.shownAll ds).map (·.length)).sum ≤ 650 * ds.length ∧ (PyData.shownAll ds).length = ds.length := by
  induction h with
  | nil => exact ⟨rfl, rfl, by decide +kernel, rfl⟩
  | @cons v vs d ds h t ih =>
    obtain ⟨a1, a2, a3, a4⟩ := ih
    obtain ⟨b1, b2, b3⟩ := h.show
    refine ⟨?_, ?_, ?_, ?_⟩
    · show (d.showable && PyData.showableAll ds) = true
      rw [b1, a1]; rfl
    · show max d.depth (PyData.depthAll ds) = 0
      rw [b2, a2]; rfl
    · show ((d.shown :: PyData.shownAll ds).map (·.length)).sum ≤ _
      rw [List.map_cons, List.sum_cons, List.length_cons]
      omega
    · show (d.shown :: PyData.shownAll ds).length = _
      rw [List.length_cons, a4, List.length_cons]
theorem PsAll.len {vs : List V} {ds : List PyData} (h : PsAll vs ds) : ds.length = vs.length := by
  induction h with
  | nil => rfl
  | cons _ _ ih => rw [List.length_cons, List.length_cons, ih]
theorem Ps.rp {v : V} {d : PyData} (h : Ps v d) : Rp K H v d := by
  obtain ⟨b1, b2, b3⟩ := h.show
  exact ⟨.inl h.dp, b1, by omega, sz_of (by omega)⟩
theorem Rp.tupP {p : Addr} {vs : List V} {ds : List PyData} (hp : H p = some (.tup vs)) (h : PsAll vs ds) (hl : vs.length ≤ 20) : Rp K H (.ref p) (.tuple ds) := by
  obtain ⟨a1, a2, a3, a4⟩ := h.show
  have hl2 := h.len
  have b := PySem.tupleText_len_le (PyData.shownAll ds)
  refine ⟨.inl (.tup (SqT.tup hp) h.dp), a1, ?_, ?_⟩
  · show PyData.depthAll ds + 1 ≤ _
    omega
  · show (PySem.tupleText (PyData.shownAll ds)).length ≤ _
    exact sz_of (by omega)
theorem Rp.lstP {p : Addr} {vs : List V} {ds : List PyData} (hp : H p = some (.lst vs)) (h : PsAll vs ds) (hl : vs.length ≤ 20) : Rp K H (.ref p) (.list ds) := by
  obtain ⟨a1, a2, a3, a4⟩ := h.show
  have hl2 := h.len
  have b := PySem.listText_len_le (PyData.shownAll ds)
  refine ⟨.inl (.lst (SqL.lst hp) h.dp), a1, ?_, ?_⟩
  · show PyData.depthAll ds + 1 ≤ _
    omega
  · show (PySem.listText (PyData.shownAll ds)).length ≤ _
    exact sz_of (by omega)
theorem Rp.dct0 {p : Addr} (hp : H p = some (.dK [])) : Rp K H (.ref p) (.dict []) :=
  ⟨.inr (.dct (ds := []) hp .nil), rfl, by decide, by decide +kernel⟩
end
section
variable {P : Program} {w : World} {A : Around} {E : Value → Shared → Prop} {s : Shared}
theorem str_declines_dict (b : Str) (u : Tok) (l : Addr) (c : Value) (es : Array DictEntry) (n : Nat) (dd : Option Addr) (sl : Array (Option Value)) :
    Meets (Builtin.«str.__eq__» ⟨[.str b u, .ref l], []⟩) (fun _ R s => s.heap.get? l = some { cls := c, dict := dd, data := .dict es n, slots := sl } ∧ R (.ok (.ret .notImplemented)) s) :=
  .of_wp fun prog w A R s h => by obtain ⟨hp, g, d, tk, os⟩ := s; obtain ⟨hl, h⟩ := h; wp_walk using PySem.AutoSeq1.wpAny_loadPart' hl, wpAny_load hl; exact ⟨_, rfl, h⟩
theorem dict_eq_str {l : Addr} {b : Str} {u : Tok} {o : Obj} {es : Array DictEntry} {n : Nat} (ho : s.heap.get? l = some o) (hc : o.cls = .type "dict") (hd : o.data = .dict es n) (hu : A.units < cLine) {Q : Value → Shared → Prop} (h : Q (.bool false) s) :
    wpAny (model P w) A (compareOp .Eq (.ref l) (.str b u)) Q E s := by
  have ht : s.TypeIs (.ref l) "dict" := ⟨o, ho, hc⟩
  refine PySem.SeqAt.rc_eq_decline_or (k := false) ht (typeIs_str s b u) (by decide) PySem.F.sub_str_dict PySem.F.slot_dict_eq PySem.F.slot_str_eq_refl ?_ ?_ ?_ (.inr hu) h
  · intro Q' hq
    refine wpAny_call_entry PySem.F.slot_dict_eq ht PySem.F.entry_dict_eq ?_ (PySem.F.args_dict_eq_2 _ _)
    show wpAny _ _ (Builtin.Dict.dictSlotArgs "__eq__" ⟨[.ref l, .str b u], []⟩ >>= _) _ _ s
    refine wpAny_bind ?_
    unfold Builtin.Dict.dictSlotArgs
    refine wpAny_bind (wpAny_notOrdered_dict ht ?_)
    show wpAny _ _ (pure (Value.ref l, Value.str b u)) _ _ s
    refine wpAny_pure ?_
    refine wpAny_bind (wpAny_isInstance (T := "str") (typeIs_str s b u) PySem.F.sub_str_dict ?_)
    refine wpAny_bind (wpAny_rule ?_)
    exact wpAny_pure ⟨_, rfl, hq⟩
  · intro Q' hq
    obtain ⟨cls, dd, data, sl⟩ := o
    simp only at hc hd
    subst hc hd
    exact call_meets PySem.F.slot_str_eq_refl (typeIs_str s b u) PySem.F.entry_str_eq (PySem.F.args_str_eq_2 _ _) (str_declines_dict b u l (.type "dict") es n dd sl) ⟨ho, hq⟩
  · intro Q' hq
    exact wpAny_of_eq (rfl : isSame (.ref l) (.str b u) = pure false) hq
end
theorem strOk_asc {x : Str} (h : ∀ c ∈ x.cps.toList, c < 128) : PySem.PyData.strOk x = true := by
  show x.cps.all (· < 0x110000) = true
  rw [Array.all_eq_true']
  intro c hc
  have := h c (by simpa using hc)
  simp
  omega
theorem shaped_str {x : Str} (h : ∀ c ∈ x.cps.toList, c < 128) : SeqAt.shaped (.str x) = true := by
  show (PySem.PyData.strOk x && decide (0 ≤ 64)) = true
  rw [strOk_asc h]; rfl
theorem Ps.lay {v : V} {d : PyData} (h : Ps v d) : d.canLay0 = true := by
  cases h with
  | str h1 h2 => exact strOk_asc h2
  | _ => rfl
theorem PsAll.lay {vs : List V} {ds : List PyData} (h : PsAll vs ds) : PyData.canLayAll0 ds = true := by
  induction h with
  | nil => rfl
  | @cons v vs d ds h t ih =>
    show (d.canLay0 && PyData.canLayAll0 ds) = true
    rw [h.lay, ih]; rfl
theorem Ps.shaped {v : V} {d : PyData} (h : Ps v d) : SeqAt.shaped d = true := by
  show (d.canLay0 && decide (d.depth ≤ 64)) = true
  rw [h.lay, h.show.2.1]; rfl
theorem PsAll.shapedL {vs : List V} {ds : List PyData} (h : PsAll vs ds) : SeqAt.shaped (.list ds) = true := by
  show (PyData.canLayAll0 ds && decide (PyData.depthAll ds + 1 ≤ 64)) = true
  rw [h.lay, h.show.2.1]; rfl
theorem PsAll.shapedT {vs : List V} {ds : List PyData} (h : PsAll vs ds) : SeqAt.shaped (.tuple ds) = true := by
  show (PyData.canLayAll0 ds && decide (PyData.depthAll ds + 1 ≤ 64)) = true
  rw [h.lay, h.show.2.1]; rfl
/-- a thing that may be compared with a text -/
def Tq (K : PySem.W.Frag) (H : Hp) (v : V) : Prop := (∃ d, Dp K H v d ∧ SeqAt.shaped d = true) ∨ ∃ a kvs, v = .ref a ∧ H a = some (.dK kvs)
def rEqS (K : PySem.W.Frag) : R2 := fun x y H Q => ∃ s, y = .str s ∧ (∀ c ∈ s.cps.toList, c < 128) ∧ Tq K H x ∧ Q (.bl (decide (x = .str s))) H
theorem eqv_str {K : PySem.W.Frag} {H : Hp} {v : V} {d : PyData} {s : Str} (h : Dp K H v d) : PyData.eqv d (.str s) = decide (v = .str s) := by
  cases h with
  | str x =>
    show (x == s) = _
    by_cases e : x = s
    · subst e; simp
    · rw [decide_eq_false (fun z => e (by injection z))]
      exact beq_eq_false_iff_ne.mpr e
  | non => rfl
  | bl b => cases b <;> rfl
  | int i => rfl
  | lst _ _ => rfl
  | tup _ _ => rfl
section
variable {K : PySem.W.Frag} {H : Hp}
theorem Tq.ps {v : V} {d : PyData} (h : Ps v d) : Tq K H v := .inl ⟨d, h.dp, h.shaped⟩
theorem Tq.lst {p : Addr} {vs : List V} {ds : List PyData} (hp : H p = some (.lst vs)) (h : PsAll vs ds) : Tq K H (.ref p) := .inl ⟨_, .lst (SqL.lst hp) h.dp, h.shapedL⟩
theorem Tq.tup {p : Addr} {vs : List V} {ds : List PyData} (hp : H p = some (.tup vs)) (h : PsAll vs ds) : Tq K H (.ref p) := .inl ⟨_, .tup (SqT.tup hp) h.dp, h.shapedT⟩
theorem Tq.dct {p : Addr} {kvs : List (Key × V)} (hp : H p = some (.dK kvs)) : Tq K H (.ref p) := .inr ⟨_, _, rfl, hp⟩
theorem i_eqS {x : V} {z : Str} {Q : VK} (hz : ∀ c ∈ z.cps.toList, c < 128) (h : Tq K H x) (q : Q (.bl (decide (x = .str z))) H) : rEqS K x (.str z) H Q := ⟨z, rfl, hz, h, q⟩
end
section
variable {X : Cx}
theorem o_eqS (hu : X.A.units + 110 < cLine) : OpR X (compareOp .Eq) (rEqS X.K) := by
  intro pins s σ H x y v u Q I rx ry h
  obtain ⟨z, rfl, hz, hx, q⟩ := h
  rcases hx with ⟨d, hd, sd⟩ | ⟨a, kvs, rfl, ha⟩
  · refine op_eqD (by omega) pins s σ H x _ v u Q I rx ry ⟨d, .str z, hd, .str z, sd, shaped_str hz, ?_⟩
    rw [eqv_str hd]
    exact q
  · cases (show v = .ref a from rx)
    obtain ⟨t, rfl⟩ := (show ∃ t, u = .str z t from ry)
    obtain ⟨_, hn, us, rv, o, es, ep, e1, e2, e3, _, e4, _⟩ := I.hok a _ ha
    exact dict_eq_str e1 e2.1 e3 (by omega) ⟨.bl false, H, I, rfl, by rw [decide_eq_false (by intro z; cases z)] at q; exact q⟩
end
section
variable {K : PySem.W.Frag} {σ : L2.St} {H : Hp} {Q : VK}
theorem i_fld {ta : TE} {f : Str} (h : ta σ H fun x H1 => ∃ a C dx fs v, x = .ref a ∧ H1 a = some (.ins C dx fs) ∧ Cls K C ∧ NoAttr K C f ∧ fs.lookup f = some v ∧ Q v H1) : tFld K ta f σ H Q := h
theorem i_fld1 {x C dx : Addr} {fs : List (Str × V)} {f : Str} {v : V} (hx : H x = some (.ins C dx fs)) (cl : Cls K C) (na : NoAttr K C f) {B : V → Prop} (hl : fs.lookup f = some v) (q : B v) :
    ∃ a C dx fs v, V.ref x = .ref a ∧ H a = some (.ins C dx fs) ∧ Cls K C ∧ NoAttr K C f ∧ fs.lookup f = some v ∧ B v := ⟨x, C, dx, fs, v, rfl, hx, cl, na, hl, q⟩
end
theorem un110 {k : Nat} {A : Around} (hr : Room k A) : A.units + 110 < cLine := by have := hr.un; omega
theorem c_reprS {X : Cx} {a : Addr} {pn : List (Addr × Obj)} (hgd : X.A.guards = some []) (hu : X.A.units + 110 < cLine) : CallR (X.suite a pn) (.builtin "repr") (rRepr X.K) := c_repr (X := X.suite a pn) hgd hu
section
variable {K : PySem.W.Frag} {σ : L2.St} {H : Hp} {Q : VK}
theorem i_methE {C : Addr} {m : Str} {sp : Sp} {dvs : List V} {E : L2.St → XK} {ta : TE} {t : TA} (h : ta σ H fun x H1 => ∃ a dx fs, x = .ref a ∧ H1 a = some (.ins C dx fs) ∧ fs.lookup m = none ∧ t σ H1 fun vs H2 => sp (x :: (vs ++ dvs)) H2 Q (E σ)) : tMethE C m sp dvs E ta t σ H Q := h
theorem i_meth {C : Addr} {m : Str} {sp : Sp} {dvs : List V} {E : XK} {ta : TE} {t : TA} (h : ta σ H fun x H1 => ∃ a dx fs, x = .ref a ∧ H1 a = some (.ins C dx fs) ∧ fs.lookup m = none ∧ t σ H1 fun vs H2 => sp (x :: (vs ++ dvs)) H2 Q E) : tMeth C m sp dvs E ta t σ H Q := h
theorem i_make {C : Addr} {sp : Sp} {dvs : List V} {E : XK} {t : TA} (h : t σ H fun vs H1 => ∀ x dx, H1 x = none → H1 dx = none → dx ≠ x → sp (.ref x :: (vs ++ dvs)) (upd (upd H1 dx (.own x)) x (.ins C dx [])) (fun v H2 => v = .non ∧ Q (.ref x) H2) E) : tMake C sp dvs E t σ H Q := h
theorem i_obj {x C dx : Addr} {fs : List (Str × V)} {m : Str} {B : Prop} (hx : H x = some (.ins C dx fs)) (hl : fs.lookup m = none) (q : B) : ∃ a dx fs, V.ref x = .ref a ∧ H a = some (.ins C dx fs) ∧ fs.lookup m = none ∧ B := ⟨x, dx, fs, rfl, hx, hl, q⟩
end
section
variable {K : PySem.W.Frag} {σ : L2.St} {H : Hp} {D : Ends}
theorem i_runS {c : Value} {i : Nat} {ts : Addr → Value → Option Addr → TS} {a : Addr} {cls : Value} {d : Option Addr} (h : ts a cls d (goneE i D) (σ.set i (some (.ref a))) H) : (Hd.mk c (some i) ts).run a cls d D σ H := h
theorem i_runN {c : Value} {ts : Addr → Value → Option Addr → TS} {a : Addr} {cls : Value} {d : Option Addr} (h : ts a cls d D σ H) : (Hd.mk c none ts).run a cls d D σ H := h
theorem i_xf1 {a C dd : Addr} {fs : List (Str × V)} {f : Str} {v : V} {B : V → Prop} (hd : H dd = some (.xd fs)) (hl : fs.lookup f = some v) (q : B v) :
    V.ref a = .ref a ∧ Value.ref C = .ref C ∧ ∃ (d' : Addr) (fs : List (Str × V)) (v : V), some dd = some d' ∧ H d' = some (.xd fs) ∧ fs.lookup f = some v ∧ B v := ⟨rfl, rfl, dd, fs, v, rfl, hd, hl, q⟩
end
def rIntB : List V → Hp → VK → Prop := fun xs H Q => ∃ k, xs = [.bl k] ∧ Q (.int (if k then 1 else 0)) H
theorem c_intB {X : Cx} : CallR X (.type "int") rIntB := fun pins s σ H xs us Q I r h => call_int1 pins s σ H xs us Q I r (.inr h)
theorem i_intB {k : Bool} {H : Hp} {Q : VK} (q : Q (.int (if k then 1 else 0)) H) : rIntB [.bl k] H Q := ⟨k, rfl, q⟩
theorem i_glst {K : PySem.W.Frag} {n : Nat} {t : TGs} {a : Addr} {xs : List V} {σ : L2.St} {H : Hp} {Q : L2.St → Hp → Prop} (hS : SqL K H a xs) (hl : xs.length = n) (q : t xs σ H Q) : gLst K n t (.ref a) σ H Q := ⟨a, xs, rfl, hS, hl, q⟩
end Ice

set_option Elab.async false
set_option linter.all false
set_option maxRecDepth 100000
set_option maxHeartbeats 4000000
set_option autoImplicit false
/-! Base.__init__(self, ..) of an own class, where Base is an own class with an own __init__. -/
namespace Ice
open PySem PySem.Spec PyProof.Rows L2
section
variable {X : Cx} {X0 : CXT} {k : Nat} {f B : Addr} {fd : FuncData} {ps : List Str} {sp : Sp} {dvs : List V} {ds : List Value} {E : L2.St → XK} {x : Str} {p1 p2 pos : Pos} {e : Expr} {es : List Expr} {t : TA}
/-- what is known of a class whose __init__ is read of itself -/
structure Kin (K : PySem.W.Frag) (B f : Addr) : Prop where
  sp : PySem.W.specialIn K (.ref B) "__getattribute__" = some (some (.builtin "type.__getattribute__"))
  ty : PySem.W.typeIn K (.ref B) = some (.type "type")
  rd : PySem.W.readsIn K B (.type "type") = true
  fc : PySem.W.findCls K (.ref B) (.type "type") "__init__" = some (.val (.ref f))
  kp : PySem.W.keepIn K (.ref f) = true
theorem g_kinitE {pl : Sem Bool} (kin : Kin X.K B f) (F : FnG X.prog X.w X.K X.mg X.base X0 k f fd ps sp) (hr : Room k X.A) (hgd : X.A.guards = some []) (hg : Gl X x) (hm : X.mg x = some (.ref B)) (hb : Binds X.K fd ps ds) (hd : Vals dvs ds)
    (hx : ∀ σ, PassesAt X0 X σ (E σ)) (ha : PA X (e :: es) t) (hdb : (x == ("__debug__" : Str)) = false := by decide)
    (hc : eval (.Call (.Attribute (.Name x p1) "__init__" p2) (e :: es) [] pos) X.env =
      (do let ov ← eval (.Name x p1) X.env; standAt p2.atName; let (f, first) ← holding [ov] (getMethod ov "__init__" pl); callWith pos f first (backTo pos (starEach (e :: es) X.env)) (backToKw pos (keywordEach [] X.env))) := by rfl)
    (he : starEach (e :: es) X.env = (false, eval e X.env) :: starEach es X.env := by rfl) (hpl : (backTo pos (starEach es X.env)).any (·.1) = false := by rfl) :
    PE X (.Call (.Attribute (.Name x p1) "__init__" p2) (e :: es) [] pos) (tCallE sp dvs E t) := by
  constructor
  intro pins s σ H Q I h
  refine PySem.W.methodCall_KW (ld_glob I hg hm ?_ hdb) hc
  obtain ⟨m, fr⟩ := I.fr
  refine PySem.W.method_of_cls fr I.ok.mod.kin kin.sp (PySem.W.cls_val fr I.ok.mod.kin kin.ty kin.rd kin.fc (by rfl) ?_)
  show wpAny _ _ (callWith pos (Value.ref f) [] (backTo pos (starEach (e :: es) X.env)) []) _ _ _
  refine PySem.W.callWith_K (h₀ := X.base) I.ok.mod.kin kin.kp ?_ he hpl
  exact thn (ha.run pos pins _ σ H _ (I.tok _) h) (fun us s1 ⟨vs, H1, I1, r, q⟩ => ⟨I1.kIn, run_ge F hr hgd hb hd (hx σ) I1 r q⟩)
end
end Ice

set_option Elab.async false
set_option linter.all false
set_option maxRecDepth 100000
set_option maxHeartbeats 4000000
set_option autoImplicit false
/-! things that equal themselves; one expression read in two ways. -/
namespace Ice
open PySem PySem.Spec PyProof.Rows L2 SeqAt
/-- one reading or another -/
def tAlt (t1 t2 : TE) : TE := fun σ H Q => t1 σ H Q ∨ t2 σ H Q
theorem pe_alt {X : Cx} {e : Expr} {t1 t2 : TE} (h1 : PE X e t1) (h2 : PE X e t2) : PE X e (tAlt t1 t2) :=
  ⟨fun pins s σ H Q I h => h.elim (h1.run pins s σ H Q I) (h2.run pins s σ H Q I)⟩
theorem i_altL {t1 t2 : TE} {σ : L2.St} {H : Hp} {Q : VK} (h : t1 σ H Q) : tAlt t1 t2 σ H Q := .inl h
theorem i_altR {t1 t2 : TE} {σ : L2.St} {H : Hp} {Q : VK} (h : t2 σ H Q) : tAlt t1 t2 σ H Q := .inr h
theorem i_aug {i : Nat} {te : TE} {ti : TIp} {D : Ends} {σ : L2.St} {H : Hp} {x : V} (hx : σ[i]? = some (some x)) (h : te σ H fun y H1 => ti x y H1 fun z H2 => D.nx (σ.set i (some z)) H2) : tAug i te ti D σ H := ⟨x, hx, h⟩
theorem i_ipI {f : Int → Int → Int} {i j : Int} {H : Hp} {Q : VK} (q : Q (.int (f i j)) H) : ipI f (.int i) (.int j) H Q := ⟨i, j, rfl, rfl, q⟩
theorem ps_alt {X : Cx} {st : Stmt} {t1 t2 : TS} (h1 : PS X st t1) (h2 : PS X st t2) : PS X st (fun D σ H => t1 D σ H ∨ t2 D σ H) :=
  ⟨fun pins s σ H D I h => h.elim (h1.run pins s σ H D I) (h2.run pins s σ H D I)⟩
/-- rules within a comprehension: their readings may not name its frame -/
theorem pe_fldB {X : Cx} {s : Shared} {H : Hp} {scope : Scope} {env : Env} {fp : List Addr} {e : Expr} {te : TE} {f : Str} {pos : Pos} (he : PE (X.blk s H scope env fp) e te) (hb : attributeBase e f env (eval e env) = eval e env := by rfl) : PE (X.blk s H scope env fp) (.Attribute e f pos) (tFld X.K te f) := pe_fld he hb
/-- an item that is the same on both sides -/
def It1 (v : V) : Prop := (∃ b, v = .ref b) ∨ ∃ d, Ps v d
theorem eqAt_item {A : Around} {s : Shared} {v : V} {u u' : Value} (h : It1 v) (r : RelV v u) (r' : RelV v u') : EqAt A s u u' true := by
  rcases h with ⟨b, rfl⟩ | ⟨d, h⟩
  · cases (show u = .ref b from r)
    cases (show u' = .ref b from r')
    exact EqAt.same _
  · cases h with
    | non =>
      cases (show u = .none from r)
      cases (show u' = .none from r')
      exact EqAt.same _
    | bl b =>
      cases (show u = .bool b from r)
      cases (show u' = .bool b from r')
      exact EqAt.same _
    | @int i _ =>
      obtain ⟨t, rfl⟩ := (show ∃ t, u = .int i t from r)
      obtain ⟨t', rfl⟩ := (show ∃ t, u' = .int i t from r')
      have := (MeetsSeq.EqGives.int i i t t').at A s
      rwa [show (i == i) = true by simp] at this
    | @str x _ _ =>
      obtain ⟨t, rfl⟩ := (show ∃ t, u = .str x t from r)
      obtain ⟨t', rfl⟩ := (show ∃ t, u' = .str x t from r')
      have := (SeqRoads2.EqGives.str x x t t').at A s
      rwa [show (x.cps.toList == x.cps.toList) = true by simp] at this
theorem eqAt_items {A : Around} {s : Shared} {vs : List V} {as bs : List Value} (h : ∀ v ∈ vs, It1 v) (ra : Vals vs as) (rb : Vals vs bs) (j : Nat) (h1 : j < as.toArray.size) (h2 : j < bs.toArray.size) : EqAt A s as.toArray[j] bs.toArray[j] true := by
  have l1 : vs.length = as.length := ra.length
  have hj : j < vs.length := by rw [l1]; simpa using h1
  obtain ⟨u, hu, ru⟩ := ra.get (List.getElem?_eq_getElem hj)
  obtain ⟨u2, hu2, ru2⟩ := rb.get (List.getElem?_eq_getElem hj)
  have e1 : as.toArray[j] = u := by
    have : as[j]? = some as.toArray[j] := by simp
    exact Option.some.inj (this.symm.trans hu)
  have e2 : bs.toArray[j] = u2 := by
    have : bs[j]? = some bs.toArray[j] := by simp
    exact Option.some.inj (this.symm.trans hu2)
  rw [e1, e2]
  exact eqAt_item (h _ (List.getElem_mem hj)) ru ru2
theorem all_true (n : Nat) : ((List.range n).all fun _ => true) = true := by simp
/-- two lists of the same items -/
def rEqSm (K : PySem.W.Frag) : R2 := fun x y H Q => ∃ a b vs, x = .ref a ∧ y = .ref b ∧ SqL K H a vs ∧ SqL K H b vs ∧ (∀ v ∈ vs, It1 v) ∧ Q (.bl true) H
def rNeSm (K : PySem.W.Frag) : R2 := fun x y H Q => ∃ a b vs, x = .ref a ∧ y = .ref b ∧ SqL K H a vs ∧ SqL K H b vs ∧ (∀ v ∈ vs, It1 v) ∧ Q (.bl false) H
section
variable {X : Cx}
theorem op_neSm (hu : X.A.units + 64 < cLine) : OpR X (compareOp .NotEq) (rNeSm X.K) := by
  intro pins s σ H x y v u Q I rx ry h
  obtain ⟨a, b, vs, rfl, rfl, ha, hb, hv, q⟩ := h
  cases (show v = .ref a from rx)
  cases (show u = .ref b from ry)
  obtain ⟨as, ra, p1, _⟩ := I.list ha
  obtain ⟨bs, rb, p2, _⟩ := I.list hb
  have hsz : as.toArray.size = bs.toArray.size := by
    have l1 := ra.length; have l2 := rb.length
    simp; omega
  have z := RcNeAt.lists (A := X.A) (e := fun _ => true) p1.isList p2.isList hsz (by omega) (fun j h1 h2 => eqAt_items hv ra rb j h1 h2)
  rw [all_true] at z
  exact z X.prog X.w X.xe _ ⟨.bl false, H, I, rfl, q⟩
end
/-- what equals itself -/
inductive Self (K : PySem.W.Frag) (H : Hp) : V → Prop
  | ps {v : V} {d : PyData} : Ps v d → Self K H v
  | lst {a : Addr} {vs : List V} : SqL K H a vs → (∀ v ∈ vs, It1 v) → Self K H (.ref a)
  | tup {a : Addr} {vs : List V} : SqT K H a vs → (∀ v ∈ vs, It1 v) → Self K H (.ref a)
  | dct {a : Addr} : H a = some (.dK []) → Self K H (.ref a)
  | ins {a C dx : Addr} {fs : List (Str × V)} : H a = some (.ins C dx fs) → PySem.W.mroIn K C (.type "object") = some true → PySem.W.findIn K (.ref C) "__eq__" = some (some (.builtin "object.__eq__")) → Self K H (.ref a)
section
variable {M : Model} {prog : Program} {w : World} {A : Around} {E : Value → Shared → Prop} {s : Shared} {K : PySem.W.Frag} {x C : Addr} {ox : Obj} {od : Option Obj}
theorem rc_self (hu : A.units < cLine) (X : K.In s.heap) (I : PySem.W.InstAt s.heap x ox C od) (hm : PySem.W.mroIn K C (.type "object") = some true) (hs : PySem.W.findIn K (.ref C) "__eq__" = some (some (.builtin "object.__eq__"))) :
    RcAt A s (.ref x) (.ref x) true := fun prog w E Q h => by
  have one : ∀ {E : Value → Shared → Prop}, wpAny (model prog w) A (tryCompare (.ref x) "__eq__" (.ref x)) (fun r s' => r = some (.bool true) ∧ s' = s) E s := by
    intro E
    unfold tryCompare
    refine wpAny_bind (HN.ifBound_objEq X I hs ?_)
    exact wpAny_call (codeAny_call_builtin F.cmp_object.eq.plain F.cmpEntry_eq (PySem.W.check_slot F.cmpKind_eq F.cmpSplit_eq (I.type.andThen (PySem.W.looks_mroIn X hm)) (F.cmpArgs_eq _ _) (PySem.objEq_entry_same (wpAny_pure ⟨rfl, rfl⟩))))
  simp only [richCompare, cmpInfo_Eq, oneThing_ref]
  refine wpAny_holding (wpAny_bind (wpAny_cRoomFor hu ?_))
  refine wpAny_bind (I.type.here ?_)
  refine wpAny_bind (I.type.here ?_)
  rw [if_neg (by simp)]
  refine wpAny_bind (m := tryCompare (.ref x) _ (.ref x)) (wpAny_mono one (fun r s1 z => ?_) fun _ _ e => e)
  obtain ⟨z1, z2⟩ := z
  subst z1
  subst z2
  exact wpAny_pure h
end
/-- x == y where both are one thing, or alike plain ones -/
def rEqSf (K : PySem.W.Frag) : R2 := fun x y H Q => x = y ∧ Self K H x ∧ Q (.bl true) H
section
variable {X : Cx}
theorem op_eqSf (hu : X.A.units + 64 < cLine) : OpR X (compareOp .Eq) (rEqSf X.K) := by
  intro pins s σ H x y v u Q I rx ry h
  obtain ⟨rfl, hs, q⟩ := h
  cases hs with
  | @ps v d h =>
    refine op_eqD hu pins s σ H x x _ _ Q I rx ry ⟨d, d, h.dp, h.dp, h.shaped, h.shaped, ?_⟩
    rw [SeqAt.eqv_refl _ h.lay]
    exact q
  | @lst a vs ha hv =>
    cases (show v = .ref a from rx)
    cases (show u = .ref a from ry)
    obtain ⟨as, ra, p1, _⟩ := I.list ha
    have z := RcAt.lists (A := X.A) (e := fun _ => true) p1.isList p1.isList rfl (by omega) (fun j h1 h2 => eqAt_items hv ra ra j h1 h2)
    rw [all_true] at z
    exact z X.prog X.w X.xe _ ⟨.bl true, H, I, rfl, q⟩
  | @tup a vs ha hv =>
    cases (show v = .ref a from rx)
    cases (show u = .ref a from ry)
    obtain ⟨as, ra, p1, _⟩ := I.tuple ha
    have p2 : s.heap.IsTuple a as.toArray := p1
    have z := RcAt.tuples (A := X.A) (e := fun _ => true) p2 p2 (by omega) (fun j h1 h2 => eqAt_items hv ra ra j h1 h2)
    rw [all_true] at z
    simp only [beq_self_eq_true, Bool.and_self] at z
    exact z X.prog X.w X.xe _ ⟨.bl true, H, I, rfl, q⟩
  | @dct a ha =>
    cases (show v = .ref a from rx)
    cases (show u = .ref a from ry)
    obtain ⟨_, hn, vs, kv, hm⟩ := dk_of I.hok ha
    have : vs = [] := by cases kv; rfl
    subst this
    refine PySem.W.eq_dictsT (e := fun _ => true) hn hn hm hm (n := 0) (fun k v y h => by cases h) (by omega) ?_
    exact ⟨.bl true, H, I, rfl, q⟩
  | @ins a C dx fs ha hm he =>
    cases (show v = .ref a from rx)
    cases (show u = .ref a from ry)
    obtain ⟨mA, O, _⟩ := ins_get I.hok ha
    obtain ⟨od, J, _⟩ := O.look
    exact rc_self (by omega) I.kIn J hm he X.prog X.w X.xe _ ⟨.bl true, H, I, rfl, q⟩
end
end Ice

set_option Elab.async false
set_option linter.all false
set_option maxRecDepth 100000
set_option maxHeartbeats 4000000
set_option autoImplicit false
/-! own things compared: apart, in a list of own things, != of a thing with itself. -/
namespace Ice
open PySem PySem.Spec PyProof.Rows L2 SeqAt
section
variable {M : Model} {prog : Program} {w : World} {A : Around} {E : Value → Shared → Prop} {s : Shared} {K : PySem.W.Frag} {x y C D : Addr} {ox oy : Obj} {od od' : Option Obj}
theorem call_objEqO (X : K.In s.heap) (I : PySem.W.InstAt s.heap x ox C od) (hy : s.heap.get? y = some oy) (hxy : x ≠ y) (hm : PySem.W.mroIn K C (.type "object") = some true) {Q : Value → Shared → Prop} (hq : Q .notImplemented s) :
    wpAny (model prog w) A (call (.builtin "object.__eq__") [.ref x, .ref y]) Q E s :=
  wpAny_call (codeAny_call_builtin F.cmp_object.eq.plain F.cmpEntry_eq (PySem.W.check_slot F.cmpKind_eq F.cmpSplit_eq (I.type.andThen (PySem.W.looks_mroIn X hm)) (F.cmpArgs_eq _ _) (PySem.objEq_entry_other hxy I.1 hy (by rw [I.cls]; intro z; cases z) hq)))
theorem try_other (X : K.In s.heap) (I : PySem.W.InstAt s.heap x ox C od) (hy : s.heap.get? y = some oy) (hxy : x ≠ y) (hm : PySem.W.mroIn K C (.type "object") = some true) (hs : PySem.W.findIn K (.ref C) "__eq__" = some (some (.builtin "object.__eq__"))) :
    wpAny (model prog w) A (tryCompare (.ref x) "__eq__" (.ref y)) (fun r s' => r = none ∧ s' = s) E s := by
  unfold tryCompare
  exact wpAny_bind (HN.ifBound_objEq X I hs (call_objEqO X I hy hxy hm (wpAny_pure ⟨rfl, rfl⟩)))
theorem rc_other (hu : A.units < cLine) (X : K.In s.heap) (I : PySem.W.InstAt s.heap x ox C od) (J : PySem.W.InstAt s.heap y oy D od') (hxy : x ≠ y) (hm : PySem.W.mroIn K C (.type "object") = some true) (hs : PySem.W.findIn K (.ref C) "__eq__" = some (some (.builtin "object.__eq__")))
    (hm' : PySem.W.mroIn K D (.type "object") = some true) (hs' : PySem.W.findIn K (.ref D) "__eq__" = some (some (.builtin "object.__eq__"))) (hsub : C = D ∨ PySem.W.mroIn K D (.ref C) = some false) :
    RcAt A s (.ref x) (.ref y) false := fun prog w E Q h => by
  have hnt : ox.cls ≠ .type "tuple" := by rw [I.cls]; intro z; cases z
  have tail : wpAny (model prog w) A (do
      if let some v ← tryCompare (.ref x) "__eq__" (.ref y) then return v
      if !false then
        if let some v ← tryCompare (.ref y) "__eq__" (.ref x) then return v
      rule "compare.eq-identity"; return .bool (← isSame (.ref x) (.ref y))) Q E s := by
    refine wpAny_bind (m := tryCompare (.ref x) _ (.ref y)) (wpAny_mono (try_other X I J.1 hxy hm hs) (fun r s1 z => ?_) fun _ _ e => e)
    obtain ⟨z1, z2⟩ := z
    subst z1
    subst z2
    simp only [Bool.not_false, if_true]
    refine wpAny_bind (m := tryCompare (.ref y) _ (.ref x)) (wpAny_mono (try_other X J I.1 hxy.symm hm' hs') (fun r s2 z => ?_) fun _ _ e => e)
    obtain ⟨z1, z2⟩ := z
    subst z1
    subst z2
    exact wpAny_bind (wpAny_rule (wpAny_bind (wpAny_isSame_ref_other hxy I.1 J.1 hnt (wpAny_pure h))))
  simp only [richCompare, cmpInfo_Eq, oneThing_ref]
  refine wpAny_holding (wpAny_bind (wpAny_cRoomFor hu ?_))
  refine wpAny_bind (I.type.here ?_)
  refine wpAny_bind (J.type.here ?_)
  by_cases e : C = D
  · subst e
    rw [if_neg (by simp)]
    exact tail
  · rw [if_pos (by simp [e])]
    refine wpAny_bind ((PySem.W.looks_mroIn X (hsub.resolve_left e)).here ?_)
    exact tail
theorem eqAt_other (hu : A.units < cLine) (X : K.In s.heap) (I : PySem.W.InstAt s.heap x ox C od) (J : PySem.W.InstAt s.heap y oy D od') (hxy : x ≠ y) (hm : PySem.W.mroIn K C (.type "object") = some true) (hs : PySem.W.findIn K (.ref C) "__eq__" = some (some (.builtin "object.__eq__")))
    (hm' : PySem.W.mroIn K D (.type "object") = some true) (hs' : PySem.W.findIn K (.ref D) "__eq__" = some (some (.builtin "object.__eq__"))) (hsub : C = D ∨ PySem.W.mroIn K D (.ref C) = some false) :
    EqAt A s (.ref x) (.ref y) false := fun prog w E Q h => by
  unfold eqBool
  refine wpAny_holding ?_
  refine wpAny_ite_split (fun hab => absurd (eq_of_beq hab) (by simp [hxy])) (fun _ => ?_)
  exact wpAny_bind (rc_other hu X I J hxy hm hs hm' hs' hsub prog w E _ (wpAny_truthy_bool h))
/-! != of a thing with itself -/
theorem special_self (X : K.In s.heap) (I : PySem.W.InstAt s.heap x ox C od) (hm : PySem.W.mroIn K C (.type "object") = some true) (hs : PySem.W.findIn K (.ref C) "__eq__" = some (some (.builtin "object.__eq__"))) {Q : Option Value → Shared → Prop} (hq : Q (some (.bool true)) s) :
    wpAny (model prog w) A (callSpecialIfBound? (.ref x) "__eq__" [.ref x]) Q E s :=
  HN.ifBound_objEq X I hs (wpAny_call (codeAny_call_builtin F.cmp_object.eq.plain F.cmpEntry_eq (PySem.W.check_slot F.cmpKind_eq F.cmpSplit_eq (I.type.andThen (PySem.W.looks_mroIn X hm)) (F.cmpArgs_eq _ _) (PySem.objEq_entry_same hq))))
theorem ifBound_objNe {args : List Value} {Q : Option Value → Shared → Prop} (X : K.In s.heap) (I : PySem.W.InstAt s.heap x ox C od) (hs : PySem.W.findIn K (.ref C) "__ne__" = some (some (.builtin "object.__ne__")))
    (h : wpAny M A (call (.builtin "object.__ne__") (.ref x :: args)) (fun v => Q (some v)) E s) : wpAny M A (callSpecialIfBound? (.ref x) "__ne__" args) Q E s := by
  simp only [callSpecialIfBound?, bindSpecialIfBound?]
  refine wpAny_holding (wpAny_bind (wpAny_bind (wpAny_bind (I.type.here ((PySem.W.looks_findIn X hs).here ?_)))))
  refine wpAny_bind (wpAny_askSetting (wpAny_ite ?_))
  have fin : wpAny M A (call (.builtin "object.__ne__") ([.ref x] ++ args) >>= fun v => pure (some v)) Q E s := wpAny_bind (wpAny_mono h (fun v s' h' => wpAny_pure h') fun _ _ h' => h')
  split
  · exact wpAny_bind (wpAny_of_eq (F.cmp_object.ne.bind _) (wpAny_pure (by exact fin)))
  · exact wpAny_tryCatch (wpAny_bind (wpAny_of_eq (F.cmp_object.ne.bind _) (wpAny_pure (by exact fin))))
theorem ne_entry_self (hu : A.units < cLine) (X : K.In s.heap) (I : PySem.W.InstAt s.heap x ox C od) (hm : PySem.W.mroIn K C (.type "object") = some true) (hs : PySem.W.findIn K (.ref C) "__eq__" = some (some (.builtin "object.__eq__"))) {Q : Fin → Shared → Prop} (hq : Q (.done (.ret (.bool false))) s) :
    wpAny (model prog w) A (Builtin.«object.__ne__» ⟨[.ref x, .ref x], []⟩) Q E s := by
  unfold Builtin.«object.__ne__»
  repeat (first | with_reducible refine wpAny_cRoomFor hu ?_ | with_reducible refine special_self X I hm hs ?_ | wp_step)
  exact hq
theorem rcNe_self (hu : A.units + 1 < cLine) (X : K.In s.heap) (I : PySem.W.InstAt s.heap x ox C od) (hm : PySem.W.mroIn K C (.type "object") = some true) (hs : PySem.W.findIn K (.ref C) "__eq__" = some (some (.builtin "object.__eq__"))) (hn : PySem.W.findIn K (.ref C) "__ne__" = some (some (.builtin "object.__ne__"))) {Q : Value → Shared → Prop} (h : Q (.bool false) s) :
    wpAny (model prog w) A (compareOp .NotEq (.ref x) (.ref x)) Q E s := by
  have hu0 : A.units < cLine := Nat.lt_of_succ_lt hu
  have one : wpAny (model prog w) A (tryCompare (.ref x) "__ne__" (.ref x)) (fun r s' => r = some (.bool false) ∧ s' = s) E s := by
    unfold tryCompare
    refine wpAny_bind (ifBound_objNe X I hn ?_)
    exact wpAny_call (codeAny_call_builtin F.cmp_object.ne.plain F.cmpEntry_ne (PySem.W.check_slot F.cmpKind_ne F.cmpSplit_ne (I.type.andThen (PySem.W.looks_mroIn X hm)) (F.cmpArgs_ne _ _) (ne_entry_self (A := A.in1) hu X I hm hs (wpAny_pure ⟨rfl, rfl⟩))))
  show wpAny _ _ (richCompare .NotEq (.ref x) (.ref x)) _ _ _
  simp only [richCompare, cmpInfo_NotEq, oneThing_ref]
  refine wpAny_holding (wpAny_bind (wpAny_cRoomFor hu0 ?_))
  refine wpAny_bind (I.type.here ?_)
  refine wpAny_bind (I.type.here ?_)
  rw [if_neg (by simp)]
  refine wpAny_bind (m := tryCompare (.ref x) _ (.ref x)) (wpAny_mono one (fun r s1 z => ?_) fun _ _ e => e)
  obtain ⟨z1, z2⟩ := z
  subst z1
  subst z2
  exact wpAny_pure h
end
/-- an own thing of a class that compares as object does -/
structure InsE (K : PySem.W.Frag) (H : Hp) (a C : Addr) : Prop where
  at_ : ∃ dx fs, H a = some (.ins C dx fs)
  mo : PySem.W.mroIn K C (.type "object") = some true
  eq : PySem.W.findIn K (.ref C) "__eq__" = some (some (.builtin "object.__eq__"))
theorem InsE.same {K : PySem.W.Frag} {H H' : Hp} {a C : Addr} (e : Same H H') (h : InsE K H a C) : InsE K H' a C := by
  obtain ⟨⟨dx, fs, k⟩, m, q⟩ := h
  exact ⟨⟨dx, fs, e _ _ k⟩, m, q⟩
theorem sub_of_kit {K : PySem.W.Frag} {C D : Addr} (h : PySem.W.kitOne K (.ref D) (.ref C) = some false) : PySem.W.mroIn K D (.ref C) = some false := by
  unfold PySem.W.kitOne at h
  split at h
  · cases h
  · have h : (if ((PySem.W.clsIn K C).isSome && PySem.W.typeIn K (.ref C) == some (.type "type")) = true then PySem.W.subIn K (.ref D) (.ref C) else none) = some false := h
    split at h
    · exact h
    · cases h
/-- x != x, an own thing -/
def rNeIn (K : PySem.W.Frag) : R2 := fun x y H Q => ∃ a C, x = .ref a ∧ y = .ref a ∧ InsE K H a C ∧ PySem.W.findIn K (.ref C) "__ne__" = some (some (.builtin "object.__ne__")) ∧ Q (.bl false) H
/-- an own thing that stands in a list of own things: not in says False -/
def rNiI (K : PySem.W.Frag) : R2 := fun x y H Q => ∃ (a p D : Addr) (xs : List V), x = .ref a ∧ y = .ref p ∧ SqL K H p xs ∧ InsE K H a D ∧ V.ref a ∈ xs ∧ (∀ v ∈ xs, ∃ b C, v = .ref b ∧ InsE K H b C ∧ (C = D ∨ PySem.W.mroIn K D (.ref C) = some false)) ∧ Q (.bl false) H
section
variable {X : Cx}
theorem op_neIn (hu : X.A.units + 64 < cLine) : OpR X (compareOp .NotEq) (rNeIn X.K) := by
  intro pins s σ H x y v u Q I rx ry h
  obtain ⟨a, C, rfl, rfl, ⟨⟨dx, fs, ha⟩, hm, he⟩, hn, q⟩ := h
  cases (show v = .ref a from rx)
  cases (show u = .ref a from ry)
  obtain ⟨mA, O, _⟩ := ins_get I.hok ha
  obtain ⟨od, J, _⟩ := O.look
  exact rcNe_self (by omega) I.kIn J hm he hn ⟨.bl false, H, I, rfl, q⟩
def eqR (a : Addr) (u : Value) : Bool := match u with
  | .ref b => b == a
  | _ => false
theorem op_niI (hu : X.A.units + 64 < cLine) : OpR X (compareOp .NotIn) (rNiI X.K) := by
  intro pins s σ H x y v u Q I rx ry h
  obtain ⟨a, p, D, xs, rfl, rfl, hq, ia, hm, hv, q⟩ := h
  cases (show v = .ref a from rx)
  cases (show u = .ref p from ry)
  obtain ⟨its, r, pl, hz⟩ := I.list hq
  have each : ∀ w ∈ its, ∃ b, w = .ref b ∧ V.ref b ∈ xs := fun w hw => by
    obtain ⟨i, hi, ei⟩ := List.mem_iff_getElem.mp hw
    have lx : i < xs.length := by rw [r.length]; exact hi
    obtain ⟨w', hw', rw'⟩ := r.get (List.getElem?_eq_getElem lx)
    rw [List.getElem?_eq_getElem hi, ei] at hw'
    cases hw'
    obtain ⟨b, C, e, _⟩ := hv _ (List.getElem_mem lx)
    rw [e] at rw'
    refine ⟨b, rw', by rw [← e]; exact List.getElem_mem lx⟩
  obtain ⟨⟨dx, fs, ha⟩, hma, hea⟩ := ia
  obtain ⟨mA, O, _⟩ := ins_get I.hok ha
  obtain ⟨od, J, _⟩ := O.look
  refine SeqAt.notIn_listAt (eqR a) pl.isList (fun w hw => ?_) ⟨.bl _, H, I, rfl, ?_⟩
  · obtain ⟨b, rfl, hb⟩ := each w (by simpa using hw)
    by_cases e : b = a
    · subst e
      rw [show eqR b (.ref b) = true by simp [eqR]]
      exact EqAt.same _
    · rw [show eqR a (.ref b) = false by simp [eqR, e]]
      obtain ⟨b', C, eb, ⟨⟨dx', fs', hb'⟩, hmb, heb⟩, hs⟩ := hv _ hb
      cases eb
      obtain ⟨mA', O', _⟩ := ins_get I.hok hb'
      obtain ⟨od', J', _⟩ := O'.look
      exact eqAt_other (by show X.A.units + 1 < cLine; omega) I.kIn J' J e hmb heb hma hea hs
  · obtain ⟨i, hi⟩ := List.mem_iff_getElem?.mp hm
    obtain ⟨w', hw', rw'⟩ := r.get hi
    have : w' = .ref a := rw'
    subst this
    rw [show its.toArray.any (eqR a) = true by
      rw [List.any_toArray, List.any_eq_true]
      exact ⟨_, List.mem_of_getElem? hw', by simp [eqR]⟩]
    exact q
end
end Ice

set_option Elab.async false
set_option linter.all false
set_option maxRecDepth 100000
set_option maxHeartbeats 4000000
set_option autoImplicit false
/-! The ice of a channel: its pieces, by breakings. -/
namespace Ice
open PySem PySem.Spec PyProof.Rows L2
structure IceN where
  first : Int
  growth : Int
  most : Int
  b : Int
structure IceN.ok (N : IceN) : Prop where
  f0 : 0 ≤ N.first
  fm : N.first ≤ N.most
  m6 : N.most ≤ 1000000
  g0 : 0 ≤ N.growth
  g3 : N.growth ≤ 1000
  b0 : 0 ≤ N.b
  b6 : N.b ≤ 1000000
abbrev Brk := List (Int × Int)
def grown (N : IceN) (t h : Int) : Int := if t + N.growth * h < N.most then t + N.growth * h else N.most
/-- one cut more of an hour -/
def addC : Brk → Int → Int → Brk
  | [], h, c => [(h, c)]
  | (k, v) :: r, h, c => if k = h then (k, v + c) :: r else (k, v) :: addC r h c
def cbh (b : Int) (B : Brk) : Brk := B.foldl (fun acc z => addC acc z.1 z.2) [(b, 0)]
abbrev Pcs := List (Int × Int × Int)
def aheadOf (N : IceN) (o : Option (Int × Int)) (h : Int) : Int := match o with
  | none => N.first
  | some (s, b) => grown N b (h - s)
def pcs (N : IceN) : Option (Int × Int) → Brk → Pcs
  | _, [] => []
  | o, (h, c) :: r => (h, aheadOf N o h, if aheadOf N o h - c > 0 then aheadOf N o h - c else 0) :: pcs N (some (h, if aheadOf N o h - c > 0 then aheadOf N o h - c else 0)) r
def lastOr (o : Option (Int × Int)) (P : Pcs) : Option (Int × Int) := match P.getLast? with
  | none => o
  | some z => some (z.1, z.2.2)
theorem pcs_snoc (N : IceN) : ∀ (o : Option (Int × Int)) (C : Brk) (h c : Int), pcs N o (C ++ [(h, c)]) = pcs N o C ++ pcs N (lastOr o (pcs N o C)) [(h, c)]
  | o, [], h, c => rfl
  | o, (k, v) :: r, h, c => by
    show _ :: pcs N _ (r ++ [(h, c)]) = (_ :: pcs N _ r) ++ _
    rw [pcs_snoc N _ r h c, List.cons_append]
    congr 2
    congr 1
    unfold lastOr
    rw [show pcs N o ((k, v) :: r) = (k, aheadOf N o k, if aheadOf N o k - v > 0 then aheadOf N o k - v else 0) :: pcs N (some (k, if aheadOf N o k - v > 0 then aheadOf N o k - v else 0)) r from rfl, List.getLast?_cons]
    cases hl : (pcs N (some (k, if aheadOf N o k - v > 0 then aheadOf N o k - v else 0)) r).getLast? with
    | none => rfl
    | some z => rfl
theorem pcs_len (N : IceN) : ∀ (o : Option (Int × Int)) (C : Brk), (pcs N o C).length = C.length
  | _, [] => rfl
  | _, (_, _) :: r => by show (pcs N _ r).length + 1 = r.length + 1; rw [pcs_len N _ r]
theorem pcs_hours (N : IceN) : ∀ (o : Option (Int × Int)) (C : Brk), (pcs N o C).map (·.1) = C.map (·.1)
  | _, [] => rfl
  | _, (_, _) :: r => by show _ :: (pcs N _ r).map _ = _ :: r.map _; rw [pcs_hours N _ r]
def pieces (N : IceN) (B : Brk) : Pcs := pcs N none (cbh N.b B)
/-- hours that rise -/
def Rise (C : Brk) : Prop := (C.map (·.1)).Pairwise (· < ·)
theorem addC_last {C : Brk} {h c : Int} (r : Rise C) (hl : ∀ z ∈ C, z.1 ≤ h) : (addC C h c).map (·.1) = C.map (·.1) ∨ ((∀ z ∈ C, z.1 < h) ∧ (addC C h c).map (·.1) = C.map (·.1) ++ [h]) := by
  induction C with
  | nil => exact .inr ⟨(fun z hz => by cases hz), rfl⟩
  | cons z r' ih =>
    obtain ⟨k, v⟩ := z
    by_cases e : k = h
    · left
      show ((if k = h then (k, v + c) :: r' else (k, v) :: addC r' h c)).map _ = _
      rw [if_pos e]; rfl
    · have r2 : Rise r' := (List.pairwise_cons.mp r).2
      have hk : k < h := by have := hl (k, v) (by simp); show k < h; have : k ≤ h := this; omega
      have e2 : addC ((k, v) :: r') h c = (k, v) :: addC r' h c := by
        show (if k = h then (k, v + c) :: r' else (k, v) :: addC r' h c) = _
        rw [if_neg e]
      rw [e2]
      rcases ih r2 (fun z hz => hl z (by simp [hz])) with i | ⟨i1, i2⟩
      · left
        show k :: (addC r' h c).map _ = k :: r'.map _
        rw [i]
      · right
        refine ⟨fun z hz => ?_, ?_⟩
        · rcases List.mem_cons.mp hz with rfl | hz
          · exact hk
          · exact i1 z hz
        · show k :: (addC r' h c).map _ = k :: r'.map _ ++ [h]
          rw [i2]; rfl
theorem addC_rise {C : Brk} {h c : Int} (r : Rise C) (hl : ∀ z ∈ C, z.1 ≤ h) : Rise (addC C h c) ∧ ∀ z ∈ addC C h c, z.1 ≤ h := by
  have key : ∀ z ∈ addC C h c, z.1 ∈ (addC C h c).map (·.1) := fun z hz => List.mem_map.mpr ⟨z, hz, rfl⟩
  rcases addC_last (c := c) r hl with e | ⟨e1, e2⟩
  · refine ⟨by unfold Rise; rw [e]; exact r, fun z hz => ?_⟩
    have := key z hz
    rw [e] at this
    obtain ⟨y, hy, e'⟩ := List.mem_map.mp this
    rw [← e']; exact hl y hy
  · refine ⟨?_, fun z hz => ?_⟩
    · unfold Rise
      rw [e2, List.pairwise_append]
      refine ⟨r, by simp, fun a ha b hb => ?_⟩
      have : b = h := by simpa using hb
      rw [this]
      obtain ⟨y, hy, e'⟩ := List.mem_map.mp ha
      rw [← e']; exact e1 y hy
    · have := key z hz
      rw [e2] at this
      rcases List.mem_append.mp this with m | m
      · obtain ⟨y, hy, e'⟩ := List.mem_map.mp m
        rw [← e']; exact hl y hy
      · have : z.1 = h := by simpa using m
        omega
/-- sorted breakings from b on -/
structure BOk (b : Int) (B : Brk) : Prop where
  srt : B.Pairwise (fun x y => x.1 ≤ y.1)
  ge : ∀ z ∈ B, b ≤ z.1
theorem cbh_rise {b : Int} {B : Brk} (o : BOk b B) : Rise (cbh b B) ∧ ∃ r, (cbh b B).map (·.1) = b :: r := by
  have key : ∀ (B acc : Brk), B.Pairwise (fun x y => x.1 ≤ y.1) → (∀ z ∈ B, ∀ y ∈ acc, y.1 ≤ z.1) → Rise acc → (∃ r, acc.map (·.1) = b :: r) → (Rise (B.foldl (fun acc z => addC acc z.1 z.2) acc) ∧ ∃ r, (B.foldl (fun acc z => addC acc z.1 z.2) acc).map (·.1) = b :: r) := by
    intro B
    induction B with
    | nil => intro acc _ _ r e; exact ⟨r, e⟩
    | cons z B ih =>
      intro acc hs hb r e
      rw [List.foldl_cons]
      have hz := hb z (by simp)
      obtain ⟨r1, l1⟩ := addC_rise (c := z.2) r hz
      refine ih _ (List.pairwise_cons.mp hs).2 (fun y hy u hu => ?_) r1 ?_
      · have := (List.pairwise_cons.mp hs).1 y hy
        have := l1 u hu
        omega
      · obtain ⟨q, hq⟩ := e
        rcases addC_last (c := z.2) r hz with a | ⟨_, a⟩
        · exact ⟨q, by rw [a]; exact hq⟩
        · exact ⟨q ++ [z.1], by rw [a, hq]; rfl⟩
  refine key B [(b, 0)] o.srt (fun z hz y hy => ?_) (by simp [Rise]) ⟨[], rfl⟩
  have : y = (b, 0) := by simpa using hy
  rw [this]; exact o.ge z hz
theorem cbh_len_le (b : Int) (B : Brk) : (cbh b B).length ≤ B.length + 1 := by
  have l : ∀ (C : Brk) (h c : Int), (addC C h c).length ≤ C.length + 1 := by
    intro C h c
    induction C with
    | nil => simp [addC]
    | cons z r ih =>
      obtain ⟨k, v⟩ := z
      show (if k = h then (k, v + c) :: r else (k, v) :: addC r h c).length ≤ _
      split
      · simp
      · simp; omega
  have key : ∀ (B acc : Brk), (B.foldl (fun acc z => addC acc z.1 z.2) acc).length ≤ B.length + acc.length := by
    intro B
    induction B with
    | nil => intro acc; simp
    | cons z B ih =>
      intro acc
      rw [List.foldl_cons]
      have := ih (addC acc z.1 z.2)
      have := l acc z.1 z.2
      simp; omega
  exact key B [(b, 0)]
theorem pieces_head {N : IceN} {B : Brk} (o : BOk N.b B) : ∃ c r, cbh N.b B = (N.b, c) :: r := by
  obtain ⟨_, r, e⟩ := cbh_rise o
  match h : cbh N.b B with
  | [] => rw [h] at e; cases e
  | (k, c) :: q =>
    rw [h] at e
    injection e with e1 e2
    have : k = N.b := e1
    subst this
    exact ⟨c, q, rfl⟩
theorem pieces_rise {N : IceN} {B : Brk} (o : BOk N.b B) : ((pieces N B).map (·.1)).Pairwise (· < ·) := by
  unfold pieces
  rw [pcs_hours]
  exact (cbh_rise o).1
theorem pieces_pos {N : IceN} {B : Brk} (o : BOk N.b B) : 0 < (pieces N B).length := by
  obtain ⟨c, r, e⟩ := pieces_head o
  unfold pieces
  rw [pcs_len, e]
  simp
theorem grown_le {N : IceN} {t h : Int} : grown N t h ≤ N.most := by unfold grown; split <;> omega
theorem grown_zero {N : IceN} {t : Int} (h : t ≤ N.most) : grown N t 0 = t := by
  unfold grown
  rw [Int.mul_zero, Int.add_zero]
  split <;> omega
/-- the piece of an hour -/
def AtP (P : Pcs) (h : Int) (i : Nat) : Prop := (∃ z, P[i]? = some z ∧ z.1 ≤ h) ∧ ∀ j z, i < j → P[j]? = some z → h < z.1
theorem AtP.uniq {P : Pcs} {h : Int} {i j : Nat} (a : AtP P h i) (b : AtP P h j) : i = j := by
  obtain ⟨⟨z, hz, lz⟩, a2⟩ := a
  obtain ⟨⟨y, hy, ly⟩, b2⟩ := b
  rcases Nat.lt_trichotomy i j with l | l | l
  · have := a2 j y l hy; omega
  · exact l
  · have := b2 i z l hz; omega
end Ice

set_option Elab.async false
set_option linter.all false
set_option maxRecDepth 100000
set_option maxHeartbeats 4000000
set_option autoImplicit false
/-! readings of dicts, step by step. -/
namespace Ice
open PySem PySem.Spec PyProof.Rows L2
section
variable {σ : L2.St} {H : Hp} {Q : VK} {td ty tx tv : TE} {D : Ends}
theorem i_dget (h : td σ H fun x H1 => ty σ H1 fun y H2 => ∃ a v, x = .ref a ∧ DGet H2 a y (some v) ∧ Q v H2) : tDGet td ty σ H Q := h
theorem i_dget1 (h : td σ H fun x H1 => ∃ a, x = .ref a ∧ IsD H1 a ∧ ty σ H1 fun y H2 => ∃ o, DGet H2 a y o ∧ Q (o.getD .non) H2) : tDGet1 td ty σ H Q := h
theorem i_dget2 (h : td σ H fun x H1 => ∃ a, x = .ref a ∧ IsD H1 a ∧ ty σ H1 fun y H2 => tx σ H2 fun z H3 => ∃ o, DGet H3 a y o ∧ Q (o.getD z) H3) : tDGet2 td ty tx σ H Q := h
theorem i_dput (h : tv σ H fun v H1 => td σ H1 fun x H2 => ty σ H2 fun y H3 => ∃ a H4, x = .ref a ∧ DPut H3 a y v H4 ∧ D.nx σ H4) : sDPut td ty tv D σ H := h
theorem i_lockE {t : TE} (h : ∃ d u, H d = some u ∧ Mut (some u) ∧ ∀ od, t σ (upd H d (.frz od u)) fun v H' => H' d = some (.frz od u) ∧ Q v (upd H' d u)) : tLockE t σ H Q := h
theorem i_keysV {i : Nat} {d : Addr} {o : Obj} {kvs : List (Key × V)} {R : It → Hp → Prop} (h1 : σ[i]? = some (some (.ref d))) (h2 : H d = some (.frz o (.dK kvs))) (q : R (Itk d o kvs) H) : iKeys (tVar i) σ H R := ⟨_, h1, d, o, rfl, .inl ⟨kvs, h2, q⟩⟩
theorem i_din (h : ty σ H fun y H1 => td σ H1 fun x H2 => ∃ a o, x = .ref a ∧ DGet H2 a y o ∧ Q (.bl o.isSome) H2) : tDIn ty td σ H Q := h
theorem isD {a : Addr} {kvs : List (Key × V)} (h : H a = some (.dK kvs)) : IsD H a := .inl ⟨kvs, .inl h⟩
theorem i_isD {a : Addr} {kvs : List (Key × V)} {B : Prop} (h : H a = some (.dK kvs)) (q : B) : ∃ a', V.ref a = .ref a' ∧ IsD H a' ∧ (a' = a → B) := ⟨a, rfl, isD h, fun _ => q⟩
theorem dgetI {a : Addr} {kvs : List (Key × V)} {i : Int} {o : Option V} (h : H a = some (.dK kvs)) (e : valV kvs (Sum.inl i) = o) : DGet H a (.int i) o := by rw [← e]; exact DGet.k (k := Sum.inl i) h
theorem dgetS {a : Addr} {kvs : List (Key × V)} {x : Str} {o : Option V} (h : H a = some (.dK kvs)) (e : valV kvs (Sum.inr x) = o) : DGet H a (.str x) o := by rw [← e]; exact DGet.k (k := Sum.inr x) h
theorem dgetF {a : Addr} {kvs : List (Key × V)} {od : Obj} {i : Int} {o : Option V} (h : H a = some (.frz od (.dK kvs))) (e : valV kvs (Sum.inl i) = o) : DGet H a (.int i) o := by rw [← e]; exact .inl ⟨kvs, Sum.inl i, .inr ⟨_, h⟩, rfl, rfl⟩
theorem mutK {kvs : List (Key × V)} : Mut (some (HO.dK kvs)) := by first | exact True.intro | trivial
end
end Ice

set_option Elab.async false
set_option linter.all false
set_option maxRecDepth 100000
set_option maxHeartbeats 4000000
set_option autoImplicit false
/-! list.remove of a thing of data; pairs of numbers as data. -/
namespace Ice
open PySem PySem.Spec PyProof.Rows L2
section
variable {X : Cx}
def rRemD (K : PySem.W.Frag) : V → List V → Hp → VK → Prop := fun x xs H Q => ∃ (l : Addr) (ys : List V) (y : V) (d : PyData) (ds : List PyData) (j : Nat), x = .ref l ∧ xs = [y] ∧ H l = some (.lst ys) ∧ DpAll K H ys ds ∧ Dp K H y d ∧
  PyData.plainAll ds = true ∧ d.plain = true ∧ min (PyData.depthAll ds) d.depth ≤ 60 ∧ SeqAt.dataPlace ds d = some j ∧ Q .non (upd H l (.lst (ys.eraseIdx j)))
theorem mt_removeD (hu : X.A.units + 65 < cLine) : MtR X "list.remove" (rRemD X.K) := by
  intro pins s σ H x xs v us Q I rx rxs h
  obtain ⟨l, ys, y, d, ds, j, rfl, rfl, hH, ha, hy, pa, pd, dp, hj, q⟩ := h
  cases rx
  obtain ⟨u, rfl, ru⟩ := rxs.one
  obtain ⟨z, its, n, r, hl, e⟩ := I.lstM hH
  obtain ⟨as, r1⟩ := Dp.readsAll I ds _ its ha r
  obtain ⟨bs, r2⟩ := Dp.reads I d y u hy ru
  refine SeqAt.remove_list_data (vs := its.toArray) ⟨_, e, rfl, _, rfl⟩ r1 r2 pa pd (by omega) hj (by rw [List.size_toArray]; omega) ?_
  have rr := r.eraseIdx j
  refine ⟨.non, _, I.lset (its' := its.eraseIdx j) (t' := s.toks) hH e ?_ rr ?_, rfl, q⟩
  · show its.toArray.eraseIdxIfInBounds j = (its.eraseIdx j).toArray
    rw [List.eraseIdxIfInBounds_toArray]
  · have := List.length_eraseIdx_le ys j
    omega
end
def pd2 (z : Int × Int) : PyData := .tuple [.int z.1, .int z.2]
theorem dp2 {K : PySem.W.Frag} {H : Hp} {a : Addr} {z : Int × Int} (h : H a = some (.tup [.int z.1, .int z.2])) : Dp K H (.ref a) (pd2 z) := .tup (SqT.tup h) (.cons (.int _) (.cons (.int _) .nil))
theorem pd2_eqv (y z : Int × Int) : PyData.eqv (pd2 y) (pd2 z) = decide (y = z) := by
  obtain ⟨a, b⟩ := y; obtain ⟨c, d⟩ := z
  unfold pd2
  simp [PyData.eqv, PyData.eqvAll]
  rfl
theorem pd2_plain : ∀ B : Brk, PyData.plainAll (B.map pd2) = true
  | [] => rfl
  | z :: r => by
    show (PyData.plain (pd2 z) && PyData.plainAll (r.map pd2)) = true
    rw [pd2_plain r]; rfl
theorem pd2_depth (z : Int × Int) : (pd2 z).depth ≤ 3 := by
  show (PyData.tuple [.int z.1, .int z.2]).depth ≤ 3
  simp [PyData.depth, PyData.depthAll]
theorem pd2_depthAll : ∀ B : Brk, PyData.depthAll (B.map pd2) ≤ 3
  | [] => by show PyData.depthAll [] ≤ 3; simp [PyData.depthAll]
  | z :: r => by
    show PyData.depthAll (pd2 z :: r.map pd2) ≤ 3
    have := pd2_depth z
    have := pd2_depthAll r
    simp only [PyData.depthAll]
    omega
theorem pd2_lay (z : Int × Int) : (pd2 z).canLay0 = true := by rfl
theorem pd2_shaped (z : Int × Int) : SeqAt.shaped (pd2 z) = true := by
  have := pd2_depth z
  unfold SeqAt.shaped
  rw [pd2_lay, decide_eq_true (by omega)]; rfl
theorem pd2_layA : ∀ B : Brk, PyData.canLayAll0 (B.map pd2) = true
  | [] => rfl
  | z :: r => by
    show (PyData.canLay0 (pd2 z) && PyData.canLayAll0 (r.map pd2)) = true
    rw [pd2_layA r, pd2_lay]; rfl
theorem pd2_layAll : ∀ B : Brk, PyData.canLay0 (.list (B.map pd2)) = true := by
  intro B
  simp [PyData.canLay0, pd2_layA]
theorem pd2_shapedL (B : Brk) : SeqAt.shaped (.list (B.map pd2)) = true := by
  have h := pd2_depthAll B
  have : (PyData.list (B.map pd2)).depth ≤ 64 := by simp only [PyData.depth]; omega
  unfold SeqAt.shaped
  rw [pd2_layAll, decide_eq_true this]; rfl
theorem pd2_place {z : Int × Int} : ∀ B : Brk, z ∈ B → ∃ j, SeqAt.dataPlace (B.map pd2) (pd2 z) = some j ∧ B[j]? = some z ∧ B.eraseIdx j = B.erase z
  | [], h => by cases h
  | y :: r, h => by
    by_cases e : y = z
    · refine ⟨0, ?_, by rw [e]; rfl, ?_⟩
      · unfold SeqAt.dataPlace
        rw [List.map_cons, List.findIdx?_cons, pd2_eqv, decide_eq_true e]; rfl
      · rw [e, List.erase_cons_head]; rfl
    · obtain ⟨j, h1, h2, h3⟩ := pd2_place r (by rcases List.mem_cons.mp h with h | h; exact absurd h.symm e; exact h)
      refine ⟨j + 1, ?_, h2, ?_⟩
      · unfold SeqAt.dataPlace at *
        rw [List.map_cons, List.findIdx?_cons, pd2_eqv, decide_eq_false e, h1]; rfl
      · rw [List.erase_cons_tail (by simpa using e), ← h3]; rfl
theorem pd2_any {z : Int × Int} (B : Brk) : ((B.map pd2).any fun y => PyData.eqv y (pd2 z)) = decide (z ∈ B) := by
  induction B with
  | nil => rfl
  | cons y r ih =>
    rw [List.map_cons, List.any_cons, ih, pd2_eqv]
    by_cases e : y = z
    · simp [e]
    · by_cases h : z ∈ r
      · simp [h]
      · have : ¬ z = y := fun h => e h.symm
        simp [e, h, this]
end Ice

set_option Elab.async false
set_option linter.all false
set_option maxRecDepth 100000
set_option maxHeartbeats 4000000
set_option autoImplicit false
/-! repr of nested and of long things. -/
namespace Ice
open PySem PySem.Spec PyProof.Rows L2
section
variable {K : PySem.W.Frag} {H : Hp}
structure Sm (K : PySem.W.Frag) (H : Hp) (k L : Nat) (v : V) (d : PyData) : Prop where
  dp : Dp K H v d
  sh : d.showable = true
  de : d.depth ≤ k
  ln : d.shown.length ≤ L
inductive SmAll (K : PySem.W.Frag) (H : Hp) (k L : Nat) : List V → List PyData → Prop
  | nil : SmAll K H k L [] []
  | cons {v : V} {vs : List V} {d : PyData} {ds : List PyData} : Sm K H k L v d → SmAll K H k L vs ds → SmAll K H k L (v :: vs) (d :: ds)
theorem Ps.sm {v : V} {d : PyData} (h : Ps v d) {k : Nat} : Sm K H k 650 v d := by
  obtain ⟨b1, b2, b3⟩ := h.show
  exact ⟨h.dp, b1, by omega, b3⟩
theorem Sm.mono {k L k' L' : Nat} {v : V} {d : PyData} (h : Sm K H k L v d) (hk : k ≤ k') (hL : L ≤ L') : Sm K H k' L' v d := ⟨h.dp, h.sh, Nat.le_trans h.de hk, Nat.le_trans h.ln hL⟩
theorem SmAll.all {k L : Nat} {vs : List V} {ds : List PyData} (h : SmAll K H k L vs ds) : DpAll K H vs ds ∧ PyData.showableAll ds = true ∧ PyData.depthAll ds ≤ k ∧ ((PyData.shownAll ds).map (·.length)).sum ≤ L * vs.length ∧ (PyData.shownAll ds).length = vs.length := by
  induction h with
  | nil => exact ⟨.nil, rfl, Nat.zero_le _, by show 0 ≤ _; exact Nat.zero_le _, rfl⟩
  | @cons v vs d ds h t ih =>
    obtain ⟨a0, a1, a2, a3, a4⟩ := ih
    refine ⟨.cons h.dp a0, ?_, ?_, ?_, ?_⟩
    · show (d.showable && PyData.showableAll ds) = true
      rw [h.sh, a1]; rfl
    · show max d.depth (PyData.depthAll ds) ≤ k
      have := h.de
      omega
    · show ((d.shown :: PyData.shownAll ds).map (·.length)).sum ≤ _
      rw [List.map_cons, List.sum_cons, List.length_cons, Nat.mul_succ]
      have := h.ln
      omega
    · show (d.shown :: PyData.shownAll ds).length = _
      rw [List.length_cons, a4, List.length_cons]
theorem Sm.tup {k L : Nat} {p : Addr} {vs : List V} {ds : List PyData} (hp : H p = some (.tup vs)) (h : SmAll K H k L vs ds) : Sm K H (k + 1) (L * vs.length + 2 * vs.length + 3) (.ref p) (.tuple ds) := by
  obtain ⟨a0, a1, a2, a3, a4⟩ := h.all
  have b := PySem.tupleText_len_le (PyData.shownAll ds)
  refine ⟨.tup (SqT.tup hp) a0, a1, ?_, ?_⟩
  · show PyData.depthAll ds + 1 ≤ _
    omega
  · show (PySem.tupleText (PyData.shownAll ds)).length ≤ _
    omega
theorem Sm.lst {k L : Nat} {p : Addr} {vs : List V} {ds : List PyData} (hp : H p = some (.lst vs)) (h : SmAll K H k L vs ds) : Sm K H (k + 1) (L * vs.length + 2 * vs.length + 3) (.ref p) (.list ds) := by
  obtain ⟨a0, a1, a2, a3, a4⟩ := h.all
  have b := PySem.listText_len_le (PyData.shownAll ds)
  refine ⟨.lst (SqL.lst hp) a0, a1, ?_, ?_⟩
  · show PyData.depthAll ds + 1 ≤ _
    omega
  · show (PySem.listText (PyData.shownAll ds)).length ≤ _
    omega
theorem Sm.rp {k L : Nat} {v : V} {d : PyData} (h : Sm K H k L v d) (hk : k ≤ 100) (hL : L ≤ sizeLine) : Rp K H v d := ⟨.inl h.dp, h.sh, Nat.le_trans h.de hk, Nat.le_trans h.ln hL⟩
end
end Ice

set_option Elab.async false
set_option linter.all false
set_option maxRecDepth 100000
set_option maxHeartbeats 4000000
set_option autoImplicit false
/-! What is a list or a tuple; comprehensions that only add to the heap. -/
namespace Ice
open PySem PySem.Spec PyProof.Rows L2
def SqS (K : PySem.W.Frag) (H : Hp) (a : Addr) (xs : List V) : Prop := SqL K H a xs ∨ SqT K H a xs
theorem SqT.but {K : PySem.W.Frag} {b : Addr} {H H' : Hp} {a : Addr} {xs : List V} (e : But b H H') (n : a ≠ b) (h : SqT K H a xs) : SqT K H' a xs := by
  rcases h with (h | ⟨o, h⟩) | h
  · exact .inl (.inl (e _ _ n h))
  · exact .inl (.inr ⟨o, e _ _ n h⟩)
  · exact .inr h
theorem SqS.but {K : PySem.W.Frag} {b : Addr} {H H' : Hp} {a : Addr} {xs : List V} (e : But b H H') (n : a ≠ b) (h : SqS K H a xs) : SqS K H' a xs := h.elim (fun h => .inl (SqL.but e n h)) (fun h => .inr (SqT.but e n h))
theorem SqS.same {K : PySem.W.Frag} {H H' : Hp} {a : Addr} {xs : List V} (e : Same H H') (h : SqS K H a xs) : SqS K H' a xs := h.elim (fun h => .inl (L2.Same.seq e h)) (fun h => .inr (SqT.same e h))
theorem SqS.lst {K : PySem.W.Frag} {H : Hp} {a : Addr} {xs : List V} (h : H a = some (.lst xs)) : SqS K H a xs := .inl (SqL.lst h)
theorem SqS.tup {K : PySem.W.Frag} {H : Hp} {a : Addr} {xs : List V} (h : H a = some (.tup xs)) : SqS K H a xs := .inr (SqT.tup h)
/-- what was in the heap at a is there -/
def Kep (H H' : Hp) (a : Addr) : Prop := ∀ o, H a = some o → H' a = some o
theorem SqL.kep {K : PySem.W.Frag} {H H' : Hp} {a : Addr} {xs : List V} (e : Kep H H' a) (h : SqL K H a xs) : SqL K H' a xs := by
  rcases h with (h | ⟨o, h⟩) | h
  · exact .inl (.inl (e _ h))
  · exact .inl (.inr ⟨o, e _ h⟩)
  · exact .inr h
theorem SqT.kep {K : PySem.W.Frag} {H H' : Hp} {a : Addr} {xs : List V} (e : Kep H H' a) (h : SqT K H a xs) : SqT K H' a xs := by
  rcases h with (h | ⟨o, h⟩) | h
  · exact .inl (.inl (e _ h))
  · exact .inl (.inr ⟨o, e _ h⟩)
  · exact .inr h
/-- an iteration over a list or a tuple -/
def iSeq (K : PySem.W.Frag) (tl : TE) : TI := fun σ H R => tl σ H fun x H1 => ∃ a, x = .ref a ∧ (((∃ xs, SqL K H1 a xs) ∧ R (Itl K a) H1) ∨ ((∃ xs, SqT K H1 a xs) ∧ R (Itt K a) H1))
theorem pi_seq {X : Cx} {tg l : Expr} {tl : TE} (hl : PE X l tl) : PI X tg l (iSeq X.K tl) := by
  refine ⟨fun pins s σ H R I h => ?_⟩
  refine thn (hl.run pins s σ H _ I h) fun v s1 ⟨x, H1, I1, r1, q1⟩ => ?_
  obtain ⟨a, e, q⟩ := q1
  subst e
  cases r1
  rcases q with ⟨⟨xs, hq⟩, q⟩ | ⟨⟨xs, hq⟩, q⟩
  · obtain ⟨its, rv, p, hz⟩ := I1.list hq
    refine wpAny_pyIter_list p.isList ?_
    refine ⟨s1.heap.objs.size, [s1.heap.objs.size], _, _, H1, rfl, I1.kept (t' := s1.toks) fun b o e => Heap.get?_push_of_some _ e, turn_list a _, ⟨_, Heap.get?_push_size _ rfl, rfl, rfl⟩, fun b hb => ?_, q⟩
    have e : b = s1.heap.objs.size := by simpa using hb
    subst e
    exact I1.fpOk (Nat.le_refl _) (I1.hok.fresh (Nat.le_refl _))
  · obtain ⟨its, rv, p, hz⟩ := I1.tuple hq
    refine wpAny_pyIter_tuple (show s1.heap.IsTuple a its.toArray from p) ?_
    refine ⟨s1.heap.objs.size, [s1.heap.objs.size], _, _, H1, rfl, I1.kept (t' := s1.toks) fun b o e => Heap.get?_push_of_some _ e, turn_tuple a _, ⟨_, Heap.get?_push_size _ rfl, rfl, rfl⟩, fun b hb => ?_, q⟩
    have e : b = s1.heap.objs.size := by simpa using hb
    subst e
    exact I1.fpOk (Nat.le_refl _) (I1.hok.fresh (Nat.le_refl _))
theorem i_iseq {K : PySem.W.Frag} {te : TE} {σ : L2.St} {H : Hp} {R : It → Hp → Prop} (h : te σ H fun x H1 => ∃ a, x = .ref a ∧ (((∃ xs, SqL K H1 a xs) ∧ R (Itl K a) H1) ∨ ((∃ xs, SqT K H1 a xs) ∧ R (Itt K a) H1))) : iSeq K te σ H R := h
/-- a for over a list or a tuple -/
theorem for_seq {K : PySem.W.Frag} {a : Addr} {xs : List V} {g : TG} {tb : TS} {D : Ends} {σ : L2.St} {H : Hp} (hS : SqS K H a xs) (Pv : Nat → L2.St → Hp → Prop) (h0 : Pv 0 σ H) (hl : ∀ i σ' H', i ≤ xs.length → Pv i σ' H' → Kep H H' a)
    (hs : ∀ i x σ H, xs[i]? = some x → Pv i σ H → g x σ H fun σ2 H2 => tb { D with nx := Pv (i + 1), ct := Pv (i + 1), bk := D.nx } σ2 H2) (hd : ∀ σ H, Pv xs.length σ H → D.nx σ H) :
    ∃ a', V.ref a = .ref a' ∧ (((∃ xs, SqL K H a' xs) ∧ ∃ W : Nat → Nat → L2.St → Hp → Prop, (∃ m, W 0 m σ H) ∧ ∀ i m σ H, W i m σ H →
      ((Itl K a').stop i H ∧ D.nx σ H) ∨ ((Itl K a').go i H ∧ ∃ N : L2.St → Hp → Prop, (∀ σ' H', N σ' H' → ∃ m', m' < m ∧ W (i + 1) m' σ' H') ∧ ∀ x H', (Itl K a').yld i H x H' → g x σ H' fun σ2 H2 => tb { D with nx := N, ct := N, bk := D.nx } σ2 H2)) ∨
     ((∃ xs, SqT K H a' xs) ∧ ∃ W : Nat → Nat → L2.St → Hp → Prop, (∃ m, W 0 m σ H) ∧ ∀ i m σ H, W i m σ H →
      ((Itt K a').stop i H ∧ D.nx σ H) ∨ ((Itt K a').go i H ∧ ∃ N : L2.St → Hp → Prop, (∀ σ' H', N σ' H' → ∃ m', m' < m ∧ W (i + 1) m' σ' H') ∧ ∀ x H', (Itt K a').yld i H x H' → g x σ H' fun σ2 H2 => tb { D with nx := N, ct := N, bk := D.nx } σ2 H2))) := by
  refine ⟨a, rfl, ?_⟩
  rcases hS with h | h
  · exact .inl ⟨⟨xs, h⟩, for_list Pv h0 (fun i σ' H' hi p => SqL.kep (hl i σ' H' hi p) h) hs hd⟩
  · exact .inr ⟨⟨xs, h⟩, for_tup Pv h0 (fun i σ' H' hi p => SqT.kep (hl i σ' H' hi p) h) hs hd⟩
theorem for_listK {K : PySem.W.Frag} {a : Addr} {xs : List V} {g : TG} {tb : TS} {D : Ends} {σ : L2.St} {H : Hp} (hS : SqL K H a xs) (Pv : Nat → L2.St → Hp → Prop) (h0 : Pv 0 σ H) (hl : ∀ i σ' H', i ≤ xs.length → Pv i σ' H' → Kep H H' a)
    (hs : ∀ i x σ H, xs[i]? = some x → Pv i σ H → g x σ H fun σ2 H2 => tb { D with nx := Pv (i + 1), ct := Pv (i + 1), bk := D.nx } σ2 H2) (hd : ∀ σ H, Pv xs.length σ H → D.nx σ H) :
    ∃ a', V.ref a = .ref a' ∧ (∃ xs, SqL K H a' xs) ∧ ∃ W : Nat → Nat → L2.St → Hp → Prop, (∃ m, W 0 m σ H) ∧ ∀ i m σ H, W i m σ H →
      ((Itl K a').stop i H ∧ D.nx σ H) ∨ ((Itl K a').go i H ∧ ∃ N : L2.St → Hp → Prop, (∀ σ' H', N σ' H' → ∃ m', m' < m ∧ W (i + 1) m' σ' H') ∧ ∀ x H', (Itl K a').yld i H x H' → g x σ H' fun σ2 H2 => tb { D with nx := N, ct := N, bk := D.nx } σ2 H2) :=
  ⟨a, rfl, ⟨xs, hS⟩, for_list Pv h0 (fun i σ' H' hi p => SqL.kep (hl i σ' H' hi p) hS) hs hd⟩
/-- the list of what stands so far -/
def gath (os : List (Option V)) : List V := os.filterMap id
theorem gath_snoc {os : List (Option V)} {i : Nat} {o : Option V} (h : os[i]? = some o) : gath (os.take (i + 1)) = gath (os.take i) ++ o.toList := by
  unfold gath
  rw [List.take_add_one, h, List.filterMap_append]
  cases o <;> rfl
theorem gath_len (os : List (Option V)) : (gath os).length ≤ os.length := List.length_filterMap_le _ _
theorem gath_some (ys : List V) : gath (ys.map some) = ys := by
  unfold gath
  induction ys with
  | nil => rfl
  | cons y r ih => simp only [List.map_cons, List.filterMap_cons_some (f := id) (a := some y) rfl, ih]
section
variable {K : PySem.W.Frag} {a : Addr} {xs : List V} {g : TG} {tt : TT} {te : TE} {vs : List Nat} {σ : L2.St} {H1 : Hp} {Q : Addr → Hp → Prop}
theorem lc_gathL (hS : SqL K H1 a xs) (os : List (Option V)) (hl : os.length = xs.length) (hz : xs.length < sizeLine)
    (hs : ∀ (i : Nat) (x : V) (o : Option V) (H' : Hp) (NY : VK) (NN : Hp → Prop), xs[i]? = some x → os[i]? = some o → Same H1 H' → (∀ y H4, o = some y → Same H' H4 → NY y H4) → (∀ H3, o = none → Same H' H3 → NN H3) →
      g x (wipe σ vs) H' (fun σ2 H2 => wipe σ2 vs = wipe σ vs ∧ tt σ2 H2 fun b H3 => if b = true then te σ2 H3 NY else NN H3))
    (hd : ∀ D H', H1 D = none → Same H1 H' → H' D = some (.lst (gath os)) → Q D H') {D : Addr} (hD : H1 D = none) :
    ∃ W : Nat → Nat → Hp → Prop, (∃ m, W 0 m (upd H1 D (.lst []))) ∧ ∀ i m H, W i m H →
      ((Itl K a).stop i H ∧ Q D H) ∨ ((Itl K a).go i H ∧ ∃ Nx : Hp → Prop, (∀ H', Nx H' → ∃ m', m' < m ∧ W (i + 1) m' H') ∧ ∀ x H', (Itl K a).yld i H x H' → g x (wipe σ vs) H' fun σ2 H2 => wipe σ2 vs = wipe σ vs ∧ tt σ2 H2 fun b H3 =>
        if b = true then te σ2 H3 fun y H4 => ∃ acc, H4 D = some (.lst acc) ∧ acc.length < sizeLine ∧ Nx (upd H4 D (.lst (acc ++ [y]))) else Nx H3) := by
  refine lc_list (fun i H' => Same H1 H' ∧ H' D = some (.lst (gath (os.take i)))) ⟨Same.new _ hD, upd_same⟩ (fun i H' _ p => SqL.kep (fun o e => p.1 _ _ e) hS) ?_ ?_
  · rintro i x H' hx ⟨s, k⟩
    have lt : i < os.length := by rw [hl]; exact (List.getElem?_eq_some_iff.mp hx).1
    have ho : os[i]? = some os[i] := List.getElem?_eq_getElem lt
    refine hs i x _ H' _ _ hx ho s (fun y H4 e s4 => ?_) (fun H3 e s3 => ?_)
    · have k4 := s4 _ _ k
      refine ⟨_, k4, ?_, fun b u hb => ?_, ?_⟩
      · have l1 := gath_len (os.take i)
        have l2 := List.length_take_le i os
        omega
      · rw [upd_ne (ne_of_none hb hD)]; exact s4 _ _ (s _ _ hb)
      · rw [upd_same, gath_snoc ho, e]; rfl
    · refine ⟨s.trans s3, ?_⟩
      rw [gath_snoc ho, e]
      show _ = some (HO.lst (_ ++ []))
      rw [List.append_nil]
      exact s3 _ _ k
  · rintro H' ⟨s, k⟩
    rw [← hl, List.take_length] at k
    exact hd D H' hD s k
theorem lc_gathT (hS : SqT K H1 a xs) (os : List (Option V)) (hl : os.length = xs.length) (hz : xs.length < sizeLine)
    (hs : ∀ (i : Nat) (x : V) (o : Option V) (H' : Hp) (NY : VK) (NN : Hp → Prop), xs[i]? = some x → os[i]? = some o → Same H1 H' → (∀ y H4, o = some y → Same H' H4 → NY y H4) → (∀ H3, o = none → Same H' H3 → NN H3) →
      g x (wipe σ vs) H' (fun σ2 H2 => wipe σ2 vs = wipe σ vs ∧ tt σ2 H2 fun b H3 => if b = true then te σ2 H3 NY else NN H3))
    (hd : ∀ D H', H1 D = none → Same H1 H' → H' D = some (.lst (gath os)) → Q D H') {D : Addr} (hD : H1 D = none) :
    ∃ W : Nat → Nat → Hp → Prop, (∃ m, W 0 m (upd H1 D (.lst []))) ∧ ∀ i m H, W i m H →
      ((Itt K a).stop i H ∧ Q D H) ∨ ((Itt K a).go i H ∧ ∃ Nx : Hp → Prop, (∀ H', Nx H' → ∃ m', m' < m ∧ W (i + 1) m' H') ∧ ∀ x H', (Itt K a).yld i H x H' → g x (wipe σ vs) H' fun σ2 H2 => wipe σ2 vs = wipe σ vs ∧ tt σ2 H2 fun b H3 =>
        if b = true then te σ2 H3 fun y H4 => ∃ acc, H4 D = some (.lst acc) ∧ acc.length < sizeLine ∧ Nx (upd H4 D (.lst (acc ++ [y]))) else Nx H3) := by
  refine lc_tup (fun i H' => Same H1 H' ∧ H' D = some (.lst (gath (os.take i)))) ⟨Same.new _ hD, upd_same⟩ (fun i H' _ p => SqT.kep (fun o e => p.1 _ _ e) hS) ?_ ?_
  · rintro i x H' hx ⟨s, k⟩
    have lt : i < os.length := by rw [hl]; exact (List.getElem?_eq_some_iff.mp hx).1
    have ho : os[i]? = some os[i] := List.getElem?_eq_getElem lt
    refine hs i x _ H' _ _ hx ho s (fun y H4 e s4 => ?_) (fun H3 e s3 => ?_)
    · have k4 := s4 _ _ k
      refine ⟨_, k4, ?_, fun b u hb => ?_, ?_⟩
      · have l1 := gath_len (os.take i)
        have l2 := List.length_take_le i os
        omega
      · rw [upd_ne (ne_of_none hb hD)]; exact s4 _ _ (s _ _ hb)
      · rw [upd_same, gath_snoc ho, e]; rfl
    · refine ⟨s.trans s3, ?_⟩
      rw [gath_snoc ho, e]
      show _ = some (HO.lst (_ ++ []))
      rw [List.append_nil]
      exact s3 _ _ k
  · rintro H' ⟨s, k⟩
    rw [← hl, List.take_length] at k
    exact hd D H' hD s k
/-- a comprehension that only adds to the heap, over a list or a tuple -/
theorem lc_gather (hS : SqS K H1 a xs) (os : List (Option V)) (hl : os.length = xs.length) (hz : xs.length < sizeLine)
    (hs : ∀ (i : Nat) (x : V) (o : Option V) (H' : Hp) (NY : VK) (NN : Hp → Prop), xs[i]? = some x → os[i]? = some o → Same H1 H' → (∀ y H4, o = some y → Same H' H4 → NY y H4) → (∀ H3, o = none → Same H' H3 → NN H3) →
      g x (wipe σ vs) H' (fun σ2 H2 => wipe σ2 vs = wipe σ vs ∧ tt σ2 H2 fun b H3 => if b = true then te σ2 H3 NY else NN H3))
    (hd : ∀ D H', H1 D = none → Same H1 H' → H' D = some (.lst (gath os)) → Q D H') :
    ∃ a', V.ref a = .ref a' ∧ (((∃ xs, SqL K H1 a' xs) ∧ (∀ D, H1 D = none → ∃ W : Nat → Nat → Hp → Prop, (∃ m, W 0 m (upd H1 D (.lst []))) ∧ ∀ i m H, W i m H →
      ((Itl K a').stop i H ∧ Q D H) ∨ ((Itl K a').go i H ∧ ∃ Nx : Hp → Prop, (∀ H', Nx H' → ∃ m', m' < m ∧ W (i + 1) m' H') ∧ ∀ x H', (Itl K a').yld i H x H' → g x (wipe σ vs) H' fun σ2 H2 => wipe σ2 vs = wipe σ vs ∧ tt σ2 H2 fun b H3 =>
        if b = true then te σ2 H3 fun y H4 => ∃ acc, H4 D = some (.lst acc) ∧ acc.length < sizeLine ∧ Nx (upd H4 D (.lst (acc ++ [y]))) else Nx H3))) ∨
     ((∃ xs, SqT K H1 a' xs) ∧ (∀ D, H1 D = none → ∃ W : Nat → Nat → Hp → Prop, (∃ m, W 0 m (upd H1 D (.lst []))) ∧ ∀ i m H, W i m H →
      ((Itt K a').stop i H ∧ Q D H) ∨ ((Itt K a').go i H ∧ ∃ Nx : Hp → Prop, (∀ H', Nx H' → ∃ m', m' < m ∧ W (i + 1) m' H') ∧ ∀ x H', (Itt K a').yld i H x H' → g x (wipe σ vs) H' fun σ2 H2 => wipe σ2 vs = wipe σ vs ∧ tt σ2 H2 fun b H3 =>
        if b = true then te σ2 H3 fun y H4 => ∃ acc, H4 D = some (.lst acc) ∧ acc.length < sizeLine ∧ Nx (upd H4 D (.lst (acc ++ [y]))) else Nx H3)))) := by
  refine ⟨a, rfl, ?_⟩
  rcases hS with h | h
  · exact .inl ⟨⟨xs, h⟩, fun D hD => lc_gathL h os hl hz hs hd hD⟩
  · exact .inr ⟨⟨xs, h⟩, fun D hD => lc_gathT h os hl hz hs hd hD⟩
theorem lc_gatherL (hS : SqL K H1 a xs) (os : List (Option V)) (hl : os.length = xs.length) (hz : xs.length < sizeLine)
    (hs : ∀ (i : Nat) (x : V) (o : Option V) (H' : Hp) (NY : VK) (NN : Hp → Prop), xs[i]? = some x → os[i]? = some o → Same H1 H' → (∀ y H4, o = some y → Same H' H4 → NY y H4) → (∀ H3, o = none → Same H' H3 → NN H3) →
      g x (wipe σ vs) H' (fun σ2 H2 => wipe σ2 vs = wipe σ vs ∧ tt σ2 H2 fun b H3 => if b = true then te σ2 H3 NY else NN H3))
    (hd : ∀ D H', H1 D = none → Same H1 H' → H' D = some (.lst (gath os)) → Q D H') :
    ∃ a', V.ref a = .ref a' ∧ (∃ xs, SqL K H1 a' xs) ∧ (∀ D, H1 D = none → ∃ W : Nat → Nat → Hp → Prop, (∃ m, W 0 m (upd H1 D (.lst []))) ∧ ∀ i m H, W i m H →
      ((Itl K a').stop i H ∧ Q D H) ∨ ((Itl K a').go i H ∧ ∃ Nx : Hp → Prop, (∀ H', Nx H' → ∃ m', m' < m ∧ W (i + 1) m' H') ∧ ∀ x H', (Itl K a').yld i H x H' → g x (wipe σ vs) H' fun σ2 H2 => wipe σ2 vs = wipe σ vs ∧ tt σ2 H2 fun b H3 =>
        if b = true then te σ2 H3 fun y H4 => ∃ acc, H4 D = some (.lst acc) ∧ acc.length < sizeLine ∧ Nx (upd H4 D (.lst (acc ++ [y]))) else Nx H3)) := ⟨a, rfl, ⟨xs, hS⟩, fun D hD => lc_gathL hS os hl hz hs hd hD⟩
theorem lc_gatherT (hS : SqT K H1 a xs) (os : List (Option V)) (hl : os.length = xs.length) (hz : xs.length < sizeLine)
    (hs : ∀ (i : Nat) (x : V) (o : Option V) (H' : Hp) (NY : VK) (NN : Hp → Prop), xs[i]? = some x → os[i]? = some o → Same H1 H' → (∀ y H4, o = some y → Same H' H4 → NY y H4) → (∀ H3, o = none → Same H' H3 → NN H3) →
      g x (wipe σ vs) H' (fun σ2 H2 => wipe σ2 vs = wipe σ vs ∧ tt σ2 H2 fun b H3 => if b = true then te σ2 H3 NY else NN H3))
    (hd : ∀ D H', H1 D = none → Same H1 H' → H' D = some (.lst (gath os)) → Q D H') :
    ∃ a', V.ref a = .ref a' ∧ (∃ xs, SqT K H1 a' xs) ∧ (∀ D, H1 D = none → ∃ W : Nat → Nat → Hp → Prop, (∃ m, W 0 m (upd H1 D (.lst []))) ∧ ∀ i m H, W i m H →
      ((Itt K a').stop i H ∧ Q D H) ∨ ((Itt K a').go i H ∧ ∃ Nx : Hp → Prop, (∀ H', Nx H' → ∃ m', m' < m ∧ W (i + 1) m' H') ∧ ∀ x H', (Itt K a').yld i H x H' → g x (wipe σ vs) H' fun σ2 H2 => wipe σ2 vs = wipe σ vs ∧ tt σ2 H2 fun b H3 =>
        if b = true then te σ2 H3 fun y H4 => ∃ acc, H4 D = some (.lst acc) ∧ acc.length < sizeLine ∧ Nx (upd H4 D (.lst (acc ++ [y]))) else Nx H3)) := ⟨a, rfl, ⟨xs, hS⟩, fun D hD => lc_gathT hS os hl hz hs hd hD⟩
end
theorem put_free {kzs : List (Key × V)} (nd : (kzs.map (·.1)).Nodup) {i : Nat} {kz : Key × V} (h : kzs[i]? = some kz) : valV (kzs.take i) kz.1 = none := by
  unfold valV
  rw [List.find?_eq_none.mpr ?_]; rfl
  intro p hp e
  have e : p.1 = kz.1 := of_decide_eq_true e
  obtain ⟨j, hj⟩ := List.mem_iff_getElem?.mp hp
  have hji : j < i := by
    have := (List.getElem?_eq_some_iff.mp hj).1
    rw [List.length_take] at this; omega
  rw [List.getElem?_take_of_lt hji] at hj
  have lj := (List.getElem?_eq_some_iff.mp hj).1
  have li := (List.getElem?_eq_some_iff.mp h).1
  have := (List.pairwise_iff_getElem.mp nd) j i (by rw [List.length_map]; exact lj) (by rw [List.length_map]; exact li) hji
  apply this
  rw [List.getElem_map, List.getElem_map]
  rw [List.getElem?_eq_getElem lj] at hj
  rw [List.getElem?_eq_getElem li] at h
  rw [Option.some.inj hj, Option.some.inj h, e]
/-- over a list that stays -/
theorem dc_list {K : PySem.W.Frag} {a : Addr} {xs : List V} {g : TG} {tt : TT} {tk tv : TE} {vs : List Nat} {σ : L2.St} {H1 : Hp} {D : Addr} {Qd : Hp → Prop} (Pv : Nat → Hp → Prop) (h0 : Pv 0 (upd H1 D (.dK []))) (hl : ∀ i H, i ≤ xs.length → Pv i H → SqL K H a xs)
    (hs : ∀ i x H, xs[i]? = some x → Pv i H → g x (wipe σ vs) H fun σ2 H2 => wipe σ2 vs = wipe σ vs ∧ tt σ2 H2 fun b H3 =>
      if b = true then tk σ2 H3 fun y H4 => tv σ2 H4 fun z H5 => ∃ kvs k, y = kV k ∧ H5 D = some (.dK kvs) ∧ kvs.length < sizeLine ∧ Pv (i + 1) (upd H5 D (.dK (putK kvs k z))) else Pv (i + 1) H3) (hd : ∀ H, Pv xs.length H → Qd H) :
    ∃ W : Nat → Nat → Hp → Prop, (∃ m, W 0 m (upd H1 D (.dK []))) ∧ ∀ i m H, W i m H →
      ((Itl K a).stop i H ∧ Qd H) ∨ ((Itl K a).go i H ∧ ∃ Nx : Hp → Prop, (∀ H', Nx H' → ∃ m', m' < m ∧ W (i + 1) m' H') ∧ ∀ x H', (Itl K a).yld i H x H' → g x (wipe σ vs) H' fun σ2 H2 => wipe σ2 vs = wipe σ vs ∧ tt σ2 H2 fun b H3 =>
        if b = true then tk σ2 H3 fun y H4 => tv σ2 H4 fun z H5 => ∃ kvs k, y = kV k ∧ H5 D = some (.dK kvs) ∧ kvs.length < sizeLine ∧ Nx (upd H5 D (.dK (putK kvs k z))) else Nx H3) := by
  refine ⟨fun i m H => m = xs.length - i ∧ i ≤ xs.length ∧ Pv i H, ⟨xs.length, by simp, Nat.zero_le _, h0⟩, ?_⟩
  rintro i m H ⟨rfl, hi, p⟩
  have q := hl i H hi p
  by_cases hlt : i < xs.length
  · refine .inr ⟨⟨xs, xs[i], q, by simp [hlt]⟩, Pv (i + 1), fun H' p' => ⟨xs.length - (i + 1), by omega, rfl, hlt, p'⟩, fun x H' y => ?_⟩
    obtain ⟨e, y⟩ := y
    subst e
    exact hs i x _ (y xs q) p
  · have e : i = xs.length := by omega
    subst e
    exact .inl ⟨⟨xs, q, Nat.le_refl _⟩, hd H p⟩
section
variable {K : PySem.W.Frag} {a : Addr} {xs : List V} {g : TG} {tt : TT} {tk tv : TE} {vs : List Nat} {σ : L2.St} {H1 : Hp} {Q : Addr → Hp → Prop}
theorem dc_pureL (hS : SqL K H1 a xs) (kzs : List (Key × V)) (hl : kzs.length = xs.length) (hz : xs.length < sizeLine) (nd : (kzs.map (·.1)).Nodup)
    (hs : ∀ (i : Nat) (x : V) (kz : Key × V) (H' : Hp) (NY : V → V → Hp → Prop) (NN : Hp → Prop), xs[i]? = some x → kzs[i]? = some kz → Same H1 H' → (∀ H5, Same H' H5 → NY (kV kz.1) kz.2 H5) →
      g x (wipe σ vs) H' (fun σ2 H2 => wipe σ2 vs = wipe σ vs ∧ tt σ2 H2 fun b H3 => if b = true then tk σ2 H3 fun y H4 => tv σ2 H4 fun z H5 => NY y z H5 else NN H3))
    (hd : ∀ D H', H1 D = none → Same H1 H' → H' D = some (.dK kzs) → Q D H') {D : Addr} (hD : H1 D = none) :
    ∃ W : Nat → Nat → Hp → Prop, (∃ m, W 0 m (upd H1 D (.dK []))) ∧ ∀ i m H, W i m H →
      ((Itl K a).stop i H ∧ Q D H) ∨ ((Itl K a).go i H ∧ ∃ Nx : Hp → Prop, (∀ H', Nx H' → ∃ m', m' < m ∧ W (i + 1) m' H') ∧ ∀ x H', (Itl K a).yld i H x H' → g x (wipe σ vs) H' fun σ2 H2 => wipe σ2 vs = wipe σ vs ∧ tt σ2 H2 fun b H3 =>
        if b = true then tk σ2 H3 fun y H4 => tv σ2 H4 fun z H5 => ∃ kvs k, y = kV k ∧ H5 D = some (.dK kvs) ∧ kvs.length < sizeLine ∧ Nx (upd H5 D (.dK (putK kvs k z))) else Nx H3) := by
  refine dc_list (fun i H' => Same H1 H' ∧ H' D = some (.dK (kzs.take i))) ⟨Same.new _ hD, upd_same⟩ (fun i H' _ p => SqL.kep (fun o e => p.1 _ _ e) hS) ?_ ?_
  · rintro i x H' hx ⟨s, k⟩
    have lt : i < kzs.length := by rw [hl]; exact (List.getElem?_eq_some_iff.mp hx).1
    have ho : kzs[i]? = some kzs[i] := List.getElem?_eq_getElem lt
    refine hs i x _ H' (fun y z H5 => ∃ kvs k, y = kV k ∧ H5 D = some (.dK kvs) ∧ kvs.length < sizeLine ∧ _) _ hx ho s (fun H5 s5 => ?_)
    refine ⟨_, _, rfl, s5 _ _ k, ?_, fun b u hb => ?_, ?_⟩
    · have l2 := List.length_take_le i kzs
      omega
    · rw [upd_ne (ne_of_none hb hD)]; exact s5 _ _ (s _ _ hb)
    · rw [upd_same, putK_new _ (put_free nd ho), List.take_add_one, ho]; rfl
  · rintro H' ⟨s, k⟩
    rw [← hl, List.take_length] at k
    exact hd D H' hD s k
theorem dc_pureT (hS : SqT K H1 a xs) (kzs : List (Key × V)) (hl : kzs.length = xs.length) (hz : xs.length < sizeLine) (nd : (kzs.map (·.1)).Nodup)
    (hs : ∀ (i : Nat) (x : V) (kz : Key × V) (H' : Hp) (NY : V → V → Hp → Prop) (NN : Hp → Prop), xs[i]? = some x → kzs[i]? = some kz → Same H1 H' → (∀ H5, Same H' H5 → NY (kV kz.1) kz.2 H5) →
      g x (wipe σ vs) H' (fun σ2 H2 => wipe σ2 vs = wipe σ vs ∧ tt σ2 H2 fun b H3 => if b = true then tk σ2 H3 fun y H4 => tv σ2 H4 fun z H5 => NY y z H5 else NN H3))
    (hd : ∀ D H', H1 D = none → Same H1 H' → H' D = some (.dK kzs) → Q D H') {D : Addr} (hD : H1 D = none) :
    ∃ W : Nat → Nat → Hp → Prop, (∃ m, W 0 m (upd H1 D (.dK []))) ∧ ∀ i m H, W i m H →
      ((Itt K a).stop i H ∧ Q D H) ∨ ((Itt K a).go i H ∧ ∃ Nx : Hp → Prop, (∀ H', Nx H' → ∃ m', m' < m ∧ W (i + 1) m' H') ∧ ∀ x H', (Itt K a).yld i H x H' → g x (wipe σ vs) H' fun σ2 H2 => wipe σ2 vs = wipe σ vs ∧ tt σ2 H2 fun b H3 =>
        if b = true then tk σ2 H3 fun y H4 => tv σ2 H4 fun z H5 => ∃ kvs k, y = kV k ∧ H5 D = some (.dK kvs) ∧ kvs.length < sizeLine ∧ Nx (upd H5 D (.dK (putK kvs k z))) else Nx H3) := by
  refine dc_tup (fun i H' => Same H1 H' ∧ H' D = some (.dK (kzs.take i))) ⟨Same.new _ hD, upd_same⟩ (fun i H' _ p => SqT.kep (fun o e => p.1 _ _ e) hS) ?_ ?_
  · rintro i x H' hx ⟨s, k⟩
    have lt : i < kzs.length := by rw [hl]; exact (List.getElem?_eq_some_iff.mp hx).1
    have ho : kzs[i]? = some kzs[i] := List.getElem?_eq_getElem lt
    refine hs i x _ H' (fun y z H5 => ∃ kvs k, y = kV k ∧ H5 D = some (.dK kvs) ∧ kvs.length < sizeLine ∧ _) _ hx ho s (fun H5 s5 => ?_)
    refine ⟨_, _, rfl, s5 _ _ k, ?_, fun b u hb => ?_, ?_⟩
    · have l2 := List.length_take_le i kzs
      omega
    · rw [upd_ne (ne_of_none hb hD)]; exact s5 _ _ (s _ _ hb)
    · rw [upd_same, putK_new _ (put_free nd ho), List.take_add_one, ho]; rfl
  · rintro H' ⟨s, k⟩
    rw [← hl, List.take_length] at k
    exact hd D H' hD s k
/-- a dict comprehension that only adds to the heap, over a list or a tuple -/
theorem dc_pure (hS : SqS K H1 a xs) (kzs : List (Key × V)) (hl : kzs.length = xs.length) (hz : xs.length < sizeLine) (nd : (kzs.map (·.1)).Nodup)
    (hs : ∀ (i : Nat) (x : V) (kz : Key × V) (H' : Hp) (NY : V → V → Hp → Prop) (NN : Hp → Prop), xs[i]? = some x → kzs[i]? = some kz → Same H1 H' → (∀ H5, Same H' H5 → NY (kV kz.1) kz.2 H5) →
      g x (wipe σ vs) H' (fun σ2 H2 => wipe σ2 vs = wipe σ vs ∧ tt σ2 H2 fun b H3 => if b = true then tk σ2 H3 fun y H4 => tv σ2 H4 fun z H5 => NY y z H5 else NN H3))
    (hd : ∀ D H', H1 D = none → Same H1 H' → H' D = some (.dK kzs) → Q D H') :
    ∃ a', V.ref a = .ref a' ∧ (((∃ xs, SqL K H1 a' xs) ∧ (∀ D, H1 D = none → ∃ W : Nat → Nat → Hp → Prop, (∃ m, W 0 m (upd H1 D (.dK []))) ∧ ∀ i m H, W i m H →
      ((Itl K a').stop i H ∧ Q D H) ∨ ((Itl K a').go i H ∧ ∃ Nx : Hp → Prop, (∀ H', Nx H' → ∃ m', m' < m ∧ W (i + 1) m' H') ∧ ∀ x H', (Itl K a').yld i H x H' → g x (wipe σ vs) H' fun σ2 H2 => wipe σ2 vs = wipe σ vs ∧ tt σ2 H2 fun b H3 =>
        if b = true then tk σ2 H3 fun y H4 => tv σ2 H4 fun z H5 => ∃ kvs k, y = kV k ∧ H5 D = some (.dK kvs) ∧ kvs.length < sizeLine ∧ Nx (upd H5 D (.dK (putK kvs k z))) else Nx H3))) ∨
     ((∃ xs, SqT K H1 a' xs) ∧ (∀ D, H1 D = none → ∃ W : Nat → Nat → Hp → Prop, (∃ m, W 0 m (upd H1 D (.dK []))) ∧ ∀ i m H, W i m H →
      ((Itt K a').stop i H ∧ Q D H) ∨ ((Itt K a').go i H ∧ ∃ Nx : Hp → Prop, (∀ H', Nx H' → ∃ m', m' < m ∧ W (i + 1) m' H') ∧ ∀ x H', (Itt K a').yld i H x H' → g x (wipe σ vs) H' fun σ2 H2 => wipe σ2 vs = wipe σ vs ∧ tt σ2 H2 fun b H3 =>
        if b = true then tk σ2 H3 fun y H4 => tv σ2 H4 fun z H5 => ∃ kvs k, y = kV k ∧ H5 D = some (.dK kvs) ∧ kvs.length < sizeLine ∧ Nx (upd H5 D (.dK (putK kvs k z))) else Nx H3)))) := by
  refine ⟨a, rfl, ?_⟩
  rcases hS with h | h
  · exact .inl ⟨⟨xs, h⟩, fun D hD => dc_pureL h kzs hl hz nd hs hd hD⟩
  · exact .inr ⟨⟨xs, h⟩, fun D hD => dc_pureT h kzs hl hz nd hs hd hD⟩
theorem dc_pureLI (hS : SqL K H1 a xs) (kzs : List (Key × V)) (hl : kzs.length = xs.length) (hz : xs.length < sizeLine) (nd : (kzs.map (·.1)).Nodup)
    (hs : ∀ (i : Nat) (x : V) (kz : Key × V) (H' : Hp) (NY : V → V → Hp → Prop) (NN : Hp → Prop), xs[i]? = some x → kzs[i]? = some kz → Same H1 H' → (∀ H5, Same H' H5 → NY (kV kz.1) kz.2 H5) →
      g x (wipe σ vs) H' (fun σ2 H2 => wipe σ2 vs = wipe σ vs ∧ tt σ2 H2 fun b H3 => if b = true then tk σ2 H3 fun y H4 => tv σ2 H4 fun z H5 => NY y z H5 else NN H3))
    (hd : ∀ D H', H1 D = none → Same H1 H' → H' D = some (.dK kzs) → Q D H') :
    ∃ a', V.ref a = .ref a' ∧ (∃ xs, SqL K H1 a' xs) ∧ (∀ D, H1 D = none → ∃ W : Nat → Nat → Hp → Prop, (∃ m, W 0 m (upd H1 D (.dK []))) ∧ ∀ i m H, W i m H →
      ((Itl K a').stop i H ∧ Q D H) ∨ ((Itl K a').go i H ∧ ∃ Nx : Hp → Prop, (∀ H', Nx H' → ∃ m', m' < m ∧ W (i + 1) m' H') ∧ ∀ x H', (Itl K a').yld i H x H' → g x (wipe σ vs) H' fun σ2 H2 => wipe σ2 vs = wipe σ vs ∧ tt σ2 H2 fun b H3 =>
        if b = true then tk σ2 H3 fun y H4 => tv σ2 H4 fun z H5 => ∃ kvs k, y = kV k ∧ H5 D = some (.dK kvs) ∧ kvs.length < sizeLine ∧ Nx (upd H5 D (.dK (putK kvs k z))) else Nx H3)) := ⟨a, rfl, ⟨xs, hS⟩, fun D hD => dc_pureL hS kzs hl hz nd hs hd hD⟩
theorem i_dc {Q : VK} {wi : TI} (h : wi σ H1 fun J H1 => ∀ D, H1 D = none → ∃ W : Nat → Nat → Hp → Prop, (∃ m, W 0 m (upd H1 D (.dK []))) ∧ ∀ i m H, W i m H →
  (J.stop i H ∧ Q (.ref D) H) ∨ (J.go i H ∧ ∃ Nx : Hp → Prop, (∀ H', Nx H' → ∃ m', m' < m ∧ W (i + 1) m' H') ∧ ∀ x H', J.yld i H x H' → g x (wipe σ vs) H' fun σ2 H2 => wipe σ2 vs = wipe σ vs ∧ tt σ2 H2 fun b H3 =>
    if b = true then tk σ2 H3 fun y H4 => tv σ2 H4 fun z H5 => ∃ kvs k, y = kV k ∧ H5 D = some (.dK kvs) ∧ kvs.length < sizeLine ∧ Nx (upd H5 D (.dK (putK kvs k z))) else Nx H3)) : tDc wi g tt tk tv vs σ H1 Q := h
end
/-- all of a list of truths -/
theorem i_all {K : PySem.W.Frag} {H : Hp} {Q : VK} {p : Addr} {bs : List Bool} (hS : SqL K H p (bs.map V.bl)) (q : Q (.bl (bs.all id)) H) : rAll K [.ref p] H Q := ⟨p, bs, rfl, hS, q⟩
theorem i_lenS2 {K : PySem.W.Frag} {H : Hp} {Q : VK} {p : Addr} {xs : List V} (hS : SqS K H p xs) (q : Q (.int xs.length) H) : rLen K [.ref p] H Q := ⟨p, xs, rfl, hS, q⟩
/-- xs += ys -/
theorem i_ext2 {H : Hp} {Q : VK} {l b : Addr} {xs zs : List V} (h1 : H l = some (.lst xs)) (h2 : H b = some (.lst zs)) (hz : xs.length + zs.length ≤ sizeLine) (q : Q (.ref l) (upd H l (.lst (xs ++ zs)))) : rExt2 (.ref l) (.ref b) H Q := ⟨l, b, xs, zs, rfl, rfl, h1, h2, hz, q⟩
theorem i_isiC {K : PySem.W.Frag} {H : Hp} {Q : VK} {v : V} {t : Value} {m : String} {b : Bool} (h : TyX K H v t) (e : PySem.W.kitOne K t (.type m) = some b) (q : Q (.bl b) H) : rIsi K [v, .ty m] H Q := ⟨v, .ty m, t, .type m, b, rfl, .ty m, h, e, q⟩
/-- a list or a tuple of the heap -/
def SqO (H : Hp) (a : Addr) (xs : List V) : Prop := H a = some (.lst xs) ∨ H a = some (.tup xs)
theorem SqO.sq {K : PySem.W.Frag} {H : Hp} {a : Addr} {xs : List V} (h : SqO H a xs) : SqS K H a xs := h.elim .lst .tup
theorem SqO.same {H H' : Hp} {a : Addr} {xs : List V} (h : SqO H a xs) (e : Same H H') : SqO H' a xs := h.imp (e _ _) (e _ _)
theorem SqO.ne {H : Hp} {a p : Addr} {xs : List V} (h : SqO H a xs) (e : H p = none) : a ≠ p := by rintro rfl; rcases h with h | h <;> rw [e] at h <;> cases h
theorem SqO.but {H H' : Hp} {a b : Addr} {xs : List V} (h : SqO H a xs) (n : a ≠ b) (e : But b H H') : SqO H' a xs := h.imp (e _ _ n) (e _ _ n)
/-- tuple(xs) -/
def rTupOf (K : PySem.W.Frag) : List V → Hp → VK → Prop := fun xs H Q => ∃ p ys, xs = [.ref p] ∧ ((SqL K H p ys ∧ ∀ l, H l = none → Q (.ref l) (upd H l (.tup ys))) ∨ (SqT K H p ys ∧ Q (.ref p) H))
theorem c_tupleOf {X : Cx} : CallR X (.type "tuple") (rTupOf X.K) := call_tuple_of
theorem i_tupOf {K : PySem.W.Frag} {H : Hp} {Q : VK} {p : Addr} {xs : List V} (h : SqO H p xs) (q : ∀ l H', Same H H' → H' l = some (.tup xs) → Q (.ref l) H') : rTupOf K [.ref p] H Q := by
  rcases h with h | h
  · exact ⟨p, xs, rfl, .inl ⟨SqL.lst h, fun l hl => q l _ (Same.new _ hl) upd_same⟩⟩
  · exact ⟨p, xs, rfl, .inr ⟨SqT.tup h, q p _ (Same.refl _) h⟩⟩
open SeqAt in
/-- xs != [] -/
def rNeNil (K : PySem.W.Frag) : R2 := fun x y H Q => ∃ a b vs, x = .ref a ∧ y = .ref b ∧ SqL K H a vs ∧ SqL K H b [] ∧ Q (.bl (!vs.isEmpty)) H
section
open SeqAt
variable {X : Cx}
theorem op_neNil (hu : X.A.units + 64 < cLine) : OpR X (compareOp .NotEq) (rNeNil X.K) := by
  intro pins s σ H x y v u Q I rx ry h
  obtain ⟨a, b, vs, rfl, rfl, ha, hb, q⟩ := h
  cases (show v = .ref a from rx)
  cases (show u = .ref b from ry)
  obtain ⟨as, ra, p1, _⟩ := I.list ha
  obtain ⟨bs, rb, p2, _⟩ := I.list hb
  have l1 := ra.length
  have l2 := rb.length
  cases vs with
  | nil =>
    have z := RcNeAt.lists (A := X.A) (e := fun _ => true) p1.isList p2.isList (by simp at l1 l2 ⊢; omega) (by omega) (fun j h1 h2 => by simp at l1 h1; omega)
    rw [all_true] at z
    exact z X.prog X.w X.xe _ ⟨.bl false, H, I, rfl, q⟩
  | cons c r =>
    have z := RcNeAt.lists_lengths (A := X.A) p1.isList p2.isList (by simp at l1 l2 ⊢; omega) (by omega)
    exact z X.prog X.w X.xe _ ⟨.bl true, H, I, rfl, q⟩
/-- x != x of plain things -/
inductive SelfP (K : PySem.W.Frag) (H : Hp) : V → Prop
  | ps {v : V} {d : PyData} : Ps v d → SelfP K H v
  | lst {a : Addr} {vs : List V} : SqL K H a vs → (∀ v ∈ vs, It1 v) → SelfP K H (.ref a)
  | tup {a : Addr} {vs : List V} : SqT K H a vs → (∀ v ∈ vs, It1 v) → SelfP K H (.ref a)
  | dct {a : Addr} : H a = some (.dK []) → SelfP K H (.ref a)
def rNeSf (K : PySem.W.Frag) : R2 := fun x y H Q => x = y ∧ SelfP K H x ∧ Q (.bl false) H
theorem op_neSf (hu : X.A.units + 64 < cLine) : OpR X (compareOp .NotEq) (rNeSf X.K) := by
  intro pins s σ H x y v u Q I rx ry h
  obtain ⟨rfl, hs, q⟩ := h
  cases hs with
  | @ps v d h =>
    refine op_neD hu pins s σ H x x _ _ Q I rx ry ⟨d, d, h.dp, h.dp, h.shaped, h.shaped, ?_⟩
    rw [SeqAt.eqv_refl _ h.lay]
    exact q
  | @lst a vs ha hv =>
    cases (show v = .ref a from rx)
    cases (show u = .ref a from ry)
    obtain ⟨as, ra, p1, _⟩ := I.list ha
    have z := RcNeAt.lists (A := X.A) (e := fun _ => true) p1.isList p1.isList rfl (by omega) (fun j h1 h2 => eqAt_items hv ra ra j h1 h2)
    rw [all_true] at z
    exact z X.prog X.w X.xe _ ⟨.bl false, H, I, rfl, q⟩
  | @tup a vs ha hv =>
    cases (show v = .ref a from rx)
    cases (show u = .ref a from ry)
    obtain ⟨as, ra, p1, _⟩ := I.tuple ha
    have p2 : s.heap.IsTuple a as.toArray := p1
    have z := RcNeAt.tuples (A := X.A) (e := fun _ => true) p2 p2 (by omega) (fun j h1 h2 => eqAt_items hv ra ra j h1 h2)
    rw [all_true] at z
    simp only [beq_self_eq_true, Bool.and_self, Bool.not_true] at z
    exact z X.prog X.w X.xe _ ⟨.bl false, H, I, rfl, q⟩
  | @dct a ha => exact op_ne_dictA (by omega) pins s σ H _ _ v u Q I rx ry ⟨a, a, [], [], rfl, rfl, ha, ha, rfl, by simp, q⟩
end
end Ice

set_option Elab.async false
set_option linter.all false
set_option maxRecDepth 100000
set_option maxHeartbeats 4000000
set_option autoImplicit false
/-! Comprehensions whose items are made. -/
namespace Ice
open PySem PySem.Spec PyProof.Rows L2
section
variable {K : PySem.W.Frag} {a : Addr} {xs : List V} {g : TG} {tt : TT} {te : TE} {vs : List Nat} {σ : L2.St} {H1 : Hp} {Q : Addr → Hp → Prop}
theorem lc_relL (hS : SqL K H1 a xs) (hz : xs.length < sizeLine) (Rl : Nat → V → Hp → Prop) (mono : ∀ i y H H', Same H H' → Rl i y H → Rl i y H') (off : ∀ i y H D us ws, H D = some (.lst us) → Rl i y H → Rl i y (upd H D (.lst ws)))
    (hs : ∀ (i : Nat) (x : V) (H' : Hp) (NY : VK) (NN : Hp → Prop), xs[i]? = some x → Same H1 H' → (∀ y H4, Same H' H4 → Rl i y H4 → NY y H4) →
      g x (wipe σ vs) H' (fun σ2 H2 => wipe σ2 vs = wipe σ vs ∧ tt σ2 H2 fun b H3 => if b = true then te σ2 H3 NY else NN H3))
    (hd : ∀ D H' ys, H1 D = none → Same H1 H' → H' D = some (.lst ys) → ys.length = xs.length → (∀ i y, ys[i]? = some y → Rl i y H') → Q D H') :
    ∃ a', V.ref a = .ref a' ∧ (∃ xs, SqL K H1 a' xs) ∧ ∀ D, H1 D = none → ∃ W : Nat → Nat → Hp → Prop, (∃ m, W 0 m (upd H1 D (.lst []))) ∧ ∀ i m H, W i m H →
      ((Itl K a').stop i H ∧ Q D H) ∨ ((Itl K a').go i H ∧ ∃ Nx : Hp → Prop, (∀ H', Nx H' → ∃ m', m' < m ∧ W (i + 1) m' H') ∧ ∀ x H', (Itl K a').yld i H x H' → g x (wipe σ vs) H' fun σ2 H2 => wipe σ2 vs = wipe σ vs ∧ tt σ2 H2 fun b H3 =>
        if b = true then te σ2 H3 fun y H4 => ∃ acc, H4 D = some (.lst acc) ∧ acc.length < sizeLine ∧ Nx (upd H4 D (.lst (acc ++ [y]))) else Nx H3) := by
  refine ⟨a, rfl, ⟨xs, hS⟩, fun D hD => ?_⟩
  refine lc_list (fun i H' => Same H1 H' ∧ ∃ ys, H' D = some (.lst ys) ∧ ys.length = i ∧ ∀ j y, ys[j]? = some y → Rl j y H') ⟨Same.new _ hD, [], upd_same, rfl, fun j y h => by simp at h⟩ (fun i H' _ p => SqL.kep (fun o e => p.1 _ _ e) hS) ?_ ?_
  · rintro i x H' hx ⟨s, ys, k, hl, hr⟩
    have lt := (List.getElem?_eq_some_iff.mp hx).1
    refine hs i x H' _ _ hx s (fun y H4 s4 r4 => ?_)
    have k4 := s4 _ _ k
    refine ⟨_, k4, by omega, fun b u hb => ?_, ys ++ [y], upd_same, by simp [hl], fun j z hz => ?_⟩
    · rw [upd_ne (ne_of_none hb hD)]; exact s4 _ _ (s _ _ hb)
    · refine off _ _ _ _ _ _ k4 ?_
      rw [List.getElem?_append] at hz
      split at hz
      · exact mono _ _ _ _ s4 (hr j z hz)
      · rename_i nl
        have : j - ys.length = 0 := by
          have := (List.getElem?_eq_some_iff.mp hz).1
          simp at this; omega
        rw [this] at hz
        have e : j = i := by omega
        subst e
        rw [← Option.some.inj hz]
        exact r4
  · rintro H' ⟨s, ys, k, hl, hr⟩
    exact hd D H' ys hD s k hl hr
end
/-- what was made, item by item -/
theorem made_list {α : Type} {P : Addr → α → Prop} : ∀ (ys : List V) (L : List α), ys.length = L.length → (∀ (i : Nat) (y : V), ys[i]? = some y → ∃ (x : Addr) (z : α), y = V.ref x ∧ L[i]? = some z ∧ P x z) →
    ∃ L' : List (Addr × α), ys = L'.map (fun z => V.ref z.1) ∧ L'.map (·.2) = L ∧ ∀ z ∈ L', P z.1 z.2
  | [], [], _, _ => ⟨[], rfl, rfl, by simp⟩
  | [], _ :: _, h, _ => by simp at h
  | _ :: _, [], h, _ => by simp at h
  | y :: ys, c :: L, h, hi => by
    obtain ⟨x, z, rfl, hz, p⟩ := hi 0 y rfl
    obtain rfl := Option.some.inj hz
    obtain ⟨L', e1, e2, h3⟩ := made_list (P := P) ys L (by simpa using h) (fun i y hy => hi (i + 1) y hy)
    exact ⟨(x, c) :: L', by rw [e1]; rfl, by rw [← e2]; rfl, by
      intro z hz
      rcases List.mem_cons.mp hz with rfl | hz
      · exact p
      · exact h3 z hz⟩
end Ice

set_option Elab.async false
set_option linter.all false
set_option maxRecDepth 100000
set_option maxHeartbeats 4000000
set_option autoImplicit false
/-! Texts of words and numbers; made items of a list or a tuple. -/
namespace Ice
open PySem PySem.Spec PyProof.Rows L2
/-- a word or a number -/
inductive Wn : V → Prop
  | str {s : Str} : s.length ≤ 200 → Wn (.str s)
  | int {i : Int} : i.natAbs < 10 ^ 60 → Wn (.int i)
def txtV : V → Str
  | .str s => s
  | .int i => Str.ofString (toString i)
  | _ => Str.ofString ""
def rStrP : List V → Hp → VK → Prop := fun xs H Q => ∃ x, xs = [x] ∧ Wn x ∧ Q (.str (txtV x)) H
theorem c_strP {X : Cx} : CallR X (.type "str") rStrP := by
  intro pins s σ H xs us Q I r h
  obtain ⟨x, rfl, hw, q⟩ := h
  cases hw with
  | str hl => exact SkE.call_str_str pins s σ H _ us Q I r ⟨_, rfl, q⟩
  | @int i hi => exact call_str_int pins s σ H _ us Q I r ⟨i, rfl, Nat.lt_trans (PySem.Flt.log2_lt_of (k := 200) (by decide) (Nat.lt_trans hi (by decide))) (by decide), q⟩
theorem i_strP {x : V} {H : Hp} {Q : VK} (h : Wn x) (q : Q (.str (txtV x)) H) : rStrP [x] H Q := ⟨x, rfl, h, q⟩
theorem Wn.len {x : V} (h : Wn x) : (txtV x).length ≤ 200 := by
  cases h with
  | str h => exact h
  | @int i h =>
    have := int_text_length_le10 (a := i) (k := 60) (by decide) h
    show (Str.ofString (toString i)).length ≤ _
    rw [PySem.ofString_length]; omega
theorem i_joinP {K : PySem.W.Frag} {H : Hp} {Q : VK} {a : Str} {p : Addr} {ys : List Str} (hS : SqS K H p (ys.map V.str)) (hz : (ys.map (·.length)).sum + ys.length * a.length ≤ 16777216) (q : Q (.str (Txt.join a ys)) H) : rJoin K (.str a) [.ref p] H Q := ⟨a, p, ys, rfl, rfl, hS, hz, q⟩
theorem sum_le {ys : List Str} {k : Nat} (h : ∀ y ∈ ys, y.length ≤ k) : (ys.map (·.length)).sum ≤ k * ys.length := by
  induction ys with
  | nil => simp
  | cons y r ih =>
    have h1 := h y (by simp)
    have h2 := ih (fun z hz => h z (by simp [hz]))
    rw [List.map_cons, List.sum_cons, List.length_cons, Nat.mul_add]
    omega
section
variable {K : PySem.W.Frag} {a : Addr} {xs : List V} {g : TG} {tt : TT} {te : TE} {vs : List Nat} {σ : L2.St} {H1 : Hp} {Q : Addr → Hp → Prop}
theorem lc_relT (hS : SqT K H1 a xs) (hz : xs.length < sizeLine) (Rl : Nat → V → Hp → Prop) (mono : ∀ i y H H', Same H H' → Rl i y H → Rl i y H') (off : ∀ i y H D us ws, H D = some (.lst us) → Rl i y H → Rl i y (upd H D (.lst ws)))
    (hs : ∀ (i : Nat) (x : V) (H' : Hp) (NY : VK) (NN : Hp → Prop), xs[i]? = some x → Same H1 H' → (∀ y H4, Same H' H4 → Rl i y H4 → NY y H4) →
      g x (wipe σ vs) H' (fun σ2 H2 => wipe σ2 vs = wipe σ vs ∧ tt σ2 H2 fun b H3 => if b = true then te σ2 H3 NY else NN H3))
    (hd : ∀ D H' ys, H1 D = none → Same H1 H' → H' D = some (.lst ys) → ys.length = xs.length → (∀ i y, ys[i]? = some y → Rl i y H') → Q D H') :
    ∃ a', V.ref a = .ref a' ∧ (∃ xs, SqT K H1 a' xs) ∧ ∀ D, H1 D = none → ∃ W : Nat → Nat → Hp → Prop, (∃ m, W 0 m (upd H1 D (.lst []))) ∧ ∀ i m H, W i m H →
      ((Itt K a').stop i H ∧ Q D H) ∨ ((Itt K a').go i H ∧ ∃ Nx : Hp → Prop, (∀ H', Nx H' → ∃ m', m' < m ∧ W (i + 1) m' H') ∧ ∀ x H', (Itt K a').yld i H x H' → g x (wipe σ vs) H' fun σ2 H2 => wipe σ2 vs = wipe σ vs ∧ tt σ2 H2 fun b H3 =>
        if b = true then te σ2 H3 fun y H4 => ∃ acc, H4 D = some (.lst acc) ∧ acc.length < sizeLine ∧ Nx (upd H4 D (.lst (acc ++ [y]))) else Nx H3) := by
  refine ⟨a, rfl, ⟨xs, hS⟩, fun D hD => ?_⟩
  refine lc_tup (fun i H' => Same H1 H' ∧ ∃ ys, H' D = some (.lst ys) ∧ ys.length = i ∧ ∀ j y, ys[j]? = some y → Rl j y H') ⟨Same.new _ hD, [], upd_same, rfl, fun j y h => by simp at h⟩ (fun i H' _ p => SqT.kep (fun o e => p.1 _ _ e) hS) ?_ ?_
  · rintro i x H' hx ⟨s, ys, k, hl, hr⟩
    have lt := (List.getElem?_eq_some_iff.mp hx).1
    refine hs i x H' _ _ hx s (fun y H4 s4 r4 => ?_)
    have k4 := s4 _ _ k
    refine ⟨_, k4, by omega, fun b u hb => ?_, ys ++ [y], upd_same, by simp [hl], fun j z hz => ?_⟩
    · rw [upd_ne (ne_of_none hb hD)]; exact s4 _ _ (s _ _ hb)
    · refine off _ _ _ _ _ _ k4 ?_
      rw [List.getElem?_append] at hz
      split at hz
      · exact mono _ _ _ _ s4 (hr j z hz)
      · rename_i nl
        have : j - ys.length = 0 := by
          have := (List.getElem?_eq_some_iff.mp hz).1
          simp at this; omega
        rw [this] at hz
        have e : j = i := by omega
        subst e
        rw [← Option.some.inj hz]
        exact r4
  · rintro H' ⟨s, ys, k, hl, hr⟩
    exact hd D H' ys hD s k hl hr
end
theorem joinL_len (S : List Nat) : ∀ L : List (List Nat), (TL.joinL S L).length ≤ (L.map (·.length)).sum + L.length * S.length
  | [] => by simp [TL.joinL]
  | [p] => by simp [TL.joinL]
  | p :: q :: r => by
    have ih := joinL_len S (q :: r)
    show (p ++ (S ++ TL.joinL S (q :: r))).length ≤ _
    rw [List.length_append, List.length_append, List.map_cons, List.sum_cons, List.length_cons (as := q :: r), Nat.add_mul]
    omega
theorem join_len (a : Str) (ys : List Str) : (Txt.join a ys).length ≤ (ys.map (·.length)).sum + ys.length * a.length := by
  rw [TL.join_eq, ← tl_len, TL.tl_join]
  have := joinL_len (TL.tl a) (ys.map TL.tl)
  rw [List.length_map, tl_len] at this
  refine Nat.le_trans this ?_
  have e : ((ys.map TL.tl).map (·.length)) = ys.map (·.length) := by
    rw [List.map_map]
    exact List.map_congr_left fun y _ => tl_len y
  rw [e]; exact Nat.le_refl _
end Ice

set_option Elab.async false
set_option linter.all false
set_option maxRecDepth 100000
set_option maxHeartbeats 4000000
set_option autoImplicit false
/-! Comprehensions whose items are drawn from a box. -/
namespace Ice
open PySem PySem.Spec PyProof.Rows L2
section
variable {K : PySem.W.Frag} {a b : Addr} {xs : List V} {g : TG} {tt : TT} {te : TE} {vs : List Nat} {σ : L2.St} {H1 : Hp} {Q : Addr → Hp → Prop}
theorem lc_boxL {n0 c : Nat} (hS : SqL K H1 a xs) (ab : a ≠ b) (hB : Box H1 b n0) (hz : xs.length < sizeLine) (Rl : Nat → V → Hp → Prop) (mono : ∀ i y H H' k, Box H b k → But b H H' → Rl i y H → Rl i y H') (off : ∀ i y H D us ws, H D = some (.lst us) → Rl i y H → Rl i y (upd H D (.lst ws)))
    (hs : ∀ (i : Nat) (x : V) (H' : Hp) (NY : VK) (NN : Hp → Prop), xs[i]? = some x → But b H1 H' → Box H' b (n0 + c * i) → (∀ y H4, But b H' H4 → Box H4 b (n0 + c * (i + 1)) → Rl i y H4 → NY y H4) →
      g x (wipe σ vs) H' (fun σ2 H2 => wipe σ2 vs = wipe σ vs ∧ tt σ2 H2 fun b H3 => if b = true then te σ2 H3 NY else NN H3))
    (hd : ∀ D H' ys, H1 D = none → D ≠ b → But b H1 H' → Box H' b (n0 + c * xs.length) → H' D = some (.lst ys) → ys.length = xs.length → (∀ i y, ys[i]? = some y → Rl i y H') → Q D H') :
    ∃ a', V.ref a = .ref a' ∧ (∃ xs, SqL K H1 a' xs) ∧ ∀ D, H1 D = none → ∃ W : Nat → Nat → Hp → Prop, (∃ m, W 0 m (upd H1 D (.lst []))) ∧ ∀ i m H, W i m H →
      ((Itl K a').stop i H ∧ Q D H) ∨ ((Itl K a').go i H ∧ ∃ Nx : Hp → Prop, (∀ H', Nx H' → ∃ m', m' < m ∧ W (i + 1) m' H') ∧ ∀ x H', (Itl K a').yld i H x H' → g x (wipe σ vs) H' fun σ2 H2 => wipe σ2 vs = wipe σ vs ∧ tt σ2 H2 fun b H3 =>
        if b = true then te σ2 H3 fun y H4 => ∃ acc, H4 D = some (.lst acc) ∧ acc.length < sizeLine ∧ Nx (upd H4 D (.lst (acc ++ [y]))) else Nx H3) := by
  refine ⟨a, rfl, ⟨xs, hS⟩, fun D hD => ?_⟩
  have nD : D ≠ b := hB.ne hD
  refine lc_list (fun i H' => But b H1 H' ∧ Box H' b (n0 + c * i) ∧ ∃ ys, H' D = some (.lst ys) ∧ ys.length = i ∧ ∀ j y, ys[j]? = some y → Rl j y H') ⟨But.new _ hD, hB.upd nD, [], upd_same, rfl, fun j y h => by simp at h⟩ (fun i H' _ p => SqL.but p.1 ab hS) ?_ ?_
  · rintro i x H' hx ⟨s, B, ys, k, hl, hr⟩
    have lt := (List.getElem?_eq_some_iff.mp hx).1
    refine hs i x H' _ _ hx s B (fun y H4 s4 B4 r4 => ?_)
    have k4 := s4 _ _ nD k
    refine ⟨_, k4, by omega, (s.trans s4).upd hD, B4.upd nD, ys ++ [y], upd_same, by simp [hl], fun j z hz => ?_⟩
    refine off _ _ _ _ _ _ k4 ?_
    rw [List.getElem?_append] at hz
    split at hz
    · exact mono _ _ _ _ _ B s4 (hr j z hz)
    · rename_i nl
      have : j - ys.length = 0 := by
        have := (List.getElem?_eq_some_iff.mp hz).1
        simp at this; omega
      rw [this] at hz
      have e : j = i := by omega
      subst e
      rw [← Option.some.inj hz]
      exact r4
  · rintro H' ⟨s, B, ys, k, hl, hr⟩
    exact hd D H' ys hD nD s B k hl hr
end
theorem made_any {α : Type} : ∀ (ys : List V) (P : Nat → Addr → α → Prop), (∀ (i : Nat) (y : V), ys[i]? = some y → ∃ (p : Addr) (c : α), y = V.ref p ∧ P i p c) →
    ∃ L : List (Addr × α), ys = L.map (fun z => V.ref z.1) ∧ ∀ (i : Nat) (z : Addr × α), L[i]? = some z → P i z.1 z.2
  | [], _, _ => ⟨[], rfl, fun i z h => by simp at h⟩
  | y :: ys, P, h => by
    obtain ⟨p, c, rfl, hp⟩ := h 0 y rfl
    obtain ⟨L, e, hL⟩ := made_any ys (fun i => P (i + 1)) (fun i y hy => h (i + 1) y hy)
    refine ⟨(p, c) :: L, by rw [e]; rfl, fun i z hz => ?_⟩
    cases i with
    | zero => rw [← Option.some.inj hz]; exact hp
    | succ i => exact hL i z hz
theorem map_by {α β : Type} {L : List α} {f : α → β} {ns : List β} (hl : L.length = ns.length) (h : ∀ (i : Nat) (z : α), L[i]? = some z → ns[i]? = some (f z)) : L.map f = ns := by
  refine List.ext_getElem? fun i => ?_
  rw [List.getElem?_map]
  cases hz : L[i]? with
  | some z => exact (h i z hz).symm
  | none =>
    have : L.length ≤ i := List.getElem?_eq_none_iff.mp hz
    exact (List.getElem?_eq_none_iff.mpr (by omega)).symm
end Ice

set_option Elab.async false
set_option linter.all false
set_option maxRecDepth 100000
set_option maxHeartbeats 4000000
set_option autoImplicit false
/-! enumerate of a tuple. -/
namespace Ice
open PySem PySem.Spec PyProof.Rows L2
/-- the tuple at a, each item in a new pair with its number -/
def ItET (K : PySem.W.Frag) (a : Addr) : It where
  go i H := ∃ (xs : List V) (x : V), SqT K H a xs ∧ xs[i]? = some x
  yld i H v H' := ∃ T x, v = .ref T ∧ H T = none ∧ H' = upd H T (.tup [.int (i : Nat), x]) ∧ ∀ xs, SqT K H a xs → xs[i]? = some x
  stop i H := ∃ xs : List V, SqT K H a xs ∧ i = xs.length
theorem turn_ET {P : Program} {w : World} {K : PySem.W.Frag} {elts : List Expr} {kk : Nat} {tpos : Pos} {a e it : Addr} (hne : e ≠ it) (hea : e ≠ a) (hai : a ≠ it) :
    Turn P w K (.Tuple elts kk tpos) (ItET K a) [e, it] e (fun i h => (∃ old, IsEnum h e it ((i : Nat) : Int) old) ∧ h.IsTupleIter it a i) where
  mem := by simp
  obj := fun i h st b hb => by
    obtain ⟨⟨old, he⟩, ⟨o, ho, hc, hd⟩⟩ := st
    have e' : b = e ∨ b = it := by simpa using hb
    rcases e' with z | z
    · rw [z]; exact ⟨_, he, fun v q => nomatch q⟩
    · rw [z]; exact ⟨o, ho, fun v q => by rw [hd] at q; cases q⟩
  keep := fun i h h' st k => let ⟨⟨old, he⟩, hi⟩ := st; ⟨⟨old, k e (by simp) _ he⟩, hi.at fun o q => k it (by simp) o q⟩
  item := by
    intro X hP hw hK hc i pins s σ H E I hf st hg
    subst hP hw hK
    obtain ⟨⟨old, he⟩, hit⟩ := st
    obtain ⟨xs, x, hq, hx⟩ := hg
    obtain ⟨its, rv, p, _⟩ := I.tuple hq
    obtain ⟨u, hu, ru⟩ := rv.get hx
    have hel : e < s.heap.objs.size := Heap.lt_size he
    have hil : it < s.heap.objs.size := by obtain ⟨_, q, _⟩ := hit; exact Heap.lt_size q
    have hu' : its.toArray[i]? = some u := by simpa using hu
    have hlt : i < its.toArray.size := (Array.getElem?_eq_some_iff.mp hu').1
    have hh : X.A.in1.handled = none := I.ok.hd hc
    refine wpAny_pyNext_enum_itemD (Draws.tuple hh it a hai its.toArray) he ⟨hit, p⟩ hlt hne (by simp; exact ⟨hne, hea⟩) fun x2 h' tk hp2 ho hs hT hsz hk => ?_
    have ev : x2 = u := Option.some.inj (hp2.symm.trans hu')
    subst ev
    refine ⟨_, rfl, wpAny_letOwnedTupleGo_enum (s := { s with heap := h', toks := tk + 1 }) ho fun h'' he' sb => ?_⟩
    have hT2 : h''.get? s.heap.objs.size = some { cls := .type "tuple", data := .seq #[.int i tk, x2] } := (sb.2 _ (Nat.ne_of_gt hel)).trans hT
    have new : ObjOk X.prog X.w (upd H s.heap.objs.size (.tup [.int (i : Nat), x])) h'' s.heap.objs.size (.tup [.int (i : Nat), x]) :=
      ⟨by show 2 ≤ sizeLine; decide, [.int i tk, x2], .cons ⟨_, rfl⟩ (.cons ru .nil), ⟨_, hT2, rfl, _, rfl⟩⟩
    have I1 : Inv X pins σ (upd H s.heap.objs.size (.tup [.int (i : Nat), x])) { s with heap := h'', toks := tk + 1 } :=
      I.turnedNew (ch := [e, it]) (fun b ob hb q => (sb.2 b (fun z => hb (by simp [z]))).trans (hk b ob (fun z => hb (by simp [z])) (fun z => hb (by simp [z])) q)) hf (Nat.le_refl _) new
    refine ⟨.ref s.heap.objs.size, _, I1, rfl, ⟨_, x, rfl, I.hok.fresh (Nat.le_refl _), rfl, fun l hl => by rw [I.tuple_inj hl hq]; exact hx⟩, ⟨⟨x2, ?_⟩, hs.1.at fun o q => (sb.2 it (Ne.symm hne)).trans q⟩, fun b hb => ?_⟩
    · have e1 : ((i + 1 : Nat) : Int) = (i : Int) + 1 := by omega
      rw [e1]; exact he'
    · have hb' : b < s.heap.objs.size := by
        have e' : b = e ∨ b = it := by simpa using hb
        rcases e' with z | z
        · rw [z]; exact hel
        · rw [z]; exact hil
      rw [upd_ne (Nat.ne_of_lt hb')]
      exact (hf b hb).1
  done := by
    intro X hP hw hK hc i pins s σ H E I hf st hg
    subst hP hw hK
    obtain ⟨⟨old, he⟩, hit⟩ := st
    obtain ⟨xs, hq, hl⟩ := hg
    obtain ⟨its, rv, p, _⟩ := I.tuple hq
    have hh : X.A.in1.handled = none := I.ok.hd hc
    have k1 : its.toArray.size = xs.length := by rw [List.size_toArray]; exact rv.length.symm
    have hit' : s.heap.IsTupleIter it a its.toArray.size := by rw [k1, ← hl]; exact hit
    exact wpAny_pyNext_enum_endD (Draws.tuple hh it a hai its.toArray) he ⟨hit', p⟩ fun h' eb => ⟨rfl, I.turnedL (t' := s.toks) (ch := [e, it]) (fun c o hb q => eb c o (fun q' => hb (by simp [q'])) q) hf⟩
  self := fun A i s Q E st h => let ⟨⟨_, he⟩, _⟩ := st; wpAny_pyIter_enum he h
set_option maxHeartbeats 4000000 in
theorem meets_enumB {v : Value} {o : Obj} {H : Heap → Prop} (B : Begins v o H) :
    Meets (Builtin.«enumerate.__new__» ⟨[.type "enumerate", v], []⟩) (fun _ R s => H s.heap ∧
      R (.ok (.ret (.ref (s.heap.push o).objs.size))) { s with heap := (s.heap.push o).push { cls := .type "enumerate", data := .fields #[.none, .bool false, .ref s.heap.objs.size, rawInt 0, .none, .none] } }) :=
  .of_wp fun prog w A R s h => by
    obtain ⟨hp, g, d, tk, os⟩ := s; obtain ⟨h1, h⟩ := h
    have hsub := sub_enumerate
    have q1 : ∀ {A' : Around} {E : Value → Shared → Prop} {Q : Value → Shared → Prop}, Q (.ref hp.objs.size) ⟨hp.push o, g, d, tk, os⟩ → wpAny (model prog w) A' (pyIter v) Q E ⟨hp, g, d, tk, os⟩ :=
      fun q => B.iter prog w _ _ ⟨hp, g, d, tk, os⟩ _ h1 q
    wp_walk using q1
    refine wpAny_stack_any fun st => wpAny_pure ?_
    split
    · rename_i c _ _ _ _ _
      cases (c == Value.type "enumerate")
      · wp_walk using q1
        exact ⟨_, rfl, h⟩
      · wp_walk using q1
        exact ⟨_, rfl, h⟩
    · wp_walk using q1
      exact ⟨_, rfl, h⟩
section
variable {prog : Program} {w : World} {A : Around} {E : Value → Shared → Prop} {s : Shared}
theorem call_enumB {v : Value} {o : Obj} {H : Heap → Prop} {Q : Value → Shared → Prop} (B : Begins v o H) (h1 : H s.heap)
    (h : ∀ h', IsEnum h' (s.heap.objs.size + 1) s.heap.objs.size 0 .none → h'.get? s.heap.objs.size = some o → h'.objs.size = s.heap.objs.size + 2 →
      (∀ b o, s.heap.get? b = some o → h'.get? b = some o) → Q (.ref (s.heap.objs.size + 1)) { s with heap := h' }) :
    wpAny (model prog w) A (call (.type "enumerate") [v]) Q E s := by
  refine callType_new F.called_enumerate (by decide) (F.typeCall_enumerate_1 _) (F.newCall_enumerate_1 _) (fun obj => F.args_object_init_2 obj _) F.entry_enumerate_new
    (meets_enumB B) ⟨h1, ?_⟩
  have hz : (s.heap.push o).objs.size = s.heap.objs.size + 1 := Heap.size_push ..
  show _ ∧ _
  rw [hz]
  have he : IsEnum ((s.heap.push o).push { cls := .type "enumerate", data := .fields #[.none, .bool false, .ref s.heap.objs.size, rawInt 0, .none, .none] }) (s.heap.objs.size + 1) s.heap.objs.size 0 .none := by
    have := Heap.get?_push_size (s.heap.push o) (o := { cls := .type "enumerate", data := .fields #[.none, .bool false, .ref s.heap.objs.size, rawInt 0, .none, .none] }) rfl
    rw [hz] at this; exact this
  refine ⟨⟨_, he, rfl⟩, h _ he (Heap.get?_push_of_some _ (Heap.get?_push_size _ B.free)) (by rw [Heap.size_push, hz]) fun b o x => Heap.get?_push_of_some _ (Heap.get?_push_of_some _ x)⟩
end
def iEnumT (K : PySem.W.Frag) (ta : TA) : TI := fun σ H R => ta σ H fun vs H1 => ∃ a xs, vs = [.ref a] ∧ SqT K H1 a xs ∧ R (ItET K a) H1
theorem pi_enumT {X : Cx} {e : Expr} {ta : TA} {p pos tpos : Pos} {elts : List Expr} {kk : Nat} (hg : Gl X "enumerate") (hm : X.mg "enumerate" = none) (ha : PA X [e] ta) (hs : starEach [e] X.env = [(false, eval e X.env)] := by rfl) :
    PI X (.Tuple elts kk tpos) (.Call (.Name "enumerate" p) [e] [] pos) (iEnumT X.K ta) := by
  refine ⟨fun pins s σ H R I h => ?_⟩
  refine Call_ (ld_blt I hg hm boot_enumerate (PyProof.Rows.callWith_type1 (thn (ha.run pos pins s σ H _ I h) fun us s1 ⟨vs, H1, I1, r1, q1⟩ => ?_) hs rfl))
  obtain ⟨a, xs, ex, hq, q⟩ := q1
  subst ex
  cases r1 with
  | cons r rr =>
    cases rr
    cases r
    obtain ⟨its, rv, p', _⟩ := I1.tuple hq
    have hal : a < s1.heap.objs.size := by obtain ⟨_, ho, _⟩ := id p'; exact Heap.lt_size ho
    have p2 : s1.heap.IsTuple a its.toArray := p'
    refine call_enumB (begins_tuple a its.toArray) p2 fun h' he hit hsz hk => wpAny_pyIter_enum he ?_
    have I2 : Inv X pins σ H1 { s1 with heap := h' } := I1.kept (t' := s1.toks) hk
    refine ⟨s1.heap.objs.size + 1, [s1.heap.objs.size + 1, s1.heap.objs.size], _, _, H1, rfl, I2, turn_ET (a := a) (e := s1.heap.objs.size + 1) (it := s1.heap.objs.size) (Nat.succ_ne_self _) (Nat.ne_of_gt (Nat.lt_succ_of_lt hal)) (Nat.ne_of_lt hal), ⟨⟨.none, he⟩, ⟨_, hit, rfl, rfl⟩⟩, fun b hb => ?_, q⟩
    have e' : b = s1.heap.objs.size + 1 ∨ b = s1.heap.objs.size := by simpa using hb
    have hle : s1.heap.objs.size ≤ b := by
      rcases e' with z | z
      · rw [z]; exact Nat.le_add_right _ _
      · rw [z]; exact Nat.le_refl _
    exact I1.fpOk hle (I1.hok.fresh hle)
theorem i_enumT {K : PySem.W.Frag} {ta : TA} {σ : L2.St} {H : Hp} {R : It → Hp → Prop} (h : ta σ H fun vs H1 => ∃ a xs, vs = [.ref a] ∧ SqT K H1 a xs ∧ R (ItET K a) H1) : iEnumT K ta σ H R := h
/-- a loop over enumerate of a tuple -/
theorem for_enumT {K : PySem.W.Frag} {a : Addr} {xs : List V} {g : TG} {tb : TS} {D : Ends} {σ : L2.St} {H : Hp} (Pv : Nat → L2.St → Hp → Prop) (h0 : Pv 0 σ H) (hq : ∀ i σ H, Pv i σ H → SqT K H a xs)
    (hs : ∀ (i : Nat) (x : V) (T : Addr) (σ : L2.St) (H : Hp), xs[i]? = some x → Pv i σ H → H T = none → g (.ref T) σ (upd H T (.tup [.int (i : Nat), x])) fun σ2 H2 => tb { D with nx := Pv (i + 1), ct := Pv (i + 1), bk := D.nx } σ2 H2) (hd : ∀ σ H, Pv xs.length σ H → D.nx σ H) :
    ∃ W : Nat → Nat → L2.St → Hp → Prop, (∃ m, W 0 m σ H) ∧ ∀ i m σ H, W i m σ H →
      ((ItET K a).stop i H ∧ D.nx σ H) ∨ ((ItET K a).go i H ∧ ∃ N : L2.St → Hp → Prop, (∀ σ' H', N σ' H' → ∃ m', m' < m ∧ W (i + 1) m' σ' H') ∧ ∀ v H', (ItET K a).yld i H v H' → g v σ H' fun σ2 H2 => tb { D with nx := N, ct := N, bk := D.nx } σ2 H2) := by
  refine ⟨fun i m σ H => m = xs.length - i ∧ i ≤ xs.length ∧ Pv i σ H, ⟨_, rfl, Nat.zero_le _, h0⟩, ?_⟩
  rintro i m σ H ⟨rfl, hi, pv⟩
  have qx := hq i σ H pv
  rcases Nat.lt_or_eq_of_le hi with lt | rfl
  · refine .inr ⟨⟨xs, _, qx, List.getElem?_eq_getElem lt⟩, Pv (i + 1), fun σ' H' p' => ⟨_, Nat.sub_lt_sub_left lt (Nat.lt_succ_self i), rfl, lt, p'⟩, ?_⟩
    rintro v H' ⟨T, x, rfl, hT, rfl, f1⟩
    exact hs i x T σ H (f1 xs qx) pv hT
  · exact .inl ⟨⟨xs, qx, rfl⟩, hd σ H pv⟩
end Ice

set_option Elab.async false
set_option linter.all false
set_option maxRecDepth 100000
set_option maxHeartbeats 4000000
set_option autoImplicit false
/-! Tables of the module with text keys; an instance made by a call with a star. -/
namespace Ice
open PySem PySem.Spec PyProof.Rows L2
def tabV (L : List (Str × Value)) (z : Str) : Option Value := (L.find? fun p => p.1 == z).map (·.2)
inductive Ents (P : Params) : List DictEntry → List (Str × Value) → Prop
  | nil : Ents P [] []
  | cons {h : Int} {x : Str} {t : Tok} {v : Value} {r : List DictEntry} {rs : List (Str × Value)} : h = PyData.keyHash P x → Ents P r rs → Ents P (⟨h, .str x t, v⟩ :: r) ((x, v) :: rs)
theorem Ents.lit {P : Params} : ∀ {l : List DictEntry} {rs : List (Str × Value)}, Ents P l rs → PySem.W.KeysLit P l
  | _, _, .nil => trivial
  | _, _, .cons e r => ⟨⟨_, _, rfl, e⟩, r.lit⟩
theorem Ents.noRef {P : Params} : ∀ {l : List DictEntry} {rs : List (Str × Value)}, Ents P l rs → l.any (·.refKey) = false
  | _, _, .nil => rfl
  | _, _, .cons e r => by rw [List.any_cons, r.noRef]; rfl
theorem Ents.find {P : Params} (z : Str) : ∀ {l : List DictEntry} {rs : List (Str × Value)}, Ents P l rs → (l.find? (·.key.isStr z)).map (·.val) = tabV rs z
  | _, _, .nil => rfl
  | _, _, @Ents.cons _ h x t v r rs e k => by
    unfold tabV
    have q : (DictEntry.key ⟨h, .str x t, v⟩).isStr z = (x == z) := rfl
    rw [List.find?_cons, List.find?_cons, q]
    cases x == z with
    | true => rfl
    | false => exact k.find z
theorem Ents.nsIn {K : PySem.W.Frag} {P : Params} {d : Addr} {es : Array DictEntry} {n : Nat} {rs : List (Str × Value)} (h : K.lookup d = some ⟨.type "dict", none, .dict es n, #[]⟩) (e : Ents P es.toList rs) (z : Str) : PySem.W.nsIn K d z = some (tabV rs z) := by
  have f := e.find z
  unfold PySem.W.nsIn
  rw [h]
  show (match es.toList.find? (·.key.isStr z) with
      | some e => some (some e.val)
      | none => if es.toList.any (·.refKey) then none else some none) = _
  cases q : es.toList.find? (·.key.isStr z) with
  | some y => rw [q] at f; rw [← f]; rfl
  | none => rw [q] at f; rw [← f, e.noRef]; rfl
/-- C(*y), C of the program's own -/
def tMakeS (K : PySem.W.Frag) (C : Addr) (sp : Sp) (dvs : List V) (E : L2.St → XK) (te : TE) : TE := fun σ H Q => te σ H fun y H1 => ∃ a xs, y = V.ref a ∧ (SqT K H1 a xs ∨ SqL K H1 a xs) ∧ ∀ x dx, H1 x = none → H1 dx = none → dx ≠ x →
  sp (.ref x :: (xs ++ dvs)) (upd (upd H1 dx (.own x)) x (.ins C dx [])) (fun v H2 => v = .non ∧ Q (.ref x) H2) (E σ)
section
variable {X : Cx} {X0 : CXT} {k : Nat} {f C : Addr} {fd : FuncData} {ps : List Str} {sp : Sp} {ds : List Value} {dvs : List V} {E : L2.St → XK} {x : Str} {e : Expr} {te : TE} {p pos sp_ : Pos}
theorem g_makeS (M : Mk X.K C f) (F : FnG X.prog X.w X.K X.mg X.base X0 k f fd ps sp) (hr : Room (k + 1) X.A) (hgd : X.A.guards = some []) (hg : Gl X x) (hm : X.mg x = some (.ref C)) (hb : Binds X.K fd ps ds) (hd : Vals dvs ds) (hx : ∀ σ, PassesAt X0 X σ (E σ))
    (he : PE X e te) (hdb : (x == ("__debug__" : Str)) = false := by decide) (hst : starEach [.Starred e sp_] X.env = [(true, eval e X.env)] := by rfl) : PE X (.Call (.Name x p) [.Starred e sp_] [] pos) (tMakeS X.K C sp dvs E te) := by
  constructor
  intro pins s σ H Q I h
  refine wpAny_Call_Name_kw (ld_glob I hg hm ?_ hdb)
  refine PySem.W.callWith_S (h₀ := X.base) I.ok.mod.kin M.kp (thn (he.run pins s σ H _ I h) fun v s1 ⟨y, H1, I1, ry, a, xs, ey, hxs, q⟩ => ?_) hst
  subst ey
  obtain rfl : v = Value.ref a := ry
  exact StX.star_any I1 hxs fun us s2 I2 rv => ⟨I2.kIn, run_mke M F hr hgd hb hd (hx σ) (fun {H2 e s2 s'} J c => hx σ _ H2 s2 e s' J c) I2 rv q⟩
end
theorem i_makeS {K : PySem.W.Frag} {C : Addr} {sp : Sp} {dvs : List V} {E : L2.St → XK} {te : TE} {σ : L2.St} {H : Hp} {Q : VK} (h : te σ H fun y H1 => ∃ a xs, y = V.ref a ∧ (SqT K H1 a xs ∨ SqL K H1 a xs) ∧ ∀ x dx, H1 x = none → H1 dx = none → dx ≠ x →
    sp (.ref x :: (xs ++ dvs)) (upd (upd H1 dx (.own x)) x (.ins C dx [])) (fun v H2 => v = .non ∧ Q (.ref x) H2) (E σ)) : tMakeS K C sp dvs E te σ H Q := h
section
variable {K : PySem.W.Frag} {a : Addr} {xs : List V} {g : TG} {tt : TT} {te : TE} {vs : List Nat} {σ : L2.St} {H1 : Hp} {Q : Addr → Hp → Prop}
/-- a comprehension each of whose items is a new list -/
theorem lc_newL (hS : SqL K H1 a xs) (cs : List (List V)) (hl : cs.length = xs.length) (hz : xs.length < sizeLine)
    (hs : ∀ (i : Nat) (x : V) (c : List V) (H' : Hp) (NY : VK) (NN : Hp → Prop), xs[i]? = some x → cs[i]? = some c → Same H1 H' → (∀ p H4, Same H' H4 → H' p = none → H4 p = some (.lst c) → NY (.ref p) H4) →
      g x (wipe σ vs) H' (fun σ2 H2 => wipe σ2 vs = wipe σ vs ∧ tt σ2 H2 fun b H3 => if b = true then te σ2 H3 NY else NN H3))
    (hd : ∀ D H' (ps : List Addr), H1 D = none → Same H1 H' → H' D = some (.lst (ps.map V.ref)) → ps.length = xs.length → (∀ (i : Nat) (p : Addr) (c : List V), ps[i]? = some p → cs[i]? = some c → H' p = some (.lst c)) → Q D H') :
    ∃ a', V.ref a = .ref a' ∧ (∃ xs, SqL K H1 a' xs) ∧ ∀ D, H1 D = none → ∃ W : Nat → Nat → Hp → Prop, (∃ m, W 0 m (upd H1 D (.lst []))) ∧ ∀ i m H, W i m H →
      ((Itl K a').stop i H ∧ Q D H) ∨ ((Itl K a').go i H ∧ ∃ Nx : Hp → Prop, (∀ H', Nx H' → ∃ m', m' < m ∧ W (i + 1) m' H') ∧ ∀ x H', (Itl K a').yld i H x H' → g x (wipe σ vs) H' fun σ2 H2 => wipe σ2 vs = wipe σ vs ∧ tt σ2 H2 fun b H3 =>
        if b = true then te σ2 H3 fun y H4 => ∃ acc, H4 D = some (.lst acc) ∧ acc.length < sizeLine ∧ Nx (upd H4 D (.lst (acc ++ [y]))) else Nx H3) := by
  refine ⟨a, rfl, ⟨xs, hS⟩, fun D hD => ?_⟩
  refine lc_list (fun i H' => Same H1 H' ∧ ∃ ps : List Addr, H' D = some (.lst (ps.map V.ref)) ∧ ps.length = i ∧ ∀ (j : Nat) (p : Addr) (c : List V), ps[j]? = some p → cs[j]? = some c → p ≠ D ∧ H' p = some (.lst c)) ⟨Same.new _ hD, [], upd_same, rfl, by simp⟩ (fun i H' _ p => SqL.kep (fun o e => p.1 _ _ e) hS) ?_ ?_
  · rintro i x H' hx ⟨s, ps, k, el, hr⟩
    have lt := (List.getElem?_eq_some_iff.mp hx).1
    have lc : i < cs.length := by omega
    refine hs i x cs[i] H' _ _ hx (List.getElem?_eq_getElem lc) s (fun p H4 s4 np k4 => ?_)
    have kD := s4 _ _ k
    have npD : p ≠ D := by rintro rfl; rw [k] at np; cases np
    refine ⟨_, kD, by rw [List.length_map]; omega, fun b u hb => ?_, ps ++ [p], by rw [upd_same, List.map_append]; rfl, by simp [el], fun j q c hq hc => ?_⟩
    · rw [upd_ne (ne_of_none hb hD)]; exact s4 _ _ (s _ _ hb)
    · rw [List.getElem?_append] at hq
      split at hq
      · obtain ⟨n, e⟩ := hr j q c hq hc
        exact ⟨n, by rw [upd_ne n]; exact s4 _ _ e⟩
      · have z := (List.getElem?_eq_some_iff.mp hq).1
        have e0 : j - ps.length = 0 := by simp at z; omega
        rw [e0] at hq
        have e1 : j = i := by omega
        subst e1
        rw [List.getElem?_eq_getElem lc] at hc
        cases hc
        cases hq
        exact ⟨npD, by rw [upd_ne npD]; exact k4⟩
  · rintro H' ⟨s, ps, k, el, hr⟩
    exact hd D H' ps hD s k el fun i p c h1 h2 => (hr i p c h1 h2).2
end
theorem i_dnin {σ : L2.St} {H : Hp} {Q : VK} {td ty : TE} (h : ty σ H fun y H1 => td σ H1 fun x H2 => ∃ a o, x = .ref a ∧ DGet H2 a y o ∧ Q (.bl (!o.isSome)) H2) : tDNotIn ty td σ H Q := h
theorem for_tupK {K : PySem.W.Frag} {a : Addr} {xs : List V} {g : TG} {tb : TS} {D : Ends} {σ : L2.St} {H : Hp} (hS : SqT K H a xs) (Pv : Nat → L2.St → Hp → Prop) (h0 : Pv 0 σ H) (hl : ∀ i σ' H', i ≤ xs.length → Pv i σ' H' → Kep H H' a)
    (hs : ∀ i x σ H, xs[i]? = some x → Pv i σ H → g x σ H fun σ2 H2 => tb { D with nx := Pv (i + 1), ct := Pv (i + 1), bk := D.nx } σ2 H2) (hd : ∀ σ H, Pv xs.length σ H → D.nx σ H) :
    ∃ a', V.ref a = .ref a' ∧ (∃ xs, SqT K H a' xs) ∧ ∃ W : Nat → Nat → L2.St → Hp → Prop, (∃ m, W 0 m σ H) ∧ ∀ i m σ H, W i m σ H →
      ((Itt K a').stop i H ∧ D.nx σ H) ∨ ((Itt K a').go i H ∧ ∃ N : L2.St → Hp → Prop, (∀ σ' H', N σ' H' → ∃ m', m' < m ∧ W (i + 1) m' σ' H') ∧ ∀ x H', (Itt K a').yld i H x H' → g x σ H' fun σ2 H2 => tb { D with nx := N, ct := N, bk := D.nx } σ2 H2) :=
  ⟨a, rfl, ⟨xs, hS⟩, for_tup Pv h0 (fun i σ' H' hi p => SqT.kep (hl i σ' H' hi p) hS) hs hd⟩
theorem i_rep {H : Hp} {Q : VK} {l : Addr} {xs : List V} {k : Int} (h : H l = some (.lst xs)) (h0 : 0 ≤ k) (h1 : k ≤ 1000) (hz : xs.length ≤ 100) (q : ∀ p H', New H p (.lst (List.replicate k.toNat xs).flatten) H' → Q (.ref p) H') : rRep (.ref l) (.int k) H Q :=
  ⟨l, k, xs, rfl, rfl, h, by omega, by omega, by
    rw [sizeLine_eq]
    have : xs.length * k.toNat ≤ 100 * 1000 := Nat.mul_le_mul hz (by omega)
    omega, fun p hp => q p _ (.mk' hp)⟩
open SeqAt in
/-- xs == [] -/
def rEqNil (K : PySem.W.Frag) : R2 := fun x y H Q => ∃ a b vs, x = .ref a ∧ y = .ref b ∧ SqL K H a vs ∧ SqL K H b [] ∧ Q (.bl vs.isEmpty) H
section
open SeqAt
variable {X : Cx}
theorem op_eqNil (hu : X.A.units + 64 < cLine) : OpR X (compareOp .Eq) (rEqNil X.K) := by
  intro pins s σ H x y v u Q I rx ry h
  obtain ⟨a, b, vs, rfl, rfl, ha, hb, q⟩ := h
  cases (show v = .ref a from rx)
  cases (show u = .ref b from ry)
  obtain ⟨as, ra, p1, _⟩ := I.list ha
  obtain ⟨bs, rb, p2, _⟩ := I.list hb
  have l1 := ra.length
  have l2 := rb.length
  cases vs with
  | nil =>
    have z := RcAt.lists (A := X.A) (e := fun _ => true) p1.isList p2.isList (by simp at l1 l2 ⊢; omega) (by omega) (fun j h1 h2 => by simp at l1 h1; omega)
    rw [all_true] at z
    exact z X.prog X.w X.xe _ ⟨.bl true, H, I, rfl, q⟩
  | cons c r =>
    have z := RcAt.lists_lengths (A := X.A) p1.isList p2.isList (by simp at l1 l2 ⊢; omega) (by omega)
    exact z X.prog X.w X.xe _ ⟨.bl false, H, I, rfl, q⟩
end
theorem i_neNil {K : PySem.W.Frag} {H : Hp} {Q : VK} {a b : Addr} {vs : List V} (ha : H a = some (.lst vs)) (hb : H b = some (.lst [])) (q : Q (.bl (!vs.isEmpty)) H) : rNeNil K (.ref a) (.ref b) H Q := ⟨a, b, vs, rfl, rfl, SqL.lst ha, SqL.lst hb, q⟩
theorem i_eqNil {K : PySem.W.Frag} {H : Hp} {Q : VK} {a b : Addr} {vs : List V} (ha : H a = some (.lst vs)) (hb : H b = some (.lst [])) (q : Q (.bl vs.isEmpty) H) : rEqNil K (.ref a) (.ref b) H Q := ⟨a, b, vs, rfl, rfl, SqL.lst ha, SqL.lst hb, q⟩
def sgnV (c : Nat) : V := .str ⟨#[c]⟩
open TL in
/-- the signs of a text that a test lets by -/
theorem lc_sift {x : Str} {g : TG} {tt : TT} {te : TE} {vs : List Nat} {σ : L2.St} {H1 : Hp} {Q : Addr → Hp → Prop} (p : Nat → Bool) (hl : x.length ≤ 100000)
    (hs : ∀ (c : Nat) (H : Hp) (NY : VK) (NN : Hp → Prop), c ∈ tl x → (p c = true → NY (sgnV c) H) → (p c = false → NN H) →
      g (.str ⟨#[c]⟩) (wipe σ vs) H (fun σ2 H2 => wipe σ2 vs = wipe σ vs ∧ tt σ2 H2 fun b H3 => if b = true then te σ2 H3 NY else NN H3))
    (hd : ∀ D H', H1 D = none → Same H1 H' → H' D = some (.lst (((tl x).filter p).map sgnV)) → Q D H') : ∀ D, H1 D = none →
    ∃ W : Nat → Nat → Hp → Prop, (∃ m, W 0 m (upd H1 D (.lst []))) ∧ ∀ i m H, W i m H →
      ((Its x).stop i H ∧ Q D H) ∨ ((Its x).go i H ∧ ∃ Nx : Hp → Prop, (∀ H', Nx H' → ∃ m', m' < m ∧ W (i + 1) m' H') ∧ ∀ v H', (Its x).yld i H v H' → g v (wipe σ vs) H' fun σ2 H2 => wipe σ2 vs = wipe σ vs ∧ tt σ2 H2 fun b H3 =>
        if b = true then te σ2 H3 fun y H4 => ∃ acc, H4 D = some (.lst acc) ∧ acc.length < sizeLine ∧ Nx (upd H4 D (.lst (acc ++ [y]))) else Nx H3) := by
  intro D hD
  refine lc_text (fun i H' => Same H1 H' ∧ H' D = some (.lst ((((tl x).take i).filter p).map sgnV))) ⟨Same.new _ hD, upd_same⟩ ?_ ?_
  · rintro i c H hc ⟨s, k⟩
    have e : (tl x).take (i + 1) = (tl x).take i ++ [c] := by rw [List.take_add_one, hc]; rfl
    refine hs c H _ _ (List.mem_of_getElem? hc) (fun h => ?_) (fun h => ?_)
    · refine ⟨_, k, ?_, fun b u hb => ?_, ?_⟩
      · have l1 : (((tl x).take i).filter p).length ≤ ((tl x).take i).length := List.length_filter_le _ _
        have l3 := tl_len x
        rw [List.length_map, sizeLine_eq]
        rw [List.length_take] at l1
        omega
      · rw [upd_ne (ne_of_none hb hD)]; exact s _ _ hb
      · rw [upd_same, e, List.filter_append, List.filter_cons_of_pos h, List.map_append]; rfl
    · refine ⟨s, ?_⟩
      rw [k, e, List.filter_append, List.filter_cons_of_neg (by rw [h]; decide)]
      simp
  · rintro H ⟨s, k⟩
    rw [List.take_length] at k
    exact hd D H hD s k
theorem sift_empty (l : List Nat) (p : Nat → Bool) : ((l.filter p).map sgnV).isEmpty = decide (∀ c ∈ l, p c = false) := by
  induction l with
  | nil => rfl
  | cons a r ih =>
    by_cases h : p a = true
    · rw [List.filter_cons_of_pos h, List.map_cons, decide_eq_false (fun z => by have := z a (List.mem_cons_self ..); rw [h] at this; cases this)]; rfl
    · rw [List.filter_cons_of_neg h, ih, decide_eq_decide]
      simp only [List.mem_cons, forall_eq_or_imp]
      exact ⟨fun z => ⟨by simpa using h, z⟩, fun z => z.2⟩
/-- one walk or another -/
def iAlt (w1 w2 : TI) : TI := fun σ H R => w1 σ H R ∨ w2 σ H R
theorem pi_alt {X : Cx} {tg it : Expr} {w1 w2 : TI} (h1 : PI X tg it w1) (h2 : PI X tg it w2) : PI X tg it (iAlt w1 w2) :=
  ⟨fun pins s σ H R I h => h.elim (h1.run pins s σ H R I) (h2.run pins s σ H R I)⟩
theorem walk_enumT {K : PySem.W.Frag} {a : Addr} {xs : List V} : Walk (ItET K a) xs.length (fun H => SqT K H a xs) (YPair (fun i => some (.int (i : Nat))) (fun i => xs[i]?)) := by
  refine ⟨fun i _ hi q => ⟨xs, xs[i], q, by simp [hi]⟩, fun _ q => ⟨xs, q, rfl⟩, fun i H v H' _ q y => ?_⟩
  obtain ⟨T, x, h1, h2, h3, h4⟩ := y
  exact ⟨T, .int (i : Nat), x, h1, h2, h3, rfl, h4 xs q⟩
section
variable {K : PySem.W.Frag} {xs : List V} {g : TG} {tt : TT} {te : TE} {vs : List Nat} {σ : L2.St} {H1 : Hp} {Q : Addr → Hp → Prop}
/-- a comprehension over an enumeration that only adds to the heap -/
theorem lc_gathE {J : It} {G : Hp → Prop} (w : Walk J xs.length G (YPair (fun i => some (.int (i : Nat))) (fun i => xs[i]?))) (hG : ∀ H', Same H1 H' → G H') (os : List (Option V)) (hl : os.length = xs.length) (hz : xs.length < sizeLine)
    (hs : ∀ (i : Nat) (x : V) (o : Option V) (T : Addr) (H' : Hp) (NY : VK) (NN : Hp → Prop), xs[i]? = some x → os[i]? = some o → Same H1 H' → H' T = some (.tup [.int (i : Nat), x]) → (∀ y H4, o = some y → Same H' H4 → NY y H4) → (∀ H3, o = none → Same H' H3 → NN H3) →
      g (.ref T) (wipe σ vs) H' (fun σ2 H2 => wipe σ2 vs = wipe σ vs ∧ tt σ2 H2 fun b H3 => if b = true then te σ2 H3 NY else NN H3))
    (hd : ∀ D H', H1 D = none → Same H1 H' → H' D = some (.lst (gath os)) → Q D H') : ∀ D, H1 D = none →
    ∃ W : Nat → Nat → Hp → Prop, (∃ m, W 0 m (upd H1 D (.lst []))) ∧ ∀ i m H, W i m H →
      (J.stop i H ∧ Q D H) ∨ (J.go i H ∧ ∃ Nx : Hp → Prop, (∀ H', Nx H' → ∃ m', m' < m ∧ W (i + 1) m' H') ∧ ∀ x H', J.yld i H x H' → g x (wipe σ vs) H' fun σ2 H2 => wipe σ2 vs = wipe σ vs ∧ tt σ2 H2 fun b H3 =>
        if b = true then te σ2 H3 fun y H4 => ∃ acc, H4 D = some (.lst acc) ∧ acc.length < sizeLine ∧ Nx (upd H4 D (.lst (acc ++ [y]))) else Nx H3) := by
  intro D hD
  refine lc_it w (fun i H' => Same H1 H' ∧ H' D = some (.lst (gath (os.take i)))) ⟨Same.new _ hD, upd_same⟩ (fun i H' _ p => hG H' p.1) ?_ ?_
  · rintro i v H' H'' hi ⟨s, k⟩ ⟨T, a0, x, rfl, hT, rfl, ea, hx⟩
    cases ea
    have lt : i < os.length := by omega
    have ho : os[i]? = some os[i] := List.getElem?_eq_getElem lt
    have sT : Same H' (upd H' T (.tup [.int (i : Nat), x])) := Same.new _ hT
    refine hs i x _ T _ _ _ hx ho (s.trans sT) upd_same (fun y H4 e s4 => ?_) (fun H3 e s3 => ?_)
    · have k4 := s4 _ _ (sT _ _ k)
      refine ⟨_, k4, ?_, fun b u hb => ?_, ?_⟩
      · have l1 := gath_len (os.take i)
        have l2 := List.length_take_le i os
        omega
      · rw [upd_ne (ne_of_none hb hD)]; exact s4 _ _ (sT _ _ (s _ _ hb))
      · rw [upd_same, gath_snoc ho, e]; rfl
    · refine ⟨s.trans (sT.trans s3), ?_⟩
      rw [gath_snoc ho, e]
      show _ = some (HO.lst (_ ++ []))
      rw [List.append_nil]
      exact s3 _ _ (sT _ _ k)
  · rintro H' ⟨s, k⟩
    rw [← hl, List.take_length] at k
    exact hd D H' hD s k
end
theorem i_enumL {K : PySem.W.Frag} {ta : TA} {σ : L2.St} {H : Hp} {R : It → Hp → Prop} (h : ta σ H fun vs H1 => ∃ a xs, vs = [.ref a] ∧ SqL K H1 a xs ∧ R (Ite K a) H1) : iEnum K ta σ H R := h
end Ice

set_option Elab.async false
set_option linter.all false
set_option maxRecDepth 100000
set_option maxHeartbeats 4000000
set_option autoImplicit true
namespace Ice
open PySem PySem.Spec PyProof.Rows L2 TL
/-! side conditions, heaps, one step of a reading, and many -/
local macro_rules | `(tactic| walk_at "hp") => `(tactic| first | assumption | exact upd_same | exact New.at_ (by assumption) | (refine keepU ?_ (by assumption); walk_at "hp") | (refine New.app (by assumption) ?_; walk_at "hp") | (refine Same.app (by assumption) ?_; walk_at "hp") | (refine But.app (by assumption) (by assumption) ?_; walk_at "hp"))
local macro_rules | `(tactic| walk_at "sq") => `(tactic| first | assumption | exact SqL.lst (by walk_at "hp") | exact L2.Same.seq (New.same (by assumption)) (by assumption) | exact L2.Same.seq (by assumption) (by assumption))
local macro_rules | `(tactic| walk_at "len") => `(tactic| first | assumption | (simp only [List.length_cons, List.length_nil, List.length_append, List.length_map]; decide) | (refine Ice.sz_of ?_; simp only [List.length_cons, List.length_nil, List.length_append, List.length_map]; omega))
local macro_rules | `(tactic| walk_at "fresh") => `(tactic| (simp only [List.map_append, List.map_cons, List.map_nil, List.nil_append, List.cons_append]; decide +kernel))
local macro_rules | `(tactic| walk_at "sd") => `(tactic| first | assumption | (show _ ≠ _; omega) | exact Or.inl ⟨by omega, by omega⟩ | exact Or.inr ⟨by omega, by omega⟩ | exact ⟨by decide, by decide⟩ | exact ⟨by decide, by decide, by decide⟩ | exact ⟨by omega, by omega, by omega⟩)
/-! one step of a reading, and many -/
local macro_rules | `(tactic| walk_at "st") => `(tactic| first
  | with_reducible refine i_seq ?_
  | with_reducible refine i_if ?_
  | with_reducible refine i_next ?_
  | with_reducible refine i_ret ?_
  | with_reducible refine i_retN ?_
  | with_reducible refine i_drop ?_
  | with_reducible refine i_asg ?_
  | with_reducible refine i_gname ?_
  | with_reducible refine i_gsub ?_
  | ((with_reducible refine i_var (v := ?vv) ?hv ?_); (case hv => exact rfl))
  | with_reducible refine i_c ?_
  | with_reducible refine i_op ?_
  | with_reducible refine i_un ?_
  | with_reducible refine i_test ?_
  | with_reducible refine i_tB ?_
  | with_reducible refine i_and ?_
  | with_reducible refine i_or ?_
  | with_reducible refine i_not ?_
  | with_reducible refine i_andV ?_
  | with_reducible refine i_orV ?_
  | with_reducible refine i_notV ?_
  | with_reducible refine i_ifE ?_
  | with_reducible refine i_chain ?_
  | with_reducible refine i_bl ?_
  | with_reducible refine i_nil ?_
  | with_reducible refine i_cons ?_
  | with_reducible refine i_call ?_
  | with_reducible refine i_cb ?_
  | with_reducible refine i_rI0 ?_
  | with_reducible refine i_rU ?_
  | ((with_reducible refine i_rEq ?hs ?_); (case hs => exact rfl))
  | ((with_reducible refine i_rNe ?hs ?_); (case hs => exact rfl))
  | ((with_reducible refine i_rI ?hc ?_); (case hc => walk_at "sd"))
  | ((with_reducible refine i_ixL (xs := ?xs) (v := ?vv) ?hS ?he ?_); (case hS => walk_at "sq"); (case he => exact rfl))
  | ((with_reducible refine i_setL (xs := ?xs) (j := ?jj) ?hS ?he ?_); (case hS => walk_at "hp"); (case he => exact rfl))
  | with_reducible refine i_tup ?_
  | with_reducible refine i_lst ?_
  | with_reducible refine i_bm ?_
  | with_reducible refine i_bm0 ?_
  | with_reducible refine i_m1 ?_
  | with_reducible refine i_sl ?_
  | with_reducible refine i_nopart ?_
  | with_reducible refine i_part ?_
  | with_reducible refine i_int ?_
  | with_reducible refine i_str ?_
  | with_reducible refine i_for ?_
  | with_reducible refine i_yes ?_
  | ((with_reducible refine i_lenL (xs := ?xs) ?hS ?_); (case hS => walk_at "sq"))
  | ((with_reducible refine i_room ?hz ?_); (case hz => walk_at "len"))
  | with_reducible refine i_leT ?_
  | with_reducible refine i_notInS ?_
  | with_reducible refine i_inS ?_
  | with_reducible refine i_find ?_
  | with_reducible refine i_isB ?_
  | with_reducible refine i_max2 ?_
  | with_reducible refine i_min2 ?_
  | with_reducible exact trivial
  | with_reducible refine iteT ?_
  | with_reducible refine iteF ?_
  | with_reducible refine i_isstr ?_
  | with_reducible refine i_lc ?_
  | ((with_reducible refine i_cat (xs := ?xs) (zs := ?zs) ?ha ?hb ?hz ?_); (case ha => walk_at "hp"); (case hb => walk_at "hp"); (case hz => walk_at "len"))
  | ((with_reducible refine i_tyL (xs := ?xs) ?ha ?_); (case ha => walk_at "hp"))
  | with_reducible refine i_list ?_
  | with_reducible refine i_disp ?_
  | with_reducible refine i_pairs0 ?_
  | with_reducible refine i_pairs ?_
  | with_reducible refine i_newK ?_
  | with_reducible refine i_gcons ?_
  | with_reducible refine i_gnil ?_
  | with_reducible refine i_revL ?_
  | with_reducible refine i_rng1 ?_
  | ((with_reducible refine i_wipe ?hw ?_); (case hw => exact rfl))
  | with_reducible refine iteNT ?_
  | with_reducible refine iteNF ?_)
local macro_rules | `(tactic| walk_at "sx") => `(tactic| first
  | walk_at "st"
  | with_reducible refine i_kinit ?_
  | with_reducible refine i_ost ?_
  | with_reducible refine i_mkO ?_
  | with_reducible refine i_callE ?_
  | with_reducible refine i_makeE ?_
  | with_reducible refine i_xf ?_
  | with_reducible refine i_sfld ?_
  | with_reducible refine i_fld ?_
  | ((with_reducible refine i_ixT (xs := ?xs) (v := ?vv) ?hS ?he ?_); (case hS => exact SqT.tup (by walk_at "hp")); (case he => exact rfl))
  | with_reducible refine i_intB ?_
  | with_reducible refine i_runS ?_
  | with_reducible refine i_runN ?_
  | ((with_reducible refine i_xf1 (fs := ?ff) (v := ?vv) ?hx ?hl ?_); (case hx => walk_at "hp"); (case hl => exact rfl))
  | with_reducible refine i_methE ?_
  | with_reducible refine i_meth ?_
  | with_reducible refine i_make ?_
  | ((with_reducible refine i_obj (dx := ?dd) (fs := ?ff) ?hx ?hl ?_); (case hx => walk_at "hp"); (case hl => exact rfl))
  | ((with_reducible refine i_fld1 (C := ?CC) (dx := ?dd) (fs := ?ff) (v := ?vv) ?hx ?cl ?na ?hl ?_); (case hx => walk_at "hp"); (case cl => assumption); (case na => assumption); (case hl => exact rfl)))
local macro_rules | `(tactic| walk_at "sy") => `(tactic| first
  | walk_at "sx"
  | with_reducible refine i_dget ?_
  | with_reducible refine i_dget2 ?_
  | with_reducible refine i_dput ?_
  | with_reducible refine i_din ?_
  | ((with_reducible refine i_aug (x := ?vv) ?hx ?_); (case hx => exact rfl)))
local macro_rules | `(tactic| walk_at "rd") => `(tactic| repeat (walk_at "sy"))
def topS (i : Nat) : Stmt := PySem.Challenge.pw_iceopened_k76_turned_more_and_less.main.body.getD i (.Pass ⟨0, 0, 0, 0⟩)
abbrev s_is_whole : Stmt := topS 13
theorem sc_is_whole : FnScope ["thing"] ["thing"] (defScope s_is_whole) := ⟨rfl, rfl, rfl, by decide +kernel, rfl, by decide +kernel, by decide +kernel⟩
abbrev s_is_within : Stmt := topS 14
theorem sc_is_within : FnScope ["thing", "low", "high"] ["thing", "low", "high"] (defScope s_is_within) := ⟨rfl, rfl, rfl, by decide +kernel, rfl, by decide +kernel, by decide +kernel⟩
abbrev s_is_name : Stmt := topS 15
theorem sc_is_name : FnScope ["thing"] ["thing"] (defScope s_is_name) := ⟨rfl, rfl, rfl, by decide +kernel, rfl, by decide +kernel, by decide +kernel⟩
abbrev s_all_between : Stmt := topS 16
theorem sc_all_between : FnScope ["text", "low", "high", "sign"] ["text", "low", "high"] (defScope s_all_between) := ⟨rfl, rfl, rfl, by decide +kernel, rfl, by decide +kernel, by decide +kernel⟩
abbrev s_check_number : Stmt := topS 18
theorem sc_check_number : FnScope ["thing", "low", "high"] ["thing", "low", "high"] (defScope s_check_number) := ⟨rfl, rfl, rfl, by decide +kernel, rfl, by decide +kernel, by decide +kernel⟩
abbrev s_check_names : Stmt := topS 31
theorem sc_check_names : FnScope ["things", "thing"] ["things"] (defScope s_check_names) := ⟨rfl, rfl, rfl, by decide +kernel, rfl, by decide +kernel, by decide +kernel⟩
abbrev s_rows_of : Stmt := topS 39
theorem sc_rows_of : FnScope ["things", "thing"] ["things"] (defScope s_rows_of) := ⟨rfl, rfl, rfl, by decide +kernel, rfl, by decide +kernel, by decide +kernel⟩
abbrev s_check_kinds : Stmt := topS 40
theorem sc_check_kinds : FnScope ["ports", "channels", "breakers", "ships", "each"] ["ports", "channels", "breakers", "ships"] (defScope s_check_kinds) := ⟨rfl, rfl, rfl, by decide +kernel, rfl, by decide +kernel, by decide +kernel⟩
abbrev s_holds_at_most : Stmt := topS 41
theorem sc_holds_at_most : FnScope ["thing", "many"] ["thing", "many"] (defScope s_holds_at_most) := ⟨rfl, rfl, rfl, by decide +kernel, rfl, by decide +kernel, by decide +kernel⟩
abbrev s_check_unlike : Stmt := topS 42
theorem sc_check_unlike : FnScope ["names", "ahead", "name"] ["names"] (defScope s_check_unlike) := ⟨rfl, rfl, rfl, by decide +kernel, rfl, by decide +kernel, by decide +kernel⟩
abbrev s_check_ports : Stmt := topS 43
theorem sc_check_ports : FnScope ["ports", "channels", "breakers", "ships", "wanted", "channel", "breaker", "ship", "port"] ["ports", "channels", "breakers", "ships"] (defScope s_check_ports) := ⟨rfl, rfl, rfl, by decide +kernel, rfl, by decide +kernel, by decide +kernel⟩
abbrev s_turned : Stmt := topS 45
theorem sc_turned : FnScope ["world", "each"] ["world"] (defScope s_turned) := ⟨rfl, rfl, rfl, by decide +kernel, rfl, by decide +kernel, by decide +kernel⟩
abbrev s_with_ship : Stmt := topS 46
theorem sc_with_ship : FnScope ["world", "ship"] ["world", "ship"] (defScope s_with_ship) := ⟨rfl, rfl, rfl, by decide +kernel, rfl, by decide +kernel, by decide +kernel⟩
abbrev s_without : Stmt := topS 47
theorem sc_without : FnScope ["world", "name", "leaving", "each"] ["world", "name"] (defScope s_without) := ⟨rfl, rfl, rfl, by decide +kernel, rfl, by decide +kernel, by decide +kernel⟩
abbrev s_channel_anew : Stmt := topS 48
theorem sc_channel_anew : FnScope ["channel", "name", "one", "other"] ["channel", "name", "one", "other"] (defScope s_channel_anew) := ⟨rfl, rfl, rfl, by decide +kernel, rfl, by decide +kernel, by decide +kernel⟩
abbrev s_breaker_anew : Stmt := topS 49
theorem sc_breaker_anew : FnScope ["breaker", "name", "port", "hour"] ["breaker", "name", "port", "hour"] (defScope s_breaker_anew) := ⟨rfl, rfl, rfl, by decide +kernel, rfl, by decide +kernel, by decide +kernel⟩
abbrev s_ship_anew : Stmt := topS 50
theorem sc_ship_anew : FnScope ["ship", "name", "port", "goal", "hour"] ["ship", "name", "port", "goal", "hour"] (defScope s_ship_anew) := ⟨rfl, rfl, rfl, by decide +kernel, rfl, by decide +kernel, by decide +kernel⟩
abbrev s_cell : Stmt := topS 52
theorem sc_cell : FnScope ["_law_script", "_law_k"] ["_law_script", "_law_k"] (defScope s_cell) := ⟨rfl, rfl, rfl, by decide +kernel, rfl, by decide +kernel, by decide +kernel⟩
abbrev s_box : Stmt := topS 53
theorem sc_box : FnScope ["_law_cell_here"] ["_law_cell_here"] (defScope s_box) := ⟨rfl, rfl, rfl, by decide +kernel, rfl, by decide +kernel, by decide +kernel⟩
abbrev s_take : Stmt := topS 54
theorem sc_take : FnScope ["_law_box_here", "_law_many", "_law_digit", "_law_one", "_law_other"] ["_law_box_here", "_law_many"] (defScope s_take) := ⟨rfl, rfl, rfl, by decide +kernel, rfl, by decide +kernel, by decide +kernel⟩
abbrev s_names : Stmt := topS 55
theorem sc_names : FnScope ["_law_box_here", "_law_many", "_law_letters", "_law_way", "_law_first", "_law_step", "_law_words", "_law_stem", "_law_found", "_law_at", "_law_long", "_law_k"] ["_law_box_here", "_law_many"] (defScope s_names) := ⟨rfl, rfl, rfl, by decide +kernel, rfl, by decide +kernel, by decide +kernel⟩
abbrev s_number : Stmt := topS 56
theorem sc_number : FnScope ["_law_box_here", "_law_low", "_law_high", "_law_way", "_law_number_here"] ["_law_box_here", "_law_low", "_law_high"] (defScope s_number) := ⟨rfl, rfl, rfl, by decide +kernel, rfl, by decide +kernel, by decide +kernel⟩
abbrev s_channel : Stmt := topS 57
theorem sc_channel : FnScope ["_law_box_here", "_law_name", "_law_ports", "_law_at", "_law_other", "_law_first", "_law_row"] ["_law_box_here", "_law_name", "_law_ports"] (defScope s_channel) := ⟨rfl, rfl, rfl, by decide +kernel, rfl, by decide +kernel, by decide +kernel⟩
abbrev s_breaker : Stmt := topS 58
theorem sc_breaker : FnScope ["_law_box_here", "_law_name", "_law_ports", "_law_row"] ["_law_box_here", "_law_name", "_law_ports"] (defScope s_breaker) := ⟨rfl, rfl, rfl, by decide +kernel, rfl, by decide +kernel, by decide +kernel⟩
abbrev s_ship : Stmt := topS 59
theorem sc_ship : FnScope ["_law_box_here", "_law_name", "_law_ports", "_law_row"] ["_law_box_here", "_law_name", "_law_ports"] (defScope s_ship) := ⟨rfl, rfl, rfl, by decide +kernel, rfl, by decide +kernel, by decide +kernel⟩
abbrev s_world : Stmt := topS 60
theorem sc_world : FnScope ["_law_box_here", "_law_sizes", "_law_ports", "_law_channels", "_law_vessels", "_law_rows", "_law_breakers", "_law_ships", "_law_name"] ["_law_box_here", "_law_sizes"] (defScope s_world) := ⟨rfl, rfl, rfl, by decide +kernel, rfl, by decide +kernel, by decide +kernel⟩
abbrev s_few : Stmt := topS 61
theorem sc_few : FnScope ["_law_box_here", "_law_way", "_law_found"] ["_law_box_here"] (defScope s_few) := ⟨rfl, rfl, rfl, by decide +kernel, rfl, by decide +kernel, by decide +kernel⟩
abbrev s_made : Stmt := topS 62
theorem sc_made : FnScope ["_law_world_here", "_law_channels", "_law_breakers", "_law_ships", "_law_a", "_law_b", "_law_c", "_law_d", "_law_e", "_law_f", "_law_g", "_law_h"] ["_law_world_here"] (defScope s_made) := ⟨rfl, rfl, rfl, by decide +kernel, rfl, by decide +kernel, by decide +kernel⟩
abbrev s_turned_due : Stmt := topS 63
theorem sc_turned_due : FnScope ["_law_world_here", "_law_rows", "_law_row"] ["_law_world_here"] (defScope s_turned_due) := ⟨rfl, rfl, rfl, by decide +kernel, rfl, by decide +kernel, by decide +kernel⟩
abbrev s_ship_due : Stmt := topS 64
theorem sc_ship_due : FnScope ["_law_world_here", "_law_row", "_law_port", "_law_one"] ["_law_world_here", "_law_row"] (defScope s_ship_due) := ⟨rfl, rfl, rfl, by decide +kernel, rfl, by decide +kernel, by decide +kernel⟩
abbrev s_with : Stmt := topS 65
theorem sc_with : FnScope ["_law_made_here", "_law_row", "_law_found", "_law_e"] ["_law_made_here", "_law_row"] (defScope s_with) := ⟨rfl, rfl, rfl, by decide +kernel, rfl, by decide +kernel, by decide +kernel⟩
abbrev s_without_due : Stmt := topS 66
theorem sc_without_due : FnScope ["_law_world_here", "_law_name", "_law_rows", "_law_row", "_law_some"] ["_law_world_here", "_law_name"] (defScope s_without_due) := ⟨rfl, rfl, rfl, by decide +kernel, rfl, by decide +kernel, by decide +kernel⟩
abbrev s_same_things : Stmt := topS 67
theorem sc_same_things : FnScope ["_law_one", "_law_other", "_law_some", "_law_more", "_law_thing"] ["_law_one", "_law_other"] (defScope s_same_things) := ⟨rfl, rfl, rfl, by decide +kernel, rfl, by decide +kernel, by decide +kernel⟩
abbrev s_new_ship : Stmt := topS 68
theorem sc_new_ship : FnScope ["_law_box_here", "_law_world_here", "_law_spare", "_law_strange", "_law_names_here", "_law_row", "_law_some", "_law_other", "_law_name", "_law_one"] ["_law_box_here", "_law_world_here"] (defScope s_new_ship) := ⟨rfl, rfl, rfl, by decide +kernel, rfl, by decide +kernel, by decide +kernel⟩
abbrev s_right : Stmt := topS 69
theorem sc_right : FnScope ["_law_box_here", "_law_made_here", "_law_world_here", "_law_once", "_law_row", "_law_due", "_law_turn", "_law_ship_here", "_law_more", "_law_some", "_law_name", "_law_less", "_law_one"] ["_law_box_here", "_law_made_here", "_law_world_here"] (defScope s_right) := ⟨rfl, rfl, rfl, by decide +kernel, rfl, by decide +kernel, by decide +kernel⟩
abbrev s_law : Stmt := topS 70
theorem sc_law : FnScope ["_law_script", "_law_ahead", "_law_k", "_law_box_here", "_law_world_here", "_law_made_here", "_law_rows"] ["_law_script"] (defScope s_law) := ⟨rfl, rfl, rfl, by decide +kernel, rfl, by decide +kernel, by decide +kernel⟩
abbrev s_NoName___init__ : Stmt := inClass (topS 3) 0
theorem sc_NoName___init__ : FnScope ["self", "found"] ["self", "found"] (defScope s_NoName___init__) := ⟨rfl, rfl, rfl, by decide +kernel, rfl, by decide +kernel, by decide +kernel⟩
abbrev s_NoNumber___init__ : Stmt := inClass (topS 4) 0
theorem sc_NoNumber___init__ : FnScope ["self", "found"] ["self", "found"] (defScope s_NoNumber___init__) := ⟨rfl, rfl, rfl, by decide +kernel, rfl, by decide +kernel, by decide +kernel⟩
abbrev s_Doubled___init__ : Stmt := inClass (topS 5) 0
theorem sc_Doubled___init__ : FnScope ["self", "name"] ["self", "name"] (defScope s_Doubled___init__) := ⟨rfl, rfl, rfl, by decide +kernel, rfl, by decide +kernel, by decide +kernel⟩
abbrev s_NoPort___init__ : Stmt := inClass (topS 6) 0
theorem sc_NoPort___init__ : FnScope ["self", "found"] ["self", "found"] (defScope s_NoPort___init__) := ⟨rfl, rfl, rfl, by decide +kernel, rfl, by decide +kernel, by decide +kernel⟩
abbrev s_NoChannel___init__ : Stmt := inClass (topS 7) 0
theorem sc_NoChannel___init__ : FnScope ["self", "found"] ["self", "found"] (defScope s_NoChannel___init__) := ⟨rfl, rfl, rfl, by decide +kernel, rfl, by decide +kernel, by decide +kernel⟩
abbrev s_NoVessel___init__ : Stmt := inClass (topS 8) 0
theorem sc_NoVessel___init__ : FnScope ["self", "found"] ["self", "found"] (defScope s_NoVessel___init__) := ⟨rfl, rfl, rfl, by decide +kernel, rfl, by decide +kernel, by decide +kernel⟩
abbrev s_NoKind___init__ : Stmt := inClass (topS 9) 0
theorem sc_NoKind___init__ : FnScope ["self", "found"] ["self", "found"] (defScope s_NoKind___init__) := ⟨rfl, rfl, rfl, by decide +kernel, rfl, by decide +kernel, by decide +kernel⟩
abbrev s_NoWorld___init__ : Stmt := inClass (topS 10) 0
theorem sc_NoWorld___init__ : FnScope ["self", "found"] ["self", "found"] (defScope s_NoWorld___init__) := ⟨rfl, rfl, rfl, by decide +kernel, rfl, by decide +kernel, by decide +kernel⟩
abbrev s_Channel___init__ : Stmt := inClass (topS 27) 0
theorem sc_Channel___init__ : FnScope ["self", "name", "one", "other", "hours", "depth", "first", "growth", "most"] ["self", "name", "one", "other", "hours", "depth", "first", "growth", "most"] (defScope s_Channel___init__) := ⟨rfl, rfl, rfl, by decide +kernel, rfl, by decide +kernel, by decide +kernel⟩
abbrev s_Channel_ends : Stmt := inClass (topS 27) 1
theorem sc_Channel_ends : FnScope ["self"] ["self"] (defScope s_Channel_ends) := ⟨rfl, rfl, rfl, by decide +kernel, rfl, by decide +kernel, by decide +kernel⟩
abbrev s_Channel_row : Stmt := inClass (topS 27) 3
theorem sc_Channel_row : FnScope ["self"] ["self"] (defScope s_Channel_row) := ⟨rfl, rfl, rfl, by decide +kernel, rfl, by decide +kernel, by decide +kernel⟩
abbrev s_Vessel___init__ : Stmt := inClass (topS 28) 0
theorem sc_Vessel___init__ : FnScope ["self", "name", "port", "hour", "strength", "draught"] ["self", "name", "port", "hour", "strength", "draught"] (defScope s_Vessel___init__) := ⟨rfl, rfl, rfl, by decide +kernel, rfl, by decide +kernel, by decide +kernel⟩
abbrev s_Vessel_kind : Stmt := inClass (topS 28) 1
theorem sc_Vessel_kind : FnScope ["self"] ["self"] (defScope s_Vessel_kind) := ⟨rfl, rfl, rfl, by decide +kernel, rfl, by decide +kernel, by decide +kernel⟩
abbrev s_Vessel_thins : Stmt := inClass (topS 28) 2
theorem sc_Vessel_thins : FnScope ["self"] ["self"] (defScope s_Vessel_thins) := ⟨rfl, rfl, rfl, by decide +kernel, rfl, by decide +kernel, by decide +kernel⟩
abbrev s_Vessel_row : Stmt := inClass (topS 28) 4
theorem sc_Vessel_row : FnScope ["self"] ["self"] (defScope s_Vessel_row) := ⟨rfl, rfl, rfl, by decide +kernel, rfl, by decide +kernel, by decide +kernel⟩
abbrev s_Breaker___init__ : Stmt := inClass (topS 29) 0
theorem sc_Breaker___init__ : FnScope ["self", "name", "port", "hour", "strength", "draught", "cut"] ["self", "name", "port", "hour", "strength", "draught", "cut"] (defScope s_Breaker___init__) := ⟨rfl, rfl, rfl, by decide +kernel, rfl, by decide +kernel, by decide +kernel⟩
abbrev s_Breaker_kind : Stmt := inClass (topS 29) 1
theorem sc_Breaker_kind : FnScope ["self"] ["self"] (defScope s_Breaker_kind) := ⟨rfl, rfl, rfl, by decide +kernel, rfl, by decide +kernel, by decide +kernel⟩
abbrev s_Breaker_thins : Stmt := inClass (topS 29) 2
theorem sc_Breaker_thins : FnScope ["self"] ["self"] (defScope s_Breaker_thins) := ⟨rfl, rfl, rfl, by decide +kernel, rfl, by decide +kernel, by decide +kernel⟩
abbrev s_Breaker_row : Stmt := inClass (topS 29) 3
theorem sc_Breaker_row : FnScope ["self"] ["self"] (defScope s_Breaker_row) := ⟨rfl, rfl, rfl, by decide +kernel, rfl, by decide +kernel, by decide +kernel⟩
abbrev s_Ship___init__ : Stmt := inClass (topS 30) 0
theorem sc_Ship___init__ : FnScope ["self", "name", "port", "goal", "hour", "strength", "draught"] ["self", "name", "port", "goal", "hour", "strength", "draught"] (defScope s_Ship___init__) := ⟨rfl, rfl, rfl, by decide +kernel, rfl, by decide +kernel, by decide +kernel⟩
abbrev s_Ship_kind : Stmt := inClass (topS 30) 1
theorem sc_Ship_kind : FnScope ["self"] ["self"] (defScope s_Ship_kind) := ⟨rfl, rfl, rfl, by decide +kernel, rfl, by decide +kernel, by decide +kernel⟩
abbrev s_Ship_row : Stmt := inClass (topS 30) 2
theorem sc_Ship_row : FnScope ["self"] ["self"] (defScope s_Ship_row) := ⟨rfl, rfl, rfl, by decide +kernel, rfl, by decide +kernel, by decide +kernel⟩
abbrev s_World___init__ : Stmt := inClass (topS 38) 0
theorem sc_World___init__ : FnScope ["self", "begin", "ports", "channels", "breakers", "ships", "vessels", "each"] ["self", "begin", "ports", "channels", "breakers", "ships"] (defScope s_World___init__) := ⟨rfl, rfl, rfl, by decide +kernel, rfl, by decide +kernel, by decide +kernel⟩
abbrev s_World_begin_hour : Stmt := inClass (topS 38) 1
theorem sc_World_begin_hour : FnScope ["self"] ["self"] (defScope s_World_begin_hour) := ⟨rfl, rfl, rfl, by decide +kernel, rfl, by decide +kernel, by decide +kernel⟩
abbrev s_World_ports : Stmt := inClass (topS 38) 2
theorem sc_World_ports : FnScope ["self"] ["self"] (defScope s_World_ports) := ⟨rfl, rfl, rfl, by decide +kernel, rfl, by decide +kernel, by decide +kernel⟩
abbrev s_World_channels : Stmt := inClass (topS 38) 3
theorem sc_World_channels : FnScope ["self"] ["self"] (defScope s_World_channels) := ⟨rfl, rfl, rfl, by decide +kernel, rfl, by decide +kernel, by decide +kernel⟩
abbrev s_World_breakers : Stmt := inClass (topS 38) 4
theorem sc_World_breakers : FnScope ["self"] ["self"] (defScope s_World_breakers) := ⟨rfl, rfl, rfl, by decide +kernel, rfl, by decide +kernel, by decide +kernel⟩
abbrev s_World_ships : Stmt := inClass (topS 38) 5
theorem sc_World_ships : FnScope ["self"] ["self"] (defScope s_World_ships) := ⟨rfl, rfl, rfl, by decide +kernel, rfl, by decide +kernel, by decide +kernel⟩
abbrev s_World_vessels : Stmt := inClass (topS 38) 6
theorem sc_World_vessels : FnScope ["self"] ["self"] (defScope s_World_vessels) := ⟨rfl, rfl, rfl, by decide +kernel, rfl, by decide +kernel, by decide +kernel⟩
abbrev s_World_channel : Stmt := inClass (topS 38) 7
theorem sc_World_channel : FnScope ["self", "name"] ["self", "name"] (defScope s_World_channel) := ⟨rfl, rfl, rfl, by decide +kernel, rfl, by decide +kernel, by decide +kernel⟩
abbrev s_World_vessel : Stmt := inClass (topS 38) 8
theorem sc_World_vessel : FnScope ["self", "name"] ["self", "name"] (defScope s_World_vessel) := ⟨rfl, rfl, rfl, by decide +kernel, rfl, by decide +kernel, by decide +kernel⟩
abbrev s_World_told : Stmt := inClass (topS 38) 12
theorem sc_World_told : FnScope ["self"] ["self"] (defScope s_World_told) := ⟨rfl, rfl, rfl, by decide +kernel, rfl, by decide +kernel, by decide +kernel⟩

set_option genInjectivity false in
set_option genSizeOf false in
structure Top (K : PySem.W.Frag) (mg : Str → Option Value) where
  a_is_whole : Addr
  d_is_whole : FuncData
  F_is_whole : Fun K "is_whole" "is_whole" s_is_whole a_is_whole d_is_whole
  b_is_whole : Binds K d_is_whole ["thing"] []
  m_is_whole : mg "is_whole" = some (.ref a_is_whole)
  a_is_within : Addr
  d_is_within : FuncData
  F_is_within : Fun K "is_within" "is_within" s_is_within a_is_within d_is_within
  b_is_within : Binds K d_is_within ["thing", "low", "high"] []
  m_is_within : mg "is_within" = some (.ref a_is_within)
  a_is_name : Addr
  d_is_name : FuncData
  F_is_name : Fun K "is_name" "is_name" s_is_name a_is_name d_is_name
  b_is_name : Binds K d_is_name ["thing"] []
  m_is_name : mg "is_name" = some (.ref a_is_name)
  a_all_between : Addr
  d_all_between : FuncData
  F_all_between : Fun K "_all_between" "_all_between" s_all_between a_all_between d_all_between
  b_all_between : Binds K d_all_between ["text", "low", "high"] []
  m_all_between : mg "_all_between" = some (.ref a_all_between)
  a_check_number : Addr
  d_check_number : FuncData
  F_check_number : Fun K "check_number" "check_number" s_check_number a_check_number d_check_number
  b_check_number : Binds K d_check_number ["thing", "low", "high"] []
  m_check_number : mg "check_number" = some (.ref a_check_number)
  a_check_names : Addr
  d_check_names : FuncData
  F_check_names : Fun K "_check_names" "_check_names" s_check_names a_check_names d_check_names
  b_check_names : Binds K d_check_names ["things"] []
  m_check_names : mg "_check_names" = some (.ref a_check_names)
  a_rows_of : Addr
  d_rows_of : FuncData
  F_rows_of : Fun K "_rows_of" "_rows_of" s_rows_of a_rows_of d_rows_of
  b_rows_of : Binds K d_rows_of ["things"] []
  m_rows_of : mg "_rows_of" = some (.ref a_rows_of)
  a_check_kinds : Addr
  d_check_kinds : FuncData
  F_check_kinds : Fun K "_check_kinds" "_check_kinds" s_check_kinds a_check_kinds d_check_kinds
  b_check_kinds : Binds K d_check_kinds ["ports", "channels", "breakers", "ships"] []
  m_check_kinds : mg "_check_kinds" = some (.ref a_check_kinds)
  a_holds_at_most : Addr
  d_holds_at_most : FuncData
  F_holds_at_most : Fun K "_holds_at_most" "_holds_at_most" s_holds_at_most a_holds_at_most d_holds_at_most
  b_holds_at_most : Binds K d_holds_at_most ["thing", "many"] []
  m_holds_at_most : mg "_holds_at_most" = some (.ref a_holds_at_most)
  a_check_unlike : Addr
  d_check_unlike : FuncData
  F_check_unlike : Fun K "_check_unlike" "_check_unlike" s_check_unlike a_check_unlike d_check_unlike
  b_check_unlike : Binds K d_check_unlike ["names"] []
  m_check_unlike : mg "_check_unlike" = some (.ref a_check_unlike)
  a_check_ports : Addr
  d_check_ports : FuncData
  F_check_ports : Fun K "_check_ports" "_check_ports" s_check_ports a_check_ports d_check_ports
  b_check_ports : Binds K d_check_ports ["ports", "channels", "breakers", "ships"] []
  m_check_ports : mg "_check_ports" = some (.ref a_check_ports)
  a_turned : Addr
  d_turned : FuncData
  F_turned : Fun K "turned" "turned" s_turned a_turned d_turned
  b_turned : Binds K d_turned ["world"] []
  m_turned : mg "turned" = some (.ref a_turned)
  a_with_ship : Addr
  d_with_ship : FuncData
  F_with_ship : Fun K "with_ship" "with_ship" s_with_ship a_with_ship d_with_ship
  b_with_ship : Binds K d_with_ship ["world", "ship"] []
  m_with_ship : mg "with_ship" = some (.ref a_with_ship)
  a_without : Addr
  d_without : FuncData
  F_without : Fun K "without" "without" s_without a_without d_without
  b_without : Binds K d_without ["world", "name"] []
  m_without : mg "without" = some (.ref a_without)
  a_channel_anew : Addr
  d_channel_anew : FuncData
  F_channel_anew : Fun K "_channel_anew" "_channel_anew" s_channel_anew a_channel_anew d_channel_anew
  b_channel_anew : Binds K d_channel_anew ["channel", "name", "one", "other"] []
  m_channel_anew : mg "_channel_anew" = some (.ref a_channel_anew)
  a_breaker_anew : Addr
  d_breaker_anew : FuncData
  F_breaker_anew : Fun K "_breaker_anew" "_breaker_anew" s_breaker_anew a_breaker_anew d_breaker_anew
  b_breaker_anew : Binds K d_breaker_anew ["breaker", "name", "port", "hour"] []
  m_breaker_anew : mg "_breaker_anew" = some (.ref a_breaker_anew)
  a_ship_anew : Addr
  d_ship_anew : FuncData
  F_ship_anew : Fun K "_ship_anew" "_ship_anew" s_ship_anew a_ship_anew d_ship_anew
  b_ship_anew : Binds K d_ship_anew ["ship", "name", "port", "goal", "hour"] []
  m_ship_anew : mg "_ship_anew" = some (.ref a_ship_anew)
  a_cell : Addr
  d_cell : FuncData
  F_cell : Fun K "_law_cell" "_law_cell" s_cell a_cell d_cell
  b_cell : Binds K d_cell ["_law_script", "_law_k"] []
  m_cell : mg "_law_cell" = some (.ref a_cell)
  a_box : Addr
  d_box : FuncData
  F_box : Fun K "_law_box" "_law_box" s_box a_box d_box
  b_box : Binds K d_box ["_law_cell_here"] []
  m_box : mg "_law_box" = some (.ref a_box)
  a_take : Addr
  d_take : FuncData
  F_take : Fun K "_law_take" "_law_take" s_take a_take d_take
  b_take : Binds K d_take ["_law_box_here", "_law_many"] []
  m_take : mg "_law_take" = some (.ref a_take)
  a_names : Addr
  d_names : FuncData
  F_names : Fun K "_law_names" "_law_names" s_names a_names d_names
  b_names : Binds K d_names ["_law_box_here", "_law_many"] []
  m_names : mg "_law_names" = some (.ref a_names)
  a_number : Addr
  d_number : FuncData
  F_number : Fun K "_law_number" "_law_number" s_number a_number d_number
  b_number : Binds K d_number ["_law_box_here", "_law_low", "_law_high"] []
  m_number : mg "_law_number" = some (.ref a_number)
  a_channel : Addr
  d_channel : FuncData
  F_channel : Fun K "_law_channel" "_law_channel" s_channel a_channel d_channel
  b_channel : Binds K d_channel ["_law_box_here", "_law_name", "_law_ports"] []
  m_channel : mg "_law_channel" = some (.ref a_channel)
  a_breaker : Addr
  d_breaker : FuncData
  F_breaker : Fun K "_law_breaker" "_law_breaker" s_breaker a_breaker d_breaker
  b_breaker : Binds K d_breaker ["_law_box_here", "_law_name", "_law_ports"] []
  m_breaker : mg "_law_breaker" = some (.ref a_breaker)
  a_ship : Addr
  d_ship : FuncData
  F_ship : Fun K "_law_ship" "_law_ship" s_ship a_ship d_ship
  b_ship : Binds K d_ship ["_law_box_here", "_law_name", "_law_ports"] []
  m_ship : mg "_law_ship" = some (.ref a_ship)
  a_world : Addr
  d_world : FuncData
  F_world : Fun K "_law_world" "_law_world" s_world a_world d_world
  b_world : Binds K d_world ["_law_box_here", "_law_sizes"] []
  m_world : mg "_law_world" = some (.ref a_world)
  a_few : Addr
  d_few : FuncData
  F_few : Fun K "_law_few" "_law_few" s_few a_few d_few
  b_few : Binds K d_few ["_law_box_here"] []
  m_few : mg "_law_few" = some (.ref a_few)
  a_made : Addr
  d_made : FuncData
  F_made : Fun K "_law_made" "_law_made" s_made a_made d_made
  b_made : Binds K d_made ["_law_world_here"] []
  m_made : mg "_law_made" = some (.ref a_made)
  a_turned_due : Addr
  d_turned_due : FuncData
  F_turned_due : Fun K "_law_turned_due" "_law_turned_due" s_turned_due a_turned_due d_turned_due
  b_turned_due : Binds K d_turned_due ["_law_world_here"] []
  m_turned_due : mg "_law_turned_due" = some (.ref a_turned_due)
  a_ship_due : Addr
  d_ship_due : FuncData
  F_ship_due : Fun K "_law_ship_due" "_law_ship_due" s_ship_due a_ship_due d_ship_due
  b_ship_due : Binds K d_ship_due ["_law_world_here", "_law_row"] []
  m_ship_due : mg "_law_ship_due" = some (.ref a_ship_due)
  a_with : Addr
  d_with : FuncData
  F_with : Fun K "_law_with" "_law_with" s_with a_with d_with
  b_with : Binds K d_with ["_law_made_here", "_law_row"] []
  m_with : mg "_law_with" = some (.ref a_with)
  a_without_due : Addr
  d_without_due : FuncData
  F_without_due : Fun K "_law_without_due" "_law_without_due" s_without_due a_without_due d_without_due
  b_without_due : Binds K d_without_due ["_law_world_here", "_law_name"] []
  m_without_due : mg "_law_without_due" = some (.ref a_without_due)
  a_same_things : Addr
  d_same_things : FuncData
  F_same_things : Fun K "_law_same_things" "_law_same_things" s_same_things a_same_things d_same_things
  b_same_things : Binds K d_same_things ["_law_one", "_law_other"] []
  m_same_things : mg "_law_same_things" = some (.ref a_same_things)
  a_new_ship : Addr
  d_new_ship : FuncData
  F_new_ship : Fun K "_law_new_ship" "_law_new_ship" s_new_ship a_new_ship d_new_ship
  b_new_ship : Binds K d_new_ship ["_law_box_here", "_law_world_here"] []
  m_new_ship : mg "_law_new_ship" = some (.ref a_new_ship)
  a_right : Addr
  d_right : FuncData
  F_right : Fun K "_law_right" "_law_right" s_right a_right d_right
  b_right : Binds K d_right ["_law_box_here", "_law_made_here", "_law_world_here"] []
  m_right : mg "_law_right" = some (.ref a_right)
  a_law : Addr
  d_law : FuncData
  F_law : Fun K "law" "law" s_law a_law d_law
  b_law : Binds K d_law ["_law_script"] []
  m_law : mg "law" = some (.ref a_law)
  a_NoName___init__ : Addr
  d_NoName___init__ : FuncData
  F_NoName___init__ : Fun K "__init__" "NoName.__init__" s_NoName___init__ a_NoName___init__ d_NoName___init__
  b_NoName___init__ : Binds K d_NoName___init__ ["self", "found"] []
  a_NoNumber___init__ : Addr
  d_NoNumber___init__ : FuncData
  F_NoNumber___init__ : Fun K "__init__" "NoNumber.__init__" s_NoNumber___init__ a_NoNumber___init__ d_NoNumber___init__
  b_NoNumber___init__ : Binds K d_NoNumber___init__ ["self", "found"] []
  a_Doubled___init__ : Addr
  d_Doubled___init__ : FuncData
  F_Doubled___init__ : Fun K "__init__" "Doubled.__init__" s_Doubled___init__ a_Doubled___init__ d_Doubled___init__
  b_Doubled___init__ : Binds K d_Doubled___init__ ["self", "name"] []
  a_NoPort___init__ : Addr
  d_NoPort___init__ : FuncData
  F_NoPort___init__ : Fun K "__init__" "NoPort.__init__" s_NoPort___init__ a_NoPort___init__ d_NoPort___init__
  b_NoPort___init__ : Binds K d_NoPort___init__ ["self", "found"] []
  a_NoChannel___init__ : Addr
  d_NoChannel___init__ : FuncData
  F_NoChannel___init__ : Fun K "__init__" "NoChannel.__init__" s_NoChannel___init__ a_NoChannel___init__ d_NoChannel___init__
  b_NoChannel___init__ : Binds K d_NoChannel___init__ ["self", "found"] []
  a_NoVessel___init__ : Addr
  d_NoVessel___init__ : FuncData
  F_NoVessel___init__ : Fun K "__init__" "NoVessel.__init__" s_NoVessel___init__ a_NoVessel___init__ d_NoVessel___init__
  b_NoVessel___init__ : Binds K d_NoVessel___init__ ["self", "found"] []
  a_NoKind___init__ : Addr
  d_NoKind___init__ : FuncData
  F_NoKind___init__ : Fun K "__init__" "NoKind.__init__" s_NoKind___init__ a_NoKind___init__ d_NoKind___init__
  b_NoKind___init__ : Binds K d_NoKind___init__ ["self", "found"] []
  a_NoWorld___init__ : Addr
  d_NoWorld___init__ : FuncData
  F_NoWorld___init__ : Fun K "__init__" "NoWorld.__init__" s_NoWorld___init__ a_NoWorld___init__ d_NoWorld___init__
  b_NoWorld___init__ : Binds K d_NoWorld___init__ ["self", "found"] []
  a_Channel___init__ : Addr
  d_Channel___init__ : FuncData
  F_Channel___init__ : Fun K "__init__" "Channel.__init__" s_Channel___init__ a_Channel___init__ d_Channel___init__
  b_Channel___init__ : Binds K d_Channel___init__ ["self", "name", "one", "other", "hours", "depth", "first", "growth", "most"] []
  a_Channel_ends : Addr
  d_Channel_ends : FuncData
  F_Channel_ends : Fun K "ends" "Channel.ends" s_Channel_ends a_Channel_ends d_Channel_ends
  b_Channel_ends : Binds K d_Channel_ends ["self"] []
  a_Channel_row : Addr
  d_Channel_row : FuncData
  F_Channel_row : Fun K "row" "Channel.row" s_Channel_row a_Channel_row d_Channel_row
  b_Channel_row : Binds K d_Channel_row ["self"] []
  a_Vessel___init__ : Addr
  d_Vessel___init__ : FuncData
  F_Vessel___init__ : Fun K "__init__" "Vessel.__init__" s_Vessel___init__ a_Vessel___init__ d_Vessel___init__
  b_Vessel___init__ : Binds K d_Vessel___init__ ["self", "name", "port", "hour", "strength", "draught"] []
  a_Vessel_kind : Addr
  d_Vessel_kind : FuncData
  F_Vessel_kind : Fun K "kind" "Vessel.kind" s_Vessel_kind a_Vessel_kind d_Vessel_kind
  b_Vessel_kind : Binds K d_Vessel_kind ["self"] []
  a_Vessel_thins : Addr
  d_Vessel_thins : FuncData
  F_Vessel_thins : Fun K "thins" "Vessel.thins" s_Vessel_thins a_Vessel_thins d_Vessel_thins
  b_Vessel_thins : Binds K d_Vessel_thins ["self"] []
  a_Vessel_row : Addr
  d_Vessel_row : FuncData
  F_Vessel_row : Fun K "row" "Vessel.row" s_Vessel_row a_Vessel_row d_Vessel_row
  b_Vessel_row : Binds K d_Vessel_row ["self"] []
  a_Breaker___init__ : Addr
  d_Breaker___init__ : FuncData
  F_Breaker___init__ : Fun K "__init__" "Breaker.__init__" s_Breaker___init__ a_Breaker___init__ d_Breaker___init__
  b_Breaker___init__ : Binds K d_Breaker___init__ ["self", "name", "port", "hour", "strength", "draught", "cut"] []
  a_Breaker_kind : Addr
  d_Breaker_kind : FuncData
  F_Breaker_kind : Fun K "kind" "Breaker.kind" s_Breaker_kind a_Breaker_kind d_Breaker_kind
  b_Breaker_kind : Binds K d_Breaker_kind ["self"] []
  a_Breaker_thins : Addr
  d_Breaker_thins : FuncData
  F_Breaker_thins : Fun K "thins" "Breaker.thins" s_Breaker_thins a_Breaker_thins d_Breaker_thins
  b_Breaker_thins : Binds K d_Breaker_thins ["self"] []
  a_Breaker_row : Addr
  d_Breaker_row : FuncData
  F_Breaker_row : Fun K "row" "Breaker.row" s_Breaker_row a_Breaker_row d_Breaker_row
  b_Breaker_row : Binds K d_Breaker_row ["self"] []
  a_Ship___init__ : Addr
  d_Ship___init__ : FuncData
  F_Ship___init__ : Fun K "__init__" "Ship.__init__" s_Ship___init__ a_Ship___init__ d_Ship___init__
  b_Ship___init__ : Binds K d_Ship___init__ ["self", "name", "port", "goal", "hour", "strength", "draught"] []
  a_Ship_kind : Addr
  d_Ship_kind : FuncData
  F_Ship_kind : Fun K "kind" "Ship.kind" s_Ship_kind a_Ship_kind d_Ship_kind
  b_Ship_kind : Binds K d_Ship_kind ["self"] []
  a_Ship_row : Addr
  d_Ship_row : FuncData
  F_Ship_row : Fun K "row" "Ship.row" s_Ship_row a_Ship_row d_Ship_row
  b_Ship_row : Binds K d_Ship_row ["self"] []
  a_World___init__ : Addr
  d_World___init__ : FuncData
  F_World___init__ : Fun K "__init__" "World.__init__" s_World___init__ a_World___init__ d_World___init__
  b_World___init__ : Binds K d_World___init__ ["self", "begin", "ports", "channels", "breakers", "ships"] []
  a_World_begin_hour : Addr
  d_World_begin_hour : FuncData
  F_World_begin_hour : Fun K "begin_hour" "World.begin_hour" s_World_begin_hour a_World_begin_hour d_World_begin_hour
  b_World_begin_hour : Binds K d_World_begin_hour ["self"] []
  a_World_ports : Addr
  d_World_ports : FuncData
  F_World_ports : Fun K "ports" "World.ports" s_World_ports a_World_ports d_World_ports
  b_World_ports : Binds K d_World_ports ["self"] []
  a_World_channels : Addr
  d_World_channels : FuncData
  F_World_channels : Fun K "channels" "World.channels" s_World_channels a_World_channels d_World_channels
  b_World_channels : Binds K d_World_channels ["self"] []
  a_World_breakers : Addr
  d_World_breakers : FuncData
  F_World_breakers : Fun K "breakers" "World.breakers" s_World_breakers a_World_breakers d_World_breakers
  b_World_breakers : Binds K d_World_breakers ["self"] []
  a_World_ships : Addr
  d_World_ships : FuncData
  F_World_ships : Fun K "ships" "World.ships" s_World_ships a_World_ships d_World_ships
  b_World_ships : Binds K d_World_ships ["self"] []
  a_World_vessels : Addr
  d_World_vessels : FuncData
  F_World_vessels : Fun K "vessels" "World.vessels" s_World_vessels a_World_vessels d_World_vessels
  b_World_vessels : Binds K d_World_vessels ["self"] []
  a_World_channel : Addr
  d_World_channel : FuncData
  F_World_channel : Fun K "channel" "World.channel" s_World_channel a_World_channel d_World_channel
  b_World_channel : Binds K d_World_channel ["self", "name"] []
  a_World_vessel : Addr
  d_World_vessel : FuncData
  F_World_vessel : Fun K "vessel" "World.vessel" s_World_vessel a_World_vessel d_World_vessel
  b_World_vessel : Binds K d_World_vessel ["self", "name"] []
  a_World_told : Addr
  d_World_told : FuncData
  F_World_told : Fun K "told" "World.told" s_World_told a_World_told d_World_told
  b_World_told : Binds K d_World_told ["self"] []
  a_IceError : Addr
  c_IceError : mg "IceError" = some (.ref a_IceError)
  sp_IceError : PySem.W.specialIn K (.ref a_IceError) "__getattribute__" = some (some (.builtin "type.__getattribute__"))
  ty_IceError : PySem.W.typeIn K (.ref a_IceError) = some (.type "type")
  rd_IceError : PySem.W.readsIn K a_IceError (.type "type") = true
  fc_IceError : PySem.W.findCls K (.ref a_IceError) (.type "type") "__init__" = some (.val (.builtin "ValueError.__init__"))
  a_NoName : Addr
  c_NoName : mg "NoName" = some (.ref a_NoName)
  ox_NoName : OexC K a_NoName
  xf_NoName : XfC K a_NoName
  in_NoName : PySem.W.findIn K (.ref a_NoName) "__init__" = some (some (.ref a_NoName___init__))
  tf_NoName : PySem.W.typeIn K (.ref a_NoName___init__) = some (.type "function")
  nf_NoName_found : PySem.W.findIn K (.ref a_NoName) "found" = some none
  a_NoNumber : Addr
  c_NoNumber : mg "NoNumber" = some (.ref a_NoNumber)
  ox_NoNumber : OexC K a_NoNumber
  xf_NoNumber : XfC K a_NoNumber
  in_NoNumber : PySem.W.findIn K (.ref a_NoNumber) "__init__" = some (some (.ref a_NoNumber___init__))
  tf_NoNumber : PySem.W.typeIn K (.ref a_NoNumber___init__) = some (.type "function")
  nf_NoNumber_found : PySem.W.findIn K (.ref a_NoNumber) "found" = some none
  a_Doubled : Addr
  c_Doubled : mg "Doubled" = some (.ref a_Doubled)
  ox_Doubled : OexC K a_Doubled
  xf_Doubled : XfC K a_Doubled
  in_Doubled : PySem.W.findIn K (.ref a_Doubled) "__init__" = some (some (.ref a_Doubled___init__))
  tf_Doubled : PySem.W.typeIn K (.ref a_Doubled___init__) = some (.type "function")
  nf_Doubled_name : PySem.W.findIn K (.ref a_Doubled) "name" = some none
  a_NoPort : Addr
  c_NoPort : mg "NoPort" = some (.ref a_NoPort)
  ox_NoPort : OexC K a_NoPort
  xf_NoPort : XfC K a_NoPort
  in_NoPort : PySem.W.findIn K (.ref a_NoPort) "__init__" = some (some (.ref a_NoPort___init__))
  tf_NoPort : PySem.W.typeIn K (.ref a_NoPort___init__) = some (.type "function")
  nf_NoPort_found : PySem.W.findIn K (.ref a_NoPort) "found" = some none
  a_NoChannel : Addr
  c_NoChannel : mg "NoChannel" = some (.ref a_NoChannel)
  ox_NoChannel : OexC K a_NoChannel
  xf_NoChannel : XfC K a_NoChannel
  in_NoChannel : PySem.W.findIn K (.ref a_NoChannel) "__init__" = some (some (.ref a_NoChannel___init__))
  tf_NoChannel : PySem.W.typeIn K (.ref a_NoChannel___init__) = some (.type "function")
  nf_NoChannel_found : PySem.W.findIn K (.ref a_NoChannel) "found" = some none
  a_NoVessel : Addr
  c_NoVessel : mg "NoVessel" = some (.ref a_NoVessel)
  ox_NoVessel : OexC K a_NoVessel
  xf_NoVessel : XfC K a_NoVessel
  in_NoVessel : PySem.W.findIn K (.ref a_NoVessel) "__init__" = some (some (.ref a_NoVessel___init__))
  tf_NoVessel : PySem.W.typeIn K (.ref a_NoVessel___init__) = some (.type "function")
  nf_NoVessel_found : PySem.W.findIn K (.ref a_NoVessel) "found" = some none
  a_NoKind : Addr
  c_NoKind : mg "NoKind" = some (.ref a_NoKind)
  ox_NoKind : OexC K a_NoKind
  xf_NoKind : XfC K a_NoKind
  in_NoKind : PySem.W.findIn K (.ref a_NoKind) "__init__" = some (some (.ref a_NoKind___init__))
  tf_NoKind : PySem.W.typeIn K (.ref a_NoKind___init__) = some (.type "function")
  nf_NoKind_found : PySem.W.findIn K (.ref a_NoKind) "found" = some none
  a_NoWorld : Addr
  c_NoWorld : mg "NoWorld" = some (.ref a_NoWorld)
  ox_NoWorld : OexC K a_NoWorld
  xf_NoWorld : XfC K a_NoWorld
  in_NoWorld : PySem.W.findIn K (.ref a_NoWorld) "__init__" = some (some (.ref a_NoWorld___init__))
  tf_NoWorld : PySem.W.typeIn K (.ref a_NoWorld___init__) = some (.type "function")
  nf_NoWorld_found : PySem.W.findIn K (.ref a_NoWorld) "found" = some none
  a_Channel : Addr
  c_Channel : mg "Channel" = some (.ref a_Channel)
  cl_Channel : Cls K a_Channel
  mk_Channel : Mk K a_Channel a_Channel___init__
  na_Channel_name : NoAttr K a_Channel "name"
  na_Channel_one : NoAttr K a_Channel "one"
  na_Channel_other : NoAttr K a_Channel "other"
  na_Channel_hours : NoAttr K a_Channel "hours"
  na_Channel_depth : NoAttr K a_Channel "depth"
  na_Channel_first : NoAttr K a_Channel "first"
  na_Channel_growth : NoAttr K a_Channel "growth"
  na_Channel_most : NoAttr K a_Channel "most"
  me_Channel_ends : Meth K a_Channel "ends" a_Channel_ends
  me_Channel_row : Meth K a_Channel "row" a_Channel_row
  a_Vessel : Addr
  c_Vessel : mg "Vessel" = some (.ref a_Vessel)
  cl_Vessel : Cls K a_Vessel
  mk_Vessel : Mk K a_Vessel a_Vessel___init__
  ki_Vessel : Kin K a_Vessel a_Vessel___init__
  na_Vessel_name : NoAttr K a_Vessel "name"
  na_Vessel_port : NoAttr K a_Vessel "port"
  na_Vessel_hour : NoAttr K a_Vessel "hour"
  na_Vessel_strength : NoAttr K a_Vessel "strength"
  na_Vessel_draught : NoAttr K a_Vessel "draught"
  me_Vessel_kind : Meth K a_Vessel "kind" a_Vessel_kind
  me_Vessel_thins : Meth K a_Vessel "thins" a_Vessel_thins
  me_Vessel_row : Meth K a_Vessel "row" a_Vessel_row
  a_Breaker : Addr
  c_Breaker : mg "Breaker" = some (.ref a_Breaker)
  cl_Breaker : Cls K a_Breaker
  mk_Breaker : Mk K a_Breaker a_Breaker___init__
  na_Breaker_name : NoAttr K a_Breaker "name"
  na_Breaker_port : NoAttr K a_Breaker "port"
  na_Breaker_hour : NoAttr K a_Breaker "hour"
  na_Breaker_strength : NoAttr K a_Breaker "strength"
  na_Breaker_draught : NoAttr K a_Breaker "draught"
  na_Breaker_cut : NoAttr K a_Breaker "cut"
  me_Breaker_kind : Meth K a_Breaker "kind" a_Breaker_kind
  me_Breaker_thins : Meth K a_Breaker "thins" a_Breaker_thins
  me_Breaker_row : Meth K a_Breaker "row" a_Breaker_row
  a_Ship : Addr
  c_Ship : mg "Ship" = some (.ref a_Ship)
  cl_Ship : Cls K a_Ship
  mk_Ship : Mk K a_Ship a_Ship___init__
  na_Ship_name : NoAttr K a_Ship "name"
  na_Ship_port : NoAttr K a_Ship "port"
  na_Ship_hour : NoAttr K a_Ship "hour"
  na_Ship_strength : NoAttr K a_Ship "strength"
  na_Ship_draught : NoAttr K a_Ship "draught"
  na_Ship_goal : NoAttr K a_Ship "goal"
  me_Ship_kind : Meth K a_Ship "kind" a_Ship_kind
  me_Ship_row : Meth K a_Ship "row" a_Ship_row
  me_Ship_thins : Meth K a_Ship "thins" a_Vessel_thins
  a_World : Addr
  c_World : mg "World" = some (.ref a_World)
  cl_World : Cls K a_World
  mk_World : Mk K a_World a_World___init__
  na_World__begin : NoAttr K a_World "_begin"
  na_World__ports : NoAttr K a_World "_ports"
  na_World__channels : NoAttr K a_World "_channels"
  na_World__breakers : NoAttr K a_World "_breakers"
  na_World__ships : NoAttr K a_World "_ships"
  na_World__channel_of : NoAttr K a_World "_channel_of"
  na_World__vessel_of : NoAttr K a_World "_vessel_of"
  me_World_begin_hour : Meth K a_World "begin_hour" a_World_begin_hour
  me_World_ports : Meth K a_World "ports" a_World_ports
  me_World_channels : Meth K a_World "channels" a_World_channels
  me_World_breakers : Meth K a_World "breakers" a_World_breakers
  me_World_ships : Meth K a_World "ships" a_World_ships
  me_World_vessels : Meth K a_World "vessels" a_World_vessels
  me_World_channel : Meth K a_World "channel" a_World_channel
  me_World_vessel : Meth K a_World "vessel" a_World_vessel
  me_World_told : Meth K a_World "told" a_World_told
  ex_NoName_NoWorld : PySem.W.exmOne K (.ref a_NoName) (.ref a_NoWorld) = some false
  ex_NoName_Doubled : PySem.W.exmOne K (.ref a_NoName) (.ref a_Doubled) = some false
  ex_NoName_NoPort : PySem.W.exmOne K (.ref a_NoName) (.ref a_NoPort) = some false
  ex_NoName_IceError : PySem.W.exmOne K (.ref a_NoName) (.ref a_IceError) = some true
  ex_NoNumber_NoWorld : PySem.W.exmOne K (.ref a_NoNumber) (.ref a_NoWorld) = some false
  ex_NoNumber_Doubled : PySem.W.exmOne K (.ref a_NoNumber) (.ref a_Doubled) = some false
  ex_NoNumber_NoPort : PySem.W.exmOne K (.ref a_NoNumber) (.ref a_NoPort) = some false
  ex_NoNumber_IceError : PySem.W.exmOne K (.ref a_NoNumber) (.ref a_IceError) = some true
  ex_Doubled_NoWorld : PySem.W.exmOne K (.ref a_Doubled) (.ref a_NoWorld) = some false
  ex_Doubled_Doubled : PySem.W.exmOne K (.ref a_Doubled) (.ref a_Doubled) = some true
  ex_Doubled_NoPort : PySem.W.exmOne K (.ref a_Doubled) (.ref a_NoPort) = some false
  ex_Doubled_IceError : PySem.W.exmOne K (.ref a_Doubled) (.ref a_IceError) = some true
  ex_NoPort_NoWorld : PySem.W.exmOne K (.ref a_NoPort) (.ref a_NoWorld) = some false
  ex_NoPort_Doubled : PySem.W.exmOne K (.ref a_NoPort) (.ref a_Doubled) = some false
  ex_NoPort_NoPort : PySem.W.exmOne K (.ref a_NoPort) (.ref a_NoPort) = some true
  ex_NoPort_IceError : PySem.W.exmOne K (.ref a_NoPort) (.ref a_IceError) = some true
  ex_NoChannel_NoWorld : PySem.W.exmOne K (.ref a_NoChannel) (.ref a_NoWorld) = some false
  ex_NoChannel_Doubled : PySem.W.exmOne K (.ref a_NoChannel) (.ref a_Doubled) = some false
  ex_NoChannel_NoPort : PySem.W.exmOne K (.ref a_NoChannel) (.ref a_NoPort) = some false
  ex_NoChannel_IceError : PySem.W.exmOne K (.ref a_NoChannel) (.ref a_IceError) = some true
  ex_NoVessel_NoWorld : PySem.W.exmOne K (.ref a_NoVessel) (.ref a_NoWorld) = some false
  ex_NoVessel_Doubled : PySem.W.exmOne K (.ref a_NoVessel) (.ref a_Doubled) = some false
  ex_NoVessel_NoPort : PySem.W.exmOne K (.ref a_NoVessel) (.ref a_NoPort) = some false
  ex_NoVessel_IceError : PySem.W.exmOne K (.ref a_NoVessel) (.ref a_IceError) = some true
  ex_NoKind_NoWorld : PySem.W.exmOne K (.ref a_NoKind) (.ref a_NoWorld) = some false
  ex_NoKind_Doubled : PySem.W.exmOne K (.ref a_NoKind) (.ref a_Doubled) = some false
  ex_NoKind_NoPort : PySem.W.exmOne K (.ref a_NoKind) (.ref a_NoPort) = some false
  ex_NoKind_IceError : PySem.W.exmOne K (.ref a_NoKind) (.ref a_IceError) = some true
  ex_NoWorld_NoWorld : PySem.W.exmOne K (.ref a_NoWorld) (.ref a_NoWorld) = some true
  ex_NoWorld_Doubled : PySem.W.exmOne K (.ref a_NoWorld) (.ref a_Doubled) = some false
  ex_NoWorld_NoPort : PySem.W.exmOne K (.ref a_NoWorld) (.ref a_NoPort) = some false
  ex_NoWorld_IceError : PySem.W.exmOne K (.ref a_NoWorld) (.ref a_IceError) = some true
  sgc : PySem.W.specialIn K (.builtin "object.__class__") "__get__" = some (some (.builtin "getset_descriptor.__get__"))
  tkc : PySem.W.takesIn K (.builtin "object.__class__") = some true
  ca_Channel : PySem.W.findIn K (.ref a_Channel) "__class__" = some (some (.builtin "object.__class__"))
  mo_Channel : PySem.W.mroIn K a_Channel (.type "object") = some true
  io_Channel_Channel : PySem.W.kitOne K (.ref a_Channel) (.ref a_Channel) = some true
  io_Channel_Breaker : PySem.W.kitOne K (.ref a_Channel) (.ref a_Breaker) = some false
  io_Channel_Ship : PySem.W.kitOne K (.ref a_Channel) (.ref a_Ship) = some false
  ca_Vessel : PySem.W.findIn K (.ref a_Vessel) "__class__" = some (some (.builtin "object.__class__"))
  mo_Vessel : PySem.W.mroIn K a_Vessel (.type "object") = some true
  io_Vessel_Channel : PySem.W.kitOne K (.ref a_Vessel) (.ref a_Channel) = some false
  io_Vessel_Breaker : PySem.W.kitOne K (.ref a_Vessel) (.ref a_Breaker) = some false
  io_Vessel_Ship : PySem.W.kitOne K (.ref a_Vessel) (.ref a_Ship) = some false
  ca_Breaker : PySem.W.findIn K (.ref a_Breaker) "__class__" = some (some (.builtin "object.__class__"))
  mo_Breaker : PySem.W.mroIn K a_Breaker (.type "object") = some true
  io_Breaker_Channel : PySem.W.kitOne K (.ref a_Breaker) (.ref a_Channel) = some false
  io_Breaker_Breaker : PySem.W.kitOne K (.ref a_Breaker) (.ref a_Breaker) = some true
  io_Breaker_Ship : PySem.W.kitOne K (.ref a_Breaker) (.ref a_Ship) = some false
  ca_Ship : PySem.W.findIn K (.ref a_Ship) "__class__" = some (some (.builtin "object.__class__"))
  mo_Ship : PySem.W.mroIn K a_Ship (.type "object") = some true
  io_Ship_Channel : PySem.W.kitOne K (.ref a_Ship) (.ref a_Channel) = some false
  io_Ship_Breaker : PySem.W.kitOne K (.ref a_Ship) (.ref a_Breaker) = some false
  io_Ship_Ship : PySem.W.kitOne K (.ref a_Ship) (.ref a_Ship) = some true
  ca_World : PySem.W.findIn K (.ref a_World) "__class__" = some (some (.builtin "object.__class__"))
  mo_World : PySem.W.mroIn K a_World (.type "object") = some true
  io_World_Channel : PySem.W.kitOne K (.ref a_World) (.ref a_Channel) = some false
  io_World_Breaker : PySem.W.kitOne K (.ref a_World) (.ref a_Breaker) = some false
  io_World_Ship : PySem.W.kitOne K (.ref a_World) (.ref a_Ship) = some false
  io_Channel_list : PySem.W.kitOne K (.ref a_Channel) (.type "list") = some false
  io_Channel_tuple : PySem.W.kitOne K (.ref a_Channel) (.type "tuple") = some false
  io_Channel_str : PySem.W.kitOne K (.ref a_Channel) (.type "str") = some false
  eq_Channel : PySem.W.findIn K (.ref a_Channel) "__eq__" = some (some (.builtin "object.__eq__"))
  io_Vessel_list : PySem.W.kitOne K (.ref a_Vessel) (.type "list") = some false
  io_Vessel_tuple : PySem.W.kitOne K (.ref a_Vessel) (.type "tuple") = some false
  io_Vessel_str : PySem.W.kitOne K (.ref a_Vessel) (.type "str") = some false
  eq_Vessel : PySem.W.findIn K (.ref a_Vessel) "__eq__" = some (some (.builtin "object.__eq__"))
  io_Breaker_list : PySem.W.kitOne K (.ref a_Breaker) (.type "list") = some false
  io_Breaker_tuple : PySem.W.kitOne K (.ref a_Breaker) (.type "tuple") = some false
  io_Breaker_str : PySem.W.kitOne K (.ref a_Breaker) (.type "str") = some false
  eq_Breaker : PySem.W.findIn K (.ref a_Breaker) "__eq__" = some (some (.builtin "object.__eq__"))
  io_Ship_list : PySem.W.kitOne K (.ref a_Ship) (.type "list") = some false
  io_Ship_tuple : PySem.W.kitOne K (.ref a_Ship) (.type "tuple") = some false
  io_Ship_str : PySem.W.kitOne K (.ref a_Ship) (.type "str") = some false
  eq_Ship : PySem.W.findIn K (.ref a_Ship) "__eq__" = some (some (.builtin "object.__eq__"))
  ne_Ship : PySem.W.findIn K (.ref a_Ship) "__ne__" = some (some (.builtin "object.__ne__"))
  io_World_list : PySem.W.kitOne K (.ref a_World) (.type "list") = some false
  io_World_tuple : PySem.W.kitOne K (.ref a_World) (.type "tuple") = some false
  io_World_str : PySem.W.kitOne K (.ref a_World) (.type "str") = some false
  eq_World : PySem.W.findIn K (.ref a_World) "__eq__" = some (some (.builtin "object.__eq__"))
  ib_NoneType_Channel : PySem.W.kitOne K (.type "NoneType") (.ref a_Channel) = some false
  ib_NoneType_Breaker : PySem.W.kitOne K (.type "NoneType") (.ref a_Breaker) = some false
  ib_NoneType_Ship : PySem.W.kitOne K (.type "NoneType") (.ref a_Ship) = some false
  ib_int_Channel : PySem.W.kitOne K (.type "int") (.ref a_Channel) = some false
  ib_int_Breaker : PySem.W.kitOne K (.type "int") (.ref a_Breaker) = some false
  ib_int_Ship : PySem.W.kitOne K (.type "int") (.ref a_Ship) = some false
  ib_str_Channel : PySem.W.kitOne K (.type "str") (.ref a_Channel) = some false
  ib_str_Breaker : PySem.W.kitOne K (.type "str") (.ref a_Breaker) = some false
  ib_str_Ship : PySem.W.kitOne K (.type "str") (.ref a_Ship) = some false
  ib_list_Channel : PySem.W.kitOne K (.type "list") (.ref a_Channel) = some false
  ib_list_Breaker : PySem.W.kitOne K (.type "list") (.ref a_Breaker) = some false
  ib_list_Ship : PySem.W.kitOne K (.type "list") (.ref a_Ship) = some false
  ib_bool_Channel : PySem.W.kitOne K (.type "bool") (.ref a_Channel) = some false
  ib_bool_Breaker : PySem.W.kitOne K (.type "bool") (.ref a_Breaker) = some false
  ib_bool_Ship : PySem.W.kitOne K (.type "bool") (.ref a_Ship) = some false
  ib_dict_Channel : PySem.W.kitOne K (.type "dict") (.ref a_Channel) = some false
  ib_dict_Breaker : PySem.W.kitOne K (.type "dict") (.ref a_Breaker) = some false
  ib_dict_Ship : PySem.W.kitOne K (.type "dict") (.ref a_Ship) = some false
  ib_tuple_Channel : PySem.W.kitOne K (.type "tuple") (.ref a_Channel) = some false
  ib_tuple_Breaker : PySem.W.kitOne K (.type "tuple") (.ref a_Breaker) = some false
  ib_tuple_Ship : PySem.W.kitOne K (.type "tuple") (.ref a_Ship) = some false
  t_NAME_MOST : Tok
  c_NAME_MOST : mg "NAME_MOST" = some (.int 8 t_NAME_MOST)
  t_HOURS_MOST : Tok
  c_HOURS_MOST : mg "HOURS_MOST" = some (.int 1000 t_HOURS_MOST)
  t_DEPTH_MOST : Tok
  c_DEPTH_MOST : mg "DEPTH_MOST" = some (.int 1000 t_DEPTH_MOST)
  t_GROWTH_MOST : Tok
  c_GROWTH_MOST : mg "GROWTH_MOST" = some (.int 1000 t_GROWTH_MOST)
  t_THICK_MOST : Tok
  c_THICK_MOST : mg "THICK_MOST" = some (.int 1000000 t_THICK_MOST)
  t_HOUR_MOST : Tok
  c_HOUR_MOST : mg "HOUR_MOST" = some (.int 1000000 t_HOUR_MOST)
  t_STRENGTH_MOST : Tok
  c_STRENGTH_MOST : mg "STRENGTH_MOST" = some (.int 1000000 t_STRENGTH_MOST)
  t_CUT_MOST : Tok
  c_CUT_MOST : mg "CUT_MOST" = some (.int 1000000 t_CUT_MOST)
  t_BEGIN_MOST : Tok
  c_BEGIN_MOST : mg "BEGIN_MOST" = some (.int 1000000 t_BEGIN_MOST)
  t_PORTS_MOST : Tok
  c_PORTS_MOST : mg "PORTS_MOST" = some (.int 8 t_PORTS_MOST)
  t_CHANNELS_MOST : Tok
  c_CHANNELS_MOST : mg "CHANNELS_MOST" = some (.int 12 t_CHANNELS_MOST)
  t_BREAKERS_MOST : Tok
  c_BREAKERS_MOST : mg "BREAKERS_MOST" = some (.int 4 t_BREAKERS_MOST)
  t_SHIPS_MOST : Tok
  c_SHIPS_MOST : mg "SHIPS_MOST" = some (.int 6 t_SHIPS_MOST)
  n_isinstance : mg "isinstance" = none
  n_int : mg "int" = none
  n_bool : mg "bool" = none
  n_str : mg "str" = none
  n_len : mg "len" = none
  n_tuple : mg "tuple" = none
  n_all : mg "all" = none
  n_list : mg "list" = none
  n_max : mg "max" = none
  n_range : mg "range" = none
  n_repr : mg "repr" = none
  n_min : mg "min" = none
theorem all_mk {l : PySem.W.OpenLaw} {w : World} {K : PySem.W.Frag} {h : Heap} {mg : Str → Option Value} {fa : Addr} (hL : ∀ (P : Program) (w : World) (K : PySem.W.Frag) (mg : Str → Option Value) (base : Heap) (T : Top K mg), FnG P w K mg base CX0 10 T.a_law T.d_law ["_law_script"] (spLaw K)) (X : K.In h) (G : h.Ns mainGlobals mg) (hfa : mg "law" = some (.ref fa))
    {f0 : Addr} {od0 an0 : Option Addr} {sl0 : Array (Option Value)} {oc0 kV0 dc0 pm0 cd0 ct0 : Value}
    {f1 : Addr} {od1 an1 : Option Addr} {sl1 : Array (Option Value)} {oc1 kV1 dc1 pm1 cd1 ct1 : Value}
    {f2 : Addr} {od2 an2 : Option Addr} {sl2 : Array (Option Value)} {oc2 kV2 dc2 pm2 cd2 ct2 : Value}
    {f3 : Addr} {od3 an3 : Option Addr} {sl3 : Array (Option Value)} {oc3 kV3 dc3 pm3 cd3 ct3 : Value}
    {f4 : Addr} {od4 an4 : Option Addr} {sl4 : Array (Option Value)} {oc4 kV4 dc4 pm4 cd4 ct4 : Value}
    {f5 : Addr} {od5 an5 : Option Addr} {sl5 : Array (Option Value)} {oc5 kV5 dc5 pm5 cd5 ct5 : Value}
    {f6 : Addr} {od6 an6 : Option Addr} {sl6 : Array (Option Value)} {oc6 kV6 dc6 pm6 cd6 ct6 : Value}
    {f7 : Addr} {od7 an7 : Option Addr} {sl7 : Array (Option Value)} {oc7 kV7 dc7 pm7 cd7 ct7 : Value}
    {f8 : Addr} {od8 an8 : Option Addr} {sl8 : Array (Option Value)} {oc8 kV8 dc8 pm8 cd8 ct8 : Value}
    {f9 : Addr} {od9 an9 : Option Addr} {sl9 : Array (Option Value)} {oc9 kV9 dc9 pm9 cd9 ct9 : Value}
    {f10 : Addr} {od10 an10 : Option Addr} {sl10 : Array (Option Value)} {oc10 kV10 dc10 pm10 cd10 ct10 : Value}
    {f11 : Addr} {od11 an11 : Option Addr} {sl11 : Array (Option Value)} {oc11 kV11 dc11 pm11 cd11 ct11 : Value}
    {f12 : Addr} {od12 an12 : Option Addr} {sl12 : Array (Option Value)} {oc12 kV12 dc12 pm12 cd12 ct12 : Value}
    {f13 : Addr} {od13 an13 : Option Addr} {sl13 : Array (Option Value)} {oc13 kV13 dc13 pm13 cd13 ct13 : Value}
    {f14 : Addr} {od14 an14 : Option Addr} {sl14 : Array (Option Value)} {oc14 kV14 dc14 pm14 cd14 ct14 : Value}
    {f15 : Addr} {od15 an15 : Option Addr} {sl15 : Array (Option Value)} {oc15 kV15 dc15 pm15 cd15 ct15 : Value}
    {f16 : Addr} {od16 an16 : Option Addr} {sl16 : Array (Option Value)} {oc16 kV16 dc16 pm16 cd16 ct16 : Value}
    {f17 : Addr} {od17 an17 : Option Addr} {sl17 : Array (Option Value)} {oc17 kV17 dc17 pm17 cd17 ct17 : Value}
    {f18 : Addr} {od18 an18 : Option Addr} {sl18 : Array (Option Value)} {oc18 kV18 dc18 pm18 cd18 ct18 : Value}
    {f19 : Addr} {od19 an19 : Option Addr} {sl19 : Array (Option Value)} {oc19 kV19 dc19 pm19 cd19 ct19 : Value}
    {f20 : Addr} {od20 an20 : Option Addr} {sl20 : Array (Option Value)} {oc20 kV20 dc20 pm20 cd20 ct20 : Value}
    {f21 : Addr} {od21 an21 : Option Addr} {sl21 : Array (Option Value)} {oc21 kV21 dc21 pm21 cd21 ct21 : Value}
    {f22 : Addr} {od22 an22 : Option Addr} {sl22 : Array (Option Value)} {oc22 kV22 dc22 pm22 cd22 ct22 : Value}
    {f23 : Addr} {od23 an23 : Option Addr} {sl23 : Array (Option Value)} {oc23 kV23 dc23 pm23 cd23 ct23 : Value}
    {f24 : Addr} {od24 an24 : Option Addr} {sl24 : Array (Option Value)} {oc24 kV24 dc24 pm24 cd24 ct24 : Value}
    {f25 : Addr} {od25 an25 : Option Addr} {sl25 : Array (Option Value)} {oc25 kV25 dc25 pm25 cd25 ct25 : Value}
    {f26 : Addr} {od26 an26 : Option Addr} {sl26 : Array (Option Value)} {oc26 kV26 dc26 pm26 cd26 ct26 : Value}
    {f27 : Addr} {od27 an27 : Option Addr} {sl27 : Array (Option Value)} {oc27 kV27 dc27 pm27 cd27 ct27 : Value}
    {f28 : Addr} {od28 an28 : Option Addr} {sl28 : Array (Option Value)} {oc28 kV28 dc28 pm28 cd28 ct28 : Value}
    {f29 : Addr} {od29 an29 : Option Addr} {sl29 : Array (Option Value)} {oc29 kV29 dc29 pm29 cd29 ct29 : Value}
    {f30 : Addr} {od30 an30 : Option Addr} {sl30 : Array (Option Value)} {oc30 kV30 dc30 pm30 cd30 ct30 : Value}
    {f31 : Addr} {od31 an31 : Option Addr} {sl31 : Array (Option Value)} {oc31 kV31 dc31 pm31 cd31 ct31 : Value}
    {f32 : Addr} {od32 an32 : Option Addr} {sl32 : Array (Option Value)} {oc32 kV32 dc32 pm32 cd32 ct32 : Value}
    {f33 : Addr} {od33 an33 : Option Addr} {sl33 : Array (Option Value)} {oc33 kV33 dc33 pm33 cd33 ct33 : Value}
    {f34 : Addr} {od34 an34 : Option Addr} {sl34 : Array (Option Value)} {oc34 kV34 dc34 pm34 cd34 ct34 : Value}
    {f35 : Addr} {od35 an35 : Option Addr} {sl35 : Array (Option Value)} {oc35 kV35 dc35 pm35 cd35 ct35 : Value}
    {f36 : Addr} {od36 an36 : Option Addr} {sl36 : Array (Option Value)} {oc36 kV36 dc36 pm36 cd36 ct36 : Value}
    {f37 : Addr} {od37 an37 : Option Addr} {sl37 : Array (Option Value)} {oc37 kV37 dc37 pm37 cd37 ct37 : Value}
    {f38 : Addr} {od38 an38 : Option Addr} {sl38 : Array (Option Value)} {oc38 kV38 dc38 pm38 cd38 ct38 : Value}
    {f39 : Addr} {od39 an39 : Option Addr} {sl39 : Array (Option Value)} {oc39 kV39 dc39 pm39 cd39 ct39 : Value}
    {f40 : Addr} {od40 an40 : Option Addr} {sl40 : Array (Option Value)} {oc40 kV40 dc40 pm40 cd40 ct40 : Value}
    {f41 : Addr} {od41 an41 : Option Addr} {sl41 : Array (Option Value)} {oc41 kV41 dc41 pm41 cd41 ct41 : Value}
    {f42 : Addr} {od42 an42 : Option Addr} {sl42 : Array (Option Value)} {oc42 kV42 dc42 pm42 cd42 ct42 : Value}
    {f43 : Addr} {od43 an43 : Option Addr} {sl43 : Array (Option Value)} {oc43 kV43 dc43 pm43 cd43 ct43 : Value}
    {f44 : Addr} {od44 an44 : Option Addr} {sl44 : Array (Option Value)} {oc44 kV44 dc44 pm44 cd44 ct44 : Value}
    {f45 : Addr} {od45 an45 : Option Addr} {sl45 : Array (Option Value)} {oc45 kV45 dc45 pm45 cd45 ct45 : Value}
    {f46 : Addr} {od46 an46 : Option Addr} {sl46 : Array (Option Value)} {oc46 kV46 dc46 pm46 cd46 ct46 : Value}
    {f47 : Addr} {od47 an47 : Option Addr} {sl47 : Array (Option Value)} {oc47 kV47 dc47 pm47 cd47 ct47 : Value}
    {f48 : Addr} {od48 an48 : Option Addr} {sl48 : Array (Option Value)} {oc48 kV48 dc48 pm48 cd48 ct48 : Value}
    {f49 : Addr} {od49 an49 : Option Addr} {sl49 : Array (Option Value)} {oc49 kV49 dc49 pm49 cd49 ct49 : Value}
    {f50 : Addr} {od50 an50 : Option Addr} {sl50 : Array (Option Value)} {oc50 kV50 dc50 pm50 cd50 ct50 : Value}
    {f51 : Addr} {od51 an51 : Option Addr} {sl51 : Array (Option Value)} {oc51 kV51 dc51 pm51 cd51 ct51 : Value}
    {f52 : Addr} {od52 an52 : Option Addr} {sl52 : Array (Option Value)} {oc52 kV52 dc52 pm52 cd52 ct52 : Value}
    {f53 : Addr} {od53 an53 : Option Addr} {sl53 : Array (Option Value)} {oc53 kV53 dc53 pm53 cd53 ct53 : Value}
    {f54 : Addr} {od54 an54 : Option Addr} {sl54 : Array (Option Value)} {oc54 kV54 dc54 pm54 cd54 ct54 : Value}
    {f55 : Addr} {od55 an55 : Option Addr} {sl55 : Array (Option Value)} {oc55 kV55 dc55 pm55 cd55 ct55 : Value}
    {f56 : Addr} {od56 an56 : Option Addr} {sl56 : Array (Option Value)} {oc56 kV56 dc56 pm56 cd56 ct56 : Value}
    {f57 : Addr} {od57 an57 : Option Addr} {sl57 : Array (Option Value)} {oc57 kV57 dc57 pm57 cd57 ct57 : Value}
    {f58 : Addr} {od58 an58 : Option Addr} {sl58 : Array (Option Value)} {oc58 kV58 dc58 pm58 cd58 ct58 : Value}
    {f59 : Addr} {od59 an59 : Option Addr} {sl59 : Array (Option Value)} {oc59 kV59 dc59 pm59 cd59 ct59 : Value}
    {f60 : Addr} {od60 an60 : Option Addr} {sl60 : Array (Option Value)} {oc60 kV60 dc60 pm60 cd60 ct60 : Value}
    {f61 : Addr} {od61 an61 : Option Addr} {sl61 : Array (Option Value)} {oc61 kV61 dc61 pm61 cd61 ct61 : Value}
    {f62 : Addr} {od62 an62 : Option Addr} {sl62 : Array (Option Value)} {oc62 kV62 dc62 pm62 cd62 ct62 : Value}
    {f63 : Addr} {od63 an63 : Option Addr} {sl63 : Array (Option Value)} {oc63 kV63 dc63 pm63 cd63 ct63 : Value}
    {f64 : Addr} {od64 an64 : Option Addr} {sl64 : Array (Option Value)} {oc64 kV64 dc64 pm64 cd64 ct64 : Value}
    {f65 : Addr} {od65 an65 : Option Addr} {sl65 : Array (Option Value)} {oc65 kV65 dc65 pm65 cd65 ct65 : Value}
    {f66 : Addr} {od66 an66 : Option Addr} {sl66 : Array (Option Value)} {oc66 kV66 dc66 pm66 cd66 ct66 : Value}
    {f67 : Addr} {od67 an67 : Option Addr} {sl67 : Array (Option Value)} {oc67 kV67 dc67 pm67 cd67 ct67 : Value}
    {t_NAME_MOST : Tok}
    {t_HOURS_MOST : Tok}
    {t_DEPTH_MOST : Tok}
    {t_GROWTH_MOST : Tok}
    {t_THICK_MOST : Tok}
    {t_HOUR_MOST : Tok}
    {t_STRENGTH_MOST : Tok}
    {t_CUT_MOST : Tok}
    {t_BEGIN_MOST : Tok}
    {t_PORTS_MOST : Tok}
    {t_CHANNELS_MOST : Tok}
    {t_BREAKERS_MOST : Tok}
    {t_SHIPS_MOST : Tok}
    {C_IceError : Addr}
    {C_NoName : Addr}
    {nm_NoName q_NoName : Str} {N_NoName : Addr} {bs_NoName bm_NoName : List Value} {sn_NoName : List Str} {su_NoName : List Value} {ab_NoName : Bool} {co_NoName : Option Bool} {dd_NoName : Option Addr} {m0_NoName m1_NoName m2_NoName m3_NoName m5_NoName : Option Value}
    {C_NoNumber : Addr}
    {nm_NoNumber q_NoNumber : Str} {N_NoNumber : Addr} {bs_NoNumber bm_NoNumber : List Value} {sn_NoNumber : List Str} {su_NoNumber : List Value} {ab_NoNumber : Bool} {co_NoNumber : Option Bool} {dd_NoNumber : Option Addr} {m0_NoNumber m1_NoNumber m2_NoNumber m3_NoNumber m5_NoNumber : Option Value}
    {C_Doubled : Addr}
    {nm_Doubled q_Doubled : Str} {N_Doubled : Addr} {bs_Doubled bm_Doubled : List Value} {sn_Doubled : List Str} {su_Doubled : List Value} {ab_Doubled : Bool} {co_Doubled : Option Bool} {dd_Doubled : Option Addr} {m0_Doubled m1_Doubled m2_Doubled m3_Doubled m5_Doubled : Option Value}
    {C_NoPort : Addr}
    {nm_NoPort q_NoPort : Str} {N_NoPort : Addr} {bs_NoPort bm_NoPort : List Value} {sn_NoPort : List Str} {su_NoPort : List Value} {ab_NoPort : Bool} {co_NoPort : Option Bool} {dd_NoPort : Option Addr} {m0_NoPort m1_NoPort m2_NoPort m3_NoPort m5_NoPort : Option Value}
    {C_NoChannel : Addr}
    {nm_NoChannel q_NoChannel : Str} {N_NoChannel : Addr} {bs_NoChannel bm_NoChannel : List Value} {sn_NoChannel : List Str} {su_NoChannel : List Value} {ab_NoChannel : Bool} {co_NoChannel : Option Bool} {dd_NoChannel : Option Addr} {m0_NoChannel m1_NoChannel m2_NoChannel m3_NoChannel m5_NoChannel : Option Value}
    {C_NoVessel : Addr}
    {nm_NoVessel q_NoVessel : Str} {N_NoVessel : Addr} {bs_NoVessel bm_NoVessel : List Value} {sn_NoVessel : List Str} {su_NoVessel : List Value} {ab_NoVessel : Bool} {co_NoVessel : Option Bool} {dd_NoVessel : Option Addr} {m0_NoVessel m1_NoVessel m2_NoVessel m3_NoVessel m5_NoVessel : Option Value}
    {C_NoKind : Addr}
    {nm_NoKind q_NoKind : Str} {N_NoKind : Addr} {bs_NoKind bm_NoKind : List Value} {sn_NoKind : List Str} {su_NoKind : List Value} {ab_NoKind : Bool} {co_NoKind : Option Bool} {dd_NoKind : Option Addr} {m0_NoKind m1_NoKind m2_NoKind m3_NoKind m5_NoKind : Option Value}
    {C_NoWorld : Addr}
    {nm_NoWorld q_NoWorld : Str} {N_NoWorld : Addr} {bs_NoWorld bm_NoWorld : List Value} {sn_NoWorld : List Str} {su_NoWorld : List Value} {ab_NoWorld : Bool} {co_NoWorld : Option Bool} {dd_NoWorld : Option Addr} {m0_NoWorld m1_NoWorld m2_NoWorld m3_NoWorld m5_NoWorld : Option Value}
    {C_Channel : Addr}
    {C_Vessel : Addr}
    {C_Breaker : Addr}
    {C_Ship : Addr}
    {C_World : Addr}
    (g_IceError : PySem.W.nsIn K mainGlobals "IceError" = some (some (.ref C_IceError)))
    (sp_IceError : PySem.W.specialIn K (.ref C_IceError) "__getattribute__" = some (some (.builtin "type.__getattribute__")))
    (ty_IceError : PySem.W.typeIn K (.ref C_IceError) = some (.type "type"))
    (rd_IceError : PySem.W.readsIn K C_IceError (.type "type") = true)
    (fc_IceError : PySem.W.findCls K (.ref C_IceError) (.type "type") "__init__" = some (.val (.builtin "ValueError.__init__")))
    (g_NoName : PySem.W.nsIn K mainGlobals "NoName" = some (some (.ref C_NoName)))
    (xl_NoName : K.lookup C_NoName = some (excClassObj nm_NoName q_NoName C_NoName N_NoName bs_NoName bm_NoName true sn_NoName su_NoName ab_NoName co_NoName dd_NoName m0_NoName m1_NoName m2_NoName m3_NoName m5_NoName "ValueError.__new__"))
    (hb_NoName : PySem.HandSPX.refsVE bm_NoName = true)
    (sa_NoName : PySem.W.findIn K (.ref C_NoName) "__setattr__" = some (some (.builtin "object.__setattr__")))
    (ec_NoName : PySem.W.subIn K (.ref C_NoName) (.type "BaseException") = some true)
    (tc_NoName : PySem.W.typeIn K (.ref C_NoName) = some (.type "type"))
    (kc_NoName : PySem.W.keepIn K (.ref C_NoName) = true)
    (ga_NoName : PySem.W.findIn K (.ref C_NoName) "__getattribute__" = some (some (.builtin "BaseException.__getattribute__")))
    (gg_NoName : PySem.W.findIn K (.ref C_NoName) "__getattr__" = some none)
    (hd_NoName : PySem.W.hasDictIn K C_NoName = true)
    (in_NoName : PySem.W.findIn K (.ref C_NoName) "__init__" = some (some (.ref f36)))
    (tf_NoName : PySem.W.typeIn K (.ref f36) = some (.type "function"))
    (nf_NoName_found : PySem.W.findIn K (.ref C_NoName) "found" = some none)
    (g_NoNumber : PySem.W.nsIn K mainGlobals "NoNumber" = some (some (.ref C_NoNumber)))
    (xl_NoNumber : K.lookup C_NoNumber = some (excClassObj nm_NoNumber q_NoNumber C_NoNumber N_NoNumber bs_NoNumber bm_NoNumber true sn_NoNumber su_NoNumber ab_NoNumber co_NoNumber dd_NoNumber m0_NoNumber m1_NoNumber m2_NoNumber m3_NoNumber m5_NoNumber "ValueError.__new__"))
    (hb_NoNumber : PySem.HandSPX.refsVE bm_NoNumber = true)
    (sa_NoNumber : PySem.W.findIn K (.ref C_NoNumber) "__setattr__" = some (some (.builtin "object.__setattr__")))
    (ec_NoNumber : PySem.W.subIn K (.ref C_NoNumber) (.type "BaseException") = some true)
    (tc_NoNumber : PySem.W.typeIn K (.ref C_NoNumber) = some (.type "type"))
    (kc_NoNumber : PySem.W.keepIn K (.ref C_NoNumber) = true)
    (ga_NoNumber : PySem.W.findIn K (.ref C_NoNumber) "__getattribute__" = some (some (.builtin "BaseException.__getattribute__")))
    (gg_NoNumber : PySem.W.findIn K (.ref C_NoNumber) "__getattr__" = some none)
    (hd_NoNumber : PySem.W.hasDictIn K C_NoNumber = true)
    (in_NoNumber : PySem.W.findIn K (.ref C_NoNumber) "__init__" = some (some (.ref f37)))
    (tf_NoNumber : PySem.W.typeIn K (.ref f37) = some (.type "function"))
    (nf_NoNumber_found : PySem.W.findIn K (.ref C_NoNumber) "found" = some none)
    (g_Doubled : PySem.W.nsIn K mainGlobals "Doubled" = some (some (.ref C_Doubled)))
    (xl_Doubled : K.lookup C_Doubled = some (excClassObj nm_Doubled q_Doubled C_Doubled N_Doubled bs_Doubled bm_Doubled true sn_Doubled su_Doubled ab_Doubled co_Doubled dd_Doubled m0_Doubled m1_Doubled m2_Doubled m3_Doubled m5_Doubled "ValueError.__new__"))
    (hb_Doubled : PySem.HandSPX.refsVE bm_Doubled = true)
    (sa_Doubled : PySem.W.findIn K (.ref C_Doubled) "__setattr__" = some (some (.builtin "object.__setattr__")))
    (ec_Doubled : PySem.W.subIn K (.ref C_Doubled) (.type "BaseException") = some true)
    (tc_Doubled : PySem.W.typeIn K (.ref C_Doubled) = some (.type "type"))
    (kc_Doubled : PySem.W.keepIn K (.ref C_Doubled) = true)
    (ga_Doubled : PySem.W.findIn K (.ref C_Doubled) "__getattribute__" = some (some (.builtin "BaseException.__getattribute__")))
    (gg_Doubled : PySem.W.findIn K (.ref C_Doubled) "__getattr__" = some none)
    (hd_Doubled : PySem.W.hasDictIn K C_Doubled = true)
    (in_Doubled : PySem.W.findIn K (.ref C_Doubled) "__init__" = some (some (.ref f38)))
    (tf_Doubled : PySem.W.typeIn K (.ref f38) = some (.type "function"))
    (nf_Doubled_name : PySem.W.findIn K (.ref C_Doubled) "name" = some none)
    (g_NoPort : PySem.W.nsIn K mainGlobals "NoPort" = some (some (.ref C_NoPort)))
    (xl_NoPort : K.lookup C_NoPort = some (excClassObj nm_NoPort q_NoPort C_NoPort N_NoPort bs_NoPort bm_NoPort true sn_NoPort su_NoPort ab_NoPort co_NoPort dd_NoPort m0_NoPort m1_NoPort m2_NoPort m3_NoPort m5_NoPort "ValueError.__new__"))
    (hb_NoPort : PySem.HandSPX.refsVE bm_NoPort = true)
    (sa_NoPort : PySem.W.findIn K (.ref C_NoPort) "__setattr__" = some (some (.builtin "object.__setattr__")))
    (ec_NoPort : PySem.W.subIn K (.ref C_NoPort) (.type "BaseException") = some true)
    (tc_NoPort : PySem.W.typeIn K (.ref C_NoPort) = some (.type "type"))
    (kc_NoPort : PySem.W.keepIn K (.ref C_NoPort) = true)
    (ga_NoPort : PySem.W.findIn K (.ref C_NoPort) "__getattribute__" = some (some (.builtin "BaseException.__getattribute__")))
    (gg_NoPort : PySem.W.findIn K (.ref C_NoPort) "__getattr__" = some none)
    (hd_NoPort : PySem.W.hasDictIn K C_NoPort = true)
    (in_NoPort : PySem.W.findIn K (.ref C_NoPort) "__init__" = some (some (.ref f39)))
    (tf_NoPort : PySem.W.typeIn K (.ref f39) = some (.type "function"))
    (nf_NoPort_found : PySem.W.findIn K (.ref C_NoPort) "found" = some none)
    (g_NoChannel : PySem.W.nsIn K mainGlobals "NoChannel" = some (some (.ref C_NoChannel)))
    (xl_NoChannel : K.lookup C_NoChannel = some (excClassObj nm_NoChannel q_NoChannel C_NoChannel N_NoChannel bs_NoChannel bm_NoChannel true sn_NoChannel su_NoChannel ab_NoChannel co_NoChannel dd_NoChannel m0_NoChannel m1_NoChannel m2_NoChannel m3_NoChannel m5_NoChannel "ValueError.__new__"))
    (hb_NoChannel : PySem.HandSPX.refsVE bm_NoChannel = true)
    (sa_NoChannel : PySem.W.findIn K (.ref C_NoChannel) "__setattr__" = some (some (.builtin "object.__setattr__")))
    (ec_NoChannel : PySem.W.subIn K (.ref C_NoChannel) (.type "BaseException") = some true)
    (tc_NoChannel : PySem.W.typeIn K (.ref C_NoChannel) = some (.type "type"))
    (kc_NoChannel : PySem.W.keepIn K (.ref C_NoChannel) = true)
    (ga_NoChannel : PySem.W.findIn K (.ref C_NoChannel) "__getattribute__" = some (some (.builtin "BaseException.__getattribute__")))
    (gg_NoChannel : PySem.W.findIn K (.ref C_NoChannel) "__getattr__" = some none)
    (hd_NoChannel : PySem.W.hasDictIn K C_NoChannel = true)
    (in_NoChannel : PySem.W.findIn K (.ref C_NoChannel) "__init__" = some (some (.ref f40)))
    (tf_NoChannel : PySem.W.typeIn K (.ref f40) = some (.type "function"))
    (nf_NoChannel_found : PySem.W.findIn K (.ref C_NoChannel) "found" = some none)
    (g_NoVessel : PySem.W.nsIn K mainGlobals "NoVessel" = some (some (.ref C_NoVessel)))
    (xl_NoVessel : K.lookup C_NoVessel = some (excClassObj nm_NoVessel q_NoVessel C_NoVessel N_NoVessel bs_NoVessel bm_NoVessel true sn_NoVessel su_NoVessel ab_NoVessel co_NoVessel dd_NoVessel m0_NoVessel m1_NoVessel m2_NoVessel m3_NoVessel m5_NoVessel "ValueError.__new__"))
    (hb_NoVessel : PySem.HandSPX.refsVE bm_NoVessel = true)
    (sa_NoVessel : PySem.W.findIn K (.ref C_NoVessel) "__setattr__" = some (some (.builtin "object.__setattr__")))
    (ec_NoVessel : PySem.W.subIn K (.ref C_NoVessel) (.type "BaseException") = some true)
    (tc_NoVessel : PySem.W.typeIn K (.ref C_NoVessel) = some (.type "type"))
    (kc_NoVessel : PySem.W.keepIn K (.ref C_NoVessel) = true)
    (ga_NoVessel : PySem.W.findIn K (.ref C_NoVessel) "__getattribute__" = some (some (.builtin "BaseException.__getattribute__")))
    (gg_NoVessel : PySem.W.findIn K (.ref C_NoVessel) "__getattr__" = some none)
    (hd_NoVessel : PySem.W.hasDictIn K C_NoVessel = true)
    (in_NoVessel : PySem.W.findIn K (.ref C_NoVessel) "__init__" = some (some (.ref f41)))
    (tf_NoVessel : PySem.W.typeIn K (.ref f41) = some (.type "function"))
    (nf_NoVessel_found : PySem.W.findIn K (.ref C_NoVessel) "found" = some none)
    (g_NoKind : PySem.W.nsIn K mainGlobals "NoKind" = some (some (.ref C_NoKind)))
    (xl_NoKind : K.lookup C_NoKind = some (excClassObj nm_NoKind q_NoKind C_NoKind N_NoKind bs_NoKind bm_NoKind true sn_NoKind su_NoKind ab_NoKind co_NoKind dd_NoKind m0_NoKind m1_NoKind m2_NoKind m3_NoKind m5_NoKind "ValueError.__new__"))
    (hb_NoKind : PySem.HandSPX.refsVE bm_NoKind = true)
    (sa_NoKind : PySem.W.findIn K (.ref C_NoKind) "__setattr__" = some (some (.builtin "object.__setattr__")))
    (ec_NoKind : PySem.W.subIn K (.ref C_NoKind) (.type "BaseException") = some true)
    (tc_NoKind : PySem.W.typeIn K (.ref C_NoKind) = some (.type "type"))
    (kc_NoKind : PySem.W.keepIn K (.ref C_NoKind) = true)
    (ga_NoKind : PySem.W.findIn K (.ref C_NoKind) "__getattribute__" = some (some (.builtin "BaseException.__getattribute__")))
    (gg_NoKind : PySem.W.findIn K (.ref C_NoKind) "__getattr__" = some none)
    (hd_NoKind : PySem.W.hasDictIn K C_NoKind = true)
    (in_NoKind : PySem.W.findIn K (.ref C_NoKind) "__init__" = some (some (.ref f42)))
    (tf_NoKind : PySem.W.typeIn K (.ref f42) = some (.type "function"))
    (nf_NoKind_found : PySem.W.findIn K (.ref C_NoKind) "found" = some none)
    (g_NoWorld : PySem.W.nsIn K mainGlobals "NoWorld" = some (some (.ref C_NoWorld)))
    (xl_NoWorld : K.lookup C_NoWorld = some (excClassObj nm_NoWorld q_NoWorld C_NoWorld N_NoWorld bs_NoWorld bm_NoWorld true sn_NoWorld su_NoWorld ab_NoWorld co_NoWorld dd_NoWorld m0_NoWorld m1_NoWorld m2_NoWorld m3_NoWorld m5_NoWorld "ValueError.__new__"))
    (hb_NoWorld : PySem.HandSPX.refsVE bm_NoWorld = true)
    (sa_NoWorld : PySem.W.findIn K (.ref C_NoWorld) "__setattr__" = some (some (.builtin "object.__setattr__")))
    (ec_NoWorld : PySem.W.subIn K (.ref C_NoWorld) (.type "BaseException") = some true)
    (tc_NoWorld : PySem.W.typeIn K (.ref C_NoWorld) = some (.type "type"))
    (kc_NoWorld : PySem.W.keepIn K (.ref C_NoWorld) = true)
    (ga_NoWorld : PySem.W.findIn K (.ref C_NoWorld) "__getattribute__" = some (some (.builtin "BaseException.__getattribute__")))
    (gg_NoWorld : PySem.W.findIn K (.ref C_NoWorld) "__getattr__" = some none)
    (hd_NoWorld : PySem.W.hasDictIn K C_NoWorld = true)
    (in_NoWorld : PySem.W.findIn K (.ref C_NoWorld) "__init__" = some (some (.ref f43)))
    (tf_NoWorld : PySem.W.typeIn K (.ref f43) = some (.type "function"))
    (nf_NoWorld_found : PySem.W.findIn K (.ref C_NoWorld) "found" = some none)
    (g_Channel : PySem.W.nsIn K mainGlobals "Channel" = some (some (.ref C_Channel)))
    (pg_Channel : PySem.W.plainGet K C_Channel Str.empty = true)
    (hd_Channel : PySem.W.hasDictIn K C_Channel = true)
    (po_Channel : PySem.W.plainOver K C_Channel = true)
    (sa_Channel : PySem.W.findIn K (.ref C_Channel) "__setattr__" = some (some (.builtin "object.__setattr__")))
    (mk_Channel : PySem.W.makesIn K C_Channel = true)
    (in_Channel : PySem.W.findIn K (.ref C_Channel) "__init__" = some (some (.ref f44)))
    (if_Channel : PySem.W.isFn K (.ref f44) = true)
    (kc_Channel : PySem.W.keepIn K (.ref C_Channel) = true)
    (na_Channel_name : PySem.W.findIn K (.ref C_Channel) "name" = some none)
    (na_Channel_one : PySem.W.findIn K (.ref C_Channel) "one" = some none)
    (na_Channel_other : PySem.W.findIn K (.ref C_Channel) "other" = some none)
    (na_Channel_hours : PySem.W.findIn K (.ref C_Channel) "hours" = some none)
    (na_Channel_depth : PySem.W.findIn K (.ref C_Channel) "depth" = some none)
    (na_Channel_first : PySem.W.findIn K (.ref C_Channel) "first" = some none)
    (na_Channel_growth : PySem.W.findIn K (.ref C_Channel) "growth" = some none)
    (na_Channel_most : PySem.W.findIn K (.ref C_Channel) "most" = some none)
    (me_Channel_ends : PySem.W.findIn K (.ref C_Channel) "ends" = some (some (.ref f45)))
    (mi_Channel_ends : PySem.W.isFn K (.ref f45) = true)
    (me_Channel_row : PySem.W.findIn K (.ref C_Channel) "row" = some (some (.ref f46)))
    (mi_Channel_row : PySem.W.isFn K (.ref f46) = true)
    (g_Vessel : PySem.W.nsIn K mainGlobals "Vessel" = some (some (.ref C_Vessel)))
    (pg_Vessel : PySem.W.plainGet K C_Vessel Str.empty = true)
    (hd_Vessel : PySem.W.hasDictIn K C_Vessel = true)
    (po_Vessel : PySem.W.plainOver K C_Vessel = true)
    (sa_Vessel : PySem.W.findIn K (.ref C_Vessel) "__setattr__" = some (some (.builtin "object.__setattr__")))
    (mk_Vessel : PySem.W.makesIn K C_Vessel = true)
    (in_Vessel : PySem.W.findIn K (.ref C_Vessel) "__init__" = some (some (.ref f47)))
    (if_Vessel : PySem.W.isFn K (.ref f47) = true)
    (kc_Vessel : PySem.W.keepIn K (.ref C_Vessel) = true)
    (ks_Vessel : PySem.W.specialIn K (.ref C_Vessel) "__getattribute__" = some (some (.builtin "type.__getattribute__")))
    (kt_Vessel : PySem.W.typeIn K (.ref C_Vessel) = some (.type "type"))
    (kr_Vessel : PySem.W.readsIn K C_Vessel (.type "type") = true)
    (kf_Vessel : PySem.W.findCls K (.ref C_Vessel) (.type "type") "__init__" = some (.val (.ref f47)))
    (na_Vessel_name : PySem.W.findIn K (.ref C_Vessel) "name" = some none)
    (na_Vessel_port : PySem.W.findIn K (.ref C_Vessel) "port" = some none)
    (na_Vessel_hour : PySem.W.findIn K (.ref C_Vessel) "hour" = some none)
    (na_Vessel_strength : PySem.W.findIn K (.ref C_Vessel) "strength" = some none)
    (na_Vessel_draught : PySem.W.findIn K (.ref C_Vessel) "draught" = some none)
    (me_Vessel_kind : PySem.W.findIn K (.ref C_Vessel) "kind" = some (some (.ref f48)))
    (mi_Vessel_kind : PySem.W.isFn K (.ref f48) = true)
    (me_Vessel_thins : PySem.W.findIn K (.ref C_Vessel) "thins" = some (some (.ref f49)))
    (mi_Vessel_thins : PySem.W.isFn K (.ref f49) = true)
    (me_Vessel_row : PySem.W.findIn K (.ref C_Vessel) "row" = some (some (.ref f50)))
    (mi_Vessel_row : PySem.W.isFn K (.ref f50) = true)
    (g_Breaker : PySem.W.nsIn K mainGlobals "Breaker" = some (some (.ref C_Breaker)))
    (pg_Breaker : PySem.W.plainGet K C_Breaker Str.empty = true)
    (hd_Breaker : PySem.W.hasDictIn K C_Breaker = true)
    (po_Breaker : PySem.W.plainOver K C_Breaker = true)
    (sa_Breaker : PySem.W.findIn K (.ref C_Breaker) "__setattr__" = some (some (.builtin "object.__setattr__")))
    (mk_Breaker : PySem.W.makesIn K C_Breaker = true)
    (in_Breaker : PySem.W.findIn K (.ref C_Breaker) "__init__" = some (some (.ref f51)))
    (if_Breaker : PySem.W.isFn K (.ref f51) = true)
    (kc_Breaker : PySem.W.keepIn K (.ref C_Breaker) = true)
    (na_Breaker_name : PySem.W.findIn K (.ref C_Breaker) "name" = some none)
    (na_Breaker_port : PySem.W.findIn K (.ref C_Breaker) "port" = some none)
    (na_Breaker_hour : PySem.W.findIn K (.ref C_Breaker) "hour" = some none)
    (na_Breaker_strength : PySem.W.findIn K (.ref C_Breaker) "strength" = some none)
    (na_Breaker_draught : PySem.W.findIn K (.ref C_Breaker) "draught" = some none)
    (na_Breaker_cut : PySem.W.findIn K (.ref C_Breaker) "cut" = some none)
    (me_Breaker_kind : PySem.W.findIn K (.ref C_Breaker) "kind" = some (some (.ref f52)))
    (mi_Breaker_kind : PySem.W.isFn K (.ref f52) = true)
    (me_Breaker_thins : PySem.W.findIn K (.ref C_Breaker) "thins" = some (some (.ref f53)))
    (mi_Breaker_thins : PySem.W.isFn K (.ref f53) = true)
    (me_Breaker_row : PySem.W.findIn K (.ref C_Breaker) "row" = some (some (.ref f54)))
    (mi_Breaker_row : PySem.W.isFn K (.ref f54) = true)
    (g_Ship : PySem.W.nsIn K mainGlobals "Ship" = some (some (.ref C_Ship)))
    (pg_Ship : PySem.W.plainGet K C_Ship Str.empty = true)
    (hd_Ship : PySem.W.hasDictIn K C_Ship = true)
    (po_Ship : PySem.W.plainOver K C_Ship = true)
    (sa_Ship : PySem.W.findIn K (.ref C_Ship) "__setattr__" = some (some (.builtin "object.__setattr__")))
    (mk_Ship : PySem.W.makesIn K C_Ship = true)
    (in_Ship : PySem.W.findIn K (.ref C_Ship) "__init__" = some (some (.ref f55)))
    (if_Ship : PySem.W.isFn K (.ref f55) = true)
    (kc_Ship : PySem.W.keepIn K (.ref C_Ship) = true)
    (na_Ship_name : PySem.W.findIn K (.ref C_Ship) "name" = some none)
    (na_Ship_port : PySem.W.findIn K (.ref C_Ship) "port" = some none)
    (na_Ship_hour : PySem.W.findIn K (.ref C_Ship) "hour" = some none)
    (na_Ship_strength : PySem.W.findIn K (.ref C_Ship) "strength" = some none)
    (na_Ship_draught : PySem.W.findIn K (.ref C_Ship) "draught" = some none)
    (na_Ship_goal : PySem.W.findIn K (.ref C_Ship) "goal" = some none)
    (me_Ship_kind : PySem.W.findIn K (.ref C_Ship) "kind" = some (some (.ref f56)))
    (mi_Ship_kind : PySem.W.isFn K (.ref f56) = true)
    (me_Ship_row : PySem.W.findIn K (.ref C_Ship) "row" = some (some (.ref f57)))
    (mi_Ship_row : PySem.W.isFn K (.ref f57) = true)
    (me_Ship_thins : PySem.W.findIn K (.ref C_Ship) "thins" = some (some (.ref f49)))
    (mi_Ship_thins : PySem.W.isFn K (.ref f49) = true)
    (g_World : PySem.W.nsIn K mainGlobals "World" = some (some (.ref C_World)))
    (pg_World : PySem.W.plainGet K C_World Str.empty = true)
    (hd_World : PySem.W.hasDictIn K C_World = true)
    (po_World : PySem.W.plainOver K C_World = true)
    (sa_World : PySem.W.findIn K (.ref C_World) "__setattr__" = some (some (.builtin "object.__setattr__")))
    (mk_World : PySem.W.makesIn K C_World = true)
    (in_World : PySem.W.findIn K (.ref C_World) "__init__" = some (some (.ref f58)))
    (if_World : PySem.W.isFn K (.ref f58) = true)
    (kc_World : PySem.W.keepIn K (.ref C_World) = true)
    (na_World__begin : PySem.W.findIn K (.ref C_World) "_begin" = some none)
    (na_World__ports : PySem.W.findIn K (.ref C_World) "_ports" = some none)
    (na_World__channels : PySem.W.findIn K (.ref C_World) "_channels" = some none)
    (na_World__breakers : PySem.W.findIn K (.ref C_World) "_breakers" = some none)
    (na_World__ships : PySem.W.findIn K (.ref C_World) "_ships" = some none)
    (na_World__channel_of : PySem.W.findIn K (.ref C_World) "_channel_of" = some none)
    (na_World__vessel_of : PySem.W.findIn K (.ref C_World) "_vessel_of" = some none)
    (me_World_begin_hour : PySem.W.findIn K (.ref C_World) "begin_hour" = some (some (.ref f59)))
    (mi_World_begin_hour : PySem.W.isFn K (.ref f59) = true)
    (me_World_ports : PySem.W.findIn K (.ref C_World) "ports" = some (some (.ref f60)))
    (mi_World_ports : PySem.W.isFn K (.ref f60) = true)
    (me_World_channels : PySem.W.findIn K (.ref C_World) "channels" = some (some (.ref f61)))
    (mi_World_channels : PySem.W.isFn K (.ref f61) = true)
    (me_World_breakers : PySem.W.findIn K (.ref C_World) "breakers" = some (some (.ref f62)))
    (mi_World_breakers : PySem.W.isFn K (.ref f62) = true)
    (me_World_ships : PySem.W.findIn K (.ref C_World) "ships" = some (some (.ref f63)))
    (mi_World_ships : PySem.W.isFn K (.ref f63) = true)
    (me_World_vessels : PySem.W.findIn K (.ref C_World) "vessels" = some (some (.ref f64)))
    (mi_World_vessels : PySem.W.isFn K (.ref f64) = true)
    (me_World_channel : PySem.W.findIn K (.ref C_World) "channel" = some (some (.ref f65)))
    (mi_World_channel : PySem.W.isFn K (.ref f65) = true)
    (me_World_vessel : PySem.W.findIn K (.ref C_World) "vessel" = some (some (.ref f66)))
    (mi_World_vessel : PySem.W.isFn K (.ref f66) = true)
    (me_World_told : PySem.W.findIn K (.ref C_World) "told" = some (some (.ref f67)))
    (mi_World_told : PySem.W.isFn K (.ref f67) = true)
    (ex_NoName_NoWorld : PySem.W.exmOne K (.ref C_NoName) (.ref C_NoWorld) = some false)
    (ex_NoName_Doubled : PySem.W.exmOne K (.ref C_NoName) (.ref C_Doubled) = some false)
    (ex_NoName_NoPort : PySem.W.exmOne K (.ref C_NoName) (.ref C_NoPort) = some false)
    (ex_NoName_IceError : PySem.W.exmOne K (.ref C_NoName) (.ref C_IceError) = some true)
    (ex_NoNumber_NoWorld : PySem.W.exmOne K (.ref C_NoNumber) (.ref C_NoWorld) = some false)
    (ex_NoNumber_Doubled : PySem.W.exmOne K (.ref C_NoNumber) (.ref C_Doubled) = some false)
    (ex_NoNumber_NoPort : PySem.W.exmOne K (.ref C_NoNumber) (.ref C_NoPort) = some false)
    (ex_NoNumber_IceError : PySem.W.exmOne K (.ref C_NoNumber) (.ref C_IceError) = some true)
    (ex_Doubled_NoWorld : PySem.W.exmOne K (.ref C_Doubled) (.ref C_NoWorld) = some false)
    (ex_Doubled_Doubled : PySem.W.exmOne K (.ref C_Doubled) (.ref C_Doubled) = some true)
    (ex_Doubled_NoPort : PySem.W.exmOne K (.ref C_Doubled) (.ref C_NoPort) = some false)
    (ex_Doubled_IceError : PySem.W.exmOne K (.ref C_Doubled) (.ref C_IceError) = some true)
    (ex_NoPort_NoWorld : PySem.W.exmOne K (.ref C_NoPort) (.ref C_NoWorld) = some false)
    (ex_NoPort_Doubled : PySem.W.exmOne K (.ref C_NoPort) (.ref C_Doubled) = some false)
    (ex_NoPort_NoPort : PySem.W.exmOne K (.ref C_NoPort) (.ref C_NoPort) = some true)
    (ex_NoPort_IceError : PySem.W.exmOne K (.ref C_NoPort) (.ref C_IceError) = some true)
    (ex_NoChannel_NoWorld : PySem.W.exmOne K (.ref C_NoChannel) (.ref C_NoWorld) = some false)
    (ex_NoChannel_Doubled : PySem.W.exmOne K (.ref C_NoChannel) (.ref C_Doubled) = some false)
    (ex_NoChannel_NoPort : PySem.W.exmOne K (.ref C_NoChannel) (.ref C_NoPort) = some false)
    (ex_NoChannel_IceError : PySem.W.exmOne K (.ref C_NoChannel) (.ref C_IceError) = some true)
    (ex_NoVessel_NoWorld : PySem.W.exmOne K (.ref C_NoVessel) (.ref C_NoWorld) = some false)
    (ex_NoVessel_Doubled : PySem.W.exmOne K (.ref C_NoVessel) (.ref C_Doubled) = some false)
    (ex_NoVessel_NoPort : PySem.W.exmOne K (.ref C_NoVessel) (.ref C_NoPort) = some false)
    (ex_NoVessel_IceError : PySem.W.exmOne K (.ref C_NoVessel) (.ref C_IceError) = some true)
    (ex_NoKind_NoWorld : PySem.W.exmOne K (.ref C_NoKind) (.ref C_NoWorld) = some false)
    (ex_NoKind_Doubled : PySem.W.exmOne K (.ref C_NoKind) (.ref C_Doubled) = some false)
    (ex_NoKind_NoPort : PySem.W.exmOne K (.ref C_NoKind) (.ref C_NoPort) = some false)
    (ex_NoKind_IceError : PySem.W.exmOne K (.ref C_NoKind) (.ref C_IceError) = some true)
    (ex_NoWorld_NoWorld : PySem.W.exmOne K (.ref C_NoWorld) (.ref C_NoWorld) = some true)
    (ex_NoWorld_Doubled : PySem.W.exmOne K (.ref C_NoWorld) (.ref C_Doubled) = some false)
    (ex_NoWorld_NoPort : PySem.W.exmOne K (.ref C_NoWorld) (.ref C_NoPort) = some false)
    (ex_NoWorld_IceError : PySem.W.exmOne K (.ref C_NoWorld) (.ref C_IceError) = some true)
    (sgc : PySem.W.specialIn K (.builtin "object.__class__") "__get__" = some (some (.builtin "getset_descriptor.__get__")))
    (tkc : PySem.W.takesIn K (.builtin "object.__class__") = some true)
    (ca_Channel : PySem.W.findIn K (.ref C_Channel) "__class__" = some (some (.builtin "object.__class__")))
    (mo_Channel : PySem.W.mroIn K C_Channel (.type "object") = some true)
    (io_Channel_Channel : PySem.W.kitOne K (.ref C_Channel) (.ref C_Channel) = some true)
    (io_Channel_Breaker : PySem.W.kitOne K (.ref C_Channel) (.ref C_Breaker) = some false)
    (io_Channel_Ship : PySem.W.kitOne K (.ref C_Channel) (.ref C_Ship) = some false)
    (ca_Vessel : PySem.W.findIn K (.ref C_Vessel) "__class__" = some (some (.builtin "object.__class__")))
    (mo_Vessel : PySem.W.mroIn K C_Vessel (.type "object") = some true)
    (io_Vessel_Channel : PySem.W.kitOne K (.ref C_Vessel) (.ref C_Channel) = some false)
    (io_Vessel_Breaker : PySem.W.kitOne K (.ref C_Vessel) (.ref C_Breaker) = some false)
    (io_Vessel_Ship : PySem.W.kitOne K (.ref C_Vessel) (.ref C_Ship) = some false)
    (ca_Breaker : PySem.W.findIn K (.ref C_Breaker) "__class__" = some (some (.builtin "object.__class__")))
    (mo_Breaker : PySem.W.mroIn K C_Breaker (.type "object") = some true)
    (io_Breaker_Channel : PySem.W.kitOne K (.ref C_Breaker) (.ref C_Channel) = some false)
    (io_Breaker_Breaker : PySem.W.kitOne K (.ref C_Breaker) (.ref C_Breaker) = some true)
    (io_Breaker_Ship : PySem.W.kitOne K (.ref C_Breaker) (.ref C_Ship) = some false)
    (ca_Ship : PySem.W.findIn K (.ref C_Ship) "__class__" = some (some (.builtin "object.__class__")))
    (mo_Ship : PySem.W.mroIn K C_Ship (.type "object") = some true)
    (io_Ship_Channel : PySem.W.kitOne K (.ref C_Ship) (.ref C_Channel) = some false)
    (io_Ship_Breaker : PySem.W.kitOne K (.ref C_Ship) (.ref C_Breaker) = some false)
    (io_Ship_Ship : PySem.W.kitOne K (.ref C_Ship) (.ref C_Ship) = some true)
    (ca_World : PySem.W.findIn K (.ref C_World) "__class__" = some (some (.builtin "object.__class__")))
    (mo_World : PySem.W.mroIn K C_World (.type "object") = some true)
    (io_World_Channel : PySem.W.kitOne K (.ref C_World) (.ref C_Channel) = some false)
    (io_World_Breaker : PySem.W.kitOne K (.ref C_World) (.ref C_Breaker) = some false)
    (io_World_Ship : PySem.W.kitOne K (.ref C_World) (.ref C_Ship) = some false)
    (io_Channel_list : PySem.W.kitOne K (.ref C_Channel) (.type "list") = some false)
    (io_Channel_tuple : PySem.W.kitOne K (.ref C_Channel) (.type "tuple") = some false)
    (io_Channel_str : PySem.W.kitOne K (.ref C_Channel) (.type "str") = some false)
    (eq_Channel : PySem.W.findIn K (.ref C_Channel) "__eq__" = some (some (.builtin "object.__eq__")))
    (io_Vessel_list : PySem.W.kitOne K (.ref C_Vessel) (.type "list") = some false)
    (io_Vessel_tuple : PySem.W.kitOne K (.ref C_Vessel) (.type "tuple") = some false)
    (io_Vessel_str : PySem.W.kitOne K (.ref C_Vessel) (.type "str") = some false)
    (eq_Vessel : PySem.W.findIn K (.ref C_Vessel) "__eq__" = some (some (.builtin "object.__eq__")))
    (io_Breaker_list : PySem.W.kitOne K (.ref C_Breaker) (.type "list") = some false)
    (io_Breaker_tuple : PySem.W.kitOne K (.ref C_Breaker) (.type "tuple") = some false)
    (io_Breaker_str : PySem.W.kitOne K (.ref C_Breaker) (.type "str") = some false)
    (eq_Breaker : PySem.W.findIn K (.ref C_Breaker) "__eq__" = some (some (.builtin "object.__eq__")))
    (io_Ship_list : PySem.W.kitOne K (.ref C_Ship) (.type "list") = some false)
    (io_Ship_tuple : PySem.W.kitOne K (.ref C_Ship) (.type "tuple") = some false)
    (io_Ship_str : PySem.W.kitOne K (.ref C_Ship) (.type "str") = some false)
    (eq_Ship : PySem.W.findIn K (.ref C_Ship) "__eq__" = some (some (.builtin "object.__eq__")))
    (ne_Ship : PySem.W.findIn K (.ref C_Ship) "__ne__" = some (some (.builtin "object.__ne__")))
    (io_World_list : PySem.W.kitOne K (.ref C_World) (.type "list") = some false)
    (io_World_tuple : PySem.W.kitOne K (.ref C_World) (.type "tuple") = some false)
    (io_World_str : PySem.W.kitOne K (.ref C_World) (.type "str") = some false)
    (eq_World : PySem.W.findIn K (.ref C_World) "__eq__" = some (some (.builtin "object.__eq__")))
    (ib_NoneType_Channel : PySem.W.kitOne K (.type "NoneType") (.ref C_Channel) = some false)
    (ib_NoneType_Breaker : PySem.W.kitOne K (.type "NoneType") (.ref C_Breaker) = some false)
    (ib_NoneType_Ship : PySem.W.kitOne K (.type "NoneType") (.ref C_Ship) = some false)
    (ib_int_Channel : PySem.W.kitOne K (.type "int") (.ref C_Channel) = some false)
    (ib_int_Breaker : PySem.W.kitOne K (.type "int") (.ref C_Breaker) = some false)
    (ib_int_Ship : PySem.W.kitOne K (.type "int") (.ref C_Ship) = some false)
    (ib_str_Channel : PySem.W.kitOne K (.type "str") (.ref C_Channel) = some false)
    (ib_str_Breaker : PySem.W.kitOne K (.type "str") (.ref C_Breaker) = some false)
    (ib_str_Ship : PySem.W.kitOne K (.type "str") (.ref C_Ship) = some false)
    (ib_list_Channel : PySem.W.kitOne K (.type "list") (.ref C_Channel) = some false)
    (ib_list_Breaker : PySem.W.kitOne K (.type "list") (.ref C_Breaker) = some false)
    (ib_list_Ship : PySem.W.kitOne K (.type "list") (.ref C_Ship) = some false)
    (ib_bool_Channel : PySem.W.kitOne K (.type "bool") (.ref C_Channel) = some false)
    (ib_bool_Breaker : PySem.W.kitOne K (.type "bool") (.ref C_Breaker) = some false)
    (ib_bool_Ship : PySem.W.kitOne K (.type "bool") (.ref C_Ship) = some false)
    (ib_dict_Channel : PySem.W.kitOne K (.type "dict") (.ref C_Channel) = some false)
    (ib_dict_Breaker : PySem.W.kitOne K (.type "dict") (.ref C_Breaker) = some false)
    (ib_dict_Ship : PySem.W.kitOne K (.type "dict") (.ref C_Ship) = some false)
    (ib_tuple_Channel : PySem.W.kitOne K (.type "tuple") (.ref C_Channel) = some false)
    (ib_tuple_Breaker : PySem.W.kitOne K (.type "tuple") (.ref C_Breaker) = some false)
    (ib_tuple_Ship : PySem.W.kitOne K (.type "tuple") (.ref C_Ship) = some false)
    (a0 : PySem.W.nsIn K mainGlobals "is_whole" = some (some (.ref f0)))
    (l0 : K.lookup f0 = some ⟨oc0, od0, .func (PySem.W.fnOf "is_whole" "is_whole" (defArgs s_is_whole) (defBody s_is_whole) (defScope s_is_whole) .none kV0 dc0 pm0 an0 cd0 ct0), sl0⟩)
    (p0 : PySem.W.codeIn K cd0 "is_whole" = true)
    (k0 : PySem.W.keepIn K (.ref f0) = true)
    (a1 : PySem.W.nsIn K mainGlobals "is_within" = some (some (.ref f1)))
    (l1 : K.lookup f1 = some ⟨oc1, od1, .func (PySem.W.fnOf "is_within" "is_within" (defArgs s_is_within) (defBody s_is_within) (defScope s_is_within) .none kV1 dc1 pm1 an1 cd1 ct1), sl1⟩)
    (p1 : PySem.W.codeIn K cd1 "is_within" = true)
    (k1 : PySem.W.keepIn K (.ref f1) = true)
    (a2 : PySem.W.nsIn K mainGlobals "is_name" = some (some (.ref f2)))
    (l2 : K.lookup f2 = some ⟨oc2, od2, .func (PySem.W.fnOf "is_name" "is_name" (defArgs s_is_name) (defBody s_is_name) (defScope s_is_name) .none kV2 dc2 pm2 an2 cd2 ct2), sl2⟩)
    (p2 : PySem.W.codeIn K cd2 "is_name" = true)
    (k2 : PySem.W.keepIn K (.ref f2) = true)
    (a3 : PySem.W.nsIn K mainGlobals "_all_between" = some (some (.ref f3)))
    (l3 : K.lookup f3 = some ⟨oc3, od3, .func (PySem.W.fnOf "_all_between" "_all_between" (defArgs s_all_between) (defBody s_all_between) (defScope s_all_between) .none kV3 dc3 pm3 an3 cd3 ct3), sl3⟩)
    (p3 : PySem.W.codeIn K cd3 "_all_between" = true)
    (k3 : PySem.W.keepIn K (.ref f3) = true)
    (a4 : PySem.W.nsIn K mainGlobals "check_number" = some (some (.ref f4)))
    (l4 : K.lookup f4 = some ⟨oc4, od4, .func (PySem.W.fnOf "check_number" "check_number" (defArgs s_check_number) (defBody s_check_number) (defScope s_check_number) .none kV4 dc4 pm4 an4 cd4 ct4), sl4⟩)
    (p4 : PySem.W.codeIn K cd4 "check_number" = true)
    (k4 : PySem.W.keepIn K (.ref f4) = true)
    (a5 : PySem.W.nsIn K mainGlobals "_check_names" = some (some (.ref f5)))
    (l5 : K.lookup f5 = some ⟨oc5, od5, .func (PySem.W.fnOf "_check_names" "_check_names" (defArgs s_check_names) (defBody s_check_names) (defScope s_check_names) .none kV5 dc5 pm5 an5 cd5 ct5), sl5⟩)
    (p5 : PySem.W.codeIn K cd5 "_check_names" = true)
    (k5 : PySem.W.keepIn K (.ref f5) = true)
    (a6 : PySem.W.nsIn K mainGlobals "_rows_of" = some (some (.ref f6)))
    (l6 : K.lookup f6 = some ⟨oc6, od6, .func (PySem.W.fnOf "_rows_of" "_rows_of" (defArgs s_rows_of) (defBody s_rows_of) (defScope s_rows_of) .none kV6 dc6 pm6 an6 cd6 ct6), sl6⟩)
    (p6 : PySem.W.codeIn K cd6 "_rows_of" = true)
    (k6 : PySem.W.keepIn K (.ref f6) = true)
    (a7 : PySem.W.nsIn K mainGlobals "_check_kinds" = some (some (.ref f7)))
    (l7 : K.lookup f7 = some ⟨oc7, od7, .func (PySem.W.fnOf "_check_kinds" "_check_kinds" (defArgs s_check_kinds) (defBody s_check_kinds) (defScope s_check_kinds) .none kV7 dc7 pm7 an7 cd7 ct7), sl7⟩)
    (p7 : PySem.W.codeIn K cd7 "_check_kinds" = true)
    (k7 : PySem.W.keepIn K (.ref f7) = true)
    (a8 : PySem.W.nsIn K mainGlobals "_holds_at_most" = some (some (.ref f8)))
    (l8 : K.lookup f8 = some ⟨oc8, od8, .func (PySem.W.fnOf "_holds_at_most" "_holds_at_most" (defArgs s_holds_at_most) (defBody s_holds_at_most) (defScope s_holds_at_most) .none kV8 dc8 pm8 an8 cd8 ct8), sl8⟩)
    (p8 : PySem.W.codeIn K cd8 "_holds_at_most" = true)
    (k8 : PySem.W.keepIn K (.ref f8) = true)
    (a9 : PySem.W.nsIn K mainGlobals "_check_unlike" = some (some (.ref f9)))
    (l9 : K.lookup f9 = some ⟨oc9, od9, .func (PySem.W.fnOf "_check_unlike" "_check_unlike" (defArgs s_check_unlike) (defBody s_check_unlike) (defScope s_check_unlike) .none kV9 dc9 pm9 an9 cd9 ct9), sl9⟩)
    (p9 : PySem.W.codeIn K cd9 "_check_unlike" = true)
    (k9 : PySem.W.keepIn K (.ref f9) = true)
    (a10 : PySem.W.nsIn K mainGlobals "_check_ports" = some (some (.ref f10)))
    (l10 : K.lookup f10 = some ⟨oc10, od10, .func (PySem.W.fnOf "_check_ports" "_check_ports" (defArgs s_check_ports) (defBody s_check_ports) (defScope s_check_ports) .none kV10 dc10 pm10 an10 cd10 ct10), sl10⟩)
    (p10 : PySem.W.codeIn K cd10 "_check_ports" = true)
    (k10 : PySem.W.keepIn K (.ref f10) = true)
    (a11 : PySem.W.nsIn K mainGlobals "turned" = some (some (.ref f11)))
    (l11 : K.lookup f11 = some ⟨oc11, od11, .func (PySem.W.fnOf "turned" "turned" (defArgs s_turned) (defBody s_turned) (defScope s_turned) .none kV11 dc11 pm11 an11 cd11 ct11), sl11⟩)
    (p11 : PySem.W.codeIn K cd11 "turned" = true)
    (k11 : PySem.W.keepIn K (.ref f11) = true)
    (a12 : PySem.W.nsIn K mainGlobals "with_ship" = some (some (.ref f12)))
    (l12 : K.lookup f12 = some ⟨oc12, od12, .func (PySem.W.fnOf "with_ship" "with_ship" (defArgs s_with_ship) (defBody s_with_ship) (defScope s_with_ship) .none kV12 dc12 pm12 an12 cd12 ct12), sl12⟩)
    (p12 : PySem.W.codeIn K cd12 "with_ship" = true)
    (k12 : PySem.W.keepIn K (.ref f12) = true)
    (a13 : PySem.W.nsIn K mainGlobals "without" = some (some (.ref f13)))
    (l13 : K.lookup f13 = some ⟨oc13, od13, .func (PySem.W.fnOf "without" "without" (defArgs s_without) (defBody s_without) (defScope s_without) .none kV13 dc13 pm13 an13 cd13 ct13), sl13⟩)
    (p13 : PySem.W.codeIn K cd13 "without" = true)
    (k13 : PySem.W.keepIn K (.ref f13) = true)
    (a14 : PySem.W.nsIn K mainGlobals "_channel_anew" = some (some (.ref f14)))
    (l14 : K.lookup f14 = some ⟨oc14, od14, .func (PySem.W.fnOf "_channel_anew" "_channel_anew" (defArgs s_channel_anew) (defBody s_channel_anew) (defScope s_channel_anew) .none kV14 dc14 pm14 an14 cd14 ct14), sl14⟩)
    (p14 : PySem.W.codeIn K cd14 "_channel_anew" = true)
    (k14 : PySem.W.keepIn K (.ref f14) = true)
    (a15 : PySem.W.nsIn K mainGlobals "_breaker_anew" = some (some (.ref f15)))
    (l15 : K.lookup f15 = some ⟨oc15, od15, .func (PySem.W.fnOf "_breaker_anew" "_breaker_anew" (defArgs s_breaker_anew) (defBody s_breaker_anew) (defScope s_breaker_anew) .none kV15 dc15 pm15 an15 cd15 ct15), sl15⟩)
    (p15 : PySem.W.codeIn K cd15 "_breaker_anew" = true)
    (k15 : PySem.W.keepIn K (.ref f15) = true)
    (a16 : PySem.W.nsIn K mainGlobals "_ship_anew" = some (some (.ref f16)))
    (l16 : K.lookup f16 = some ⟨oc16, od16, .func (PySem.W.fnOf "_ship_anew" "_ship_anew" (defArgs s_ship_anew) (defBody s_ship_anew) (defScope s_ship_anew) .none kV16 dc16 pm16 an16 cd16 ct16), sl16⟩)
    (p16 : PySem.W.codeIn K cd16 "_ship_anew" = true)
    (k16 : PySem.W.keepIn K (.ref f16) = true)
    (a17 : PySem.W.nsIn K mainGlobals "_law_cell" = some (some (.ref f17)))
    (l17 : K.lookup f17 = some ⟨oc17, od17, .func (PySem.W.fnOf "_law_cell" "_law_cell" (defArgs s_cell) (defBody s_cell) (defScope s_cell) .none kV17 dc17 pm17 an17 cd17 ct17), sl17⟩)
    (p17 : PySem.W.codeIn K cd17 "_law_cell" = true)
    (k17 : PySem.W.keepIn K (.ref f17) = true)
    (a18 : PySem.W.nsIn K mainGlobals "_law_box" = some (some (.ref f18)))
    (l18 : K.lookup f18 = some ⟨oc18, od18, .func (PySem.W.fnOf "_law_box" "_law_box" (defArgs s_box) (defBody s_box) (defScope s_box) .none kV18 dc18 pm18 an18 cd18 ct18), sl18⟩)
    (p18 : PySem.W.codeIn K cd18 "_law_box" = true)
    (k18 : PySem.W.keepIn K (.ref f18) = true)
    (a19 : PySem.W.nsIn K mainGlobals "_law_take" = some (some (.ref f19)))
    (l19 : K.lookup f19 = some ⟨oc19, od19, .func (PySem.W.fnOf "_law_take" "_law_take" (defArgs s_take) (defBody s_take) (defScope s_take) .none kV19 dc19 pm19 an19 cd19 ct19), sl19⟩)
    (p19 : PySem.W.codeIn K cd19 "_law_take" = true)
    (k19 : PySem.W.keepIn K (.ref f19) = true)
    (a20 : PySem.W.nsIn K mainGlobals "_law_names" = some (some (.ref f20)))
    (l20 : K.lookup f20 = some ⟨oc20, od20, .func (PySem.W.fnOf "_law_names" "_law_names" (defArgs s_names) (defBody s_names) (defScope s_names) .none kV20 dc20 pm20 an20 cd20 ct20), sl20⟩)
    (p20 : PySem.W.codeIn K cd20 "_law_names" = true)
    (k20 : PySem.W.keepIn K (.ref f20) = true)
    (a21 : PySem.W.nsIn K mainGlobals "_law_number" = some (some (.ref f21)))
    (l21 : K.lookup f21 = some ⟨oc21, od21, .func (PySem.W.fnOf "_law_number" "_law_number" (defArgs s_number) (defBody s_number) (defScope s_number) .none kV21 dc21 pm21 an21 cd21 ct21), sl21⟩)
    (p21 : PySem.W.codeIn K cd21 "_law_number" = true)
    (k21 : PySem.W.keepIn K (.ref f21) = true)
    (a22 : PySem.W.nsIn K mainGlobals "_law_channel" = some (some (.ref f22)))
    (l22 : K.lookup f22 = some ⟨oc22, od22, .func (PySem.W.fnOf "_law_channel" "_law_channel" (defArgs s_channel) (defBody s_channel) (defScope s_channel) .none kV22 dc22 pm22 an22 cd22 ct22), sl22⟩)
    (p22 : PySem.W.codeIn K cd22 "_law_channel" = true)
    (k22 : PySem.W.keepIn K (.ref f22) = true)
    (a23 : PySem.W.nsIn K mainGlobals "_law_breaker" = some (some (.ref f23)))
    (l23 : K.lookup f23 = some ⟨oc23, od23, .func (PySem.W.fnOf "_law_breaker" "_law_breaker" (defArgs s_breaker) (defBody s_breaker) (defScope s_breaker) .none kV23 dc23 pm23 an23 cd23 ct23), sl23⟩)
    (p23 : PySem.W.codeIn K cd23 "_law_breaker" = true)
    (k23 : PySem.W.keepIn K (.ref f23) = true)
    (a24 : PySem.W.nsIn K mainGlobals "_law_ship" = some (some (.ref f24)))
    (l24 : K.lookup f24 = some ⟨oc24, od24, .func (PySem.W.fnOf "_law_ship" "_law_ship" (defArgs s_ship) (defBody s_ship) (defScope s_ship) .none kV24 dc24 pm24 an24 cd24 ct24), sl24⟩)
    (p24 : PySem.W.codeIn K cd24 "_law_ship" = true)
    (k24 : PySem.W.keepIn K (.ref f24) = true)
    (a25 : PySem.W.nsIn K mainGlobals "_law_world" = some (some (.ref f25)))
    (l25 : K.lookup f25 = some ⟨oc25, od25, .func (PySem.W.fnOf "_law_world" "_law_world" (defArgs s_world) (defBody s_world) (defScope s_world) .none kV25 dc25 pm25 an25 cd25 ct25), sl25⟩)
    (p25 : PySem.W.codeIn K cd25 "_law_world" = true)
    (k25 : PySem.W.keepIn K (.ref f25) = true)
    (a26 : PySem.W.nsIn K mainGlobals "_law_few" = some (some (.ref f26)))
    (l26 : K.lookup f26 = some ⟨oc26, od26, .func (PySem.W.fnOf "_law_few" "_law_few" (defArgs s_few) (defBody s_few) (defScope s_few) .none kV26 dc26 pm26 an26 cd26 ct26), sl26⟩)
    (p26 : PySem.W.codeIn K cd26 "_law_few" = true)
    (k26 : PySem.W.keepIn K (.ref f26) = true)
    (a27 : PySem.W.nsIn K mainGlobals "_law_made" = some (some (.ref f27)))
    (l27 : K.lookup f27 = some ⟨oc27, od27, .func (PySem.W.fnOf "_law_made" "_law_made" (defArgs s_made) (defBody s_made) (defScope s_made) .none kV27 dc27 pm27 an27 cd27 ct27), sl27⟩)
    (p27 : PySem.W.codeIn K cd27 "_law_made" = true)
    (k27 : PySem.W.keepIn K (.ref f27) = true)
    (a28 : PySem.W.nsIn K mainGlobals "_law_turned_due" = some (some (.ref f28)))
    (l28 : K.lookup f28 = some ⟨oc28, od28, .func (PySem.W.fnOf "_law_turned_due" "_law_turned_due" (defArgs s_turned_due) (defBody s_turned_due) (defScope s_turned_due) .none kV28 dc28 pm28 an28 cd28 ct28), sl28⟩)
    (p28 : PySem.W.codeIn K cd28 "_law_turned_due" = true)
    (k28 : PySem.W.keepIn K (.ref f28) = true)
    (a29 : PySem.W.nsIn K mainGlobals "_law_ship_due" = some (some (.ref f29)))
    (l29 : K.lookup f29 = some ⟨oc29, od29, .func (PySem.W.fnOf "_law_ship_due" "_law_ship_due" (defArgs s_ship_due) (defBody s_ship_due) (defScope s_ship_due) .none kV29 dc29 pm29 an29 cd29 ct29), sl29⟩)
    (p29 : PySem.W.codeIn K cd29 "_law_ship_due" = true)
    (k29 : PySem.W.keepIn K (.ref f29) = true)
    (a30 : PySem.W.nsIn K mainGlobals "_law_with" = some (some (.ref f30)))
    (l30 : K.lookup f30 = some ⟨oc30, od30, .func (PySem.W.fnOf "_law_with" "_law_with" (defArgs s_with) (defBody s_with) (defScope s_with) .none kV30 dc30 pm30 an30 cd30 ct30), sl30⟩)
    (p30 : PySem.W.codeIn K cd30 "_law_with" = true)
    (k30 : PySem.W.keepIn K (.ref f30) = true)
    (a31 : PySem.W.nsIn K mainGlobals "_law_without_due" = some (some (.ref f31)))
    (l31 : K.lookup f31 = some ⟨oc31, od31, .func (PySem.W.fnOf "_law_without_due" "_law_without_due" (defArgs s_without_due) (defBody s_without_due) (defScope s_without_due) .none kV31 dc31 pm31 an31 cd31 ct31), sl31⟩)
    (p31 : PySem.W.codeIn K cd31 "_law_without_due" = true)
    (k31 : PySem.W.keepIn K (.ref f31) = true)
    (a32 : PySem.W.nsIn K mainGlobals "_law_same_things" = some (some (.ref f32)))
    (l32 : K.lookup f32 = some ⟨oc32, od32, .func (PySem.W.fnOf "_law_same_things" "_law_same_things" (defArgs s_same_things) (defBody s_same_things) (defScope s_same_things) .none kV32 dc32 pm32 an32 cd32 ct32), sl32⟩)
    (p32 : PySem.W.codeIn K cd32 "_law_same_things" = true)
    (k32 : PySem.W.keepIn K (.ref f32) = true)
    (a33 : PySem.W.nsIn K mainGlobals "_law_new_ship" = some (some (.ref f33)))
    (l33 : K.lookup f33 = some ⟨oc33, od33, .func (PySem.W.fnOf "_law_new_ship" "_law_new_ship" (defArgs s_new_ship) (defBody s_new_ship) (defScope s_new_ship) .none kV33 dc33 pm33 an33 cd33 ct33), sl33⟩)
    (p33 : PySem.W.codeIn K cd33 "_law_new_ship" = true)
    (k33 : PySem.W.keepIn K (.ref f33) = true)
    (a34 : PySem.W.nsIn K mainGlobals "_law_right" = some (some (.ref f34)))
    (l34 : K.lookup f34 = some ⟨oc34, od34, .func (PySem.W.fnOf "_law_right" "_law_right" (defArgs s_right) (defBody s_right) (defScope s_right) .none kV34 dc34 pm34 an34 cd34 ct34), sl34⟩)
    (p34 : PySem.W.codeIn K cd34 "_law_right" = true)
    (k34 : PySem.W.keepIn K (.ref f34) = true)
    (a35 : PySem.W.nsIn K mainGlobals "law" = some (some (.ref f35)))
    (l35 : K.lookup f35 = some ⟨oc35, od35, .func (PySem.W.fnOf "law" "law" (defArgs s_law) (defBody s_law) (defScope s_law) .none kV35 dc35 pm35 an35 cd35 ct35), sl35⟩)
    (p35 : PySem.W.codeIn K cd35 "law" = true)
    (k35 : PySem.W.keepIn K (.ref f35) = true)
    (l36 : K.lookup f36 = some ⟨oc36, od36, .func (PySem.W.fnOf "__init__" "NoName.__init__" (defArgs s_NoName___init__) (defBody s_NoName___init__) (defScope s_NoName___init__) .none kV36 dc36 pm36 an36 cd36 ct36), sl36⟩)
    (p36 : PySem.W.codeIn K cd36 "NoName.__init__" = true)
    (k36 : PySem.W.keepIn K (.ref f36) = true)
    (l37 : K.lookup f37 = some ⟨oc37, od37, .func (PySem.W.fnOf "__init__" "NoNumber.__init__" (defArgs s_NoNumber___init__) (defBody s_NoNumber___init__) (defScope s_NoNumber___init__) .none kV37 dc37 pm37 an37 cd37 ct37), sl37⟩)
    (p37 : PySem.W.codeIn K cd37 "NoNumber.__init__" = true)
    (k37 : PySem.W.keepIn K (.ref f37) = true)
    (l38 : K.lookup f38 = some ⟨oc38, od38, .func (PySem.W.fnOf "__init__" "Doubled.__init__" (defArgs s_Doubled___init__) (defBody s_Doubled___init__) (defScope s_Doubled___init__) .none kV38 dc38 pm38 an38 cd38 ct38), sl38⟩)
    (p38 : PySem.W.codeIn K cd38 "Doubled.__init__" = true)
    (k38 : PySem.W.keepIn K (.ref f38) = true)
    (l39 : K.lookup f39 = some ⟨oc39, od39, .func (PySem.W.fnOf "__init__" "NoPort.__init__" (defArgs s_NoPort___init__) (defBody s_NoPort___init__) (defScope s_NoPort___init__) .none kV39 dc39 pm39 an39 cd39 ct39), sl39⟩)
    (p39 : PySem.W.codeIn K cd39 "NoPort.__init__" = true)
    (k39 : PySem.W.keepIn K (.ref f39) = true)
    (l40 : K.lookup f40 = some ⟨oc40, od40, .func (PySem.W.fnOf "__init__" "NoChannel.__init__" (defArgs s_NoChannel___init__) (defBody s_NoChannel___init__) (defScope s_NoChannel___init__) .none kV40 dc40 pm40 an40 cd40 ct40), sl40⟩)
    (p40 : PySem.W.codeIn K cd40 "NoChannel.__init__" = true)
    (k40 : PySem.W.keepIn K (.ref f40) = true)
    (l41 : K.lookup f41 = some ⟨oc41, od41, .func (PySem.W.fnOf "__init__" "NoVessel.__init__" (defArgs s_NoVessel___init__) (defBody s_NoVessel___init__) (defScope s_NoVessel___init__) .none kV41 dc41 pm41 an41 cd41 ct41), sl41⟩)
    (p41 : PySem.W.codeIn K cd41 "NoVessel.__init__" = true)
    (k41 : PySem.W.keepIn K (.ref f41) = true)
    (l42 : K.lookup f42 = some ⟨oc42, od42, .func (PySem.W.fnOf "__init__" "NoKind.__init__" (defArgs s_NoKind___init__) (defBody s_NoKind___init__) (defScope s_NoKind___init__) .none kV42 dc42 pm42 an42 cd42 ct42), sl42⟩)
    (p42 : PySem.W.codeIn K cd42 "NoKind.__init__" = true)
    (k42 : PySem.W.keepIn K (.ref f42) = true)
    (l43 : K.lookup f43 = some ⟨oc43, od43, .func (PySem.W.fnOf "__init__" "NoWorld.__init__" (defArgs s_NoWorld___init__) (defBody s_NoWorld___init__) (defScope s_NoWorld___init__) .none kV43 dc43 pm43 an43 cd43 ct43), sl43⟩)
    (p43 : PySem.W.codeIn K cd43 "NoWorld.__init__" = true)
    (k43 : PySem.W.keepIn K (.ref f43) = true)
    (l44 : K.lookup f44 = some ⟨oc44, od44, .func (PySem.W.fnOf "__init__" "Channel.__init__" (defArgs s_Channel___init__) (defBody s_Channel___init__) (defScope s_Channel___init__) .none kV44 dc44 pm44 an44 cd44 ct44), sl44⟩)
    (p44 : PySem.W.codeIn K cd44 "Channel.__init__" = true)
    (k44 : PySem.W.keepIn K (.ref f44) = true)
    (l45 : K.lookup f45 = some ⟨oc45, od45, .func (PySem.W.fnOf "ends" "Channel.ends" (defArgs s_Channel_ends) (defBody s_Channel_ends) (defScope s_Channel_ends) .none kV45 dc45 pm45 an45 cd45 ct45), sl45⟩)
    (p45 : PySem.W.codeIn K cd45 "Channel.ends" = true)
    (k45 : PySem.W.keepIn K (.ref f45) = true)
    (l46 : K.lookup f46 = some ⟨oc46, od46, .func (PySem.W.fnOf "row" "Channel.row" (defArgs s_Channel_row) (defBody s_Channel_row) (defScope s_Channel_row) .none kV46 dc46 pm46 an46 cd46 ct46), sl46⟩)
    (p46 : PySem.W.codeIn K cd46 "Channel.row" = true)
    (k46 : PySem.W.keepIn K (.ref f46) = true)
    (l47 : K.lookup f47 = some ⟨oc47, od47, .func (PySem.W.fnOf "__init__" "Vessel.__init__" (defArgs s_Vessel___init__) (defBody s_Vessel___init__) (defScope s_Vessel___init__) .none kV47 dc47 pm47 an47 cd47 ct47), sl47⟩)
    (p47 : PySem.W.codeIn K cd47 "Vessel.__init__" = true)
    (k47 : PySem.W.keepIn K (.ref f47) = true)
    (l48 : K.lookup f48 = some ⟨oc48, od48, .func (PySem.W.fnOf "kind" "Vessel.kind" (defArgs s_Vessel_kind) (defBody s_Vessel_kind) (defScope s_Vessel_kind) .none kV48 dc48 pm48 an48 cd48 ct48), sl48⟩)
    (p48 : PySem.W.codeIn K cd48 "Vessel.kind" = true)
    (k48 : PySem.W.keepIn K (.ref f48) = true)
    (l49 : K.lookup f49 = some ⟨oc49, od49, .func (PySem.W.fnOf "thins" "Vessel.thins" (defArgs s_Vessel_thins) (defBody s_Vessel_thins) (defScope s_Vessel_thins) .none kV49 dc49 pm49 an49 cd49 ct49), sl49⟩)
    (p49 : PySem.W.codeIn K cd49 "Vessel.thins" = true)
    (k49 : PySem.W.keepIn K (.ref f49) = true)
    (l50 : K.lookup f50 = some ⟨oc50, od50, .func (PySem.W.fnOf "row" "Vessel.row" (defArgs s_Vessel_row) (defBody s_Vessel_row) (defScope s_Vessel_row) .none kV50 dc50 pm50 an50 cd50 ct50), sl50⟩)
    (p50 : PySem.W.codeIn K cd50 "Vessel.row" = true)
    (k50 : PySem.W.keepIn K (.ref f50) = true)
    (l51 : K.lookup f51 = some ⟨oc51, od51, .func (PySem.W.fnOf "__init__" "Breaker.__init__" (defArgs s_Breaker___init__) (defBody s_Breaker___init__) (defScope s_Breaker___init__) .none kV51 dc51 pm51 an51 cd51 ct51), sl51⟩)
    (p51 : PySem.W.codeIn K cd51 "Breaker.__init__" = true)
    (k51 : PySem.W.keepIn K (.ref f51) = true)
    (l52 : K.lookup f52 = some ⟨oc52, od52, .func (PySem.W.fnOf "kind" "Breaker.kind" (defArgs s_Breaker_kind) (defBody s_Breaker_kind) (defScope s_Breaker_kind) .none kV52 dc52 pm52 an52 cd52 ct52), sl52⟩)
    (p52 : PySem.W.codeIn K cd52 "Breaker.kind" = true)
    (k52 : PySem.W.keepIn K (.ref f52) = true)
    (l53 : K.lookup f53 = some ⟨oc53, od53, .func (PySem.W.fnOf "thins" "Breaker.thins" (defArgs s_Breaker_thins) (defBody s_Breaker_thins) (defScope s_Breaker_thins) .none kV53 dc53 pm53 an53 cd53 ct53), sl53⟩)
    (p53 : PySem.W.codeIn K cd53 "Breaker.thins" = true)
    (k53 : PySem.W.keepIn K (.ref f53) = true)
    (l54 : K.lookup f54 = some ⟨oc54, od54, .func (PySem.W.fnOf "row" "Breaker.row" (defArgs s_Breaker_row) (defBody s_Breaker_row) (defScope s_Breaker_row) .none kV54 dc54 pm54 an54 cd54 ct54), sl54⟩)
    (p54 : PySem.W.codeIn K cd54 "Breaker.row" = true)
    (k54 : PySem.W.keepIn K (.ref f54) = true)
    (l55 : K.lookup f55 = some ⟨oc55, od55, .func (PySem.W.fnOf "__init__" "Ship.__init__" (defArgs s_Ship___init__) (defBody s_Ship___init__) (defScope s_Ship___init__) .none kV55 dc55 pm55 an55 cd55 ct55), sl55⟩)
    (p55 : PySem.W.codeIn K cd55 "Ship.__init__" = true)
    (k55 : PySem.W.keepIn K (.ref f55) = true)
    (l56 : K.lookup f56 = some ⟨oc56, od56, .func (PySem.W.fnOf "kind" "Ship.kind" (defArgs s_Ship_kind) (defBody s_Ship_kind) (defScope s_Ship_kind) .none kV56 dc56 pm56 an56 cd56 ct56), sl56⟩)
    (p56 : PySem.W.codeIn K cd56 "Ship.kind" = true)
    (k56 : PySem.W.keepIn K (.ref f56) = true)
    (l57 : K.lookup f57 = some ⟨oc57, od57, .func (PySem.W.fnOf "row" "Ship.row" (defArgs s_Ship_row) (defBody s_Ship_row) (defScope s_Ship_row) .none kV57 dc57 pm57 an57 cd57 ct57), sl57⟩)
    (p57 : PySem.W.codeIn K cd57 "Ship.row" = true)
    (k57 : PySem.W.keepIn K (.ref f57) = true)
    (l58 : K.lookup f58 = some ⟨oc58, od58, .func (PySem.W.fnOf "__init__" "World.__init__" (defArgs s_World___init__) (defBody s_World___init__) (defScope s_World___init__) .none kV58 dc58 pm58 an58 cd58 ct58), sl58⟩)
    (p58 : PySem.W.codeIn K cd58 "World.__init__" = true)
    (k58 : PySem.W.keepIn K (.ref f58) = true)
    (l59 : K.lookup f59 = some ⟨oc59, od59, .func (PySem.W.fnOf "begin_hour" "World.begin_hour" (defArgs s_World_begin_hour) (defBody s_World_begin_hour) (defScope s_World_begin_hour) .none kV59 dc59 pm59 an59 cd59 ct59), sl59⟩)
    (p59 : PySem.W.codeIn K cd59 "World.begin_hour" = true)
    (k59 : PySem.W.keepIn K (.ref f59) = true)
    (l60 : K.lookup f60 = some ⟨oc60, od60, .func (PySem.W.fnOf "ports" "World.ports" (defArgs s_World_ports) (defBody s_World_ports) (defScope s_World_ports) .none kV60 dc60 pm60 an60 cd60 ct60), sl60⟩)
    (p60 : PySem.W.codeIn K cd60 "World.ports" = true)
    (k60 : PySem.W.keepIn K (.ref f60) = true)
    (l61 : K.lookup f61 = some ⟨oc61, od61, .func (PySem.W.fnOf "channels" "World.channels" (defArgs s_World_channels) (defBody s_World_channels) (defScope s_World_channels) .none kV61 dc61 pm61 an61 cd61 ct61), sl61⟩)
    (p61 : PySem.W.codeIn K cd61 "World.channels" = true)
    (k61 : PySem.W.keepIn K (.ref f61) = true)
    (l62 : K.lookup f62 = some ⟨oc62, od62, .func (PySem.W.fnOf "breakers" "World.breakers" (defArgs s_World_breakers) (defBody s_World_breakers) (defScope s_World_breakers) .none kV62 dc62 pm62 an62 cd62 ct62), sl62⟩)
    (p62 : PySem.W.codeIn K cd62 "World.breakers" = true)
    (k62 : PySem.W.keepIn K (.ref f62) = true)
    (l63 : K.lookup f63 = some ⟨oc63, od63, .func (PySem.W.fnOf "ships" "World.ships" (defArgs s_World_ships) (defBody s_World_ships) (defScope s_World_ships) .none kV63 dc63 pm63 an63 cd63 ct63), sl63⟩)
    (p63 : PySem.W.codeIn K cd63 "World.ships" = true)
    (k63 : PySem.W.keepIn K (.ref f63) = true)
    (l64 : K.lookup f64 = some ⟨oc64, od64, .func (PySem.W.fnOf "vessels" "World.vessels" (defArgs s_World_vessels) (defBody s_World_vessels) (defScope s_World_vessels) .none kV64 dc64 pm64 an64 cd64 ct64), sl64⟩)
    (p64 : PySem.W.codeIn K cd64 "World.vessels" = true)
    (k64 : PySem.W.keepIn K (.ref f64) = true)
    (l65 : K.lookup f65 = some ⟨oc65, od65, .func (PySem.W.fnOf "channel" "World.channel" (defArgs s_World_channel) (defBody s_World_channel) (defScope s_World_channel) .none kV65 dc65 pm65 an65 cd65 ct65), sl65⟩)
    (p65 : PySem.W.codeIn K cd65 "World.channel" = true)
    (k65 : PySem.W.keepIn K (.ref f65) = true)
    (l66 : K.lookup f66 = some ⟨oc66, od66, .func (PySem.W.fnOf "vessel" "World.vessel" (defArgs s_World_vessel) (defBody s_World_vessel) (defScope s_World_vessel) .none kV66 dc66 pm66 an66 cd66 ct66), sl66⟩)
    (p66 : PySem.W.codeIn K cd66 "World.vessel" = true)
    (k66 : PySem.W.keepIn K (.ref f66) = true)
    (l67 : K.lookup f67 = some ⟨oc67, od67, .func (PySem.W.fnOf "told" "World.told" (defArgs s_World_told) (defBody s_World_told) (defScope s_World_told) .none kV67 dc67 pm67 an67 cd67 ct67), sl67⟩)
    (p67 : PySem.W.codeIn K cd67 "World.told" = true)
    (k67 : PySem.W.keepIn K (.ref f67) = true)
    (c_NAME_MOST : PySem.W.nsIn K mainGlobals "NAME_MOST" = some (some (.int 8 t_NAME_MOST)))
    (c_HOURS_MOST : PySem.W.nsIn K mainGlobals "HOURS_MOST" = some (some (.int 1000 t_HOURS_MOST)))
    (c_DEPTH_MOST : PySem.W.nsIn K mainGlobals "DEPTH_MOST" = some (some (.int 1000 t_DEPTH_MOST)))
    (c_GROWTH_MOST : PySem.W.nsIn K mainGlobals "GROWTH_MOST" = some (some (.int 1000 t_GROWTH_MOST)))
    (c_THICK_MOST : PySem.W.nsIn K mainGlobals "THICK_MOST" = some (some (.int 1000000 t_THICK_MOST)))
    (c_HOUR_MOST : PySem.W.nsIn K mainGlobals "HOUR_MOST" = some (some (.int 1000000 t_HOUR_MOST)))
    (c_STRENGTH_MOST : PySem.W.nsIn K mainGlobals "STRENGTH_MOST" = some (some (.int 1000000 t_STRENGTH_MOST)))
    (c_CUT_MOST : PySem.W.nsIn K mainGlobals "CUT_MOST" = some (some (.int 1000000 t_CUT_MOST)))
    (c_BEGIN_MOST : PySem.W.nsIn K mainGlobals "BEGIN_MOST" = some (some (.int 1000000 t_BEGIN_MOST)))
    (c_PORTS_MOST : PySem.W.nsIn K mainGlobals "PORTS_MOST" = some (some (.int 8 t_PORTS_MOST)))
    (c_CHANNELS_MOST : PySem.W.nsIn K mainGlobals "CHANNELS_MOST" = some (some (.int 12 t_CHANNELS_MOST)))
    (c_BREAKERS_MOST : PySem.W.nsIn K mainGlobals "BREAKERS_MOST" = some (some (.int 4 t_BREAKERS_MOST)))
    (c_SHIPS_MOST : PySem.W.nsIn K mainGlobals "SHIPS_MOST" = some (some (.int 6 t_SHIPS_MOST)))
    (n_isinstance : PySem.W.nsIn K mainGlobals "isinstance" = some none)
    (n_int : PySem.W.nsIn K mainGlobals "int" = some none)
    (n_bool : PySem.W.nsIn K mainGlobals "bool" = some none)
    (n_str : PySem.W.nsIn K mainGlobals "str" = some none)
    (n_len : PySem.W.nsIn K mainGlobals "len" = some none)
    (n_tuple : PySem.W.nsIn K mainGlobals "tuple" = some none)
    (n_all : PySem.W.nsIn K mainGlobals "all" = some none)
    (n_list : PySem.W.nsIn K mainGlobals "list" = some none)
    (n_max : PySem.W.nsIn K mainGlobals "max" = some none)
    (n_range : PySem.W.nsIn K mainGlobals "range" = some none)
    (n_repr : PySem.W.nsIn K mainGlobals "repr" = some none)
    (n_min : PySem.W.nsIn K mainGlobals "min" = some none)
    : ∃ fd : FuncData, (∀ (s : Shared) (v : Value), BindsTo s fd ⟨[v], []⟩ [("_law_script", v)]) ∧ ∀ base : Heap, K.In base → base.Ns mainGlobals mg → FnG l.prog w K mg base CX0 10 fa fd ["_law_script"] (spLaw K) := by
  cases hfa.symm.trans (PySem.W.mg_of X G a35)
  have F0 := fun_mk (st := s_is_whole) l0 p0 k0
  have b0 := F0.binds (ps := ["thing"]) fun _ _ _ _ _ _ us hl => match us, hl with | [_], _ => rfl
  have F1 := fun_mk (st := s_is_within) l1 p1 k1
  have b1 := F1.binds (ps := ["thing", "low", "high"]) fun _ _ _ _ _ _ us hl => match us, hl with | [_, _, _], _ => rfl
  have F2 := fun_mk (st := s_is_name) l2 p2 k2
  have b2 := F2.binds (ps := ["thing"]) fun _ _ _ _ _ _ us hl => match us, hl with | [_], _ => rfl
  have F3 := fun_mk (st := s_all_between) l3 p3 k3
  have b3 := F3.binds (ps := ["text", "low", "high"]) fun _ _ _ _ _ _ us hl => match us, hl with | [_, _, _], _ => rfl
  have F4 := fun_mk (st := s_check_number) l4 p4 k4
  have b4 := F4.binds (ps := ["thing", "low", "high"]) fun _ _ _ _ _ _ us hl => match us, hl with | [_, _, _], _ => rfl
  have F5 := fun_mk (st := s_check_names) l5 p5 k5
  have b5 := F5.binds (ps := ["things"]) fun _ _ _ _ _ _ us hl => match us, hl with | [_], _ => rfl
  have F6 := fun_mk (st := s_rows_of) l6 p6 k6
  have b6 := F6.binds (ps := ["things"]) fun _ _ _ _ _ _ us hl => match us, hl with | [_], _ => rfl
  have F7 := fun_mk (st := s_check_kinds) l7 p7 k7
  have b7 := F7.binds (ps := ["ports", "channels", "breakers", "ships"]) fun _ _ _ _ _ _ us hl => match us, hl with | [_, _, _, _], _ => rfl
  have F8 := fun_mk (st := s_holds_at_most) l8 p8 k8
  have b8 := F8.binds (ps := ["thing", "many"]) fun _ _ _ _ _ _ us hl => match us, hl with | [_, _], _ => rfl
  have F9 := fun_mk (st := s_check_unlike) l9 p9 k9
  have b9 := F9.binds (ps := ["names"]) fun _ _ _ _ _ _ us hl => match us, hl with | [_], _ => rfl
  have F10 := fun_mk (st := s_check_ports) l10 p10 k10
  have b10 := F10.binds (ps := ["ports", "channels", "breakers", "ships"]) fun _ _ _ _ _ _ us hl => match us, hl with | [_, _, _, _], _ => rfl
  have F11 := fun_mk (st := s_turned) l11 p11 k11
  have b11 := F11.binds (ps := ["world"]) fun _ _ _ _ _ _ us hl => match us, hl with | [_], _ => rfl
  have F12 := fun_mk (st := s_with_ship) l12 p12 k12
  have b12 := F12.binds (ps := ["world", "ship"]) fun _ _ _ _ _ _ us hl => match us, hl with | [_, _], _ => rfl
  have F13 := fun_mk (st := s_without) l13 p13 k13
  have b13 := F13.binds (ps := ["world", "name"]) fun _ _ _ _ _ _ us hl => match us, hl with | [_, _], _ => rfl
  have F14 := fun_mk (st := s_channel_anew) l14 p14 k14
  have b14 := F14.binds (ps := ["channel", "name", "one", "other"]) fun _ _ _ _ _ _ us hl => match us, hl with | [_, _, _, _], _ => rfl
  have F15 := fun_mk (st := s_breaker_anew) l15 p15 k15
  have b15 := F15.binds (ps := ["breaker", "name", "port", "hour"]) fun _ _ _ _ _ _ us hl => match us, hl with | [_, _, _, _], _ => rfl
  have F16 := fun_mk (st := s_ship_anew) l16 p16 k16
  have b16 := F16.binds (ps := ["ship", "name", "port", "goal", "hour"]) fun _ _ _ _ _ _ us hl => match us, hl with | [_, _, _, _, _], _ => rfl
  have F17 := fun_mk (st := s_cell) l17 p17 k17
  have b17 := F17.binds (ps := ["_law_script", "_law_k"]) fun _ _ _ _ _ _ us hl => match us, hl with | [_, _], _ => rfl
  have F18 := fun_mk (st := s_box) l18 p18 k18
  have b18 := F18.binds (ps := ["_law_cell_here"]) fun _ _ _ _ _ _ us hl => match us, hl with | [_], _ => rfl
  have F19 := fun_mk (st := s_take) l19 p19 k19
  have b19 := F19.binds (ps := ["_law_box_here", "_law_many"]) fun _ _ _ _ _ _ us hl => match us, hl with | [_, _], _ => rfl
  have F20 := fun_mk (st := s_names) l20 p20 k20
  have b20 := F20.binds (ps := ["_law_box_here", "_law_many"]) fun _ _ _ _ _ _ us hl => match us, hl with | [_, _], _ => rfl
  have F21 := fun_mk (st := s_number) l21 p21 k21
  have b21 := F21.binds (ps := ["_law_box_here", "_law_low", "_law_high"]) fun _ _ _ _ _ _ us hl => match us, hl with | [_, _, _], _ => rfl
  have F22 := fun_mk (st := s_channel) l22 p22 k22
  have b22 := F22.binds (ps := ["_law_box_here", "_law_name", "_law_ports"]) fun _ _ _ _ _ _ us hl => match us, hl with | [_, _, _], _ => rfl
  have F23 := fun_mk (st := s_breaker) l23 p23 k23
  have b23 := F23.binds (ps := ["_law_box_here", "_law_name", "_law_ports"]) fun _ _ _ _ _ _ us hl => match us, hl with | [_, _, _], _ => rfl
  have F24 := fun_mk (st := s_ship) l24 p24 k24
  have b24 := F24.binds (ps := ["_law_box_here", "_law_name", "_law_ports"]) fun _ _ _ _ _ _ us hl => match us, hl with | [_, _, _], _ => rfl
  have F25 := fun_mk (st := s_world) l25 p25 k25
  have b25 := F25.binds (ps := ["_law_box_here", "_law_sizes"]) fun _ _ _ _ _ _ us hl => match us, hl with | [_, _], _ => rfl
  have F26 := fun_mk (st := s_few) l26 p26 k26
  have b26 := F26.binds (ps := ["_law_box_here"]) fun _ _ _ _ _ _ us hl => match us, hl with | [_], _ => rfl
  have F27 := fun_mk (st := s_made) l27 p27 k27
  have b27 := F27.binds (ps := ["_law_world_here"]) fun _ _ _ _ _ _ us hl => match us, hl with | [_], _ => rfl
  have F28 := fun_mk (st := s_turned_due) l28 p28 k28
  have b28 := F28.binds (ps := ["_law_world_here"]) fun _ _ _ _ _ _ us hl => match us, hl with | [_], _ => rfl
  have F29 := fun_mk (st := s_ship_due) l29 p29 k29
  have b29 := F29.binds (ps := ["_law_world_here", "_law_row"]) fun _ _ _ _ _ _ us hl => match us, hl with | [_, _], _ => rfl
  have F30 := fun_mk (st := s_with) l30 p30 k30
  have b30 := F30.binds (ps := ["_law_made_here", "_law_row"]) fun _ _ _ _ _ _ us hl => match us, hl with | [_, _], _ => rfl
  have F31 := fun_mk (st := s_without_due) l31 p31 k31
  have b31 := F31.binds (ps := ["_law_world_here", "_law_name"]) fun _ _ _ _ _ _ us hl => match us, hl with | [_, _], _ => rfl
  have F32 := fun_mk (st := s_same_things) l32 p32 k32
  have b32 := F32.binds (ps := ["_law_one", "_law_other"]) fun _ _ _ _ _ _ us hl => match us, hl with | [_, _], _ => rfl
  have F33 := fun_mk (st := s_new_ship) l33 p33 k33
  have b33 := F33.binds (ps := ["_law_box_here", "_law_world_here"]) fun _ _ _ _ _ _ us hl => match us, hl with | [_, _], _ => rfl
  have F34 := fun_mk (st := s_right) l34 p34 k34
  have b34 := F34.binds (ps := ["_law_box_here", "_law_made_here", "_law_world_here"]) fun _ _ _ _ _ _ us hl => match us, hl with | [_, _, _], _ => rfl
  have F35 := fun_mk (st := s_law) l35 p35 k35
  have b35 := F35.binds (ps := ["_law_script"]) fun _ _ _ _ _ _ us hl => match us, hl with | [_], _ => rfl
  have F36 := fun_mk (st := s_NoName___init__) l36 p36 k36
  have b36 := F36.binds (ps := ["self", "found"]) fun _ _ _ _ _ _ us hl => match us, hl with | [_, _], _ => rfl
  have F37 := fun_mk (st := s_NoNumber___init__) l37 p37 k37
  have b37 := F37.binds (ps := ["self", "found"]) fun _ _ _ _ _ _ us hl => match us, hl with | [_, _], _ => rfl
  have F38 := fun_mk (st := s_Doubled___init__) l38 p38 k38
  have b38 := F38.binds (ps := ["self", "name"]) fun _ _ _ _ _ _ us hl => match us, hl with | [_, _], _ => rfl
  have F39 := fun_mk (st := s_NoPort___init__) l39 p39 k39
  have b39 := F39.binds (ps := ["self", "found"]) fun _ _ _ _ _ _ us hl => match us, hl with | [_, _], _ => rfl
  have F40 := fun_mk (st := s_NoChannel___init__) l40 p40 k40
  have b40 := F40.binds (ps := ["self", "found"]) fun _ _ _ _ _ _ us hl => match us, hl with | [_, _], _ => rfl
  have F41 := fun_mk (st := s_NoVessel___init__) l41 p41 k41
  have b41 := F41.binds (ps := ["self", "found"]) fun _ _ _ _ _ _ us hl => match us, hl with | [_, _], _ => rfl
  have F42 := fun_mk (st := s_NoKind___init__) l42 p42 k42
  have b42 := F42.binds (ps := ["self", "found"]) fun _ _ _ _ _ _ us hl => match us, hl with | [_, _], _ => rfl
  have F43 := fun_mk (st := s_NoWorld___init__) l43 p43 k43
  have b43 := F43.binds (ps := ["self", "found"]) fun _ _ _ _ _ _ us hl => match us, hl with | [_, _], _ => rfl
  have F44 := fun_mk (st := s_Channel___init__) l44 p44 k44
  have b44 := F44.binds (ps := ["self", "name", "one", "other", "hours", "depth", "first", "growth", "most"]) fun _ _ _ _ _ _ us hl => match us, hl with | [_, _, _, _, _, _, _, _, _], _ => rfl
  have F45 := fun_mk (st := s_Channel_ends) l45 p45 k45
  have b45 := F45.binds (ps := ["self"]) fun _ _ _ _ _ _ us hl => match us, hl with | [_], _ => rfl
  have F46 := fun_mk (st := s_Channel_row) l46 p46 k46
  have b46 := F46.binds (ps := ["self"]) fun _ _ _ _ _ _ us hl => match us, hl with | [_], _ => rfl
  have F47 := fun_mk (st := s_Vessel___init__) l47 p47 k47
  have b47 := F47.binds (ps := ["self", "name", "port", "hour", "strength", "draught"]) fun _ _ _ _ _ _ us hl => match us, hl with | [_, _, _, _, _, _], _ => rfl
  have F48 := fun_mk (st := s_Vessel_kind) l48 p48 k48
  have b48 := F48.binds (ps := ["self"]) fun _ _ _ _ _ _ us hl => match us, hl with | [_], _ => rfl
  have F49 := fun_mk (st := s_Vessel_thins) l49 p49 k49
  have b49 := F49.binds (ps := ["self"]) fun _ _ _ _ _ _ us hl => match us, hl with | [_], _ => rfl
  have F50 := fun_mk (st := s_Vessel_row) l50 p50 k50
  have b50 := F50.binds (ps := ["self"]) fun _ _ _ _ _ _ us hl => match us, hl with | [_], _ => rfl
  have F51 := fun_mk (st := s_Breaker___init__) l51 p51 k51
  have b51 := F51.binds (ps := ["self", "name", "port", "hour", "strength", "draught", "cut"]) fun _ _ _ _ _ _ us hl => match us, hl with | [_, _, _, _, _, _, _], _ => rfl
  have F52 := fun_mk (st := s_Breaker_kind) l52 p52 k52
  have b52 := F52.binds (ps := ["self"]) fun _ _ _ _ _ _ us hl => match us, hl with | [_], _ => rfl
  have F53 := fun_mk (st := s_Breaker_thins) l53 p53 k53
  have b53 := F53.binds (ps := ["self"]) fun _ _ _ _ _ _ us hl => match us, hl with | [_], _ => rfl
  have F54 := fun_mk (st := s_Breaker_row) l54 p54 k54
  have b54 := F54.binds (ps := ["self"]) fun _ _ _ _ _ _ us hl => match us, hl with | [_], _ => rfl
  have F55 := fun_mk (st := s_Ship___init__) l55 p55 k55
  have b55 := F55.binds (ps := ["self", "name", "port", "goal", "hour", "strength", "draught"]) fun _ _ _ _ _ _ us hl => match us, hl with | [_, _, _, _, _, _, _], _ => rfl
  have F56 := fun_mk (st := s_Ship_kind) l56 p56 k56
  have b56 := F56.binds (ps := ["self"]) fun _ _ _ _ _ _ us hl => match us, hl with | [_], _ => rfl
  have F57 := fun_mk (st := s_Ship_row) l57 p57 k57
  have b57 := F57.binds (ps := ["self"]) fun _ _ _ _ _ _ us hl => match us, hl with | [_], _ => rfl
  have F58 := fun_mk (st := s_World___init__) l58 p58 k58
  have b58 := F58.binds (ps := ["self", "begin", "ports", "channels", "breakers", "ships"]) fun _ _ _ _ _ _ us hl => match us, hl with | [_, _, _, _, _, _], _ => rfl
  have F59 := fun_mk (st := s_World_begin_hour) l59 p59 k59
  have b59 := F59.binds (ps := ["self"]) fun _ _ _ _ _ _ us hl => match us, hl with | [_], _ => rfl
  have F60 := fun_mk (st := s_World_ports) l60 p60 k60
  have b60 := F60.binds (ps := ["self"]) fun _ _ _ _ _ _ us hl => match us, hl with | [_], _ => rfl
  have F61 := fun_mk (st := s_World_channels) l61 p61 k61
  have b61 := F61.binds (ps := ["self"]) fun _ _ _ _ _ _ us hl => match us, hl with | [_], _ => rfl
  have F62 := fun_mk (st := s_World_breakers) l62 p62 k62
  have b62 := F62.binds (ps := ["self"]) fun _ _ _ _ _ _ us hl => match us, hl with | [_], _ => rfl
  have F63 := fun_mk (st := s_World_ships) l63 p63 k63
  have b63 := F63.binds (ps := ["self"]) fun _ _ _ _ _ _ us hl => match us, hl with | [_], _ => rfl
  have F64 := fun_mk (st := s_World_vessels) l64 p64 k64
  have b64 := F64.binds (ps := ["self"]) fun _ _ _ _ _ _ us hl => match us, hl with | [_], _ => rfl
  have F65 := fun_mk (st := s_World_channel) l65 p65 k65
  have b65 := F65.binds (ps := ["self", "name"]) fun _ _ _ _ _ _ us hl => match us, hl with | [_, _], _ => rfl
  have F66 := fun_mk (st := s_World_vessel) l66 p66 k66
  have b66 := F66.binds (ps := ["self", "name"]) fun _ _ _ _ _ _ us hl => match us, hl with | [_, _], _ => rfl
  have F67 := fun_mk (st := s_World_told) l67 p67 k67
  have b67 := F67.binds (ps := ["self"]) fun _ _ _ _ _ _ us hl => match us, hl with | [_], _ => rfl
  let T : Top K mg := { a_IceError := C_IceError, c_IceError := PySem.W.mg_of X G g_IceError, sp_IceError := sp_IceError, ty_IceError := ty_IceError, rd_IceError := rd_IceError, fc_IceError := fc_IceError, a_NoName := C_NoName, c_NoName := PySem.W.mg_of X G g_NoName, ox_NoName := ⟨⟨nm_NoName, q_NoName, N_NoName, bs_NoName, bm_NoName, sn_NoName, su_NoName, ab_NoName, co_NoName, dd_NoName, m0_NoName, m1_NoName, m2_NoName, m3_NoName, m5_NoName, xl_NoName, hb_NoName⟩, sa_NoName, ec_NoName, tc_NoName, kc_NoName⟩, xf_NoName := ⟨ga_NoName, gg_NoName, ec_NoName, hd_NoName⟩, in_NoName := in_NoName, tf_NoName := tf_NoName, nf_NoName_found := nf_NoName_found, a_NoNumber := C_NoNumber, c_NoNumber := PySem.W.mg_of X G g_NoNumber, ox_NoNumber := ⟨⟨nm_NoNumber, q_NoNumber, N_NoNumber, bs_NoNumber, bm_NoNumber, sn_NoNumber, su_NoNumber, ab_NoNumber, co_NoNumber, dd_NoNumber, m0_NoNumber, m1_NoNumber, m2_NoNumber, m3_NoNumber, m5_NoNumber, xl_NoNumber, hb_NoNumber⟩, sa_NoNumber, ec_NoNumber, tc_NoNumber, kc_NoNumber⟩, xf_NoNumber := ⟨ga_NoNumber, gg_NoNumber, ec_NoNumber, hd_NoNumber⟩, in_NoNumber := in_NoNumber, tf_NoNumber := tf_NoNumber, nf_NoNumber_found := nf_NoNumber_found, a_Doubled := C_Doubled, c_Doubled := PySem.W.mg_of X G g_Doubled, ox_Doubled := ⟨⟨nm_Doubled, q_Doubled, N_Doubled, bs_Doubled, bm_Doubled, sn_Doubled, su_Doubled, ab_Doubled, co_Doubled, dd_Doubled, m0_Doubled, m1_Doubled, m2_Doubled, m3_Doubled, m5_Doubled, xl_Doubled, hb_Doubled⟩, sa_Doubled, ec_Doubled, tc_Doubled, kc_Doubled⟩, xf_Doubled := ⟨ga_Doubled, gg_Doubled, ec_Doubled, hd_Doubled⟩, in_Doubled := in_Doubled, tf_Doubled := tf_Doubled, nf_Doubled_name := nf_Doubled_name, a_NoPort := C_NoPort, c_NoPort := PySem.W.mg_of X G g_NoPort, ox_NoPort := ⟨⟨nm_NoPort, q_NoPort, N_NoPort, bs_NoPort, bm_NoPort, sn_NoPort, su_NoPort, ab_NoPort, co_NoPort, dd_NoPort, m0_NoPort, m1_NoPort, m2_NoPort, m3_NoPort, m5_NoPort, xl_NoPort, hb_NoPort⟩, sa_NoPort, ec_NoPort, tc_NoPort, kc_NoPort⟩, xf_NoPort := ⟨ga_NoPort, gg_NoPort, ec_NoPort, hd_NoPort⟩, in_NoPort := in_NoPort, tf_NoPort := tf_NoPort, nf_NoPort_found := nf_NoPort_found, a_NoChannel := C_NoChannel, c_NoChannel := PySem.W.mg_of X G g_NoChannel, ox_NoChannel := ⟨⟨nm_NoChannel, q_NoChannel, N_NoChannel, bs_NoChannel, bm_NoChannel, sn_NoChannel, su_NoChannel, ab_NoChannel, co_NoChannel, dd_NoChannel, m0_NoChannel, m1_NoChannel, m2_NoChannel, m3_NoChannel, m5_NoChannel, xl_NoChannel, hb_NoChannel⟩, sa_NoChannel, ec_NoChannel, tc_NoChannel, kc_NoChannel⟩, xf_NoChannel := ⟨ga_NoChannel, gg_NoChannel, ec_NoChannel, hd_NoChannel⟩, in_NoChannel := in_NoChannel, tf_NoChannel := tf_NoChannel, nf_NoChannel_found := nf_NoChannel_found, a_NoVessel := C_NoVessel, c_NoVessel := PySem.W.mg_of X G g_NoVessel, ox_NoVessel := ⟨⟨nm_NoVessel, q_NoVessel, N_NoVessel, bs_NoVessel, bm_NoVessel, sn_NoVessel, su_NoVessel, ab_NoVessel, co_NoVessel, dd_NoVessel, m0_NoVessel, m1_NoVessel, m2_NoVessel, m3_NoVessel, m5_NoVessel, xl_NoVessel, hb_NoVessel⟩, sa_NoVessel, ec_NoVessel, tc_NoVessel, kc_NoVessel⟩, xf_NoVessel := ⟨ga_NoVessel, gg_NoVessel, ec_NoVessel, hd_NoVessel⟩, in_NoVessel := in_NoVessel, tf_NoVessel := tf_NoVessel, nf_NoVessel_found := nf_NoVessel_found, a_NoKind := C_NoKind, c_NoKind := PySem.W.mg_of X G g_NoKind, ox_NoKind := ⟨⟨nm_NoKind, q_NoKind, N_NoKind, bs_NoKind, bm_NoKind, sn_NoKind, su_NoKind, ab_NoKind, co_NoKind, dd_NoKind, m0_NoKind, m1_NoKind, m2_NoKind, m3_NoKind, m5_NoKind, xl_NoKind, hb_NoKind⟩, sa_NoKind, ec_NoKind, tc_NoKind, kc_NoKind⟩, xf_NoKind := ⟨ga_NoKind, gg_NoKind, ec_NoKind, hd_NoKind⟩, in_NoKind := in_NoKind, tf_NoKind := tf_NoKind, nf_NoKind_found := nf_NoKind_found, a_NoWorld := C_NoWorld, c_NoWorld := PySem.W.mg_of X G g_NoWorld, ox_NoWorld := ⟨⟨nm_NoWorld, q_NoWorld, N_NoWorld, bs_NoWorld, bm_NoWorld, sn_NoWorld, su_NoWorld, ab_NoWorld, co_NoWorld, dd_NoWorld, m0_NoWorld, m1_NoWorld, m2_NoWorld, m3_NoWorld, m5_NoWorld, xl_NoWorld, hb_NoWorld⟩, sa_NoWorld, ec_NoWorld, tc_NoWorld, kc_NoWorld⟩, xf_NoWorld := ⟨ga_NoWorld, gg_NoWorld, ec_NoWorld, hd_NoWorld⟩, in_NoWorld := in_NoWorld, tf_NoWorld := tf_NoWorld, nf_NoWorld_found := nf_NoWorld_found, a_Channel := C_Channel, c_Channel := PySem.W.mg_of X G g_Channel, cl_Channel := ⟨pg_Channel, hd_Channel, po_Channel, sa_Channel⟩, mk_Channel := ⟨mk_Channel, in_Channel, if_Channel, kc_Channel⟩, na_Channel_name := na_Channel_name, na_Channel_one := na_Channel_one, na_Channel_other := na_Channel_other, na_Channel_hours := na_Channel_hours, na_Channel_depth := na_Channel_depth, na_Channel_first := na_Channel_first, na_Channel_growth := na_Channel_growth, na_Channel_most := na_Channel_most, me_Channel_ends := ⟨me_Channel_ends, mi_Channel_ends, k45⟩, me_Channel_row := ⟨me_Channel_row, mi_Channel_row, k46⟩, a_Vessel := C_Vessel, c_Vessel := PySem.W.mg_of X G g_Vessel, cl_Vessel := ⟨pg_Vessel, hd_Vessel, po_Vessel, sa_Vessel⟩, mk_Vessel := ⟨mk_Vessel, in_Vessel, if_Vessel, kc_Vessel⟩, ki_Vessel := ⟨ks_Vessel, kt_Vessel, kr_Vessel, kf_Vessel, k47⟩, na_Vessel_name := na_Vessel_name, na_Vessel_port := na_Vessel_port, na_Vessel_hour := na_Vessel_hour, na_Vessel_strength := na_Vessel_strength, na_Vessel_draught := na_Vessel_draught, me_Vessel_kind := ⟨me_Vessel_kind, mi_Vessel_kind, k48⟩, me_Vessel_thins := ⟨me_Vessel_thins, mi_Vessel_thins, k49⟩, me_Vessel_row := ⟨me_Vessel_row, mi_Vessel_row, k50⟩, a_Breaker := C_Breaker, c_Breaker := PySem.W.mg_of X G g_Breaker, cl_Breaker := ⟨pg_Breaker, hd_Breaker, po_Breaker, sa_Breaker⟩, mk_Breaker := ⟨mk_Breaker, in_Breaker, if_Breaker, kc_Breaker⟩, na_Breaker_name := na_Breaker_name, na_Breaker_port := na_Breaker_port, na_Breaker_hour := na_Breaker_hour, na_Breaker_strength := na_Breaker_strength, na_Breaker_draught := na_Breaker_draught, na_Breaker_cut := na_Breaker_cut, me_Breaker_kind := ⟨me_Breaker_kind, mi_Breaker_kind, k52⟩, me_Breaker_thins := ⟨me_Breaker_thins, mi_Breaker_thins, k53⟩, me_Breaker_row := ⟨me_Breaker_row, mi_Breaker_row, k54⟩, a_Ship := C_Ship, c_Ship := PySem.W.mg_of X G g_Ship, cl_Ship := ⟨pg_Ship, hd_Ship, po_Ship, sa_Ship⟩, mk_Ship := ⟨mk_Ship, in_Ship, if_Ship, kc_Ship⟩, na_Ship_name := na_Ship_name, na_Ship_port := na_Ship_port, na_Ship_hour := na_Ship_hour, na_Ship_strength := na_Ship_strength, na_Ship_draught := na_Ship_draught, na_Ship_goal := na_Ship_goal, me_Ship_kind := ⟨me_Ship_kind, mi_Ship_kind, k56⟩, me_Ship_row := ⟨me_Ship_row, mi_Ship_row, k57⟩, me_Ship_thins := ⟨me_Ship_thins, mi_Ship_thins, k49⟩, a_World := C_World, c_World := PySem.W.mg_of X G g_World, cl_World := ⟨pg_World, hd_World, po_World, sa_World⟩, mk_World := ⟨mk_World, in_World, if_World, kc_World⟩, na_World__begin := na_World__begin, na_World__ports := na_World__ports, na_World__channels := na_World__channels, na_World__breakers := na_World__breakers, na_World__ships := na_World__ships, na_World__channel_of := na_World__channel_of, na_World__vessel_of := na_World__vessel_of, me_World_begin_hour := ⟨me_World_begin_hour, mi_World_begin_hour, k59⟩, me_World_ports := ⟨me_World_ports, mi_World_ports, k60⟩, me_World_channels := ⟨me_World_channels, mi_World_channels, k61⟩, me_World_breakers := ⟨me_World_breakers, mi_World_breakers, k62⟩, me_World_ships := ⟨me_World_ships, mi_World_ships, k63⟩, me_World_vessels := ⟨me_World_vessels, mi_World_vessels, k64⟩, me_World_channel := ⟨me_World_channel, mi_World_channel, k65⟩, me_World_vessel := ⟨me_World_vessel, mi_World_vessel, k66⟩, me_World_told := ⟨me_World_told, mi_World_told, k67⟩, ex_NoName_NoWorld := ex_NoName_NoWorld, ex_NoName_Doubled := ex_NoName_Doubled, ex_NoName_NoPort := ex_NoName_NoPort, ex_NoName_IceError := ex_NoName_IceError, ex_NoNumber_NoWorld := ex_NoNumber_NoWorld, ex_NoNumber_Doubled := ex_NoNumber_Doubled, ex_NoNumber_NoPort := ex_NoNumber_NoPort, ex_NoNumber_IceError := ex_NoNumber_IceError, ex_Doubled_NoWorld := ex_Doubled_NoWorld, ex_Doubled_Doubled := ex_Doubled_Doubled, ex_Doubled_NoPort := ex_Doubled_NoPort, ex_Doubled_IceError := ex_Doubled_IceError, ex_NoPort_NoWorld := ex_NoPort_NoWorld, ex_NoPort_Doubled := ex_NoPort_Doubled, ex_NoPort_NoPort := ex_NoPort_NoPort, ex_NoPort_IceError := ex_NoPort_IceError, ex_NoChannel_NoWorld := ex_NoChannel_NoWorld, ex_NoChannel_Doubled := ex_NoChannel_Doubled, ex_NoChannel_NoPort := ex_NoChannel_NoPort, ex_NoChannel_IceError := ex_NoChannel_IceError, ex_NoVessel_NoWorld := ex_NoVessel_NoWorld, ex_NoVessel_Doubled := ex_NoVessel_Doubled, ex_NoVessel_NoPort := ex_NoVessel_NoPort, ex_NoVessel_IceError := ex_NoVessel_IceError, ex_NoKind_NoWorld := ex_NoKind_NoWorld, ex_NoKind_Doubled := ex_NoKind_Doubled, ex_NoKind_NoPort := ex_NoKind_NoPort, ex_NoKind_IceError := ex_NoKind_IceError, ex_NoWorld_NoWorld := ex_NoWorld_NoWorld, ex_NoWorld_Doubled := ex_NoWorld_Doubled, ex_NoWorld_NoPort := ex_NoWorld_NoPort, ex_NoWorld_IceError := ex_NoWorld_IceError, sgc := sgc, tkc := tkc, ca_Channel := ca_Channel, mo_Channel := mo_Channel, io_Channel_Channel := io_Channel_Channel, io_Channel_Breaker := io_Channel_Breaker, io_Channel_Ship := io_Channel_Ship, ca_Vessel := ca_Vessel, mo_Vessel := mo_Vessel, io_Vessel_Channel := io_Vessel_Channel, io_Vessel_Breaker := io_Vessel_Breaker, io_Vessel_Ship := io_Vessel_Ship, ca_Breaker := ca_Breaker, mo_Breaker := mo_Breaker, io_Breaker_Channel := io_Breaker_Channel, io_Breaker_Breaker := io_Breaker_Breaker, io_Breaker_Ship := io_Breaker_Ship, ca_Ship := ca_Ship, mo_Ship := mo_Ship, io_Ship_Channel := io_Ship_Channel, io_Ship_Breaker := io_Ship_Breaker, io_Ship_Ship := io_Ship_Ship, ca_World := ca_World, mo_World := mo_World, io_World_Channel := io_World_Channel, io_World_Breaker := io_World_Breaker, io_World_Ship := io_World_Ship, io_Channel_list := io_Channel_list, io_Channel_tuple := io_Channel_tuple, io_Channel_str := io_Channel_str, eq_Channel := eq_Channel, io_Vessel_list := io_Vessel_list, io_Vessel_tuple := io_Vessel_tuple, io_Vessel_str := io_Vessel_str, eq_Vessel := eq_Vessel, io_Breaker_list := io_Breaker_list, io_Breaker_tuple := io_Breaker_tuple, io_Breaker_str := io_Breaker_str, eq_Breaker := eq_Breaker, io_Ship_list := io_Ship_list, io_Ship_tuple := io_Ship_tuple, io_Ship_str := io_Ship_str, eq_Ship := eq_Ship, ne_Ship := ne_Ship, io_World_list := io_World_list, io_World_tuple := io_World_tuple, io_World_str := io_World_str, eq_World := eq_World, ib_NoneType_Channel := ib_NoneType_Channel, ib_NoneType_Breaker := ib_NoneType_Breaker, ib_NoneType_Ship := ib_NoneType_Ship, ib_int_Channel := ib_int_Channel, ib_int_Breaker := ib_int_Breaker, ib_int_Ship := ib_int_Ship, ib_str_Channel := ib_str_Channel, ib_str_Breaker := ib_str_Breaker, ib_str_Ship := ib_str_Ship, ib_list_Channel := ib_list_Channel, ib_list_Breaker := ib_list_Breaker, ib_list_Ship := ib_list_Ship, ib_bool_Channel := ib_bool_Channel, ib_bool_Breaker := ib_bool_Breaker, ib_bool_Ship := ib_bool_Ship, ib_dict_Channel := ib_dict_Channel, ib_dict_Breaker := ib_dict_Breaker, ib_dict_Ship := ib_dict_Ship, ib_tuple_Channel := ib_tuple_Channel, ib_tuple_Breaker := ib_tuple_Breaker, ib_tuple_Ship := ib_tuple_Ship, a_is_whole := f0, d_is_whole := _, F_is_whole := F0, b_is_whole := b0, m_is_whole := PySem.W.mg_of X G a0, a_is_within := f1, d_is_within := _, F_is_within := F1, b_is_within := b1, m_is_within := PySem.W.mg_of X G a1, a_is_name := f2, d_is_name := _, F_is_name := F2, b_is_name := b2, m_is_name := PySem.W.mg_of X G a2, a_all_between := f3, d_all_between := _, F_all_between := F3, b_all_between := b3, m_all_between := PySem.W.mg_of X G a3, a_check_number := f4, d_check_number := _, F_check_number := F4, b_check_number := b4, m_check_number := PySem.W.mg_of X G a4, a_check_names := f5, d_check_names := _, F_check_names := F5, b_check_names := b5, m_check_names := PySem.W.mg_of X G a5, a_rows_of := f6, d_rows_of := _, F_rows_of := F6, b_rows_of := b6, m_rows_of := PySem.W.mg_of X G a6, a_check_kinds := f7, d_check_kinds := _, F_check_kinds := F7, b_check_kinds := b7, m_check_kinds := PySem.W.mg_of X G a7, a_holds_at_most := f8, d_holds_at_most := _, F_holds_at_most := F8, b_holds_at_most := b8, m_holds_at_most := PySem.W.mg_of X G a8, a_check_unlike := f9, d_check_unlike := _, F_check_unlike := F9, b_check_unlike := b9, m_check_unlike := PySem.W.mg_of X G a9, a_check_ports := f10, d_check_ports := _, F_check_ports := F10, b_check_ports := b10, m_check_ports := PySem.W.mg_of X G a10, a_turned := f11, d_turned := _, F_turned := F11, b_turned := b11, m_turned := PySem.W.mg_of X G a11, a_with_ship := f12, d_with_ship := _, F_with_ship := F12, b_with_ship := b12, m_with_ship := PySem.W.mg_of X G a12, a_without := f13, d_without := _, F_without := F13, b_without := b13, m_without := PySem.W.mg_of X G a13, a_channel_anew := f14, d_channel_anew := _, F_channel_anew := F14, b_channel_anew := b14, m_channel_anew := PySem.W.mg_of X G a14, a_breaker_anew := f15, d_breaker_anew := _, F_breaker_anew := F15, b_breaker_anew := b15, m_breaker_anew := PySem.W.mg_of X G a15, a_ship_anew := f16, d_ship_anew := _, F_ship_anew := F16, b_ship_anew := b16, m_ship_anew := PySem.W.mg_of X G a16, a_cell := f17, d_cell := _, F_cell := F17, b_cell := b17, m_cell := PySem.W.mg_of X G a17, a_box := f18, d_box := _, F_box := F18, b_box := b18, m_box := PySem.W.mg_of X G a18, a_take := f19, d_take := _, F_take := F19, b_take := b19, m_take := PySem.W.mg_of X G a19, a_names := f20, d_names := _, F_names := F20, b_names := b20, m_names := PySem.W.mg_of X G a20, a_number := f21, d_number := _, F_number := F21, b_number := b21, m_number := PySem.W.mg_of X G a21, a_channel := f22, d_channel := _, F_channel := F22, b_channel := b22, m_channel := PySem.W.mg_of X G a22, a_breaker := f23, d_breaker := _, F_breaker := F23, b_breaker := b23, m_breaker := PySem.W.mg_of X G a23, a_ship := f24, d_ship := _, F_ship := F24, b_ship := b24, m_ship := PySem.W.mg_of X G a24, a_world := f25, d_world := _, F_world := F25, b_world := b25, m_world := PySem.W.mg_of X G a25, a_few := f26, d_few := _, F_few := F26, b_few := b26, m_few := PySem.W.mg_of X G a26, a_made := f27, d_made := _, F_made := F27, b_made := b27, m_made := PySem.W.mg_of X G a27, a_turned_due := f28, d_turned_due := _, F_turned_due := F28, b_turned_due := b28, m_turned_due := PySem.W.mg_of X G a28, a_ship_due := f29, d_ship_due := _, F_ship_due := F29, b_ship_due := b29, m_ship_due := PySem.W.mg_of X G a29, a_with := f30, d_with := _, F_with := F30, b_with := b30, m_with := PySem.W.mg_of X G a30, a_without_due := f31, d_without_due := _, F_without_due := F31, b_without_due := b31, m_without_due := PySem.W.mg_of X G a31, a_same_things := f32, d_same_things := _, F_same_things := F32, b_same_things := b32, m_same_things := PySem.W.mg_of X G a32, a_new_ship := f33, d_new_ship := _, F_new_ship := F33, b_new_ship := b33, m_new_ship := PySem.W.mg_of X G a33, a_right := f34, d_right := _, F_right := F34, b_right := b34, m_right := PySem.W.mg_of X G a34, a_law := fa, d_law := _, F_law := F35, b_law := b35, m_law := PySem.W.mg_of X G a35, a_NoName___init__ := f36, d_NoName___init__ := _, F_NoName___init__ := F36, b_NoName___init__ := b36, a_NoNumber___init__ := f37, d_NoNumber___init__ := _, F_NoNumber___init__ := F37, b_NoNumber___init__ := b37, a_Doubled___init__ := f38, d_Doubled___init__ := _, F_Doubled___init__ := F38, b_Doubled___init__ := b38, a_NoPort___init__ := f39, d_NoPort___init__ := _, F_NoPort___init__ := F39, b_NoPort___init__ := b39, a_NoChannel___init__ := f40, d_NoChannel___init__ := _, F_NoChannel___init__ := F40, b_NoChannel___init__ := b40, a_NoVessel___init__ := f41, d_NoVessel___init__ := _, F_NoVessel___init__ := F41, b_NoVessel___init__ := b41, a_NoKind___init__ := f42, d_NoKind___init__ := _, F_NoKind___init__ := F42, b_NoKind___init__ := b42, a_NoWorld___init__ := f43, d_NoWorld___init__ := _, F_NoWorld___init__ := F43, b_NoWorld___init__ := b43, a_Channel___init__ := f44, d_Channel___init__ := _, F_Channel___init__ := F44, b_Channel___init__ := b44, a_Channel_ends := f45, d_Channel_ends := _, F_Channel_ends := F45, b_Channel_ends := b45, a_Channel_row := f46, d_Channel_row := _, F_Channel_row := F46, b_Channel_row := b46, a_Vessel___init__ := f47, d_Vessel___init__ := _, F_Vessel___init__ := F47, b_Vessel___init__ := b47, a_Vessel_kind := f48, d_Vessel_kind := _, F_Vessel_kind := F48, b_Vessel_kind := b48, a_Vessel_thins := f49, d_Vessel_thins := _, F_Vessel_thins := F49, b_Vessel_thins := b49, a_Vessel_row := f50, d_Vessel_row := _, F_Vessel_row := F50, b_Vessel_row := b50, a_Breaker___init__ := f51, d_Breaker___init__ := _, F_Breaker___init__ := F51, b_Breaker___init__ := b51, a_Breaker_kind := f52, d_Breaker_kind := _, F_Breaker_kind := F52, b_Breaker_kind := b52, a_Breaker_thins := f53, d_Breaker_thins := _, F_Breaker_thins := F53, b_Breaker_thins := b53, a_Breaker_row := f54, d_Breaker_row := _, F_Breaker_row := F54, b_Breaker_row := b54, a_Ship___init__ := f55, d_Ship___init__ := _, F_Ship___init__ := F55, b_Ship___init__ := b55, a_Ship_kind := f56, d_Ship_kind := _, F_Ship_kind := F56, b_Ship_kind := b56, a_Ship_row := f57, d_Ship_row := _, F_Ship_row := F57, b_Ship_row := b57, a_World___init__ := f58, d_World___init__ := _, F_World___init__ := F58, b_World___init__ := b58, a_World_begin_hour := f59, d_World_begin_hour := _, F_World_begin_hour := F59, b_World_begin_hour := b59, a_World_ports := f60, d_World_ports := _, F_World_ports := F60, b_World_ports := b60, a_World_channels := f61, d_World_channels := _, F_World_channels := F61, b_World_channels := b61, a_World_breakers := f62, d_World_breakers := _, F_World_breakers := F62, b_World_breakers := b62, a_World_ships := f63, d_World_ships := _, F_World_ships := F63, b_World_ships := b63, a_World_vessels := f64, d_World_vessels := _, F_World_vessels := F64, b_World_vessels := b64, a_World_channel := f65, d_World_channel := _, F_World_channel := F65, b_World_channel := b65, a_World_vessel := f66, d_World_vessel := _, F_World_vessel := F66, b_World_vessel := b66, a_World_told := f67, d_World_told := _, F_World_told := F67, b_World_told := b67, t_NAME_MOST := t_NAME_MOST, c_NAME_MOST := PySem.W.mg_of X G c_NAME_MOST, t_HOURS_MOST := t_HOURS_MOST, c_HOURS_MOST := PySem.W.mg_of X G c_HOURS_MOST, t_DEPTH_MOST := t_DEPTH_MOST, c_DEPTH_MOST := PySem.W.mg_of X G c_DEPTH_MOST, t_GROWTH_MOST := t_GROWTH_MOST, c_GROWTH_MOST := PySem.W.mg_of X G c_GROWTH_MOST, t_THICK_MOST := t_THICK_MOST, c_THICK_MOST := PySem.W.mg_of X G c_THICK_MOST, t_HOUR_MOST := t_HOUR_MOST, c_HOUR_MOST := PySem.W.mg_of X G c_HOUR_MOST, t_STRENGTH_MOST := t_STRENGTH_MOST, c_STRENGTH_MOST := PySem.W.mg_of X G c_STRENGTH_MOST, t_CUT_MOST := t_CUT_MOST, c_CUT_MOST := PySem.W.mg_of X G c_CUT_MOST, t_BEGIN_MOST := t_BEGIN_MOST, c_BEGIN_MOST := PySem.W.mg_of X G c_BEGIN_MOST, t_PORTS_MOST := t_PORTS_MOST, c_PORTS_MOST := PySem.W.mg_of X G c_PORTS_MOST, t_CHANNELS_MOST := t_CHANNELS_MOST, c_CHANNELS_MOST := PySem.W.mg_of X G c_CHANNELS_MOST, t_BREAKERS_MOST := t_BREAKERS_MOST, c_BREAKERS_MOST := PySem.W.mg_of X G c_BREAKERS_MOST, t_SHIPS_MOST := t_SHIPS_MOST, c_SHIPS_MOST := PySem.W.mg_of X G c_SHIPS_MOST, n_isinstance := PySem.W.mg_none_of X G n_isinstance, n_int := PySem.W.mg_none_of X G n_int, n_bool := PySem.W.mg_none_of X G n_bool, n_str := PySem.W.mg_none_of X G n_str, n_len := PySem.W.mg_none_of X G n_len, n_tuple := PySem.W.mg_none_of X G n_tuple, n_all := PySem.W.mg_none_of X G n_all, n_list := PySem.W.mg_none_of X G n_list, n_max := PySem.W.mg_none_of X G n_max, n_range := PySem.W.mg_none_of X G n_range, n_repr := PySem.W.mg_none_of X G n_repr, n_min := PySem.W.mg_none_of X G n_min }
  exact ⟨_, fun s v => .of_eq rfl, fun base _ _ => hL (P := l.prog) (w := w) (K := K) (mg := mg) (base := base) T⟩
end Ice
namespace HeadI
open PySem PySem.W PySem.Calls PyProof.Rows
abbrev R : OpenRow := OpenLaw.row PySem.Challenge.rw_iceopened_k76_turned_more_and_less
abbrev qv : Program := view R.prog [70]
def loose : List PySem.Str := (["_wall", "IceError", "NoName", "NoNumber", "Doubled", "NoPort", "NoChannel", "NoVessel", "NoKind", "NoWorld", "NAME_MOST", "is_whole", "is_within", "is_name", "_all_between", "check_number", "HOURS_MOST", "DEPTH_MOST", "GROWTH_MOST", "THICK_MOST", "HOUR_MOST", "STRENGTH_MOST", "CUT_MOST", "Channel", "Vessel", "Breaker", "Ship", "_check_names", "BEGIN_MOST", "PORTS_MOST"] : List PySem.Str) ++ (["CHANNELS_MOST", "BREAKERS_MOST", "SHIPS_MOST", "World", "_rows_of", "_check_kinds", "_holds_at_most", "_check_unlike", "_check_ports", "turned", "with_ship", "without", "_channel_anew", "_breaker_anew", "_ship_anew", "_law_cell", "_law_box", "_law_take", "_law_names", "_law_number", "_law_channel", "_law_breaker", "_law_ship", "_law_world", "_law_few", "_law_made", "_law_turned_due", "_law_ship_due", "_law_with", "_law_without_due"] : List PySem.Str) ++ (["_law_same_things", "_law_new_ship", "_law_right"] : List PySem.Str)
end HeadI
section
open PySem PySem.W PySem.Calls PyProof.Rows
set_option maxHeartbeats 0
local macro_rules | `(tactic| o_headL ($f $k $a $e)) => `(tactic| refine HandSHeadRun.head_any (r := HeadI.R) (q := HeadI.qv) (H := $f $k $a $e) (ob := fun s => List.map (HandSHeadRun.getT s) $a) (M := 40000) (loose := HeadI.loose) (d := HandSHeadRun.topDef HeadI.R.prog 70) (kwd := []) (fun s => List.map_congr_left fun a _ => HandSHeadRun.getT_eq s a) (by kernel_rfl) (fun s => by kernel_rfl) (fun w => byRow2 "special-get-raises" (fun w => by intro os; kernel_rfl) (fun w => by intro os; kernel_rfl) w) (by kernel_rfl) (by kernel_rfl) (by kernel_rfl) (by rfl) (by first | assumption | decide +kernel) (by decide +kernel) ⟨rfl, rfl, rfl, rfl, rfl, by decide +kernel⟩ ?hw ?hc)
set_option maxRecDepth 100000 in
set_option maxHeartbeats 0 in
theorem Ice.head_of (hL : ∀ (P : Program) (w : World) (K : PySem.W.Frag) (mg : Str → Option Value) (base : Heap) (T : Ice.Top K mg), Ice.FnG P w K mg base L2.CX0 10 T.a_law T.d_law ["_law_script"] (Ice.spLaw K)) : PySem.Challenge.rw_iceopened_k76_turned_more_and_less.Holds := by
  w_on; o_law; k_headL; (case hw => w_witness2)
  k_fill
  refine Ice.walkG (l := PySem.Challenge.rw_iceopened_k76_turned_more_and_less) (n := 63) (k := 10) (x := "_law_script") (sp := Ice.spLaw) rfl (by decide) rfl ⟨rfl, by decide, by decide⟩ (fun w h Y => PySem.W.kIn_of Y) ?F Ice.law_sp
  case F =>
    intro w mg fa h KX G hmg
    refine' Ice.all_mk hL KX G hmg ?g_IceError ?sp_IceError ?ty_IceError ?rd_IceError ?fc_IceError ?g_NoName ?xl_NoName ?hb_NoName ?sa_NoName ?ec_NoName ?tc_NoName ?kc_NoName ?ga_NoName ?gg_NoName ?hd_NoName ?in_NoName ?tf_NoName ?nf_NoName_found ?g_NoNumber ?xl_NoNumber ?hb_NoNumber ?sa_NoNumber ?ec_NoNumber ?tc_NoNumber ?kc_NoNumber ?ga_NoNumber ?gg_NoNumber ?hd_NoNumber ?in_NoNumber ?tf_NoNumber ?nf_NoNumber_found ?g_Doubled ?xl_Doubled ?hb_Doubled ?sa_Doubled ?ec_Doubled ?tc_Doubled ?kc_Doubled ?ga_Doubled ?gg_Doubled ?hd_Doubled ?in_Doubled ?tf_Doubled ?nf_Doubled_name ?g_NoPort ?xl_NoPort ?hb_NoPort ?sa_NoPort ?ec_NoPort ?tc_NoPort ?kc_NoPort ?ga_NoPort ?gg_NoPort ?hd_NoPort ?in_NoPort ?tf_NoPort ?nf_NoPort_found ?g_NoChannel ?xl_NoChannel ?hb_NoChannel ?sa_NoChannel ?ec_NoChannel ?tc_NoChannel ?kc_NoChannel ?ga_NoChannel ?gg_NoChannel ?hd_NoChannel ?in_NoChannel ?tf_NoChannel ?nf_NoChannel_found ?g_NoVessel ?xl_NoVessel ?hb_NoVessel ?sa_NoVessel ?ec_NoVessel ?tc_NoVessel ?kc_NoVessel ?ga_NoVessel ?gg_NoVessel ?hd_NoVessel ?in_NoVessel ?tf_NoVessel ?nf_NoVessel_found ?g_NoKind ?xl_NoKind ?hb_NoKind ?sa_NoKind ?ec_NoKind ?tc_NoKind ?kc_NoKind ?ga_NoKind ?gg_NoKind ?hd_NoKind ?in_NoKind ?tf_NoKind ?nf_NoKind_found ?g_NoWorld ?xl_NoWorld ?hb_NoWorld ?sa_NoWorld ?ec_NoWorld ?tc_NoWorld ?kc_NoWorld ?ga_NoWorld ?gg_NoWorld ?hd_NoWorld ?in_NoWorld ?tf_NoWorld ?nf_NoWorld_found ?g_Channel ?pg_Channel ?hd_Channel ?po_Channel ?sa_Channel ?mk_Channel ?in_Channel ?if_Channel ?kc_Channel ?na_Channel_name ?na_Channel_one ?na_Channel_other ?na_Channel_hours ?na_Channel_depth ?na_Channel_first ?na_Channel_growth ?na_Channel_most ?me_Channel_ends ?mi_Channel_ends ?me_Channel_row ?mi_Channel_row ?g_Vessel ?pg_Vessel ?hd_Vessel ?po_Vessel ?sa_Vessel ?mk_Vessel ?in_Vessel ?if_Vessel ?kc_Vessel ?ks_Vessel ?kt_Vessel ?kr_Vessel ?kf_Vessel ?na_Vessel_name ?na_Vessel_port ?na_Vessel_hour ?na_Vessel_strength ?na_Vessel_draught ?me_Vessel_kind ?mi_Vessel_kind ?me_Vessel_thins ?mi_Vessel_thins ?me_Vessel_row ?mi_Vessel_row ?g_Breaker ?pg_Breaker ?hd_Breaker ?po_Breaker ?sa_Breaker ?mk_Breaker ?in_Breaker ?if_Breaker ?kc_Breaker ?na_Breaker_name ?na_Breaker_port ?na_Breaker_hour ?na_Breaker_strength ?na_Breaker_draught ?na_Breaker_cut ?me_Breaker_kind ?mi_Breaker_kind ?me_Breaker_thins ?mi_Breaker_thins ?me_Breaker_row ?mi_Breaker_row ?g_Ship ?pg_Ship ?hd_Ship ?po_Ship ?sa_Ship ?mk_Ship ?in_Ship ?if_Ship ?kc_Ship ?na_Ship_name ?na_Ship_port ?na_Ship_hour ?na_Ship_strength ?na_Ship_draught ?na_Ship_goal ?me_Ship_kind ?mi_Ship_kind ?me_Ship_row ?mi_Ship_row ?me_Ship_thins ?mi_Ship_thins ?g_World ?pg_World ?hd_World ?po_World ?sa_World ?mk_World ?in_World ?if_World ?kc_World ?na_World__begin ?na_World__ports ?na_World__channels ?na_World__breakers ?na_World__ships ?na_World__channel_of ?na_World__vessel_of ?me_World_begin_hour ?mi_World_begin_hour ?me_World_ports ?mi_World_ports ?me_World_channels ?mi_World_channels ?me_World_breakers ?mi_World_breakers ?me_World_ships ?mi_World_ships ?me_World_vessels ?mi_World_vessels ?me_World_channel ?mi_World_channel ?me_World_vessel ?mi_World_vessel ?me_World_told ?mi_World_told ?ex_NoName_NoWorld ?ex_NoName_Doubled ?ex_NoName_NoPort ?ex_NoName_IceError ?ex_NoNumber_NoWorld ?ex_NoNumber_Doubled ?ex_NoNumber_NoPort ?ex_NoNumber_IceError ?ex_Doubled_NoWorld ?ex_Doubled_Doubled ?ex_Doubled_NoPort ?ex_Doubled_IceError ?ex_NoPort_NoWorld ?ex_NoPort_Doubled ?ex_NoPort_NoPort ?ex_NoPort_IceError ?ex_NoChannel_NoWorld ?ex_NoChannel_Doubled ?ex_NoChannel_NoPort ?ex_NoChannel_IceError ?ex_NoVessel_NoWorld ?ex_NoVessel_Doubled ?ex_NoVessel_NoPort ?ex_NoVessel_IceError ?ex_NoKind_NoWorld ?ex_NoKind_Doubled ?ex_NoKind_NoPort ?ex_NoKind_IceError ?ex_NoWorld_NoWorld ?ex_NoWorld_Doubled ?ex_NoWorld_NoPort ?ex_NoWorld_IceError ?sgc ?tkc ?ca_Channel ?mo_Channel ?io_Channel_Channel ?io_Channel_Breaker ?io_Channel_Ship ?ca_Vessel ?mo_Vessel ?io_Vessel_Channel ?io_Vessel_Breaker ?io_Vessel_Ship ?ca_Breaker ?mo_Breaker ?io_Breaker_Channel ?io_Breaker_Breaker ?io_Breaker_Ship ?ca_Ship ?mo_Ship ?io_Ship_Channel ?io_Ship_Breaker ?io_Ship_Ship ?ca_World ?mo_World ?io_World_Channel ?io_World_Breaker ?io_World_Ship ?io_Channel_list ?io_Channel_tuple ?io_Channel_str ?eq_Channel ?io_Vessel_list ?io_Vessel_tuple ?io_Vessel_str ?eq_Vessel ?io_Breaker_list ?io_Breaker_tuple ?io_Breaker_str ?eq_Breaker ?io_Ship_list ?io_Ship_tuple ?io_Ship_str ?eq_Ship ?ne_Ship ?io_World_list ?io_World_tuple ?io_World_str ?eq_World ?ib_NoneType_Channel ?ib_NoneType_Breaker ?ib_NoneType_Ship ?ib_int_Channel ?ib_int_Breaker ?ib_int_Ship ?ib_str_Channel ?ib_str_Breaker ?ib_str_Ship ?ib_list_Channel ?ib_list_Breaker ?ib_list_Ship ?ib_bool_Channel ?ib_bool_Breaker ?ib_bool_Ship ?ib_dict_Channel ?ib_dict_Breaker ?ib_dict_Ship ?ib_tuple_Channel ?ib_tuple_Breaker ?ib_tuple_Ship ?a0 ?l0 ?p0 ?k0 ?a1 ?l1 ?p1 ?k1 ?a2 ?l2 ?p2 ?k2 ?a3 ?l3 ?p3 ?k3 ?a4 ?l4 ?p4 ?k4 ?a5 ?l5 ?p5 ?k5 ?a6 ?l6 ?p6 ?k6 ?a7 ?l7 ?p7 ?k7 ?a8 ?l8 ?p8 ?k8 ?a9 ?l9 ?p9 ?k9 ?a10 ?l10 ?p10 ?k10 ?a11 ?l11 ?p11 ?k11 ?a12 ?l12 ?p12 ?k12 ?a13 ?l13 ?p13 ?k13 ?a14 ?l14 ?p14 ?k14 ?a15 ?l15 ?p15 ?k15 ?a16 ?l16 ?p16 ?k16 ?a17 ?l17 ?p17 ?k17 ?a18 ?l18 ?p18 ?k18 ?a19 ?l19 ?p19 ?k19 ?a20 ?l20 ?p20 ?k20 ?a21 ?l21 ?p21 ?k21 ?a22 ?l22 ?p22 ?k22 ?a23 ?l23 ?p23 ?k23 ?a24 ?l24 ?p24 ?k24 ?a25 ?l25 ?p25 ?k25 ?a26 ?l26 ?p26 ?k26 ?a27 ?l27 ?p27 ?k27 ?a28 ?l28 ?p28 ?k28 ?a29 ?l29 ?p29 ?k29 ?a30 ?l30 ?p30 ?k30 ?a31 ?l31 ?p31 ?k31 ?a32 ?l32 ?p32 ?k32 ?a33 ?l33 ?p33 ?k33 ?a34 ?l34 ?p34 ?k34 ?a35 ?l35 ?p35 ?k35 ?l36 ?p36 ?k36 ?l37 ?p37 ?k37 ?l38 ?p38 ?k38 ?l39 ?p39 ?k39 ?l40 ?p40 ?k40 ?l41 ?p41 ?k41 ?l42 ?p42 ?k42 ?l43 ?p43 ?k43 ?l44 ?p44 ?k44 ?l45 ?p45 ?k45 ?l46 ?p46 ?k46 ?l47 ?p47 ?k47 ?l48 ?p48 ?k48 ?l49 ?p49 ?k49 ?l50 ?p50 ?k50 ?l51 ?p51 ?k51 ?l52 ?p52 ?k52 ?l53 ?p53 ?k53 ?l54 ?p54 ?k54 ?l55 ?p55 ?k55 ?l56 ?p56 ?k56 ?l57 ?p57 ?k57 ?l58 ?p58 ?k58 ?l59 ?p59 ?k59 ?l60 ?p60 ?k60 ?l61 ?p61 ?k61 ?l62 ?p62 ?k62 ?l63 ?p63 ?k63 ?l64 ?p64 ?k64 ?l65 ?p65 ?k65 ?l66 ?p66 ?k66 ?l67 ?p67 ?k67 ?c_NAME_MOST ?c_HOURS_MOST ?c_DEPTH_MOST ?c_GROWTH_MOST ?c_THICK_MOST ?c_HOUR_MOST ?c_STRENGTH_MOST ?c_CUT_MOST ?c_BEGIN_MOST ?c_PORTS_MOST ?c_CHANNELS_MOST ?c_BREAKERS_MOST ?c_SHIPS_MOST ?n_isinstance ?n_int ?n_bool ?n_str ?n_len ?n_tuple ?n_all ?n_list ?n_max ?n_range ?n_repr ?n_min
    (case g_IceError => k_is)
    (case sp_IceError => k_is)
    (case ty_IceError => k_is)
    (case rd_IceError => k_is)
    (case fc_IceError => k_is)
    (case g_NoName => k_is)
    (case xl_NoName => k_is)
    (case hb_NoName => decide +kernel)
    (case sa_NoName => k_is)
    (case ec_NoName => k_is)
    (case tc_NoName => k_is)
    (case kc_NoName => k_is)
    (case ga_NoName => k_is)
    (case gg_NoName => k_is)
    (case hd_NoName => k_is)
    (case in_NoName => k_is)
    (case tf_NoName => k_is)
    (case nf_NoName_found => k_is)
    (case g_NoNumber => k_is)
    (case xl_NoNumber => k_is)
    (case hb_NoNumber => decide +kernel)
    (case sa_NoNumber => k_is)
    (case ec_NoNumber => k_is)
    (case tc_NoNumber => k_is)
    (case kc_NoNumber => k_is)
    (case ga_NoNumber => k_is)
    (case gg_NoNumber => k_is)
    (case hd_NoNumber => k_is)
    (case in_NoNumber => k_is)
    (case tf_NoNumber => k_is)
    (case nf_NoNumber_found => k_is)
    (case g_Doubled => k_is)
    (case xl_Doubled => k_is)
    (case hb_Doubled => decide +kernel)
    (case sa_Doubled => k_is)
    (case ec_Doubled => k_is)
    (case tc_Doubled => k_is)
    (case kc_Doubled => k_is)
    (case ga_Doubled => k_is)
    (case gg_Doubled => k_is)
    (case hd_Doubled => k_is)
    (case in_Doubled => k_is)
    (case tf_Doubled => k_is)
    (case nf_Doubled_name => k_is)
    (case g_NoPort => k_is)
    (case xl_NoPort => k_is)
    (case hb_NoPort => decide +kernel)
    (case sa_NoPort => k_is)
    (case ec_NoPort => k_is)
    (case tc_NoPort => k_is)
    (case kc_NoPort => k_is)
    (case ga_NoPort => k_is)
    (case gg_NoPort => k_is)
    (case hd_NoPort => k_is)
    (case in_NoPort => k_is)
    (case tf_NoPort => k_is)
    (case nf_NoPort_found => k_is)
    (case g_NoChannel => k_is)
    (case xl_NoChannel => k_is)
    (case hb_NoChannel => decide +kernel)
    (case sa_NoChannel => k_is)
    (case ec_NoChannel => k_is)
    (case tc_NoChannel => k_is)
    (case kc_NoChannel => k_is)
    (case ga_NoChannel => k_is)
    (case gg_NoChannel => k_is)
    (case hd_NoChannel => k_is)
    (case in_NoChannel => k_is)
    (case tf_NoChannel => k_is)
    (case nf_NoChannel_found => k_is)
    (case g_NoVessel => k_is)
    (case xl_NoVessel => k_is)
    (case hb_NoVessel => decide +kernel)
    (case sa_NoVessel => k_is)
    (case ec_NoVessel => k_is)
    (case tc_NoVessel => k_is)
    (case kc_NoVessel => k_is)
    (case ga_NoVessel => k_is)
    (case gg_NoVessel => k_is)
    (case hd_NoVessel => k_is)
    (case in_NoVessel => k_is)
    (case tf_NoVessel => k_is)
    (case nf_NoVessel_found => k_is)
    (case g_NoKind => k_is)
    (case xl_NoKind => k_is)
    (case hb_NoKind => decide +kernel)
    (case sa_NoKind => k_is)
    (case ec_NoKind => k_is)
    (case tc_NoKind => k_is)
    (case kc_NoKind => k_is)
    (case ga_NoKind => k_is)
    (case gg_NoKind => k_is)
    (case hd_NoKind => k_is)
    (case in_NoKind => k_is)
    (case tf_NoKind => k_is)
    (case nf_NoKind_found => k_is)
    (case g_NoWorld => k_is)
    (case xl_NoWorld => k_is)
    (case hb_NoWorld => decide +kernel)
    (case sa_NoWorld => k_is)
    (case ec_NoWorld => k_is)
    (case tc_NoWorld => k_is)
    (case kc_NoWorld => k_is)
    (case ga_NoWorld => k_is)
    (case gg_NoWorld => k_is)
    (case hd_NoWorld => k_is)
    (case in_NoWorld => k_is)
    (case tf_NoWorld => k_is)
    (case nf_NoWorld_found => k_is)
    (case g_Channel => k_is)
    (case pg_Channel => k_is)
    (case hd_Channel => k_is)
    (case po_Channel => k_is)
    (case sa_Channel => k_is)
    (case mk_Channel => k_is)
    (case in_Channel => k_is)
    (case if_Channel => k_is)
    (case kc_Channel => k_is)
    (case na_Channel_name => k_is)
    (case na_Channel_one => k_is)
    (case na_Channel_other => k_is)
    (case na_Channel_hours => k_is)
    (case na_Channel_depth => k_is)
    (case na_Channel_first => k_is)
    (case na_Channel_growth => k_is)
    (case na_Channel_most => k_is)
    (case me_Channel_ends => k_is)
    (case mi_Channel_ends => k_is)
    (case me_Channel_row => k_is)
    (case mi_Channel_row => k_is)
    (case g_Vessel => k_is)
    (case pg_Vessel => k_is)
    (case hd_Vessel => k_is)
    (case po_Vessel => k_is)
    (case sa_Vessel => k_is)
    (case mk_Vessel => k_is)
    (case in_Vessel => k_is)
    (case if_Vessel => k_is)
    (case kc_Vessel => k_is)
    (case ks_Vessel => k_is)
    (case kt_Vessel => k_is)
    (case kr_Vessel => k_is)
    (case kf_Vessel => k_is)
    (case na_Vessel_name => k_is)
    (case na_Vessel_port => k_is)
    (case na_Vessel_hour => k_is)
    (case na_Vessel_strength => k_is)
    (case na_Vessel_draught => k_is)
    (case me_Vessel_kind => k_is)
    (case mi_Vessel_kind => k_is)
    (case me_Vessel_thins => k_is)
    (case mi_Vessel_thins => k_is)
    (case me_Vessel_row => k_is)
    (case mi_Vessel_row => k_is)
    (case g_Breaker => k_is)
    (case pg_Breaker => k_is)
    (case hd_Breaker => k_is)
    (case po_Breaker => k_is)
    (case sa_Breaker => k_is)
    (case mk_Breaker => k_is)
    (case in_Breaker => k_is)
    (case if_Breaker => k_is)
    (case kc_Breaker => k_is)
    (case na_Breaker_name => k_is)
    (case na_Breaker_port => k_is)
    (case na_Breaker_hour => k_is)
    (case na_Breaker_strength => k_is)
    (case na_Breaker_draught => k_is)
    (case na_Breaker_cut => k_is)
    (case me_Breaker_kind => k_is)
    (case mi_Breaker_kind => k_is)
    (case me_Breaker_thins => k_is)
    (case mi_Breaker_thins => k_is)
    (case me_Breaker_row => k_is)
    (case mi_Breaker_row => k_is)
    (case g_Ship => k_is)
    (case pg_Ship => k_is)
    (case hd_Ship => k_is)
    (case po_Ship => k_is)
    (case sa_Ship => k_is)
    (case mk_Ship => k_is)
    (case in_Ship => k_is)
    (case if_Ship => k_is)
    (case kc_Ship => k_is)
    (case na_Ship_name => k_is)
    (case na_Ship_port => k_is)
    (case na_Ship_hour => k_is)
    (case na_Ship_strength => k_is)
    (case na_Ship_draught => k_is)
    (case na_Ship_goal => k_is)
    (case me_Ship_kind => k_is)
    (case mi_Ship_kind => k_is)
    (case me_Ship_row => k_is)
    (case mi_Ship_row => k_is)
    (case me_Ship_thins => k_is)
    (case mi_Ship_thins => k_is)
    (case g_World => k_is)
    (case pg_World => k_is)
    (case hd_World => k_is)
    (case po_World => k_is)
    (case sa_World => k_is)
    (case mk_World => k_is)
    (case in_World => k_is)
    (case if_World => k_is)
    (case kc_World => k_is)
    (case na_World__begin => k_is)
    (case na_World__ports => k_is)
    (case na_World__channels => k_is)
    (case na_World__breakers => k_is)
    (case na_World__ships => k_is)
    (case na_World__channel_of => k_is)
    (case na_World__vessel_of => k_is)
    (case me_World_begin_hour => k_is)
    (case mi_World_begin_hour => k_is)
    (case me_World_ports => k_is)
    (case mi_World_ports => k_is)
    (case me_World_channels => k_is)
    (case mi_World_channels => k_is)
    (case me_World_breakers => k_is)
    (case mi_World_breakers => k_is)
    (case me_World_ships => k_is)
    (case mi_World_ships => k_is)
    (case me_World_vessels => k_is)
    (case mi_World_vessels => k_is)
    (case me_World_channel => k_is)
    (case mi_World_channel => k_is)
    (case me_World_vessel => k_is)
    (case mi_World_vessel => k_is)
    (case me_World_told => k_is)
    (case mi_World_told => k_is)
    (case ex_NoName_NoWorld => first | k_is | (first | rfl | decide +kernel))
    (case ex_NoName_Doubled => first | k_is | (first | rfl | decide +kernel))
    (case ex_NoName_NoPort => first | k_is | (first | rfl | decide +kernel))
    (case ex_NoName_IceError => first | k_is | (first | rfl | decide +kernel))
    (case ex_NoNumber_NoWorld => first | k_is | (first | rfl | decide +kernel))
    (case ex_NoNumber_Doubled => first | k_is | (first | rfl | decide +kernel))
    (case ex_NoNumber_NoPort => first | k_is | (first | rfl | decide +kernel))
    (case ex_NoNumber_IceError => first | k_is | (first | rfl | decide +kernel))
    (case ex_Doubled_NoWorld => first | k_is | (first | rfl | decide +kernel))
    (case ex_Doubled_Doubled => first | k_is | (first | rfl | decide +kernel))
    (case ex_Doubled_NoPort => first | k_is | (first | rfl | decide +kernel))
    (case ex_Doubled_IceError => first | k_is | (first | rfl | decide +kernel))
    (case ex_NoPort_NoWorld => first | k_is | (first | rfl | decide +kernel))
    (case ex_NoPort_Doubled => first | k_is | (first | rfl | decide +kernel))
    (case ex_NoPort_NoPort => first | k_is | (first | rfl | decide +kernel))
    (case ex_NoPort_IceError => first | k_is | (first | rfl | decide +kernel))
    (case ex_NoChannel_NoWorld => first | k_is | (first | rfl | decide +kernel))
    (case ex_NoChannel_Doubled => first | k_is | (first | rfl | decide +kernel))
    (case ex_NoChannel_NoPort => first | k_is | (first | rfl | decide +kernel))
    (case ex_NoChannel_IceError => first | k_is | (first | rfl | decide +kernel))
    (case ex_NoVessel_NoWorld => first | k_is | (first | rfl | decide +kernel))
    (case ex_NoVessel_Doubled => first | k_is | (first | rfl | decide +kernel))
    (case ex_NoVessel_NoPort => first | k_is | (first | rfl | decide +kernel))
    (case ex_NoVessel_IceError => first | k_is | (first | rfl | decide +kernel))
    (case ex_NoKind_NoWorld => first | k_is | (first | rfl | decide +kernel))
    (case ex_NoKind_Doubled => first | k_is | (first | rfl | decide +kernel))
    (case ex_NoKind_NoPort => first | k_is | (first | rfl | decide +kernel))
    (case ex_NoKind_IceError => first | k_is | (first | rfl | decide +kernel))
    (case ex_NoWorld_NoWorld => first | k_is | (first | rfl | decide +kernel))
    (case ex_NoWorld_Doubled => first | k_is | (first | rfl | decide +kernel))
    (case ex_NoWorld_NoPort => first | k_is | (first | rfl | decide +kernel))
    (case ex_NoWorld_IceError => first | k_is | (first | rfl | decide +kernel))
    (case sgc => k_is)
    (case tkc => k_is)
    (case ca_Channel => k_is)
    (case mo_Channel => k_is)
    (case io_Channel_Channel => kit_is)
    (case io_Channel_Breaker => kit_is)
    (case io_Channel_Ship => kit_is)
    (case ca_Vessel => k_is)
    (case mo_Vessel => k_is)
    (case io_Vessel_Channel => kit_is)
    (case io_Vessel_Breaker => kit_is)
    (case io_Vessel_Ship => kit_is)
    (case ca_Breaker => k_is)
    (case mo_Breaker => k_is)
    (case io_Breaker_Channel => kit_is)
    (case io_Breaker_Breaker => kit_is)
    (case io_Breaker_Ship => kit_is)
    (case ca_Ship => k_is)
    (case mo_Ship => k_is)
    (case io_Ship_Channel => kit_is)
    (case io_Ship_Breaker => kit_is)
    (case io_Ship_Ship => kit_is)
    (case ca_World => k_is)
    (case mo_World => k_is)
    (case io_World_Channel => kit_is)
    (case io_World_Breaker => kit_is)
    (case io_World_Ship => kit_is)
    (case io_Channel_list => kit_is)
    (case io_Channel_tuple => kit_is)
    (case io_Channel_str => kit_is)
    (case eq_Channel => k_is)
    (case io_Vessel_list => kit_is)
    (case io_Vessel_tuple => kit_is)
    (case io_Vessel_str => kit_is)
    (case eq_Vessel => k_is)
    (case io_Breaker_list => kit_is)
    (case io_Breaker_tuple => kit_is)
    (case io_Breaker_str => kit_is)
    (case eq_Breaker => k_is)
    (case io_Ship_list => kit_is)
    (case io_Ship_tuple => kit_is)
    (case io_Ship_str => kit_is)
    (case eq_Ship => k_is)
    (case ne_Ship => k_is)
    (case io_World_list => kit_is)
    (case io_World_tuple => kit_is)
    (case io_World_str => kit_is)
    (case eq_World => k_is)
    (case ib_NoneType_Channel => kit_is)
    (case ib_NoneType_Breaker => kit_is)
    (case ib_NoneType_Ship => kit_is)
    (case ib_int_Channel => kit_is)
    (case ib_int_Breaker => kit_is)
    (case ib_int_Ship => kit_is)
    (case ib_str_Channel => kit_is)
    (case ib_str_Breaker => kit_is)
    (case ib_str_Ship => kit_is)
    (case ib_list_Channel => kit_is)
    (case ib_list_Breaker => kit_is)
    (case ib_list_Ship => kit_is)
    (case ib_bool_Channel => kit_is)
    (case ib_bool_Breaker => kit_is)
    (case ib_bool_Ship => kit_is)
    (case ib_dict_Channel => kit_is)
    (case ib_dict_Breaker => kit_is)
    (case ib_dict_Ship => kit_is)
    (case ib_tuple_Channel => kit_is)
    (case ib_tuple_Breaker => kit_is)
    (case ib_tuple_Ship => kit_is)
    (case a0 => k_is)
    (case l0 => k_is)
    (case p0 => k_is)
    (case k0 => k_is)
    (case a1 => k_is)
    (case l1 => k_is)
    (case p1 => k_is)
    (case k1 => k_is)
    (case a2 => k_is)
    (case l2 => k_is)
    (case p2 => k_is)
    (case k2 => k_is)
    (case a3 => k_is)
    (case l3 => k_is)
    (case p3 => k_is)
    (case k3 => k_is)
    (case a4 => k_is)
    (case l4 => k_is)
    (case p4 => k_is)
    (case k4 => k_is)
    (case a5 => k_is)
    (case l5 => k_is)
    (case p5 => k_is)
    (case k5 => k_is)
    (case a6 => k_is)
    (case l6 => k_is)
    (case p6 => k_is)
    (case k6 => k_is)
    (case a7 => k_is)
    (case l7 => k_is)
    (case p7 => k_is)
    (case k7 => k_is)
    (case a8 => k_is)
    (case l8 => k_is)
    (case p8 => k_is)
    (case k8 => k_is)
    (case a9 => k_is)
    (case l9 => k_is)
    (case p9 => k_is)
    (case k9 => k_is)
    (case a10 => k_is)
    (case l10 => k_is)
    (case p10 => k_is)
    (case k10 => k_is)
    (case a11 => k_is)
    (case l11 => k_is)
    (case p11 => k_is)
    (case k11 => k_is)
    (case a12 => k_is)
    (case l12 => k_is)
    (case p12 => k_is)
    (case k12 => k_is)
    (case a13 => k_is)
    (case l13 => k_is)
    (case p13 => k_is)
    (case k13 => k_is)
    (case a14 => k_is)
    (case l14 => k_is)
    (case p14 => k_is)
    (case k14 => k_is)
    (case a15 => k_is)
    (case l15 => k_is)
    (case p15 => k_is)
    (case k15 => k_is)
    (case a16 => k_is)
    (case l16 => k_is)
    (case p16 => k_is)
    (case k16 => k_is)
    (case a17 => k_is)
    (case l17 => k_is)
    (case p17 => k_is)
    (case k17 => k_is)
    (case a18 => k_is)
    (case l18 => k_is)
    (case p18 => k_is)
    (case k18 => k_is)
    (case a19 => k_is)
    (case l19 => k_is)
    (case p19 => k_is)
    (case k19 => k_is)
    (case a20 => k_is)
    (case l20 => k_is)
    (case p20 => k_is)
    (case k20 => k_is)
    (case a21 => k_is)
    (case l21 => k_is)
    (case p21 => k_is)
    (case k21 => k_is)
    (case a22 => k_is)
    (case l22 => k_is)
    (case p22 => k_is)
    (case k22 => k_is)
    (case a23 => k_is)
    (case l23 => k_is)
    (case p23 => k_is)
    (case k23 => k_is)
    (case a24 => k_is)
    (case l24 => k_is)
    (case p24 => k_is)
    (case k24 => k_is)
    (case a25 => k_is)
    (case l25 => k_is)
    (case p25 => k_is)
    (case k25 => k_is)
    (case a26 => k_is)
    (case l26 => k_is)
    (case p26 => k_is)
    (case k26 => k_is)
    (case a27 => k_is)
    (case l27 => k_is)
    (case p27 => k_is)
    (case k27 => k_is)
    (case a28 => k_is)
    (case l28 => k_is)
    (case p28 => k_is)
    (case k28 => k_is)
    (case a29 => k_is)
    (case l29 => k_is)
    (case p29 => k_is)
    (case k29 => k_is)
    (case a30 => k_is)
    (case l30 => k_is)
    (case p30 => k_is)
    (case k30 => k_is)
    (case a31 => k_is)
    (case l31 => k_is)
    (case p31 => k_is)
    (case k31 => k_is)
    (case a32 => k_is)
    (case l32 => k_is)
    (case p32 => k_is)
    (case k32 => k_is)
    (case a33 => k_is)
    (case l33 => k_is)
    (case p33 => k_is)
    (case k33 => k_is)
    (case a34 => k_is)
    (case l34 => k_is)
    (case p34 => k_is)
    (case k34 => k_is)
    (case a35 => k_is)
    (case l35 => k_is)
    (case p35 => k_is)
    (case k35 => k_is)
    (case l36 => k_is)
    (case p36 => k_is)
    (case k36 => k_is)
    (case l37 => k_is)
    (case p37 => k_is)
    (case k37 => k_is)
    (case l38 => k_is)
    (case p38 => k_is)
    (case k38 => k_is)
    (case l39 => k_is)
    (case p39 => k_is)
    (case k39 => k_is)
    (case l40 => k_is)
    (case p40 => k_is)
    (case k40 => k_is)
    (case l41 => k_is)
    (case p41 => k_is)
    (case k41 => k_is)
    (case l42 => k_is)
    (case p42 => k_is)
    (case k42 => k_is)
    (case l43 => k_is)
    (case p43 => k_is)
    (case k43 => k_is)
    (case l44 => k_is)
    (case p44 => k_is)
    (case k44 => k_is)
    (case l45 => k_is)
    (case p45 => k_is)
    (case k45 => k_is)
    (case l46 => k_is)
    (case p46 => k_is)
    (case k46 => k_is)
    (case l47 => k_is)
    (case p47 => k_is)
    (case k47 => k_is)
    (case l48 => k_is)
    (case p48 => k_is)
    (case k48 => k_is)
    (case l49 => k_is)
    (case p49 => k_is)
    (case k49 => k_is)
    (case l50 => k_is)
    (case p50 => k_is)
    (case k50 => k_is)
    (case l51 => k_is)
    (case p51 => k_is)
    (case k51 => k_is)
    (case l52 => k_is)
    (case p52 => k_is)
    (case k52 => k_is)
    (case l53 => k_is)
    (case p53 => k_is)
    (case k53 => k_is)
    (case l54 => k_is)
    (case p54 => k_is)
    (case k54 => k_is)
    (case l55 => k_is)
    (case p55 => k_is)
    (case k55 => k_is)
    (case l56 => k_is)
    (case p56 => k_is)
    (case k56 => k_is)
    (case l57 => k_is)
    (case p57 => k_is)
    (case k57 => k_is)
    (case l58 => k_is)
    (case p58 => k_is)
    (case k58 => k_is)
    (case l59 => k_is)
    (case p59 => k_is)
    (case k59 => k_is)
    (case l60 => k_is)
    (case p60 => k_is)
    (case k60 => k_is)
    (case l61 => k_is)
    (case p61 => k_is)
    (case k61 => k_is)
    (case l62 => k_is)
    (case p62 => k_is)
    (case k62 => k_is)
    (case l63 => k_is)
    (case p63 => k_is)
    (case k63 => k_is)
    (case l64 => k_is)
    (case p64 => k_is)
    (case k64 => k_is)
    (case l65 => k_is)
    (case p65 => k_is)
    (case k65 => k_is)
    (case l66 => k_is)
    (case p66 => k_is)
    (case k66 => k_is)
    (case l67 => k_is)
    (case p67 => k_is)
    (case k67 => k_is)
    (case c_NAME_MOST => k_is)
    (case c_HOURS_MOST => k_is)
    (case c_DEPTH_MOST => k_is)
    (case c_GROWTH_MOST => k_is)
    (case c_THICK_MOST => k_is)
    (case c_HOUR_MOST => k_is)
    (case c_STRENGTH_MOST => k_is)
    (case c_CUT_MOST => k_is)
    (case c_BEGIN_MOST => k_is)
    (case c_PORTS_MOST => k_is)
    (case c_CHANNELS_MOST => k_is)
    (case c_BREAKERS_MOST => k_is)
    (case c_SHIPS_MOST => k_is)
    (case n_isinstance => k_is)
    (case n_int => k_is)
    (case n_bool => k_is)
    (case n_str => k_is)
    (case n_len => k_is)
    (case n_tuple => k_is)
    (case n_all => k_is)
    (case n_list => k_is)
    (case n_max => k_is)
    (case n_range => k_is)
    (case n_repr => k_is)
    (case n_min => k_is)
end
set_option Elab.async false
set_option linter.all false
set_option maxRecDepth 100000
set_option maxHeartbeats 4000000
set_option autoImplicit true
namespace Ice
open PySem PySem.Spec PyProof.Rows L2 TL
/-! side conditions, heaps, one step of a reading, and many -/
local macro_rules | `(tactic| walk_at "hp") => `(tactic| first | assumption | exact upd_same | exact New.at_ (by assumption) | (refine keepU ?_ (by assumption); walk_at "hp") | (refine New.app (by assumption) ?_; walk_at "hp") | (refine Same.app (by assumption) ?_; walk_at "hp") | (refine But.app (by assumption) (by assumption) ?_; walk_at "hp"))
local macro_rules | `(tactic| walk_at "sq") => `(tactic| first | assumption | exact SqL.lst (by walk_at "hp") | exact L2.Same.seq (New.same (by assumption)) (by assumption) | exact L2.Same.seq (by assumption) (by assumption))
local macro_rules | `(tactic| walk_at "len") => `(tactic| first | assumption | (simp only [List.length_cons, List.length_nil, List.length_append, List.length_map]; decide) | (refine Ice.sz_of ?_; simp only [List.length_cons, List.length_nil, List.length_append, List.length_map]; omega))
local macro_rules | `(tactic| walk_at "fresh") => `(tactic| (simp only [List.map_append, List.map_cons, List.map_nil, List.nil_append, List.cons_append]; decide +kernel))
local macro_rules | `(tactic| walk_at "sd") => `(tactic| first | assumption | (show _ ≠ _; omega) | exact Or.inl ⟨by omega, by omega⟩ | exact Or.inr ⟨by omega, by omega⟩ | exact ⟨by decide, by decide⟩ | exact ⟨by decide, by decide, by decide⟩ | exact ⟨by omega, by omega, by omega⟩)
/-! one step of a reading, and many -/
local macro_rules | `(tactic| walk_at "st") => `(tactic| first
  | with_reducible refine i_seq ?_
  | with_reducible refine i_if ?_
  | with_reducible refine i_next ?_
  | with_reducible refine i_ret ?_
  | with_reducible refine i_retN ?_
  | with_reducible refine i_drop ?_
  | with_reducible refine i_asg ?_
  | with_reducible refine i_gname ?_
  | with_reducible refine i_gsub ?_
  | ((with_reducible refine i_var (v := ?vv) ?hv ?_); (case hv => exact rfl))
  | with_reducible refine i_c ?_
  | with_reducible refine i_op ?_
  | with_reducible refine i_un ?_
  | with_reducible refine i_test ?_
  | with_reducible refine i_tB ?_
  | with_reducible refine i_and ?_
  | with_reducible refine i_or ?_
  | with_reducible refine i_not ?_
  | with_reducible refine i_andV ?_
  | with_reducible refine i_orV ?_
  | with_reducible refine i_notV ?_
  | with_reducible refine i_ifE ?_
  | with_reducible refine i_chain ?_
  | with_reducible refine i_bl ?_
  | with_reducible refine i_nil ?_
  | with_reducible refine i_cons ?_
  | with_reducible refine i_call ?_
  | with_reducible refine i_cb ?_
  | with_reducible refine i_rI0 ?_
  | with_reducible refine i_rU ?_
  | ((with_reducible refine i_rEq ?hs ?_); (case hs => exact rfl))
  | ((with_reducible refine i_rNe ?hs ?_); (case hs => exact rfl))
  | ((with_reducible refine i_rI ?hc ?_); (case hc => walk_at "sd"))
  | ((with_reducible refine i_ixL (xs := ?xs) (v := ?vv) ?hS ?he ?_); (case hS => walk_at "sq"); (case he => exact rfl))
  | ((with_reducible refine i_setL (xs := ?xs) (j := ?jj) ?hS ?he ?_); (case hS => walk_at "hp"); (case he => exact rfl))
  | with_reducible refine i_tup ?_
  | with_reducible refine i_lst ?_
  | with_reducible refine i_bm ?_
  | with_reducible refine i_bm0 ?_
  | with_reducible refine i_m1 ?_
  | with_reducible refine i_sl ?_
  | with_reducible refine i_nopart ?_
  | with_reducible refine i_part ?_
  | with_reducible refine i_int ?_
  | with_reducible refine i_str ?_
  | with_reducible refine i_for ?_
  | with_reducible refine i_yes ?_
  | ((with_reducible refine i_lenL (xs := ?xs) ?hS ?_); (case hS => walk_at "sq"))
  | ((with_reducible refine i_room ?hz ?_); (case hz => walk_at "len"))
  | with_reducible refine i_leT ?_
  | with_reducible refine i_notInS ?_
  | with_reducible refine i_inS ?_
  | with_reducible refine i_find ?_
  | with_reducible refine i_isB ?_
  | with_reducible refine i_max2 ?_
  | with_reducible refine i_min2 ?_
  | with_reducible exact trivial
  | with_reducible refine iteT ?_
  | with_reducible refine iteF ?_
  | with_reducible refine i_isstr ?_
  | with_reducible refine i_lc ?_
  | ((with_reducible refine i_cat (xs := ?xs) (zs := ?zs) ?ha ?hb ?hz ?_); (case ha => walk_at "hp"); (case hb => walk_at "hp"); (case hz => walk_at "len"))
  | ((with_reducible refine i_tyL (xs := ?xs) ?ha ?_); (case ha => walk_at "hp"))
  | with_reducible refine i_list ?_
  | with_reducible refine i_disp ?_
  | with_reducible refine i_pairs0 ?_
  | with_reducible refine i_pairs ?_
  | with_reducible refine i_newK ?_
  | with_reducible refine i_gcons ?_
  | with_reducible refine i_gnil ?_
  | with_reducible refine i_revL ?_
  | with_reducible refine i_rng1 ?_
  | ((with_reducible refine i_wipe ?hw ?_); (case hw => exact rfl))
  | with_reducible refine iteNT ?_
  | with_reducible refine iteNF ?_)
local macro_rules | `(tactic| walk_at "sx") => `(tactic| first
  | walk_at "st"
  | with_reducible refine i_kinit ?_
  | with_reducible refine i_ost ?_
  | with_reducible refine i_mkO ?_
  | with_reducible refine i_callE ?_
  | with_reducible refine i_makeE ?_
  | with_reducible refine i_xf ?_
  | with_reducible refine i_sfld ?_
  | with_reducible refine i_fld ?_
  | ((with_reducible refine i_ixT (xs := ?xs) (v := ?vv) ?hS ?he ?_); (case hS => exact SqT.tup (by walk_at "hp")); (case he => exact rfl))
  | with_reducible refine i_intB ?_
  | with_reducible refine i_runS ?_
  | with_reducible refine i_runN ?_
  | ((with_reducible refine i_xf1 (fs := ?ff) (v := ?vv) ?hx ?hl ?_); (case hx => walk_at "hp"); (case hl => exact rfl))
  | with_reducible refine i_methE ?_
  | with_reducible refine i_meth ?_
  | with_reducible refine i_make ?_
  | ((with_reducible refine i_obj (dx := ?dd) (fs := ?ff) ?hx ?hl ?_); (case hx => walk_at "hp"); (case hl => exact rfl))
  | ((with_reducible refine i_fld1 (C := ?CC) (dx := ?dd) (fs := ?ff) (v := ?vv) ?hx ?cl ?na ?hl ?_); (case hx => walk_at "hp"); (case cl => assumption); (case na => assumption); (case hl => exact rfl)))
local macro_rules | `(tactic| walk_at "sy") => `(tactic| first
  | walk_at "sx"
  | with_reducible refine i_dget ?_
  | with_reducible refine i_dget2 ?_
  | with_reducible refine i_dput ?_
  | with_reducible refine i_din ?_
  | ((with_reducible refine i_aug (x := ?vv) ?hx ?_); (case hx => exact rfl)))
local macro_rules | `(tactic| walk_at "rd") => `(tactic| repeat (walk_at "sy"))

section
variable {P : Program} {w : World} {K : PySem.W.Frag} {mg : Str → Option Value} {base : Heap}
def spCell (K : PySem.W.Frag) : Sp := fun vs H Q _ => ∃ (a : Addr) (ns : List Int) (k : Int), vs = [.ref a, .int k] ∧ SqL K H a (ns.map V.int) ∧ 0 ≤ k ∧ k ≤ 1000 ∧ ∀ z : Int, Q (.int z) H
theorem ok_cell (T : Top K mg) : FnG P w K mg base CX0 1 T.a_cell T.d_cell ["_law_script", "_law_k"] (spCell K) := by
  refine okG T.F_cell sc_cell (fun vs H Q E h => ?_) (fun cdv A outer s H vs Q E hr hgd h => ?_)
  · obtain ⟨a, ns, k, rfl, _⟩ := h
    rfl
  · obtain ⟨a, ns, k, rfl, hS, k0, hk, q⟩ := h
    obtain ⟨k, rfl⟩ := Int.eq_ofNat_of_zero_le k0
    refine ⟨_, (pss_cons (ps_if (pt_cmpR op_lt (pv 1) (pe_callB c_len (by rfl) T.n_len (by decide +kernel) (pa_cons (pv 0) pa_nil)) (nomark _))
        (pss_one (ps_ret (pe_ix ix_list (pv 0) (pv 1) (fun _ _ => rfl))))
        pss_nil)
      (pss_one (ps_ret (pe_op op_add (pe_op op_mul pe_int (pv 1)) pe_int)))), ?_⟩
    walk_at "rd"
    refine ifs (fun hc => ?_) (fun hc => ?_)
    · walk_at "rd"
      simp only [decide_eq_true_eq, List.length_map] at hc
      have hc' : k < ns.length := by omega
      exact i_ixL hS (atI_nat (by rw [List.getElem?_map, List.getElem?_eq_getElem hc']; rfl)) (q _)
    · walk_at "rd"
      exact q _
def spBox : Sp := fun vs H Q _ => ∃ z : Int, vs = [.int z] ∧ ∀ (p : Addr) (H' : Hp), H p = none → Same H H' → Box H' p 0 → Q (.ref p) H'
theorem ok_box (T : Top K mg) : FnG P w K mg base CX0 1 T.a_box T.d_box ["_law_cell_here"] spBox := by
  refine okG T.F_box sc_box (fun vs H Q E h => ?_) (fun cdv A outer s H vs Q E hr hgd h => ?_)
  · obtain ⟨z, rfl, _⟩ := h
    rfl
  · obtain ⟨z, rfl, q⟩ := h
    refine ⟨_, (pss_one (ps_ret (pe_lst (pa_cons (pe_callB (c_max2) (by rfl) T.n_max (by decide +kernel) (pa_cons pe_int (pa_cons (pe_op op_sub (pv 0) (pe_op op_pow pe_int pe_int)) pa_nil))) (pa_cons (pe_op op_modN (pv 0) pe_int) (pa_cons pe_int pa_nil)))))), ?_⟩
    walk_at "rd"
    (intro p hp; generalize ep : upd _ p _ = J; have N := New.of ep hp; clear ep hp)
    walk_at "rd"
    refine q p _ N.free N.same ⟨_, _, _, N.at_, ?_, Int.fmod_nonneg_of_pos _ (by decide), Int.fmod_lt_of_pos _ (by decide), by omega, by omega⟩
    split <;> omega
theorem sq_bound {z : Int} (h0 : 0 ≤ z) (h1 : z ≤ 1000) : 0 ≤ 104729 * (z + 1) * (z + 1) ∧ 104729 * (z + 1) * (z + 1) ≤ 104729 * 1001 * 1001 := by
  have a : 0 ≤ (z + 1) * (z + 1) := Int.mul_nonneg (by omega) (by omega)
  have b : (z + 1) * (z + 1) ≤ 1001 * 1001 := Int.mul_le_mul (by omega) (by omega) (by omega) (by omega)
  rw [Int.mul_assoc]
  omega
def spTake : Sp := fun vs H Q _ => ∃ (b : Addr) (m : Int) (n : Nat), vs = [.ref b, .int m] ∧ Box H b n ∧ n ≤ 900 ∧ 0 < m ∧ m.natAbs < 2 ^ 100 ∧
  ∀ (d : Int) (H' : Hp), 0 ≤ d → d < m → But b H H' → Box H' b (n + 1) → Q (.int d) H'
theorem ok_take (T : Top K mg) : FnG P w K mg base CX0 1 T.a_take T.d_take ["_law_box_here", "_law_many"] spTake := by
  refine okG T.F_take sc_take (fun vs H Q E h => ?_) (fun cdv A outer s H vs Q E hr hgd h => ?_)
  · obtain ⟨b, m, n, rfl, _⟩ := h
    rfl
  · obtain ⟨b, m, n, rfl, ⟨x, y, z, hb, x0, y0, y1, z0, z1⟩, hn, m0, m1, q⟩ := h
    refine ⟨_, (pss_cons (ps_if (pt_cmpR op_gt (pe_ix ix_list (pv 0) pe_int (fun _ _ => rfl)) pe_int (nomark _))
        (pss_cons (ps_set (i := 2) sc_take.nd rfl (by first | exact Or.inl rfl | exact Or.inr rfl) (pe_op op_modN (pe_ix ix_list (pv 0) pe_int (fun _ _ => rfl)) (pv 1)))
      (pss_cons (ps_asg (pe_op op_fdivW (pe_ix ix_list (pv 0) pe_int (fun _ _ => rfl)) (pv 1)) (pg_sub (pv 0) pe_int set_list))
      (pss_one (ps_ret (pv 2)))))
        pss_nil)
      (pss_cons (ps_asg (pe_op op_add (pe_ix ix_list (pv 0) pe_int (fun _ _ => rfl)) pe_int) (pg_sub (pv 0) pe_int set_list))
      (pss_cons (ps_set (i := 3) sc_take.nd rfl (by first | exact Or.inl rfl | exact Or.inr rfl) (pe_op op_modN (pe_op op_pow (pe_op op_add (pe_op op_add (pe_ix ix_list (pv 0) pe_int (fun _ _ => rfl)) (pe_op op_mul pe_int (pe_ix ix_list (pv 0) pe_int (fun _ _ => rfl)))) pe_int) pe_int) pe_int))
      (pss_cons (ps_set (i := 4) sc_take.nd rfl (by first | exact Or.inl rfl | exact Or.inr rfl) (pe_op op_modN (pe_op op_pow (pe_op op_add (pe_op op_add (pe_op op_fdivN (pv 3) pe_int) (pe_op op_mul pe_int (pe_ix ix_list (pv 0) pe_int (fun _ _ => rfl)))) pe_int) pe_int) pe_int))
      (pss_one (ps_ret (pe_op op_modN (pe_op op_add (pe_op op_fdivN (pv 3) pe_int) (pe_op op_mul pe_int (pe_op op_fdivN (pv 4) pe_int))) (pv 1)))))))), ?_⟩
    walk_at "rd"
    refine ifs (fun hc => ?_) (fun hc => ?_)
    · have hx : 0 < x := of_decide_eq_true hc
      walk_at "rd"
      refine i_rI (wide_div m0 m1 (by decide) (by decide)) ?_
      walk_at "rd"
      exact q _ _ (Int.fmod_nonneg_of_pos _ m0) (Int.fmod_lt_of_pos _ m0) (But.set _) ⟨_, _, _, upd_same, Int.ediv_nonneg x0 (by omega), y0, y1, z0, by omega⟩
    · walk_at "rd"
      have o0 : 0 ≤ ((y + 7919 * (z + 1) + 76) ^ Int.toNat 5).fmod 2147483647 := Int.fmod_nonneg_of_pos _ (by decide)
      have o1 : ((y + 7919 * (z + 1) + 76) ^ Int.toNat 5).fmod 2147483647 < 2147483647 := Int.fmod_lt_of_pos _ (by decide)
      refine i_rI ⟨by decide, by decide, ?_⟩ ?_
      · generalize ((y + 7919 * (z + 1) + 76) ^ Int.toNat 5).fmod 2147483647 = o at o0 o1 ⊢
        rw [Int.fdiv_eq_ediv_of_nonneg _ (by decide)]
        omega
      · walk_at "rd"
        exact q _ _ (Int.fmod_nonneg_of_pos _ m0) (Int.fmod_lt_of_pos _ m0) (But.set _) ⟨_, _, _, upd_same, x0, y0, y1, by omega, by omega⟩
end

section
variable {P : Program} {w : World} {K : PySem.W.Frag} {mg : Str → Option Value} {base : Heap}
def spBetween : Sp := fun vs H Q _ => ∃ (s lo hi : Str) (l h : Nat), vs = [.str s, .str lo, .str hi] ∧ tl lo = [l] ∧ tl hi = [h] ∧ Q (.bl (decide (∀ c ∈ tl s, l ≤ c ∧ c ≤ h))) H
theorem ok_all_between (T : Top K mg) : FnG P w K mg base CX0 1 T.a_all_between T.d_all_between ["text", "low", "high"] spBetween := by
  refine okG T.F_all_between sc_all_between (fun vs H Q E h => ?_) (fun cdv A outer s H vs Q E hr hgd h => ?_)
  · obtain ⟨s, lo, hi, l, h, rfl, _⟩ := h
    rfl
  · obtain ⟨s, lo, hi, l, h, rfl, hl, hh, q⟩ := h
    refine ⟨_, (pss_cons (ps_for PassesOwn.never rfl (pi_str (pv 0)) (pg_name (i := 3) sc_all_between.nd rfl (by first | exact Or.inl rfl | exact Or.inr rfl))
        (pss_one (ps_if (pt_not (pt_chain o_leT o_leT (pv 1) (pv 3) (pv 2)))
        (pss_one (ps_ret pe_bl))
        pss_nil)))
      (pss_one (ps_ret pe_bl))), ?_⟩
    walk_at "rd"
    refine ⟨.str s, rfl, s, rfl, for_text (fun i σ H' => H' = H ∧ (∃ v, σ = [some (.str s), some (.str lo), some (.str hi), v]) ∧ ∀ c ∈ (tl s).take i, l ≤ c ∧ c ≤ h) ⟨rfl, ⟨none, rfl⟩, by simp⟩ ?_ ?_⟩
    · rintro i c σ H' hc ⟨rfl, ⟨v, rfl⟩, hi'⟩
      have mem : c ∈ tl s := List.mem_of_getElem? hc
      have no : ¬ (l ≤ c ∧ c ≤ h) → Q (.bl false) H' := fun n => by rw [decide_eq_false (fun z => n (z c mem))] at q; exact q
      walk_at "rd"
      have e1 : (tl { cps := #[c] } < tl lo) ↔ c < l := by rw [hl]; exact one_lt c l
      have e2 : (tl hi < tl { cps := #[c] }) ↔ h < c := by rw [hh]; exact one_lt h c
      simp only [e1]
      refine ifs (fun h1 => ?_) (fun h1 => ?_)
      · walk_at "rd"
        simp only [e2]
        refine ifs (fun h2 => ?_) (fun h2 => ?_)
        · walk_at "rd"
          exact no (by simp at h1 h2; omega)
        · refine ⟨rfl, ⟨_, rfl⟩, take_all hi' hc ?_⟩
          simp at h1 h2; omega
      · walk_at "rd"
        exact no (by simp at h1; omega)
    · rintro σ H' ⟨rfl, ⟨v, rfl⟩, hi'⟩
      walk_at "rd"
      rw [List.take_length] at hi'
      rw [decide_eq_true hi'] at q
      exact q
end

section
variable {P : Program} {w : World} {K : PySem.W.Frag} {mg : Str → Option Value} {base : Heap}
def spWhole : Sp := fun vs H Q _ => ∃ v, vs = [v] ∧ Th H v ∧ Q (.bl (isW v)) H
theorem ok_is_whole (T : Top K mg) : FnG P w K mg base CX0 1 T.a_is_whole T.d_is_whole ["thing"] spWhole := by
  refine okG T.F_is_whole sc_is_whole (fun vs H Q E h => ?_) (fun cdv A outer s H vs Q E hr hgd h => ?_)
  · obtain ⟨v, rfl, _⟩ := h
    rfl
  · obtain ⟨v, rfl, th, q⟩ := h
    obtain ⟨n, ty, k1, k2, k3⟩ := th.ty (K := K)
    refine ⟨_, (pss_one (ps_ret (pe_and (pe_callB c_isi (by rfl) T.n_isinstance (by decide +kernel) (pa_cons (pv 0) (pa_cons (pe_bltn (v := .ty "int") (by rfl) T.n_int (by decide +kernel) rfl) pa_nil))) (pe_one (pe_not (pe_callB c_isi (by rfl) T.n_isinstance (by decide +kernel) (pa_cons (pv 0) (pa_cons (pe_bltn (v := .ty "bool") (by rfl) T.n_bool (by decide +kernel) rfl) pa_nil)))))))), ?_⟩
    walk_at "rd"
    refine i_isi ty k1 ?_
    walk_at "rd"
    refine ifs (fun h1 => ?_) (fun h1 => ?_)
    · walk_at "rd"
      refine i_isi ty k2 ?_
      walk_at "rd"
      have e : isW v = !decide (n = "bool") := by
        by_cases z : n = "bool"
        · obtain ⟨b, rfl⟩ := k3 z
          rw [decide_eq_true z]; rfl
        · rw [decide_eq_false z] at h1 ⊢
          simpa using h1
      rw [← e]
      exact q
    · have e : isW v = false := by simp at h1; exact h1.1
      rw [e] at q
      exact q
def spWithin : Sp := fun vs H Q _ => ∃ (v : V) (lo hi : Int), vs = [v, .int lo, .int hi] ∧ Th H v ∧ Q (.bl (inB lo hi v)) H
theorem ok_is_within (T : Top K mg) : FnG P w K mg base CX0 2 T.a_is_within T.d_is_within ["thing", "low", "high"] spWithin := by
  have G_is_whole := ok_is_whole (P := P) (w := w) (base := base) T
  refine okG T.F_is_within sc_is_within (fun vs H Q E h => ?_) (fun cdv A outer s H vs Q E hr hgd h => ?_)
  · obtain ⟨v, lo, hi, rfl, _⟩ := h
    rfl
  · obtain ⟨v, lo, hi, rfl, th, q⟩ := h
    refine ⟨_, (pss_one (ps_ret (pe_and (g_call G_is_whole (hr.mono (by decide)) hgd (by rfl) T.m_is_whole T.F_is_whole.kp T.b_is_whole .nil pass0 (pa_cons (pv 0) pa_nil)) (pe_one (pe_chain op_le op_le (pv 1) (pv 0) (pv 2)))))), ?_⟩
    walk_at "rd"
    refine ⟨v, rfl, th, ?_⟩
    walk_at "rd"
    refine ifs (fun h1 => ?_) (fun h1 => ?_)
    · obtain ⟨i, rfl⟩ : ∃ i, v = .int i := by cases v <;> first | exact ⟨_, rfl⟩ | cases h1
      have e : inB lo hi (.int i) = (decide (lo ≤ i) && decide (i ≤ hi)) := rfl
      rw [e] at q
      walk_at "rd"
      refine ifs (fun h2 => ?_) (fun h2 => ?_)
      · walk_at "rd"
        rw [h2] at q
        exact q
      · rw [h2] at q
        exact q
    · have e : inB lo hi v = false := by cases v <;> first | rfl | cases h1
      rw [e] at q
      exact q
/-- what is no text, an object too -/
def NoT (K : PySem.W.Frag) (H : Hp) (v : V) : Prop := ∃ t, TyX K H v t ∧ PySem.W.kitOne K t (.type "str") = some false ∧ isN v = false
def spName (K : PySem.W.Frag) : Sp := fun vs H Q _ => ∃ v, vs = [v] ∧ (Th H v ∨ NoT K H v) ∧ Q (.bl (isN v)) H
theorem ok_is_name (T : Top K mg) : FnG P w K mg base CX0 2 T.a_is_name T.d_is_name ["thing"] (spName K) := by
  have G_all_between := ok_all_between (P := P) (w := w) (base := base) T
  refine okG T.F_is_name sc_is_name (fun vs H Q E h => ?_) (fun cdv A outer s H vs Q E hr hgd h => ?_)
  · obtain ⟨v, rfl, _⟩ := h
    rfl
  · obtain ⟨v, rfl, th, q⟩ := h
    refine ⟨_, (pss_cons (ps_if (PW.pt (pw_or (pt_not (pt_val (pe_callB c_isi (by rfl) T.n_isinstance (by decide +kernel) (pa_cons (pv 0) (pa_cons (pe_bltn (v := .ty "str") (by rfl) T.n_str (by decide +kernel) rfl) pa_nil))))) (pw_or1 (pt_not (pt_chain op_le op_le pe_int (pe_callB c_lenS (by rfl) T.n_len (by decide +kernel) (pa_cons (pv 0) pa_nil)) (pe_glob (v := .int 8) (by rfl) T.c_NAME_MOST ⟨_, rfl⟩))))))
        (pss_one (ps_ret pe_bl))
        pss_nil)
      (pss_one (ps_ret (g_call G_all_between (hr.mono (by decide)) hgd (by rfl) T.m_all_between T.F_all_between.kp T.b_all_between .nil pass0 (pa_cons (pv 0) (pa_cons pe_str (pa_cons pe_str pa_nil))))))), ?_⟩
    rcases th with (⟨s, rfl, hs⟩ | ⟨n, hn⟩) | ⟨t, ty, kk, en⟩
    · have hz : s.length ≤ sizeLine := sz_of (by omega)
      have e : isN (.str s) = decide (1 ≤ s.length ∧ s.length ≤ 8 ∧ ∀ c ∈ tl s, 97 ≤ c ∧ c ≤ 122) := rfl
      rw [e] at q
      walk_at "rd"
      refine i_isi ty_str (b := true) (by decide +kernel) ?_
      walk_at "rd"
      refine i_lenS hz ?_
      walk_at "rd"
      refine ifs (fun h1 => ?_) (fun h1 => ?_)
      · walk_at "rd"
        refine ifs (fun h2 => ?_) (fun h2 => ?_)
        · walk_at "rd"
          rw [decide_eq_false (fun z => by simp at h1 h2; omega)] at q
          exact q
        · walk_at "rd"
          refine ⟨s, _, _, 97, 122, rfl, by decide +kernel, by decide +kernel, ?_⟩
          have e2 : decide (1 ≤ s.length ∧ s.length ≤ 8 ∧ ∀ c ∈ tl s, 97 ≤ c ∧ c ≤ 122) = decide (∀ c ∈ tl s, 97 ≤ c ∧ c ≤ 122) := by
            rw [decide_eq_decide]
            exact ⟨fun z => z.2.2, fun z => ⟨by simp at h1 h2; omega, by simp at h1 h2; omega, z⟩⟩
          rw [e2] at q
          exact q
      · walk_at "rd"
        rw [decide_eq_false (fun z => by simp at h1; omega)] at q
        exact q
    · rw [hn.isN] at q
      walk_at "rd"
      refine i_isi hn.tyx hn.noStr ?_
      walk_at "rd"
      exact q
    · rw [en] at q
      walk_at "rd"
      refine i_isiC ty kk ?_
      walk_at "rd"
      exact q
end

section
variable {P : Program} {w : World} {K : PySem.W.Frag} {mg : Str → Option Value} {base : Heap}
theorem ok_NoName___init__ (T : Top K mg) : FnOk P w K mg base CX0 1 T.a_NoName___init__ T.d_NoName___init__ ["self", "found"] (spErr K "found") := by
  refine T.F_NoName___init__.ok sc_NoName___init__ (fun vs H Q E h => ?_) (fun cdv A outer s H vs Q E hr h => ?_)
  · obtain ⟨a, C, v, rfl, _⟩ := h
    rfl
  · obtain ⟨a, C, v, rfl, O, hno, ha, q⟩ := h
    refine ⟨_, (pss_cons (ps_expr (pe_kinit (by rfl) T.c_IceError T.sp_IceError T.ty_IceError T.rd_IceError T.fc_IceError (pa_cons (pv 0) (pa_cons pe_str pa_nil))))
      (pss_one (ps_ost (pv 0) (pv 1)))), ?_⟩
    walk_at "rd"
    refine ⟨a, C, _, rfl, by show 1 ≤ 1000; decide, O, ha, ?_⟩
    walk_at "rd"
    exact ⟨a, C, rfl, O, hno, .inl ⟨ha, q⟩⟩

theorem ok_NoNumber___init__ (T : Top K mg) : FnOk P w K mg base CX0 1 T.a_NoNumber___init__ T.d_NoNumber___init__ ["self", "found"] (spErr K "found") := by
  refine T.F_NoNumber___init__.ok sc_NoNumber___init__ (fun vs H Q E h => ?_) (fun cdv A outer s H vs Q E hr h => ?_)
  · obtain ⟨a, C, v, rfl, _⟩ := h
    rfl
  · obtain ⟨a, C, v, rfl, O, hno, ha, q⟩ := h
    refine ⟨_, (pss_cons (ps_expr (pe_kinit (by rfl) T.c_IceError T.sp_IceError T.ty_IceError T.rd_IceError T.fc_IceError (pa_cons (pv 0) (pa_cons pe_str pa_nil))))
      (pss_one (ps_ost (pv 0) (pv 1)))), ?_⟩
    walk_at "rd"
    refine ⟨a, C, _, rfl, by show 1 ≤ 1000; decide, O, ha, ?_⟩
    walk_at "rd"
    exact ⟨a, C, rfl, O, hno, .inl ⟨ha, q⟩⟩

theorem ok_Doubled___init__ (T : Top K mg) : FnOk P w K mg base CX0 1 T.a_Doubled___init__ T.d_Doubled___init__ ["self", "name"] (spErr K "name") := by
  refine T.F_Doubled___init__.ok sc_Doubled___init__ (fun vs H Q E h => ?_) (fun cdv A outer s H vs Q E hr h => ?_)
  · obtain ⟨a, C, v, rfl, _⟩ := h
    rfl
  · obtain ⟨a, C, v, rfl, O, hno, ha, q⟩ := h
    refine ⟨_, (pss_cons (ps_expr (pe_kinit (by rfl) T.c_IceError T.sp_IceError T.ty_IceError T.rd_IceError T.fc_IceError (pa_cons (pv 0) (pa_cons pe_str pa_nil))))
      (pss_one (ps_ost (pv 0) (pv 1)))), ?_⟩
    walk_at "rd"
    refine ⟨a, C, _, rfl, by show 1 ≤ 1000; decide, O, ha, ?_⟩
    walk_at "rd"
    exact ⟨a, C, rfl, O, hno, .inl ⟨ha, q⟩⟩

theorem ok_NoPort___init__ (T : Top K mg) : FnOk P w K mg base CX0 1 T.a_NoPort___init__ T.d_NoPort___init__ ["self", "found"] (spErr K "found") := by
  refine T.F_NoPort___init__.ok sc_NoPort___init__ (fun vs H Q E h => ?_) (fun cdv A outer s H vs Q E hr h => ?_)
  · obtain ⟨a, C, v, rfl, _⟩ := h
    rfl
  · obtain ⟨a, C, v, rfl, O, hno, ha, q⟩ := h
    refine ⟨_, (pss_cons (ps_expr (pe_kinit (by rfl) T.c_IceError T.sp_IceError T.ty_IceError T.rd_IceError T.fc_IceError (pa_cons (pv 0) (pa_cons pe_str pa_nil))))
      (pss_one (ps_ost (pv 0) (pv 1)))), ?_⟩
    walk_at "rd"
    refine ⟨a, C, _, rfl, by show 1 ≤ 1000; decide, O, ha, ?_⟩
    walk_at "rd"
    exact ⟨a, C, rfl, O, hno, .inl ⟨ha, q⟩⟩

theorem ok_NoWorld___init__ (T : Top K mg) : FnOk P w K mg base CX0 1 T.a_NoWorld___init__ T.d_NoWorld___init__ ["self", "found"] (spErr K "found") := by
  refine T.F_NoWorld___init__.ok sc_NoWorld___init__ (fun vs H Q E h => ?_) (fun cdv A outer s H vs Q E hr h => ?_)
  · obtain ⟨a, C, v, rfl, _⟩ := h
    rfl
  · obtain ⟨a, C, v, rfl, O, hno, ha, q⟩ := h
    refine ⟨_, (pss_cons (ps_expr (pe_kinit (by rfl) T.c_IceError T.sp_IceError T.ty_IceError T.rd_IceError T.fc_IceError (pa_cons (pv 0) (pa_cons pe_str pa_nil))))
      (pss_one (ps_ost (pv 0) (pv 1)))), ?_⟩
    walk_at "rd"
    refine ⟨a, C, _, rfl, by show 1 ≤ 1000; decide, O, ha, ?_⟩
    walk_at "rd"
    exact ⟨a, C, rfl, O, hno, .inl ⟨ha, q⟩⟩

end
end Ice

set_option Elab.async false
set_option linter.all false
set_option maxRecDepth 100000
set_option maxHeartbeats 4000000
set_option autoImplicit true
namespace Ice
open PySem PySem.Spec PyProof.Rows L2 TL
/-! side conditions, heaps, one step of a reading, and many -/
local macro_rules | `(tactic| walk_at "hp") => `(tactic| first | assumption | exact upd_same | exact New.at_ (by assumption) | (refine keepU ?_ (by assumption); walk_at "hp") | (refine New.app (by assumption) ?_; walk_at "hp") | (refine Same.app (by assumption) ?_; walk_at "hp") | (refine But.app (by assumption) (by assumption) ?_; walk_at "hp"))
local macro_rules | `(tactic| walk_at "sq") => `(tactic| first | assumption | exact SqL.lst (by walk_at "hp") | exact L2.Same.seq (New.same (by assumption)) (by assumption) | exact L2.Same.seq (by assumption) (by assumption))
local macro_rules | `(tactic| walk_at "len") => `(tactic| first | assumption | (simp only [List.length_cons, List.length_nil, List.length_append, List.length_map]; decide) | (refine Ice.sz_of ?_; simp only [List.length_cons, List.length_nil, List.length_append, List.length_map]; omega))
local macro_rules | `(tactic| walk_at "fresh") => `(tactic| (simp only [List.map_append, List.map_cons, List.map_nil, List.nil_append, List.cons_append]; decide +kernel))
local macro_rules | `(tactic| walk_at "sd") => `(tactic| first | assumption | (show _ ≠ _; omega) | exact Or.inl ⟨by omega, by omega⟩ | exact Or.inr ⟨by omega, by omega⟩ | exact ⟨by decide, by decide⟩ | exact ⟨by decide, by decide, by decide⟩ | exact ⟨by omega, by omega, by omega⟩)
/-! one step of a reading, and many -/
local macro_rules | `(tactic| walk_at "st") => `(tactic| first
  | with_reducible refine i_seq ?_
  | with_reducible refine i_if ?_
  | with_reducible refine i_next ?_
  | with_reducible refine i_ret ?_
  | with_reducible refine i_retN ?_
  | with_reducible refine i_drop ?_
  | with_reducible refine i_asg ?_
  | with_reducible refine i_gname ?_
  | with_reducible refine i_gsub ?_
  | ((with_reducible refine i_var (v := ?vv) ?hv ?_); (case hv => exact rfl))
  | with_reducible refine i_c ?_
  | with_reducible refine i_op ?_
  | with_reducible refine i_un ?_
  | with_reducible refine i_test ?_
  | with_reducible refine i_tB ?_
  | with_reducible refine i_and ?_
  | with_reducible refine i_or ?_
  | with_reducible refine i_not ?_
  | with_reducible refine i_andV ?_
  | with_reducible refine i_orV ?_
  | with_reducible refine i_notV ?_
  | with_reducible refine i_ifE ?_
  | with_reducible refine i_chain ?_
  | with_reducible refine i_bl ?_
  | with_reducible refine i_nil ?_
  | with_reducible refine i_cons ?_
  | with_reducible refine i_call ?_
  | with_reducible refine i_cb ?_
  | with_reducible refine i_rI0 ?_
  | with_reducible refine i_rU ?_
  | ((with_reducible refine i_rEq ?hs ?_); (case hs => exact rfl))
  | ((with_reducible refine i_rNe ?hs ?_); (case hs => exact rfl))
  | ((with_reducible refine i_rI ?hc ?_); (case hc => walk_at "sd"))
  | ((with_reducible refine i_ixL (xs := ?xs) (v := ?vv) ?hS ?he ?_); (case hS => walk_at "sq"); (case he => exact rfl))
  | ((with_reducible refine i_setL (xs := ?xs) (j := ?jj) ?hS ?he ?_); (case hS => walk_at "hp"); (case he => exact rfl))
  | with_reducible refine i_tup ?_
  | with_reducible refine i_lst ?_
  | with_reducible refine i_bm ?_
  | with_reducible refine i_bm0 ?_
  | with_reducible refine i_m1 ?_
  | with_reducible refine i_sl ?_
  | with_reducible refine i_nopart ?_
  | with_reducible refine i_part ?_
  | with_reducible refine i_int ?_
  | with_reducible refine i_str ?_
  | with_reducible refine i_for ?_
  | with_reducible refine i_yes ?_
  | ((with_reducible refine i_lenL (xs := ?xs) ?hS ?_); (case hS => walk_at "sq"))
  | ((with_reducible refine i_room ?hz ?_); (case hz => walk_at "len"))
  | with_reducible refine i_leT ?_
  | with_reducible refine i_notInS ?_
  | with_reducible refine i_inS ?_
  | with_reducible refine i_find ?_
  | with_reducible refine i_isB ?_
  | with_reducible refine i_max2 ?_
  | with_reducible refine i_min2 ?_
  | with_reducible exact trivial
  | with_reducible refine iteT ?_
  | with_reducible refine iteF ?_
  | with_reducible refine i_isstr ?_
  | with_reducible refine i_lc ?_
  | ((with_reducible refine i_cat (xs := ?xs) (zs := ?zs) ?ha ?hb ?hz ?_); (case ha => walk_at "hp"); (case hb => walk_at "hp"); (case hz => walk_at "len"))
  | ((with_reducible refine i_tyL (xs := ?xs) ?ha ?_); (case ha => walk_at "hp"))
  | with_reducible refine i_list ?_
  | with_reducible refine i_disp ?_
  | with_reducible refine i_pairs0 ?_
  | with_reducible refine i_pairs ?_
  | with_reducible refine i_newK ?_
  | with_reducible refine i_gcons ?_
  | with_reducible refine i_gnil ?_
  | with_reducible refine i_revL ?_
  | with_reducible refine i_rng1 ?_
  | ((with_reducible refine i_wipe ?hw ?_); (case hw => exact rfl))
  | with_reducible refine iteNT ?_
  | with_reducible refine iteNF ?_)
local macro_rules | `(tactic| walk_at "sx") => `(tactic| first
  | walk_at "st"
  | with_reducible refine i_kinit ?_
  | with_reducible refine i_ost ?_
  | with_reducible refine i_mkO ?_
  | with_reducible refine i_callE ?_
  | with_reducible refine i_makeE ?_
  | with_reducible refine i_xf ?_
  | with_reducible refine i_sfld ?_
  | with_reducible refine i_fld ?_
  | ((with_reducible refine i_ixT (xs := ?xs) (v := ?vv) ?hS ?he ?_); (case hS => exact SqT.tup (by walk_at "hp")); (case he => exact rfl))
  | with_reducible refine i_intB ?_
  | with_reducible refine i_runS ?_
  | with_reducible refine i_runN ?_
  | ((with_reducible refine i_xf1 (fs := ?ff) (v := ?vv) ?hx ?hl ?_); (case hx => walk_at "hp"); (case hl => exact rfl))
  | with_reducible refine i_methE ?_
  | with_reducible refine i_meth ?_
  | with_reducible refine i_make ?_
  | ((with_reducible refine i_obj (dx := ?dd) (fs := ?ff) ?hx ?hl ?_); (case hx => walk_at "hp"); (case hl => exact rfl))
  | ((with_reducible refine i_fld1 (C := ?CC) (dx := ?dd) (fs := ?ff) (v := ?vv) ?hx ?cl ?na ?hl ?_); (case hx => walk_at "hp"); (case cl => assumption); (case na => assumption); (case hl => exact rfl)))
local macro_rules | `(tactic| walk_at "sy") => `(tactic| first
  | walk_at "sx"
  | with_reducible refine i_dget ?_
  | with_reducible refine i_dget2 ?_
  | with_reducible refine i_dput ?_
  | with_reducible refine i_din ?_
  | ((with_reducible refine i_aug (x := ?vv) ?hx ?_); (case hx => exact rfl)))
local macro_rules | `(tactic| walk_at "rd") => `(tactic| repeat (walk_at "sy"))

section
variable {P : Program} {w : World} {K : PySem.W.Frag} {mg : Str → Option Value} {base : Heap}
def bad (v : V) : Bool := !isN v
def spNames (K : PySem.W.Frag) (C : Addr) : Sp := fun vs H Q E => ∃ (p : Addr) (xs : List V), vs = [.ref p] ∧ H p = some (.lst xs) ∧ (∀ v ∈ xs, Th H v) ∧
  ((xs.find? bad = none → Q .non H) ∧ ∀ v, xs.find? bad = some v → ∀ d, H d = none → E (.ref C) (some d) (upd H d (.xd [(Str.ofString "found", v)])))
theorem find_take {xs : List V} {i : Nat} {v : V} (h : (xs.take i).find? bad = none) (hi : xs[i]? = some v) : (bad v = true → xs.find? bad = some v) ∧ (bad v = false → (xs.take (i + 1)).find? bad = none) := by
  have e : xs.take (i + 1) = xs.take i ++ [v] := by rw [List.take_add_one, hi]; rfl
  refine ⟨fun z => ?_, fun z => ?_⟩
  · have e2 : xs = xs.take i ++ v :: xs.drop (i + 1) := by
      have hl := (List.getElem?_eq_some_iff.mp hi)
      rw [← hl.2, ← List.drop_eq_getElem_cons hl.1, List.take_append_drop]
    rw [e2, List.find?_append, h, List.find?_cons, z]; rfl
  · rw [e, List.find?_append, h, List.find?_cons, z]; rfl
theorem ok_check_names (T : Top K mg) : FnG P w K mg base (L2.CX P w) 3 T.a_check_names T.d_check_names ["things"] (spNames K T.a_NoName) := by
  have G_is_name := ok_is_name (P := P) (w := w) (base := base) T
  have G_NoName___init__ := ok_NoName___init__ (P := P) (w := w) (base := base) T
  refine okGX T.F_check_names sc_check_names (fun vs H Q E h => ?_) (fun cdv A outer s H vs Q E hr hgd h => ?_)
  · obtain ⟨p, xs, rfl, _⟩ := h
    rfl
  · obtain ⟨p, xs, rfl, hp, th, q0, q1⟩ := h
    have G_NoName___init__ := ok_NoName___init__ (P := P) (w := w) (base := base) T
    refine ⟨_, (pss_one (ps_for (passes_of rfl) rfl (pi_list (pv 0)) (pg_name (i := 1) sc_check_names.nd rfl (by first | exact Or.inl rfl | exact Or.inr rfl))
        (pss_one (ps_if (pt_not (pt_val (g_call G_is_name (hr.mono (by decide)) hgd (by rfl) T.m_is_name T.F_is_name.kp T.b_is_name .nil pass0 (pa_cons (pv 1) pa_nil))))
        (pss_one (ps_raise rfl (takes_of rfl rfl rfl rfl) (pmk_oex T.ox_NoName T.in_NoName T.tf_NoName G_NoName___init__ (hr.mono (by decide)) T.b_NoName___init__ .nil pass0 (by rfl) T.c_NoName (pa_cons (pv 1) pa_nil))))
        pss_nil)))), ?_⟩
    walk_at "rd"
    refine ⟨p, rfl, ⟨_, SqL.lst hp⟩, ?_⟩
    refine for_list (K := K) (a := p) (xs := xs) (fun i σ H' => H' = H ∧ (∃ v, σ = [some (.ref p), v]) ∧ (xs.take i).find? bad = none) ⟨rfl, ⟨none, rfl⟩, rfl⟩ (fun i σ H' _ h => by rw [h.1]; exact SqL.lst hp) ?_ ?_
    · rintro i v σ H' hi ⟨rfl, ⟨_, rfl⟩, hf⟩
      obtain ⟨f1, f2⟩ := find_take hf hi
      walk_at "rd"
      refine ⟨v, rfl, .inl (th v (List.mem_of_getElem? hi)), ?_⟩
      walk_at "rd"
      refine ifs (fun h1 => ?_) (fun h1 => ?_)
      · walk_at "rd"
        exact i_mkE T.ox_NoName T.nf_NoName_found (q1 v (f1 h1))
      · exact ⟨rfl, ⟨_, rfl⟩, f2 (by simpa [bad] using h1)⟩
    · rintro σ H' ⟨rfl, ⟨_, rfl⟩, hf⟩
      walk_at "rd"
      rw [List.take_length] at hf
      exact q0 hf
def spNumber (K : PySem.W.Frag) (C : Addr) : Sp := fun vs H Q E => ∃ (v : V) (lo hi : Int), vs = [v, .int lo, .int hi] ∧ Th H v ∧
  ((inB lo hi v = true → Q .non H) ∧ (inB lo hi v = false → ∀ d, H d = none → E (.ref C) (some d) (upd H d (.xd [(Str.ofString "found", v)]))))
theorem ok_check_number (T : Top K mg) : FnG P w K mg base (L2.CX P w) 3 T.a_check_number T.d_check_number ["thing", "low", "high"] (spNumber K T.a_NoNumber) := by
  have G_is_within := ok_is_within (P := P) (w := w) (base := base) T
  have G_NoNumber___init__ := ok_NoNumber___init__ (P := P) (w := w) (base := base) T
  refine okGX T.F_check_number sc_check_number (fun vs H Q E h => ?_) (fun cdv A outer s H vs Q E hr hgd h => ?_)
  · obtain ⟨v, lo, hi, rfl, _⟩ := h
    rfl
  · obtain ⟨v, lo, hi, rfl, th, q0, q1⟩ := h
    have G_NoNumber___init__ := ok_NoNumber___init__ (P := P) (w := w) (base := base) T
    refine ⟨_, (pss_one (ps_if (pt_not (pt_val (g_call G_is_within (hr.mono (by decide)) hgd (by rfl) T.m_is_within T.F_is_within.kp T.b_is_within .nil pass0 (pa_cons (pv 0) (pa_cons (pv 1) (pa_cons (pv 2) pa_nil))))))
        (pss_one (ps_raise rfl (takes_of rfl rfl rfl rfl) (pmk_oex T.ox_NoNumber T.in_NoNumber T.tf_NoNumber G_NoNumber___init__ (hr.mono (by decide)) T.b_NoNumber___init__ .nil pass0 (by rfl) T.c_NoNumber (pa_cons (pv 0) pa_nil))))
        pss_nil)), ?_⟩
    walk_at "rd"
    refine ⟨v, lo, hi, rfl, th, ?_⟩
    walk_at "rd"
    refine ifs (fun h1 => ?_) (fun h1 => ?_)
    · walk_at "rd"
      exact i_mkE T.ox_NoNumber T.nf_NoNumber_found (q1 (by simpa using h1))
    · exact q0 (by simpa using h1)
end

/-- what comes of names and numbers: a vessel, or what is refused -/
inductive ResV
  | made | name (v : V) | number (v : V)
def offB (z : V × Int × Int) : Bool := !inB z.2.1 z.2.2 z.1
def resV (names : List V) (nums : List (V × Int × Int)) : ResV :=
  match names.find? bad with
  | some v => .name v
  | none => match nums.find? offB with
    | some z => .number z.1
    | none => .made
section
variable {P : Program} {w : World} {K : PySem.W.Frag} {mg : Str → Option Value} {base : Heap}
def fldV (n p h s d : V) : List (Str × V) := [(Str.ofString "name", n), (Str.ofString "port", p), (Str.ofString "hour", h), (Str.ofString "strength", s), (Str.ofString "draught", d)]
/-- what is wanted of each outcome -/
def WantsV (x : Addr) (r : ResV) (cN cR : Addr) (E : XK) (H : Hp) (made : Prop) : Prop := match r with
  | .made => made
  | .name v => ∀ d H', But x H H' → H' d = some (.xd [(Str.ofString "found", v)]) → E (.ref cN) (some d) H'
  | .number v => ∀ d H', But x H H' → H' d = some (.xd [(Str.ofString "found", v)]) → E (.ref cR) (some d) H'
/-- what is known of the class of an object that is being made -/
structure KnV (K : PySem.W.Frag) (C : Addr) : Prop where
  cl : Cls K C
  n1 : NoAttr K C "name"
  n2 : NoAttr K C "port"
  n3 : NoAttr K C "hour"
  n4 : NoAttr K C "strength"
  n5 : NoAttr K C "draught"
def spInitV (K : PySem.W.Frag) (cN cR : Addr) : Sp := fun vs H Q E => ∃ (x C dx : Addr) (n p h s d : V) (fs0 : List (Str × V)), vs = [.ref x, n, p, h, s, d] ∧ H x = some (.ins C dx fs0) ∧ (fs0 = [] ∨ ∃ v0, fs0 = [(Str.ofString "_vessels", v0)]) ∧ KnV K C ∧ (∀ v ∈ [n, p, h, s, d], Th H v) ∧
  WantsV x (resV [n, p] [(h, 0, 1000000), (s, 0, 1000000), (d, 0, 1000)]) cN cR E H (∀ H', But x H H' → H' x = some (.ins C dx (fs0 ++ fldV n p h s d)) → Q .non H')
theorem ok_Vessel___init__ (T : Top K mg) : FnG P w K mg base (L2.CX P w) 4 T.a_Vessel___init__ T.d_Vessel___init__ ["self", "name", "port", "hour", "strength", "draught"] (spInitV K T.a_NoName T.a_NoNumber) := by
  have G_check_names := ok_check_names (P := P) (w := w) (base := base) T
  have G_check_number := ok_check_number (P := P) (w := w) (base := base) T
  refine okGX T.F_Vessel___init__ sc_Vessel___init__ (fun vs H Q E h => ?_) (fun cdv A outer s H vs Q E hr hgd h => ?_)
  · obtain ⟨x, C, dx, n, p, h, s, d, fs0, rfl, _⟩ := h
    rfl
  · obtain ⟨x, C, dx, n, p, h, s', d, fs0, rfl, hx, hfs, kn, th, q⟩ := h
    have thn := th n (by simp); have thp := th p (by simp); have thh := th h (by simp); have ths := th s' (by simp); have thd := th d (by simp)
    refine ⟨_, (pss_cons (ps_expr (g_callE (E := WE _) G_check_names (hr.mono (by decide)) hgd (by rfl) T.m_check_names T.F_check_names.kp T.b_check_names .nil (passAt (takes_of rfl rfl rfl rfl)) (pa_cons (pe_lst (pa_cons (pv 1) (pa_cons (pv 2) pa_nil))) pa_nil)))
      (pss_cons (ps_expr (g_callE (E := WE _) G_check_number (hr.mono (by decide)) hgd (by rfl) T.m_check_number T.F_check_number.kp T.b_check_number .nil (passAt (takes_of rfl rfl rfl rfl)) (pa_cons (pv 3) (pa_cons pe_int (pa_cons (pe_glob (v := .int 1000000) (by rfl) T.c_HOUR_MOST ⟨_, rfl⟩) pa_nil)))))
      (pss_cons (ps_expr (g_callE (E := WE _) G_check_number (hr.mono (by decide)) hgd (by rfl) T.m_check_number T.F_check_number.kp T.b_check_number .nil (passAt (takes_of rfl rfl rfl rfl)) (pa_cons (pv 4) (pa_cons pe_int (pa_cons (pe_glob (v := .int 1000000) (by rfl) T.c_STRENGTH_MOST ⟨_, rfl⟩) pa_nil)))))
      (pss_cons (ps_expr (g_callE (E := WE _) G_check_number (hr.mono (by decide)) hgd (by rfl) T.m_check_number T.F_check_number.kp T.b_check_number .nil (passAt (takes_of rfl rfl rfl rfl)) (pa_cons (pv 5) (pa_cons pe_int (pa_cons (pe_glob (v := .int 1000) (by rfl) T.c_DEPTH_MOST ⟨_, rfl⟩) pa_nil)))))
      (pss_cons (ps_fld (pv 0) (pv 1) rfl)
      (pss_cons (ps_fld (pv 0) (pv 2) rfl)
      (pss_cons (ps_fld (pv 0) (pv 3) rfl)
      (pss_cons (ps_fld (pv 0) (pv 4) rfl)
      (pss_one (ps_fld (pv 0) (pv 5) rfl)))))))))), ?_⟩
    walk_at "rd"
    (intro p1 hp1; generalize ep1 : upd _ p1 _ = J; have N := New.of ep1 hp1; clear ep1 hp1)
    walk_at "rd"
    have xp : x ≠ p1 := ne_of_none hx N.free
    refine ⟨p1, [n, p], rfl, N.at_, ?_, ?_, ?_⟩
    · intro v hv
      simp at hv
      rcases hv with rfl | rfl
      · exact thn.same N.same
      · exact thp.same N.same
    · intro nb
      unfold resV at q
      rw [nb] at q
      dsimp only at q
      walk_at "rd"
      refine ⟨h, _, _, rfl, thh.same N.same, fun b1 => ?_, fun b1 dd hd => ?_⟩
      · walk_at "rd"
        rw [List.find?_cons_of_neg (by show ¬ (!inB 0 1000000 h) = true; rw [b1]; decide)] at q
        refine ⟨s', _, _, rfl, ths.same N.same, fun b2 => ?_, fun b2 dd hd => ?_⟩
        · walk_at "rd"
          rw [List.find?_cons_of_neg (by show ¬ (!inB 0 1000000 s') = true; rw [b2]; decide)] at q
          refine ⟨d, _, _, rfl, thd.same N.same, fun b3 => ?_, fun b3 dd hd => ?_⟩
          · rw [List.find?_cons_of_neg (by show ¬ (!inB 0 1000 d) = true; rw [b3]; decide), List.find?_nil] at q
            have hx0 : J x = some (.ins C dx fs0) := N.app hx
            walk_at "rd"
            rcases hfs with rfl | ⟨v0, rfl⟩
            all_goals
              (refine i_store hx0 kn.cl kn.n1 (by simp) (by walk_at "fresh") ?_
               walk_at "rd"
               refine i_store upd_same kn.cl kn.n2 (by simp) (by walk_at "fresh") ?_
               walk_at "rd"
               refine i_store upd_same kn.cl kn.n3 (by simp) (by walk_at "fresh") ?_
               walk_at "rd"
               refine i_store upd_same kn.cl kn.n4 (by simp) (by walk_at "fresh") ?_
               walk_at "rd"
               refine i_store upd_same kn.cl kn.n5 (by simp) (by walk_at "fresh") ?_
               refine q _ ?_ upd_same
               intro b u nb hb
               repeat rw [upd_ne nb]
               exact N.app hb)
          · rw [List.find?_cons_of_pos (by show (!inB 0 1000 d) = true; rw [b3]; decide)] at q
            exact q dd _ (Ice.Same.but (N.same.trans (Same.new _ hd))) upd_same
        · rw [List.find?_cons_of_pos (by show (!inB 0 1000000 s') = true; rw [b2]; decide)] at q
          exact q dd _ (Ice.Same.but (N.same.trans (Same.new _ hd))) upd_same
      · rw [List.find?_cons_of_pos (by show (!inB 0 1000000 h) = true; rw [b1]; decide)] at q
        exact q dd _ (Ice.Same.but (N.same.trans (Same.new _ hd))) upd_same
    · intro v hv dd hd
      unfold resV at q
      rw [hv] at q
      exact q dd _ (Ice.Same.but (N.same.trans (Same.new _ hd))) upd_same
end

/-- what comes of eight things: a channel, or what is refused -/
inductive Res
  | made | name (v : V) | doubled (v : V) | number (v : V)
def inV6 (f m : V) : Bool := match f with
  | .int lo => inB lo 1000000 m
  | _ => false
def resC (n o t h d f g m : V) : Res :=
  match [n, o, t].find? bad with
  | some v => .name v
  | none => if o = t then .doubled o else if inB 1 1000 h = false then .number h else if inB 0 1000 d = false then .number d
    else if inB 0 1000000 f = false then .number f else if inB 0 1000 g = false then .number g else if inV6 f m = false then .number m else .made
section
variable {P : Program} {w : World} {K : PySem.W.Frag} {mg : Str → Option Value} {base : Heap}
def fldC (n o t h d f g m : V) : List (Str × V) := [(Str.ofString "name", n), (Str.ofString "one", o), (Str.ofString "other", t), (Str.ofString "hours", h), (Str.ofString "depth", d), (Str.ofString "first", f), (Str.ofString "growth", g), (Str.ofString "most", m)]
/-- what is wanted of each outcome -/
def Wants (r : Res) (cN cD cR : Addr) (E : XK) (H : Hp) (made : Prop) : Prop := match r with
  | .made => made
  | .name v => ∀ d H', Same H H' → H' d = some (.xd [(Str.ofString "found", v)]) → E (.ref cN) (some d) H'
  | .doubled v => ∀ d H', Same H H' → H' d = some (.xd [(Str.ofString "name", v)]) → E (.ref cD) (some d) H'
  | .number v => ∀ d H', Same H H' → H' d = some (.xd [(Str.ofString "found", v)]) → E (.ref cR) (some d) H'
def spInitC (C cN cD cR : Addr) : Sp := fun vs H Q E => ∃ (x dx : Addr) (n o t h d f g m : V), vs = [.ref x, n, o, t, h, d, f, g, m] ∧ H x = some (.ins C dx []) ∧ (∀ v ∈ [n, o, t, h, d, f, g, m], Th H v) ∧
  Wants (resC n o t h d f g m) cN cD cR E H (∀ H', But x H H' → H' x = some (.ins C dx (fldC n o t h d f g m)) → Q .non H')
theorem name_of {H : Hp} {v : V} (h : bad v = false) : ∃ s, v = .str s := by
  cases v <;> first | exact ⟨_, rfl⟩ | cases h
theorem ok_Channel___init__ (T : Top K mg) : FnG P w K mg base (L2.CX P w) 4 T.a_Channel___init__ T.d_Channel___init__ ["self", "name", "one", "other", "hours", "depth", "first", "growth", "most"] (spInitC T.a_Channel T.a_NoName T.a_Doubled T.a_NoNumber) := by
  have G_check_names := ok_check_names (P := P) (w := w) (base := base) T
  have G_check_number := ok_check_number (P := P) (w := w) (base := base) T
  have G_Doubled___init__ := ok_Doubled___init__ (P := P) (w := w) (base := base) T
  refine okGX T.F_Channel___init__ sc_Channel___init__ (fun vs H Q E h => ?_) (fun cdv A outer s H vs Q E hr hgd h => ?_)
  · obtain ⟨x, dx, n, o, t, h, d, f, g, m, rfl, _⟩ := h
    rfl
  · obtain ⟨x, dx, n, o, t, h, d, f, g, m, rfl, hx, th, q⟩ := h
    have G_Doubled___init__ := ok_Doubled___init__ (P := P) (w := w) (base := base) T
    have thn := th n (by simp); have tho := th o (by simp); have tht := th t (by simp); have thh := th h (by simp)
    have thd := th d (by simp); have thf := th f (by simp); have thg := th g (by simp); have thm := th m (by simp)
    refine ⟨_, (pss_cons (ps_expr (g_callE (E := WE _) G_check_names (hr.mono (by decide)) hgd (by rfl) T.m_check_names T.F_check_names.kp T.b_check_names .nil (passAt (takes_of rfl rfl rfl rfl)) (pa_cons (pe_lst (pa_cons (pv 1) (pa_cons (pv 2) (pa_cons (pv 3) pa_nil)))) pa_nil)))
      (pss_cons (ps_if (pt_cmpR op_eq (pv 2) (pv 3) (nomark _))
        (pss_one (ps_raise rfl (takes_of rfl rfl rfl rfl) (pmk_oex T.ox_Doubled T.in_Doubled T.tf_Doubled G_Doubled___init__ (hr.mono (by decide)) T.b_Doubled___init__ .nil pass0 (by rfl) T.c_Doubled (pa_cons (pv 2) pa_nil))))
        pss_nil)
      (pss_cons (ps_expr (g_callE (E := WE _) G_check_number (hr.mono (by decide)) hgd (by rfl) T.m_check_number T.F_check_number.kp T.b_check_number .nil (passAt (takes_of rfl rfl rfl rfl)) (pa_cons (pv 4) (pa_cons pe_int (pa_cons (pe_glob (v := .int 1000) (by rfl) T.c_HOURS_MOST ⟨_, rfl⟩) pa_nil)))))
      (pss_cons (ps_expr (g_callE (E := WE _) G_check_number (hr.mono (by decide)) hgd (by rfl) T.m_check_number T.F_check_number.kp T.b_check_number .nil (passAt (takes_of rfl rfl rfl rfl)) (pa_cons (pv 5) (pa_cons pe_int (pa_cons (pe_glob (v := .int 1000) (by rfl) T.c_DEPTH_MOST ⟨_, rfl⟩) pa_nil)))))
      (pss_cons (ps_expr (g_callE (E := WE _) G_check_number (hr.mono (by decide)) hgd (by rfl) T.m_check_number T.F_check_number.kp T.b_check_number .nil (passAt (takes_of rfl rfl rfl rfl)) (pa_cons (pv 6) (pa_cons pe_int (pa_cons (pe_glob (v := .int 1000000) (by rfl) T.c_THICK_MOST ⟨_, rfl⟩) pa_nil)))))
      (pss_cons (ps_expr (g_callE (E := WE _) G_check_number (hr.mono (by decide)) hgd (by rfl) T.m_check_number T.F_check_number.kp T.b_check_number .nil (passAt (takes_of rfl rfl rfl rfl)) (pa_cons (pv 7) (pa_cons pe_int (pa_cons (pe_glob (v := .int 1000) (by rfl) T.c_GROWTH_MOST ⟨_, rfl⟩) pa_nil)))))
      (pss_cons (ps_expr (g_callE (E := WE _) G_check_number (hr.mono (by decide)) hgd (by rfl) T.m_check_number T.F_check_number.kp T.b_check_number .nil (passAt (takes_of rfl rfl rfl rfl)) (pa_cons (pv 8) (pa_cons (pv 6) (pa_cons (pe_glob (v := .int 1000000) (by rfl) T.c_THICK_MOST ⟨_, rfl⟩) pa_nil)))))
      (pss_cons (ps_fld (pv 0) (pv 1) rfl)
      (pss_cons (ps_fld (pv 0) (pv 2) rfl)
      (pss_cons (ps_fld (pv 0) (pv 3) rfl)
      (pss_cons (ps_fld (pv 0) (pv 4) rfl)
      (pss_cons (ps_fld (pv 0) (pv 5) rfl)
      (pss_cons (ps_fld (pv 0) (pv 6) rfl)
      (pss_cons (ps_fld (pv 0) (pv 7) rfl)
      (pss_one (ps_fld (pv 0) (pv 8) rfl)))))))))))))))), ?_⟩
    walk_at "rd"
    (intro p hp; generalize ep : upd _ p _ = J; have N := New.of ep hp; clear ep hp)
    walk_at "rd"
    have xp : x ≠ p := ne_of_none hx N.free
    refine ⟨p, [n, o, t], rfl, N.at_, ?_, ?_, ?_⟩
    · intro v hv
      simp at hv
      rcases hv with rfl | rfl | rfl
      · exact thn.same N.same
      · exact tho.same N.same
      · exact tht.same N.same
    · intro nb
      obtain ⟨bo, bt⟩ : bad o = false ∧ bad t = false := by simp at nb; exact ⟨nb.2.1, nb.2.2⟩
      obtain ⟨so, rfl⟩ := name_of (H := H) bo
      obtain ⟨st, rfl⟩ := name_of (H := H) bt
      unfold resC at q
      rw [nb] at q
      walk_at "rd"
      refine ifs (fun h1 => ?_) (fun h1 => ?_)
      · walk_at "rd"
        dsimp only at q
        rw [if_pos (of_decide_eq_true h1)] at q
        exact i_mkE T.ox_Doubled T.nf_Doubled_name (fun d hd => q d _ (N.same.trans (Same.new _ hd)) upd_same)
      · walk_at "rd"
        dsimp only at q
        rw [if_neg (of_decide_eq_false h1)] at q
        refine ⟨h, 1, 1000, rfl, thh.same N.same, fun b1 => ?_, fun b1 d hd => ?_⟩
        · walk_at "rd"
          rw [if_neg (by rw [b1]; simp)] at q
          refine ⟨d, 0, 1000, rfl, thd.same N.same, fun b2 => ?_, fun b2 d hd => ?_⟩
          · walk_at "rd"
            rw [if_neg (by rw [b2]; simp)] at q
            refine ⟨f, 0, 1000000, rfl, thf.same N.same, fun b3 => ?_, fun b3 d hd => ?_⟩
            · walk_at "rd"
              rw [if_neg (by rw [b3]; simp)] at q
              refine ⟨g, 0, 1000, rfl, thg.same N.same, fun b4 => ?_, fun b4 d hd => ?_⟩
              · walk_at "rd"
                rw [if_neg (by rw [b4]; simp)] at q
                obtain ⟨lo, rfl⟩ : ∃ i, f = .int i := by cases f <;> first | exact ⟨_, rfl⟩ | cases b3
                refine ⟨m, lo, 1000000, rfl, thm.same N.same, fun b5 => ?_, fun b5 d hd => ?_⟩
                · rw [if_neg (by show ¬ inB lo 1000000 m = false; rw [b5]; simp)] at q
                  have hx0 : J x = some (.ins T.a_Channel dx []) := N.app hx
                  walk_at "rd"
                  refine i_store hx0 T.cl_Channel T.na_Channel_name (by decide) (by decide +kernel) ?_
                  walk_at "rd"
                  refine i_store upd_same T.cl_Channel T.na_Channel_one (by simp) (by walk_at "fresh") ?_
                  walk_at "rd"
                  refine i_store upd_same T.cl_Channel T.na_Channel_other (by simp) (by walk_at "fresh") ?_
                  walk_at "rd"
                  refine i_store upd_same T.cl_Channel T.na_Channel_hours (by simp) (by walk_at "fresh") ?_
                  walk_at "rd"
                  refine i_store upd_same T.cl_Channel T.na_Channel_depth (by simp) (by walk_at "fresh") ?_
                  walk_at "rd"
                  refine i_store upd_same T.cl_Channel T.na_Channel_first (by simp) (by walk_at "fresh") ?_
                  walk_at "rd"
                  refine i_store upd_same T.cl_Channel T.na_Channel_growth (by simp) (by walk_at "fresh") ?_
                  walk_at "rd"
                  refine i_store upd_same T.cl_Channel T.na_Channel_most (by simp) (by walk_at "fresh") ?_
                  refine q _ ?_ upd_same
                  intro b u nb hb
                  repeat rw [upd_ne nb]
                  exact N.app hb
                · rw [if_pos (show inV6 (.int lo) m = false from b5)] at q
                  exact q d _ (N.same.trans (Same.new _ hd)) upd_same
              · rw [if_pos b4] at q
                exact q d _ (N.same.trans (Same.new _ hd)) upd_same
            · rw [if_pos b3] at q
              exact q d _ (N.same.trans (Same.new _ hd)) upd_same
          · rw [if_pos b2] at q
            exact q d _ (N.same.trans (Same.new _ hd)) upd_same
        · rw [if_pos b1] at q
          exact q d _ (N.same.trans (Same.new _ hd)) upd_same
    · intro v hv d hd
      unfold resC at q
      rw [hv] at q
      exact q d _ (N.same.trans (Same.new _ hd)) upd_same
end

end Ice

set_option Elab.async false
set_option linter.all false
set_option maxRecDepth 100000
set_option maxHeartbeats 4000000
set_option autoImplicit true
namespace Ice
open PySem PySem.Spec PyProof.Rows L2 TL
/-! side conditions, heaps, one step of a reading, and many -/
local macro_rules | `(tactic| walk_at "hp") => `(tactic| first | assumption | exact upd_same | exact New.at_ (by assumption) | (refine keepU ?_ (by assumption); walk_at "hp") | (refine New.app (by assumption) ?_; walk_at "hp") | (refine Same.app (by assumption) ?_; walk_at "hp") | (refine But.app (by assumption) (by assumption) ?_; walk_at "hp"))
local macro_rules | `(tactic| walk_at "sq") => `(tactic| first | assumption | exact SqL.lst (by walk_at "hp") | exact L2.Same.seq (New.same (by assumption)) (by assumption) | exact L2.Same.seq (by assumption) (by assumption))
local macro_rules | `(tactic| walk_at "len") => `(tactic| first | assumption | (simp only [List.length_cons, List.length_nil, List.length_append, List.length_map]; decide) | (refine Ice.sz_of ?_; simp only [List.length_cons, List.length_nil, List.length_append, List.length_map]; omega))
local macro_rules | `(tactic| walk_at "fresh") => `(tactic| (simp only [List.map_append, List.map_cons, List.map_nil, List.nil_append, List.cons_append]; decide +kernel))
local macro_rules | `(tactic| walk_at "sd") => `(tactic| first | assumption | (show _ ≠ _; omega) | exact Or.inl ⟨by omega, by omega⟩ | exact Or.inr ⟨by omega, by omega⟩ | exact ⟨by decide, by decide⟩ | exact ⟨by decide, by decide, by decide⟩ | exact ⟨by omega, by omega, by omega⟩)
/-! one step of a reading, and many -/
local macro_rules | `(tactic| walk_at "st") => `(tactic| first
  | with_reducible refine i_seq ?_
  | with_reducible refine i_if ?_
  | with_reducible refine i_next ?_
  | with_reducible refine i_ret ?_
  | with_reducible refine i_retN ?_
  | with_reducible refine i_drop ?_
  | with_reducible refine i_asg ?_
  | with_reducible refine i_gname ?_
  | with_reducible refine i_gsub ?_
  | ((with_reducible refine i_var (v := ?vv) ?hv ?_); (case hv => exact rfl))
  | with_reducible refine i_c ?_
  | with_reducible refine i_op ?_
  | with_reducible refine i_un ?_
  | with_reducible refine i_test ?_
  | with_reducible refine i_tB ?_
  | with_reducible refine i_and ?_
  | with_reducible refine i_or ?_
  | with_reducible refine i_not ?_
  | with_reducible refine i_andV ?_
  | with_reducible refine i_orV ?_
  | with_reducible refine i_notV ?_
  | with_reducible refine i_ifE ?_
  | with_reducible refine i_chain ?_
  | with_reducible refine i_bl ?_
  | with_reducible refine i_nil ?_
  | with_reducible refine i_cons ?_
  | with_reducible refine i_call ?_
  | with_reducible refine i_cb ?_
  | with_reducible refine i_rI0 ?_
  | with_reducible refine i_rU ?_
  | ((with_reducible refine i_rEq ?hs ?_); (case hs => exact rfl))
  | ((with_reducible refine i_rNe ?hs ?_); (case hs => exact rfl))
  | ((with_reducible refine i_rI ?hc ?_); (case hc => walk_at "sd"))
  | ((with_reducible refine i_ixL (xs := ?xs) (v := ?vv) ?hS ?he ?_); (case hS => walk_at "sq"); (case he => exact rfl))
  | ((with_reducible refine i_setL (xs := ?xs) (j := ?jj) ?hS ?he ?_); (case hS => walk_at "hp"); (case he => exact rfl))
  | with_reducible refine i_tup ?_
  | with_reducible refine i_lst ?_
  | with_reducible refine i_bm ?_
  | with_reducible refine i_bm0 ?_
  | with_reducible refine i_m1 ?_
  | with_reducible refine i_sl ?_
  | with_reducible refine i_nopart ?_
  | with_reducible refine i_part ?_
  | with_reducible refine i_int ?_
  | with_reducible refine i_str ?_
  | with_reducible refine i_for ?_
  | with_reducible refine i_yes ?_
  | ((with_reducible refine i_lenL (xs := ?xs) ?hS ?_); (case hS => walk_at "sq"))
  | ((with_reducible refine i_room ?hz ?_); (case hz => walk_at "len"))
  | with_reducible refine i_leT ?_
  | with_reducible refine i_notInS ?_
  | with_reducible refine i_inS ?_
  | with_reducible refine i_find ?_
  | with_reducible refine i_isB ?_
  | with_reducible refine i_max2 ?_
  | with_reducible refine i_min2 ?_
  | with_reducible exact trivial
  | with_reducible refine iteT ?_
  | with_reducible refine iteF ?_
  | with_reducible refine i_isstr ?_
  | with_reducible refine i_lc ?_
  | ((with_reducible refine i_cat (xs := ?xs) (zs := ?zs) ?ha ?hb ?hz ?_); (case ha => walk_at "hp"); (case hb => walk_at "hp"); (case hz => walk_at "len"))
  | ((with_reducible refine i_tyL (xs := ?xs) ?ha ?_); (case ha => walk_at "hp"))
  | with_reducible refine i_list ?_
  | with_reducible refine i_disp ?_
  | with_reducible refine i_pairs0 ?_
  | with_reducible refine i_pairs ?_
  | with_reducible refine i_newK ?_
  | with_reducible refine i_gcons ?_
  | with_reducible refine i_gnil ?_
  | with_reducible refine i_revL ?_
  | with_reducible refine i_rng1 ?_
  | ((with_reducible refine i_wipe ?hw ?_); (case hw => exact rfl))
  | with_reducible refine iteNT ?_
  | with_reducible refine iteNF ?_)
local macro_rules | `(tactic| walk_at "sx") => `(tactic| first
  | walk_at "st"
  | with_reducible refine i_kinit ?_
  | with_reducible refine i_ost ?_
  | with_reducible refine i_mkO ?_
  | with_reducible refine i_callE ?_
  | with_reducible refine i_makeE ?_
  | with_reducible refine i_xf ?_
  | with_reducible refine i_sfld ?_
  | with_reducible refine i_fld ?_
  | ((with_reducible refine i_ixT (xs := ?xs) (v := ?vv) ?hS ?he ?_); (case hS => exact SqT.tup (by walk_at "hp")); (case he => exact rfl))
  | with_reducible refine i_intB ?_
  | with_reducible refine i_runS ?_
  | with_reducible refine i_runN ?_
  | ((with_reducible refine i_xf1 (fs := ?ff) (v := ?vv) ?hx ?hl ?_); (case hx => walk_at "hp"); (case hl => exact rfl))
  | with_reducible refine i_methE ?_
  | with_reducible refine i_meth ?_
  | with_reducible refine i_make ?_
  | ((with_reducible refine i_obj (dx := ?dd) (fs := ?ff) ?hx ?hl ?_); (case hx => walk_at "hp"); (case hl => exact rfl))
  | ((with_reducible refine i_fld1 (C := ?CC) (dx := ?dd) (fs := ?ff) (v := ?vv) ?hx ?cl ?na ?hl ?_); (case hx => walk_at "hp"); (case cl => assumption); (case na => assumption); (case hl => exact rfl)))
local macro_rules | `(tactic| walk_at "sy") => `(tactic| first
  | walk_at "sx"
  | with_reducible refine i_dget ?_
  | with_reducible refine i_dget2 ?_
  | with_reducible refine i_dput ?_
  | with_reducible refine i_din ?_
  | ((with_reducible refine i_aug (x := ?vv) ?hx ?_); (case hx => exact rfl)))
local macro_rules | `(tactic| walk_at "rd") => `(tactic| repeat (walk_at "sy"))

theorem Th.butI {H H' : Hp} {x C dx : Addr} {fs : List (Str × V)} {v : V} (h : Th H v) (hx : H x = some (.ins C dx fs)) (e : But x H H') : Th H' v := by
  rcases h with h | ⟨n, h⟩
  · exact .inl h
  · refine .inr ?_
    cases h with
    | non => exact ⟨_, .non⟩
    | int i => exact ⟨_, .int i⟩
    | bl b => exact ⟨_, .bl b⟩
    | lst h => exact ⟨_, .lst (e _ _ (ne_of h hx (by intro z; cases z)) h)⟩
    | tup h => exact ⟨_, .tup (e _ _ (ne_of h hx (by intro z; cases z)) h)⟩
    | dct h => exact ⟨_, .dct (e _ _ (ne_of h hx (by intro z; cases z)) h)⟩

theorem resV_snoc (names : List V) (l : List (V × Int × Int)) (z : V × Int × Int) : resV names (l ++ [z]) = match resV names l with
    | .made => if offB z = true then .number z.1 else .made
    | .name v => .name v
    | .number v => .number v := by
  unfold resV
  cases names.find? bad with
  | some v => rfl
  | none =>
    dsimp only
    rw [List.find?_append]
    cases l.find? offB with
    | some u => rfl
    | none =>
      dsimp only [Option.none_or]
      by_cases e : offB z = true
      · rw [List.find?_cons_of_pos e, if_pos e]
      · rw [List.find?_cons_of_neg e, if_neg e]; rfl
section
variable {P : Program} {w : World} {K : PySem.W.Frag} {mg : Str → Option Value} {base : Heap}
def spInitB (C cN cR : Addr) : Sp := fun vs H Q E => ∃ (x dx : Addr) (n p h s d c : V), vs = [.ref x, n, p, h, s, d, c] ∧ H x = some (.ins C dx []) ∧ (∀ v ∈ [n, p, h, s, d, c], Th H v) ∧
  WantsV x (resV [n, p] ([(h, 0, 1000000), (s, 0, 1000000), (d, 0, 1000)] ++ [(c, 1, 1000000)])) cN cR E H (∀ H', But x H H' → H' x = some (.ins C dx (fldV n p h s d ++ [(Str.ofString "cut", c)])) → Q .non H')
theorem kn_Breaker (T : Top K mg) : KnV K T.a_Breaker := ⟨T.cl_Breaker, T.na_Breaker_name, T.na_Breaker_port, T.na_Breaker_hour, T.na_Breaker_strength, T.na_Breaker_draught⟩
theorem kn_Ship (T : Top K mg) : KnV K T.a_Ship := ⟨T.cl_Ship, T.na_Ship_name, T.na_Ship_port, T.na_Ship_hour, T.na_Ship_strength, T.na_Ship_draught⟩
theorem ok_Breaker___init__ (T : Top K mg) : FnG P w K mg base (L2.CX P w) 5 T.a_Breaker___init__ T.d_Breaker___init__ ["self", "name", "port", "hour", "strength", "draught", "cut"] (spInitB T.a_Breaker T.a_NoName T.a_NoNumber) := by
  have G_check_number := ok_check_number (P := P) (w := w) (base := base) T
  have G_Vessel___init__ := ok_Vessel___init__ (P := P) (w := w) (base := base) T
  refine okGX T.F_Breaker___init__ sc_Breaker___init__ (fun vs H Q E h => ?_) (fun cdv A outer s H vs Q E hr hgd h => ?_)
  · obtain ⟨x, dx, n, p, h, s, d, c, rfl, _⟩ := h
    rfl
  · obtain ⟨x, dx, n, p, h, s', d, c, rfl, hx, th, q⟩ := h
    refine ⟨_, (pss_cons (ps_expr (g_kinitE (E := WE _) T.ki_Vessel G_Vessel___init__ (hr.mono (by decide)) hgd (by rfl) T.c_Vessel T.b_Vessel___init__ .nil (passAt (takes_of rfl rfl rfl rfl)) (pa_cons (pv 0) (pa_cons (pv 1) (pa_cons (pv 2) (pa_cons (pv 3) (pa_cons (pv 4) (pa_cons (pv 5) pa_nil))))))))
      (pss_cons (ps_expr (g_callE (E := WE _) G_check_number (hr.mono (by decide)) hgd (by rfl) T.m_check_number T.F_check_number.kp T.b_check_number .nil (passAt (takes_of rfl rfl rfl rfl)) (pa_cons (pv 6) (pa_cons pe_int (pa_cons (pe_glob (v := .int 1000000) (by rfl) T.c_CUT_MOST ⟨_, rfl⟩) pa_nil)))))
      (pss_one (ps_fld (pv 0) (pv 6) rfl)))), ?_⟩
    walk_at "rd"
    refine ⟨x, T.a_Breaker, dx, n, p, h, s', d, [], rfl, hx, .inl rfl, kn_Breaker T, fun v hv => th v (by simp at hv ⊢; rcases hv with h | h | h | h | h <;> simp [h]), ?_⟩
    rw [resV_snoc] at q
    generalize resV [n, p] [(h, 0, 1000000), (s', 0, 1000000), (d, 0, 1000)] = r at q ⊢
    cases r with
    | name v => exact q
    | number v => exact q
    | made =>
      intro H1 b1 k1
      have thc : Th H1 c := (th c (by simp)).butI hx b1
      walk_at "rd"
      refine ⟨c, _, _, rfl, thc, fun e1 => ?_, fun e1 dd hd => ?_⟩
      · walk_at "rd"
        dsimp only at q
        rw [if_neg (by show ¬ (!inB 1 1000000 c) = true; rw [e1]; decide)] at q
        refine i_store k1 T.cl_Breaker T.na_Breaker_cut (by simp [fldV]) (by simp only [fldV, List.nil_append, List.map_cons, List.map_nil]; decide +kernel) ?_
        refine q _ ?_ upd_same
        intro a o na ha
        rw [upd_ne na]
        exact b1 a o na ha
      · dsimp only at q
        rw [if_pos (by show (!inB 1 1000000 c) = true; rw [e1]; decide)] at q
        refine q dd _ (fun a o na ha => ?_) upd_same
        rw [upd_ne (ne_of_none (b1 a o na ha) hd)]
        exact b1 a o na ha
theorem resV_goal {n p g : V} {l : List (V × Int × Int)} (h : [n, p, g].find? bad = none) : resV [n, p, g] l = resV [n, p] l := by
  have h2 : [n, p].find? bad = none := by
    simp at h ⊢
    exact ⟨h.1, h.2.1⟩
  unfold resV
  rw [h, h2]
def spInitS (C cN cR : Addr) : Sp := fun vs H Q E => ∃ (x dx : Addr) (n p g h s d : V), vs = [.ref x, n, p, g, h, s, d] ∧ H x = some (.ins C dx []) ∧ (∀ v ∈ [n, p, g, h, s, d], Th H v) ∧
  WantsV x (resV [n, p, g] [(h, 0, 1000000), (s, 0, 1000000), (d, 0, 1000)]) cN cR E H (∀ H', But x H H' → H' x = some (.ins C dx (fldV n p h s d ++ [(Str.ofString "goal", g)])) → Q .non H')
theorem ok_Ship___init__ (T : Top K mg) : FnG P w K mg base (L2.CX P w) 5 T.a_Ship___init__ T.d_Ship___init__ ["self", "name", "port", "goal", "hour", "strength", "draught"] (spInitS T.a_Ship T.a_NoName T.a_NoNumber) := by
  have G_check_names := ok_check_names (P := P) (w := w) (base := base) T
  have G_Vessel___init__ := ok_Vessel___init__ (P := P) (w := w) (base := base) T
  refine okGX T.F_Ship___init__ sc_Ship___init__ (fun vs H Q E h => ?_) (fun cdv A outer s H vs Q E hr hgd h => ?_)
  · obtain ⟨x, dx, n, p, g, h, s, d, rfl, _⟩ := h
    rfl
  · obtain ⟨x, dx, n, p, g, h, s', d, rfl, hx, th, q⟩ := h
    refine ⟨_, (pss_cons (ps_expr (g_callE (E := WE _) G_check_names (hr.mono (by decide)) hgd (by rfl) T.m_check_names T.F_check_names.kp T.b_check_names .nil (passAt (takes_of rfl rfl rfl rfl)) (pa_cons (pe_lst (pa_cons (pv 1) (pa_cons (pv 2) (pa_cons (pv 3) pa_nil)))) pa_nil)))
      (pss_cons (ps_expr (g_kinitE (E := WE _) T.ki_Vessel G_Vessel___init__ (hr.mono (by decide)) hgd (by rfl) T.c_Vessel T.b_Vessel___init__ .nil (passAt (takes_of rfl rfl rfl rfl)) (pa_cons (pv 0) (pa_cons (pv 1) (pa_cons (pv 2) (pa_cons (pv 4) (pa_cons (pv 5) (pa_cons (pv 6) pa_nil))))))))
      (pss_one (ps_fld (pv 0) (pv 3) rfl)))), ?_⟩
    walk_at "rd"
    (intro p1 hp1; generalize ep1 : upd _ p1 _ = J; have N := New.of ep1 hp1; clear ep1 hp1)
    walk_at "rd"
    refine ⟨p1, [n, p, g], rfl, N.at_, fun v hv => (th v (by simp at hv ⊢; rcases hv with h | h | h <;> simp [h])).same N.same, fun nb => ?_, fun v hv dd hd => ?_⟩
    · rw [resV_goal nb] at q
      walk_at "rd"
      refine ⟨x, T.a_Ship, dx, n, p, h, s', d, [], rfl, N.app hx, .inl rfl, kn_Ship T, fun v hv => (th v (by simp at hv ⊢; rcases hv with h | h | h | h | h <;> simp [h])).same N.same, ?_⟩
      generalize resV [n, p] [(h, 0, 1000000), (s', 0, 1000000), (d, 0, 1000)] = r at q ⊢
      cases r with
      | name v => exact fun d' H' b k => q d' H' ((Ice.Same.but N.same).trans b) k
      | number v => exact fun d' H' b k => q d' H' ((Ice.Same.but N.same).trans b) k
      | made =>
        intro H1 b1 k1
        walk_at "rd"
        refine i_store k1 T.cl_Ship T.na_Ship_goal (by simp [fldV]) (by simp only [fldV, List.nil_append, List.map_cons, List.map_nil]; decide +kernel) ?_
        refine q _ ?_ upd_same
        intro a o na ha
        rw [upd_ne na]
        exact b1 a o na (N.app ha)
    · unfold resV at q
      rw [hv] at q
      exact q dd _ (Ice.Same.but (N.same.trans (Same.new _ hd))) upd_same
end

section
variable {P : Program} {w : World} {K : PySem.W.Frag} {mg : Str → Option Value} {base : Heap}
/-- the kinds -/
inductive Kd | v | b | s
def Kd.txt : Kd → Str
  | .v => Str.ofString "vessel"
  | .b => Str.ofString "breaker"
  | .s => Str.ofString "ship"
theorem resV_made {names : List V} {nums : List (V × Int × Int)} (h1 : ∀ v ∈ names, isN v = true) (h2 : ∀ z ∈ nums, inB z.2.1 z.2.2 z.1 = true) : resV names nums = .made := by
  unfold resV
  rw [List.find?_eq_none.mpr (fun v hv => by simp [bad, h1 v hv])]
  dsimp only
  rw [List.find?_eq_none.mpr (fun z hz => by simp [offB, h2 z hz])]
theorem inB_of {lo hi i : Int} (h0 : lo ≤ i) (h1 : i ≤ hi) : inB lo hi (.int i) = true := by
  show (decide (lo ≤ i) && decide (i ≤ hi)) = true
  rw [decide_eq_true h0, decide_eq_true h1]; rfl
/-- a row that stands -/
structure Five (n p : Str) (h s d : Int) : Prop where
  nn : isN (.str n) = true
  np : isN (.str p) = true
  bh : 0 ≤ h ∧ h ≤ 1000000
  bs : 0 ≤ s ∧ s ≤ 1000000
  bd : 0 ≤ d ∧ d ≤ 1000
def RowK : Kd → List V → Prop
  | .v, xs => ∃ n p h s d, Five n p h s d ∧ xs = [.str n, .str p, .int h, .int s, .int d]
  | .b, xs => ∃ n p h s d c, Five n p h s d ∧ (1 ≤ c ∧ c ≤ 1000000) ∧ xs = [.str n, .str p, .int h, .int s, .int d, .int c]
  | .s, xs => ∃ n p h s d g, Five n p h s d ∧ isN (.str g) = true ∧ xs = [.str n, .str p, .str g, .int h, .int s, .int d]
theorem Five.made {n p : Str} {h s d : Int} (f : Five n p h s d) : resV [.str n, .str p] [(.int h, 0, 1000000), (.int s, 0, 1000000), (.int d, 0, 1000)] = .made := by
  refine resV_made ?_ ?_
  · intro v hv
    simp only [List.mem_cons, List.not_mem_nil, or_false] at hv
    rcases hv with rfl | rfl
    · exact f.nn
    · exact f.np
  · intro z hz
    simp only [List.mem_cons, List.not_mem_nil, or_false] at hz
    rcases hz with rfl | rfl | rfl
    · exact inB_of f.bh.1 f.bh.2
    · exact inB_of f.bs.1 f.bs.2
    · exact inB_of f.bd.1 f.bd.2
theorem name_asc {x : Str} (h : isN (.str x) = true) : (1 ≤ x.length ∧ x.length ≤ 8 ∧ ∀ c ∈ tl x, 97 ≤ c ∧ c ≤ 122) := of_decide_eq_true h
theorem name_Asc {x : Str} (h : isN (.str x) = true) : ∀ c ∈ x.cps.toList, c < 128 := fun c hc => by have := (name_asc h).2.2 c hc; omega
theorem name_ps {x : Str} (h : isN (.str x) = true) : Ps (.str x) (.str x) := .str (by have := (name_asc h).2.1; omega) (name_Asc h)
theorem name_th {x : Str} (H : Hp) (h : isN (.str x) = true) : Th H (.str x) := .inl ⟨x, rfl, by have := (name_asc h).2.1; omega⟩
theorem RowK.th {k : Kd} {xs : List V} (H : Hp) (r : RowK k xs) : ∀ v ∈ xs, Th H v := by
  intro v hv
  cases k with
  | v =>
    obtain ⟨n, p, h, s, d, f, rfl⟩ := r
    simp only [List.mem_cons, List.not_mem_nil, or_false] at hv
    rcases hv with rfl | rfl | rfl | rfl | rfl
    · exact name_th H f.nn
    · exact name_th H f.np
    all_goals exact .inr ⟨_, .int _⟩
  | b =>
    obtain ⟨n, p, h, s, d, c, f, _, rfl⟩ := r
    simp only [List.mem_cons, List.not_mem_nil, or_false] at hv
    rcases hv with rfl | rfl | rfl | rfl | rfl | rfl
    · exact name_th H f.nn
    · exact name_th H f.np
    all_goals exact .inr ⟨_, .int _⟩
  | s =>
    obtain ⟨n, p, h, s, d, g, f, hg, rfl⟩ := r
    simp only [List.mem_cons, List.not_mem_nil, or_false] at hv
    rcases hv with rfl | rfl | rfl | rfl | rfl | rfl
    · exact name_th H f.nn
    · exact name_th H f.np
    · exact name_th H hg
    all_goals exact .inr ⟨_, .int _⟩
/-- an object's fields, by its row -/
def fldK : Kd → List V → List (Str × V)
  | .v, [n, p, h, s, d] => fldV n p h s d
  | .b, [n, p, h, s, d, c] => fldV n p h s d ++ [(Str.ofString "cut", c)]
  | .s, [n, p, g, h, s, d] => fldV n p h s d ++ [(Str.ofString "goal", g)]
  | _, _ => []
def clsK (aV aB aS : Addr) : Kd → Addr
  | .v => aV
  | .b => aB
  | .s => aS

end
end Ice

set_option Elab.async false
set_option linter.all false
set_option maxRecDepth 100000
set_option maxHeartbeats 4000000
set_option autoImplicit true
namespace Ice
open PySem PySem.Spec PyProof.Rows L2 TL
/-! side conditions, heaps, one step of a reading, and many -/
local macro_rules | `(tactic| walk_at "hp") => `(tactic| first | assumption | exact upd_same | exact New.at_ (by assumption) | (refine keepU ?_ (by assumption); walk_at "hp") | (refine New.app (by assumption) ?_; walk_at "hp") | (refine Same.app (by assumption) ?_; walk_at "hp") | (refine But.app (by assumption) (by assumption) ?_; walk_at "hp"))
local macro_rules | `(tactic| walk_at "sq") => `(tactic| first | assumption | exact SqL.lst (by walk_at "hp") | exact L2.Same.seq (New.same (by assumption)) (by assumption) | exact L2.Same.seq (by assumption) (by assumption))
local macro_rules | `(tactic| walk_at "len") => `(tactic| first | assumption | (simp only [List.length_cons, List.length_nil, List.length_append, List.length_map]; decide) | (refine Ice.sz_of ?_; simp only [List.length_cons, List.length_nil, List.length_append, List.length_map]; omega))
local macro_rules | `(tactic| walk_at "fresh") => `(tactic| (simp only [List.map_append, List.map_cons, List.map_nil, List.nil_append, List.cons_append]; decide +kernel))
local macro_rules | `(tactic| walk_at "sd") => `(tactic| first | assumption | (show _ ≠ _; omega) | exact Or.inl ⟨by omega, by omega⟩ | exact Or.inr ⟨by omega, by omega⟩ | exact ⟨by decide, by decide⟩ | exact ⟨by decide, by decide, by decide⟩ | exact ⟨by omega, by omega, by omega⟩)
/-! one step of a reading, and many -/
local macro_rules | `(tactic| walk_at "st") => `(tactic| first
  | with_reducible refine i_seq ?_
  | with_reducible refine i_if ?_
  | with_reducible refine i_next ?_
  | with_reducible refine i_ret ?_
  | with_reducible refine i_retN ?_
  | with_reducible refine i_drop ?_
  | with_reducible refine i_asg ?_
  | with_reducible refine i_gname ?_
  | with_reducible refine i_gsub ?_
  | ((with_reducible refine i_var (v := ?vv) ?hv ?_); (case hv => exact rfl))
  | with_reducible refine i_c ?_
  | with_reducible refine i_op ?_
  | with_reducible refine i_un ?_
  | with_reducible refine i_test ?_
  | with_reducible refine i_tB ?_
  | with_reducible refine i_and ?_
  | with_reducible refine i_or ?_
  | with_reducible refine i_not ?_
  | with_reducible refine i_andV ?_
  | with_reducible refine i_orV ?_
  | with_reducible refine i_notV ?_
  | with_reducible refine i_ifE ?_
  | with_reducible refine i_chain ?_
  | with_reducible refine i_bl ?_
  | with_reducible refine i_nil ?_
  | with_reducible refine i_cons ?_
  | with_reducible refine i_call ?_
  | with_reducible refine i_cb ?_
  | with_reducible refine i_rI0 ?_
  | with_reducible refine i_rU ?_
  | ((with_reducible refine i_rEq ?hs ?_); (case hs => exact rfl))
  | ((with_reducible refine i_rNe ?hs ?_); (case hs => exact rfl))
  | ((with_reducible refine i_rI ?hc ?_); (case hc => walk_at "sd"))
  | ((with_reducible refine i_ixL (xs := ?xs) (v := ?vv) ?hS ?he ?_); (case hS => walk_at "sq"); (case he => exact rfl))
  | ((with_reducible refine i_setL (xs := ?xs) (j := ?jj) ?hS ?he ?_); (case hS => walk_at "hp"); (case he => exact rfl))
  | with_reducible refine i_tup ?_
  | with_reducible refine i_lst ?_
  | with_reducible refine i_bm ?_
  | with_reducible refine i_bm0 ?_
  | with_reducible refine i_m1 ?_
  | with_reducible refine i_sl ?_
  | with_reducible refine i_nopart ?_
  | with_reducible refine i_part ?_
  | with_reducible refine i_int ?_
  | with_reducible refine i_str ?_
  | with_reducible refine i_for ?_
  | with_reducible refine i_yes ?_
  | ((with_reducible refine i_lenL (xs := ?xs) ?hS ?_); (case hS => walk_at "sq"))
  | ((with_reducible refine i_room ?hz ?_); (case hz => walk_at "len"))
  | with_reducible refine i_leT ?_
  | with_reducible refine i_notInS ?_
  | with_reducible refine i_inS ?_
  | with_reducible refine i_find ?_
  | with_reducible refine i_isB ?_
  | with_reducible refine i_max2 ?_
  | with_reducible refine i_min2 ?_
  | with_reducible exact trivial
  | with_reducible refine iteT ?_
  | with_reducible refine iteF ?_
  | with_reducible refine i_isstr ?_
  | with_reducible refine i_lc ?_
  | ((with_reducible refine i_cat (xs := ?xs) (zs := ?zs) ?ha ?hb ?hz ?_); (case ha => walk_at "hp"); (case hb => walk_at "hp"); (case hz => walk_at "len"))
  | ((with_reducible refine i_tyL (xs := ?xs) ?ha ?_); (case ha => walk_at "hp"))
  | with_reducible refine i_list ?_
  | with_reducible refine i_disp ?_
  | with_reducible refine i_pairs0 ?_
  | with_reducible refine i_pairs ?_
  | with_reducible refine i_newK ?_
  | with_reducible refine i_gcons ?_
  | with_reducible refine i_gnil ?_
  | with_reducible refine i_revL ?_
  | with_reducible refine i_rng1 ?_
  | ((with_reducible refine i_wipe ?hw ?_); (case hw => exact rfl))
  | with_reducible refine iteNT ?_
  | with_reducible refine iteNF ?_)
local macro_rules | `(tactic| walk_at "sx") => `(tactic| first
  | walk_at "st"
  | with_reducible refine i_kinit ?_
  | with_reducible refine i_ost ?_
  | with_reducible refine i_mkO ?_
  | with_reducible refine i_callE ?_
  | with_reducible refine i_makeE ?_
  | with_reducible refine i_xf ?_
  | with_reducible refine i_sfld ?_
  | with_reducible refine i_fld ?_
  | ((with_reducible refine i_ixT (xs := ?xs) (v := ?vv) ?hS ?he ?_); (case hS => exact SqT.tup (by walk_at "hp")); (case he => exact rfl))
  | with_reducible refine i_intB ?_
  | with_reducible refine i_runS ?_
  | with_reducible refine i_runN ?_
  | ((with_reducible refine i_xf1 (fs := ?ff) (v := ?vv) ?hx ?hl ?_); (case hx => walk_at "hp"); (case hl => exact rfl))
  | with_reducible refine i_methE ?_
  | with_reducible refine i_meth ?_
  | with_reducible refine i_make ?_
  | ((with_reducible refine i_obj (dx := ?dd) (fs := ?ff) ?hx ?hl ?_); (case hx => walk_at "hp"); (case hl => exact rfl))
  | ((with_reducible refine i_fld1 (C := ?CC) (dx := ?dd) (fs := ?ff) (v := ?vv) ?hx ?cl ?na ?hl ?_); (case hx => walk_at "hp"); (case cl => assumption); (case na => assumption); (case hl => exact rfl)))
local macro_rules | `(tactic| walk_at "sy") => `(tactic| first
  | walk_at "sx"
  | with_reducible refine i_dget ?_
  | with_reducible refine i_dget2 ?_
  | with_reducible refine i_dput ?_
  | with_reducible refine i_din ?_
  | ((with_reducible refine i_aug (x := ?vv) ?hx ?_); (case hx => exact rfl)))
local macro_rules | `(tactic| walk_at "rd") => `(tactic| repeat (walk_at "sy"))

section
variable {K : PySem.W.Frag} {H : Hp} {Q : VK}
theorem i_catA {a b : Addr} {xs ys : List V} (ha : H a = some (.tup xs)) (hb : H b = some (.tup ys)) (hz : xs.length + ys.length ≤ sizeLine) (q : ∀ r H', Same H H' → H' r = some (.tup (xs ++ ys)) → Q (.ref r) H') : rCatA K (.ref a) (.ref b) H Q :=
  ⟨a, b, xs, ys, rfl, rfl, SqT.tup ha, SqT.tup hb, hz, fun e => q b H (Same.refl _) (by rw [e]; exact hb), fun _ e => q a H (Same.refl _) (by rw [e, List.append_nil]; exact ha), fun _ _ p hp => q p _ (Same.new _ hp) upd_same⟩
theorem i_slA {a : Addr} {xs : List V} {lo hi : Option Int} (ha : H a = some (.tup xs)) (q : ∀ r H', Same H H' → H' r = some (.tup (cutV xs lo hi)) → Q (.ref r) H') : rSlA K (.ref a) lo hi H Q := by
  refine ⟨a, xs, rfl, SqT.tup ha, fun e => q a H (Same.refl _) ?_, fun _ p hp => q p _ (Same.new _ hp) upd_same⟩
  have : cutV xs lo hi = xs := by
    unfold cutV
    rw [e.1, e.2]
    simp
  rw [this]; exact ha
end
theorem cutV_to (xs : List V) {a : Nat} (h : a ≤ xs.length) : cutV xs none (some (a : Int)) = xs.take a := by
  unfold cutV
  rw [HT.sIx_none, HT.sIx_nat, Nat.min_eq_left h, List.drop_zero, Nat.sub_zero]
theorem cutV_from (xs : List V) {a : Nat} (h : a ≤ xs.length) : cutV xs (some (a : Int)) none = xs.drop a := by
  unfold cutV
  rw [HT.sIx_none, HT.sIx_nat, Nat.min_eq_left h, List.take_of_length_le (by rw [List.length_drop]; omega)]

section
variable {P : Program} {w : World} {K : PySem.W.Frag} {mg : Str → Option Value} {base : Heap}
theorem made_same {H H' : Hp} {x dx : Addr} {u v : HO} (hx : H x = none) (hd : H dx = none) (e : But x (upd (upd H dx u) x v) H') : Same H H' := fun a o h => e a o (ne_of_none h hx) (by rw [upd_ne (ne_of_none h hx), upd_ne (ne_of_none h hd)]; exact h)
end
end Ice

set_option Elab.async false
set_option linter.all false
set_option maxRecDepth 100000
set_option maxHeartbeats 4000000
set_option autoImplicit true
namespace Ice
open PySem PySem.Spec PyProof.Rows L2 TL
/-! side conditions, heaps, one step of a reading, and many -/
local macro_rules | `(tactic| walk_at "hp") => `(tactic| first | assumption | exact upd_same | exact New.at_ (by assumption) | (refine keepU ?_ (by assumption); walk_at "hp") | (refine New.app (by assumption) ?_; walk_at "hp") | (refine Same.app (by assumption) ?_; walk_at "hp") | (refine But.app (by assumption) (by assumption) ?_; walk_at "hp"))
local macro_rules | `(tactic| walk_at "sq") => `(tactic| first | assumption | exact SqL.lst (by walk_at "hp") | exact L2.Same.seq (New.same (by assumption)) (by assumption) | exact L2.Same.seq (by assumption) (by assumption))
local macro_rules | `(tactic| walk_at "len") => `(tactic| first | assumption | (simp only [List.length_cons, List.length_nil, List.length_append, List.length_map]; decide) | (refine Ice.sz_of ?_; simp only [List.length_cons, List.length_nil, List.length_append, List.length_map]; omega))
local macro_rules | `(tactic| walk_at "fresh") => `(tactic| (simp only [List.map_append, List.map_cons, List.map_nil, List.nil_append, List.cons_append]; decide +kernel))
local macro_rules | `(tactic| walk_at "sd") => `(tactic| first | assumption | (show _ ≠ _; omega) | exact Or.inl ⟨by omega, by omega⟩ | exact Or.inr ⟨by omega, by omega⟩ | exact ⟨by decide, by decide⟩ | exact ⟨by decide, by decide, by decide⟩ | exact ⟨by omega, by omega, by omega⟩)
/-! one step of a reading, and many -/
local macro_rules | `(tactic| walk_at "st") => `(tactic| first
  | with_reducible refine i_seq ?_
  | with_reducible refine i_if ?_
  | with_reducible refine i_next ?_
  | with_reducible refine i_ret ?_
  | with_reducible refine i_retN ?_
  | with_reducible refine i_drop ?_
  | with_reducible refine i_asg ?_
  | with_reducible refine i_gname ?_
  | with_reducible refine i_gsub ?_
  | ((with_reducible refine i_var (v := ?vv) ?hv ?_); (case hv => exact rfl))
  | with_reducible refine i_c ?_
  | with_reducible refine i_op ?_
  | with_reducible refine i_un ?_
  | with_reducible refine i_test ?_
  | with_reducible refine i_tB ?_
  | with_reducible refine i_and ?_
  | with_reducible refine i_or ?_
  | with_reducible refine i_not ?_
  | with_reducible refine i_andV ?_
  | with_reducible refine i_orV ?_
  | with_reducible refine i_notV ?_
  | with_reducible refine i_ifE ?_
  | with_reducible refine i_chain ?_
  | with_reducible refine i_bl ?_
  | with_reducible refine i_nil ?_
  | with_reducible refine i_cons ?_
  | with_reducible refine i_call ?_
  | with_reducible refine i_cb ?_
  | with_reducible refine i_rI0 ?_
  | with_reducible refine i_rU ?_
  | ((with_reducible refine i_rEq ?hs ?_); (case hs => exact rfl))
  | ((with_reducible refine i_rNe ?hs ?_); (case hs => exact rfl))
  | ((with_reducible refine i_rI ?hc ?_); (case hc => walk_at "sd"))
  | ((with_reducible refine i_ixL (xs := ?xs) (v := ?vv) ?hS ?he ?_); (case hS => walk_at "sq"); (case he => exact rfl))
  | ((with_reducible refine i_setL (xs := ?xs) (j := ?jj) ?hS ?he ?_); (case hS => walk_at "hp"); (case he => exact rfl))
  | with_reducible refine i_tup ?_
  | with_reducible refine i_lst ?_
  | with_reducible refine i_bm ?_
  | with_reducible refine i_bm0 ?_
  | with_reducible refine i_m1 ?_
  | with_reducible refine i_sl ?_
  | with_reducible refine i_nopart ?_
  | with_reducible refine i_part ?_
  | with_reducible refine i_int ?_
  | with_reducible refine i_str ?_
  | with_reducible refine i_for ?_
  | with_reducible refine i_yes ?_
  | ((with_reducible refine i_lenL (xs := ?xs) ?hS ?_); (case hS => walk_at "sq"))
  | ((with_reducible refine i_room ?hz ?_); (case hz => walk_at "len"))
  | with_reducible refine i_leT ?_
  | with_reducible refine i_notInS ?_
  | with_reducible refine i_inS ?_
  | with_reducible refine i_find ?_
  | with_reducible refine i_isB ?_
  | with_reducible refine i_max2 ?_
  | with_reducible refine i_min2 ?_
  | with_reducible exact trivial
  | with_reducible refine iteT ?_
  | with_reducible refine iteF ?_
  | with_reducible refine i_isstr ?_
  | with_reducible refine i_lc ?_
  | ((with_reducible refine i_cat (xs := ?xs) (zs := ?zs) ?ha ?hb ?hz ?_); (case ha => walk_at "hp"); (case hb => walk_at "hp"); (case hz => walk_at "len"))
  | ((with_reducible refine i_tyL (xs := ?xs) ?ha ?_); (case ha => walk_at "hp"))
  | with_reducible refine i_list ?_
  | with_reducible refine i_disp ?_
  | with_reducible refine i_pairs0 ?_
  | with_reducible refine i_pairs ?_
  | with_reducible refine i_newK ?_
  | with_reducible refine i_gcons ?_
  | with_reducible refine i_gnil ?_
  | with_reducible refine i_revL ?_
  | with_reducible refine i_rng1 ?_
  | ((with_reducible refine i_wipe ?hw ?_); (case hw => exact rfl))
  | with_reducible refine iteNT ?_
  | with_reducible refine iteNF ?_)
local macro_rules | `(tactic| walk_at "sx") => `(tactic| first
  | walk_at "st"
  | with_reducible refine i_kinit ?_
  | with_reducible refine i_ost ?_
  | with_reducible refine i_mkO ?_
  | with_reducible refine i_callE ?_
  | with_reducible refine i_makeE ?_
  | with_reducible refine i_xf ?_
  | with_reducible refine i_sfld ?_
  | with_reducible refine i_fld ?_
  | ((with_reducible refine i_ixT (xs := ?xs) (v := ?vv) ?hS ?he ?_); (case hS => exact SqT.tup (by walk_at "hp")); (case he => exact rfl))
  | with_reducible refine i_intB ?_
  | with_reducible refine i_runS ?_
  | with_reducible refine i_runN ?_
  | ((with_reducible refine i_xf1 (fs := ?ff) (v := ?vv) ?hx ?hl ?_); (case hx => walk_at "hp"); (case hl => exact rfl))
  | with_reducible refine i_methE ?_
  | with_reducible refine i_meth ?_
  | with_reducible refine i_make ?_
  | ((with_reducible refine i_obj (dx := ?dd) (fs := ?ff) ?hx ?hl ?_); (case hx => walk_at "hp"); (case hl => exact rfl))
  | ((with_reducible refine i_fld1 (C := ?CC) (dx := ?dd) (fs := ?ff) (v := ?vv) ?hx ?cl ?na ?hl ?_); (case hx => walk_at "hp"); (case cl => assumption); (case na => assumption); (case hl => exact rfl)))
local macro_rules | `(tactic| walk_at "sy") => `(tactic| first
  | walk_at "sx"
  | with_reducible refine i_dget ?_
  | with_reducible refine i_dget2 ?_
  | with_reducible refine i_dput ?_
  | with_reducible refine i_din ?_
  | ((with_reducible refine i_aug (x := ?vv) ?hx ?_); (case hx => exact rfl)))
local macro_rules | `(tactic| walk_at "rd") => `(tactic| repeat (walk_at "sy"))

/-- a vessel's data -/
structure Vd where
  k : Kd
  n : Str
  p : Str
  g : Str
  h : Int
  s : Int
  d : Int
  c : Int
structure Vd.ok (v : Vd) : Prop where
  five : Five v.n v.p v.h v.s v.d
  g : isN (.str v.g) = true
  c : 1 ≤ v.c ∧ v.c ≤ 1000000
def Vd.row (v : Vd) : List V := match v.k with
  | .v => [.str v.n, .str v.p, .int v.h, .int v.s, .int v.d]
  | .b => [.str v.n, .str v.p, .int v.h, .int v.s, .int v.d, .int v.c]
  | .s => [.str v.n, .str v.p, .str v.g, .int v.h, .int v.s, .int v.d]
def Vd.rowD (v : Vd) : List PyData := match v.k with
  | .v => [.str v.n, .str v.p, .int v.h, .int v.s, .int v.d]
  | .b => [.str v.n, .str v.p, .int v.h, .int v.s, .int v.d, .int v.c]
  | .s => [.str v.n, .str v.p, .str v.g, .int v.h, .int v.s, .int v.d]
def Vd.thin (v : Vd) : Int := match v.k with
  | .b => v.c
  | _ => 0
def Vd.flds (v : Vd) : List (Str × V) := fldK v.k v.row
theorem Vd.flds_eq (v : Vd) : ∃ r, v.flds = fldV (.str v.n) (.str v.p) (.int v.h) (.int v.s) (.int v.d) ++ r := by
  unfold Vd.flds Vd.row
  cases v.k with
  | v => exact ⟨[], rfl⟩
  | b => exact ⟨_, rfl⟩
  | s => exact ⟨_, rfl⟩
theorem Vd.l_name (v : Vd) : v.flds.lookup (Str.ofString "name") = some (.str v.n) := by obtain ⟨r, e⟩ := v.flds_eq; rw [e]; rfl
theorem Vd.l_port (v : Vd) : v.flds.lookup (Str.ofString "port") = some (.str v.p) := by obtain ⟨r, e⟩ := v.flds_eq; rw [e]; rfl
theorem Vd.l_hour (v : Vd) : v.flds.lookup (Str.ofString "hour") = some (.int v.h) := by obtain ⟨r, e⟩ := v.flds_eq; rw [e]; rfl
theorem Vd.l_strength (v : Vd) : v.flds.lookup (Str.ofString "strength") = some (.int v.s) := by obtain ⟨r, e⟩ := v.flds_eq; rw [e]; rfl
theorem Vd.l_draught (v : Vd) : v.flds.lookup (Str.ofString "draught") = some (.int v.d) := by obtain ⟨r, e⟩ := v.flds_eq; rw [e]; rfl
theorem Vd.l_none (v : Vd) : v.flds.lookup (Str.ofString "thins") = none ∧ v.flds.lookup (Str.ofString "row") = none := by
  unfold Vd.flds Vd.row
  cases v.k with
  | v => exact ⟨rfl, rfl⟩
  | b => exact ⟨rfl, rfl⟩
  | s => exact ⟨rfl, rfl⟩
theorem Vd.ps {v : Vd} (o : v.ok) : PsAll v.row v.rowD := by
  have f := o.five
  have := f.bh; have := f.bs; have := f.bd; have := o.c
  unfold Vd.row Vd.rowD
  cases v.k with
  | v => exact .cons (name_ps f.nn) (.cons (name_ps f.np) (.cons (.int (by omega)) (.cons (.int (by omega)) (.cons (.int (by omega)) .nil))))
  | b => exact .cons (name_ps f.nn) (.cons (name_ps f.np) (.cons (.int (by omega)) (.cons (.int (by omega)) (.cons (.int (by omega)) (.cons (.int (by omega)) .nil)))))
  | s => exact .cons (name_ps f.nn) (.cons (name_ps f.np) (.cons (name_ps o.g) (.cons (.int (by omega)) (.cons (.int (by omega)) (.cons (.int (by omega)) .nil)))))
theorem Vd.thin_le {v : Vd} (o : v.ok) : 0 ≤ v.thin ∧ v.thin ≤ 1000000 := by
  have := o.c
  unfold Vd.thin
  cases v.k with
  | v => exact ⟨Int.le_refl 0, by show (0 : Int) ≤ 1000000; decide⟩
  | s => exact ⟨Int.le_refl 0, by show (0 : Int) ≤ 1000000; decide⟩
  | b => exact ⟨by show 0 ≤ v.c; omega, by show v.c ≤ _; omega⟩
theorem Vd.of {k : Kd} {xs : List V} (r : RowK k xs) : ∃ v : Vd, v.ok ∧ v.k = k ∧ v.row = xs := by
  cases k with
  | v =>
    obtain ⟨n, p, h, s, d, f, rfl⟩ := r
    exact ⟨⟨.v, n, p, n, h, s, d, 1⟩, ⟨f, f.nn, (by decide : (1 : Int) ≤ 1 ∧ (1 : Int) ≤ 1000000)⟩, rfl, rfl⟩
  | b =>
    obtain ⟨n, p, h, s, d, c, f, hc, rfl⟩ := r
    exact ⟨⟨.b, n, p, n, h, s, d, c⟩, ⟨f, f.nn, hc⟩, rfl, rfl⟩
  | s =>
    obtain ⟨n, p, h, s, d, g, f, hg, rfl⟩ := r
    exact ⟨⟨.s, n, p, g, h, s, d, 1⟩, ⟨f, hg, (by decide : (1 : Int) ≤ 1 ∧ (1 : Int) ≤ 1000000)⟩, rfl, rfl⟩
abbrev VL := List (Addr × Vd)
def refs (L : VL) : List V := L.map fun z => .ref z.1
def IsMax (m : Int) (l : List Int) : Prop := m ∈ l ∧ ∀ y ∈ l, y ≤ m
def IsMin (m : Int) (l : List Int) : Prop := m ∈ l ∧ ∀ y ∈ l, m ≤ y
theorem IsMax.uniq {a b : Int} {l : List Int} (h : IsMax a l) (h' : IsMax b l) : a = b := by have := h.2 b h'.1; have := h'.2 a h.1; omega
def thins (L : VL) : Int := (L.map fun z => z.2.thin).sum
def hoursL (L : VL) : List Int := L.map fun z => z.2.h
def drL (L : VL) : List Int := L.map fun z => z.2.d
def strL : Int → VL → List Int
  | _, [] => []
  | t, z :: r => (z.2.s + t) :: strL (t + z.2.thin) r
def letsAll : VL → Int → Bool
  | [], _ => true
  | z :: r, t => decide (t ≤ z.2.s) && letsAll r (max 0 (t - z.2.thin))
theorem strL_app : ∀ (L M : VL) (t : Int), strL t (L ++ M) = strL t L ++ strL (t + thins L) M
  | [], M, t => by simp [strL, thins]
  | z :: r, M, t => by
    show (z.2.s + t) :: strL (t + z.2.thin) (r ++ M) = _
    rw [strL_app r M]
    have e : t + z.2.thin + thins r = t + thins (z :: r) := by unfold thins; simp; omega
    rw [e]; rfl
theorem thins_app (L M : VL) : thins (L ++ M) = thins L + thins M := by unfold thins; simp
theorem strL_len : ∀ (L : VL) (t : Int), (strL t L).length = L.length
  | [], _ => rfl
  | _ :: r, _ => by show (strL _ r).length + 1 = _; rw [strL_len r]; rfl
theorem thins_nonneg : ∀ {L : VL}, (∀ z ∈ L, z.2.ok) → 0 ≤ thins L ∧ thins L ≤ 1000000 * L.length
  | [], _ => ⟨by decide, by decide⟩
  | z :: r, h => by
    have := (h z (by simp)).c
    have t := Vd.thin_le (h z (by simp))
    have ih := thins_nonneg (L := r) fun y hy => h y (by simp [hy])
    have e : thins (z :: r) = z.2.thin + thins r := by unfold thins; simp
    have e2 : ((z :: r).length : Int) = r.length + 1 := by simp
    rw [e, e2]
    omega
theorem letsAll_iff : ∀ {L : VL} (T t : Int), (∀ z ∈ L, z.2.ok) → 0 ≤ T → letsAll L (max 0 (t - T)) = decide (∀ y ∈ strL T L, t ≤ y)
  | [], T, t, _, _ => by simp [letsAll, strL]
  | z :: r, T, t, h, hT => by
    have o := h z (by simp)
    have t1 := Vd.thin_le o
    have s0 := o.five.bs.1
    have ih := letsAll_iff (L := r) (T + z.2.thin) t (fun y hy => h y (by simp [hy])) (by omega)
    have e : max 0 (max 0 (t - T) - z.2.thin) = max 0 (t - (T + z.2.thin)) := by omega
    show (decide (max 0 (t - T) ≤ z.2.s) && letsAll r (max 0 (max 0 (t - T) - z.2.thin))) = decide (∀ y ∈ (z.2.s + T) :: strL (T + z.2.thin) r, t ≤ y)
    rw [e, ih, ← Bool.decide_and, decide_eq_decide, List.forall_mem_cons]
    constructor
    · rintro ⟨a, b⟩; exact ⟨by omega, b⟩
    · rintro ⟨a, b⟩; exact ⟨by omega, b⟩
theorem lets_min {L : VL} {m : Int} (h : ∀ z ∈ L, z.2.ok) (hm : IsMin m (strL 0 L)) (m0 : 0 ≤ m) : letsAll L m = true ∧ letsAll L (m + 1) = false := by
  have a := letsAll_iff (L := L) 0 m h (by decide)
  have b := letsAll_iff (L := L) 0 (m + 1) h (by decide)
  rw [show max 0 (m - 0) = m by omega] at a
  rw [show max 0 (m + 1 - 0) = m + 1 by omega] at b
  refine ⟨a.trans (decide_eq_true hm.2), b.trans (decide_eq_false fun z => ?_)⟩
  have := z m hm.1
  omega
section
variable {K : PySem.W.Frag}
/-- the vessel at x -/
def VesA (aV aB aS : Addr) (H : Hp) (x : Addr) (v : Vd) : Prop := v.ok ∧ ∃ dx, H x = some (.ins (clsK aV aB aS v.k) dx v.flds)
def VesL (aV aB aS : Addr) (H : Hp) (L : VL) : Prop := ∀ z ∈ L, VesA aV aB aS H z.1 z.2
variable {aV aB aS : Addr}
theorem VesA.same {H H' : Hp} {x : Addr} {v : Vd} (a : VesA aV aB aS H x v) (e : Same H H') : VesA aV aB aS H' x v := by obtain ⟨o, dx, h⟩ := a; exact ⟨o, dx, e _ _ h⟩
theorem VesL.same {H H' : Hp} {L : VL} (a : VesL aV aB aS H L) (e : Same H H') : VesL aV aB aS H' L := fun z hz => (a z hz).same e
theorem VesL.updL {H : Hp} {L : VL} {D : Addr} {xs ys : List V} (a : VesL aV aB aS H L) (hD : H D = some (.lst xs)) : VesL aV aB aS (upd H D (.lst ys)) L := fun z hz => by
  obtain ⟨o, dx, h⟩ := a z hz
  exact ⟨o, dx, by rw [upd_ne (ne_of h hD (by intro q; cases q))]; exact h⟩
theorem VesL.updN {H : Hp} {L : VL} {D : Addr} {o : HO} (a : VesL aV aB aS H L) (hD : H D = none) : VesL aV aB aS (upd H D o) L := a.same (Same.new _ hD)
theorem VesL.ok {H : Hp} {L : VL} (a : VesL aV aB aS H L) : ∀ z ∈ L, z.2.ok := fun z hz => (a z hz).1
theorem VesL.but {H H' : Hp} {L : VL} {b : Addr} {xs : List V} (a : VesL aV aB aS H L) (hb : H b = some (.lst xs)) (e : But b H H') : VesL aV aB aS H' L := fun z hz => by
  obtain ⟨o, dx, h⟩ := a z hz
  exact ⟨o, dx, e _ _ (ne_of h hb (by intro q; cases q)) h⟩
theorem refs_get {L : VL} {i : Nat} {v : V} (h : (refs L)[i]? = some v) : ∃ z, L[i]? = some z ∧ v = .ref z.1 := by
  unfold refs at h
  rw [List.getElem?_map] at h
  cases hz : L[i]? with
  | none => rw [hz] at h; cases h
  | some z => rw [hz] at h; exact ⟨z, rfl, (Option.some.inj h).symm⟩
theorem take_succ_of {α : Type} {L : List α} {i : Nat} {z : α} (h : L[i]? = some z) : L.take (i + 1) = L.take i ++ [z] := by rw [List.take_add_one, h]; rfl
end
/-- facts of the classes -/
theorem clsK_ok {K : PySem.W.Frag} {mg : Str → Option Value} (T : Top K mg) (k : Kd) : Cls K (clsK T.a_Vessel T.a_Breaker T.a_Ship k) ∧ NoAttr K (clsK T.a_Vessel T.a_Breaker T.a_Ship k) "name" ∧ NoAttr K (clsK T.a_Vessel T.a_Breaker T.a_Ship k) "port" ∧ NoAttr K (clsK T.a_Vessel T.a_Breaker T.a_Ship k) "hour" ∧
    NoAttr K (clsK T.a_Vessel T.a_Breaker T.a_Ship k) "strength" ∧ NoAttr K (clsK T.a_Vessel T.a_Breaker T.a_Ship k) "draught" := by
  cases k with
  | v => exact ⟨T.cl_Vessel, T.na_Vessel_name, T.na_Vessel_port, T.na_Vessel_hour, T.na_Vessel_strength, T.na_Vessel_draught⟩
  | b => exact ⟨T.cl_Breaker, T.na_Breaker_name, T.na_Breaker_port, T.na_Breaker_hour, T.na_Breaker_strength, T.na_Breaker_draught⟩
  | s => exact ⟨T.cl_Ship, T.na_Ship_name, T.na_Ship_port, T.na_Ship_hour, T.na_Ship_strength, T.na_Ship_draught⟩
section
variable {K : PySem.W.Frag} {mg : Str → Option Value} {H : Hp} {B : V → Prop}
abbrev VesT (T : Top K mg) (H : Hp) (x : Addr) (v : Vd) : Prop := VesA T.a_Vessel T.a_Breaker T.a_Ship H x v
theorem f_name (T : Top K mg) {x : Addr} {v : Vd} (h : VesT T H x v) (q : B (.str v.n)) : ∃ a C dx fs u, V.ref x = .ref a ∧ H a = some (.ins C dx fs) ∧ Cls K C ∧ NoAttr K C "name" ∧ fs.lookup (Str.ofString "name") = some u ∧ B u := by
  obtain ⟨_, dx, hx⟩ := h
  exact ⟨x, _, dx, _, _, rfl, hx, (clsK_ok T v.k).1, (clsK_ok T v.k).2.1, v.l_name, q⟩
theorem f_port (T : Top K mg) {x : Addr} {v : Vd} (h : VesT T H x v) (q : B (.str v.p)) : ∃ a C dx fs u, V.ref x = .ref a ∧ H a = some (.ins C dx fs) ∧ Cls K C ∧ NoAttr K C "port" ∧ fs.lookup (Str.ofString "port") = some u ∧ B u := by
  obtain ⟨_, dx, hx⟩ := h
  exact ⟨x, _, dx, _, _, rfl, hx, (clsK_ok T v.k).1, (clsK_ok T v.k).2.2.1, v.l_port, q⟩
theorem f_hour (T : Top K mg) {x : Addr} {v : Vd} (h : VesT T H x v) (q : B (.int v.h)) : ∃ a C dx fs u, V.ref x = .ref a ∧ H a = some (.ins C dx fs) ∧ Cls K C ∧ NoAttr K C "hour" ∧ fs.lookup (Str.ofString "hour") = some u ∧ B u := by
  obtain ⟨_, dx, hx⟩ := h
  exact ⟨x, _, dx, _, _, rfl, hx, (clsK_ok T v.k).1, (clsK_ok T v.k).2.2.2.1, v.l_hour, q⟩
theorem f_strength (T : Top K mg) {x : Addr} {v : Vd} (h : VesT T H x v) (q : B (.int v.s)) : ∃ a C dx fs u, V.ref x = .ref a ∧ H a = some (.ins C dx fs) ∧ Cls K C ∧ NoAttr K C "strength" ∧ fs.lookup (Str.ofString "strength") = some u ∧ B u := by
  obtain ⟨_, dx, hx⟩ := h
  exact ⟨x, _, dx, _, _, rfl, hx, (clsK_ok T v.k).1, (clsK_ok T v.k).2.2.2.2.1, v.l_strength, q⟩
theorem f_draught (T : Top K mg) {x : Addr} {v : Vd} (h : VesT T H x v) (q : B (.int v.d)) : ∃ a C dx fs u, V.ref x = .ref a ∧ H a = some (.ins C dx fs) ∧ Cls K C ∧ NoAttr K C "draught" ∧ fs.lookup (Str.ofString "draught") = some u ∧ B u := by
  obtain ⟨_, dx, hx⟩ := h
  exact ⟨x, _, dx, _, _, rfl, hx, (clsK_ok T v.k).1, (clsK_ok T v.k).2.2.2.2.2, v.l_draught, q⟩
end
section
variable {K : PySem.W.Frag} {H1 : Hp} {a D : Addr} {xs ys : List V} {g : TG} {tt : TT} {te : TE} {vs : List Nat} {σ : L2.St} {Qd : Hp → Prop}
theorem seqT {K : PySem.W.Frag} {H H' : Hp} {a : Addr} {xs : List V} (e : Same H H') (h : SqT K H a xs) : SqT K H' a xs := by
  rcases h with (h | ⟨o, h⟩) | h
  · exact .inl (.inl (e _ _ h))
  · exact .inl (.inr ⟨o, e _ _ h⟩)
  · exact .inr h
/-- a comprehension over a list or a tuple whose element changes nothing -/
theorem lc_pureL (hl : ys.length = xs.length) (hz : xs.length ≤ 1000) (hS : SqL K H1 a xs) (hD : H1 D = none)
    (hs : ∀ (i : Nat) (x y : V) (H : Hp) (N : V → Hp → Prop) (M : Hp → Prop), xs[i]? = some x → ys[i]? = some y → Same H1 H → N y H → g x (wipe σ vs) H fun σ2 H2 => wipe σ2 vs = wipe σ vs ∧ tt σ2 H2 fun b H3 => if b = true then te σ2 H3 N else M H3)
    (hd : Qd (upd H1 D (.lst ys))) :
    ∃ W : Nat → Nat → Hp → Prop, (∃ m, W 0 m (upd H1 D (.lst []))) ∧ ∀ i m H, W i m H →
      ((Itl K a).stop i H ∧ Qd H) ∨ ((Itl K a).go i H ∧ ∃ Nx : Hp → Prop, (∀ H', Nx H' → ∃ m', m' < m ∧ W (i + 1) m' H') ∧ ∀ x H', (Itl K a).yld i H x H' → g x (wipe σ vs) H' fun σ2 H2 => wipe σ2 vs = wipe σ vs ∧ tt σ2 H2 fun b H3 =>
        if b = true then te σ2 H3 fun y H4 => ∃ acc, H4 D = some (.lst acc) ∧ acc.length < sizeLine ∧ Nx (upd H4 D (.lst (acc ++ [y]))) else Nx H3) := by
  refine lc_list (fun i H' => H' = upd H1 D (.lst (ys.take i))) rfl (fun i H' _ e => by rw [e]; exact L2.Same.seq (Same.new _ hD) hS) ?_ ?_
  · rintro i x H' hx rfl
    have lt : i < ys.length := by rw [hl]; exact (List.getElem?_eq_some_iff.mp hx).1
    have hy : ys[i]? = some ys[i] := List.getElem?_eq_getElem lt
    refine hs i x _ _ _ _ hx hy (Same.new _ hD) ⟨_, upd_same, small1000 (by rw [List.length_take]; omega), ?_⟩
    rw [upd_upd, take_succ_of hy]
  · rintro H' rfl
    rw [← hl, List.take_length]; exact hd
theorem lc_pureT (hl : ys.length = xs.length) (hz : xs.length ≤ 1000) (hS : SqT K H1 a xs) (hD : H1 D = none)
    (hs : ∀ (i : Nat) (x y : V) (H : Hp) (N : V → Hp → Prop) (M : Hp → Prop), xs[i]? = some x → ys[i]? = some y → Same H1 H → N y H → g x (wipe σ vs) H fun σ2 H2 => wipe σ2 vs = wipe σ vs ∧ tt σ2 H2 fun b H3 => if b = true then te σ2 H3 N else M H3)
    (hd : Qd (upd H1 D (.lst ys))) :
    ∃ W : Nat → Nat → Hp → Prop, (∃ m, W 0 m (upd H1 D (.lst []))) ∧ ∀ i m H, W i m H →
      ((Itt K a).stop i H ∧ Qd H) ∨ ((Itt K a).go i H ∧ ∃ Nx : Hp → Prop, (∀ H', Nx H' → ∃ m', m' < m ∧ W (i + 1) m' H') ∧ ∀ x H', (Itt K a).yld i H x H' → g x (wipe σ vs) H' fun σ2 H2 => wipe σ2 vs = wipe σ vs ∧ tt σ2 H2 fun b H3 =>
        if b = true then te σ2 H3 fun y H4 => ∃ acc, H4 D = some (.lst acc) ∧ acc.length < sizeLine ∧ Nx (upd H4 D (.lst (acc ++ [y]))) else Nx H3) := by
  refine lc_tup (fun i H' => H' = upd H1 D (.lst (ys.take i))) rfl (fun i H' _ e => by
    rw [e]
    exact seqT (Same.new _ hD) hS) ?_ ?_
  · rintro i x H' hx rfl
    have lt : i < ys.length := by rw [hl]; exact (List.getElem?_eq_some_iff.mp hx).1
    have hy : ys[i]? = some ys[i] := List.getElem?_eq_getElem lt
    refine hs i x _ _ _ _ hx hy (Same.new _ hD) ⟨_, upd_same, small1000 (by rw [List.length_take]; omega), ?_⟩
    rw [upd_upd, take_succ_of hy]
  · rintro H' rfl
    rw [← hl, List.take_length]; exact hd
end
end Ice


set_option Elab.async false
set_option linter.all false
set_option maxRecDepth 100000
set_option maxHeartbeats 4000000
set_option autoImplicit true
namespace Ice
open PySem PySem.Spec PyProof.Rows L2 TL
/-! side conditions, heaps, one step of a reading, and many -/
local macro_rules | `(tactic| walk_at "hp") => `(tactic| first | assumption | exact upd_same | exact New.at_ (by assumption) | (refine keepU ?_ (by assumption); walk_at "hp") | (refine New.app (by assumption) ?_; walk_at "hp") | (refine Same.app (by assumption) ?_; walk_at "hp") | (refine But.app (by assumption) (by assumption) ?_; walk_at "hp"))
local macro_rules | `(tactic| walk_at "sq") => `(tactic| first | assumption | exact SqL.lst (by walk_at "hp") | exact L2.Same.seq (New.same (by assumption)) (by assumption) | exact L2.Same.seq (by assumption) (by assumption))
local macro_rules | `(tactic| walk_at "len") => `(tactic| first | assumption | (simp only [List.length_cons, List.length_nil, List.length_append, List.length_map]; decide) | (refine Ice.sz_of ?_; simp only [List.length_cons, List.length_nil, List.length_append, List.length_map]; omega))
local macro_rules | `(tactic| walk_at "fresh") => `(tactic| (simp only [List.map_append, List.map_cons, List.map_nil, List.nil_append, List.cons_append]; decide +kernel))
local macro_rules | `(tactic| walk_at "sd") => `(tactic| first | assumption | (show _ ≠ _; omega) | exact Or.inl ⟨by omega, by omega⟩ | exact Or.inr ⟨by omega, by omega⟩ | exact ⟨by decide, by decide⟩ | exact ⟨by decide, by decide, by decide⟩ | exact ⟨by omega, by omega, by omega⟩)
/-! one step of a reading, and many -/
local macro_rules | `(tactic| walk_at "st") => `(tactic| first
  | with_reducible refine i_seq ?_
  | with_reducible refine i_if ?_
  | with_reducible refine i_next ?_
  | with_reducible refine i_ret ?_
  | with_reducible refine i_retN ?_
  | with_reducible refine i_drop ?_
  | with_reducible refine i_asg ?_
  | with_reducible refine i_gname ?_
  | with_reducible refine i_gsub ?_
  | ((with_reducible refine i_var (v := ?vv) ?hv ?_); (case hv => exact rfl))
  | with_reducible refine i_c ?_
  | with_reducible refine i_op ?_
  | with_reducible refine i_un ?_
  | with_reducible refine i_test ?_
  | with_reducible refine i_tB ?_
  | with_reducible refine i_and ?_
  | with_reducible refine i_or ?_
  | with_reducible refine i_not ?_
  | with_reducible refine i_andV ?_
  | with_reducible refine i_orV ?_
  | with_reducible refine i_notV ?_
  | with_reducible refine i_ifE ?_
  | with_reducible refine i_chain ?_
  | with_reducible refine i_bl ?_
  | with_reducible refine i_nil ?_
  | with_reducible refine i_cons ?_
  | with_reducible refine i_call ?_
  | with_reducible refine i_cb ?_
  | with_reducible refine i_rI0 ?_
  | with_reducible refine i_rU ?_
  | ((with_reducible refine i_rEq ?hs ?_); (case hs => exact rfl))
  | ((with_reducible refine i_rNe ?hs ?_); (case hs => exact rfl))
  | ((with_reducible refine i_rI ?hc ?_); (case hc => walk_at "sd"))
  | ((with_reducible refine i_ixL (xs := ?xs) (v := ?vv) ?hS ?he ?_); (case hS => walk_at "sq"); (case he => exact rfl))
  | ((with_reducible refine i_setL (xs := ?xs) (j := ?jj) ?hS ?he ?_); (case hS => walk_at "hp"); (case he => exact rfl))
  | with_reducible refine i_tup ?_
  | with_reducible refine i_lst ?_
  | with_reducible refine i_bm ?_
  | with_reducible refine i_bm0 ?_
  | with_reducible refine i_m1 ?_
  | with_reducible refine i_sl ?_
  | with_reducible refine i_nopart ?_
  | with_reducible refine i_part ?_
  | with_reducible refine i_int ?_
  | with_reducible refine i_str ?_
  | with_reducible refine i_for ?_
  | with_reducible refine i_yes ?_
  | ((with_reducible refine i_lenL (xs := ?xs) ?hS ?_); (case hS => walk_at "sq"))
  | ((with_reducible refine i_room ?hz ?_); (case hz => walk_at "len"))
  | with_reducible refine i_leT ?_
  | with_reducible refine i_notInS ?_
  | with_reducible refine i_inS ?_
  | with_reducible refine i_find ?_
  | with_reducible refine i_isB ?_
  | with_reducible refine i_max2 ?_
  | with_reducible refine i_min2 ?_
  | with_reducible exact trivial
  | with_reducible refine iteT ?_
  | with_reducible refine iteF ?_
  | with_reducible refine i_isstr ?_
  | with_reducible refine i_lc ?_
  | ((with_reducible refine i_cat (xs := ?xs) (zs := ?zs) ?ha ?hb ?hz ?_); (case ha => walk_at "hp"); (case hb => walk_at "hp"); (case hz => walk_at "len"))
  | ((with_reducible refine i_tyL (xs := ?xs) ?ha ?_); (case ha => walk_at "hp"))
  | with_reducible refine i_list ?_
  | with_reducible refine i_disp ?_
  | with_reducible refine i_pairs0 ?_
  | with_reducible refine i_pairs ?_
  | with_reducible refine i_newK ?_
  | with_reducible refine i_gcons ?_
  | with_reducible refine i_gnil ?_
  | with_reducible refine i_revL ?_
  | with_reducible refine i_rng1 ?_
  | ((with_reducible refine i_wipe ?hw ?_); (case hw => exact rfl))
  | with_reducible refine iteNT ?_
  | with_reducible refine iteNF ?_)
local macro_rules | `(tactic| walk_at "sx") => `(tactic| first
  | walk_at "st"
  | with_reducible refine i_kinit ?_
  | with_reducible refine i_ost ?_
  | with_reducible refine i_mkO ?_
  | with_reducible refine i_callE ?_
  | with_reducible refine i_makeE ?_
  | with_reducible refine i_xf ?_
  | with_reducible refine i_sfld ?_
  | with_reducible refine i_fld ?_
  | ((with_reducible refine i_ixT (xs := ?xs) (v := ?vv) ?hS ?he ?_); (case hS => exact SqT.tup (by walk_at "hp")); (case he => exact rfl))
  | with_reducible refine i_intB ?_
  | with_reducible refine i_runS ?_
  | with_reducible refine i_runN ?_
  | ((with_reducible refine i_xf1 (fs := ?ff) (v := ?vv) ?hx ?hl ?_); (case hx => walk_at "hp"); (case hl => exact rfl))
  | with_reducible refine i_methE ?_
  | with_reducible refine i_meth ?_
  | with_reducible refine i_make ?_
  | ((with_reducible refine i_obj (dx := ?dd) (fs := ?ff) ?hx ?hl ?_); (case hx => walk_at "hp"); (case hl => exact rfl))
  | ((with_reducible refine i_fld1 (C := ?CC) (dx := ?dd) (fs := ?ff) (v := ?vv) ?hx ?cl ?na ?hl ?_); (case hx => walk_at "hp"); (case cl => assumption); (case na => assumption); (case hl => exact rfl)))
local macro_rules | `(tactic| walk_at "sy") => `(tactic| first
  | walk_at "sx"
  | with_reducible refine i_dget ?_
  | with_reducible refine i_dget2 ?_
  | with_reducible refine i_dput ?_
  | with_reducible refine i_din ?_
  | ((with_reducible refine i_aug (x := ?vv) ?hx ?_); (case hx => exact rfl)))
local macro_rules | `(tactic| walk_at "rd") => `(tactic| repeat (walk_at "sy"))

section
variable {P : Program} {w : World} {K : PySem.W.Frag} {mg : Str → Option Value} {base : Heap}
theorem i_tupI {σ : L2.St} {H : Hp} {te : TE} {R : It → Hp → Prop} (h : te σ H fun x H1 => ∃ a, x = .ref a ∧ (∃ xs, SqT K H1 a xs) ∧ R (Itt K a) H1) : iTup K te σ H R := h
theorem tyI {C a dx : Addr} {fs : List (Str × V)} {H : Hp} (e : H a = some (.ins C dx fs)) (cl : Cls K C) (ca : PySem.W.findIn K (.ref C) "__class__" = some (some (.builtin "object.__class__"))) (mo : PySem.W.mroIn K C (.type "object") = some true) (T : Top K mg) :
    TyX K H (.ref a) (.ref C) := .base (.ins e cl ca T.sgc T.tkc mo)
theorem i_isiV {H : Hp} {Q : VK} {v : V} {D : Addr} {t : Value} {b : Bool} (h : TyX K H v t) (e : PySem.W.kitOne K t (.ref D) = some b) (q : Q (.bl b) H) : rIsi K [v, .ref D] H Q := ⟨v, .ref D, t, .ref D, b, rfl, .own D, h, e, q⟩
theorem tyx_same {H H' : Hp} {v : V} {t : Value} (h : TyX K H v t) (e : Same H H') : TyX K H' v t := by
  cases h with
  | base h =>
    refine .base ?_
    cases h with
    | non => exact .non
    | bl x => exact .bl x
    | int i => exact .int i
    | str x => exact .str x
    | flt x => exact .flt x
    | lst h => exact .lst (e _ _ h)
    | frz h => exact .frz (e _ _ h)
    | tup h => exact .tup (e _ _ h)
    | dK h => exact .dK (e _ _ h)
    | dT h => exact .dT (e _ _ h)
    | ins h cl a b c d => exact .ins (e _ _ h) cl a b c d
  | byt b => exact .byt b
  | set h => exact .set (e _ _ h)
  | kList h c => exact .kList h c
  | kTuple h c => exact .kTuple h c
  | kDict h c => exact .kDict h c
  | fTuple h => exact .fTuple (e _ _ h)
  | fDict h => exact .fDict (e _ _ h)
theorem i_isiTT {H : Hp} {Q : VK} {v : V} {tp : Addr} {t : Value} {b : Bool} (hT : H tp = some (.tup [.ty "list", .ty "tuple"])) (h : TyX K H v t) (e : PySem.W.kitAny K t [.type "list", .type "tuple"] = some b) (q : Q (.bl b) H) : rIsiT K [v, .ref tp] H Q :=
  ⟨v, tp, _, t, _, b, rfl, hT, .cons (.ty _) (.cons (.ty _) .nil), h, e, q⟩
theorem kitL : PySem.W.kitAny K (.type "list") [.type "list", .type "tuple"] = some true := rfl
theorem kitT : PySem.W.kitAny K (.type "tuple") [.type "list", .type "tuple"] = some true := by
  show (match PySem.W.kitOne K (.type "tuple") (.type "list") with | some true => some true | some false => PySem.W.kitAny K (.type "tuple") [.type "tuple"] | none => none) = some true
  rw [show PySem.W.kitOne K (.type "tuple") (.type "list") = some false from kit_ty (by decide +kernel)]
  rfl
end

/-- a channel's data -/
structure Cd where
  n : Str
  o : Str
  t : Str
  h : Int
  d : Int
  f : Int
  g : Int
  m : Int
structure Cd.ok (c : Cd) : Prop where
  nn : isN (.str c.n) = true
  no : isN (.str c.o) = true
  nt : isN (.str c.t) = true
  ne : c.o ≠ c.t
  bh : 1 ≤ c.h ∧ c.h ≤ 1000
  bd : 0 ≤ c.d ∧ c.d ≤ 1000
  bf : 0 ≤ c.f ∧ c.f ≤ 1000000
  bg : 0 ≤ c.g ∧ c.g ≤ 1000
  bm : c.f ≤ c.m ∧ c.m ≤ 1000000
def Cd.flds (c : Cd) : List (Str × V) := fldC (.str c.n) (.str c.o) (.str c.t) (.int c.h) (.int c.d) (.int c.f) (.int c.g) (.int c.m)
theorem Cd.made {c : Cd} (k : c.ok) : resC (.str c.n) (.str c.o) (.str c.t) (.int c.h) (.int c.d) (.int c.f) (.int c.g) (.int c.m) = .made := by
  have nb : [V.str c.n, V.str c.o, V.str c.t].find? bad = none := by simp [bad, k.nn, k.no, k.nt]
  have e : ¬ V.str c.o = V.str c.t := fun z => k.ne (by injection z)
  unfold resC
  rw [nb]
  show (if V.str c.o = V.str c.t then Res.doubled _ else _) = _
  rw [if_neg e, if_neg (by rw [inB_of k.bh.1 k.bh.2]; decide), if_neg (by rw [inB_of k.bd.1 k.bd.2]; decide), if_neg (by rw [inB_of k.bf.1 k.bf.2]; decide), if_neg (by rw [inB_of k.bg.1 k.bg.2]; decide),
    if_neg (by show ¬ inB c.f 1000000 (.int c.m) = false; rw [inB_of k.bm.1 k.bm.2]; decide)]
/-- a thing that stands in a list -/
inductive Mk where
  | data (v : V)
  | ch (x : Addr) (c : Cd)
  | ves (x : Addr) (d : Vd)
  | trn (x : Addr)
def Mk.v : Mk → V
  | .data v => v
  | .ch x _ => .ref x
  | .ves x _ => .ref x
  | .trn x => .ref x
def Mk.isN : Mk → Bool
  | .data v => Ice.isN v
  | _ => false
def Mk.isC : Mk → Bool
  | .ch _ _ => true
  | _ => false
def Mk.isB : Mk → Bool
  | .ves _ d => match d.k with
    | .b => true
    | _ => false
  | _ => false
def Mk.isS : Mk → Bool
  | .ves _ d => match d.k with
    | .s => true
    | _ => false
  | _ => false
/-- a thing's name, the ports that it wants -/
def Mk.nm : Mk → Str
  | .data (.str s) => s
  | .ch _ c => c.n
  | .ves _ d => d.n
  | _ => Str.ofString ""
def Mk.ends : Mk → List Str
  | .ch _ c => [c.o, c.t]
  | _ => []
def Mk.prt : Mk → List Str
  | .ves _ d => [d.p]
  | _ => []
def Mk.both : Mk → List Str
  | .ves _ d => [d.p, d.g]
  | _ => []
/-- the first name that stands ahead, of the first k -/
def dblAt (ns : List Str) : Nat → Option Str
  | 0 => none
  | k + 1 => match dblAt ns k with
    | some n => some n
    | none => match ns[k]? with
      | some n => if n ∈ ns.take k then some n else none
      | none => none
def firstDbl (ns : List Str) : Option Str := dblAt ns ns.length
theorem dblAt_some {ns : List Str} {n : Str} {k : Nat} (h : dblAt ns k = some n) : ∀ j, dblAt ns (k + j) = some n
  | 0 => h
  | j + 1 => by
    show (match dblAt ns (k + j) with
      | some n => some n
      | none => _) = _
    rw [dblAt_some h j]
theorem dbl_hit {ns : List Str} {n : Str} {k : Nat} (h : dblAt ns k = none) (hk : ns[k]? = some n) (hn : n ∈ ns.take k) : firstDbl ns = some n := by
  have lt := (List.getElem?_eq_some_iff.mp hk).1
  have e : dblAt ns (k + 1) = some n := by
    show (match dblAt ns k with
      | some n => some n
      | none => _) = _
    rw [h]
    show (match ns[k]? with
      | some n => if n ∈ ns.take k then some n else none
      | none => none) = _
    rw [hk]
    exact if_pos hn
  have := dblAt_some e (ns.length - (k + 1))
  rwa [show k + 1 + (ns.length - (k + 1)) = ns.length by omega] at this
theorem dbl_miss {ns : List Str} {n : Str} {k : Nat} (h : dblAt ns k = none) (hk : ns[k]? = some n) (hn : n ∉ ns.take k) : dblAt ns (k + 1) = none := by
  show (match dblAt ns k with
      | some n => some n
      | none => _) = _
  rw [h]
  show (match ns[k]? with
      | some n => if n ∈ ns.take k then some n else none
      | none => none) = _
  rw [hk]
  exact if_neg hn
theorem dbl_nodup {ns : List Str} (h : firstDbl ns = none) : ns.Nodup := by
  have key : ∀ k, k ≤ ns.length → dblAt ns k = none → (ns.take k).Nodup := by
    intro k
    induction k with
    | zero => intro _ _; simp
    | succ k ih =>
      intro hk e
      have lt : k < ns.length := hk
      have hg : ns[k]? = some ns[k] := List.getElem?_eq_getElem lt
      have e0 : dblAt ns k = none := by
        cases z : dblAt ns k with
        | none => rfl
        | some n => have := dblAt_some z 1; rw [e] at this; cases this
      have nm : ns[k] ∉ ns.take k := fun z => by
        have q : dblAt ns (k + 1) = some ns[k] := by
          show (match dblAt ns k with
            | some n => some n
            | none => _) = _
          rw [e0]
          show (match ns[k]? with
            | some n => if n ∈ ns.take k then some n else none
            | none => none) = _
          rw [hg]
          exact if_pos z
        rw [q] at e; cases e
      rw [List.take_add_one, hg]
      show (ns.take k ++ [ns[k]]).Nodup
      rw [List.nodup_append]
      refine ⟨ih (by omega) e0, by simp, ?_⟩
      intro a ha b hb
      have : b = ns[k] := by simpa using hb
      subst this
      exact fun z => nm (z ▸ ha)
  have := key ns.length (Nat.le_refl _) h
  rwa [List.take_length] at this
theorem nodup_dbl {ns : List Str} (h : ns.Nodup) : firstDbl ns = none := by
  have key : ∀ k, k ≤ ns.length → dblAt ns k = none := by
    intro k
    induction k with
    | zero => intro _; rfl
    | succ k ih =>
      intro hk
      have lt : k < ns.length := hk
      have hg : ns[k]? = some ns[k] := List.getElem?_eq_getElem lt
      refine dbl_miss (ih (by omega)) hg ?_
      intro z
      obtain ⟨j, hj⟩ := List.mem_iff_getElem?.mp z
      have lj := (List.getElem?_eq_some_iff.mp hj).1
      rw [List.length_take] at lj
      rw [List.getElem?_take_of_lt (by omega)] at hj
      have := (List.pairwise_iff_getElem.mp h) j k (by omega) lt (by omega)
      rw [List.getElem?_eq_getElem (by omega)] at hj
      exact this (Option.some.inj hj)
  exact key _ (Nat.le_refl _)
/-- what is refused, or not -/
inductive DueW where
  | number
  | world (w : Str)
  | doubled (n : Str)
  | port (p : Str)
  | made
abbrev OMk := Option (List Mk)
def seqOk (many : Nat) (p : Mk → Bool) : OMk → Bool
  | none => false
  | some ms => decide (ms.length ≤ many) && ms.all p
def portsOk : OMk → Bool
  | none => false
  | some ms => decide (ms.length ≤ 8) && (!decide (ms.length = 0) && ms.all Mk.isN)
def kindsW (p c b s : OMk) : Option Str :=
  if portsOk p = false then some (Str.ofString "ports") else if seqOk 12 Mk.isC c = false then some (Str.ofString "channels")
  else if seqOk 4 Mk.isB b = false then some (Str.ofString "breakers") else if seqOk 6 Mk.isS s = false then some (Str.ofString "ships") else none
def msO (o : OMk) : List Mk := o.getD []
def nmsO (o : OMk) : List Str := (msO o).map Mk.nm
def wantL (c b s : OMk) : List Str := (msO c).flatMap Mk.ends ++ (msO b).flatMap Mk.prt ++ (msO s).flatMap Mk.both
def noPort (ps : List Str) (n : Str) : Bool := !decide (n ∈ ps)
def dueW (vb : V) (p c b s : OMk) : DueW :=
  if inB 0 1000000 vb = false then .number else match kindsW p c b s with
  | some w => .world w
  | none => match firstDbl (nmsO p) with
    | some n => .doubled n
    | none => match firstDbl (nmsO c) with
      | some n => .doubled n
      | none => match firstDbl (nmsO b ++ nmsO s) with
        | some n => .doubled n
        | none => match (wantL c b s).find? (noPort (nmsO p)) with
          | some n => .port n
          | none => .made
section
variable {K : PySem.W.Frag} {mg : Str → Option Value}
def ChT (T : Top K mg) (H : Hp) (x : Addr) (c : Cd) : Prop := c.ok ∧ ∃ dx, H x = some (.ins T.a_Channel dx c.flds)
theorem ChT.same {T : Top K mg} {H H' : Hp} {x : Addr} {c : Cd} (a : ChT T H x c) (e : Same H H') : ChT T H' x c := by obtain ⟨o, dx, h⟩ := a; exact ⟨o, dx, e _ _ h⟩
def MkT (T : Top K mg) (H : Hp) : Mk → Prop
  | .data v => Th H v
  | .ch x c => ChT T H x c
  | .ves x d => VesT T H x d
  | .trn _ => False
theorem MkT.same {T : Top K mg} {H H' : Hp} {m : Mk} (a : MkT T H m) (e : Same H H') : MkT T H' m := by
  cases m with
  | data v => exact Th.same e a
  | ch x c => exact ChT.same a e
  | ves x d => exact VesA.same a e
  | trn x => exact a.elim
theorem Th.kinds (T : Top K mg) {H : Hp} {v : V} (h : Th H v) : ∃ n, TyX K H v (.type n) ∧ PySem.W.kitOne K (.type n) (.ref T.a_Channel) = some false ∧ PySem.W.kitOne K (.type n) (.ref T.a_Breaker) = some false ∧ PySem.W.kitOne K (.type n) (.ref T.a_Ship) = some false := by
  rcases h with ⟨s, rfl, _⟩ | ⟨n, h⟩
  · exact ⟨"str", ty_str, T.ib_str_Channel, T.ib_str_Breaker, T.ib_str_Ship⟩
  · refine ⟨n, h.tyx, ?_⟩
    cases h with
    | non => exact ⟨T.ib_NoneType_Channel, T.ib_NoneType_Breaker, T.ib_NoneType_Ship⟩
    | int i => exact ⟨T.ib_int_Channel, T.ib_int_Breaker, T.ib_int_Ship⟩
    | bl b => exact ⟨T.ib_bool_Channel, T.ib_bool_Breaker, T.ib_bool_Ship⟩
    | lst h => exact ⟨T.ib_list_Channel, T.ib_list_Breaker, T.ib_list_Ship⟩
    | tup h => exact ⟨T.ib_tuple_Channel, T.ib_tuple_Breaker, T.ib_tuple_Ship⟩
    | dct h => exact ⟨T.ib_dict_Channel, T.ib_dict_Breaker, T.ib_dict_Ship⟩
theorem MkT.ty {T : Top K mg} {H : Hp} {m : Mk} (a : MkT T H m) : ∃ t, TyX K H m.v t ∧ PySem.W.kitOne K t (.ref T.a_Channel) = some m.isC ∧ PySem.W.kitOne K t (.ref T.a_Breaker) = some m.isB ∧ PySem.W.kitOne K t (.ref T.a_Ship) = some m.isS := by
  cases m with
  | data v => obtain ⟨n, ty, a, b, c⟩ := Th.kinds T a; exact ⟨_, ty, a, b, c⟩
  | ch x c => obtain ⟨_, dx, h⟩ := a; exact ⟨_, tyI h T.cl_Channel T.ca_Channel T.mo_Channel T, T.io_Channel_Channel, T.io_Channel_Breaker, T.io_Channel_Ship⟩
  | ves x d =>
    obtain ⟨_, dx, h⟩ := a
    unfold Mk.isB Mk.isS
    dsimp only
    cases hk : d.k with
    | v => rw [hk] at h; exact ⟨_, tyI h T.cl_Vessel T.ca_Vessel T.mo_Vessel T, T.io_Vessel_Channel, T.io_Vessel_Breaker, T.io_Vessel_Ship⟩
    | b => rw [hk] at h; exact ⟨_, tyI h T.cl_Breaker T.ca_Breaker T.mo_Breaker T, T.io_Breaker_Channel, T.io_Breaker_Breaker, T.io_Breaker_Ship⟩
    | s => rw [hk] at h; exact ⟨_, tyI h T.cl_Ship T.ca_Ship T.mo_Ship T, T.io_Ship_Channel, T.io_Ship_Breaker, T.io_Ship_Ship⟩
  | trn x => exact a.elim
theorem MkT.name {T : Top K mg} {H : Hp} {m : Mk} (a : MkT T H m) : (Th H m.v ∨ NoT K H m.v) ∧ Ice.isN m.v = m.isN := by
  cases m with
  | data v => exact ⟨.inl a, rfl⟩
  | ch x c => obtain ⟨_, dx, h⟩ := a; exact ⟨.inr ⟨_, tyI h T.cl_Channel T.ca_Channel T.mo_Channel T, T.io_Channel_str, rfl⟩, rfl⟩
  | ves x d =>
    obtain ⟨_, dx, h⟩ := a
    refine ⟨.inr ?_, rfl⟩
    cases hk : d.k with
    | v => rw [hk] at h; exact ⟨_, tyI h T.cl_Vessel T.ca_Vessel T.mo_Vessel T, T.io_Vessel_str, rfl⟩
    | b => rw [hk] at h; exact ⟨_, tyI h T.cl_Breaker T.ca_Breaker T.mo_Breaker T, T.io_Breaker_str, rfl⟩
    | s => rw [hk] at h; exact ⟨_, tyI h T.cl_Ship T.ca_Ship T.mo_Ship T, T.io_Ship_str, rfl⟩
  | trn x => exact a.elim
/-- an argument: a list or a tuple of things, or none -/
inductive ArgT (T : Top K mg) (H : Hp) : V → OMk → Prop
  | no {v : V} {t : Value} : TyX K H v t → PySem.W.kitAny K t [.type "list", .type "tuple"] = some false → ArgT T H v none
  | lst {p : Addr} {ms : List Mk} : H p = some (.lst (ms.map Mk.v)) → (∀ m ∈ ms, MkT T H m) → ArgT T H (.ref p) (some ms)
  | tup {p : Addr} {ms : List Mk} : H p = some (.tup (ms.map Mk.v)) → (∀ m ∈ ms, MkT T H m) → ArgT T H (.ref p) (some ms)
theorem ArgT.same {T : Top K mg} {H H' : Hp} {v : V} {o : OMk} (a : ArgT T H v o) (e : Same H H') : ArgT T H' v o := by
  cases a with
  | no h k => exact .no (tyx_same h e) k
  | lst h m => exact .lst (e _ _ h) fun x hx => (m x hx).same e
  | tup h m => exact .tup (e _ _ h) fun x hx => (m x hx).same e
theorem ArgT.sq {T : Top K mg} {H : Hp} {v : V} {ms : List Mk} (a : ArgT T H v (some ms)) : ∃ p, v = .ref p ∧ SqS K H p (ms.map Mk.v) ∧ ∀ m ∈ ms, MkT T H m := by
  cases a with
  | lst h m => exact ⟨_, rfl, .lst h, m⟩
  | tup h m => exact ⟨_, rfl, .tup h, m⟩
theorem ArgT.kit {T : Top K mg} {H : Hp} {v : V} {o : OMk} (a : ArgT T H v o) : ∃ t, TyX K H v t ∧ PySem.W.kitAny K t [.type "list", .type "tuple"] = some o.isSome := by
  cases a with
  | no h k => exact ⟨_, h, k⟩
  | lst h m => exact ⟨_, .base (.lst h), kitL⟩
  | tup h m => exact ⟨_, .base (.tup h), kitT⟩
end

end Ice

set_option Elab.async false
set_option linter.all false
set_option maxRecDepth 100000
set_option maxHeartbeats 4000000
set_option autoImplicit true
namespace Ice
open PySem PySem.Spec PyProof.Rows L2 TL
/-! side conditions, heaps, one step of a reading, and many -/
local macro_rules | `(tactic| walk_at "hp") => `(tactic| first | assumption | exact upd_same | exact New.at_ (by assumption) | (refine keepU ?_ (by assumption); walk_at "hp") | (refine New.app (by assumption) ?_; walk_at "hp") | (refine Same.app (by assumption) ?_; walk_at "hp") | (refine But.app (by assumption) (by assumption) ?_; walk_at "hp"))
local macro_rules | `(tactic| walk_at "sq") => `(tactic| first | assumption | exact SqL.lst (by walk_at "hp") | exact L2.Same.seq (New.same (by assumption)) (by assumption) | exact L2.Same.seq (by assumption) (by assumption))
local macro_rules | `(tactic| walk_at "len") => `(tactic| first | assumption | (simp only [List.length_cons, List.length_nil, List.length_append, List.length_map]; decide) | (refine Ice.sz_of ?_; simp only [List.length_cons, List.length_nil, List.length_append, List.length_map]; omega))
local macro_rules | `(tactic| walk_at "fresh") => `(tactic| (simp only [List.map_append, List.map_cons, List.map_nil, List.nil_append, List.cons_append]; decide +kernel))
local macro_rules | `(tactic| walk_at "sd") => `(tactic| first | assumption | (show _ ≠ _; omega) | exact Or.inl ⟨by omega, by omega⟩ | exact Or.inr ⟨by omega, by omega⟩ | exact ⟨by decide, by decide⟩ | exact ⟨by decide, by decide, by decide⟩ | exact ⟨by omega, by omega, by omega⟩)
/-! one step of a reading, and many -/
local macro_rules | `(tactic| walk_at "st") => `(tactic| first
  | with_reducible refine i_seq ?_
  | with_reducible refine i_if ?_
  | with_reducible refine i_next ?_
  | with_reducible refine i_ret ?_
  | with_reducible refine i_retN ?_
  | with_reducible refine i_drop ?_
  | with_reducible refine i_asg ?_
  | with_reducible refine i_gname ?_
  | with_reducible refine i_gsub ?_
  | ((with_reducible refine i_var (v := ?vv) ?hv ?_); (case hv => exact rfl))
  | with_reducible refine i_c ?_
  | with_reducible refine i_op ?_
  | with_reducible refine i_un ?_
  | with_reducible refine i_test ?_
  | with_reducible refine i_tB ?_
  | with_reducible refine i_and ?_
  | with_reducible refine i_or ?_
  | with_reducible refine i_not ?_
  | with_reducible refine i_andV ?_
  | with_reducible refine i_orV ?_
  | with_reducible refine i_notV ?_
  | with_reducible refine i_ifE ?_
  | with_reducible refine i_chain ?_
  | with_reducible refine i_bl ?_
  | with_reducible refine i_nil ?_
  | with_reducible refine i_cons ?_
  | with_reducible refine i_call ?_
  | with_reducible refine i_cb ?_
  | with_reducible refine i_rI0 ?_
  | with_reducible refine i_rU ?_
  | ((with_reducible refine i_rEq ?hs ?_); (case hs => exact rfl))
  | ((with_reducible refine i_rNe ?hs ?_); (case hs => exact rfl))
  | ((with_reducible refine i_rI ?hc ?_); (case hc => walk_at "sd"))
  | ((with_reducible refine i_ixL (xs := ?xs) (v := ?vv) ?hS ?he ?_); (case hS => walk_at "sq"); (case he => exact rfl))
  | ((with_reducible refine i_setL (xs := ?xs) (j := ?jj) ?hS ?he ?_); (case hS => walk_at "hp"); (case he => exact rfl))
  | with_reducible refine i_tup ?_
  | with_reducible refine i_lst ?_
  | with_reducible refine i_bm ?_
  | with_reducible refine i_bm0 ?_
  | with_reducible refine i_m1 ?_
  | with_reducible refine i_sl ?_
  | with_reducible refine i_nopart ?_
  | with_reducible refine i_part ?_
  | with_reducible refine i_int ?_
  | with_reducible refine i_str ?_
  | with_reducible refine i_for ?_
  | with_reducible refine i_yes ?_
  | ((with_reducible refine i_lenL (xs := ?xs) ?hS ?_); (case hS => walk_at "sq"))
  | ((with_reducible refine i_room ?hz ?_); (case hz => walk_at "len"))
  | with_reducible refine i_leT ?_
  | with_reducible refine i_notInS ?_
  | with_reducible refine i_inS ?_
  | with_reducible refine i_find ?_
  | with_reducible refine i_isB ?_
  | with_reducible refine i_max2 ?_
  | with_reducible refine i_min2 ?_
  | with_reducible exact trivial
  | with_reducible refine iteT ?_
  | with_reducible refine iteF ?_
  | with_reducible refine i_isstr ?_
  | with_reducible refine i_lc ?_
  | ((with_reducible refine i_cat (xs := ?xs) (zs := ?zs) ?ha ?hb ?hz ?_); (case ha => walk_at "hp"); (case hb => walk_at "hp"); (case hz => walk_at "len"))
  | ((with_reducible refine i_tyL (xs := ?xs) ?ha ?_); (case ha => walk_at "hp"))
  | with_reducible refine i_list ?_
  | with_reducible refine i_disp ?_
  | with_reducible refine i_pairs0 ?_
  | with_reducible refine i_pairs ?_
  | with_reducible refine i_newK ?_
  | with_reducible refine i_gcons ?_
  | with_reducible refine i_gnil ?_
  | with_reducible refine i_revL ?_
  | with_reducible refine i_rng1 ?_
  | ((with_reducible refine i_wipe ?hw ?_); (case hw => exact rfl))
  | with_reducible refine iteNT ?_
  | with_reducible refine iteNF ?_)
local macro_rules | `(tactic| walk_at "sx") => `(tactic| first
  | walk_at "st"
  | with_reducible refine i_kinit ?_
  | with_reducible refine i_ost ?_
  | with_reducible refine i_mkO ?_
  | with_reducible refine i_callE ?_
  | with_reducible refine i_makeE ?_
  | with_reducible refine i_xf ?_
  | with_reducible refine i_sfld ?_
  | with_reducible refine i_fld ?_
  | ((with_reducible refine i_ixT (xs := ?xs) (v := ?vv) ?hS ?he ?_); (case hS => exact SqT.tup (by walk_at "hp")); (case he => exact rfl))
  | with_reducible refine i_intB ?_
  | with_reducible refine i_runS ?_
  | with_reducible refine i_runN ?_
  | ((with_reducible refine i_xf1 (fs := ?ff) (v := ?vv) ?hx ?hl ?_); (case hx => walk_at "hp"); (case hl => exact rfl))
  | with_reducible refine i_methE ?_
  | with_reducible refine i_meth ?_
  | with_reducible refine i_make ?_
  | ((with_reducible refine i_obj (dx := ?dd) (fs := ?ff) ?hx ?hl ?_); (case hx => walk_at "hp"); (case hl => exact rfl))
  | ((with_reducible refine i_fld1 (C := ?CC) (dx := ?dd) (fs := ?ff) (v := ?vv) ?hx ?cl ?na ?hl ?_); (case hx => walk_at "hp"); (case cl => assumption); (case na => assumption); (case hl => exact rfl)))
local macro_rules | `(tactic| walk_at "sy") => `(tactic| first
  | walk_at "sx"
  | with_reducible refine i_dget ?_
  | with_reducible refine i_dget2 ?_
  | with_reducible refine i_dput ?_
  | with_reducible refine i_din ?_
  | ((with_reducible refine i_aug (x := ?vv) ?hx ?_); (case hx => exact rfl)))
local macro_rules | `(tactic| walk_at "rd") => `(tactic| repeat (walk_at "sy"))

section
variable {P : Program} {w : World} {K : PySem.W.Frag} {mg : Str → Option Value} {base : Heap}
def heldO (many : Nat) : OMk → Bool
  | none => false
  | some ms => decide (ms.length ≤ many)
def spHolds (T : Top K mg) : Sp := fun vs H Q _ => ∃ (v : V) (many : Nat) (o : OMk), vs = [v, .int many] ∧ ArgT T H v o ∧ ∀ H', Same H H' → Q (.bl (heldO many o)) H'
theorem ok_holds_at_most (T : Top K mg) : FnG P w K mg base CX0 1 T.a_holds_at_most T.d_holds_at_most ["thing", "many"] (spHolds T) := by
  refine okG T.F_holds_at_most sc_holds_at_most (fun vs H Q E h => ?_) (fun cdv A outer s H vs Q E hr hgd h => ?_)
  · obtain ⟨v, many, o, rfl, _⟩ := h
    rfl
  · obtain ⟨v, many, o, rfl, a, q⟩ := h
    refine ⟨_, (pss_one (ps_ret (pe_and (pe_callB call_isiT (by rfl) T.n_isinstance (by decide +kernel) (pa_cons (pv 0) (pa_cons (pe_tup (pa_cons (pe_bltn (v := .ty "list") (by rfl) T.n_list (by decide +kernel) rfl) (pa_cons (pe_bltn (v := .ty "tuple") (by rfl) T.n_tuple (by decide +kernel) rfl) pa_nil))) pa_nil))) (pe_one (pe_cmpR op_le (pe_callB c_len (by rfl) T.n_len (by decide +kernel) (pa_cons (pv 0) pa_nil)) (pv 1) (nomark _)))))), ?_⟩
    cases o with
    | none =>
      obtain ⟨t, ty, kk⟩ := a.kit
      replace kk : PySem.W.kitAny K t [.type "list", .type "tuple"] = some false := kk
      walk_at "rd"
      (intro p1 hp1; generalize ep1 : upd _ p1 _ = J1; have N1 := New.of ep1 hp1; clear ep1 hp1)
      walk_at "rd"
      refine i_isiTT N1.at_ (tyx_same ty N1.same) kk ?_
      walk_at "rd"
      exact q _ N1.same
    | some ms =>
      obtain ⟨t, ty, kk⟩ := a.kit
      replace kk : PySem.W.kitAny K t [.type "list", .type "tuple"] = some true := kk
      obtain ⟨p, rfl, hS, _⟩ := a.sq
      walk_at "rd"
      (intro p1 hp1; generalize ep1 : upd _ p1 _ = J1; have N1 := New.of ep1 hp1; clear ep1 hp1)
      walk_at "rd"
      refine i_isiTT N1.at_ (tyx_same ty N1.same) kk ?_
      walk_at "rd"
      refine i_lenS2 (hS.same N1.same) ?_
      walk_at "rd"
      have e : decide (((ms.map Mk.v).length : Int) ≤ (many : Int)) = heldO many (some ms) := by
        show _ = decide (ms.length ≤ many)
        rw [List.length_map, decide_eq_decide]; omega
      rw [e]
      exact q _ N1.same
/-- the first refusal of a kind -/
theorem seqOk_false {many : Nat} {p : Mk → Bool} {o : OMk} (h : heldO many o = false) : seqOk many p o = false := by
  cases o with
  | none => rfl
  | some ms => show (decide (ms.length ≤ many) && _) = false; rw [show decide (ms.length ≤ many) = false from h]; rfl
theorem seqOk_of {many : Nat} {p : Mk → Bool} {ms : List Mk} (h : heldO many (some ms) = true) : seqOk many p (some ms) = ms.all p := by
  show (decide (ms.length ≤ many) && ms.all p) = _
  rw [show decide (ms.length ≤ many) = true from h]; rfl
theorem all_map {p : Mk → Bool} (ms : List Mk) : (ms.map p).all id = ms.all p := by rw [List.all_map]; rfl
theorem bl_some (p : Mk → Bool) (ms : List Mk) : gath (ms.map fun m => some (V.bl (p m))) = (ms.map p).map V.bl := by
  rw [show (ms.map fun m => some (V.bl (p m))) = (((ms.map p).map V.bl).map some) by simp, gath_some]
theorem mk_get {ms : List Mk} {p : Mk → Option V} {i : Nat} {x : V} {o : Option V} (hx : (ms.map Mk.v)[i]? = some x) (ho : (ms.map p)[i]? = some o) : ∃ m, m ∈ ms ∧ ms[i]? = some m ∧ x = m.v ∧ o = p m := by
  rw [List.getElem?_map] at hx ho
  cases hm : ms[i]? with
  | none => rw [hm] at hx; cases hx
  | some m =>
    rw [hm] at hx ho
    exact ⟨m, List.mem_of_getElem? hm, rfl, (Option.some.inj hx).symm, (Option.some.inj ho).symm⟩
def spKinds (T : Top K mg) : Sp := fun vs H Q E => ∃ (p c b s : V) (op oc ob os : OMk), vs = [p, c, b, s] ∧ ArgT T H p op ∧ ArgT T H c oc ∧ ArgT T H b ob ∧ ArgT T H s os ∧ (∀ o ∈ [op, oc, ob, os], ∀ ms, o = some ms → ms.length ≤ 30000) ∧
  match kindsW op oc ob os with
  | none => ∀ H', Same H H' → Q .non H'
  | some w => ∀ d H', Same H H' → H' d = some (.xd [(Str.ofString "found", .str w)]) → E (.ref T.a_NoWorld) (some d) H'
theorem holdsI (T : Top K mg) {H : Hp} {Q : VK} {E : XK} {v : V} {many : Nat} {o : OMk} (a : ArgT T H v o) (q : ∀ H', Same H H' → Q (.bl (heldO many o)) H') : spHolds T ([v, .int many] ++ []) H Q E := ⟨v, many, o, rfl, a, q⟩
theorem noteI (C : Addr) {d : Addr} : True := trivial
set_option maxHeartbeats 8000000 in
theorem ok_check_kinds (T : Top K mg) : FnG P w K mg base (L2.CX P w) 3 T.a_check_kinds T.d_check_kinds ["ports", "channels", "breakers", "ships"] (spKinds T) := by
  have G_holds_at_most := ok_holds_at_most (P := P) (w := w) (base := base) T
  have G_is_name := ok_is_name (P := P) (w := w) (base := base) T
  have G_NoWorld___init__ := ok_NoWorld___init__ (P := P) (w := w) (base := base) T
  have G_NoWorld___init__ := ok_NoWorld___init__ (P := P) (w := w) (base := base) T
  have G_NoWorld___init__ := ok_NoWorld___init__ (P := P) (w := w) (base := base) T
  have G_NoWorld___init__ := ok_NoWorld___init__ (P := P) (w := w) (base := base) T
  refine okGX T.F_check_kinds sc_check_kinds (fun vs H Q E h => ?_) (fun cdv A outer s H vs Q E hr hgd h => ?_)
  · obtain ⟨p, c, b, s, op, oc, ob, os, rfl, _⟩ := h
    rfl
  · obtain ⟨p, c, b, s', op, oc, ob, os, rfl, ap, ac, ab, as', hz, q⟩ := h
    have G_NoWorld___init__ := ok_NoWorld___init__ (P := P) (w := w) (base := base) T
    refine ⟨_, (pss_cons (ps_if (PW.pt (pw_or (pt_not (pt_val (g_call G_holds_at_most (hr.mono (by decide)) hgd (by rfl) T.m_holds_at_most T.F_holds_at_most.kp T.b_holds_at_most .nil pass0 (pa_cons (pv 0) (pa_cons (pe_glob (v := .int 8) (by rfl) T.c_PORTS_MOST ⟨_, rfl⟩) pa_nil))))) (pw_or (pt_cmpR op_eq (pe_callB c_len (by rfl) T.n_len (by decide +kernel) (pa_cons (pv 0) pa_nil)) pe_int (nomark _)) (pw_or1 (pt_not (pt_val (pe_callB (cr_all (by rfl)) (by rfl) T.n_all (by decide +kernel) (pa_cons (pe_lc (own := [("each", 4)]) (g := gName 4) rfl sc_check_kinds.nd (pi_seq (pv 0)) (blkOk_by (own := [("each", 4)]) (N := ["ports", "channels", "breakers", "ships", "each"]) (sc := defScope s_check_kinds) (by decide +kernel)) (fun _ _ _ _ _ => (pg_name (i := 4) sc_check_kinds.nd rfl (by first | exact Or.inl rfl | exact Or.inr rfl))) (fun _ _ _ _ _ => pts_nil) (fun _ _ _ _ _ => (g_call G_is_name (hr.mono (by decide)) hgd (by rfl) T.m_is_name T.F_is_name.kp T.b_is_name .nil pass0 (pa_cons (pv 4) pa_nil)))) pa_nil))))))))
        (pss_one (ps_raise rfl (takes_of rfl rfl rfl rfl) (pmk_oex T.ox_NoWorld T.in_NoWorld T.tf_NoWorld G_NoWorld___init__ (hr.mono (by decide)) T.b_NoWorld___init__ .nil pass0 (by rfl) T.c_NoWorld (pa_cons pe_str pa_nil))))
        pss_nil)
      (pss_cons (ps_if (PW.pt (pw_or (pt_not (pt_val (g_call G_holds_at_most (hr.mono (by decide)) hgd (by rfl) T.m_holds_at_most T.F_holds_at_most.kp T.b_holds_at_most .nil pass0 (pa_cons (pv 1) (pa_cons (pe_glob (v := .int 12) (by rfl) T.c_CHANNELS_MOST ⟨_, rfl⟩) pa_nil))))) (pw_or1 (pt_not (pt_val (pe_callB (cr_all (by rfl)) (by rfl) T.n_all (by decide +kernel) (pa_cons (pe_lc (own := [("each", 4)]) (g := gName 4) rfl sc_check_kinds.nd (pi_seq (pv 1)) (blkOk_by (own := [("each", 4)]) (N := ["ports", "channels", "breakers", "ships", "each"]) (sc := defScope s_check_kinds) (by decide +kernel)) (fun _ _ _ _ _ => (pg_name (i := 4) sc_check_kinds.nd rfl (by first | exact Or.inl rfl | exact Or.inr rfl))) (fun _ _ _ _ _ => pts_nil) (fun _ _ _ _ _ => (pe_callB (show CallR _ (.builtin "isinstance") (rIsi K) from c_isi) (by rfl) T.n_isinstance (by decide +kernel) (pa_cons (pv 4) (pa_cons (pe_glob (v := .ref T.a_Channel) (by rfl) T.c_Channel rfl) pa_nil))))) pa_nil)))))))
        (pss_one (ps_raise rfl (takes_of rfl rfl rfl rfl) (pmk_oex T.ox_NoWorld T.in_NoWorld T.tf_NoWorld G_NoWorld___init__ (hr.mono (by decide)) T.b_NoWorld___init__ .nil pass0 (by rfl) T.c_NoWorld (pa_cons pe_str pa_nil))))
        pss_nil)
      (pss_cons (ps_if (PW.pt (pw_or (pt_not (pt_val (g_call G_holds_at_most (hr.mono (by decide)) hgd (by rfl) T.m_holds_at_most T.F_holds_at_most.kp T.b_holds_at_most .nil pass0 (pa_cons (pv 2) (pa_cons (pe_glob (v := .int 4) (by rfl) T.c_BREAKERS_MOST ⟨_, rfl⟩) pa_nil))))) (pw_or1 (pt_not (pt_val (pe_callB (cr_all (by rfl)) (by rfl) T.n_all (by decide +kernel) (pa_cons (pe_lc (own := [("each", 4)]) (g := gName 4) rfl sc_check_kinds.nd (pi_seq (pv 2)) (blkOk_by (own := [("each", 4)]) (N := ["ports", "channels", "breakers", "ships", "each"]) (sc := defScope s_check_kinds) (by decide +kernel)) (fun _ _ _ _ _ => (pg_name (i := 4) sc_check_kinds.nd rfl (by first | exact Or.inl rfl | exact Or.inr rfl))) (fun _ _ _ _ _ => pts_nil) (fun _ _ _ _ _ => (pe_callB (show CallR _ (.builtin "isinstance") (rIsi K) from c_isi) (by rfl) T.n_isinstance (by decide +kernel) (pa_cons (pv 4) (pa_cons (pe_glob (v := .ref T.a_Breaker) (by rfl) T.c_Breaker rfl) pa_nil))))) pa_nil)))))))
        (pss_one (ps_raise rfl (takes_of rfl rfl rfl rfl) (pmk_oex T.ox_NoWorld T.in_NoWorld T.tf_NoWorld G_NoWorld___init__ (hr.mono (by decide)) T.b_NoWorld___init__ .nil pass0 (by rfl) T.c_NoWorld (pa_cons pe_str pa_nil))))
        pss_nil)
      (pss_one (ps_if (PW.pt (pw_or (pt_not (pt_val (g_call G_holds_at_most (hr.mono (by decide)) hgd (by rfl) T.m_holds_at_most T.F_holds_at_most.kp T.b_holds_at_most .nil pass0 (pa_cons (pv 3) (pa_cons (pe_glob (v := .int 6) (by rfl) T.c_SHIPS_MOST ⟨_, rfl⟩) pa_nil))))) (pw_or1 (pt_not (pt_val (pe_callB (cr_all (by rfl)) (by rfl) T.n_all (by decide +kernel) (pa_cons (pe_lc (own := [("each", 4)]) (g := gName 4) rfl sc_check_kinds.nd (pi_seq (pv 3)) (blkOk_by (own := [("each", 4)]) (N := ["ports", "channels", "breakers", "ships", "each"]) (sc := defScope s_check_kinds) (by decide +kernel)) (fun _ _ _ _ _ => (pg_name (i := 4) sc_check_kinds.nd rfl (by first | exact Or.inl rfl | exact Or.inr rfl))) (fun _ _ _ _ _ => pts_nil) (fun _ _ _ _ _ => (pe_callB (show CallR _ (.builtin "isinstance") (rIsi K) from c_isi) (by rfl) T.n_isinstance (by decide +kernel) (pa_cons (pv 4) (pa_cons (pe_glob (v := .ref T.a_Ship) (by rfl) T.c_Ship rfl) pa_nil))))) pa_nil)))))))
        (pss_one (ps_raise rfl (takes_of rfl rfl rfl rfl) (pmk_oex T.ox_NoWorld T.in_NoWorld T.tf_NoWorld G_NoWorld___init__ (hr.mono (by decide)) T.b_NoWorld___init__ .nil pass0 (by rfl) T.c_NoWorld (pa_cons pe_str pa_nil))))
        pss_nil))))), ?_⟩
    walk_at "rd"
    refine holdsI T (many := 8) ap fun H1 s1 => ?_
    walk_at "rd"
    have bad1 : portsOk op = false → kindsW op oc ob os = some (Str.ofString "ports") := fun z => by unfold kindsW; rw [if_pos z]
    refine ifs (fun h1 => ?_) (fun h1 => ?_)
    · walk_at "rd"
      rw [bad1 (by
        cases op with
        | none => rfl
        | some ms => show (decide (ms.length ≤ 8) && _) = false; rw [show decide (ms.length ≤ 8) = false by simpa [heldO] using h1]; rfl)] at q
      exact i_mkE T.ox_NoWorld T.nf_NoWorld_found (fun d hd => q d _ (s1.trans (Same.new _ hd)) upd_same)
    · cases op with
      | none => cases h1
      | some mp =>
        have l8 : mp.length ≤ 8 := by simpa [heldO] using h1
        obtain ⟨pp, rfl, hSp, mTp⟩ := ap.sq
        walk_at "rd"
        refine i_lenS2 (hSp.same s1) ?_
        walk_at "rd"
        refine ifs (fun h2 => ?_) (fun h2 => ?_)
        · walk_at "rd"
          have e0 : mp.length = 0 := by simpa using h2
          rw [bad1 (by show (decide (mp.length ≤ 8) && (!decide (mp.length = 0) && _)) = false; rw [decide_eq_true e0]; simp)] at q
          exact i_mkE T.ox_NoWorld T.nf_NoWorld_found (fun d hd => q d _ (s1.trans (Same.new _ hd)) upd_same)
        · have e0 : ¬ mp.length = 0 := by simpa using h2
          walk_at "rd"
          refine i_iseq ?_
          walk_at "rd"
          refine lc_gather (hSp.same s1) (mp.map fun m => some (V.bl m.isN)) (by simp) (by rw [List.length_map]; have := sz_of (n := mp.length + 1) (by omega); omega) ?_ ?_
          · intro i x o H' NY NN hx ho s hy hn
            obtain ⟨m, hm, _, rfl, rfl⟩ := mk_get hx ho
            walk_at "rd"
            obtain ⟨m1, m2⟩ := MkT.name ((mTp m hm).same (s1.trans s))
            refine ⟨_, rfl, m1, ?_⟩
            exact hy _ _ (by rw [m2]) (Same.refl _)
          · intro D H2 hD s2 k2
            rw [bl_some] at k2
            walk_at "rd"
            refine i_all (SqL.lst k2) ?_
            rw [all_map]
            walk_at "rd"
            refine ifs (fun h3 => ?_) (fun h3 => ?_)
            · walk_at "rd"
              rw [bad1 (by show (decide (mp.length ≤ 8) && (!decide (mp.length = 0) && mp.all Mk.isN)) = false; rw [show mp.all Mk.isN = false by simpa using h3]; simp)] at q
              exact i_mkE T.ox_NoWorld T.nf_NoWorld_found (fun d hd => q d _ ((s1.trans s2).trans (Same.new _ hd)) upd_same)
            · have g1 : portsOk (some mp) = true := by
                show (decide (mp.length ≤ 8) && (!decide (mp.length = 0) && mp.all Mk.isN)) = true
                rw [decide_eq_true l8, decide_eq_false e0, show mp.all Mk.isN = true by simpa using h3]; rfl
              have s12 := s1.trans s2
              clear k2
              walk_at "rd"
              have bad2 : seqOk 12 Mk.isC oc = false → kindsW (some mp) oc ob os = some (Str.ofString "channels") := fun z => by unfold kindsW; rw [if_neg (by rw [g1]; decide), if_pos z]
              refine holdsI T (many := 12) (ArgT.same ac s12) fun H2a s2a => ?_
              walk_at "rd"
              refine ifs (fun h2a => ?_) (fun h2a => ?_)
              · walk_at "rd"
                rw [bad2 (seqOk_false (by simpa using h2a))] at q
                exact i_mkE T.ox_NoWorld T.nf_NoWorld_found (fun d hd => q d _ ((s12.trans s2a).trans (Same.new _ hd)) upd_same)
              · cases oc with
                | none => cases h2a
                | some mc =>
                  have hh2 : heldO 12 (some mc) = true := by simpa using h2a
                  have l2 : mc.length ≤ 12 := of_decide_eq_true hh2
                  obtain ⟨pc, rfl, hSc, mTc⟩ := ac.sq
                  walk_at "rd"
                  refine i_iseq ?_
                  walk_at "rd"
                  refine lc_gather (hSc.same (s12.trans s2a)) (mc.map fun m => some (V.bl m.isC)) (by simp) (by rw [List.length_map]; have := sz_of (n := mc.length + 1) (by omega); omega) ?_ ?_
                  · intro i x o H' NY NN hx ho s hy hn
                    obtain ⟨m, hm, _, rfl, rfl⟩ := mk_get hx ho
                    walk_at "rd"
                    obtain ⟨t, ty, t1, t2, t3⟩ := MkT.ty ((mTc m hm).same ((s12.trans s2a).trans s))
                    refine i_isiV ty t1 ?_
                    exact hy _ _ rfl (Same.refl _)
                  · intro D H2 hD s2b k2
                    rw [bl_some] at k2
                    walk_at "rd"
                    refine i_all (SqL.lst k2) ?_
                    rw [all_map]
                    walk_at "rd"
                    have e2 : mc.all Mk.isC = seqOk 12 Mk.isC (some mc) := (seqOk_of hh2).symm
                    rw [e2]
                    refine ifs (fun h2b => ?_) (fun h2b => ?_)
                    · walk_at "rd"
                      rw [bad2 (by simpa using h2b)] at q
                      exact i_mkE T.ox_NoWorld T.nf_NoWorld_found (fun d hd => q d _ (((s12.trans s2a).trans s2b).trans (Same.new _ hd)) upd_same)
                    · have g2 : seqOk 12 Mk.isC (some mc) = true := by simpa using h2b
                      have s123 := (s12.trans s2a).trans s2b
                      clear k2
                      walk_at "rd"
                      have bad3 : seqOk 4 Mk.isB ob = false → kindsW (some mp) (some mc) ob os = some (Str.ofString "breakers") := fun z => by unfold kindsW; rw [if_neg (by rw [g1]; decide), if_neg (by rw [g2]; decide), if_pos z]
                      refine holdsI T (many := 4) (ArgT.same ab s123) fun H3a s3a => ?_
                      walk_at "rd"
                      refine ifs (fun h3a => ?_) (fun h3a => ?_)
                      · walk_at "rd"
                        rw [bad3 (seqOk_false (by simpa using h3a))] at q
                        exact i_mkE T.ox_NoWorld T.nf_NoWorld_found (fun d hd => q d _ ((s123.trans s3a).trans (Same.new _ hd)) upd_same)
                      · cases ob with
                        | none => cases h3a
                        | some mb =>
                          have hh3 : heldO 4 (some mb) = true := by simpa using h3a
                          have l3 : mb.length ≤ 4 := of_decide_eq_true hh3
                          obtain ⟨pb, rfl, hSb, mTb⟩ := ab.sq
                          walk_at "rd"
                          refine i_iseq ?_
                          walk_at "rd"
                          refine lc_gather (hSb.same (s123.trans s3a)) (mb.map fun m => some (V.bl m.isB)) (by simp) (by rw [List.length_map]; have := sz_of (n := mb.length + 1) (by omega); omega) ?_ ?_
                          · intro i x o H' NY NN hx ho s hy hn
                            obtain ⟨m, hm, _, rfl, rfl⟩ := mk_get hx ho
                            walk_at "rd"
                            obtain ⟨t, ty, t1, t2, t3⟩ := MkT.ty ((mTb m hm).same ((s123.trans s3a).trans s))
                            refine i_isiV ty t2 ?_
                            exact hy _ _ rfl (Same.refl _)
                          · intro D H2 hD s3b k2
                            rw [bl_some] at k2
                            walk_at "rd"
                            refine i_all (SqL.lst k2) ?_
                            rw [all_map]
                            walk_at "rd"
                            have e3 : mb.all Mk.isB = seqOk 4 Mk.isB (some mb) := (seqOk_of hh3).symm
                            rw [e3]
                            refine ifs (fun h3b => ?_) (fun h3b => ?_)
                            · walk_at "rd"
                              rw [bad3 (by simpa using h3b)] at q
                              exact i_mkE T.ox_NoWorld T.nf_NoWorld_found (fun d hd => q d _ (((s123.trans s3a).trans s3b).trans (Same.new _ hd)) upd_same)
                            · have g3 : seqOk 4 Mk.isB (some mb) = true := by simpa using h3b
                              have s1234 := (s123.trans s3a).trans s3b
                              clear k2
                              walk_at "rd"
                              have bad4 : seqOk 6 Mk.isS os = false → kindsW (some mp) (some mc) (some mb) os = some (Str.ofString "ships") := fun z => by unfold kindsW; rw [if_neg (by rw [g1]; decide), if_neg (by rw [g2]; decide), if_neg (by rw [g3]; decide), if_pos z]
                              refine holdsI T (many := 6) (ArgT.same as' s1234) fun H4a s4a => ?_
                              walk_at "rd"
                              refine ifs (fun h4a => ?_) (fun h4a => ?_)
                              · walk_at "rd"
                                rw [bad4 (seqOk_false (by simpa using h4a))] at q
                                exact i_mkE T.ox_NoWorld T.nf_NoWorld_found (fun d hd => q d _ ((s1234.trans s4a).trans (Same.new _ hd)) upd_same)
                              · cases os with
                                | none => cases h4a
                                | some ms =>
                                  have hh4 : heldO 6 (some ms) = true := by simpa using h4a
                                  have l4 : ms.length ≤ 6 := of_decide_eq_true hh4
                                  obtain ⟨ps, rfl, hSs, mTs⟩ := as'.sq
                                  walk_at "rd"
                                  refine i_iseq ?_
                                  walk_at "rd"
                                  refine lc_gather (hSs.same (s1234.trans s4a)) (ms.map fun m => some (V.bl m.isS)) (by simp) (by rw [List.length_map]; have := sz_of (n := ms.length + 1) (by omega); omega) ?_ ?_
                                  · intro i x o H' NY NN hx ho s hy hn
                                    obtain ⟨m, hm, _, rfl, rfl⟩ := mk_get hx ho
                                    walk_at "rd"
                                    obtain ⟨t, ty, t1, t2, t3⟩ := MkT.ty ((mTs m hm).same ((s1234.trans s4a).trans s))
                                    refine i_isiV ty t3 ?_
                                    exact hy _ _ rfl (Same.refl _)
                                  · intro D H2 hD s4b k2
                                    rw [bl_some] at k2
                                    walk_at "rd"
                                    refine i_all (SqL.lst k2) ?_
                                    rw [all_map]
                                    walk_at "rd"
                                    have e4 : ms.all Mk.isS = seqOk 6 Mk.isS (some ms) := (seqOk_of hh4).symm
                                    rw [e4]
                                    refine ifs (fun h4b => ?_) (fun h4b => ?_)
                                    · walk_at "rd"
                                      rw [bad4 (by simpa using h4b)] at q
                                      exact i_mkE T.ox_NoWorld T.nf_NoWorld_found (fun d hd => q d _ (((s1234.trans s4a).trans s4b).trans (Same.new _ hd)) upd_same)
                                    · have g4 : seqOk 6 Mk.isS (some ms) = true := by simpa using h4b
                                      have s12345 := (s1234.trans s4a).trans s4b
                                      clear k2
                                      have e : kindsW (some mp) (some mc) (some mb) (some ms) = none := by unfold kindsW; rw [if_neg (by rw [g1]; decide), if_neg (by rw [g2]; decide), if_neg (by rw [g3]; decide), if_neg (by rw [g4]; decide)]
                                      rw [e] at q
                                      walk_at "rd"
                                      exact q _ s12345
end

end Ice

set_option Elab.async false
set_option linter.all false
set_option maxRecDepth 100000
set_option maxHeartbeats 4000000
set_option autoImplicit true
namespace Ice
open PySem PySem.Spec PyProof.Rows L2 TL
/-! side conditions, heaps, one step of a reading, and many -/
local macro_rules | `(tactic| walk_at "hp") => `(tactic| first | assumption | exact upd_same | exact New.at_ (by assumption) | (refine keepU ?_ (by assumption); walk_at "hp") | (refine New.app (by assumption) ?_; walk_at "hp") | (refine Same.app (by assumption) ?_; walk_at "hp") | (refine But.app (by assumption) (by assumption) ?_; walk_at "hp"))
local macro_rules | `(tactic| walk_at "sq") => `(tactic| first | assumption | exact SqL.lst (by walk_at "hp") | exact L2.Same.seq (New.same (by assumption)) (by assumption) | exact L2.Same.seq (by assumption) (by assumption))
local macro_rules | `(tactic| walk_at "len") => `(tactic| first | assumption | (simp only [List.length_cons, List.length_nil, List.length_append, List.length_map]; decide) | (refine Ice.sz_of ?_; simp only [List.length_cons, List.length_nil, List.length_append, List.length_map]; omega))
local macro_rules | `(tactic| walk_at "fresh") => `(tactic| (simp only [List.map_append, List.map_cons, List.map_nil, List.nil_append, List.cons_append]; decide +kernel))
local macro_rules | `(tactic| walk_at "sd") => `(tactic| first | assumption | (show _ ≠ _; omega) | exact Or.inl ⟨by omega, by omega⟩ | exact Or.inr ⟨by omega, by omega⟩ | exact ⟨by decide, by decide⟩ | exact ⟨by decide, by decide, by decide⟩ | exact ⟨by omega, by omega, by omega⟩)
/-! one step of a reading, and many -/
local macro_rules | `(tactic| walk_at "st") => `(tactic| first
  | with_reducible refine i_seq ?_
  | with_reducible refine i_if ?_
  | with_reducible refine i_next ?_
  | with_reducible refine i_ret ?_
  | with_reducible refine i_retN ?_
  | with_reducible refine i_drop ?_
  | with_reducible refine i_asg ?_
  | with_reducible refine i_gname ?_
  | with_reducible refine i_gsub ?_
  | ((with_reducible refine i_var (v := ?vv) ?hv ?_); (case hv => exact rfl))
  | with_reducible refine i_c ?_
  | with_reducible refine i_op ?_
  | with_reducible refine i_un ?_
  | with_reducible refine i_test ?_
  | with_reducible refine i_tB ?_
  | with_reducible refine i_and ?_
  | with_reducible refine i_or ?_
  | with_reducible refine i_not ?_
  | with_reducible refine i_andV ?_
  | with_reducible refine i_orV ?_
  | with_reducible refine i_notV ?_
  | with_reducible refine i_ifE ?_
  | with_reducible refine i_chain ?_
  | with_reducible refine i_bl ?_
  | with_reducible refine i_nil ?_
  | with_reducible refine i_cons ?_
  | with_reducible refine i_call ?_
  | with_reducible refine i_cb ?_
  | with_reducible refine i_rI0 ?_
  | with_reducible refine i_rU ?_
  | ((with_reducible refine i_rEq ?hs ?_); (case hs => exact rfl))
  | ((with_reducible refine i_rNe ?hs ?_); (case hs => exact rfl))
  | ((with_reducible refine i_rI ?hc ?_); (case hc => walk_at "sd"))
  | ((with_reducible refine i_ixL (xs := ?xs) (v := ?vv) ?hS ?he ?_); (case hS => walk_at "sq"); (case he => exact rfl))
  | ((with_reducible refine i_setL (xs := ?xs) (j := ?jj) ?hS ?he ?_); (case hS => walk_at "hp"); (case he => exact rfl))
  | with_reducible refine i_tup ?_
  | with_reducible refine i_lst ?_
  | with_reducible refine i_bm ?_
  | with_reducible refine i_bm0 ?_
  | with_reducible refine i_m1 ?_
  | with_reducible refine i_sl ?_
  | with_reducible refine i_nopart ?_
  | with_reducible refine i_part ?_
  | with_reducible refine i_int ?_
  | with_reducible refine i_str ?_
  | with_reducible refine i_for ?_
  | with_reducible refine i_yes ?_
  | ((with_reducible refine i_lenL (xs := ?xs) ?hS ?_); (case hS => walk_at "sq"))
  | ((with_reducible refine i_room ?hz ?_); (case hz => walk_at "len"))
  | with_reducible refine i_leT ?_
  | with_reducible refine i_notInS ?_
  | with_reducible refine i_inS ?_
  | with_reducible refine i_find ?_
  | with_reducible refine i_isB ?_
  | with_reducible refine i_max2 ?_
  | with_reducible refine i_min2 ?_
  | with_reducible exact trivial
  | with_reducible refine iteT ?_
  | with_reducible refine iteF ?_
  | with_reducible refine i_isstr ?_
  | with_reducible refine i_lc ?_
  | ((with_reducible refine i_cat (xs := ?xs) (zs := ?zs) ?ha ?hb ?hz ?_); (case ha => walk_at "hp"); (case hb => walk_at "hp"); (case hz => walk_at "len"))
  | ((with_reducible refine i_tyL (xs := ?xs) ?ha ?_); (case ha => walk_at "hp"))
  | with_reducible refine i_list ?_
  | with_reducible refine i_disp ?_
  | with_reducible refine i_pairs0 ?_
  | with_reducible refine i_pairs ?_
  | with_reducible refine i_newK ?_
  | with_reducible refine i_gcons ?_
  | with_reducible refine i_gnil ?_
  | with_reducible refine i_revL ?_
  | with_reducible refine i_rng1 ?_
  | ((with_reducible refine i_wipe ?hw ?_); (case hw => exact rfl))
  | with_reducible refine iteNT ?_
  | with_reducible refine iteNF ?_)
local macro_rules | `(tactic| walk_at "sx") => `(tactic| first
  | walk_at "st"
  | with_reducible refine i_kinit ?_
  | with_reducible refine i_ost ?_
  | with_reducible refine i_mkO ?_
  | with_reducible refine i_callE ?_
  | with_reducible refine i_makeE ?_
  | with_reducible refine i_xf ?_
  | with_reducible refine i_sfld ?_
  | with_reducible refine i_fld ?_
  | ((with_reducible refine i_ixT (xs := ?xs) (v := ?vv) ?hS ?he ?_); (case hS => exact SqT.tup (by walk_at "hp")); (case he => exact rfl))
  | with_reducible refine i_intB ?_
  | with_reducible refine i_runS ?_
  | with_reducible refine i_runN ?_
  | ((with_reducible refine i_xf1 (fs := ?ff) (v := ?vv) ?hx ?hl ?_); (case hx => walk_at "hp"); (case hl => exact rfl))
  | with_reducible refine i_methE ?_
  | with_reducible refine i_meth ?_
  | with_reducible refine i_make ?_
  | ((with_reducible refine i_obj (dx := ?dd) (fs := ?ff) ?hx ?hl ?_); (case hx => walk_at "hp"); (case hl => exact rfl))
  | ((with_reducible refine i_fld1 (C := ?CC) (dx := ?dd) (fs := ?ff) (v := ?vv) ?hx ?cl ?na ?hl ?_); (case hx => walk_at "hp"); (case cl => assumption); (case na => assumption); (case hl => exact rfl)))
local macro_rules | `(tactic| walk_at "sy") => `(tactic| first
  | walk_at "sx"
  | with_reducible refine i_dget ?_
  | with_reducible refine i_dget2 ?_
  | with_reducible refine i_dput ?_
  | with_reducible refine i_din ?_
  | ((with_reducible refine i_aug (x := ?vv) ?hx ?_); (case hx => exact rfl)))
local macro_rules | `(tactic| walk_at "rd") => `(tactic| repeat (walk_at "sy"))

section
variable {P : Program} {w : World} {K : PySem.W.Frag} {mg : Str → Option Value} {base : Heap}
theorem str_inV {ns : List Str} {n : Str} : inV (.str n) (ns.map V.str) = decide (n ∈ ns) := by
  unfold inV
  rw [List.any_map]
  induction ns with
  | nil => rfl
  | cons y r ih =>
    rw [List.any_cons, ih]
    by_cases e : n = y
    · subst e
      simp [eqV]
    · have : eqV (V.str y) (V.str n) = false := by simp [eqV, Ne.symm e]
      simp [this, e]
theorem flat_strs (ns : List Str) : (ns.map V.str).all flatV = true := by rw [List.all_map]; simp [flatV]
theorem strs_get {ns : List Str} {i : Nat} {x : V} (hx : (ns.map V.str)[i]? = some x) : ∃ n, ns[i]? = some n ∧ x = .str n := by
  rw [List.getElem?_map] at hx
  cases hn : ns[i]? with
  | none => rw [hn] at hx; cases hx
  | some n => rw [hn] at hx; exact ⟨n, rfl, (Option.some.inj hx).symm⟩
def spUnlike (T : Top K mg) : Sp := fun vs H Q E => ∃ (a : Addr) (ns : List Str), vs = [.ref a] ∧ SqO H a (ns.map V.str) ∧ ns.length ≤ 1000 ∧
  match firstDbl ns with
  | none => ∀ H', Same H H' → Q .non H'
  | some n => ∀ d H', Same H H' → H' d = some (.xd [(Str.ofString "name", .str n)]) → E (.ref T.a_Doubled) (some d) H'
theorem ok_check_unlike (T : Top K mg) : FnG P w K mg base (L2.CX P w) 3 T.a_check_unlike T.d_check_unlike ["names"] (spUnlike T) := by
  have G_Doubled___init__ := ok_Doubled___init__ (P := P) (w := w) (base := base) T
  refine okGX T.F_check_unlike sc_check_unlike (fun vs H Q E h => ?_) (fun cdv A outer s H vs Q E hr hgd h => ?_)
  · obtain ⟨a, ns, rfl, _⟩ := h
    rfl
  · obtain ⟨a, ns, rfl, hS, hz, q⟩ := h
    refine ⟨_, (pss_cons (ps_set (i := 1) sc_check_unlike.nd rfl (by first | exact Or.inl rfl | exact Or.inr rfl) (pe_lst pa_nil))
      (pss_one (ps_for (passes_of rfl) rfl (pi_seq (pv 0)) (pg_name (i := 2) sc_check_unlike.nd rfl (by first | exact Or.inl rfl | exact Or.inr rfl))
        (pss_cons (ps_if (pt_cmpR op_in_seq (pv 2) (pv 1) (by rfl))
        (pss_one (ps_raise rfl (takes_of rfl rfl rfl rfl) (pmk_oex T.ox_Doubled T.in_Doubled T.tf_Doubled G_Doubled___init__ (hr.mono (by decide)) T.b_Doubled___init__ .nil pass0 (by rfl) T.c_Doubled (pa_cons (pv 2) pa_nil))))
        pss_nil)
      (pss_one (ps_expr (pe_bm PySem.F.plainAttrs_list PySem.F.slot_list_append PySem.F.type_list_append mt_append (pv 1) (pa_cons (pv 2) pa_nil)))))))), ?_⟩
    walk_at "rd"
    (intro p1 hp1; generalize ep1 : upd _ p1 _ = J1; have N1 := New.of ep1 hp1; clear ep1 hp1)
    walk_at "rd"
    refine i_iseq ?_
    walk_at "rd"
    have hS1 : SqS K J1 a (ns.map V.str) := (hS.same N1.same).sq
    have ap : a ≠ p1 := hS.ne N1.free
    refine for_seq hS1 (fun i σ H' => But p1 J1 H' ∧ H' p1 = some (.lst ((ns.take i).map V.str)) ∧ dblAt ns i = none ∧ ∃ z, σ = [some (.ref a), some (.ref p1), z])
      ⟨But.refl _ _, N1.at_, rfl, _, rfl⟩ (fun i σ' H' _ h => fun o e => h.1 _ _ ap e) ?_ ?_
    · rintro i x σ H' hx ⟨s, hp, hd, z, rfl⟩
      obtain ⟨n, hn, rfl⟩ := strs_get hx
      have lt := (List.getElem?_eq_some_iff.mp hn).1
      have s0 : Same H H' := But.to N1.same s N1.free
      walk_at "rd"
      refine ⟨p1, _, rfl, .inl (SqL.lst hp), rfl, flat_strs _, ?_⟩
      simp only [Bool.false_eq_true, if_false]
      rw [str_inV]
      walk_at "rd"
      refine ifs (fun h1 => ?_) (fun h1 => ?_)
      · walk_at "rd"
        rw [dbl_hit hd hn (of_decide_eq_true h1)] at q
        exact i_mkE T.ox_Doubled T.nf_Doubled_name (fun d hd => q d _ (s0.trans (Same.new _ hd)) upd_same)
      · walk_at "rd"
        refine ⟨p1, _, _, rfl, rfl, hp, ?_, ?_⟩
        · have := List.length_take_le i ns
          have := sz_of (n := ns.length + 1) (by omega)
          rw [List.length_map]; omega
        · refine ⟨fun b u nb hb => by rw [upd_ne nb]; exact s _ _ nb hb, ?_, dbl_miss hd hn (of_decide_eq_false h1), _, rfl⟩
          rw [upd_same, List.take_add_one, hn, List.map_append]; rfl
    · rintro σ H' ⟨s, hp, hd, z, rfl⟩
      rw [List.length_map] at hd
      rw [show firstDbl ns = none from hd] at q
      walk_at "rd"
      exact q _ (But.to N1.same s N1.free)
theorem mk_isC {m : Mk} (h : m.isC = true) : ∃ x c, m = .ch x c := by cases m <;> first | exact ⟨_, _, rfl⟩ | cases h
theorem mk_isB {m : Mk} (h : m.isB = true) : ∃ x d, m = .ves x d ∧ d.k = .b := by
  cases m with
  | ves x d =>
    refine ⟨x, d, rfl, ?_⟩
    unfold Mk.isB at h
    dsimp only at h
    cases hk : d.k <;> rw [hk] at h <;> first | rfl | cases h
  | _ => cases h
theorem mk_isS {m : Mk} (h : m.isS = true) : ∃ x d, m = .ves x d ∧ d.k = .s := by
  cases m with
  | ves x d =>
    refine ⟨x, d, rfl, ?_⟩
    unfold Mk.isS at h
    dsimp only at h
    cases hk : d.k <;> rw [hk] at h <;> first | rfl | cases h
  | _ => cases h
theorem mks_get {ms : List Mk} {i : Nat} {x : V} (hx : (ms.map Mk.v)[i]? = some x) : ∃ m, ms[i]? = some m ∧ m ∈ ms ∧ x = m.v := by
  rw [List.getElem?_map] at hx
  cases hn : ms[i]? with
  | none => rw [hn] at hx; cases hx
  | some m => rw [hn] at hx; exact ⟨m, rfl, List.mem_of_getElem? hn, (Option.some.inj hx).symm⟩
theorem flat_snoc {ms : List Mk} {i : Nat} {m : Mk} {f : Mk → List Str} (h : ms[i]? = some m) : (ms.take (i + 1)).flatMap f = (ms.take i).flatMap f ++ f m := by
  rw [List.take_add_one, h, List.flatMap_append]; simp
theorem flat_len {f : Mk → List Str} (hf : ∀ m, (f m).length ≤ 2) : ∀ ms : List Mk, (ms.flatMap f).length ≤ 2 * ms.length
  | [] => by simp
  | m :: r => by
    rw [List.flatMap_cons, List.length_append, List.length_cons]
    have := flat_len hf r
    have := hf m
    omega
theorem ends_le (m : Mk) : m.ends.length ≤ 2 := by cases m <;> simp [Mk.ends]
theorem prt_le (m : Mk) : m.prt.length ≤ 2 := by cases m <;> simp [Mk.prt]
theorem both_le (m : Mk) : m.both.length ≤ 2 := by cases m <;> simp [Mk.both]
theorem ch_fld (T : Top K mg) {H : Hp} {x : Addr} {c : Cd} (h : ChT T H x c) {f : Str} {v : V} {B : V → Prop} (na : NoAttr K T.a_Channel f) (hl : c.flds.lookup f = some v) (q : B v) : ∃ a C dx fs u, V.ref x = .ref a ∧ H a = some (.ins C dx fs) ∧ Cls K C ∧ NoAttr K C f ∧ fs.lookup f = some u ∧ B u := by
  obtain ⟨_, dx, e⟩ := h
  exact ⟨x, _, dx, _, v, rfl, e, T.cl_Channel, na, hl, q⟩
theorem f_goal (T : Top K mg) {H : Hp} {B : V → Prop} {x : Addr} {v : Vd} (h : VesT T H x v) (hk : v.k = .s) (q : B (.str v.g)) : ∃ a C dx fs u, V.ref x = .ref a ∧ H a = some (.ins C dx fs) ∧ Cls K C ∧ NoAttr K C "goal" ∧ fs.lookup (Str.ofString "goal") = some u ∧ B u := by
  obtain ⟨_, dx, e⟩ := h
  rw [hk] at e
  refine ⟨x, _, dx, _, _, rfl, e, T.cl_Ship, T.na_Ship_goal, ?_, q⟩
  unfold Vd.flds Vd.row
  rw [hk]; rfl
def spPorts (T : Top K mg) : Sp := fun vs H Q E => ∃ (pp pc pb ps : Addr) (pns : List Str) (mc mb ms : List Mk), vs = [.ref pp, .ref pc, .ref pb, .ref ps] ∧ SqO H pp (pns.map V.str) ∧ SqO H pc (mc.map Mk.v) ∧ SqO H pb (mb.map Mk.v) ∧ SqO H ps (ms.map Mk.v) ∧
  (∀ m ∈ mc, MkT T H m ∧ m.isC = true) ∧ (∀ m ∈ mb, MkT T H m ∧ m.isB = true) ∧ (∀ m ∈ ms, MkT T H m ∧ m.isS = true) ∧ mc.length ≤ 1000 ∧ mb.length ≤ 1000 ∧ ms.length ≤ 1000 ∧
  match (wantL (some mc) (some mb) (some ms)).find? (noPort pns) with
  | none => ∀ H', Same H H' → Q .non H'
  | some n => ∀ d H', Same H H' → H' d = some (.xd [(Str.ofString "found", .str n)]) → E (.ref T.a_NoPort) (some d) H'
theorem find_takeS {ns : List Str} {p : Str → Bool} {i : Nat} {n : Str} (h : (ns.take i).find? p = none) (hi : ns[i]? = some n) : (p n = true → ns.find? p = some n) ∧ (p n = false → (ns.take (i + 1)).find? p = none) := by
  have e : ns.take (i + 1) = ns.take i ++ [n] := by rw [List.take_add_one, hi]; rfl
  refine ⟨fun z => ?_, fun z => ?_⟩
  · have e2 : ns = ns.take i ++ n :: ns.drop (i + 1) := by
      have hl := (List.getElem?_eq_some_iff.mp hi)
      rw [← hl.2, ← List.drop_eq_getElem_cons hl.1, List.take_append_drop]
    rw [e2, List.find?_append, h, List.find?_cons, z]; rfl
  · rw [e, List.find?_append, h, List.find?_cons, z]; rfl
theorem ok_check_ports (T : Top K mg) : FnG P w K mg base (L2.CX P w) 3 T.a_check_ports T.d_check_ports ["ports", "channels", "breakers", "ships"] (spPorts T) := by
  have G_NoPort___init__ := ok_NoPort___init__ (P := P) (w := w) (base := base) T
  refine okGX T.F_check_ports sc_check_ports (fun vs H Q E h => ?_) (fun cdv A outer s H vs Q E hr hgd h => ?_)
  · obtain ⟨pp, pc, pb, ps, pns, mc, mb, ms, rfl, _⟩ := h
    rfl
  · obtain ⟨pp, pc, pb, ps, pns, mc, mb, ms, rfl, hP, hC, hB, hS, tC, tB, tS, lc, lb, ls, q⟩ := h
    refine ⟨_, (pss_cons (ps_set (i := 4) sc_check_ports.nd rfl (by first | exact Or.inl rfl | exact Or.inr rfl) (pe_lst pa_nil))
      (pss_cons (ps_for (passes_of rfl) rfl (pi_seq (pv 1)) (pg_name (i := 5) sc_check_ports.nd rfl (by first | exact Or.inl rfl | exact Or.inr rfl))
        (pss_one (ps_aug (i := 4) sc_check_ports.nd rfl (by first | exact Or.inl rfl | exact Or.inr rfl) (pe_lst (pa_cons (pe_fld (pv 5) rfl) (pa_cons (pe_fld (pv 5) rfl) pa_nil))) (show PIp _ _ rExt2 from iop_ext))))
      (pss_cons (ps_for (passes_of rfl) rfl (pi_seq (pv 2)) (pg_name (i := 6) sc_check_ports.nd rfl (by first | exact Or.inl rfl | exact Or.inr rfl))
        (pss_one (ps_expr (pe_bm PySem.F.plainAttrs_list PySem.F.slot_list_append PySem.F.type_list_append mt_append (pv 4) (pa_cons (pe_fld (pv 6) rfl) pa_nil)))))
      (pss_cons (ps_for (passes_of rfl) rfl (pi_seq (pv 3)) (pg_name (i := 7) sc_check_ports.nd rfl (by first | exact Or.inl rfl | exact Or.inr rfl))
        (pss_one (ps_aug (i := 4) sc_check_ports.nd rfl (by first | exact Or.inl rfl | exact Or.inr rfl) (pe_lst (pa_cons (pe_fld (pv 7) rfl) (pa_cons (pe_fld (pv 7) rfl) pa_nil))) (show PIp _ _ rExt2 from iop_ext))))
      (pss_one (ps_for (passes_of rfl) rfl (pi_list (pv 4)) (pg_name (i := 8) sc_check_ports.nd rfl (by first | exact Or.inl rfl | exact Or.inr rfl))
        (pss_one (ps_if (pt_cmpR op_notIn_seq (pv 8) (pv 0) (by rfl))
        (pss_one (ps_raise rfl (takes_of rfl rfl rfl rfl) (pmk_oex T.ox_NoPort T.in_NoPort T.tf_NoPort G_NoPort___init__ (hr.mono (by decide)) T.b_NoPort___init__ .nil pass0 (by rfl) T.c_NoPort (pa_cons (pv 8) pa_nil))))
        pss_nil)))))))), ?_⟩
    walk_at "rd"
    (intro p1 hp1; generalize ep1 : upd _ p1 _ = J1; have N1 := New.of ep1 hp1; clear ep1 hp1)
    walk_at "rd"
    refine i_iseq ?_
    walk_at "rd"
    have nc : pc ≠ p1 := hC.ne N1.free
    have nb : pb ≠ p1 := hB.ne N1.free
    have ns : ps ≠ p1 := hS.ne N1.free
    have np : pp ≠ p1 := hP.ne N1.free
    refine for_seq (hC.same N1.same).sq (fun i σ H' => But p1 J1 H' ∧ H' p1 = some (.lst (((mc.take i).flatMap Mk.ends).map V.str)) ∧ ∃ z1 z2 z3 z4, σ = [some (.ref pp), some (.ref pc), some (.ref pb), some (.ref ps), some (.ref p1), z1, z2, z3, z4])
      ⟨But.refl _ _, N1.at_, _, _, _, _, rfl⟩ (fun i σ' H' _ h => fun o e => h.1 _ _ nc e) ?_ ?_
    · rintro i x σ H' hx ⟨s, hp, z1, z2, z3, z4, rfl⟩
      obtain ⟨m, hm, hmem, rfl⟩ := mks_get hx
      obtain ⟨mt, mi⟩ := tC m hmem
      obtain ⟨x, c, rfl⟩ := mk_isC mi
      have lt := (List.getElem?_eq_some_iff.mp hm).1
      have s0 : Same H H' := But.to N1.same s N1.free
      have ct : ChT T H' x c := ChT.same mt s0
      walk_at "rd"
      refine ch_fld T ct T.na_Channel_one rfl ?_
      walk_at "rd"
      refine ch_fld T ct T.na_Channel_other rfl ?_
      walk_at "rd"
      (intro p2 hp2; generalize ep2 : upd _ p2 _ = J2; have N2 := New.of ep2 hp2; clear ep2 hp2)
      have fl := flat_len ends_le (mc.take i)
      have tl := List.length_take_le i mc
      have z1' := sz_of (n := 2 * mc.length + 2) (by omega)
      refine i_ext2 (N2.app hp) N2.at_ (by rw [List.length_map]; show _ + 2 ≤ _; omega) ?_
      refine ⟨fun b u nb hb => by rw [upd_ne nb]; exact N2.app (s _ _ nb hb), ?_, _, _, _, _, rfl⟩
      rw [upd_same, flat_snoc hm, List.map_append]; rfl
    · rintro σ H0 ⟨s, hp, z1, z2, z3, z4, rfl⟩
      rw [List.length_map, List.take_length] at hp
      walk_at "rd"
      refine i_iseq ?_
      walk_at "rd"
      have s00 : Same H H0 := But.to N1.same s N1.free
      refine for_seq (hB.same s00).sq (fun i σ H' => But p1 J1 H' ∧ H' p1 = some (.lst ((mc.flatMap Mk.ends ++ (mb.take i).flatMap Mk.prt).map V.str)) ∧ Kep H0 H' pb ∧ ∃ z1 z2 z3 z4, σ = [some (.ref pp), some (.ref pc), some (.ref pb), some (.ref ps), some (.ref p1), z1, z2, z3, z4])
        ⟨s, by rw [hp]; simp, fun o e => e, _, _, _, _, rfl⟩ (fun i σ' H' _ h => h.2.2.1) ?_ ?_
      · rintro i x σ H' hx ⟨s, hp, kk, z1, z2, z3, z4, rfl⟩
        obtain ⟨m, hm, hmem, rfl⟩ := mks_get hx
        obtain ⟨mt, mi⟩ := tB m hmem
        obtain ⟨x, d, rfl, _⟩ := mk_isB mi
        have lt := (List.getElem?_eq_some_iff.mp hm).1
        have s0 : Same H H' := But.to N1.same s N1.free
        have ct : VesT T H' x d := VesA.same mt s0
        walk_at "rd"
        refine f_port T ct ?_
        walk_at "rd"
        have fl := flat_len ends_le mc
        have fl2 := flat_len prt_le (mb.take i)
        have tl := List.length_take_le i mb
        have z1' := sz_of (n := 2 * mc.length + 2 * mb.length + 2) (by omega)
        refine ⟨p1, _, _, rfl, rfl, hp, by rw [List.length_map, List.length_append]; omega, ?_⟩
        refine ⟨fun b u nb hb => by rw [upd_ne nb]; exact s _ _ nb hb, ?_, fun o e => by rw [upd_ne nb]; exact kk o e, _, _, _, _, rfl⟩
        rw [upd_same, flat_snoc hm, ← List.append_assoc, List.map_append (l₂ := Mk.prt _)]; rfl
      · rintro σ H0 ⟨s, hp, _, z1, z2, z3, z4, rfl⟩
        rw [List.length_map, List.take_length] at hp
        walk_at "rd"
        refine i_iseq ?_
        walk_at "rd"
        have s00 : Same H H0 := But.to N1.same s N1.free
        refine for_seq (hS.same s00).sq (fun i σ H' => But p1 J1 H' ∧ H' p1 = some (.lst ((mc.flatMap Mk.ends ++ mb.flatMap Mk.prt ++ (ms.take i).flatMap Mk.both).map V.str)) ∧ Kep H0 H' ps ∧ ∃ z1 z2 z3 z4, σ = [some (.ref pp), some (.ref pc), some (.ref pb), some (.ref ps), some (.ref p1), z1, z2, z3, z4])
          ⟨s, by rw [hp]; simp, fun o e => e, _, _, _, _, rfl⟩ (fun i σ' H' _ h => h.2.2.1) ?_ ?_
        · rintro i x σ H' hx ⟨s, hp, kk, z1, z2, z3, z4, rfl⟩
          obtain ⟨m, hm, hmem, rfl⟩ := mks_get hx
          obtain ⟨mt, mi⟩ := tS m hmem
          obtain ⟨x, d, rfl, dk⟩ := mk_isS mi
          have lt := (List.getElem?_eq_some_iff.mp hm).1
          have s0 : Same H H' := But.to N1.same s N1.free
          have ct : VesT T H' x d := VesA.same mt s0
          walk_at "rd"
          refine f_port T ct ?_
          walk_at "rd"
          refine f_goal T ct dk ?_
          walk_at "rd"
          (intro p2 hp2; generalize ep2 : upd _ p2 _ = J2; have N2 := New.of ep2 hp2; clear ep2 hp2)
          have fl := flat_len ends_le mc
          have fl2 := flat_len prt_le mb
          have fl3 := flat_len both_le (ms.take i)
          have tl := List.length_take_le i ms
          have z1' := sz_of (n := 2 * mc.length + 2 * mb.length + 2 * ms.length + 2) (by omega)
          refine i_ext2 (N2.app hp) N2.at_ (by rw [List.length_map, List.length_append, List.length_append]; show _ + 2 ≤ _; omega) ?_
          refine ⟨fun b u nb hb => by rw [upd_ne nb]; exact N2.app (s _ _ nb hb), ?_, fun o e => by rw [upd_ne ns]; exact N2.app (kk o e), _, _, _, _, rfl⟩
          rw [upd_same, flat_snoc hm, ← List.append_assoc, List.map_append (l₂ := Mk.both _)]; rfl
        · rintro σ H0 ⟨s, hp, _, z1, z2, z3, z4, rfl⟩
          rw [List.length_map, List.take_length] at hp
          have hw : mc.flatMap Mk.ends ++ mb.flatMap Mk.prt ++ ms.flatMap Mk.both = wantL (some mc) (some mb) (some ms) := rfl
          rw [hw] at hp
          have s00 : Same H H0 := But.to N1.same s N1.free
          walk_at "rd"
          refine ⟨p1, rfl, ⟨_, SqL.lst hp⟩, ?_⟩
          generalize wantL (some mc) (some mb) (some ms) = wl at hp q
          refine for_list (K := K) (a := p1) (xs := wl.map V.str) (fun i σ H' => H' = H0 ∧ (wl.take i).find? (noPort pns) = none ∧ ∃ z1 z2 z3 z4, σ = [some (.ref pp), some (.ref pc), some (.ref pb), some (.ref ps), some (.ref p1), z1, z2, z3, z4])
            ⟨rfl, rfl, _, _, _, _, rfl⟩ (fun i σ H' _ h => by rw [h.1]; exact SqL.lst hp) ?_ ?_
          · rintro i x σ H' hx ⟨rfl, hf, z1, z2, z3, z4, rfl⟩
            obtain ⟨n, hn, rfl⟩ := strs_get hx
            obtain ⟨f1, f2⟩ := find_takeS hf hn
            walk_at "rd"
            refine ⟨pp, _, rfl, (hP.same s00).sq, rfl, flat_strs _, ?_⟩
            rw [if_pos rfl, str_inV]
            walk_at "rd"
            refine ifs (fun h1 => ?_) (fun h1 => ?_)
            · walk_at "rd"
              rw [f1 h1] at q
              exact i_mkE T.ox_NoPort T.nf_NoPort_found (fun d hd => q d _ (s00.trans (Same.new _ hd)) upd_same)
            · exact ⟨rfl, f2 h1, _, _, _, _, rfl⟩
          · rintro σ H' ⟨rfl, hf, z1, z2, z3, z4, rfl⟩
            rw [List.length_map, List.take_length] at hf
            rw [hf] at q
            walk_at "rd"
            exact q _ s00
end

end Ice

set_option Elab.async false
set_option linter.all false
set_option maxRecDepth 100000
set_option maxHeartbeats 4000000
set_option autoImplicit true
namespace Ice
open PySem PySem.Spec PyProof.Rows L2 TL
/-! side conditions, heaps, one step of a reading, and many -/
local macro_rules | `(tactic| walk_at "hp") => `(tactic| first | assumption | exact upd_same | exact New.at_ (by assumption) | (refine keepU ?_ (by assumption); walk_at "hp") | (refine New.app (by assumption) ?_; walk_at "hp") | (refine Same.app (by assumption) ?_; walk_at "hp") | (refine But.app (by assumption) (by assumption) ?_; walk_at "hp"))
local macro_rules | `(tactic| walk_at "sq") => `(tactic| first | assumption | exact SqL.lst (by walk_at "hp") | exact L2.Same.seq (New.same (by assumption)) (by assumption) | exact L2.Same.seq (by assumption) (by assumption))
local macro_rules | `(tactic| walk_at "len") => `(tactic| first | assumption | (simp only [List.length_cons, List.length_nil, List.length_append, List.length_map]; decide) | (refine Ice.sz_of ?_; simp only [List.length_cons, List.length_nil, List.length_append, List.length_map]; omega))
local macro_rules | `(tactic| walk_at "fresh") => `(tactic| (simp only [List.map_append, List.map_cons, List.map_nil, List.nil_append, List.cons_append]; decide +kernel))
local macro_rules | `(tactic| walk_at "sd") => `(tactic| first | assumption | (show _ ≠ _; omega) | exact Or.inl ⟨by omega, by omega⟩ | exact Or.inr ⟨by omega, by omega⟩ | exact ⟨by decide, by decide⟩ | exact ⟨by decide, by decide, by decide⟩ | exact ⟨by omega, by omega, by omega⟩)
/-! one step of a reading, and many -/
local macro_rules | `(tactic| walk_at "st") => `(tactic| first
  | with_reducible refine i_seq ?_
  | with_reducible refine i_if ?_
  | with_reducible refine i_next ?_
  | with_reducible refine i_ret ?_
  | with_reducible refine i_retN ?_
  | with_reducible refine i_drop ?_
  | with_reducible refine i_asg ?_
  | with_reducible refine i_gname ?_
  | with_reducible refine i_gsub ?_
  | ((with_reducible refine i_var (v := ?vv) ?hv ?_); (case hv => exact rfl))
  | with_reducible refine i_c ?_
  | with_reducible refine i_op ?_
  | with_reducible refine i_un ?_
  | with_reducible refine i_test ?_
  | with_reducible refine i_tB ?_
  | with_reducible refine i_and ?_
  | with_reducible refine i_or ?_
  | with_reducible refine i_not ?_
  | with_reducible refine i_andV ?_
  | with_reducible refine i_orV ?_
  | with_reducible refine i_notV ?_
  | with_reducible refine i_ifE ?_
  | with_reducible refine i_chain ?_
  | with_reducible refine i_bl ?_
  | with_reducible refine i_nil ?_
  | with_reducible refine i_cons ?_
  | with_reducible refine i_call ?_
  | with_reducible refine i_cb ?_
  | with_reducible refine i_rI0 ?_
  | with_reducible refine i_rU ?_
  | ((with_reducible refine i_rEq ?hs ?_); (case hs => exact rfl))
  | ((with_reducible refine i_rNe ?hs ?_); (case hs => exact rfl))
  | ((with_reducible refine i_rI ?hc ?_); (case hc => walk_at "sd"))
  | ((with_reducible refine i_ixL (xs := ?xs) (v := ?vv) ?hS ?he ?_); (case hS => walk_at "sq"); (case he => exact rfl))
  | ((with_reducible refine i_setL (xs := ?xs) (j := ?jj) ?hS ?he ?_); (case hS => walk_at "hp"); (case he => exact rfl))
  | with_reducible refine i_tup ?_
  | with_reducible refine i_lst ?_
  | with_reducible refine i_bm ?_
  | with_reducible refine i_bm0 ?_
  | with_reducible refine i_m1 ?_
  | with_reducible refine i_sl ?_
  | with_reducible refine i_nopart ?_
  | with_reducible refine i_part ?_
  | with_reducible refine i_int ?_
  | with_reducible refine i_str ?_
  | with_reducible refine i_for ?_
  | with_reducible refine i_yes ?_
  | ((with_reducible refine i_lenL (xs := ?xs) ?hS ?_); (case hS => walk_at "sq"))
  | ((with_reducible refine i_room ?hz ?_); (case hz => walk_at "len"))
  | with_reducible refine i_leT ?_
  | with_reducible refine i_notInS ?_
  | with_reducible refine i_inS ?_
  | with_reducible refine i_find ?_
  | with_reducible refine i_isB ?_
  | with_reducible refine i_max2 ?_
  | with_reducible refine i_min2 ?_
  | with_reducible exact trivial
  | with_reducible refine iteT ?_
  | with_reducible refine iteF ?_
  | with_reducible refine i_isstr ?_
  | with_reducible refine i_lc ?_
  | ((with_reducible refine i_cat (xs := ?xs) (zs := ?zs) ?ha ?hb ?hz ?_); (case ha => walk_at "hp"); (case hb => walk_at "hp"); (case hz => walk_at "len"))
  | ((with_reducible refine i_tyL (xs := ?xs) ?ha ?_); (case ha => walk_at "hp"))
  | with_reducible refine i_list ?_
  | with_reducible refine i_disp ?_
  | with_reducible refine i_pairs0 ?_
  | with_reducible refine i_pairs ?_
  | with_reducible refine i_newK ?_
  | with_reducible refine i_gcons ?_
  | with_reducible refine i_gnil ?_
  | with_reducible refine i_revL ?_
  | with_reducible refine i_rng1 ?_
  | ((with_reducible refine i_wipe ?hw ?_); (case hw => exact rfl))
  | with_reducible refine iteNT ?_
  | with_reducible refine iteNF ?_)
local macro_rules | `(tactic| walk_at "sx") => `(tactic| first
  | walk_at "st"
  | with_reducible refine i_kinit ?_
  | with_reducible refine i_ost ?_
  | with_reducible refine i_mkO ?_
  | with_reducible refine i_callE ?_
  | with_reducible refine i_makeE ?_
  | with_reducible refine i_xf ?_
  | with_reducible refine i_sfld ?_
  | with_reducible refine i_fld ?_
  | ((with_reducible refine i_ixT (xs := ?xs) (v := ?vv) ?hS ?he ?_); (case hS => exact SqT.tup (by walk_at "hp")); (case he => exact rfl))
  | with_reducible refine i_intB ?_
  | with_reducible refine i_runS ?_
  | with_reducible refine i_runN ?_
  | ((with_reducible refine i_xf1 (fs := ?ff) (v := ?vv) ?hx ?hl ?_); (case hx => walk_at "hp"); (case hl => exact rfl))
  | with_reducible refine i_methE ?_
  | with_reducible refine i_meth ?_
  | with_reducible refine i_make ?_
  | ((with_reducible refine i_obj (dx := ?dd) (fs := ?ff) ?hx ?hl ?_); (case hx => walk_at "hp"); (case hl => exact rfl))
  | ((with_reducible refine i_fld1 (C := ?CC) (dx := ?dd) (fs := ?ff) (v := ?vv) ?hx ?cl ?na ?hl ?_); (case hx => walk_at "hp"); (case cl => assumption); (case na => assumption); (case hl => exact rfl)))
local macro_rules | `(tactic| walk_at "sy") => `(tactic| first
  | walk_at "sx"
  | with_reducible refine i_dget ?_
  | with_reducible refine i_dget2 ?_
  | with_reducible refine i_dput ?_
  | with_reducible refine i_din ?_
  | ((with_reducible refine i_aug (x := ?vv) ?hx ?_); (case hx => exact rfl)))
local macro_rules | `(tactic| walk_at "rd") => `(tactic| repeat (walk_at "sy"))

section
variable {P : Program} {w : World} {K : PySem.W.Frag} {mg : Str → Option Value} {base : Heap}
theorem seqOk_some {many : Nat} {p : Mk → Bool} {o : OMk} (h : seqOk many p o = true) : ∃ ms, o = some ms ∧ ms.length ≤ many ∧ ∀ m ∈ ms, p m = true := by
  cases o with
  | none => cases h
  | some ms =>
    have h : (decide (ms.length ≤ many) && ms.all p) = true := h
    rw [Bool.and_eq_true, decide_eq_true_eq, List.all_eq_true] at h
    exact ⟨ms, rfl, h.1, h.2⟩
structure KindsOk (op oc ob os : OMk) (mp mc mb ms : List Mk) : Prop where
  ep : op = some mp
  ec : oc = some mc
  eb : ob = some mb
  es : os = some ms
  lp : mp.length ≤ 8
  l0 : mp.length ≠ 0
  lc : mc.length ≤ 12
  lb : mb.length ≤ 4
  ls : ms.length ≤ 6
  ip : ∀ m ∈ mp, m.isN = true
  ic : ∀ m ∈ mc, m.isC = true
  ib : ∀ m ∈ mb, m.isB = true
  is' : ∀ m ∈ ms, m.isS = true
theorem kindsW_none {op oc ob os : OMk} (h : kindsW op oc ob os = none) : ∃ mp mc mb ms, KindsOk op oc ob os mp mc mb ms := by
  unfold kindsW at h
  split at h
  · cases h
  · split at h
    · cases h
    · split at h
      · cases h
      · split at h
        · cases h
        · rename_i h1 h2 h3 h4
          obtain ⟨mc, ec, lc, ic⟩ := seqOk_some (by simpa using h2)
          obtain ⟨mb, eb, lb, ib⟩ := seqOk_some (by simpa using h3)
          obtain ⟨ms, es, ls, is'⟩ := seqOk_some (by simpa using h4)
          cases op with
          | none => exact absurd rfl h1
          | some mp =>
            have h1 : (decide (mp.length ≤ 8) && (!decide (mp.length = 0) && mp.all Mk.isN)) = true := by
              have : ¬ portsOk (some mp) = false := h1
              simpa [portsOk] using this
            rw [Bool.and_eq_true, Bool.and_eq_true, decide_eq_true_eq, List.all_eq_true] at h1
            exact ⟨mp, mc, mb, ms, rfl, ec, eb, es, h1.1, by simpa using h1.2.1, lc, lb, ls, h1.2.2, ic, ib, is'⟩
theorem isN_nm {m : Mk} (h : m.isN = true) : m.v = .str m.nm := by
  cases m with
  | data v => cases v <;> first | rfl | cases h
  | _ => cases h
theorem isN_map {ms : List Mk} (h : ∀ m ∈ ms, m.isN = true) : ms.map Mk.v = (ms.map Mk.nm).map V.str := by
  rw [List.map_map]
  exact List.map_congr_left fun m hm => isN_nm (h m hm)
def fldW (b : Int) (ap ac ab as_ ad av : Addr) : List (Str × V) := [(Str.ofString "_begin", .int b), (Str.ofString "_ports", .ref ap), (Str.ofString "_channels", .ref ac), (Str.ofString "_breakers", .ref ab), (Str.ofString "_ships", .ref as_), (Str.ofString "_channel_of", .ref ad), (Str.ofString "_vessel_of", .ref av)]
def nmD (ms : List Mk) : List (Key × V) := ms.map fun m => (Sum.inr m.nm, m.v)
/-- the world at x -/
structure WorldF (T : Top K mg) (H : Hp) (x dx ap ac ab as_ ad av : Addr) (b : Int) (mp mc mb ms : List Mk) : Prop where
  hx : H x = some (.ins T.a_World dx (fldW b ap ac ab as_ ad av))
  hp : H ap = some (.tup (mp.map Mk.v))
  hc : H ac = some (.tup (mc.map Mk.v))
  hb : H ab = some (.tup (mb.map Mk.v))
  hs : H as_ = some (.tup (ms.map Mk.v))
  hd : H ad = some (.dK (nmD mc))
  hv : H av = some (.dK (nmD (mb ++ ms)))
def WorldT (T : Top K mg) (H : Hp) (x : Addr) (b : Int) (mp mc mb ms : List Mk) : Prop := ∃ dx ap ac ab as_ ad av, WorldF T H x dx ap ac ab as_ ad av b mp mc mb ms
theorem WorldF.same {T : Top K mg} {H H' : Hp} {x dx ap ac ab as_ ad av : Addr} {b : Int} {mp mc mb ms : List Mk} (a : WorldF T H x dx ap ac ab as_ ad av b mp mc mb ms) (e : Same H H') : WorldF T H' x dx ap ac ab as_ ad av b mp mc mb ms :=
  ⟨e _ _ a.hx, e _ _ a.hp, e _ _ a.hc, e _ _ a.hb, e _ _ a.hs, e _ _ a.hd, e _ _ a.hv⟩
theorem WorldT.same {T : Top K mg} {H H' : Hp} {x : Addr} {b : Int} {mp mc mb ms : List Mk} (a : WorldT T H x b mp mc mb ms) (e : Same H H') : WorldT T H' x b mp mc mb ms := by
  obtain ⟨dx, ap, ac, ab, as_, ad, av, f⟩ := a
  exact ⟨dx, ap, ac, ab, as_, ad, av, f.same e⟩
/-- what is wanted of a world's making -/
def WantsW (T : Top K mg) (x : Addr) (vb : V) (op oc ob os : OMk) (H : Hp) (Q : VK) (E : XK) : Prop := match dueW vb op oc ob os with
  | .number => ∀ d H', Same H H' → H' d = some (.xd [(Str.ofString "found", vb)]) → E (.ref T.a_NoNumber) (some d) H'
  | .world w => ∀ d H', Same H H' → H' d = some (.xd [(Str.ofString "found", .str w)]) → E (.ref T.a_NoWorld) (some d) H'
  | .doubled n => ∀ d H', Same H H' → H' d = some (.xd [(Str.ofString "name", .str n)]) → E (.ref T.a_Doubled) (some d) H'
  | .port n => ∀ d H', Same H H' → H' d = some (.xd [(Str.ofString "found", .str n)]) → E (.ref T.a_NoPort) (some d) H'
  | .made => ∀ b H', vb = .int b → But x H H' → WorldT T H' x b (msO op) (msO oc) (msO ob) (msO os) → Q .non H'
def spInitW (T : Top K mg) : Sp := fun vs H Q E => ∃ (x dx : Addr) (vb p c b s : V) (op oc ob os : OMk), vs = [.ref x, vb, p, c, b, s] ∧ H x = some (.ins T.a_World dx []) ∧ Th H vb ∧ ArgT T H p op ∧ ArgT T H c oc ∧ ArgT T H b ob ∧ ArgT T H s os ∧ (∀ o ∈ [op, oc, ob, os], ∀ ms, o = some ms → ms.length ≤ 30000) ∧
  WantsW T x vb op oc ob os H Q E
theorem ArgT.sqO {T : Top K mg} {H : Hp} {v : V} {ms : List Mk} (a : ArgT T H v (some ms)) : ∃ p, v = .ref p ∧ SqO H p (ms.map Mk.v) ∧ ∀ m ∈ ms, MkT T H m := by
  cases a with
  | lst h m => exact ⟨_, rfl, .inl h, m⟩
  | tup h m => exact ⟨_, rfl, .inr h, m⟩
theorem nm_fld (T : Top K mg) {H : Hp} {B : V → Prop} {m : Mk} (a : MkT T H m) (h : m.isC = true ∨ m.isB = true ∨ m.isS = true) (q : B (.str m.nm)) : ∃ a C dx fs u, m.v = .ref a ∧ H a = some (.ins C dx fs) ∧ Cls K C ∧ NoAttr K C "name" ∧ fs.lookup (Str.ofString "name") = some u ∧ B u := by
  rcases h with h | h | h
  · obtain ⟨x, c, rfl⟩ := mk_isC h
    exact ch_fld T a T.na_Channel_name rfl q
  · obtain ⟨x, d, rfl, _⟩ := mk_isB h
    exact f_name T a q
  · obtain ⟨x, d, rfl, _⟩ := mk_isS h
    exact f_name T a q
theorem nm_gath (ms : List Mk) : gath (ms.map fun m => some (V.str m.nm)) = (ms.map Mk.nm).map V.str := by
  rw [show (ms.map fun m => some (V.str m.nm)) = (((ms.map Mk.nm).map V.str).map some) by simp, gath_some]
set_option maxHeartbeats 8000000 in
theorem ok_World___init__ (T : Top K mg) : FnG P w K mg base (L2.CX P w) 4 T.a_World___init__ T.d_World___init__ ["self", "begin", "ports", "channels", "breakers", "ships"] (spInitW T) := by
  have G_check_number := ok_check_number (P := P) (w := w) (base := base) T
  have G_check_kinds := ok_check_kinds (P := P) (w := w) (base := base) T
  have G_check_unlike := ok_check_unlike (P := P) (w := w) (base := base) T
  have G_check_ports := ok_check_ports (P := P) (w := w) (base := base) T
  refine okGX T.F_World___init__ sc_World___init__ (fun vs H Q E h => ?_) (fun cdv A outer s H vs Q E hr hgd h => ?_)
  · obtain ⟨x, dx, vb, p, c, b, s, op, oc, ob, os, rfl, _⟩ := h
    rfl
  · obtain ⟨x, dx, vb, p, c, b, s', op, oc, ob, os, rfl, hx, thb, ap, ac, ab, as', hz, q⟩ := h
    unfold WantsW dueW at q
    refine ⟨_, (pss_cons (ps_expr (g_callE (E := WE _) G_check_number (hr.mono (by decide)) hgd (by rfl) T.m_check_number T.F_check_number.kp T.b_check_number .nil (passAt (takes_of rfl rfl rfl rfl)) (pa_cons (pv 1) (pa_cons pe_int (pa_cons (pe_glob (v := .int 1000000) (by rfl) T.c_BEGIN_MOST ⟨_, rfl⟩) pa_nil)))))
      (pss_cons (ps_expr (g_callE (E := WE _) G_check_kinds (hr.mono (by decide)) hgd (by rfl) T.m_check_kinds T.F_check_kinds.kp T.b_check_kinds .nil (passAt (takes_of rfl rfl rfl rfl)) (pa_cons (pv 2) (pa_cons (pv 3) (pa_cons (pv 4) (pa_cons (pv 5) pa_nil))))))
      (pss_cons (ps_set (i := 6) sc_World___init__.nd rfl (by first | exact Or.inl rfl | exact Or.inr rfl) (pe_op op_cat (pe_callTy call_list_of (by rfl) T.n_list (by decide +kernel) (pa_cons (pv 4) pa_nil)) (pe_callTy call_list_of (by rfl) T.n_list (by decide +kernel) (pa_cons (pv 5) pa_nil))))
      (pss_cons (ps_expr (g_callE (E := WE _) G_check_unlike (hr.mono (by decide)) hgd (by rfl) T.m_check_unlike T.F_check_unlike.kp T.b_check_unlike .nil (passAt (takes_of rfl rfl rfl rfl)) (pa_cons (pv 2) pa_nil)))
      (pss_cons (ps_expr (g_callE (E := WE _) G_check_unlike (hr.mono (by decide)) hgd (by rfl) T.m_check_unlike T.F_check_unlike.kp T.b_check_unlike .nil (passAt (takes_of rfl rfl rfl rfl)) (pa_cons (pe_lc (own := [("each", 7)]) (g := gName 7) rfl sc_World___init__.nd (pi_seq (pv 3)) (blkOk_by (own := [("each", 7)]) (N := ["self", "begin", "ports", "channels", "breakers", "ships", "vessels", "each"]) (sc := defScope s_World___init__) (by decide +kernel)) (fun _ _ _ _ _ => (pg_name (i := 7) sc_World___init__.nd rfl (by first | exact Or.inl rfl | exact Or.inr rfl))) (fun _ _ _ _ _ => pts_nil) (fun _ _ _ _ _ => (pe_fldB (pv 7) rfl))) pa_nil)))
      (pss_cons (ps_expr (g_callE (E := WE _) G_check_unlike (hr.mono (by decide)) hgd (by rfl) T.m_check_unlike T.F_check_unlike.kp T.b_check_unlike .nil (passAt (takes_of rfl rfl rfl rfl)) (pa_cons (pe_lc (own := [("each", 7)]) (g := gName 7) rfl sc_World___init__.nd (pi_list (pv 6)) (blkOk_by (own := [("each", 7)]) (N := ["self", "begin", "ports", "channels", "breakers", "ships", "vessels", "each"]) (sc := defScope s_World___init__) (by decide +kernel)) (fun _ _ _ _ _ => (pg_name (i := 7) sc_World___init__.nd rfl (by first | exact Or.inl rfl | exact Or.inr rfl))) (fun _ _ _ _ _ => pts_nil) (fun _ _ _ _ _ => (pe_fldB (pv 7) rfl))) pa_nil)))
      (pss_cons (ps_expr (g_callE (E := WE _) G_check_ports (hr.mono (by decide)) hgd (by rfl) T.m_check_ports T.F_check_ports.kp T.b_check_ports .nil (passAt (takes_of rfl rfl rfl rfl)) (pa_cons (pv 2) (pa_cons (pv 3) (pa_cons (pv 4) (pa_cons (pv 5) pa_nil))))))
      (pss_cons (ps_fld (pv 0) (pv 1) rfl)
      (pss_cons (ps_fld (pv 0) (pe_callTy c_tupleOf (by rfl) T.n_tuple (by decide +kernel) (pa_cons (pv 2) pa_nil)) rfl)
      (pss_cons (ps_fld (pv 0) (pe_callTy c_tupleOf (by rfl) T.n_tuple (by decide +kernel) (pa_cons (pv 3) pa_nil)) rfl)
      (pss_cons (ps_fld (pv 0) (pe_callTy c_tupleOf (by rfl) T.n_tuple (by decide +kernel) (pa_cons (pv 4) pa_nil)) rfl)
      (pss_cons (ps_fld (pv 0) (pe_callTy c_tupleOf (by rfl) T.n_tuple (by decide +kernel) (pa_cons (pv 5) pa_nil)) rfl)
      (pss_cons (ps_fld (pv 0) (pe_dc (own := [("each", 7)]) (g := gName 7) rfl sc_World___init__.nd (pi_seq (pv 3)) (blkOk_by (own := [("each", 7)]) (N := ["self", "begin", "ports", "channels", "breakers", "ships", "vessels", "each"]) (sc := defScope s_World___init__) (by decide +kernel)) (fun _ _ _ _ _ => (pg_name (i := 7) sc_World___init__.nd rfl (by first | exact Or.inl rfl | exact Or.inr rfl))) (fun _ _ _ _ _ => pts_nil) (fun _ _ _ _ _ => (pe_fldB (pv 7) rfl)) (fun _ _ _ _ _ => (pv 7))) rfl)
      (pss_one (ps_fld (pv 0) (pe_dc (own := [("each", 7)]) (g := gName 7) rfl sc_World___init__.nd (pi_list (pv 6)) (blkOk_by (own := [("each", 7)]) (N := ["self", "begin", "ports", "channels", "breakers", "ships", "vessels", "each"]) (sc := defScope s_World___init__) (by decide +kernel)) (fun _ _ _ _ _ => (pg_name (i := 7) sc_World___init__.nd rfl (by first | exact Or.inl rfl | exact Or.inr rfl))) (fun _ _ _ _ _ => pts_nil) (fun _ _ _ _ _ => (pe_fldB (pv 7) rfl)) (fun _ _ _ _ _ => (pv 7))) rfl))))))))))))))), ?_⟩
    walk_at "rd"
    refine ⟨vb, 0, 1000000, rfl, thb, fun b1 => ?_, fun b1 d hd => ?_⟩
    · rw [if_neg (by rw [b1]; decide)] at q
      walk_at "rd"
      refine ⟨p, c, b, s', op, oc, ob, os, rfl, ap, ac, ab, as', hz, ?_⟩
      cases hk : kindsW op oc ob os with
      | some w =>
        rw [hk] at q
        exact q
      | none =>
        rw [hk] at q
        obtain ⟨mp, mc, mb, ms, ko⟩ := kindsW_none hk
        obtain ⟨rfl, rfl, rfl, rfl, lp, l0, lc, lb, ls, ip, ic, ib, is'⟩ := ko
        obtain ⟨pp, rfl, hP, tP⟩ := ap.sqO
        obtain ⟨pc, rfl, hC, tC⟩ := ac.sqO
        obtain ⟨pb, rfl, hB, tB⟩ := ab.sqO
        obtain ⟨ps, rfl, hS, tS⟩ := as'.sqO
        intro H1 s1
        walk_at "rd"
        refine ⟨pb, _, rfl, (hB.same s1).sq, ?_⟩
        (intro p2 hp2; generalize ep2 : upd _ p2 _ = J2; have N2 := New.of ep2 hp2; clear ep2 hp2)
        walk_at "rd"
        have s2 := s1.trans N2.same
        refine ⟨ps, _, rfl, (hS.same s2).sq, ?_⟩
        (intro p3 hp3; generalize ep3 : upd _ p3 _ = J3; have N3 := New.of ep3 hp3; clear ep3 hp3)
        walk_at "rd"
        have s3 := s2.trans N3.same
        have z1 := sz_of (n := mb.length + ms.length + 20) (by omega)
        (intro p4 hp4; generalize ep4 : upd _ p4 _ = J4; have N4 := New.of ep4 hp4; clear ep4 hp4)
        have s4 := s3.trans N4.same
        rw [← List.map_append] at N4
        have hV : SqO J4 p4 ((mb ++ ms).map Mk.v) := .inl N4.at_
        have tV : ∀ m ∈ mb ++ ms, MkT T H m ∧ (m.isC = true ∨ m.isB = true ∨ m.isS = true) := fun m hm => by
          rcases List.mem_append.mp hm with h | h
          · exact ⟨tB m h, .inr (.inl (ib m h))⟩
          · exact ⟨tS m h, .inr (.inr (is' m h))⟩
        walk_at "rd"
        refine ⟨pp, mp.map Mk.nm, rfl, ?_, by rw [List.length_map]; omega, ?_⟩
        · rw [← isN_map ip]; exact hP.same s4
        have eP : nmsO (some mp) = mp.map Mk.nm := rfl
        rw [eP] at q
        cases hd1 : firstDbl (mp.map Mk.nm) with
        | some n =>
          rw [hd1] at q
          exact fun d H' s h => q d H' (s4.trans s) h
        | none =>
        rw [hd1] at q
        intro H5 s5
        have s05 := s4.trans s5
        walk_at "rd"
        refine i_iseq ?_
        walk_at "rd"
        refine lc_gather (hC.same s05).sq (mc.map fun m => some (V.str m.nm)) (by simp) (by rw [List.length_map]; omega) ?_ ?_
        · intro i x o H' NY NN hx ho s hy hn
          obtain ⟨m, hm, _, rfl, rfl⟩ := mk_get hx ho
          walk_at "rd"
          refine nm_fld T ((tC m hm).same (s05.trans s)) (.inl (ic m hm)) ?_
          exact hy _ _ rfl (Same.refl _)
        intro D6 H6 hD6 s6 k6
        rw [nm_gath] at k6
        have s06 := s05.trans s6
        walk_at "rd"
        refine ⟨D6, mc.map Mk.nm, rfl, .inl k6, by rw [List.length_map]; omega, ?_⟩
        have eC : nmsO (some mc) = mc.map Mk.nm := rfl
        rw [eC] at q
        cases hd2 : firstDbl (mc.map Mk.nm) with
        | some n =>
          rw [hd2] at q
          exact fun d H' s h => q d H' (s06.trans s) h
        | none =>
        rw [hd2] at q
        intro H7 s7
        have s07 := s06.trans s7
        walk_at "rd"
        have hV7 : J4 p4 = some (.lst ((mb ++ ms).map Mk.v)) := N4.at_
        refine lc_gatherL (SqL.lst ((s5.trans (s6.trans s7)) _ _ hV7)) ((mb ++ ms).map fun m => some (V.str m.nm)) (by simp) (by rw [List.length_map, List.length_append]; omega) ?_ ?_
        · intro i x o H' NY NN hx ho s hy hn
          obtain ⟨m, hm, _, rfl, rfl⟩ := mk_get hx ho
          walk_at "rd"
          refine nm_fld T (((tV m hm).1).same (s07.trans s)) (tV m hm).2 ?_
          exact hy _ _ rfl (Same.refl _)
        intro D8 H8 hD8 s8 k8
        rw [nm_gath] at k8
        have s08 := s07.trans s8
        walk_at "rd"
        refine ⟨D8, (mb ++ ms).map Mk.nm, rfl, .inl k8, by rw [List.length_map, List.length_append]; omega, ?_⟩
        have eV : nmsO (some mb) ++ nmsO (some ms) = (mb ++ ms).map Mk.nm := by rw [List.map_append]; rfl
        rw [eV] at q
        cases hd3 : firstDbl ((mb ++ ms).map Mk.nm) with
        | some n =>
          rw [hd3] at q
          exact fun d H' s h => q d H' (s08.trans s) h
        | none =>
        rw [hd3] at q
        intro H9 s9
        have s09 := s08.trans s9
        walk_at "rd"
        refine ⟨pp, pc, pb, ps, mp.map Mk.nm, mc, mb, ms, rfl, ?_, hC.same s09, hB.same s09, hS.same s09, fun m hm => ⟨(tC m hm).same s09, ic m hm⟩, fun m hm => ⟨(tB m hm).same s09, ib m hm⟩, fun m hm => ⟨(tS m hm).same s09, is' m hm⟩, by omega, by omega, by omega, ?_⟩
        · rw [← isN_map ip]; exact hP.same s09
        cases hw : (wantL (some mc) (some mb) (some ms)).find? (noPort (mp.map Mk.nm)) with
        | some n =>
          rw [hw] at q
          exact fun d H' s h => q d H' (s09.trans s) h
        | none =>
        rw [hw] at q
        intro H10 s10
        have s010 := s09.trans s10
        obtain ⟨bi, rfl⟩ : ∃ i, vb = .int i := by cases vb <;> first | exact ⟨_, rfl⟩ | cases b1
        have hx10 := s010 _ _ hx
        have hV10 : H10 p4 = some (.lst ((mb ++ ms).map Mk.v)) := (s5.trans (s6.trans (s7.trans (s8.trans (s9.trans s10))))) _ _ hV7
        walk_at "rd"
        refine i_store hx10 T.cl_World T.na_World__begin (by simp) (by walk_at "fresh") ?_
        have nX : ∀ {p : Addr} {xs : List V}, SqO H10 p xs → p ≠ x := fun {p xs} h => by rintro rfl; rcases h with h | h <;> rw [hx10] at h <;> cases h
        have up : ∀ {p : Addr} {xs : List V} {H' : Hp} {o : HO}, p ≠ x → SqO H' p xs → SqO (upd H' x o) p xs := fun {p xs H' o} n h => by unfold SqO; rw [upd_ne n]; exact h
        have q10 : SqO H10 pp (mp.map Mk.v) := hP.same s010
        have c10 : SqO H10 pc (mc.map Mk.v) := hC.same s010
        have b10 : SqO H10 pb (mb.map Mk.v) := hB.same s010
        have z10 : SqO H10 ps (ms.map Mk.v) := hS.same s010
        have npx := nX q10; have ncx := nX c10; have nbx := nX b10; have nsx := nX z10
        have nvx := nX (.inl hV10)
        walk_at "rd"
        refine i_tupOf (up npx q10) fun l1 K1 t1 kp => ?_
        have kx1 := t1 _ _ upd_same
        walk_at "rd"
        refine i_store kx1 T.cl_World T.na_World__ports (by simp) (by walk_at "fresh") ?_
        have nl1 : l1 ≠ x := by rintro rfl; rw [kx1] at kp; cases kp
        have B1 : But x H10 K1 := (But.set _).trans (Ice.Same.but t1)
        walk_at "rd"
        refine i_tupOf (up ncx (c10.but ncx B1)) fun l2 K2 t2 kc => ?_
        have kx2 := t2 _ _ upd_same
        walk_at "rd"
        refine i_store kx2 T.cl_World T.na_World__channels (by simp) (by walk_at "fresh") ?_
        have nl2 : l2 ≠ x := by rintro rfl; rw [kx2] at kc; cases kc
        have B2 : But x K1 K2 := (But.set _).trans (Ice.Same.but t2)
        walk_at "rd"
        refine i_tupOf (up nbx ((b10.but nbx B1).but nbx B2)) fun l3 K3 t3 kb => ?_
        have kx3 := t3 _ _ upd_same
        walk_at "rd"
        refine i_store kx3 T.cl_World T.na_World__breakers (by simp) (by walk_at "fresh") ?_
        have nl3 : l3 ≠ x := by rintro rfl; rw [kx3] at kb; cases kb
        have B3 : But x K2 K3 := (But.set _).trans (Ice.Same.but t3)
        walk_at "rd"
        refine i_tupOf (up nsx (((z10.but nsx B1).but nsx B2).but nsx B3)) fun l4 K4 t4 ks => ?_
        have kx4 := t4 _ _ upd_same
        walk_at "rd"
        refine i_store kx4 T.cl_World T.na_World__ships (by simp) (by walk_at "fresh") ?_
        have nl4 : l4 ≠ x := by rintro rfl; rw [kx4] at ks; cases ks
        have B4 : But x K3 K4 := (But.set _).trans (Ice.Same.but t4)
        have B14 := B1.trans (B2.trans (B3.trans B4))
        have B15 := B14.trans (But.set (b := x) (HO.ins T.a_World dx ([] ++ [(Str.ofString "_begin", V.int bi)] ++ [(Str.ofString "_ports", V.ref l1)] ++ [(Str.ofString "_channels", V.ref l2)] ++ [(Str.ofString "_breakers", V.ref l3)] ++ [(Str.ofString "_ships", V.ref l4)])))
        walk_at "rd"
        refine i_dc ?_
        refine i_iseq ?_
        walk_at "rd"
        generalize e5 : upd K4 x _ = K5 at B15
        have kx5 : K5 x = some (.ins T.a_World dx ([] ++ [(Str.ofString "_begin", V.int bi)] ++ [(Str.ofString "_ports", V.ref l1)] ++ [(Str.ofString "_channels", V.ref l2)] ++ [(Str.ofString "_breakers", V.ref l3)] ++ [(Str.ofString "_ships", V.ref l4)])) := by rw [← e5]; exact upd_same
        have mB : ∀ {m : Mk}, MkT T H10 m → (m.isC = true ∨ m.isB = true ∨ m.isS = true) → MkT T K5 m := fun {m} a h => by
          rcases h with h | h | h
          · obtain ⟨y, c, rfl⟩ := mk_isC h
            obtain ⟨o, dy, hy⟩ := a
            exact ⟨o, dy, B15 _ _ (by rintro rfl; rw [hx10] at hy; have := congrArg (fun z => z) hy; injection this with h1; injection h1 with _ _ h3; exact absurd (congrArg List.length h3) (by simp [Cd.flds, fldC])) hy⟩
          · obtain ⟨y, d, rfl, dk⟩ := mk_isB h
            obtain ⟨o, dy, hy⟩ := a
            refine ⟨o, dy, B15 _ _ ?_ hy⟩
            rintro rfl
            rw [hx10] at hy; injection hy with h1; injection h1 with _ _ h3
            obtain ⟨r, er⟩ := d.flds_eq
            rw [er] at h3; cases h3
          · obtain ⟨y, d, rfl, dk⟩ := mk_isS h
            obtain ⟨o, dy, hy⟩ := a
            refine ⟨o, dy, B15 _ _ ?_ hy⟩
            rintro rfl
            rw [hx10] at hy; injection hy with h1; injection h1 with _ _ h3
            obtain ⟨r, er⟩ := d.flds_eq
            rw [er] at h3; cases h3
        refine dc_pure (c10.but ncx B15).sq (nmD mc) (by simp [nmD]) (by rw [List.length_map]; omega) (by
          have e : (nmD mc).map (·.1) = (mc.map Mk.nm).map Sum.inr := by simp [nmD]
          rw [e]
          exact (List.nodup_iff_pairwise_ne.mpr (List.pairwise_map.mpr ((List.nodup_iff_pairwise_ne.mp (dbl_nodup hd2)).imp fun n z => n (by injection z))))) ?_ ?_
        · intro i y kz H' NY NN hy' hk s hy
          obtain ⟨m, hm, hmem, rfl⟩ := mks_get hy'
          have : kz = (Sum.inr m.nm, m.v) := by
            unfold nmD at hk
            rw [List.getElem?_map, hm] at hk
            exact (Option.some.inj hk).symm
          subst this
          walk_at "rd"
          refine nm_fld T ((mB ((tC m hmem).same s010) (.inl (ic m hmem))).same s) (.inl (ic m hmem)) ?_
          walk_at "rd"
          exact hy _ (Same.refl _)
        intro D11 K6 hD11 t6 k11
        have kx6 := t6 _ _ kx5
        walk_at "rd"
        refine i_store kx6 T.cl_World T.na_World__channel_of (by simp) (by walk_at "fresh") ?_
        have nD11 : D11 ≠ x := by rintro rfl; rw [kx6] at k11; cases k11
        have B16 := B15.trans (Ice.Same.but (b := x) t6)
        generalize e7 : upd K6 x _ = K7
        have B17 : But x K6 K7 := by rw [← e7]; exact But.set _
        have kx7 : K7 x = some (.ins T.a_World dx ([] ++ [(Str.ofString "_begin", V.int bi)] ++ [(Str.ofString "_ports", V.ref l1)] ++ [(Str.ofString "_channels", V.ref l2)] ++ [(Str.ofString "_breakers", V.ref l3)] ++ [(Str.ofString "_ships", V.ref l4)] ++ [(Str.ofString "_channel_of", V.ref D11)])) := by rw [← e7]; exact upd_same
        walk_at "rd"
        refine i_dc ?_
        walk_at "rd"
        have hV17 : K7 p4 = some (.lst ((mb ++ ms).map Mk.v)) := B17 _ _ nvx (B16 _ _ nvx hV10)
        have mB7 : ∀ {m : Mk}, MkT T K5 m → (m.isC = true ∨ m.isB = true ∨ m.isS = true) → MkT T K7 m := fun {m} a h => by
          have a6 := MkT.same a t6
          rcases h with h | h | h
          · obtain ⟨y, c, rfl⟩ := mk_isC h
            obtain ⟨o, dy, hy⟩ := a6
            exact ⟨o, dy, B17 _ _ (by rintro rfl; rw [kx6] at hy; injection hy with h1; injection h1 with _ _ h3; exact absurd (congrArg List.length h3) (by simp [Cd.flds, fldC])) hy⟩
          · obtain ⟨y, d, rfl, dk⟩ := mk_isB h
            obtain ⟨o, dy, hy⟩ := a6
            refine ⟨o, dy, B17 _ _ ?_ hy⟩
            rintro rfl
            rw [kx6] at hy; injection hy with h1; injection h1 with _ _ h3
            obtain ⟨r, er⟩ := d.flds_eq
            rw [er] at h3; exact absurd (show some (Str.ofString "_begin") = some (Str.ofString "name") from congrArg (fun z => z.head?.map (·.1)) h3) (by decide +kernel)
          · obtain ⟨y, d, rfl, dk⟩ := mk_isS h
            obtain ⟨o, dy, hy⟩ := a6
            refine ⟨o, dy, B17 _ _ ?_ hy⟩
            rintro rfl
            rw [kx6] at hy; injection hy with h1; injection h1 with _ _ h3
            obtain ⟨r, er⟩ := d.flds_eq
            rw [er] at h3; exact absurd (show some (Str.ofString "_begin") = some (Str.ofString "name") from congrArg (fun z => z.head?.map (·.1)) h3) (by decide +kernel)
        refine dc_pureLI (SqL.lst hV17) (nmD (mb ++ ms)) (by simp [nmD]) (by rw [List.length_map, List.length_append]; omega) (by
          have e : (nmD (mb ++ ms)).map (·.1) = ((mb ++ ms).map Mk.nm).map Sum.inr := by unfold nmD; rw [List.map_map, List.map_map]; rfl
          rw [e]
          exact (List.nodup_iff_pairwise_ne.mpr (List.pairwise_map.mpr ((List.nodup_iff_pairwise_ne.mp (dbl_nodup hd3)).imp fun n z => n (by injection z))))) ?_ ?_
        · intro i y kz H' NY NN hy' hk s hy
          obtain ⟨m, hm, hmem, rfl⟩ := mks_get hy'
          have : kz = (Sum.inr m.nm, m.v) := by
            unfold nmD at hk
            rw [List.getElem?_map, hm] at hk
            exact (Option.some.inj hk).symm
          subst this
          walk_at "rd"
          refine nm_fld T ((mB7 (mB (((tV m hmem).1).same s010) (tV m hmem).2) (tV m hmem).2).same s) (tV m hmem).2 ?_
          walk_at "rd"
          exact hy _ (Same.refl _)
        intro D12 K8 hD12 t8 k12
        have kx8 := t8 _ _ kx7
        walk_at "rd"
        refine i_store kx8 T.cl_World T.na_World__vessel_of (by simp) (by walk_at "fresh") ?_
        have nD12 : D12 ≠ x := by rintro rfl; rw [kx8] at k12; cases k12
        have B18 : But x K6 K8 := B17.trans (Ice.Same.but t8)
        have B19 := B18.trans (But.set (b := x) (HO.ins T.a_World dx (([] ++ [(Str.ofString "_begin", V.int bi)] ++ [(Str.ofString "_ports", V.ref l1)] ++ [(Str.ofString "_channels", V.ref l2)] ++ [(Str.ofString "_breakers", V.ref l3)] ++ [(Str.ofString "_ships", V.ref l4)] ++ [(Str.ofString "_channel_of", V.ref D11)]) ++ [(Str.ofString "_vessel_of", V.ref D12)])))
        have B4s := But.set (b := x) (H := K4) (HO.ins T.a_World dx ([] ++ [(Str.ofString "_begin", V.int bi)] ++ [(Str.ofString "_ports", V.ref l1)] ++ [(Str.ofString "_channels", V.ref l2)] ++ [(Str.ofString "_breakers", V.ref l3)] ++ [(Str.ofString "_ships", V.ref l4)]))
        rw [e5] at B4s
        have B49 := B4s.trans ((Ice.Same.but (b := x) t6).trans B19)
        refine q bi _ rfl ((Ice.Same.but s010).trans (B15.trans ((Ice.Same.but (b := x) t6).trans B19))) ⟨dx, l1, l2, l3, l4, D11, D12, upd_same, ?_, ?_, ?_, ?_, ?_, ?_⟩
        · exact B49 _ _ nl1 (B4 _ _ nl1 (B3 _ _ nl1 (B2 _ _ nl1 kp)))
        · exact B49 _ _ nl2 (B4 _ _ nl2 (B3 _ _ nl2 kc))
        · exact B49 _ _ nl3 (B4 _ _ nl3 kb)
        · exact B49 _ _ nl4 ks
        · exact B19 _ _ nD11 k11
        · rw [upd_ne nD12]; exact k12
    · rw [if_pos b1] at q
      exact q d _ (Same.new _ hd) upd_same
end

end Ice

set_option Elab.async false
set_option linter.all false
set_option maxRecDepth 100000
set_option maxHeartbeats 4000000
set_option autoImplicit true
namespace Ice
open PySem PySem.Spec PyProof.Rows L2 TL
/-! side conditions, heaps, one step of a reading, and many -/
local macro_rules | `(tactic| walk_at "hp") => `(tactic| first | assumption | exact upd_same | exact New.at_ (by assumption) | (refine keepU ?_ (by assumption); walk_at "hp") | (refine New.app (by assumption) ?_; walk_at "hp") | (refine Same.app (by assumption) ?_; walk_at "hp") | (refine But.app (by assumption) (by assumption) ?_; walk_at "hp"))
local macro_rules | `(tactic| walk_at "sq") => `(tactic| first | assumption | exact SqL.lst (by walk_at "hp") | exact L2.Same.seq (New.same (by assumption)) (by assumption) | exact L2.Same.seq (by assumption) (by assumption))
local macro_rules | `(tactic| walk_at "len") => `(tactic| first | assumption | (simp only [List.length_cons, List.length_nil, List.length_append, List.length_map]; decide) | (refine Ice.sz_of ?_; simp only [List.length_cons, List.length_nil, List.length_append, List.length_map]; omega))
local macro_rules | `(tactic| walk_at "fresh") => `(tactic| (simp only [List.map_append, List.map_cons, List.map_nil, List.nil_append, List.cons_append]; decide +kernel))
local macro_rules | `(tactic| walk_at "sd") => `(tactic| first | assumption | (show _ ≠ _; omega) | exact Or.inl ⟨by omega, by omega⟩ | exact Or.inr ⟨by omega, by omega⟩ | exact ⟨by decide, by decide⟩ | exact ⟨by decide, by decide, by decide⟩ | exact ⟨by omega, by omega, by omega⟩)
/-! one step of a reading, and many -/
local macro_rules | `(tactic| walk_at "st") => `(tactic| first
  | with_reducible refine i_seq ?_
  | with_reducible refine i_if ?_
  | with_reducible refine i_next ?_
  | with_reducible refine i_ret ?_
  | with_reducible refine i_retN ?_
  | with_reducible refine i_drop ?_
  | with_reducible refine i_asg ?_
  | with_reducible refine i_gname ?_
  | with_reducible refine i_gsub ?_
  | ((with_reducible refine i_var (v := ?vv) ?hv ?_); (case hv => exact rfl))
  | with_reducible refine i_c ?_
  | with_reducible refine i_op ?_
  | with_reducible refine i_un ?_
  | with_reducible refine i_test ?_
  | with_reducible refine i_tB ?_
  | with_reducible refine i_and ?_
  | with_reducible refine i_or ?_
  | with_reducible refine i_not ?_
  | with_reducible refine i_andV ?_
  | with_reducible refine i_orV ?_
  | with_reducible refine i_notV ?_
  | with_reducible refine i_ifE ?_
  | with_reducible refine i_chain ?_
  | with_reducible refine i_bl ?_
  | with_reducible refine i_nil ?_
  | with_reducible refine i_cons ?_
  | with_reducible refine i_call ?_
  | with_reducible refine i_cb ?_
  | with_reducible refine i_rI0 ?_
  | with_reducible refine i_rU ?_
  | ((with_reducible refine i_rEq ?hs ?_); (case hs => exact rfl))
  | ((with_reducible refine i_rNe ?hs ?_); (case hs => exact rfl))
  | ((with_reducible refine i_rI ?hc ?_); (case hc => walk_at "sd"))
  | ((with_reducible refine i_ixL (xs := ?xs) (v := ?vv) ?hS ?he ?_); (case hS => walk_at "sq"); (case he => exact rfl))
  | ((with_reducible refine i_setL (xs := ?xs) (j := ?jj) ?hS ?he ?_); (case hS => walk_at "hp"); (case he => exact rfl))
  | with_reducible refine i_tup ?_
  | with_reducible refine i_lst ?_
  | with_reducible refine i_bm ?_
  | with_reducible refine i_bm0 ?_
  | with_reducible refine i_m1 ?_
  | with_reducible refine i_sl ?_
  | with_reducible refine i_nopart ?_
  | with_reducible refine i_part ?_
  | with_reducible refine i_int ?_
  | with_reducible refine i_str ?_
  | with_reducible refine i_for ?_
  | with_reducible refine i_yes ?_
  | ((with_reducible refine i_lenL (xs := ?xs) ?hS ?_); (case hS => walk_at "sq"))
  | ((with_reducible refine i_room ?hz ?_); (case hz => walk_at "len"))
  | with_reducible refine i_leT ?_
  | with_reducible refine i_notInS ?_
  | with_reducible refine i_inS ?_
  | with_reducible refine i_find ?_
  | with_reducible refine i_isB ?_
  | with_reducible refine i_max2 ?_
  | with_reducible refine i_min2 ?_
  | with_reducible exact trivial
  | with_reducible refine iteT ?_
  | with_reducible refine iteF ?_
  | with_reducible refine i_isstr ?_
  | with_reducible refine i_lc ?_
  | ((with_reducible refine i_cat (xs := ?xs) (zs := ?zs) ?ha ?hb ?hz ?_); (case ha => walk_at "hp"); (case hb => walk_at "hp"); (case hz => walk_at "len"))
  | ((with_reducible refine i_tyL (xs := ?xs) ?ha ?_); (case ha => walk_at "hp"))
  | with_reducible refine i_list ?_
  | with_reducible refine i_disp ?_
  | with_reducible refine i_pairs0 ?_
  | with_reducible refine i_pairs ?_
  | with_reducible refine i_newK ?_
  | with_reducible refine i_gcons ?_
  | with_reducible refine i_gnil ?_
  | with_reducible refine i_revL ?_
  | with_reducible refine i_rng1 ?_
  | ((with_reducible refine i_wipe ?hw ?_); (case hw => exact rfl))
  | with_reducible refine iteNT ?_
  | with_reducible refine iteNF ?_)
local macro_rules | `(tactic| walk_at "sx") => `(tactic| first
  | walk_at "st"
  | with_reducible refine i_kinit ?_
  | with_reducible refine i_ost ?_
  | with_reducible refine i_mkO ?_
  | with_reducible refine i_callE ?_
  | with_reducible refine i_makeE ?_
  | with_reducible refine i_xf ?_
  | with_reducible refine i_sfld ?_
  | with_reducible refine i_fld ?_
  | ((with_reducible refine i_ixT (xs := ?xs) (v := ?vv) ?hS ?he ?_); (case hS => exact SqT.tup (by walk_at "hp")); (case he => exact rfl))
  | with_reducible refine i_intB ?_
  | with_reducible refine i_runS ?_
  | with_reducible refine i_runN ?_
  | ((with_reducible refine i_xf1 (fs := ?ff) (v := ?vv) ?hx ?hl ?_); (case hx => walk_at "hp"); (case hl => exact rfl))
  | with_reducible refine i_methE ?_
  | with_reducible refine i_meth ?_
  | with_reducible refine i_make ?_
  | ((with_reducible refine i_obj (dx := ?dd) (fs := ?ff) ?hx ?hl ?_); (case hx => walk_at "hp"); (case hl => exact rfl))
  | ((with_reducible refine i_fld1 (C := ?CC) (dx := ?dd) (fs := ?ff) (v := ?vv) ?hx ?cl ?na ?hl ?_); (case hx => walk_at "hp"); (case cl => assumption); (case na => assumption); (case hl => exact rfl)))
local macro_rules | `(tactic| walk_at "sy") => `(tactic| first
  | walk_at "sx"
  | with_reducible refine i_dget ?_
  | with_reducible refine i_dget2 ?_
  | with_reducible refine i_dput ?_
  | with_reducible refine i_din ?_
  | ((with_reducible refine i_aug (x := ?vv) ?hx ?_); (case hx => exact rfl)))
local macro_rules | `(tactic| walk_at "rd") => `(tactic| repeat (walk_at "sy"))

section
variable {P : Program} {w : World} {K : PySem.W.Frag} {mg : Str → Option Value} {base : Heap}
def Cd.row (c : Cd) : List V := [.str c.n, .str c.o, .str c.t, .int c.h, .int c.d, .int c.f, .int c.g, .int c.m]
def Mk.row : Mk → List V
  | .ch _ c => c.row
  | .ves _ d => d.row
  | _ => []
def spWBegin (T : Top K mg) : Sp := fun vs H Q _ => ∃ (x : Addr) (b : Int) (mp mc mb ms : List Mk), vs = [.ref x] ∧ WorldT T H x b mp mc mb ms ∧ Q (.int b) H
theorem ok_World_begin_hour (T : Top K mg) : FnG P w K mg base CX0 1 T.a_World_begin_hour T.d_World_begin_hour ["self"] (spWBegin T) := by
  refine okG T.F_World_begin_hour sc_World_begin_hour (fun vs H Q E h => ?_) (fun cdv A outer s H vs Q E hr hgd h => ?_)
  · obtain ⟨x, b, mp, mc, mb, ms, rfl, _⟩ := h
    rfl
  · obtain ⟨x, b, mp, mc, mb, ms, rfl, ⟨dx, ap, ac, ab, as_, ad, av, wf⟩, q⟩ := h
    refine ⟨_, (pss_one (ps_ret (pe_fld (pv 0) rfl))), ?_⟩
    walk_at "rd"
    refine ⟨x, _, dx, _, _, rfl, wf.hx, T.cl_World, T.na_World__begin, rfl, ?_⟩
    exact q
/-- a list that the world tells -/
def spWList (T : Top K mg) (f : List Mk → List Mk → List Mk → List Mk → List Mk) : Sp := fun vs H Q _ => ∃ (x : Addr) (b : Int) (mp mc mb ms : List Mk), vs = [.ref x] ∧ WorldT T H x b mp mc mb ms ∧ (mb.length ≤ 1000 ∧ ms.length ≤ 1000) ∧
  ∀ l H', Same H H' → H l = none → H' l = some (.lst ((f mp mc mb ms).map Mk.v)) → Q (.ref l) H'
theorem ok_World_ports (T : Top K mg) : FnG P w K mg base CX0 1 T.a_World_ports T.d_World_ports ["self"] (spWList T fun p _ _ _ => p) := by
  refine okG T.F_World_ports sc_World_ports (fun vs H Q E h => ?_) (fun cdv A outer s H vs Q E hr hgd h => ?_)
  · obtain ⟨x, b, mp, mc, mb, ms, rfl, _⟩ := h
    rfl
  · obtain ⟨x, b, mp, mc, mb, ms, rfl, ⟨dx, ap, ac, ab, as_, ad, av, wf⟩, _, q⟩ := h
    refine ⟨_, (pss_one (ps_ret (pe_callTy call_list_of (by rfl) T.n_list (by decide +kernel) (pa_cons (pe_fld (pv 0) rfl) pa_nil)))), ?_⟩
    walk_at "rd"
    refine ⟨x, _, dx, _, _, rfl, wf.hx, T.cl_World, T.na_World__ports, rfl, ?_⟩
    walk_at "rd"
    refine ⟨ap, _, rfl, .inr (SqT.tup wf.hp), ?_⟩
    (intro l hl; generalize el : upd _ l _ = J; have N := New.of el hl; clear el hl)
    exact q l _ N.same N.free N.at_
theorem ok_World_channels (T : Top K mg) : FnG P w K mg base CX0 1 T.a_World_channels T.d_World_channels ["self"] (spWList T fun _ c _ _ => c) := by
  refine okG T.F_World_channels sc_World_channels (fun vs H Q E h => ?_) (fun cdv A outer s H vs Q E hr hgd h => ?_)
  · obtain ⟨x, b, mp, mc, mb, ms, rfl, _⟩ := h
    rfl
  · obtain ⟨x, b, mp, mc, mb, ms, rfl, ⟨dx, ap, ac, ab, as_, ad, av, wf⟩, _, q⟩ := h
    refine ⟨_, (pss_one (ps_ret (pe_callTy call_list_of (by rfl) T.n_list (by decide +kernel) (pa_cons (pe_fld (pv 0) rfl) pa_nil)))), ?_⟩
    walk_at "rd"
    refine ⟨x, _, dx, _, _, rfl, wf.hx, T.cl_World, T.na_World__channels, rfl, ?_⟩
    walk_at "rd"
    refine ⟨ac, _, rfl, .inr (SqT.tup wf.hc), ?_⟩
    (intro l hl; generalize el : upd _ l _ = J; have N := New.of el hl; clear el hl)
    exact q l _ N.same N.free N.at_
theorem ok_World_breakers (T : Top K mg) : FnG P w K mg base CX0 1 T.a_World_breakers T.d_World_breakers ["self"] (spWList T fun _ _ b _ => b) := by
  refine okG T.F_World_breakers sc_World_breakers (fun vs H Q E h => ?_) (fun cdv A outer s H vs Q E hr hgd h => ?_)
  · obtain ⟨x, b, mp, mc, mb, ms, rfl, _⟩ := h
    rfl
  · obtain ⟨x, b, mp, mc, mb, ms, rfl, ⟨dx, ap, ac, ab, as_, ad, av, wf⟩, _, q⟩ := h
    refine ⟨_, (pss_one (ps_ret (pe_callTy call_list_of (by rfl) T.n_list (by decide +kernel) (pa_cons (pe_fld (pv 0) rfl) pa_nil)))), ?_⟩
    walk_at "rd"
    refine ⟨x, _, dx, _, _, rfl, wf.hx, T.cl_World, T.na_World__breakers, rfl, ?_⟩
    walk_at "rd"
    refine ⟨ab, _, rfl, .inr (SqT.tup wf.hb), ?_⟩
    (intro l hl; generalize el : upd _ l _ = J; have N := New.of el hl; clear el hl)
    exact q l _ N.same N.free N.at_
theorem ok_World_ships (T : Top K mg) : FnG P w K mg base CX0 1 T.a_World_ships T.d_World_ships ["self"] (spWList T fun _ _ _ s => s) := by
  refine okG T.F_World_ships sc_World_ships (fun vs H Q E h => ?_) (fun cdv A outer s H vs Q E hr hgd h => ?_)
  · obtain ⟨x, b, mp, mc, mb, ms, rfl, _⟩ := h
    rfl
  · obtain ⟨x, b, mp, mc, mb, ms, rfl, ⟨dx, ap, ac, ab, as_, ad, av, wf⟩, _, q⟩ := h
    refine ⟨_, (pss_one (ps_ret (pe_callTy call_list_of (by rfl) T.n_list (by decide +kernel) (pa_cons (pe_fld (pv 0) rfl) pa_nil)))), ?_⟩
    walk_at "rd"
    refine ⟨x, _, dx, _, _, rfl, wf.hx, T.cl_World, T.na_World__ships, rfl, ?_⟩
    walk_at "rd"
    refine ⟨as_, _, rfl, .inr (SqT.tup wf.hs), ?_⟩
    (intro l hl; generalize el : upd _ l _ = J; have N := New.of el hl; clear el hl)
    exact q l _ N.same N.free N.at_
theorem ok_World_vessels (T : Top K mg) : FnG P w K mg base CX0 1 T.a_World_vessels T.d_World_vessels ["self"] (spWList T fun _ _ b s => b ++ s) := by
  refine okG T.F_World_vessels sc_World_vessels (fun vs H Q E h => ?_) (fun cdv A outer s H vs Q E hr hgd h => ?_)
  · obtain ⟨x, b, mp, mc, mb, ms, rfl, _⟩ := h
    rfl
  · obtain ⟨x, b, mp, mc, mb, ms, rfl, ⟨dx, ap, ac, ab, as_, ad, av, wf⟩, ⟨lb, ls⟩, q⟩ := h
    refine ⟨_, (pss_one (ps_ret (pe_callTy call_list_of (by rfl) T.n_list (by decide +kernel) (pa_cons (pe_op op_catA (pe_fld (pv 0) rfl) (pe_fld (pv 0) rfl)) pa_nil)))), ?_⟩
    walk_at "rd"
    refine ⟨x, _, dx, _, _, rfl, wf.hx, T.cl_World, T.na_World__breakers, rfl, ?_⟩
    walk_at "rd"
    refine ⟨x, _, dx, _, _, rfl, wf.hx, T.cl_World, T.na_World__ships, rfl, ?_⟩
    walk_at "rd"
    refine i_catA wf.hb wf.hs (by rw [List.length_map, List.length_map]; exact sz_of (by omega)) (fun r H4 s4 k4 => ?_)
    rw [← List.map_append] at k4
    walk_at "rd"
    refine ⟨r, _, rfl, .inr (SqT.tup k4), ?_⟩
    (intro l hl; generalize el : upd _ l _ = J; have N := New.of el hl; clear el hl)
    exact q l _ (s4.trans N.same) (by
      cases e : H l with
      | none => rfl
      | some o => have := N.free; rw [s4 _ _ e] at this; cases this) N.at_
/-- a row -/
def spRowC (T : Top K mg) : Sp := fun vs H Q _ => ∃ (x : Addr) (c : Cd), vs = [.ref x] ∧ ChT T H x c ∧ ∀ a H', Same H H' → H' a = some (.tup c.row) → Q (.ref a) H'
theorem ok_Channel_row (T : Top K mg) : FnG P w K mg base CX0 1 T.a_Channel_row T.d_Channel_row ["self"] (spRowC T) := by
  refine okG T.F_Channel_row sc_Channel_row (fun vs H Q E h => ?_) (fun cdv A outer s H vs Q E hr hgd h => ?_)
  · obtain ⟨x, c, rfl, _⟩ := h
    rfl
  · obtain ⟨x, c, rfl, hc, q⟩ := h
    refine ⟨_, (pss_one (ps_ret (pe_tup (pa_cons (pe_fld (pv 0) rfl) (pa_cons (pe_fld (pv 0) rfl) (pa_cons (pe_fld (pv 0) rfl) (pa_cons (pe_fld (pv 0) rfl) (pa_cons (pe_fld (pv 0) rfl) (pa_cons (pe_fld (pv 0) rfl) (pa_cons (pe_fld (pv 0) rfl) (pa_cons (pe_fld (pv 0) rfl) pa_nil))))))))))), ?_⟩
    walk_at "rd"
    refine ch_fld T hc T.na_Channel_name rfl ?_
    walk_at "rd"
    refine ch_fld T hc T.na_Channel_one rfl ?_
    walk_at "rd"
    refine ch_fld T hc T.na_Channel_other rfl ?_
    walk_at "rd"
    refine ch_fld T hc T.na_Channel_hours rfl ?_
    walk_at "rd"
    refine ch_fld T hc T.na_Channel_depth rfl ?_
    walk_at "rd"
    refine ch_fld T hc T.na_Channel_first rfl ?_
    walk_at "rd"
    refine ch_fld T hc T.na_Channel_growth rfl ?_
    walk_at "rd"
    refine ch_fld T hc T.na_Channel_most rfl ?_
    walk_at "rd"
    (intro l hl; generalize el : upd _ l _ = J; have N := New.of el hl; clear el hl)
    exact q l _ N.same N.at_
theorem v_fld (T : Top K mg) {H : Hp} {x C : Addr} {d : Vd} {f : Str} {v : V} {B : V → Prop} {dx : Addr} (h : H x = some (.ins C dx d.flds)) (cl : Cls K C) (na : NoAttr K C f) (hl : d.flds.lookup f = some v) (q : B v) : ∃ a C dx fs u, V.ref x = .ref a ∧ H a = some (.ins C dx fs) ∧ Cls K C ∧ NoAttr K C f ∧ fs.lookup f = some u ∧ B u := ⟨x, C, dx, _, v, rfl, h, cl, na, hl, q⟩
theorem l_cut {d : Vd} (h : d.k = .b) : d.flds.lookup (Str.ofString "cut") = some (.int d.c) := by unfold Vd.flds Vd.row; rw [h]; rfl
theorem l_goal {d : Vd} (h : d.k = .s) : d.flds.lookup (Str.ofString "goal") = some (.str d.g) := by unfold Vd.flds Vd.row; rw [h]; rfl
def spRowV (T : Top K mg) (k : Kd) : Sp := fun vs H Q _ => ∃ (x : Addr) (d : Vd), vs = [.ref x] ∧ VesT T H x d ∧ d.k = k ∧ ∀ a H', Same H H' → H' a = some (.tup d.row) → Q (.ref a) H'
theorem ok_Breaker_row (T : Top K mg) : FnG P w K mg base CX0 1 T.a_Breaker_row T.d_Breaker_row ["self"] (spRowV T .b) := by
  refine okG T.F_Breaker_row sc_Breaker_row (fun vs H Q E h => ?_) (fun cdv A outer s H vs Q E hr hgd h => ?_)
  · obtain ⟨x, d, rfl, _⟩ := h
    rfl
  · obtain ⟨x, d, rfl, hd, dk, q⟩ := h
    obtain ⟨ok, dx, hx⟩ := hd
    rw [dk] at hx
    refine ⟨_, (pss_one (ps_ret (pe_tup (pa_cons (pe_fld (pv 0) rfl) (pa_cons (pe_fld (pv 0) rfl) (pa_cons (pe_fld (pv 0) rfl) (pa_cons (pe_fld (pv 0) rfl) (pa_cons (pe_fld (pv 0) rfl) (pa_cons (pe_fld (pv 0) rfl) pa_nil))))))))), ?_⟩
    walk_at "rd"
    refine v_fld T hx T.cl_Breaker T.na_Breaker_name d.l_name ?_
    walk_at "rd"
    refine v_fld T hx T.cl_Breaker T.na_Breaker_port d.l_port ?_
    walk_at "rd"
    refine v_fld T hx T.cl_Breaker T.na_Breaker_hour d.l_hour ?_
    walk_at "rd"
    refine v_fld T hx T.cl_Breaker T.na_Breaker_strength d.l_strength ?_
    walk_at "rd"
    refine v_fld T hx T.cl_Breaker T.na_Breaker_draught d.l_draught ?_
    walk_at "rd"
    refine v_fld T hx T.cl_Breaker T.na_Breaker_cut (l_cut dk) ?_
    walk_at "rd"
    (intro l hl; generalize el : upd _ l _ = J; have N := New.of el hl; clear el hl)
    exact q l _ N.same (by rw [N.at_]; unfold Vd.row; rw [dk])
theorem ok_Ship_row (T : Top K mg) : FnG P w K mg base CX0 1 T.a_Ship_row T.d_Ship_row ["self"] (spRowV T .s) := by
  refine okG T.F_Ship_row sc_Ship_row (fun vs H Q E h => ?_) (fun cdv A outer s H vs Q E hr hgd h => ?_)
  · obtain ⟨x, d, rfl, _⟩ := h
    rfl
  · obtain ⟨x, d, rfl, hd, dk, q⟩ := h
    obtain ⟨ok, dx, hx⟩ := hd
    rw [dk] at hx
    refine ⟨_, (pss_one (ps_ret (pe_tup (pa_cons (pe_fld (pv 0) rfl) (pa_cons (pe_fld (pv 0) rfl) (pa_cons (pe_fld (pv 0) rfl) (pa_cons (pe_fld (pv 0) rfl) (pa_cons (pe_fld (pv 0) rfl) (pa_cons (pe_fld (pv 0) rfl) pa_nil))))))))), ?_⟩
    walk_at "rd"
    refine v_fld T hx T.cl_Ship T.na_Ship_name d.l_name ?_
    walk_at "rd"
    refine v_fld T hx T.cl_Ship T.na_Ship_port d.l_port ?_
    walk_at "rd"
    refine v_fld T hx T.cl_Ship T.na_Ship_goal (l_goal dk) ?_
    walk_at "rd"
    refine v_fld T hx T.cl_Ship T.na_Ship_hour d.l_hour ?_
    walk_at "rd"
    refine v_fld T hx T.cl_Ship T.na_Ship_strength d.l_strength ?_
    walk_at "rd"
    refine v_fld T hx T.cl_Ship T.na_Ship_draught d.l_draught ?_
    walk_at "rd"
    (intro l hl; generalize el : upd _ l _ = J; have N := New.of el hl; clear el hl)
    exact q l _ N.same (by rw [N.at_]; unfold Vd.row; rw [dk])
end

end Ice

set_option Elab.async false
set_option linter.all false
set_option maxRecDepth 100000
set_option maxHeartbeats 4000000
set_option autoImplicit true
namespace Ice
open PySem PySem.Spec PyProof.Rows L2 TL
/-! side conditions, heaps, one step of a reading, and many -/
local macro_rules | `(tactic| walk_at "hp") => `(tactic| first | assumption | exact upd_same | exact New.at_ (by assumption) | (refine keepU ?_ (by assumption); walk_at "hp") | (refine New.app (by assumption) ?_; walk_at "hp") | (refine Same.app (by assumption) ?_; walk_at "hp") | (refine But.app (by assumption) (by assumption) ?_; walk_at "hp"))
local macro_rules | `(tactic| walk_at "sq") => `(tactic| first | assumption | exact SqL.lst (by walk_at "hp") | exact L2.Same.seq (New.same (by assumption)) (by assumption) | exact L2.Same.seq (by assumption) (by assumption))
local macro_rules | `(tactic| walk_at "len") => `(tactic| first | assumption | (simp only [List.length_cons, List.length_nil, List.length_append, List.length_map]; decide) | (refine Ice.sz_of ?_; simp only [List.length_cons, List.length_nil, List.length_append, List.length_map]; omega))
local macro_rules | `(tactic| walk_at "fresh") => `(tactic| (simp only [List.map_append, List.map_cons, List.map_nil, List.nil_append, List.cons_append]; decide +kernel))
local macro_rules | `(tactic| walk_at "sd") => `(tactic| first | assumption | (show _ ≠ _; omega) | exact Or.inl ⟨by omega, by omega⟩ | exact Or.inr ⟨by omega, by omega⟩ | exact ⟨by decide, by decide⟩ | exact ⟨by decide, by decide, by decide⟩ | exact ⟨by omega, by omega, by omega⟩)
/-! one step of a reading, and many -/
local macro_rules | `(tactic| walk_at "st") => `(tactic| first
  | with_reducible refine i_seq ?_
  | with_reducible refine i_if ?_
  | with_reducible refine i_next ?_
  | with_reducible refine i_ret ?_
  | with_reducible refine i_retN ?_
  | with_reducible refine i_drop ?_
  | with_reducible refine i_asg ?_
  | with_reducible refine i_gname ?_
  | with_reducible refine i_gsub ?_
  | ((with_reducible refine i_var (v := ?vv) ?hv ?_); (case hv => exact rfl))
  | with_reducible refine i_c ?_
  | with_reducible refine i_op ?_
  | with_reducible refine i_un ?_
  | with_reducible refine i_test ?_
  | with_reducible refine i_tB ?_
  | with_reducible refine i_and ?_
  | with_reducible refine i_or ?_
  | with_reducible refine i_not ?_
  | with_reducible refine i_andV ?_
  | with_reducible refine i_orV ?_
  | with_reducible refine i_notV ?_
  | with_reducible refine i_ifE ?_
  | with_reducible refine i_chain ?_
  | with_reducible refine i_bl ?_
  | with_reducible refine i_nil ?_
  | with_reducible refine i_cons ?_
  | with_reducible refine i_call ?_
  | with_reducible refine i_cb ?_
  | with_reducible refine i_rI0 ?_
  | with_reducible refine i_rU ?_
  | ((with_reducible refine i_rEq ?hs ?_); (case hs => exact rfl))
  | ((with_reducible refine i_rNe ?hs ?_); (case hs => exact rfl))
  | ((with_reducible refine i_rI ?hc ?_); (case hc => walk_at "sd"))
  | ((with_reducible refine i_ixL (xs := ?xs) (v := ?vv) ?hS ?he ?_); (case hS => walk_at "sq"); (case he => exact rfl))
  | ((with_reducible refine i_setL (xs := ?xs) (j := ?jj) ?hS ?he ?_); (case hS => walk_at "hp"); (case he => exact rfl))
  | with_reducible refine i_tup ?_
  | with_reducible refine i_lst ?_
  | with_reducible refine i_bm ?_
  | with_reducible refine i_bm0 ?_
  | with_reducible refine i_m1 ?_
  | with_reducible refine i_sl ?_
  | with_reducible refine i_nopart ?_
  | with_reducible refine i_part ?_
  | with_reducible refine i_int ?_
  | with_reducible refine i_str ?_
  | with_reducible refine i_for ?_
  | with_reducible refine i_yes ?_
  | ((with_reducible refine i_lenL (xs := ?xs) ?hS ?_); (case hS => walk_at "sq"))
  | ((with_reducible refine i_room ?hz ?_); (case hz => walk_at "len"))
  | with_reducible refine i_leT ?_
  | with_reducible refine i_notInS ?_
  | with_reducible refine i_inS ?_
  | with_reducible refine i_find ?_
  | with_reducible refine i_isB ?_
  | with_reducible refine i_max2 ?_
  | with_reducible refine i_min2 ?_
  | with_reducible exact trivial
  | with_reducible refine iteT ?_
  | with_reducible refine iteF ?_
  | with_reducible refine i_isstr ?_
  | with_reducible refine i_lc ?_
  | ((with_reducible refine i_cat (xs := ?xs) (zs := ?zs) ?ha ?hb ?hz ?_); (case ha => walk_at "hp"); (case hb => walk_at "hp"); (case hz => walk_at "len"))
  | ((with_reducible refine i_tyL (xs := ?xs) ?ha ?_); (case ha => walk_at "hp"))
  | with_reducible refine i_list ?_
  | with_reducible refine i_disp ?_
  | with_reducible refine i_pairs0 ?_
  | with_reducible refine i_pairs ?_
  | with_reducible refine i_newK ?_
  | with_reducible refine i_gcons ?_
  | with_reducible refine i_gnil ?_
  | with_reducible refine i_revL ?_
  | with_reducible refine i_rng1 ?_
  | ((with_reducible refine i_wipe ?hw ?_); (case hw => exact rfl))
  | with_reducible refine iteNT ?_
  | with_reducible refine iteNF ?_)
local macro_rules | `(tactic| walk_at "sx") => `(tactic| first
  | walk_at "st"
  | with_reducible refine i_kinit ?_
  | with_reducible refine i_ost ?_
  | with_reducible refine i_mkO ?_
  | with_reducible refine i_callE ?_
  | with_reducible refine i_makeE ?_
  | with_reducible refine i_xf ?_
  | with_reducible refine i_sfld ?_
  | with_reducible refine i_fld ?_
  | ((with_reducible refine i_ixT (xs := ?xs) (v := ?vv) ?hS ?he ?_); (case hS => exact SqT.tup (by walk_at "hp")); (case he => exact rfl))
  | with_reducible refine i_intB ?_
  | with_reducible refine i_runS ?_
  | with_reducible refine i_runN ?_
  | ((with_reducible refine i_xf1 (fs := ?ff) (v := ?vv) ?hx ?hl ?_); (case hx => walk_at "hp"); (case hl => exact rfl))
  | with_reducible refine i_methE ?_
  | with_reducible refine i_meth ?_
  | with_reducible refine i_make ?_
  | ((with_reducible refine i_obj (dx := ?dd) (fs := ?ff) ?hx ?hl ?_); (case hx => walk_at "hp"); (case hl => exact rfl))
  | ((with_reducible refine i_fld1 (C := ?CC) (dx := ?dd) (fs := ?ff) (v := ?vv) ?hx ?cl ?na ?hl ?_); (case hx => walk_at "hp"); (case cl => assumption); (case na => assumption); (case hl => exact rfl)))
local macro_rules | `(tactic| walk_at "sy") => `(tactic| first
  | walk_at "sx"
  | with_reducible refine i_dget ?_
  | with_reducible refine i_dget2 ?_
  | with_reducible refine i_dput ?_
  | with_reducible refine i_din ?_
  | ((with_reducible refine i_aug (x := ?vv) ?hx ?_); (case hx => exact rfl)))
local macro_rules | `(tactic| walk_at "rd") => `(tactic| repeat (walk_at "sy"))

section
variable {P : Program} {w : World} {K : PySem.W.Frag} {mg : Str → Option Value} {base : Heap}
def MkCBS (m : Mk) : Prop := m.isC = true ∨ m.isB = true ∨ m.isS = true
def arefs {α : Type} (L : List (Addr × α)) : List V := L.map fun z => .ref z.1
def spRowsOf (T : Top K mg) : Sp := fun vs H Q _ => ∃ (p : Addr) (ms : List Mk), vs = [.ref p] ∧ H p = some (.tup (ms.map Mk.v)) ∧ (∀ m ∈ ms, MkT T H m ∧ MkCBS m) ∧ ms.length ≤ 1000 ∧
  ∀ (q : Addr) (L : List (Addr × Mk)) (H' : Hp), Same H H' → H' q = some (.tup (arefs L)) → L.map (·.2) = ms → (∀ z ∈ L, H' z.1 = some (.tup z.2.row)) → Q (.ref q) H'
theorem ok_rows_of (T : Top K mg) : FnG P w K mg base CX0 2 T.a_rows_of T.d_rows_of ["things"] (spRowsOf T) := by
  have G_Channel_row := ok_Channel_row (P := P) (w := w) (base := base) T
  have G_Breaker_row := ok_Breaker_row (P := P) (w := w) (base := base) T
  have G_Ship_row := ok_Ship_row (P := P) (w := w) (base := base) T
  refine okG T.F_rows_of sc_rows_of (fun vs H Q E h => ?_) (fun cdv A outer s H vs Q E hr hgd h => ?_)
  · obtain ⟨p, ms, rfl, _⟩ := h
    rfl
  · obtain ⟨p, ms, rfl, hp, hm, hl, q⟩ := h
    refine ⟨_, (pss_one (ps_ret (pe_callTy c_tupleOf (by rfl) T.n_tuple (by decide +kernel) (pa_cons (pe_lc (own := [("thing", 1)]) (g := gName 1) rfl sc_rows_of.nd (pi_tup (pv 0)) (blkOk_by (own := [("thing", 1)]) (N := ["things", "thing"]) (sc := defScope s_rows_of) (by decide +kernel)) (fun _ _ _ _ _ => (pg_name (i := 1) sc_rows_of.nd rfl (by first | exact Or.inl rfl | exact Or.inr rfl))) (fun _ _ _ _ _ => pts_nil) (fun _ _ _ _ _ => (pe_alt (g_meth0 (pv 1) T.cl_Channel T.me_Channel_row G_Channel_row (hr.mono (by decide)) hgd T.b_Channel_row .nil pass0) (pe_alt (g_meth0 (pv 1) T.cl_Breaker T.me_Breaker_row G_Breaker_row (hr.mono (by decide)) hgd T.b_Breaker_row .nil pass0) (g_meth0 (pv 1) T.cl_Ship T.me_Ship_row G_Ship_row (hr.mono (by decide)) hgd T.b_Ship_row .nil pass0))))) pa_nil)))), ?_⟩
    walk_at "rd"
    refine i_tupI ?_
    walk_at "rd"
    refine lc_relT (SqT.tup hp) (by rw [List.length_map]; have := sz_of (n := ms.length + 1) (by omega); omega) (fun i y H => ∃ a m, y = V.ref a ∧ ms[i]? = some m ∧ H a = some (.tup m.row)) (fun i y H H' e ⟨a, m, h1, h2, h3⟩ => ⟨a, m, h1, h2, e _ _ h3⟩) (fun i y H D us ws hD ⟨a, m, h1, h2, h3⟩ => ⟨a, m, h1, h2, by rw [upd_ne (ne_of h3 hD (by intro z; cases z))]; exact h3⟩) ?_ ?_
    · intro i x H' NY NN hx s hy
      obtain ⟨m, hmi, hmm, rfl⟩ := mks_get hx
      obtain ⟨mt, mk⟩ := hm m hmm
      have mt' := mt.same s
      walk_at "rd"
      rcases mk with h | h | h
      · obtain ⟨x, c, rfl⟩ := mk_isC h
        obtain ⟨ok, dx, hx⟩ := id mt'
        exact i_altL ⟨_, rfl, x, dx, _, rfl, hx, rfl, x, c, rfl, mt', fun a H5 s5 k5 => hy _ _ s5 ⟨a, _, rfl, hmi, k5⟩⟩
      · obtain ⟨x, d, rfl, dk⟩ := mk_isB h
        obtain ⟨ok, dx, hx⟩ := id mt'
        rw [dk] at hx
        exact i_altR (i_altL ⟨_, rfl, x, dx, _, rfl, hx, d.l_none.2, x, d, rfl, mt', dk, fun a H5 s5 k5 => hy _ _ s5 ⟨a, _, rfl, hmi, k5⟩⟩)
      · obtain ⟨x, d, rfl, dk⟩ := mk_isS h
        obtain ⟨ok, dx, hx⟩ := id mt'
        rw [dk] at hx
        exact i_altR (i_altR ⟨_, rfl, x, dx, _, rfl, hx, d.l_none.2, x, d, rfl, mt', dk, fun a H5 s5 k5 => hy _ _ s5 ⟨a, _, rfl, hmi, k5⟩⟩)
    · intro D H1 ys hD s1 k1 l1 r1
      obtain ⟨L, rfl, eL, hL⟩ := made_list (P := fun a m => H1 a = some (.tup m.row)) ys ms (by rw [l1, List.length_map]) (fun i y hy => by
        obtain ⟨a, m, e1, e2, e3⟩ := r1 i y hy
        exact ⟨a, m, e1, e2, e3⟩)
      walk_at "rd"
      refine i_tupOf (.inl k1) fun l H2 s2 k2 => ?_
      exact q l L H2 (s1.trans s2) k2 eL (fun z hz => s2 _ _ (hL z hz))
/-- the things of a world that stands -/
structure WOk (T : Top K mg) (H : Hp) (b : Int) (mp mc mb ms : List Mk) : Prop where
  b : 0 ≤ b ∧ b ≤ 1000000
  lp : mp.length ≤ 8
  lc : mc.length ≤ 12
  lb : mb.length ≤ 4
  ls : ms.length ≤ 6
  ip : ∀ m ∈ mp, m.isN = true
  ic : ∀ m ∈ mc, MkT T H m ∧ m.isC = true
  ib : ∀ m ∈ mb, MkT T H m ∧ m.isB = true
  is' : ∀ m ∈ ms, MkT T H m ∧ m.isS = true
theorem WOk.same {T : Top K mg} {H H' : Hp} {b : Int} {mp mc mb ms : List Mk} (o : WOk T H b mp mc mb ms) (e : Same H H') : WOk T H' b mp mc mb ms :=
  ⟨o.b, o.lp, o.lc, o.lb, o.ls, o.ip, fun m h => ⟨(o.ic m h).1.same e, (o.ic m h).2⟩, fun m h => ⟨(o.ib m h).1.same e, (o.ib m h).2⟩, fun m h => ⟨(o.is' m h).1.same e, (o.is' m h).2⟩⟩
def spTold (T : Top K mg) : Sp := fun vs H Q _ => ∃ (x : Addr) (b : Int) (mp mc mb ms : List Mk), vs = [.ref x] ∧ WorldT T H x b mp mc mb ms ∧ WOk T H b mp mc mb ms ∧
  ∀ (r ap rc rb rs : Addr) (Lc Lb Ls : List (Addr × Mk)) (H' : Hp), Same H H' → H' r = some (.tup [.int b, .ref ap, .ref rc, .ref rb, .ref rs]) → H' ap = some (.tup (mp.map Mk.v)) → H' rc = some (.tup (arefs Lc)) → H' rb = some (.tup (arefs Lb)) → H' rs = some (.tup (arefs Ls)) →
    Lc.map (·.2) = mc → Lb.map (·.2) = mb → Ls.map (·.2) = ms → (∀ z ∈ Lc ++ Lb ++ Ls, H' z.1 = some (.tup z.2.row)) → Q (.ref r) H'
theorem ok_World_told (T : Top K mg) : FnG P w K mg base CX0 3 T.a_World_told T.d_World_told ["self"] (spTold T) := by
  have G_rows_of := ok_rows_of (P := P) (w := w) (base := base) T
  refine okG T.F_World_told sc_World_told (fun vs H Q E h => ?_) (fun cdv A outer s H vs Q E hr hgd h => ?_)
  · obtain ⟨x, b, mp, mc, mb, ms, rfl, _⟩ := h
    rfl
  · obtain ⟨x, b, mp, mc, mb, ms, rfl, ⟨dx, ap, ac, ab, as_, ad, av, wf⟩, o, q⟩ := h
    refine ⟨_, (pss_one (ps_ret (pe_tup (pa_cons (pe_fld (pv 0) rfl) (pa_cons (pe_fld (pv 0) rfl) (pa_cons (g_call G_rows_of (hr.mono (by decide)) hgd (by rfl) T.m_rows_of T.F_rows_of.kp T.b_rows_of .nil pass0 (pa_cons (pe_fld (pv 0) rfl) pa_nil)) (pa_cons (g_call G_rows_of (hr.mono (by decide)) hgd (by rfl) T.m_rows_of T.F_rows_of.kp T.b_rows_of .nil pass0 (pa_cons (pe_fld (pv 0) rfl) pa_nil)) (pa_cons (g_call G_rows_of (hr.mono (by decide)) hgd (by rfl) T.m_rows_of T.F_rows_of.kp T.b_rows_of .nil pass0 (pa_cons (pe_fld (pv 0) rfl) pa_nil)) pa_nil)))))))), ?_⟩
    have l1 := o.lc; have l2 := o.lb; have l3 := o.ls
    walk_at "rd"
    refine ⟨x, _, dx, _, _, rfl, wf.hx, T.cl_World, T.na_World__begin, rfl, ?_⟩
    walk_at "rd"
    refine ⟨x, _, dx, _, _, rfl, wf.hx, T.cl_World, T.na_World__ports, rfl, ?_⟩
    walk_at "rd"
    refine ⟨x, _, dx, _, _, rfl, wf.hx, T.cl_World, T.na_World__channels, rfl, ?_⟩
    walk_at "rd"
    refine ⟨ac, mc, rfl, wf.hc, fun m h => ⟨(o.ic m h).1, .inl (o.ic m h).2⟩, by omega, fun rc Lc H1 s1 k1 e1 r1 => ?_⟩
    have w1 := wf.same s1
    walk_at "rd"
    refine ⟨x, _, dx, _, _, rfl, w1.hx, T.cl_World, T.na_World__breakers, rfl, ?_⟩
    walk_at "rd"
    refine ⟨ab, mb, rfl, w1.hb, fun m h => ⟨((o.ib m h).1).same s1, .inr (.inl (o.ib m h).2)⟩, by omega, fun rb Lb H2 s2 k2 e2 r2 => ?_⟩
    have w2 := w1.same s2
    walk_at "rd"
    refine ⟨x, _, dx, _, _, rfl, w2.hx, T.cl_World, T.na_World__ships, rfl, ?_⟩
    walk_at "rd"
    refine ⟨as_, ms, rfl, w2.hs, fun m h => ⟨((o.is' m h).1).same (s1.trans s2), .inr (.inr (o.is' m h).2)⟩, by omega, fun rs Ls H3 s3 k3 e3 r3 => ?_⟩
    walk_at "rd"
    (intro r hr; generalize er : upd _ r _ = J; have N := New.of er hr; clear er hr)
    refine q r ap rc rb rs Lc Lb Ls J (s1.trans (s2.trans (s3.trans N.same))) N.at_ (N.app (s3 _ _ w2.hp)) (N.app (s3 _ _ (s2 _ _ k1))) (N.app (s3 _ _ k2)) (N.app k3) e1 e2 e3 (fun z hz => ?_)
    rcases List.mem_append.mp hz with hz | hz
    · rcases List.mem_append.mp hz with hz | hz
      · exact N.app (s3 _ _ (s2 _ _ (r1 z hz)))
      · exact N.app (s3 _ _ (r2 z hz))
    · exact N.app (r3 z hz)
end

end Ice

set_option Elab.async false
set_option linter.all false
set_option maxRecDepth 100000
set_option maxHeartbeats 4000000
set_option autoImplicit true
namespace Ice
open PySem PySem.Spec PyProof.Rows L2 TL
/-! side conditions, heaps, one step of a reading, and many -/
local macro_rules | `(tactic| walk_at "hp") => `(tactic| first | assumption | exact upd_same | exact New.at_ (by assumption) | (refine keepU ?_ (by assumption); walk_at "hp") | (refine New.app (by assumption) ?_; walk_at "hp") | (refine Same.app (by assumption) ?_; walk_at "hp") | (refine But.app (by assumption) (by assumption) ?_; walk_at "hp"))
local macro_rules | `(tactic| walk_at "sq") => `(tactic| first | assumption | exact SqL.lst (by walk_at "hp") | exact L2.Same.seq (New.same (by assumption)) (by assumption) | exact L2.Same.seq (by assumption) (by assumption))
local macro_rules | `(tactic| walk_at "len") => `(tactic| first | assumption | (simp only [List.length_cons, List.length_nil, List.length_append, List.length_map]; decide) | (refine Ice.sz_of ?_; simp only [List.length_cons, List.length_nil, List.length_append, List.length_map]; omega))
local macro_rules | `(tactic| walk_at "fresh") => `(tactic| (simp only [List.map_append, List.map_cons, List.map_nil, List.nil_append, List.cons_append]; decide +kernel))
local macro_rules | `(tactic| walk_at "sd") => `(tactic| first | assumption | (show _ ≠ _; omega) | exact Or.inl ⟨by omega, by omega⟩ | exact Or.inr ⟨by omega, by omega⟩ | exact ⟨by decide, by decide⟩ | exact ⟨by decide, by decide, by decide⟩ | exact ⟨by omega, by omega, by omega⟩)
/-! one step of a reading, and many -/
local macro_rules | `(tactic| walk_at "st") => `(tactic| first
  | with_reducible refine i_seq ?_
  | with_reducible refine i_if ?_
  | with_reducible refine i_next ?_
  | with_reducible refine i_ret ?_
  | with_reducible refine i_retN ?_
  | with_reducible refine i_drop ?_
  | with_reducible refine i_asg ?_
  | with_reducible refine i_gname ?_
  | with_reducible refine i_gsub ?_
  | ((with_reducible refine i_var (v := ?vv) ?hv ?_); (case hv => exact rfl))
  | with_reducible refine i_c ?_
  | with_reducible refine i_op ?_
  | with_reducible refine i_un ?_
  | with_reducible refine i_test ?_
  | with_reducible refine i_tB ?_
  | with_reducible refine i_and ?_
  | with_reducible refine i_or ?_
  | with_reducible refine i_not ?_
  | with_reducible refine i_andV ?_
  | with_reducible refine i_orV ?_
  | with_reducible refine i_notV ?_
  | with_reducible refine i_ifE ?_
  | with_reducible refine i_chain ?_
  | with_reducible refine i_bl ?_
  | with_reducible refine i_nil ?_
  | with_reducible refine i_cons ?_
  | with_reducible refine i_call ?_
  | with_reducible refine i_cb ?_
  | with_reducible refine i_rI0 ?_
  | with_reducible refine i_rU ?_
  | ((with_reducible refine i_rEq ?hs ?_); (case hs => exact rfl))
  | ((with_reducible refine i_rNe ?hs ?_); (case hs => exact rfl))
  | ((with_reducible refine i_rI ?hc ?_); (case hc => walk_at "sd"))
  | ((with_reducible refine i_ixL (xs := ?xs) (v := ?vv) ?hS ?he ?_); (case hS => walk_at "sq"); (case he => exact rfl))
  | ((with_reducible refine i_setL (xs := ?xs) (j := ?jj) ?hS ?he ?_); (case hS => walk_at "hp"); (case he => exact rfl))
  | with_reducible refine i_tup ?_
  | with_reducible refine i_lst ?_
  | with_reducible refine i_bm ?_
  | with_reducible refine i_bm0 ?_
  | with_reducible refine i_m1 ?_
  | with_reducible refine i_sl ?_
  | with_reducible refine i_nopart ?_
  | with_reducible refine i_part ?_
  | with_reducible refine i_int ?_
  | with_reducible refine i_str ?_
  | with_reducible refine i_for ?_
  | with_reducible refine i_yes ?_
  | ((with_reducible refine i_lenL (xs := ?xs) ?hS ?_); (case hS => walk_at "sq"))
  | ((with_reducible refine i_room ?hz ?_); (case hz => walk_at "len"))
  | with_reducible refine i_leT ?_
  | with_reducible refine i_notInS ?_
  | with_reducible refine i_inS ?_
  | with_reducible refine i_find ?_
  | with_reducible refine i_isB ?_
  | with_reducible refine i_max2 ?_
  | with_reducible refine i_min2 ?_
  | with_reducible exact trivial
  | with_reducible refine iteT ?_
  | with_reducible refine iteF ?_
  | with_reducible refine i_isstr ?_
  | with_reducible refine i_lc ?_
  | ((with_reducible refine i_cat (xs := ?xs) (zs := ?zs) ?ha ?hb ?hz ?_); (case ha => walk_at "hp"); (case hb => walk_at "hp"); (case hz => walk_at "len"))
  | ((with_reducible refine i_tyL (xs := ?xs) ?ha ?_); (case ha => walk_at "hp"))
  | with_reducible refine i_list ?_
  | with_reducible refine i_disp ?_
  | with_reducible refine i_pairs0 ?_
  | with_reducible refine i_pairs ?_
  | with_reducible refine i_newK ?_
  | with_reducible refine i_gcons ?_
  | with_reducible refine i_gnil ?_
  | with_reducible refine i_revL ?_
  | with_reducible refine i_rng1 ?_
  | ((with_reducible refine i_wipe ?hw ?_); (case hw => exact rfl))
  | with_reducible refine iteNT ?_
  | with_reducible refine iteNF ?_)
local macro_rules | `(tactic| walk_at "sx") => `(tactic| first
  | walk_at "st"
  | with_reducible refine i_kinit ?_
  | with_reducible refine i_ost ?_
  | with_reducible refine i_mkO ?_
  | with_reducible refine i_callE ?_
  | with_reducible refine i_makeE ?_
  | with_reducible refine i_xf ?_
  | with_reducible refine i_sfld ?_
  | with_reducible refine i_fld ?_
  | ((with_reducible refine i_ixT (xs := ?xs) (v := ?vv) ?hS ?he ?_); (case hS => exact SqT.tup (by walk_at "hp")); (case he => exact rfl))
  | with_reducible refine i_intB ?_
  | with_reducible refine i_runS ?_
  | with_reducible refine i_runN ?_
  | ((with_reducible refine i_xf1 (fs := ?ff) (v := ?vv) ?hx ?hl ?_); (case hx => walk_at "hp"); (case hl => exact rfl))
  | with_reducible refine i_methE ?_
  | with_reducible refine i_meth ?_
  | with_reducible refine i_make ?_
  | ((with_reducible refine i_obj (dx := ?dd) (fs := ?ff) ?hx ?hl ?_); (case hx => walk_at "hp"); (case hl => exact rfl))
  | ((with_reducible refine i_fld1 (C := ?CC) (dx := ?dd) (fs := ?ff) (v := ?vv) ?hx ?cl ?na ?hl ?_); (case hx => walk_at "hp"); (case cl => assumption); (case na => assumption); (case hl => exact rfl)))
local macro_rules | `(tactic| walk_at "sy") => `(tactic| first
  | walk_at "sx"
  | with_reducible refine i_dget ?_
  | with_reducible refine i_dget2 ?_
  | with_reducible refine i_dput ?_
  | with_reducible refine i_din ?_
  | ((with_reducible refine i_aug (x := ?vv) ?hx ?_); (case hx => exact rfl)))
local macro_rules | `(tactic| walk_at "rd") => `(tactic| repeat (walk_at "sy"))

section
variable {P : Program} {w : World} {K : PySem.W.Frag} {mg : Str → Option Value} {base : Heap}
/-- a drawn number -/
def spDraw : Sp := fun vs H Q _ => ∃ (b : Addr) (lo hi : Int) (n : Nat), vs = [.ref b, .int lo, .int hi] ∧ Box H b n ∧ n ≤ 800 ∧ 0 ≤ lo ∧ lo ≤ hi ∧ hi ≤ 10 ^ 20 ∧ ∀ (d : Int) (H' : Hp), lo ≤ d → d ≤ hi → But b H H' → Box H' b (n + 2) → Q (.int d) H'
theorem ok_number (T : Top K mg) : FnG P w K mg base CX0 2 T.a_number T.d_number ["_law_box_here", "_law_low", "_law_high"] spDraw := by
  have G_take := ok_take (P := P) (w := w) (base := base) T
  refine okG T.F_number sc_number (fun vs H Q E h => ?_) (fun cdv A outer s H vs Q E hr hgd h => ?_)
  · obtain ⟨b, lo, hi, n, rfl, _⟩ := h
    rfl
  · obtain ⟨b, lo, hi, n, rfl, hB, hn, h0, h1, h2, q⟩ := h
    refine ⟨_, (pss_cons (ps_set (i := 3) sc_number.nd rfl (by first | exact Or.inl rfl | exact Or.inr rfl) (g_call G_take (hr.mono (by decide)) hgd (by rfl) T.m_take T.F_take.kp T.b_take .nil pass0 (pa_cons (pv 0) (pa_cons pe_int pa_nil))))
      (pss_cons (ps_set (i := 4) sc_number.nd rfl (by first | exact Or.inl rfl | exact Or.inr rfl) (pe_op op_add (pv 1) (g_call G_take (hr.mono (by decide)) hgd (by rfl) T.m_take T.F_take.kp T.b_take .nil pass0 (pa_cons (pv 0) (pa_cons (pe_op op_add (pe_op op_sub (pv 2) (pv 1)) pe_int) pa_nil)))))
      (pss_one (ps_ret (pe_ix ix_list (pe_lst (pa_cons (pv 1) (pa_cons (pv 2) (pa_cons (pv 4) (pa_cons (pv 4) (pa_cons (pe_op op_add (pv 1) (pe_op op_modN (pe_op op_modN (pe_op op_sub (pv 4) (pv 1)) pe_int) (pe_op op_add (pe_op op_sub (pv 2) (pv 1)) pe_int))) pa_nil)))))) (pv 3) (fun _ _ => rfl)))))), ?_⟩
    walk_at "rd"
    refine ⟨b, 5, n, rfl, hB, by omega, by decide, by decide, fun way H1 w0 w1 e1 B1 => ?_⟩
    walk_at "rd"
    refine ⟨b, hi - lo + 1, _, rfl, B1, by omega, by omega, by omega, fun d H2 d0 d1 e2 B2 => ?_⟩
    walk_at "rd"
    (intro p hp; generalize ep : upd _ p _ = J; have N := New.of ep hp; clear ep hp)
    walk_at "rd"
    obtain ⟨v, hv, hm, _⟩ := atI_some (xs := [V.int lo, V.int hi, V.int (lo + d), V.int (lo + d), V.int (lo + Int.fmod (Int.fmod (lo + d - lo) 20) (hi - lo + 1))]) w0 (by simpa using w1)
    refine i_ixL (SqL.lst N.at_) hv ?_
    have g0 := Int.fmod_nonneg_of_pos (Int.fmod (lo + d - lo) 20) (show 0 < hi - lo + 1 by omega)
    have g1 := Int.fmod_lt_of_pos (Int.fmod (lo + d - lo) 20) (show 0 < hi - lo + 1 by omega)
    have eN := e1.trans (e2.trans N.but)
    have BN : Box J b (n + 2) := (B2.nw N).mono (by omega)
    simp only [List.mem_cons, List.not_mem_nil, or_false] at hm
    rcases hm with rfl | rfl | rfl | rfl | rfl
    · exact q _ _ (by omega) h1 eN BN
    · exact q _ _ h1 (by omega) eN BN
    · exact q _ _ (by omega) (by omega) eN BN
    · exact q _ _ (by omega) (by omega) eN BN
    · exact q _ _ (by omega) (by omega) eN BN
/-- drawn names, unlike -/
theorem letters_len : (Str.ofString "abcdefghijklmnopqrstuvwxyz").length = 26 := by decide +kernel
def Low (c : Nat) : Prop := 97 ≤ c ∧ c ≤ 122
theorem low_all : ∀ c ∈ tl (Str.ofString "abcdefghijklmnopqrstuvwxyz"), Low c := by
  intro c hc
  rw [show tl (Str.ofString "abcdefghijklmnopqrstuvwxyz") = List.range' 97 26 by decide +kernel, List.mem_range'_1] at hc
  exact ⟨by omega, by omega⟩
theorem letter_at {d : Int} (h0 : 0 ≤ d) (h1 : d < 26) : atI (Str.ofString "abcdefghijklmnopqrstuvwxyz").cps.toList d = some (97 + d.toNat) := by
  obtain ⟨k, rfl⟩ := Int.eq_ofNat_of_zero_le h0
  have hk : k < 26 := by omega
  refine atI_nat ?_
  rw [show (Str.ofString "abcdefghijklmnopqrstuvwxyz").cps.toList = List.range' 97 26 by decide +kernel, List.getElem?_range' (by omega)]
  simp
/-- a comprehension over a range whose element changes nothing -/
theorem lc_map {n : Nat} {f : Nat → V} {g : TG} {tt : TT} {te : TE} {vs : List Nat} {σ : L2.St} {H1 : Hp} {D : Addr} {Qd : Hp → Prop} (hD : H1 D = none) (hz : n ≤ 1000)
    (hs : ∀ i H (N : V → Hp → Prop) (M : Hp → Prop), i < n → N (f i) H → g (.int (0 + i)) (wipe σ vs) H fun σ2 H2 => wipe σ2 vs = wipe σ vs ∧ tt σ2 H2 fun b H3 => if b = true then te σ2 H3 N else M H3)
    (hd : Qd (upd H1 D (.lst ((List.range n).map f)))) :
    ∃ W : Nat → Nat → Hp → Prop, (∃ m, W 0 m (upd H1 D (.lst []))) ∧ ∀ i m H, W i m H →
      ((Itr 0 n).stop i H ∧ Qd H) ∨ ((Itr 0 n).go i H ∧ ∃ Nx : Hp → Prop, (∀ H', Nx H' → ∃ m', m' < m ∧ W (i + 1) m' H') ∧ ∀ x H', (Itr 0 n).yld i H x H' → g x (wipe σ vs) H' fun σ2 H2 => wipe σ2 vs = wipe σ vs ∧ tt σ2 H2 fun b H3 =>
        if b = true then te σ2 H3 fun y H4 => ∃ acc, H4 D = some (.lst acc) ∧ acc.length < sizeLine ∧ Nx (upd H4 D (.lst (acc ++ [y]))) else Nx H3) := by
  refine lc_range (lo := 0) (n := n) (fun i H' => H' = upd H1 D (.lst ((List.range i).map f))) rfl ?_ ?_
  · rintro i H' hi rfl
    refine hs i _ _ _ hi ⟨_, upd_same, by simp; exact small1000 (by omega), ?_⟩
    rw [upd_upd, List.range_succ, List.map_append]
    rfl
  · rintro H' rfl
    exact hd
theorem lc_mapH {n : Nat} {f : Nat → V} {g : TG} {tt : TT} {te : TE} {vs : List Nat} {σ : L2.St} {H1 : Hp} {D : Addr} {Qd : Hp → Prop} (hD : H1 D = none) (hz : n ≤ 1000)
    (hs : ∀ i H (N : V → Hp → Prop) (M : Hp → Prop), i < n → Same H1 H → N (f i) H → g (.int (0 + i)) (wipe σ vs) H fun σ2 H2 => wipe σ2 vs = wipe σ vs ∧ tt σ2 H2 fun b H3 => if b = true then te σ2 H3 N else M H3)
    (hd : Qd (upd H1 D (.lst ((List.range n).map f)))) :
    ∃ W : Nat → Nat → Hp → Prop, (∃ m, W 0 m (upd H1 D (.lst []))) ∧ ∀ i m H, W i m H →
      ((Itr 0 n).stop i H ∧ Qd H) ∨ ((Itr 0 n).go i H ∧ ∃ Nx : Hp → Prop, (∀ H', Nx H' → ∃ m', m' < m ∧ W (i + 1) m' H') ∧ ∀ x H', (Itr 0 n).yld i H x H' → g x (wipe σ vs) H' fun σ2 H2 => wipe σ2 vs = wipe σ vs ∧ tt σ2 H2 fun b H3 =>
        if b = true then te σ2 H3 fun y H4 => ∃ acc, H4 D = some (.lst acc) ∧ acc.length < sizeLine ∧ Nx (upd H4 D (.lst (acc ++ [y]))) else Nx H3) := by
  refine lc_range (lo := 0) (n := n) (fun i H' => H' = upd H1 D (.lst ((List.range i).map f))) rfl ?_ ?_
  · rintro i H' hi rfl
    refine hs i _ _ _ hi (Same.new _ hD) ⟨_, upd_same, by simp; exact small1000 (by omega), ?_⟩
    rw [upd_upd, List.range_succ, List.map_append]
    rfl
  · rintro H' rfl
    exact hd
def spNamesD : Sp := fun vs H Q _ => ∃ (b : Addr) (M n : Nat), vs = [.ref b, .int M] ∧ Box H b n ∧ n ≤ 800 ∧ M ≤ 13 ∧
  ∀ (p : Addr) (xs : List Str) (H' : Hp), H p = none → But b H H' → Box H' b (n + 12) → H' p = some (.lst (xs.map V.str)) → xs.length = M → xs.Nodup → (∀ x ∈ xs, isN (.str x) = true) → Q (.ref p) H'
theorem nodup_map {f : Nat → Str} {n : Nat} (h : ∀ i j, i < n → j < n → f i = f j → i = j) : ((List.range n).map f).Nodup := by
  rw [List.nodup_iff_pairwise_ne, List.pairwise_map]
  refine List.Pairwise.imp_of_mem (fun {a b} ha hb n e => n (h a b (List.mem_range.mp ha) (List.mem_range.mp hb) e)) (List.nodup_iff_pairwise_ne.mp List.nodup_range)
theorem low_name {x : Str} (h1 : 1 ≤ x.length) (h2 : x.length ≤ 8) (h : ∀ c ∈ tl x, Low c) : isN (.str x) = true := decide_eq_true ⟨h1, h2, h⟩
theorem cut0 {x : Str} (hx : x.length = 8) {z : Int} (hz : 0 ≤ z) : (cutS x none (some (1 + z.fmod 8))).length = 1 + (z % 8).toNat := by
  rw [Int.fmod_eq_emod_of_nonneg _ (by decide)]
  obtain ⟨k, hk⟩ := Int.eq_ofNat_of_zero_le (show 0 ≤ 1 + z % 8 by omega)
  rw [hk, len_cut_to]; omega
theorem cut_len (x : Str) (a e : Nat) : (cutS x (some (a : Int)) (some ((a : Int) + (e : Int)))).length ≤ e ∧ (cutS x (some (a : Int)) (some ((a : Int) + (e : Int)))).length ≤ x.length - a := by
  rw [← tl_len, show ((a : Int) + (e : Int)) = ((a + e : Nat) : Int) by simp, tl_cut, HT.sIx_nat, HT.sIx_nat, List.length_take, List.length_drop, tl_len]
  have : x.cps.size = x.length := rfl
  omega
theorem mid_eq {x y : Str} {a i j : Nat} (ha : a ≤ x.length) (h : (cutS x none (some (a : Int)) ++ (⟨#[97 + i]⟩ : Str)) ++ y = (cutS x none (some (a : Int)) ++ (⟨#[97 + j]⟩ : Str)) ++ y) : i = j := by
  have key : ∀ c, (tl ((cutS x none (some (a : Int)) ++ (⟨#[c]⟩ : Str)) ++ y))[a]? = some c := by
    intro c
    rw [tl_append, tl_append, tl_cut_to, List.append_assoc, List.getElem?_append_right (by simp [tl_len]; omega), List.length_take, tl_len, Nat.min_eq_left ha, Nat.sub_self]
    rfl
  have e := (key (97 + i)).symm.trans ((congrArg (fun z => (tl z)[a]?) h).trans (key (97 + j)))
  have : 97 + i = 97 + j := by simpa using e
  omega
theorem step_inj {step first : Int} {i j : Nat} (hs : step = 1 ∨ step = 3 ∨ step = 5 ∨ step = 7 ∨ step = 9 ∨ step = 11) (f0 : 0 ≤ first) (hi : i < 26) (hj : j < 26)
    (e : ((first + step * (0 + (i : Int))).fmod 26).toNat = ((first + step * (0 + (j : Int))).fmod 26).toNat) : i = j := by
  rw [Int.fmod_eq_emod_of_nonneg _ (by decide), Int.fmod_eq_emod_of_nonneg _ (by decide)] at e
  rcases hs with rfl | rfl | rfl | rfl | rfl | rfl <;> omega
def kWords : Str := Str.ofString "begin ports channel breaker ship a ab abc none port train hour ice"
def wordsL : List Str := [Str.ofString "begin", Str.ofString "ports", Str.ofString "channel", Str.ofString "breaker", Str.ofString "ship", Str.ofString "a", Str.ofString "ab", Str.ofString "abc", Str.ofString "none", Str.ofString "port", Str.ofString "train", Str.ofString "hour", Str.ofString "ice"]
theorem words_split : Txt.split kWords (Str.ofString " ") = wordsL := by decide +kernel
theorem wordsL_isN : ∀ x ∈ wordsL, Ice.isN (.str x) = true := by decide +kernel
theorem wordsL_nodup : wordsL.Nodup := by decide +kernel
theorem step13 {step first : Int} {i j : Nat} (hs : step = 1 ∨ step = 3 ∨ step = 5 ∨ step = 7 ∨ step = 9 ∨ step = 11) (f0 : 0 ≤ first) (hi : i < 13) (hj : j < 13)
    (e : ((first + step * (0 + (i : Int))).fmod 13).toNat = ((first + step * (0 + (j : Int))).fmod 13).toNat) : i = j := by
  rw [Int.fmod_eq_emod_of_nonneg _ (by decide), Int.fmod_eq_emod_of_nonneg _ (by decide)] at e
  rcases hs with rfl | rfl | rfl | rfl | rfl | rfl <;> omega
theorem nodup_getD {L : List Str} (h : L.Nodup) {i j : Nat} (hi : i < L.length) (hj : j < L.length) (e : L.getD i (Str.ofString "") = L.getD j (Str.ofString "")) : i = j := by
  rw [List.getD_eq_getElem?_getD, List.getD_eq_getElem?_getD, List.getElem?_eq_getElem hi, List.getElem?_eq_getElem hj] at e
  have e : L[i] = L[j] := e
  rcases Nat.lt_trichotomy i j with z | z | z
  · exact absurd e ((List.pairwise_iff_getElem.mp h) i j hi hj z)
  · exact z
  · exact absurd e.symm ((List.pairwise_iff_getElem.mp h) j i hj hi z)
theorem head_eq {x y : Str} {c d : Nat} (h : (⟨#[c]⟩ : Str) ++ x = (⟨#[d]⟩ : Str) ++ y) : c = d := by
  have e := congrArg (fun z => (tl z)[0]?) h
  simp only [tl_append] at e
  have e : some c = some d := e
  exact Option.some.inj e
theorem cut_n (x : Str) (a : Nat) : (cutS x none (some (a : Int))).length = min a x.length := len_cut_to x a
theorem ok_names (T : Top K mg) : FnG P w K mg base CX0 2 T.a_names T.d_names ["_law_box_here", "_law_many"] spNamesD := by
  have G_take := ok_take (P := P) (w := w) (base := base) T
  refine okG T.F_names sc_names (fun vs H Q E h => ?_) (fun cdv A outer s H vs Q E hr hgd h => ?_)
  · obtain ⟨b, M, n, rfl, _⟩ := h
    rfl
  · obtain ⟨b, M, n, rfl, hB, hn, hM, q⟩ := h
    refine ⟨_, (pss_cons (ps_set (i := 2) sc_names.nd rfl (by first | exact Or.inl rfl | exact Or.inr rfl) pe_str)
      (pss_cons (ps_set (i := 3) sc_names.nd rfl (by first | exact Or.inl rfl | exact Or.inr rfl) (g_call G_take (hr.mono (by decide)) hgd (by rfl) T.m_take T.F_take.kp T.b_take .nil pass0 (pa_cons (pv 0) (pa_cons pe_int pa_nil))))
      (pss_cons (ps_set (i := 4) sc_names.nd rfl (by first | exact Or.inl rfl | exact Or.inr rfl) (g_call G_take (hr.mono (by decide)) hgd (by rfl) T.m_take T.F_take.kp T.b_take .nil pass0 (pa_cons (pv 0) (pa_cons pe_int pa_nil))))
      (pss_cons (ps_set (i := 5) sc_names.nd rfl (by first | exact Or.inl rfl | exact Or.inr rfl) (pe_ix ix_list (pe_lst (pa_cons pe_int (pa_cons pe_int (pa_cons pe_int (pa_cons pe_int (pa_cons pe_int (pa_cons pe_int pa_nil))))))) (g_call G_take (hr.mono (by decide)) hgd (by rfl) T.m_take T.F_take.kp T.b_take .nil pass0 (pa_cons (pv 0) (pa_cons pe_int pa_nil))) (fun _ _ => rfl)))
      (pss_cons (ps_if (pt_cmpR op_eq (pv 3) pe_int (nomark _))
        (pss_cons (ps_set (i := 6) sc_names.nd rfl (by first | exact Or.inl rfl | exact Or.inr rfl) (pe_split pe_str pe_str))
      (pss_one (ps_ret (pe_lc (own := [("_law_k", 11)]) (g := gName 11) rfl sc_names.nd (pi_range1 (by rfl) T.n_range (pa_cons (pv 1) pa_nil)) (blkOk_by (own := [("_law_k", 11)]) (N := ["_law_box_here", "_law_many", "_law_letters", "_law_way", "_law_first", "_law_step", "_law_words", "_law_stem", "_law_found", "_law_at", "_law_long", "_law_k"]) (sc := defScope s_names) (by decide +kernel)) (fun _ _ _ _ _ => (pg_name (i := 11) sc_names.nd rfl (by first | exact Or.inl rfl | exact Or.inr rfl))) (fun _ _ _ _ _ => pts_nil) (fun _ _ _ _ _ => (pe_ix (show IxR _ (rIxL K) from ix_list) (pv 6) (pe_op op_modN (pe_op op_add (pv 4) (pe_op op_mul (pv 5) (pv 11))) pe_int) (fun _ _ => rfl)))))))
        pss_nil)
      (pss_cons (ps_set (i := 7) sc_names.nd rfl (by first | exact Or.inl rfl | exact Or.inr rfl) (pe_m1 PySem.F.slot_str_join PySem.F.type_str_join m_join pe_str (pe_lc (own := [("_law_k", 11)]) (g := gName 11) rfl sc_names.nd (pi_range1 (by rfl) T.n_range (pa_cons pe_int pa_nil)) (blkOk_by (own := [("_law_k", 11)]) (N := ["_law_box_here", "_law_many", "_law_letters", "_law_way", "_law_first", "_law_step", "_law_words", "_law_stem", "_law_found", "_law_at", "_law_long", "_law_k"]) (sc := defScope s_names) (by decide +kernel)) (fun _ _ _ _ _ => (pg_name (i := 11) sc_names.nd rfl (by first | exact Or.inl rfl | exact Or.inr rfl))) (fun _ _ _ _ _ => pts_nil) (fun _ _ _ _ _ => (pe_ix ix_str (pv 2) (g_call G_take (hr.mono (by decide)) hgd (by rfl) T.m_take T.F_take.kp T.b_take .nil pass0 (pa_cons (pv 0) (pa_cons pe_int pa_nil))) (fun _ _ => rfl))))))
      (pss_cons (ps_if (pt_cmpR op_eq (pv 3) pe_int (nomark _))
        (pss_cons (ps_setLc (i := 8) (own := [("_law_k", 11)]) (g := gName 11) rfl sc_names.nd rfl rfl (sw_true rfl rfl rfl (by decide +kernel)) (pi_range1 (by rfl) T.n_range (pa_cons (pv 1) pa_nil)) (blkOk_by (own := [("_law_k", 11)]) (N := ["_law_box_here", "_law_many", "_law_letters", "_law_way", "_law_first", "_law_step", "_law_words", "_law_stem", "_law_found", "_law_at", "_law_long", "_law_k"]) (sc := defScope s_names) (by decide +kernel)) (fun _ _ _ _ _ => (pg_name (i := 11) sc_names.nd rfl (by first | exact Or.inl rfl | exact Or.inr rfl))) (fun _ _ _ _ _ => pts_nil) (fun _ _ _ _ _ => (pe_op o_addT (pe_ix ix_str (pv 2) (pe_op op_modN (pe_op op_add (pv 4) (pe_op op_fdivN (pv 11) pe_int)) pe_int) (fun _ _ => rfl)) (pe_slice sl_str (pv 7) po_none (po_some (pe_op op_modN (pv 11) pe_int))))))
      (pss_cons (ps_set (i := 9) sc_names.nd rfl (by first | exact Or.inl rfl | exact Or.inr rfl) (g_call G_take (hr.mono (by decide)) hgd (by rfl) T.m_take T.F_take.kp T.b_take .nil pass0 (pa_cons (pv 0) (pa_cons (pe_op op_add (pv 1) pe_int) pa_nil))))
      (pss_one (ps_ret (pe_op op_cat (pe_slice sl_list (pv 8) (po_some (pv 9)) po_none) (pe_revL (pe_slice sl_list (pv 8) po_none (po_some (pv 9)))))))))
        pss_nil)
      (pss_cons (ps_set (i := 9) sc_names.nd rfl (by first | exact Or.inl rfl | exact Or.inr rfl) (g_call G_take (hr.mono (by decide)) hgd (by rfl) T.m_take T.F_take.kp T.b_take .nil pass0 (pa_cons (pv 0) (pa_cons pe_int pa_nil))))
      (pss_cons (ps_set (i := 10) sc_names.nd rfl (by first | exact Or.inl rfl | exact Or.inr rfl) (pe_callB (c_max2) (by rfl) T.n_max (by decide +kernel) (pa_cons (pv 9) (pa_cons (g_call G_take (hr.mono (by decide)) hgd (by rfl) T.m_take T.F_take.kp T.b_take .nil pass0 (pa_cons (pv 0) (pa_cons pe_int pa_nil))) pa_nil))))
      (pss_one (ps_ret (pe_lc (own := [("_law_k", 11)]) (g := gName 11) rfl sc_names.nd (pi_range1 (by rfl) T.n_range (pa_cons (pv 1) pa_nil)) (blkOk_by (own := [("_law_k", 11)]) (N := ["_law_box_here", "_law_many", "_law_letters", "_law_way", "_law_first", "_law_step", "_law_words", "_law_stem", "_law_found", "_law_at", "_law_long", "_law_k"]) (sc := defScope s_names) (by decide +kernel)) (fun _ _ _ _ _ => (pg_name (i := 11) sc_names.nd rfl (by first | exact Or.inl rfl | exact Or.inr rfl))) (fun _ _ _ _ _ => pts_nil) (fun _ _ _ _ _ => (pe_op o_addT (pe_op o_addT (pe_slice sl_str (pv 7) po_none (po_some (pv 9))) (pe_ix ix_str (pv 2) (pe_op op_modN (pe_op op_add (pv 4) (pe_op op_mul (pv 5) (pv 11))) pe_int) (fun _ _ => rfl))) (pe_slice sl_str (pv 7) (po_some (pv 9)) (po_some (pv 10))))))))))))))))), ?_⟩
    walk_at "rd"
    refine ⟨b, 3, n, rfl, hB, by omega, by decide, by decide, fun way H1 w0 w1 e1 B1 => ?_⟩
    walk_at "rd"
    refine ⟨b, 26, n + 1, rfl, B1, by omega, by decide, by decide, fun first H2 f0 f1 e2 B2 => ?_⟩
    walk_at "rd"
    (intro p hp; generalize ep : upd _ p _ = J; have N := New.of ep hp; clear ep hp)
    walk_at "rd"
    refine ⟨b, 6, n + 2, rfl, B2.nw N, by omega, by decide, by decide, fun d3 H3 d30 d31 e3 B3 => ?_⟩
    obtain ⟨v, hv, hm, _⟩ := atI_some (xs := [V.int 1, V.int 3, V.int 5, V.int 7, V.int 9, V.int 11]) d30 (by simpa using d31)
    refine i_ixL (SqL.lst (e3 p _ (B2.off N) N.at_)) hv ?_
    obtain ⟨step, rfl, hs⟩ : ∃ s : Int, v = .int s ∧ (s = 1 ∨ s = 3 ∨ s = 5 ∨ s = 7 ∨ s = 9 ∨ s = 11) := by
      simp only [List.mem_cons, List.not_mem_nil, or_false] at hm
      rcases hm with h | h | h | h | h | h
      all_goals exact ⟨_, h, by decide⟩
    have e03 : But b H H3 := e1.trans (e2.trans (N.but.trans e3))
    walk_at "rd"
    refine ifs (fun h1 => ?_) (fun h1 => ?_)
    · walk_at "rd"
      refine ⟨_, _, rfl, rfl, by decide +kernel, sz_of (by decide +kernel), ?_⟩
      rw [show Txt.split (Str.ofString "begin ports channel breaker ship a ab abc none port train hour ice") (Str.ofString " ") = wordsL from words_split]
      show ∀ p, H3 p = none → _
      (intro pw hpw; generalize epw : upd _ pw _ = J4; have N4 := New.of epw hpw; clear epw hpw)
      walk_at "rd"
      refine ⟨M, rfl, by omega, by omega, fun D hD => ?_⟩
      have B4 := B3.nw N4
      have b2 := B4.ne hD
      refine lc_mapH (f := fun k => V.str (wordsL.getD ((first + step * (0 + (k : Int))).fmod 13).toNat (Str.ofString ""))) hD (by omega) ?_ ?_
      · intro i H9 N9 M9 hi s9 hN
        have f13 := Int.fmod_lt_of_pos (first + step * (0 + (i : Int))) (by decide : (0 : Int) < 13)
        have f130 := Int.fmod_nonneg_of_pos (first + step * (0 + (i : Int))) (by decide : (0 : Int) < 13)
        walk_at "rd"
        refine i_ixL (v := V.str (wordsL.getD ((first + step * (0 + (i : Int))).fmod 13).toNat (Str.ofString ""))) (SqL.lst (s9 _ _ N4.at_)) ?_ hN
        obtain ⟨k, hk⟩ := Int.eq_ofNat_of_zero_le f130
        rw [hk]
        refine atI_nat ?_
        have : k < wordsL.length := by show k < 13; omega
        rw [List.getElem?_map, List.getElem?_eq_getElem this, List.getD_eq_getElem?_getD, Int.toNat_natCast, List.getElem?_eq_getElem this]; rfl
      · have ib : ∀ k : Nat, ((first + step * (0 + (k : Int))).fmod 13).toNat < wordsL.length := fun k => by
          have f13 := Int.fmod_lt_of_pos (first + step * (0 + (k : Int))) (by decide : (0 : Int) < 13)
          have f130 := Int.fmod_nonneg_of_pos (first + step * (0 + (k : Int))) (by decide : (0 : Int) < 13)
          show _ < 13; omega
        refine q D ((List.range (M : Int).toNat).map fun (k : Nat) => wordsL.getD ((first + step * (0 + (k : Int))).fmod 13).toNat (Str.ofString "")) _ ((e03.trans N4.but).free b2 hD) ((e03.trans N4.but).trans (But.new _ hD)) ((B4.new hD).mono (by omega)) (by rw [upd_same, List.map_map]; rfl) (by simp) ?_ ?_
        · refine nodup_map fun i j hi hj e => ?_
          have hi' : i < M := by simpa using hi
          have hj' : j < M := by simpa using hj
          exact step13 hs f0 (by omega) (by omega) (nodup_getD wordsL_nodup (ib i) (ib j) e)
        · intro x hx
          obtain ⟨k, hk, rfl⟩ := List.mem_map.mp hx
          refine wordsL_isN _ ?_
          rw [List.getD_eq_getElem?_getD, List.getElem?_eq_getElem (ib k)]
          exact List.getElem_mem _
    · walk_at "rd"
      refine ⟨7, rfl, by decide, by decide, fun D hD => ?_⟩
      refine lc_draw (P := Low) B3 hD (by decide) ?_ (fun i H N M h => ⟨h.1, h.2⟩) ?_
      · intro i H' hi e6 B6 N hN
        walk_at "rd"
        refine ⟨b, 26, _, rfl, B6, by omega, by decide, by decide, fun d H7 d0 d1 e7 B7 => ?_⟩
        obtain ⟨c, hc, pc⟩ := sign_at (P := Low) (x := Str.ofString "abcdefghijklmnopqrstuvwxyz") d0 (by rw [letters_len]; exact d1) low_all
        exact i_ixS (by decide +kernel) hc (hN c _ pc e7 B7)
      intro acc H6 e6 B6 hA hl h1'
      refine join_draw (e := Str.ofString "") (by decide +kernel) hA (by omega) h1' fun stem slen sall => ?_
      rw [hl] at slen
      have e06 : But b H H6 := e03.trans e6
      walk_at "rd"
      refine ifs (fun h2 => ?_) (fun h2 => ?_)
      · walk_at "rd"
        refine ⟨M, rfl, by omega, by omega, fun D2 hD2 => ?_⟩
        have b2 := B6.ne hD2
        have kd : ∀ k : Nat, k < M → (0 + (k : Int)).fdiv 8 = (k / 8 : Nat) ∧ (0 + (k : Int)).fmod 8 = ((k % 8 : Nat) : Int) := fun k hk => by
          rw [Int.fdiv_eq_ediv_of_nonneg _ (by decide), Int.fmod_eq_emod_of_nonneg _ (by decide)]
          omega
        let f : Nat → Str := fun k => (⟨#[97 + ((first + ((k / 8 : Nat) : Int)).fmod 26).toNat]⟩ : Str) ++ cutS stem none (some ((k % 8 : Nat) : Int))
        have fl : ∀ k, (f k).length = 1 + k % 8 := fun k => by
          show ((⟨#[_]⟩ : Str) ++ cutS stem none (some ((k % 8 : Nat) : Int))).length = _
          rw [len_add, cut_n, slen]
          show 1 + min (k % 8) 7 = _
          omega
        refine lc_mapH (f := fun k => V.str (f k)) hD2 (by omega) ?_ ?_
        · intro i H9 N9 M9 hi s9 hN
          have hi' : i < M := by simpa using hi
          obtain ⟨k1, k2⟩ := kd i hi'
          walk_at "rd"
          rw [k1]
          refine i_ixS (by decide +kernel) (letter_at (Int.fmod_nonneg_of_pos _ (by decide)) (Int.fmod_lt_of_pos _ (by decide))) ?_
          walk_at "rd"
          rw [k2]
          refine i_slS (sz_of (by omega)) ?_
          refine i_addT (sz_of (by rw [cut_n, slen]; show 1 + _ ≤ _; omega)) ?_
          exact hN
        have lowf : ∀ k, isN (.str (f k)) = true := fun k => by
          have fm := Int.fmod_lt_of_pos (first + ((k / 8 : Nat) : Int)) (by decide : (0 : Int) < 26)
          exact low_name (by rw [fl]; omega) (by rw [fl]; omega) (add_all (one_all ⟨by omega, by omega⟩) (cut_all sall))
        have ndf : ((List.range M).map f).Nodup := nodup_map fun i j hi hj e => by
          have e1 := congrArg Str.length e
          rw [fl, fl] at e1
          have e2 := head_eq e
          rw [Int.fmod_eq_emod_of_nonneg _ (by decide), Int.fmod_eq_emod_of_nonneg _ (by decide)] at e2
          omega
        generalize eX : upd H6 D2 _ = X
        have NX : New H6 D2 (.lst (((List.range M).map f).map V.str)) X := by
          refine New.of ?_ hD2
          rw [← eX, List.map_map]; rfl
        have BX := B6.nw NX
        have nD : D2 ≠ b := b2
        walk_at "rd"
        refine ⟨b, (M : Int) + 1, _, rfl, BX, by omega, by omega, by omega, fun at_ H7 a0 a1 e7 B7 => ?_⟩
        obtain ⟨a, rfl⟩ := Int.eq_ofNat_of_zero_le a0
        have lxs : ((List.range M).map f).length = M := by simp
        have la : a ≤ (((List.range M).map f).map V.str).length := by rw [List.length_map, lxs]; omega
        have kD7 : H7 D2 = some (.lst (((List.range M).map f).map V.str)) := e7 _ _ nD NX.at_
        walk_at "rd"
        refine ⟨D2, _, rfl, SqL.lst kD7, ?_⟩
        rw [cutV_from _ la, ← List.map_drop]
        (intro c1 hc1; generalize ec1 : upd _ c1 _ = G1; have L1 := New.of ec1 hc1; clear ec1 hc1)
        walk_at "rd"
        refine ⟨D2, _, rfl, SqL.lst (L1.app kD7), ?_⟩
        rw [cutV_to _ la, ← List.map_take]
        (intro c2 hc2; generalize ec2 : upd _ c2 _ = G2; have L2 := New.of ec2 hc2; clear ec2 hc2)
        walk_at "rd"
        refine ⟨c2, _, rfl, SqL.lst L2.at_, ?_⟩
        rw [← List.map_reverse]
        (intro c3 hc3; generalize ec3 : upd _ c3 _ = G3; have L3 := New.of ec3 hc3; clear ec3 hc3)
        walk_at "rd"
        have hz1 : (((List.range M).map f).drop a).length + (((List.range M).map f).take a).reverse.length ≤ 26 := by rw [List.length_drop, List.length_reverse, List.length_take, lxs]; omega
        try refine i_cat (L3.app (L2.app L1.at_)) L3.at_ (by rw [List.length_map, List.length_map]; exact sz_of (by omega)) ?_
        (intro c4 hc4; generalize ec4 : upd _ c4 _ = G4; have L4 := New.of ec4 hc4; clear ec4 hc4)
        rw [← List.map_append] at L4
        have e64 : But b H6 G4 := NX.but.trans (e7.trans (L1.but.trans (L2.but.trans (L3.but.trans L4.but))))
        have B4' := (((B7.nw L1).nw L2).nw L3)
        have n4b : c4 ≠ b := B4'.off L4
        have pm : (((List.range M).map f).drop a ++ (((List.range M).map f).take a).reverse).Perm ((List.range M).map f) := by
          have p1 := List.Perm.append_left (((List.range M).map f).drop a) (List.reverse_perm (((List.range M).map f).take a))
          have p2 := List.perm_append_comm (l₁ := ((List.range M).map f).drop a) (l₂ := ((List.range M).map f).take a)
          rw [List.take_append_drop] at p2
          exact p1.trans p2
        refine q c4 _ G4 ((e06.trans (NX.but.trans (e7.trans (L1.but.trans (L2.but.trans L3.but))))).free n4b L4.free) (e06.trans e64) ((B4'.nw L4).mono (by omega)) L4.at_ (by rw [pm.length_eq, lxs]) (pm.nodup_iff.mpr ndf) ?_
        intro x hx
        obtain ⟨k, _, rfl⟩ := List.mem_map.mp (pm.mem_iff.mp hx)
        exact lowf k
      · walk_at "rd"
        refine ⟨b, 8, _, rfl, B6, by omega, by decide, by decide, fun at_ H7 a0 a1 e7 B7 => ?_⟩
        walk_at "rd"
        refine ⟨b, 8, _, rfl, B7, by omega, by decide, by decide, fun lo H8 l0 l1' e8 B8 => ?_⟩
        walk_at "rd"
        obtain ⟨a, rfl⟩ := Int.eq_ofNat_of_zero_le a0
        obtain ⟨e, he, ae⟩ : ∃ e : Nat, (if lo > (a : Int) then lo else (a : Int)) = (a : Int) + (e : Int) ∧ a + e ≤ 7 := by
          refine ⟨((if lo > (a : Int) then lo else (a : Int)) - a).toNat, ?_, ?_⟩
          · split <;> omega
          · split <;> omega
        rw [he]
        have e06' := e06
        replace e06 : But b H H8 := e06'.trans (e7.trans e8)
        replace B6 := B8
        refine ⟨M, rfl, by omega, by omega, fun D2 hD2 => ?_⟩
        have b2 := B6.ne hD2
        refine lc_map (f := fun k => V.str ((cutS stem none (some (a : Int)) ++ (⟨#[97 + ((first + step * (0 + (k : Int))).fmod 26).toNat]⟩ : Str)) ++ cutS stem (some (a : Int)) (some ((a : Int) + (e : Int))))) hD2 (by omega) ?_ ?_
        · intro i H9 N9 M9 hi hN
          have hi' : i < M := by simpa using hi
          walk_at "rd"
          refine i_slS (sz_of (by omega)) ?_
          walk_at "rd"
          refine i_ixS (by decide +kernel) (letter_at (Int.fmod_nonneg_of_pos _ (by decide)) (Int.fmod_lt_of_pos _ (by decide))) ?_
          have l1 := len_cut_to stem a
          refine i_addT (sz_of (by rw [l1]; show _ + 1 ≤ _; omega)) ?_
          walk_at "rd"
          refine i_slS (sz_of (by omega)) ?_
          have l2 := cut_len stem a e
          refine i_addT (sz_of (by rw [len_add, l1]; show (_ + 1) + _ ≤ _; omega)) ?_
          exact hN
        · refine q D2 ((List.range (M : Int).toNat).map fun (k : Nat) => ((cutS stem none (some (a : Int)) ++ (⟨#[97 + ((first + step * (0 + (k : Int))).fmod 26).toNat]⟩ : Str)) ++ cutS stem (some (a : Int)) (some ((a : Int) + (e : Int))))) _ (e06.free b2 hD2) (e06.trans (But.new _ hD2)) ((B6.new hD2).mono (by omega)) (by rw [upd_same, List.map_map]; rfl) (by simp) ?_ ?_
          · refine nodup_map fun i j hi hj e => ?_
            have hi' : i < M := by simpa using hi
            have hj' : j < M := by simpa using hj
            have e2 := mid_eq (by rw [slen]; omega) e
            exact step_inj hs f0 (by omega) (by omega) e2
          · intro x hx
            obtain ⟨k, hk, rfl⟩ := List.mem_map.mp hx
            have l1 := len_cut_to stem a
            have l2 := cut_len stem a e
            have fl := Int.fmod_lt_of_pos (first + step * (0 + (k : Int))) (by decide : (0 : Int) < 26)
            refine low_name ?_ ?_ (add_all (add_all (cut_all sall) (one_all ⟨by omega, by omega⟩)) (cut_all sall))
            · rw [len_add, len_add, l1]; show 1 ≤ (_ + 1) + _; omega
            · rw [len_add, len_add, l1]; show (_ + 1) + _ ≤ 8; omega
end

end Ice

set_option Elab.async false
set_option linter.all false
set_option maxRecDepth 100000
set_option maxHeartbeats 4000000
set_option autoImplicit true
namespace Ice
open PySem PySem.Spec PyProof.Rows L2 TL
/-! side conditions, heaps, one step of a reading, and many -/
local macro_rules | `(tactic| walk_at "hp") => `(tactic| first | assumption | exact upd_same | exact New.at_ (by assumption) | (refine keepU ?_ (by assumption); walk_at "hp") | (refine New.app (by assumption) ?_; walk_at "hp") | (refine Same.app (by assumption) ?_; walk_at "hp") | (refine But.app (by assumption) (by assumption) ?_; walk_at "hp"))
local macro_rules | `(tactic| walk_at "sq") => `(tactic| first | assumption | exact SqL.lst (by walk_at "hp") | exact L2.Same.seq (New.same (by assumption)) (by assumption) | exact L2.Same.seq (by assumption) (by assumption))
local macro_rules | `(tactic| walk_at "len") => `(tactic| first | assumption | (simp only [List.length_cons, List.length_nil, List.length_append, List.length_map]; decide) | (refine Ice.sz_of ?_; simp only [List.length_cons, List.length_nil, List.length_append, List.length_map]; omega))
local macro_rules | `(tactic| walk_at "fresh") => `(tactic| (simp only [List.map_append, List.map_cons, List.map_nil, List.nil_append, List.cons_append]; decide +kernel))
local macro_rules | `(tactic| walk_at "sd") => `(tactic| first | assumption | (show _ ≠ _; omega) | exact Or.inl ⟨by omega, by omega⟩ | exact Or.inr ⟨by omega, by omega⟩ | exact ⟨by decide, by decide⟩ | exact ⟨by decide, by decide, by decide⟩ | exact ⟨by omega, by omega, by omega⟩)
/-! one step of a reading, and many -/
local macro_rules | `(tactic| walk_at "st") => `(tactic| first
  | with_reducible refine i_seq ?_
  | with_reducible refine i_if ?_
  | with_reducible refine i_next ?_
  | with_reducible refine i_ret ?_
  | with_reducible refine i_retN ?_
  | with_reducible refine i_drop ?_
  | with_reducible refine i_asg ?_
  | with_reducible refine i_gname ?_
  | with_reducible refine i_gsub ?_
  | ((with_reducible refine i_var (v := ?vv) ?hv ?_); (case hv => exact rfl))
  | with_reducible refine i_c ?_
  | with_reducible refine i_op ?_
  | with_reducible refine i_un ?_
  | with_reducible refine i_test ?_
  | with_reducible refine i_tB ?_
  | with_reducible refine i_and ?_
  | with_reducible refine i_or ?_
  | with_reducible refine i_not ?_
  | with_reducible refine i_andV ?_
  | with_reducible refine i_orV ?_
  | with_reducible refine i_notV ?_
  | with_reducible refine i_ifE ?_
  | with_reducible refine i_chain ?_
  | with_reducible refine i_bl ?_
  | with_reducible refine i_nil ?_
  | with_reducible refine i_cons ?_
  | with_reducible refine i_call ?_
  | with_reducible refine i_cb ?_
  | with_reducible refine i_rI0 ?_
  | with_reducible refine i_rU ?_
  | ((with_reducible refine i_rEq ?hs ?_); (case hs => exact rfl))
  | ((with_reducible refine i_rNe ?hs ?_); (case hs => exact rfl))
  | ((with_reducible refine i_rI ?hc ?_); (case hc => walk_at "sd"))
  | ((with_reducible refine i_ixL (xs := ?xs) (v := ?vv) ?hS ?he ?_); (case hS => walk_at "sq"); (case he => exact rfl))
  | ((with_reducible refine i_setL (xs := ?xs) (j := ?jj) ?hS ?he ?_); (case hS => walk_at "hp"); (case he => exact rfl))
  | with_reducible refine i_tup ?_
  | with_reducible refine i_lst ?_
  | with_reducible refine i_bm ?_
  | with_reducible refine i_bm0 ?_
  | with_reducible refine i_m1 ?_
  | with_reducible refine i_sl ?_
  | with_reducible refine i_nopart ?_
  | with_reducible refine i_part ?_
  | with_reducible refine i_int ?_
  | with_reducible refine i_str ?_
  | with_reducible refine i_for ?_
  | with_reducible refine i_yes ?_
  | ((with_reducible refine i_lenL (xs := ?xs) ?hS ?_); (case hS => walk_at "sq"))
  | ((with_reducible refine i_room ?hz ?_); (case hz => walk_at "len"))
  | with_reducible refine i_leT ?_
  | with_reducible refine i_notInS ?_
  | with_reducible refine i_inS ?_
  | with_reducible refine i_find ?_
  | with_reducible refine i_isB ?_
  | with_reducible refine i_max2 ?_
  | with_reducible refine i_min2 ?_
  | with_reducible exact trivial
  | with_reducible refine iteT ?_
  | with_reducible refine iteF ?_
  | with_reducible refine i_isstr ?_
  | with_reducible refine i_lc ?_
  | ((with_reducible refine i_cat (xs := ?xs) (zs := ?zs) ?ha ?hb ?hz ?_); (case ha => walk_at "hp"); (case hb => walk_at "hp"); (case hz => walk_at "len"))
  | ((with_reducible refine i_tyL (xs := ?xs) ?ha ?_); (case ha => walk_at "hp"))
  | with_reducible refine i_list ?_
  | with_reducible refine i_disp ?_
  | with_reducible refine i_pairs0 ?_
  | with_reducible refine i_pairs ?_
  | with_reducible refine i_newK ?_
  | with_reducible refine i_gcons ?_
  | with_reducible refine i_gnil ?_
  | with_reducible refine i_revL ?_
  | with_reducible refine i_rng1 ?_
  | ((with_reducible refine i_wipe ?hw ?_); (case hw => exact rfl))
  | with_reducible refine iteNT ?_
  | with_reducible refine iteNF ?_)
local macro_rules | `(tactic| walk_at "sx") => `(tactic| first
  | walk_at "st"
  | with_reducible refine i_kinit ?_
  | with_reducible refine i_ost ?_
  | with_reducible refine i_mkO ?_
  | with_reducible refine i_callE ?_
  | with_reducible refine i_makeE ?_
  | with_reducible refine i_xf ?_
  | with_reducible refine i_sfld ?_
  | with_reducible refine i_fld ?_
  | ((with_reducible refine i_ixT (xs := ?xs) (v := ?vv) ?hS ?he ?_); (case hS => exact SqT.tup (by walk_at "hp")); (case he => exact rfl))
  | with_reducible refine i_intB ?_
  | with_reducible refine i_runS ?_
  | with_reducible refine i_runN ?_
  | ((with_reducible refine i_xf1 (fs := ?ff) (v := ?vv) ?hx ?hl ?_); (case hx => walk_at "hp"); (case hl => exact rfl))
  | with_reducible refine i_methE ?_
  | with_reducible refine i_meth ?_
  | with_reducible refine i_make ?_
  | ((with_reducible refine i_obj (dx := ?dd) (fs := ?ff) ?hx ?hl ?_); (case hx => walk_at "hp"); (case hl => exact rfl))
  | ((with_reducible refine i_fld1 (C := ?CC) (dx := ?dd) (fs := ?ff) (v := ?vv) ?hx ?cl ?na ?hl ?_); (case hx => walk_at "hp"); (case cl => assumption); (case na => assumption); (case hl => exact rfl)))
local macro_rules | `(tactic| walk_at "sy") => `(tactic| first
  | walk_at "sx"
  | with_reducible refine i_dget ?_
  | with_reducible refine i_dget2 ?_
  | with_reducible refine i_dput ?_
  | with_reducible refine i_din ?_
  | ((with_reducible refine i_aug (x := ?vv) ?hx ?_); (case hx => exact rfl)))
local macro_rules | `(tactic| walk_at "rd") => `(tactic| repeat (walk_at "sy"))

section
variable {P : Program} {w : World} {K : PySem.W.Frag} {mg : Str → Option Value} {base : Heap}
theorem pickS {ns : List Str} {d : Int} (d0 : 0 ≤ d) (d1 : d < (ns.length : Int)) : ∃ g, atI (ns.map V.str) d = some (.str g) ∧ g ∈ ns ∧ ns[d.toNat]? = some g := by
  obtain ⟨k, rfl⟩ := Int.eq_ofNat_of_zero_le d0
  have hk : k < ns.length := by omega
  exact ⟨ns[k], atI_nat (by rw [List.getElem?_map, List.getElem?_eq_getElem hk]; rfl), List.getElem_mem _, by simp [List.getElem?_eq_getElem hk]⟩
theorem mod_ne {a t M : Int} (a0 : 0 ≤ a) (a1 : a < M) (t0 : 0 ≤ t) (t1 : t < M - 1) : (a + 1 + t) % M ≠ a := by
  by_cases h : a + 1 + t < M
  · rw [Int.emod_eq_of_lt (by omega) h]; omega
  · rw [show a + 1 + t = (a + 1 + t - M) + M by omega, Int.add_emod_right, Int.emod_eq_of_lt (by omega) (by omega)]; omega
theorem nodup_ne {ns : List Str} {i j : Nat} {x y : Str} (h : ns.Nodup) (hi : ns[i]? = some x) (hj : ns[j]? = some y) (n : i ≠ j) : x ≠ y := by
  have li := (List.getElem?_eq_some_iff.mp hi)
  have lj := (List.getElem?_eq_some_iff.mp hj)
  obtain ⟨li, rfl⟩ := li
  obtain ⟨lj, rfl⟩ := lj
  rcases Nat.lt_or_gt_of_ne n with z | z
  · exact (List.pairwise_iff_getElem.mp h) i j li lj z
  · exact fun e => (List.pairwise_iff_getElem.mp h) j i lj li z e.symm
/-- the ports of a drawn world -/
structure PsOk (b : Addr) (H : Hp) (pl : Addr) (ps : List Str) : Prop where
  nb : pl ≠ b
  k : H pl = some (.lst (ps.map V.str))
  l1 : 1 ≤ ps.length
  l8 : ps.length ≤ 8
  nd : ps.Nodup
  isn : ∀ x ∈ ps, Ice.isN (.str x) = true
theorem PsOk.but {b : Addr} {H H' : Hp} {pl : Addr} {ps : List Str} (o : PsOk b H pl ps) (e : But b H H') : PsOk b H' pl ps := ⟨o.nb, e _ _ o.nb o.k, o.l1, o.l8, o.nd, o.isn⟩
def spChR : Sp := fun vs H Q _ => ∃ (b pl : Addr) (nm : Str) (ps : List Str) (n : Nat), vs = [.ref b, .str nm, .ref pl] ∧ Box H b n ∧ n ≤ 700 ∧ PsOk b H pl ps ∧ 2 ≤ ps.length ∧ Ice.isN (.str nm) = true ∧
  ∀ (p : Addr) (c : Cd) (H' : Hp), But b H H' → Box H' b (n + 12) → H' p = some (.tup c.row) → c.ok → c.n = nm → c.o ∈ ps → c.t ∈ ps → Q (.ref p) H'
theorem ok_channel (T : Top K mg) : FnG P w K mg base CX0 3 T.a_channel T.d_channel ["_law_box_here", "_law_name", "_law_ports"] spChR := by
  have G_take := ok_take (P := P) (w := w) (base := base) T
  have G_number := ok_number (P := P) (w := w) (base := base) T
  refine okG T.F_channel sc_channel (fun vs H Q E h => ?_) (fun cdv A outer s H vs Q E hr hgd h => ?_)
  · obtain ⟨b, pl, nm, ps, n, rfl, _⟩ := h
    rfl
  · obtain ⟨b, pl, nm, ps, n, rfl, hB, hn, po, l2, inm, q⟩ := h
    refine ⟨_, (pss_cons (ps_set (i := 3) sc_channel.nd rfl (by first | exact Or.inl rfl | exact Or.inr rfl) (g_call G_take (hr.mono (by decide)) hgd (by rfl) T.m_take T.F_take.kp T.b_take .nil pass0 (pa_cons (pv 0) (pa_cons (pe_callB c_len (by rfl) T.n_len (by decide +kernel) (pa_cons (pv 2) pa_nil)) pa_nil))))
      (pss_cons (ps_set (i := 4) sc_channel.nd rfl (by first | exact Or.inl rfl | exact Or.inr rfl) (pe_op op_modN (pe_op op_add (pe_op op_add (pv 3) pe_int) (g_call G_take (hr.mono (by decide)) hgd (by rfl) T.m_take T.F_take.kp T.b_take .nil pass0 (pa_cons (pv 0) (pa_cons (pe_op op_sub (pe_callB c_len (by rfl) T.n_len (by decide +kernel) (pa_cons (pv 2) pa_nil)) pe_int) pa_nil)))) (pe_callB c_len (by rfl) T.n_len (by decide +kernel) (pa_cons (pv 2) pa_nil))))
      (pss_cons (ps_set (i := 5) sc_channel.nd rfl (by first | exact Or.inl rfl | exact Or.inr rfl) (g_call G_number (hr.mono (by decide)) hgd (by rfl) T.m_number T.F_number.kp T.b_number .nil pass0 (pa_cons (pv 0) (pa_cons pe_int (pa_cons (pe_op op_pow pe_int pe_int) pa_nil)))))
      (pss_cons (ps_set (i := 6) sc_channel.nd rfl (by first | exact Or.inl rfl | exact Or.inr rfl) (pe_tup (pa_cons (pv 1) (pa_cons (pe_ix ix_list (pv 2) (pv 3) (fun _ _ => rfl)) (pa_cons (pe_ix ix_list (pv 2) (pv 4) (fun _ _ => rfl)) (pa_cons (g_call G_number (hr.mono (by decide)) hgd (by rfl) T.m_number T.F_number.kp T.b_number .nil pass0 (pa_cons (pv 0) (pa_cons pe_int (pa_cons pe_int pa_nil)))) (pa_cons (g_call G_number (hr.mono (by decide)) hgd (by rfl) T.m_number T.F_number.kp T.b_number .nil pass0 (pa_cons (pv 0) (pa_cons pe_int (pa_cons pe_int pa_nil)))) (pa_cons (pv 5) pa_nil))))))))
      (pss_one (ps_ret (pe_op op_catA (pv 6) (pe_tup (pa_cons (g_call G_number (hr.mono (by decide)) hgd (by rfl) T.m_number T.F_number.kp T.b_number .nil pass0 (pa_cons (pv 0) (pa_cons pe_int (pa_cons pe_int pa_nil)))) (pa_cons (g_call G_number (hr.mono (by decide)) hgd (by rfl) T.m_number T.F_number.kp T.b_number .nil pass0 (pa_cons (pv 0) (pa_cons (pv 5) (pa_cons (pe_op op_pow pe_int pe_int) pa_nil)))) pa_nil)))))))))), ?_⟩
    have l8 := po.l8
    have lm : (ps.map V.str).length = ps.length := List.length_map ..
    walk_at "rd"
    refine i_lenL (SqL.lst po.k) ?_
    rw [lm]
    walk_at "rd"
    refine ⟨b, ps.length, n, rfl, hB, by omega, by omega, by omega, fun a H1 a0 a1 e1 B1 => ?_⟩
    walk_at "rd"
    refine i_lenL (SqL.lst (po.but e1).k) ?_
    rw [lm]
    walk_at "rd"
    refine ⟨b, (ps.length : Int) - 1, _, rfl, B1, by omega, by omega, by omega, fun t H2 t0 t1 e2 B2 => ?_⟩
    have po2 := po.but (e1.trans e2)
    walk_at "rd"
    refine i_lenL (SqL.lst po2.k) ?_
    rw [lm]
    refine i_rI (by omega) ?_
    walk_at "rd"
    refine ⟨b, 0, _, _, rfl, B2, by omega, by decide, by decide, by decide, fun f H3 f0 f1 e3 B3 => ?_⟩
    have po3 := po2.but e3
    have fm : Int.fmod (a + 1 + t) ps.length = (a + 1 + t) % ps.length := Int.fmod_eq_emod_of_nonneg _ (by omega)
    have fm0 : 0 ≤ (a + 1 + t) % (ps.length : Int) := Int.emod_nonneg _ (by omega)
    have fm1 : (a + 1 + t) % (ps.length : Int) < ps.length := Int.emod_lt_of_pos _ (by omega)
    obtain ⟨g1, hg1, mg1, ig1⟩ := pickS (ns := ps) a0 (by omega)
    obtain ⟨g2, hg2, mg2, ig2⟩ := pickS (ns := ps) (d := Int.fmod (a + 1 + t) ps.length) (by rw [fm]; exact fm0) (by rw [fm]; exact fm1)
    walk_at "rd"
    refine i_ixL (SqL.lst po3.k) hg1 ?_
    walk_at "rd"
    refine i_ixL (SqL.lst po3.k) hg2 ?_
    walk_at "rd"
    refine ⟨b, 1, 1000, _, rfl, B3, by omega, by decide, by decide, by decide, fun h H4 h0 h1 e4 B4 => ?_⟩
    walk_at "rd"
    refine ⟨b, 0, 1000, _, rfl, B4, by omega, by decide, by decide, by decide, fun d H5 d0 d1 e5 B5 => ?_⟩
    walk_at "rd"
    (intro p1 hp1; generalize ep1 : upd _ p1 _ = J6; have N6 := New.of ep1 hp1; clear ep1 hp1)
    have B6 := B5.nw N6
    have n1b : p1 ≠ b := B5.off N6
    walk_at "rd"
    refine ⟨b, 0, 1000, _, rfl, B6, by omega, by decide, by decide, by decide, fun g H7 g0 g1' e7 B7 => ?_⟩
    walk_at "rd"
    have f1' : f ≤ 10 ^ 6 := f1
    refine ⟨b, f, _, _, rfl, B7, by omega, by omega, f1', by decide, fun m H8 m0 m1 e8 B8 => ?_⟩
    walk_at "rd"
    (intro p2 hp2; generalize ep2 : upd _ p2 _ = J9; have N9 := New.of ep2 hp2; clear ep2 hp2)
    have k1 : J9 p1 = some _ := N9.app (e8 _ _ n1b (e7 _ _ n1b N6.at_))
    refine i_catA k1 N9.at_ (by show 6 + 2 ≤ _; exact sz_of (by decide)) (fun r H10 s10 k10 => ?_)
    have eA := e1.trans (e2.trans (e3.trans (e4.trans (e5.trans (N6.but.trans (e7.trans (e8.trans (N9.but.trans (Ice.Same.but s10)))))))))
    have cok : Cd.ok ⟨nm, g1, g2, h, d, f, g, m⟩ := ⟨inm, po.isn g1 mg1, po.isn g2 mg2, nodup_ne po.nd ig1 ig2 (by rw [fm]; have := mod_ne a0 a1 t0 t1; omega), ⟨h0, h1⟩, ⟨d0, d1⟩, ⟨f0, f1⟩, ⟨g0, g1'⟩, ⟨m0, m1⟩⟩
    exact q r ⟨nm, g1, g2, h, d, f, g, m⟩ H10 eA (((B8.nw N9).same s10).mono (by omega)) k10 cok rfl mg1 mg2
def spVsR (k : Kd) : Sp := fun vs H Q _ => ∃ (b pl : Addr) (nm : Str) (ps : List Str) (n : Nat), vs = [.ref b, .str nm, .ref pl] ∧ Box H b n ∧ n ≤ 700 ∧ PsOk b H pl ps ∧ Ice.isN (.str nm) = true ∧
  ∀ (p : Addr) (d : Vd) (H' : Hp), But b H H' → Box H' b (n + 12) → H' p = some (.tup d.row) → d.ok → d.k = k → d.n = nm → d.p ∈ ps → (k = .s → d.g ∈ ps) → Q (.ref p) H'
theorem ok_breaker (T : Top K mg) : FnG P w K mg base CX0 3 T.a_breaker T.d_breaker ["_law_box_here", "_law_name", "_law_ports"] (spVsR .b) := by
  have G_number := ok_number (P := P) (w := w) (base := base) T
  have G_take := ok_take (P := P) (w := w) (base := base) T
  refine okG T.F_breaker sc_breaker (fun vs H Q E h => ?_) (fun cdv A outer s H vs Q E hr hgd h => ?_)
  · obtain ⟨b, pl, nm, ps, n, rfl, _⟩ := h
    rfl
  · obtain ⟨b, pl, nm, ps, n, rfl, hB, hn, po, inm, q⟩ := h
    refine ⟨_, (pss_cons (ps_set (i := 3) sc_breaker.nd rfl (by first | exact Or.inl rfl | exact Or.inr rfl) (pe_tup (pa_cons (pv 1) (pa_cons (pe_ix ix_list (pv 2) (g_call G_take (hr.mono (by decide)) hgd (by rfl) T.m_take T.F_take.kp T.b_take .nil pass0 (pa_cons (pv 0) (pa_cons (pe_callB c_len (by rfl) T.n_len (by decide +kernel) (pa_cons (pv 2) pa_nil)) pa_nil))) (fun _ _ => rfl)) (pa_cons (g_call G_number (hr.mono (by decide)) hgd (by rfl) T.m_number T.F_number.kp T.b_number .nil pass0 (pa_cons (pv 0) (pa_cons pe_int (pa_cons (pe_op op_pow pe_int pe_int) pa_nil)))) (pa_cons (g_call G_number (hr.mono (by decide)) hgd (by rfl) T.m_number T.F_number.kp T.b_number .nil pass0 (pa_cons (pv 0) (pa_cons pe_int (pa_cons (pe_op op_pow pe_int pe_int) pa_nil)))) pa_nil))))))
      (pss_one (ps_ret (pe_op op_catA (pv 3) (pe_tup (pa_cons (g_call G_number (hr.mono (by decide)) hgd (by rfl) T.m_number T.F_number.kp T.b_number .nil pass0 (pa_cons (pv 0) (pa_cons pe_int (pa_cons pe_int pa_nil)))) (pa_cons (g_call G_number (hr.mono (by decide)) hgd (by rfl) T.m_number T.F_number.kp T.b_number .nil pass0 (pa_cons (pv 0) (pa_cons pe_int (pa_cons (pe_op op_pow pe_int pe_int) pa_nil)))) pa_nil))))))), ?_⟩
    have l8 := po.l8; have l1 := po.l1
    have lm : (ps.map V.str).length = ps.length := List.length_map ..
    walk_at "rd"
    refine i_lenL (SqL.lst po.k) ?_
    rw [lm]
    walk_at "rd"
    refine ⟨b, ps.length, n, rfl, hB, by omega, by omega, by omega, fun a H1 a0 a1 e1 B1 => ?_⟩
    obtain ⟨g1, hg1, mg1, ig1⟩ := pickS (ns := ps) a0 (by omega)
    refine i_ixL (SqL.lst (po.but e1).k) hg1 ?_
    walk_at "rd"
    refine ⟨b, 0, _, _, rfl, B1, by omega, by decide, by decide, by decide, fun h H2 h0 h1 e2 B2 => ?_⟩
    walk_at "rd"
    refine ⟨b, 0, _, _, rfl, B2, by omega, by decide, by decide, by decide, fun s H3 s0 s1 e3 B3 => ?_⟩
    walk_at "rd"
    (intro p1 hp1; generalize ep1 : upd _ p1 _ = J4; have N4 := New.of ep1 hp1; clear ep1 hp1)
    have B4 := B3.nw N4
    have n1b : p1 ≠ b := B3.off N4
    walk_at "rd"
    refine ⟨b, 0, 1000, _, rfl, B4, by omega, by decide, by decide, by decide, fun d H5 d0 d1 e5 B5 => ?_⟩
    walk_at "rd"
    refine ⟨b, 1, _, _, rfl, B5, by omega, by decide, by decide, by decide, fun c H6 c0 c1 e6 B6 => ?_⟩
    walk_at "rd"
    (intro p2 hp2; generalize ep2 : upd _ p2 _ = J7; have N7 := New.of ep2 hp2; clear ep2 hp2)
    have k1 : J7 p1 = some _ := N7.app (e6 _ _ n1b (e5 _ _ n1b N4.at_))
    refine i_catA k1 N7.at_ (by show 4 + 2 ≤ _; exact sz_of (by decide)) (fun r H8 s8 k8 => ?_)
    have h1' : h ≤ 1000000 := h1
    have s1' : s ≤ 1000000 := s1
    have c1' : c ≤ 1000000 := c1
    exact q r ⟨.b, nm, g1, g1, h, s, d, c⟩ H8 (e1.trans (e2.trans (e3.trans (N4.but.trans (e5.trans (e6.trans (N7.but.trans (Ice.Same.but s8)))))))) (((B6.nw N7).same s8).mono (by omega)) k8 ⟨⟨inm, po.isn g1 mg1, ⟨h0, h1'⟩, ⟨s0, s1'⟩, ⟨d0, d1⟩⟩, po.isn g1 mg1, ⟨c0, c1'⟩⟩ rfl rfl mg1 (fun z => by cases z)
theorem ok_ship (T : Top K mg) : FnG P w K mg base CX0 3 T.a_ship T.d_ship ["_law_box_here", "_law_name", "_law_ports"] (spVsR .s) := by
  have G_take := ok_take (P := P) (w := w) (base := base) T
  have G_number := ok_number (P := P) (w := w) (base := base) T
  refine okG T.F_ship sc_ship (fun vs H Q E h => ?_) (fun cdv A outer s H vs Q E hr hgd h => ?_)
  · obtain ⟨b, pl, nm, ps, n, rfl, _⟩ := h
    rfl
  · obtain ⟨b, pl, nm, ps, n, rfl, hB, hn, po, inm, q⟩ := h
    refine ⟨_, (pss_cons (ps_set (i := 3) sc_ship.nd rfl (by first | exact Or.inl rfl | exact Or.inr rfl) (pe_tup (pa_cons (pv 1) (pa_cons (pe_ix ix_list (pv 2) (g_call G_take (hr.mono (by decide)) hgd (by rfl) T.m_take T.F_take.kp T.b_take .nil pass0 (pa_cons (pv 0) (pa_cons (pe_callB c_len (by rfl) T.n_len (by decide +kernel) (pa_cons (pv 2) pa_nil)) pa_nil))) (fun _ _ => rfl)) (pa_cons (pe_ix ix_list (pv 2) (g_call G_take (hr.mono (by decide)) hgd (by rfl) T.m_take T.F_take.kp T.b_take .nil pass0 (pa_cons (pv 0) (pa_cons (pe_callB c_len (by rfl) T.n_len (by decide +kernel) (pa_cons (pv 2) pa_nil)) pa_nil))) (fun _ _ => rfl)) pa_nil)))))
      (pss_cons (ps_set (i := 3) sc_ship.nd rfl (by first | exact Or.inl rfl | exact Or.inr rfl) (pe_op (show OpR _ _ (rCatA K) from op_catA) (pv 3) (pe_tup (pa_cons (g_call G_number (hr.mono (by decide)) hgd (by rfl) T.m_number T.F_number.kp T.b_number .nil pass0 (pa_cons (pv 0) (pa_cons pe_int (pa_cons (pe_op op_pow pe_int pe_int) pa_nil)))) (pa_cons (g_call G_number (hr.mono (by decide)) hgd (by rfl) T.m_number T.F_number.kp T.b_number .nil pass0 (pa_cons (pv 0) (pa_cons pe_int (pa_cons (pe_op op_pow pe_int pe_int) pa_nil)))) pa_nil)))))
      (pss_one (ps_ret (pe_op (show OpR _ _ (rCatA K) from op_catA) (pv 3) (pe_tup (pa_cons (g_call G_number (hr.mono (by decide)) hgd (by rfl) T.m_number T.F_number.kp T.b_number .nil pass0 (pa_cons (pv 0) (pa_cons pe_int (pa_cons pe_int pa_nil)))) pa_nil))))))), ?_⟩
    have l8 := po.l8; have l1 := po.l1
    have lm : (ps.map V.str).length = ps.length := List.length_map ..
    walk_at "rd"
    refine i_lenL (SqL.lst po.k) ?_
    rw [lm]
    walk_at "rd"
    refine ⟨b, ps.length, n, rfl, hB, by omega, by omega, by omega, fun a H1 a0 a1 e1 B1 => ?_⟩
    obtain ⟨g1, hg1, mg1, ig1⟩ := pickS (ns := ps) a0 (by omega)
    have po1 := po.but e1
    refine i_ixL (SqL.lst po1.k) hg1 ?_
    walk_at "rd"
    refine i_lenL (SqL.lst po1.k) ?_
    rw [lm]
    walk_at "rd"
    refine ⟨b, ps.length, _, rfl, B1, by omega, by omega, by omega, fun a2 H2 a20 a21 e2 B2 => ?_⟩
    obtain ⟨g2, hg2, mg2, ig2⟩ := pickS (ns := ps) a20 (by omega)
    refine i_ixL (SqL.lst (po1.but e2).k) hg2 ?_
    walk_at "rd"
    (intro p1 hp1; generalize ep1 : upd _ p1 _ = J3; have N3 := New.of ep1 hp1; clear ep1 hp1)
    have B3 := B2.nw N3
    have n1b : p1 ≠ b := B2.off N3
    walk_at "rd"
    refine ⟨b, 0, _, _, rfl, B3, by omega, by decide, by decide, by decide, fun h H4 h0 h1 e4 B4 => ?_⟩
    walk_at "rd"
    refine ⟨b, 0, _, _, rfl, B4, by omega, by decide, by decide, by decide, fun s H5 s0 s1 e5 B5 => ?_⟩
    walk_at "rd"
    (intro p2 hp2; generalize ep2 : upd _ p2 _ = J6; have N6 := New.of ep2 hp2; clear ep2 hp2)
    have B6 := B5.nw N6
    have n2b : p2 ≠ b := B5.off N6
    have k1 : J6 p1 = some _ := N6.app (e5 _ _ n1b (e4 _ _ n1b N3.at_))
    refine i_catA k1 N6.at_ (by show 3 + 2 ≤ _; exact sz_of (by decide)) (fun r H7 s7 k7 => ?_)
    have B7 := B6.same s7
    have nrb : r ≠ b := by
      obtain ⟨_, _, _, y, _⟩ := B7.ex
      exact ne_of k7 y (by intro y; cases y)
    walk_at "rd"
    refine ⟨b, 0, 1000, _, rfl, B7, by omega, by decide, by decide, by decide, fun d H8 d0 d1 e8 B8 => ?_⟩
    walk_at "rd"
    (intro p3 hp3; generalize ep3 : upd _ p3 _ = J9; have N9 := New.of ep3 hp3; clear ep3 hp3)
    refine i_catA (N9.app (e8 _ _ nrb k7)) N9.at_ (by show 5 + 1 ≤ _; exact sz_of (by decide)) (fun r2 H10 s10 k10 => ?_)
    have h1' : h ≤ 1000000 := h1
    have s1' : s ≤ 1000000 := s1
    exact q r2 ⟨.s, nm, g1, g2, h, s, d, 1⟩ H10 (e1.trans (e2.trans (N3.but.trans (e4.trans (e5.trans (N6.but.trans ((Ice.Same.but s7).trans (e8.trans (N9.but.trans (Ice.Same.but s10)))))))))) (((B8.nw N9).same s10).mono (by omega)) k10 ⟨⟨inm, po.isn g1 mg1, ⟨h0, h1'⟩, ⟨s0, s1'⟩, ⟨d0, d1⟩⟩, po.isn g2 mg2, (by decide : (1 : Int) ≤ 1 ∧ (1 : Int) ≤ 1000000)⟩ rfl rfl mg1 (fun _ => mg2)
end

end Ice

set_option Elab.async false
set_option linter.all false
set_option maxRecDepth 100000
set_option maxHeartbeats 4000000
set_option autoImplicit true
namespace Ice
open PySem PySem.Spec PyProof.Rows L2 TL
/-! side conditions, heaps, one step of a reading, and many -/
local macro_rules | `(tactic| walk_at "hp") => `(tactic| first | assumption | exact upd_same | exact New.at_ (by assumption) | (refine keepU ?_ (by assumption); walk_at "hp") | (refine New.app (by assumption) ?_; walk_at "hp") | (refine Same.app (by assumption) ?_; walk_at "hp") | (refine But.app (by assumption) (by assumption) ?_; walk_at "hp"))
local macro_rules | `(tactic| walk_at "sq") => `(tactic| first | assumption | exact SqL.lst (by walk_at "hp") | exact L2.Same.seq (New.same (by assumption)) (by assumption) | exact L2.Same.seq (by assumption) (by assumption))
local macro_rules | `(tactic| walk_at "len") => `(tactic| first | assumption | (simp only [List.length_cons, List.length_nil, List.length_append, List.length_map]; decide) | (refine Ice.sz_of ?_; simp only [List.length_cons, List.length_nil, List.length_append, List.length_map]; omega))
local macro_rules | `(tactic| walk_at "fresh") => `(tactic| (simp only [List.map_append, List.map_cons, List.map_nil, List.nil_append, List.cons_append]; decide +kernel))
local macro_rules | `(tactic| walk_at "sd") => `(tactic| first | assumption | (show _ ≠ _; omega) | exact Or.inl ⟨by omega, by omega⟩ | exact Or.inr ⟨by omega, by omega⟩ | exact ⟨by decide, by decide⟩ | exact ⟨by decide, by decide, by decide⟩ | exact ⟨by omega, by omega, by omega⟩)
/-! one step of a reading, and many -/
local macro_rules | `(tactic| walk_at "st") => `(tactic| first
  | with_reducible refine i_seq ?_
  | with_reducible refine i_if ?_
  | with_reducible refine i_next ?_
  | with_reducible refine i_ret ?_
  | with_reducible refine i_retN ?_
  | with_reducible refine i_drop ?_
  | with_reducible refine i_asg ?_
  | with_reducible refine i_gname ?_
  | with_reducible refine i_gsub ?_
  | ((with_reducible refine i_var (v := ?vv) ?hv ?_); (case hv => exact rfl))
  | with_reducible refine i_c ?_
  | with_reducible refine i_op ?_
  | with_reducible refine i_un ?_
  | with_reducible refine i_test ?_
  | with_reducible refine i_tB ?_
  | with_reducible refine i_and ?_
  | with_reducible refine i_or ?_
  | with_reducible refine i_not ?_
  | with_reducible refine i_andV ?_
  | with_reducible refine i_orV ?_
  | with_reducible refine i_notV ?_
  | with_reducible refine i_ifE ?_
  | with_reducible refine i_chain ?_
  | with_reducible refine i_bl ?_
  | with_reducible refine i_nil ?_
  | with_reducible refine i_cons ?_
  | with_reducible refine i_call ?_
  | with_reducible refine i_cb ?_
  | with_reducible refine i_rI0 ?_
  | with_reducible refine i_rU ?_
  | ((with_reducible refine i_rEq ?hs ?_); (case hs => exact rfl))
  | ((with_reducible refine i_rNe ?hs ?_); (case hs => exact rfl))
  | ((with_reducible refine i_rI ?hc ?_); (case hc => walk_at "sd"))
  | ((with_reducible refine i_ixL (xs := ?xs) (v := ?vv) ?hS ?he ?_); (case hS => walk_at "sq"); (case he => exact rfl))
  | ((with_reducible refine i_setL (xs := ?xs) (j := ?jj) ?hS ?he ?_); (case hS => walk_at "hp"); (case he => exact rfl))
  | with_reducible refine i_tup ?_
  | with_reducible refine i_lst ?_
  | with_reducible refine i_bm ?_
  | with_reducible refine i_bm0 ?_
  | with_reducible refine i_m1 ?_
  | with_reducible refine i_sl ?_
  | with_reducible refine i_nopart ?_
  | with_reducible refine i_part ?_
  | with_reducible refine i_int ?_
  | with_reducible refine i_str ?_
  | with_reducible refine i_for ?_
  | with_reducible refine i_yes ?_
  | ((with_reducible refine i_lenL (xs := ?xs) ?hS ?_); (case hS => walk_at "sq"))
  | ((with_reducible refine i_room ?hz ?_); (case hz => walk_at "len"))
  | with_reducible refine i_leT ?_
  | with_reducible refine i_notInS ?_
  | with_reducible refine i_inS ?_
  | with_reducible refine i_find ?_
  | with_reducible refine i_isB ?_
  | with_reducible refine i_max2 ?_
  | with_reducible refine i_min2 ?_
  | with_reducible exact trivial
  | with_reducible refine iteT ?_
  | with_reducible refine iteF ?_
  | with_reducible refine i_isstr ?_
  | with_reducible refine i_lc ?_
  | ((with_reducible refine i_cat (xs := ?xs) (zs := ?zs) ?ha ?hb ?hz ?_); (case ha => walk_at "hp"); (case hb => walk_at "hp"); (case hz => walk_at "len"))
  | ((with_reducible refine i_tyL (xs := ?xs) ?ha ?_); (case ha => walk_at "hp"))
  | with_reducible refine i_list ?_
  | with_reducible refine i_disp ?_
  | with_reducible refine i_pairs0 ?_
  | with_reducible refine i_pairs ?_
  | with_reducible refine i_newK ?_
  | with_reducible refine i_gcons ?_
  | with_reducible refine i_gnil ?_
  | with_reducible refine i_revL ?_
  | with_reducible refine i_rng1 ?_
  | ((with_reducible refine i_wipe ?hw ?_); (case hw => exact rfl))
  | with_reducible refine iteNT ?_
  | with_reducible refine iteNF ?_)
local macro_rules | `(tactic| walk_at "sx") => `(tactic| first
  | walk_at "st"
  | with_reducible refine i_kinit ?_
  | with_reducible refine i_ost ?_
  | with_reducible refine i_mkO ?_
  | with_reducible refine i_callE ?_
  | with_reducible refine i_makeE ?_
  | with_reducible refine i_xf ?_
  | with_reducible refine i_sfld ?_
  | with_reducible refine i_fld ?_
  | ((with_reducible refine i_ixT (xs := ?xs) (v := ?vv) ?hS ?he ?_); (case hS => exact SqT.tup (by walk_at "hp")); (case he => exact rfl))
  | with_reducible refine i_intB ?_
  | with_reducible refine i_runS ?_
  | with_reducible refine i_runN ?_
  | ((with_reducible refine i_xf1 (fs := ?ff) (v := ?vv) ?hx ?hl ?_); (case hx => walk_at "hp"); (case hl => exact rfl))
  | with_reducible refine i_methE ?_
  | with_reducible refine i_meth ?_
  | with_reducible refine i_make ?_
  | ((with_reducible refine i_obj (dx := ?dd) (fs := ?ff) ?hx ?hl ?_); (case hx => walk_at "hp"); (case hl => exact rfl))
  | ((with_reducible refine i_fld1 (C := ?CC) (dx := ?dd) (fs := ?ff) (v := ?vv) ?hx ?cl ?na ?hl ?_); (case hx => walk_at "hp"); (case cl => assumption); (case na => assumption); (case hl => exact rfl)))
local macro_rules | `(tactic| walk_at "sy") => `(tactic| first
  | walk_at "sx"
  | with_reducible refine i_dget ?_
  | with_reducible refine i_dget2 ?_
  | with_reducible refine i_dput ?_
  | with_reducible refine i_din ?_
  | ((with_reducible refine i_aug (x := ?vv) ?hx ?_); (case hx => exact rfl)))
local macro_rules | `(tactic| walk_at "rd") => `(tactic| repeat (walk_at "sy"))

section
variable {P : Program} {w : World} {K : PySem.W.Frag} {mg : Str → Option Value} {base : Heap}
theorem rowK_of {d : Vd} (o : d.ok) : RowK d.k d.row := by
  unfold Vd.row
  cases hk : d.k with
  | v => exact ⟨_, _, _, _, _, o.five, rfl⟩
  | b => exact ⟨_, _, _, _, _, _, o.five, o.c, rfl⟩
  | s => exact ⟨_, _, _, _, _, _, o.five, o.g, rfl⟩
/-- what a world is made of, as rows -/
structure Rw where
  b : Int
  lp : Addr
  lc : Addr
  lb : Addr
  ls : Addr
  ps : List Str
  cs : List (Addr × Cd)
  bs : VL
  ss : VL
structure Rw.ok (R : Rw) : Prop where
  b : 0 ≤ R.b ∧ R.b ≤ 1000000
  p1 : 1 ≤ R.ps.length
  p8 : R.ps.length ≤ 8
  pn : R.ps.Nodup
  pi : ∀ x ∈ R.ps, isN (.str x) = true
  cl : R.cs.length ≤ 12
  cn : (R.cs.map (·.2.n)).Nodup
  ci : ∀ z ∈ R.cs, z.2.ok ∧ z.2.o ∈ R.ps ∧ z.2.t ∈ R.ps
  bl : R.bs.length ≤ 4
  bi : ∀ z ∈ R.bs, z.2.ok ∧ z.2.k = .b ∧ z.2.p ∈ R.ps
  sl : R.ss.length ≤ 6
  si : ∀ z ∈ R.ss, z.2.ok ∧ z.2.k = .s ∧ z.2.p ∈ R.ps ∧ z.2.g ∈ R.ps
  vn : ((R.bs ++ R.ss).map (·.2.n)).Nodup
def crefs (L : List (Addr × Cd)) : List V := L.map fun z => .ref z.1

structure RowsU (H : Hp) (p : Addr) (R : Rw) : Prop where
  hp : H p = some (.tup [.int R.b, .ref R.lp, .ref R.lc, .ref R.lb, .ref R.ls])
  h1 : H R.lp = some (.tup (R.ps.map V.str))
  h2 : H R.lc = some (.tup (crefs R.cs))
  h3 : ∀ z ∈ R.cs, H z.1 = some (.tup z.2.row)
  h4 : H R.lb = some (.tup (refs R.bs))
  h5 : ∀ z ∈ R.bs, H z.1 = some (.tup z.2.row)
  h6 : H R.ls = some (.tup (refs R.ss))
  h7 : ∀ z ∈ R.ss, H z.1 = some (.tup z.2.row)
theorem RowsU.same {H H' : Hp} {p : Addr} {R : Rw} (a : RowsU H p R) (e : Same H H') : RowsU H' p R :=
  ⟨e _ _ a.hp, e _ _ a.h1, e _ _ a.h2, fun z hz => e _ _ (a.h3 z hz), e _ _ a.h4, fun z hz => e _ _ (a.h5 z hz), e _ _ a.h6, fun z hz => e _ _ (a.h7 z hz)⟩
def spSizes : Sp := fun vs H Q _ => ∃ (b : Addr) (n : Nat), vs = [.ref b] ∧ Box H b n ∧ n ≤ 300 ∧ ∀ (p : Addr) (s0 s1 s2 s3 : Nat) (H' : Hp), But b H H' → Box H' b (n + 5) → p ≠ b → H' p = some (.lst [.int s0, .int s1, .int s2, .int s3]) → (1 ≤ s0 ∧ s0 ≤ 8) → s1 ≤ 12 → s2 ≤ 4 → s3 ≤ 6 → Q (.ref p) H'
theorem ok_few (T : Top K mg) : FnG P w K mg base CX0 2 T.a_few T.d_few ["_law_box_here"] spSizes := by
  have G_take := ok_take (P := P) (w := w) (base := base) T
  refine okG T.F_few sc_few (fun vs H Q E h => ?_) (fun cdv A outer s H vs Q E hr hgd h => ?_)
  · obtain ⟨b, n, rfl, _⟩ := h
    rfl
  · obtain ⟨b, n, rfl, hB, hn, q⟩ := h
    refine ⟨_, (pss_cons (ps_set (i := 1) sc_few.nd rfl (by first | exact Or.inl rfl | exact Or.inr rfl) (g_call G_take (hr.mono (by decide)) hgd (by rfl) T.m_take T.F_take.kp T.b_take .nil pass0 (pa_cons (pv 0) (pa_cons pe_int pa_nil))))
      (pss_cons (ps_set (i := 2) sc_few.nd rfl (by first | exact Or.inl rfl | exact Or.inr rfl) (pe_lst (pa_cons (pe_op op_add pe_int (g_call G_take (hr.mono (by decide)) hgd (by rfl) T.m_take T.F_take.kp T.b_take .nil pass0 (pa_cons (pv 0) (pa_cons pe_int pa_nil)))) (pa_cons (g_call G_take (hr.mono (by decide)) hgd (by rfl) T.m_take T.F_take.kp T.b_take .nil pass0 (pa_cons (pv 0) (pa_cons pe_int pa_nil))) (pa_cons (g_call G_take (hr.mono (by decide)) hgd (by rfl) T.m_take T.F_take.kp T.b_take .nil pass0 (pa_cons (pv 0) (pa_cons pe_int pa_nil))) (pa_cons (g_call G_take (hr.mono (by decide)) hgd (by rfl) T.m_take T.F_take.kp T.b_take .nil pass0 (pa_cons (pv 0) (pa_cons pe_int pa_nil))) pa_nil))))))
      (pss_one (ps_ret (pe_ix ix_list (pe_lst (pa_cons (pe_lst (pa_cons pe_int (pa_cons pe_int (pa_cons pe_int (pa_cons pe_int pa_nil))))) (pa_cons (pe_lst (pa_cons pe_int (pa_cons pe_int (pa_cons pe_int (pa_cons pe_int pa_nil))))) (pa_cons (pv 2) (pa_cons (pv 2) (pa_cons (pv 2) (pa_cons (pv 2) pa_nil))))))) (pv 1) (fun _ _ => rfl)))))), ?_⟩
    walk_at "rd"
    refine ⟨b, 6, n, rfl, hB, by omega, by decide, by decide, fun d0 H1 d00 d01 e1 B1 => ?_⟩
    walk_at "rd"
    refine ⟨b, 8, _, rfl, B1, by omega, by decide, by decide, fun a H2 a0 a1 e2 B2 => ?_⟩
    walk_at "rd"
    refine ⟨b, 13, _, rfl, B2, by omega, by decide, by decide, fun c H3 c0 c1 e3 B3 => ?_⟩
    walk_at "rd"
    refine ⟨b, 5, _, rfl, B3, by omega, by decide, by decide, fun d H4 d0' d1 e4 B4 => ?_⟩
    walk_at "rd"
    refine ⟨b, 7, _, rfl, B4, by omega, by decide, by decide, fun f H5 f0 f1 e5 B5 => ?_⟩
    walk_at "rd"
    (intro p hp; generalize ep : upd _ p _ = J; have N := New.of ep hp; clear ep hp)
    walk_at "rd"
    (intro p1 hp1; generalize ep1 : upd _ p1 _ = J1; have N1 := New.of ep1 hp1; clear ep1 hp1)
    walk_at "rd"
    (intro p2 hp2; generalize ep2 : upd _ p2 _ = J2; have N2 := New.of ep2 hp2; clear ep2 hp2)
    walk_at "rd"
    (intro pl hpl; generalize epl : upd _ pl _ = J3; have N3 := New.of epl hpl; clear epl hpl)
    walk_at "rd"
    have B6 := ((B5.nw N).nw N1).nw N2
    have B7 := B6.nw N3
    have npb := B5.off N
    have np1 := (B5.nw N).off N1
    have np2 := ((B5.nw N).nw N1).off N2
    have eN := e1.trans (e2.trans (e3.trans (e4.trans (e5.trans (N.but.trans (N1.but.trans (N2.but.trans N3.but)))))))
    obtain ⟨a, rfl⟩ := Int.eq_ofNat_of_zero_le a0
    obtain ⟨c, rfl⟩ := Int.eq_ofNat_of_zero_le c0
    obtain ⟨d, rfl⟩ := Int.eq_ofNat_of_zero_le d0'
    obtain ⟨f, rfl⟩ := Int.eq_ofNat_of_zero_le f0
    have a1' : (a : Int) < 8 := a1
    have c1' : (c : Int) < 13 := c1
    have d1' : (d : Int) < 5 := d1
    have f1' : (f : Int) < 7 := f1
    obtain ⟨v, hat, hm, _⟩ := atI_some (xs := [V.ref p1, V.ref p2, V.ref p, V.ref p, V.ref p, V.ref p]) d00 (by simpa using d01)
    refine i_ixL (SqL.lst N3.at_) hat ?_
    have B8 : Box J3 b (n + 5) := B7.mono (by omega)
    have last : Q (.ref p) J3 := q p (1 + a) c d f J3 eN B8 npb (by rw [N3.app (N2.app (N1.app N.at_))]; simp) ⟨by omega, by omega⟩ (by omega) (by omega) (by omega)
    simp only [List.mem_cons, List.not_mem_nil, or_false] at hm
    rcases hm with h | h | h | h | h | h
    · rw [h]; exact q p1 8 12 4 6 J3 eN B8 np1 (N3.app (N2.app N1.at_)) ⟨by decide, by decide⟩ (by decide) (by decide) (by decide)
    · rw [h]; exact q p2 1 0 4 6 J3 eN B8 np2 (N3.app N2.at_) ⟨by decide, by decide⟩ (by decide) (by decide) (by decide)
    all_goals (rw [h]; exact last)
def spTw : Sp := fun vs H Q _ => ∃ (b sl : Addr) (s0 s1 s2 s3 n : Nat), vs = [.ref b, .ref sl] ∧ Box H b n ∧ n ≤ 300 ∧ sl ≠ b ∧ H sl = some (.lst [.int s0, .int s1, .int s2, .int s3]) ∧ (1 ≤ s0 ∧ s0 ≤ 8) ∧ s1 ≤ 12 ∧ s2 ≤ 4 ∧ s3 ≤ 6 ∧
  ∀ (p : Addr) (R : Rw) (H' : Hp), But b H H' → Box H' b (n + 400) → RowsU H' p R → R.ok → Q (.ref p) H'
theorem row_ne {b x : Addr} {xs : List V} {h0 : Hp} {k : Nat} (B : Box h0 b k) (e : h0 x = some (.tup xs)) : x ≠ b := by
  obtain ⟨_, _, _, y, _⟩ := B.ex
  exact ne_of e y (by intro y; cases y)
theorem ok_world (T : Top K mg) : FnG P w K mg base CX0 4 T.a_world T.d_world ["_law_box_here", "_law_sizes"] spTw := by
  have G_names := ok_names (P := P) (w := w) (base := base) T
  have G_number := ok_number (P := P) (w := w) (base := base) T
  have G_channel := ok_channel (P := P) (w := w) (base := base) T
  have G_breaker := ok_breaker (P := P) (w := w) (base := base) T
  have G_ship := ok_ship (P := P) (w := w) (base := base) T
  refine okG T.F_world sc_world (fun vs H Q E h => ?_) (fun cdv A outer s H vs Q E hr hgd h => ?_)
  · obtain ⟨b, sl, s0, s1, s2, s3, n, rfl, _⟩ := h
    rfl
  · obtain ⟨b, sl, s0, s1, s2, s3, n, rfl, hB, hn, nsl, ksl, ⟨s01, s08⟩, h1, h2, h3, q⟩ := h
    refine ⟨_, (pss_cons (ps_set (i := 2) sc_world.nd rfl (by first | exact Or.inl rfl | exact Or.inr rfl) (g_call G_names (hr.mono (by decide)) hgd (by rfl) T.m_names T.F_names.kp T.b_names .nil pass0 (pa_cons (pv 0) (pa_cons (pe_ix ix_list (pv 1) pe_int (fun _ _ => rfl)) pa_nil))))
      (pss_cons (ps_set (i := 3) sc_world.nd rfl (by first | exact Or.inl rfl | exact Or.inr rfl) (g_call G_names (hr.mono (by decide)) hgd (by rfl) T.m_names T.F_names.kp T.b_names .nil pass0 (pa_cons (pv 0) (pa_cons (pe_op op_mul (pe_ix ix_list (pv 1) pe_int (fun _ _ => rfl)) (pe_callTy c_intB (by rfl) T.n_int (by decide +kernel) (pa_cons (pe_cmpR op_gt (pe_ix ix_list (pv 1) pe_int (fun _ _ => rfl)) pe_int (nomark _)) pa_nil))) pa_nil))))
      (pss_cons (ps_set (i := 4) sc_world.nd rfl (by first | exact Or.inl rfl | exact Or.inr rfl) (g_call G_names (hr.mono (by decide)) hgd (by rfl) T.m_names T.F_names.kp T.b_names .nil pass0 (pa_cons (pv 0) (pa_cons (pe_op op_add (pe_ix ix_list (pv 1) pe_int (fun _ _ => rfl)) (pe_ix ix_list (pv 1) pe_int (fun _ _ => rfl))) pa_nil))))
      (pss_cons (ps_set (i := 5) sc_world.nd rfl (by first | exact Or.inl rfl | exact Or.inr rfl) (pe_callTy c_tupleOf (by rfl) T.n_tuple (by decide +kernel) (pa_cons (pe_lc (own := [("_law_name", 8)]) (g := gName 8) rfl sc_world.nd (pi_list (pv 3)) (blkOk_by (own := [("_law_name", 8)]) (N := ["_law_box_here", "_law_sizes", "_law_ports", "_law_channels", "_law_vessels", "_law_rows", "_law_breakers", "_law_ships", "_law_name"]) (sc := defScope s_world) (by decide +kernel)) (fun _ _ _ _ _ => (pg_name (i := 8) sc_world.nd rfl (by first | exact Or.inl rfl | exact Or.inr rfl))) (fun _ _ _ _ _ => pts_nil) (fun _ _ _ _ _ => (g_call G_channel (hr.mono (by decide)) hgd (by rfl) T.m_channel T.F_channel.kp T.b_channel .nil pass0 (pa_cons (pv 0) (pa_cons (pv 8) (pa_cons (pv 2) pa_nil)))))) pa_nil)))
      (pss_cons (ps_set (i := 6) sc_world.nd rfl (by first | exact Or.inl rfl | exact Or.inr rfl) (pe_callTy c_tupleOf (by rfl) T.n_tuple (by decide +kernel) (pa_cons (pe_lc (own := [("_law_name", 8)]) (g := gName 8) rfl sc_world.nd (pi_list (pe_slice sl_list (pv 4) po_none (po_some (pe_ix ix_list (pv 1) pe_int (fun _ _ => rfl))))) (blkOk_by (own := [("_law_name", 8)]) (N := ["_law_box_here", "_law_sizes", "_law_ports", "_law_channels", "_law_vessels", "_law_rows", "_law_breakers", "_law_ships", "_law_name"]) (sc := defScope s_world) (by decide +kernel)) (fun _ _ _ _ _ => (pg_name (i := 8) sc_world.nd rfl (by first | exact Or.inl rfl | exact Or.inr rfl))) (fun _ _ _ _ _ => pts_nil) (fun _ _ _ _ _ => (g_call G_breaker (hr.mono (by decide)) hgd (by rfl) T.m_breaker T.F_breaker.kp T.b_breaker .nil pass0 (pa_cons (pv 0) (pa_cons (pv 8) (pa_cons (pv 2) pa_nil)))))) pa_nil)))
      (pss_cons (ps_set (i := 7) sc_world.nd rfl (by first | exact Or.inl rfl | exact Or.inr rfl) (pe_callTy c_tupleOf (by rfl) T.n_tuple (by decide +kernel) (pa_cons (pe_lc (own := [("_law_name", 8)]) (g := gName 8) rfl sc_world.nd (pi_list (pe_slice sl_list (pv 4) (po_some (pe_ix ix_list (pv 1) pe_int (fun _ _ => rfl))) po_none)) (blkOk_by (own := [("_law_name", 8)]) (N := ["_law_box_here", "_law_sizes", "_law_ports", "_law_channels", "_law_vessels", "_law_rows", "_law_breakers", "_law_ships", "_law_name"]) (sc := defScope s_world) (by decide +kernel)) (fun _ _ _ _ _ => (pg_name (i := 8) sc_world.nd rfl (by first | exact Or.inl rfl | exact Or.inr rfl))) (fun _ _ _ _ _ => pts_nil) (fun _ _ _ _ _ => (g_call G_ship (hr.mono (by decide)) hgd (by rfl) T.m_ship T.F_ship.kp T.b_ship .nil pass0 (pa_cons (pv 0) (pa_cons (pv 8) (pa_cons (pv 2) pa_nil)))))) pa_nil)))
      (pss_one (ps_ret (pe_tup (pa_cons (g_call G_number (hr.mono (by decide)) hgd (by rfl) T.m_number T.F_number.kp T.b_number .nil pass0 (pa_cons (pv 0) (pa_cons pe_int (pa_cons (pe_op op_pow pe_int pe_int) pa_nil)))) (pa_cons (pe_callTy c_tupleOf (by rfl) T.n_tuple (by decide +kernel) (pa_cons (pv 2) pa_nil)) (pa_cons (pv 5) (pa_cons (pv 6) (pa_cons (pv 7) pa_nil)))))))))))))), ?_⟩
    have x0 : atI [V.int s0, V.int s1, V.int s2, V.int s3] 0 = some (V.int s0) := rfl
    have x1 : atI [V.int s0, V.int s1, V.int s2, V.int s3] 1 = some (V.int s1) := rfl
    have x2 : atI [V.int s0, V.int s1, V.int s2, V.int s3] 2 = some (V.int s2) := rfl
    have x3 : atI [V.int s0, V.int s1, V.int s2, V.int s3] 3 = some (V.int s3) := rfl
    walk_at "rd"
    try refine i_ixL (SqL.lst ksl) x0 ?_
    walk_at "rd"
    refine ⟨b, s0, n, rfl, hB, by omega, by omega, fun lp ps H1 flp e1 B1 klp lps nps ips => ?_⟩
    have nlp : lp ≠ b := hB.ne flp
    have po : PsOk b H1 lp ps := ⟨nlp, klp, by omega, by omega, nps, ips⟩
    have ks1 := e1 _ _ nsl ksl
    walk_at "rd"
    obtain ⟨C', eC, C12, C1⟩ : ∃ C' : Nat, ((s1 : Int) * if decide ((1 : Int) < (s0 : Int)) = true then 1 else 0) = (C' : Int) ∧ C' ≤ 12 ∧ (0 < C' → 1 < s0) := by
      by_cases z : 1 < s0
      · exact ⟨s1, by rw [if_pos (decide_eq_true (by omega))]; simp, h1, fun _ => z⟩
      · exact ⟨0, by rw [if_neg (by simp; omega)]; simp, by omega, fun z => by omega⟩
    rw [eC]
    refine ⟨b, C', _, rfl, B1, by omega, by omega, fun lc cs H2 flc e2 B2 klc lcs ncs ics => ?_⟩
    have nlc : lc ≠ b := B1.ne flc
    have ks2 := e2 _ _ nsl ks1
    walk_at "rd"
    rw [show (s2 : Int) + (s3 : Int) = ((s2 + s3 : Nat) : Int) by omega]
    refine ⟨b, s2 + s3, _, rfl, B2, by omega, by omega, fun lv vn H3 flv e3 B3 klv lvn nvn ivn => ?_⟩
    have nlv : lv ≠ b := B2.ne flv
    have ks3 := e3 _ _ nsl ks2
    have po3 := po.but (e2.trans e3)
    have zz : (100 : Nat) ≤ sizeLine := sz_of (by decide)
    walk_at "rd"
    have cl := e3 _ _ nlc klc
    refine lc_boxL (n0 := n + 40) (c := 12) (SqL.lst cl) nlc (B3.mono (by omega)) (by rw [List.length_map]; omega) (fun i y H => ∃ (p : Addr) (c : Cd), y = V.ref p ∧ H p = some (.tup c.row) ∧ c.ok ∧ cs[i]? = some c.n ∧ c.o ∈ ps ∧ c.t ∈ ps)
      (fun i y H H' k B e ⟨p, c, a1, a2, a3⟩ => ⟨p, c, a1, e _ _ (row_ne B a2) a2, a3⟩) (fun i y H D us ws hD ⟨p, c, a1, a2, a3⟩ => ⟨p, c, a1, by rw [upd_ne (ne_of a2 hD (by intro z; cases z))]; exact a2, a3⟩) ?_ ?_
    · intro i x H' NY NN hx s B hy
      obtain ⟨nm, hnm, rfl⟩ := strs_get hx
      have hi := (List.getElem?_eq_some_iff.mp hnm).1
      walk_at "rd"
      refine ⟨b, lp, nm, ps, _, rfl, B, by omega, po3.but s, by have := C1 (by omega); omega, ics nm (List.mem_of_getElem? hnm), fun p c H5 e5 B5 kp ok en eo et => ?_⟩
      exact hy _ _ e5 (B5.mono (by omega)) ⟨p, c, rfl, kp, ok, by rw [en]; exact hnm, eo, et⟩
    intro D4 H4 yc fD4 nD4 e4 B4 kD4 lyc ryc
    rw [List.length_map] at B4 lyc
    obtain ⟨L, rfl, hL⟩ := made_any yc (fun (i : Nat) (p : Addr) (c : Cd) => H4 p = some (.tup c.row) ∧ c.ok ∧ cs[i]? = some c.n ∧ c.o ∈ ps ∧ c.t ∈ ps) ryc
    walk_at "rd"
    refine i_tupOf (.inl kD4) fun tc H5 t5 ktc => ?_
    have B5 := B4.same t5
    have e35 := e4.trans (Ice.Same.but t5)
    walk_at "rd"
    have ks5 := e35 _ _ nsl ks3
    try refine i_ixL (SqL.lst ks5) x2 ?_
    walk_at "rd"
    have klv5 := e35 _ _ nlv klv
    refine ⟨lv, _, rfl, SqL.lst klv5, ?_⟩
    rw [cutV_to _ (by rw [List.length_map, lvn]; omega), ← List.map_take]
    (intro l6 hl6; generalize el6 : upd _ l6 _ = J6; have N6 := New.of el6 hl6; clear el6 hl6)
    have B6 := B5.nw N6
    have n6b := B5.off N6
    have e36 := e35.trans N6.but
    have po6 := po3.but e36
    walk_at "rd"
    refine lc_boxL (n0 := n + 190) (c := 12) (SqL.lst N6.at_) n6b (B6.mono (by omega)) (by rw [List.length_map, List.length_take]; omega) (fun i y H => ∃ (p : Addr) (d : Vd), y = V.ref p ∧ H p = some (.tup d.row) ∧ d.ok ∧ d.k = .b ∧ (vn.take s2)[i]? = some d.n ∧ d.p ∈ ps)
      (fun i y H H' k B e ⟨p, c, a1, a2, a3⟩ => ⟨p, c, a1, e _ _ (row_ne B a2) a2, a3⟩) (fun i y H D us ws hD ⟨p, c, a1, a2, a3⟩ => ⟨p, c, a1, by rw [upd_ne (ne_of a2 hD (by intro z; cases z))]; exact a2, a3⟩) ?_ ?_
    · intro i x H' NY NN hx s B hy
      obtain ⟨nm, hnm, rfl⟩ := strs_get hx
      have hi := (List.getElem?_eq_some_iff.mp hnm).1
      rw [List.length_take] at hi
      walk_at "rd"
      refine ⟨b, lp, nm, ps, _, rfl, B, by omega, po6.but s, ivn nm (List.mem_of_mem_take (List.mem_of_getElem? hnm)), fun p d H5 e5 B5 kp ok dk dn dp _ => ?_⟩
      exact hy _ _ e5 (B5.mono (by omega)) ⟨p, d, rfl, kp, ok, dk, by rw [dn]; exact hnm, dp⟩
    intro D7 H7 yb fD7 nD7 e7 B7 kD7 lyb ryb
    rw [List.length_map] at B7 lyb
    obtain ⟨LB, rfl, hLB⟩ := made_any yb (fun (i : Nat) (p : Addr) (d : Vd) => H7 p = some (.tup d.row) ∧ d.ok ∧ d.k = .b ∧ (vn.take s2)[i]? = some d.n ∧ d.p ∈ ps) ryb
    have lt2 : (vn.take s2).length = s2 := by rw [List.length_take]; omega
    rw [lt2] at B7 lyb
    walk_at "rd"
    refine i_tupOf (.inl kD7) fun tb H8 t8 ktb => ?_
    have B8 := B7.same t8
    have e38 := e36.trans (e7.trans (Ice.Same.but t8))
    walk_at "rd"
    have ks8 := e38 _ _ nsl ks3
    try refine i_ixL (SqL.lst ks8) x2 ?_
    walk_at "rd"
    refine ⟨lv, _, rfl, SqL.lst (e38 _ _ nlv klv), ?_⟩
    rw [cutV_from _ (by rw [List.length_map, lvn]; omega), ← List.map_drop]
    (intro l9 hl9; generalize el9 : upd _ l9 _ = J9; have N9 := New.of el9 hl9; clear el9 hl9)
    have B9 := B8.nw N9
    have n9b := B8.off N9
    have e39 := e38.trans N9.but
    have po9 := po3.but e39
    have lt3 : (vn.drop s2).length = s3 := by rw [List.length_drop]; omega
    walk_at "rd"
    refine lc_boxL (n0 := n + 250) (c := 12) (SqL.lst N9.at_) n9b (B9.mono (by omega)) (by rw [List.length_map, List.length_drop]; omega) (fun i y H => ∃ (p : Addr) (d : Vd), y = V.ref p ∧ H p = some (.tup d.row) ∧ d.ok ∧ d.k = .s ∧ (vn.drop s2)[i]? = some d.n ∧ d.p ∈ ps ∧ d.g ∈ ps)
      (fun i y H H' k B e ⟨p, c, a1, a2, a3⟩ => ⟨p, c, a1, e _ _ (row_ne B a2) a2, a3⟩) (fun i y H D us ws hD ⟨p, c, a1, a2, a3⟩ => ⟨p, c, a1, by rw [upd_ne (ne_of a2 hD (by intro z; cases z))]; exact a2, a3⟩) ?_ ?_
    · intro i x H' NY NN hx s B hy
      obtain ⟨nm, hnm, rfl⟩ := strs_get hx
      have hi := (List.getElem?_eq_some_iff.mp hnm).1
      rw [lt3] at hi
      walk_at "rd"
      refine ⟨b, lp, nm, ps, _, rfl, B, by omega, po9.but s, ivn nm (List.mem_of_mem_drop (List.mem_of_getElem? hnm)), fun p d H5 e5 B5 kp ok dk dn dp dg => ?_⟩
      exact hy _ _ e5 (B5.mono (by omega)) ⟨p, d, rfl, kp, ok, dk, by rw [dn]; exact hnm, dp, dg rfl⟩
    intro D10 H10 ys fD10 nD10 e10 B10 kD10 lys rys
    rw [List.length_map] at B10 lys
    obtain ⟨LS, rfl, hLS⟩ := made_any ys (fun (i : Nat) (p : Addr) (d : Vd) => H10 p = some (.tup d.row) ∧ d.ok ∧ d.k = .s ∧ (vn.drop s2)[i]? = some d.n ∧ d.p ∈ ps ∧ d.g ∈ ps) rys
    rw [lt3] at B10 lys
    walk_at "rd"
    refine i_tupOf (.inl kD10) fun ts H11 t11 kts => ?_
    have B11 := B10.same t11
    walk_at "rd"
    refine ⟨b, 0, _, _, rfl, B11, by omega, by decide, by decide, by decide, fun beg H12 g0 g1 e12 B12 => ?_⟩
    have g1' : beg ≤ 1000000 := g1
    have e312 := e39.trans (e10.trans ((Ice.Same.but t11).trans e12))
    walk_at "rd"
    refine i_tupOf (.inl (e312 _ _ nlp (po3.k))) fun tp H13 t13 ktp => ?_
    have B13 := B12.same t13
    walk_at "rd"
    (intro pr hpr; generalize epr : upd _ pr _ = J14; have N14 := New.of epr hpr; clear epr hpr)
    have s1314 := N14.same
    have e1214 : But b H12 J14 := (Ice.Same.but t13).trans N14.but
    have ntc := row_ne B5 ktc
    have ntb := row_ne B8 ktb
    have nts := row_ne B11 kts
    have e514 : But b H5 J14 := N6.but.trans (e7.trans ((Ice.Same.but t8).trans (N9.but.trans (e10.trans ((Ice.Same.but t11).trans (e12.trans e1214))))))
    have e814 : But b H8 J14 := N9.but.trans (e10.trans ((Ice.Same.but t11).trans (e12.trans e1214)))
    have e1114 : But b H11 J14 := e12.trans e1214
    have gL : ∀ z ∈ L, ∃ i, L[i]? = some z := fun z hz => List.mem_iff_getElem?.mp hz
    have gB : ∀ z ∈ LB, ∃ i, LB[i]? = some z := fun z hz => List.mem_iff_getElem?.mp hz
    have gS : ∀ z ∈ LS, ∃ i, LS[i]? = some z := fun z hz => List.mem_iff_getElem?.mp hz
    rw [List.length_map] at lyc lyb lys
    have nmC : L.map (·.2.n) = cs := map_by (by omega) fun i z hz => (hL i z hz).2.2.1
    have nmB : LB.map (·.2.n) = vn.take s2 := map_by (by omega) fun i z hz => (hLB i z hz).2.2.2.1
    have nmS : LS.map (·.2.n) = vn.drop s2 := map_by (by omega) fun i z hz => (hLS i z hz).2.2.2.1
    refine q pr ⟨beg, tp, tc, tb, ts, ps, L, LB, LS⟩ J14 (e1.trans (e2.trans (e3.trans (e312.trans e1214)))) ((B13.nw N14).mono (by omega)) ⟨N14.at_, N14.app ktp, e514 _ _ ntc ktc, ?_, e814 _ _ ntb ktb, ?_, e1114 _ _ nts kts, ?_⟩
      ⟨⟨g0, g1'⟩, po.l1, po.l8, nps, ips, by show L.length ≤ 12; omega, ?_, ?_, by show LB.length ≤ 4; omega, ?_, by show LS.length ≤ 6; omega, ?_, ?_⟩
    · intro z hz
      obtain ⟨i, hi⟩ := gL z hz
      have k := (hL i z hi).1
      have nz := row_ne B4 k
      exact e514 _ _ nz (t5 _ _ k)
    · intro z hz
      obtain ⟨i, hi⟩ := gB z hz
      have k := (hLB i z hi).1
      have nz := row_ne B7 k
      exact e814 _ _ nz (t8 _ _ k)
    · intro z hz
      obtain ⟨i, hi⟩ := gS z hz
      have k := (hLS i z hi).1
      have nz := row_ne B10 k
      exact e1114 _ _ nz (t11 _ _ k)
    · show (L.map (·.2.n)).Nodup
      rw [nmC]; exact ncs
    · intro z hz
      obtain ⟨i, hi⟩ := gL z hz
      exact ⟨(hL i z hi).2.1, (hL i z hi).2.2.2⟩
    · intro z hz
      obtain ⟨i, hi⟩ := gB z hz
      exact ⟨(hLB i z hi).2.1, (hLB i z hi).2.2.1, (hLB i z hi).2.2.2.2⟩
    · intro z hz
      obtain ⟨i, hi⟩ := gS z hz
      exact ⟨(hLS i z hi).2.1, (hLS i z hi).2.2.1, (hLS i z hi).2.2.2.2⟩
    · show ((LB ++ LS).map (·.2.n)).Nodup
      rw [List.map_append, nmB, nmS, List.take_append_drop]; exact nvn
end

end Ice

set_option Elab.async false
set_option linter.all false
set_option maxRecDepth 100000
set_option maxHeartbeats 4000000
set_option autoImplicit true
namespace Ice
open PySem PySem.Spec PyProof.Rows L2 TL
/-! side conditions, heaps, one step of a reading, and many -/
local macro_rules | `(tactic| walk_at "hp") => `(tactic| first | assumption | exact upd_same | exact New.at_ (by assumption) | (refine keepU ?_ (by assumption); walk_at "hp") | (refine New.app (by assumption) ?_; walk_at "hp") | (refine Same.app (by assumption) ?_; walk_at "hp") | (refine But.app (by assumption) (by assumption) ?_; walk_at "hp"))
local macro_rules | `(tactic| walk_at "sq") => `(tactic| first | assumption | exact SqL.lst (by walk_at "hp") | exact L2.Same.seq (New.same (by assumption)) (by assumption) | exact L2.Same.seq (by assumption) (by assumption))
local macro_rules | `(tactic| walk_at "len") => `(tactic| first | assumption | (simp only [List.length_cons, List.length_nil, List.length_append, List.length_map]; decide) | (refine Ice.sz_of ?_; simp only [List.length_cons, List.length_nil, List.length_append, List.length_map]; omega))
local macro_rules | `(tactic| walk_at "fresh") => `(tactic| (simp only [List.map_append, List.map_cons, List.map_nil, List.nil_append, List.cons_append]; decide +kernel))
local macro_rules | `(tactic| walk_at "sd") => `(tactic| first | assumption | (show _ ≠ _; omega) | exact Or.inl ⟨by omega, by omega⟩ | exact Or.inr ⟨by omega, by omega⟩ | exact ⟨by decide, by decide⟩ | exact ⟨by decide, by decide, by decide⟩ | exact ⟨by omega, by omega, by omega⟩)
/-! one step of a reading, and many -/
local macro_rules | `(tactic| walk_at "st") => `(tactic| first
  | with_reducible refine i_seq ?_
  | with_reducible refine i_if ?_
  | with_reducible refine i_next ?_
  | with_reducible refine i_ret ?_
  | with_reducible refine i_retN ?_
  | with_reducible refine i_drop ?_
  | with_reducible refine i_asg ?_
  | with_reducible refine i_gname ?_
  | with_reducible refine i_gsub ?_
  | ((with_reducible refine i_var (v := ?vv) ?hv ?_); (case hv => exact rfl))
  | with_reducible refine i_c ?_
  | with_reducible refine i_op ?_
  | with_reducible refine i_un ?_
  | with_reducible refine i_test ?_
  | with_reducible refine i_tB ?_
  | with_reducible refine i_and ?_
  | with_reducible refine i_or ?_
  | with_reducible refine i_not ?_
  | with_reducible refine i_andV ?_
  | with_reducible refine i_orV ?_
  | with_reducible refine i_notV ?_
  | with_reducible refine i_ifE ?_
  | with_reducible refine i_chain ?_
  | with_reducible refine i_bl ?_
  | with_reducible refine i_nil ?_
  | with_reducible refine i_cons ?_
  | with_reducible refine i_call ?_
  | with_reducible refine i_cb ?_
  | with_reducible refine i_rI0 ?_
  | with_reducible refine i_rU ?_
  | ((with_reducible refine i_rEq ?hs ?_); (case hs => exact rfl))
  | ((with_reducible refine i_rNe ?hs ?_); (case hs => exact rfl))
  | ((with_reducible refine i_rI ?hc ?_); (case hc => walk_at "sd"))
  | ((with_reducible refine i_ixL (xs := ?xs) (v := ?vv) ?hS ?he ?_); (case hS => walk_at "sq"); (case he => exact rfl))
  | ((with_reducible refine i_setL (xs := ?xs) (j := ?jj) ?hS ?he ?_); (case hS => walk_at "hp"); (case he => exact rfl))
  | with_reducible refine i_tup ?_
  | with_reducible refine i_lst ?_
  | with_reducible refine i_bm ?_
  | with_reducible refine i_bm0 ?_
  | with_reducible refine i_m1 ?_
  | with_reducible refine i_sl ?_
  | with_reducible refine i_nopart ?_
  | with_reducible refine i_part ?_
  | with_reducible refine i_int ?_
  | with_reducible refine i_str ?_
  | with_reducible refine i_for ?_
  | with_reducible refine i_yes ?_
  | ((with_reducible refine i_lenL (xs := ?xs) ?hS ?_); (case hS => walk_at "sq"))
  | ((with_reducible refine i_room ?hz ?_); (case hz => walk_at "len"))
  | with_reducible refine i_leT ?_
  | with_reducible refine i_notInS ?_
  | with_reducible refine i_inS ?_
  | with_reducible refine i_find ?_
  | with_reducible refine i_isB ?_
  | with_reducible refine i_max2 ?_
  | with_reducible refine i_min2 ?_
  | with_reducible exact trivial
  | with_reducible refine iteT ?_
  | with_reducible refine iteF ?_
  | with_reducible refine i_isstr ?_
  | with_reducible refine i_lc ?_
  | ((with_reducible refine i_cat (xs := ?xs) (zs := ?zs) ?ha ?hb ?hz ?_); (case ha => walk_at "hp"); (case hb => walk_at "hp"); (case hz => walk_at "len"))
  | ((with_reducible refine i_tyL (xs := ?xs) ?ha ?_); (case ha => walk_at "hp"))
  | with_reducible refine i_list ?_
  | with_reducible refine i_disp ?_
  | with_reducible refine i_pairs0 ?_
  | with_reducible refine i_pairs ?_
  | with_reducible refine i_newK ?_
  | with_reducible refine i_gcons ?_
  | with_reducible refine i_gnil ?_
  | with_reducible refine i_revL ?_
  | with_reducible refine i_rng1 ?_
  | ((with_reducible refine i_wipe ?hw ?_); (case hw => exact rfl))
  | with_reducible refine iteNT ?_
  | with_reducible refine iteNF ?_)
local macro_rules | `(tactic| walk_at "sx") => `(tactic| first
  | walk_at "st"
  | with_reducible refine i_kinit ?_
  | with_reducible refine i_ost ?_
  | with_reducible refine i_mkO ?_
  | with_reducible refine i_callE ?_
  | with_reducible refine i_makeE ?_
  | with_reducible refine i_xf ?_
  | with_reducible refine i_sfld ?_
  | with_reducible refine i_fld ?_
  | ((with_reducible refine i_ixT (xs := ?xs) (v := ?vv) ?hS ?he ?_); (case hS => exact SqT.tup (by walk_at "hp")); (case he => exact rfl))
  | with_reducible refine i_intB ?_
  | with_reducible refine i_runS ?_
  | with_reducible refine i_runN ?_
  | ((with_reducible refine i_xf1 (fs := ?ff) (v := ?vv) ?hx ?hl ?_); (case hx => walk_at "hp"); (case hl => exact rfl))
  | with_reducible refine i_methE ?_
  | with_reducible refine i_meth ?_
  | with_reducible refine i_make ?_
  | ((with_reducible refine i_obj (dx := ?dd) (fs := ?ff) ?hx ?hl ?_); (case hx => walk_at "hp"); (case hl => exact rfl))
  | ((with_reducible refine i_fld1 (C := ?CC) (dx := ?dd) (fs := ?ff) (v := ?vv) ?hx ?cl ?na ?hl ?_); (case hx => walk_at "hp"); (case cl => assumption); (case na => assumption); (case hl => exact rfl)))
local macro_rules | `(tactic| walk_at "sy") => `(tactic| first
  | walk_at "sx"
  | with_reducible refine i_dget ?_
  | with_reducible refine i_dget2 ?_
  | with_reducible refine i_dput ?_
  | with_reducible refine i_din ?_
  | ((with_reducible refine i_aug (x := ?vv) ?hx ?_); (case hx => exact rfl)))
local macro_rules | `(tactic| walk_at "rd") => `(tactic| repeat (walk_at "sy"))

section
variable {P : Program} {w : World} {K : PySem.W.Frag} {mg : Str → Option Value} {base : Heap}
def chM (CS : List (Addr × Cd)) : List Mk := CS.map fun z => .ch z.1 z.2
def vsM (BS : VL) : List Mk := BS.map fun z => .ves z.1 z.2
def nmM (ps : List Str) : List Mk := ps.map fun n => .data (.str n)
theorem chM_v (CS : List (Addr × Cd)) : (chM CS).map Mk.v = crefs CS := by unfold chM crefs; rw [List.map_map]; rfl
theorem vsM_v (BS : VL) : (vsM BS).map Mk.v = refs BS := by unfold vsM refs; rw [List.map_map]; rfl
theorem nmM_v (ps : List Str) : (nmM ps).map Mk.v = ps.map V.str := by unfold nmM; rw [List.map_map]; rfl
theorem chM_n (CS : List (Addr × Cd)) : (chM CS).map Mk.nm = (CS.map (·.2)).map (·.n) := by unfold chM; rw [List.map_map, List.map_map]; rfl
theorem vsM_n (BS : VL) : (vsM BS).map Mk.nm = (BS.map (·.2)).map (·.n) := by unfold vsM; rw [List.map_map, List.map_map]; rfl
theorem nmM_n (ps : List Str) : (nmM ps).map Mk.nm = ps := by unfold nmM; rw [List.map_map]; exact (List.map_congr_left fun x _ => rfl).trans (List.map_id _)
theorem isB_of {x : Addr} {d : Vd} (h : d.k = .b) : Mk.isB (.ves x d) = true := by unfold Mk.isB; dsimp only; rw [h]
theorem isS_of {x : Addr} {d : Vd} (h : d.k = .s) : Mk.isS (.ves x d) = true := by unfold Mk.isS; dsimp only; rw [h]
/-- the things that stand, made of rows -/
structure Made (T : Top K mg) (H : Hp) (R : Rw) (CS : List (Addr × Cd)) (BS SS : VL) : Prop where
  ec : CS.map (·.2) = R.cs.map (·.2)
  eb : BS.map (·.2) = R.bs.map (·.2)
  es : SS.map (·.2) = R.ss.map (·.2)
  hc : ∀ z ∈ CS, ChT T H z.1 z.2
  hb : ∀ z ∈ BS, VesT T H z.1 z.2
  hs : ∀ z ∈ SS, VesT T H z.1 z.2
theorem Made.same {T : Top K mg} {H H' : Hp} {R : Rw} {CS : List (Addr × Cd)} {BS SS : VL} (m : Made T H R CS BS SS) (e : Same H H') : Made T H' R CS BS SS :=
  ⟨m.ec, m.eb, m.es, fun z hz => (m.hc z hz).same e, fun z hz => (m.hb z hz).same e, fun z hz => (m.hs z hz).same e⟩
theorem find_all {ps : List Str} {wl : List Str} (h : ∀ x ∈ wl, x ∈ ps) : wl.find? (noPort ps) = none := by
  rw [List.find?_eq_none]
  intro x hx
  simp [noPort, h x hx]
/-- what stands makes a world -/
structure MadeD (R : Rw) (CS : List (Addr × Cd)) (BS SS : VL) : Prop where
  ec : CS.map (·.2) = R.cs.map (·.2)
  eb : BS.map (·.2) = R.bs.map (·.2)
  es : SS.map (·.2) = R.ss.map (·.2)
theorem MadeD.due {R : Rw} {CS : List (Addr × Cd)} {BS SS : VL} (m : MadeD R CS BS SS) (o : R.ok) : dueW (.int R.b) (some (nmM R.ps)) (some (chM CS)) (some (vsM BS)) (some (vsM SS)) = .made := by
  have lC : CS.length = R.cs.length := by have := congrArg List.length m.ec; simpa using this
  have lB : BS.length = R.bs.length := by have := congrArg List.length m.eb; simpa using this
  have lS : SS.length = R.ss.length := by have := congrArg List.length m.es; simpa using this
  have memC : ∀ z ∈ CS, ∃ y ∈ R.cs, y.2 = z.2 := fun z hz => by
    have : z.2 ∈ CS.map (·.2) := List.mem_map.mpr ⟨z, hz, rfl⟩
    rw [m.ec] at this
    exact List.mem_map.mp this
  have memB : ∀ z ∈ BS, ∃ y ∈ R.bs, y.2 = z.2 := fun z hz => by
    have : z.2 ∈ BS.map (·.2) := List.mem_map.mpr ⟨z, hz, rfl⟩
    rw [m.eb] at this
    exact List.mem_map.mp this
  have memS : ∀ z ∈ SS, ∃ y ∈ R.ss, y.2 = z.2 := fun z hz => by
    have : z.2 ∈ SS.map (·.2) := List.mem_map.mpr ⟨z, hz, rfl⟩
    rw [m.es] at this
    exact List.mem_map.mp this
  have kp : portsOk (some (nmM R.ps)) = true := by
    show (decide ((nmM R.ps).length ≤ 8) && (!decide ((nmM R.ps).length = 0) && (nmM R.ps).all Mk.isN)) = true
    have l : (nmM R.ps).length = R.ps.length := by simp [nmM]
    have := o.p1; have := o.p8
    rw [l, decide_eq_true (by omega), decide_eq_false (by omega)]
    show (nmM R.ps).all Mk.isN = true
    rw [List.all_eq_true]
    intro x hx
    obtain ⟨n, hn, rfl⟩ := List.mem_map.mp hx
    exact o.pi n hn
  have kc : seqOk 12 Mk.isC (some (chM CS)) = true := by
    show (decide ((chM CS).length ≤ 12) && (chM CS).all Mk.isC) = true
    have := o.cl
    rw [decide_eq_true (by simp [chM, lC]; omega), Bool.true_and, List.all_eq_true]
    intro x hx
    obtain ⟨n, hn, rfl⟩ := List.mem_map.mp hx
    rfl
  have kb : seqOk 4 Mk.isB (some (vsM BS)) = true := by
    show (decide ((vsM BS).length ≤ 4) && (vsM BS).all Mk.isB) = true
    have := o.bl
    rw [decide_eq_true (by simp [vsM, lB]; omega), Bool.true_and, List.all_eq_true]
    intro x hx
    obtain ⟨z, hz, rfl⟩ := List.mem_map.mp hx
    obtain ⟨y, hy, e⟩ := memB z hz
    have := (o.bi y hy).2.1
    exact isB_of (by rw [← e]; exact this)
  have ks : seqOk 6 Mk.isS (some (vsM SS)) = true := by
    show (decide ((vsM SS).length ≤ 6) && (vsM SS).all Mk.isS) = true
    have := o.sl
    rw [decide_eq_true (by simp [vsM, lS]; omega), Bool.true_and, List.all_eq_true]
    intro x hx
    obtain ⟨z, hz, rfl⟩ := List.mem_map.mp hx
    obtain ⟨y, hy, e⟩ := memS z hz
    have := (o.si y hy).2.1
    exact isS_of (by rw [← e]; exact this)
  have kk : kindsW (some (nmM R.ps)) (some (chM CS)) (some (vsM BS)) (some (vsM SS)) = none := by
    unfold kindsW
    rw [if_neg (by rw [kp]; decide), if_neg (by rw [kc]; decide), if_neg (by rw [kb]; decide), if_neg (by rw [ks]; decide)]
  have d1 : firstDbl (nmsO (some (nmM R.ps))) = none := by
    rw [show nmsO (some (nmM R.ps)) = (nmM R.ps).map Mk.nm from rfl, nmM_n]
    exact nodup_dbl o.pn
  have d2 : firstDbl (nmsO (some (chM CS))) = none := by
    rw [show nmsO (some (chM CS)) = (chM CS).map Mk.nm from rfl, chM_n, m.ec, List.map_map]
    exact nodup_dbl o.cn
  have d3 : firstDbl (nmsO (some (vsM BS)) ++ nmsO (some (vsM SS))) = none := by
    rw [show nmsO (some (vsM BS)) = (vsM BS).map Mk.nm from rfl, show nmsO (some (vsM SS)) = (vsM SS).map Mk.nm from rfl, vsM_n, vsM_n, m.eb, m.es, ← List.map_append, ← List.map_append, List.map_map]
    exact nodup_dbl o.vn
  have d4 : (wantL (some (chM CS)) (some (vsM BS)) (some (vsM SS))).find? (noPort (nmsO (some (nmM R.ps)))) = none := by
    rw [show nmsO (some (nmM R.ps)) = (nmM R.ps).map Mk.nm from rfl, nmM_n]
    refine find_all fun x hx => ?_
    rcases List.mem_append.mp hx with hx | hx
    · rcases List.mem_append.mp hx with hx | hx
      · obtain ⟨k, hk, hx⟩ := List.mem_flatMap.mp hx
        obtain ⟨z, hz, rfl⟩ := List.mem_map.mp hk
        obtain ⟨y, hy, e⟩ := memC z hz
        have c := (o.ci y hy).2
        rw [e] at c
        have hx : x ∈ [z.2.o, z.2.t] := hx
        simp only [List.mem_cons, List.not_mem_nil, or_false] at hx
        rcases hx with rfl | rfl
        · exact c.1
        · exact c.2
      · obtain ⟨k, hk, hx⟩ := List.mem_flatMap.mp hx
        obtain ⟨z, hz, rfl⟩ := List.mem_map.mp hk
        obtain ⟨y, hy, e⟩ := memB z hz
        have c := (o.bi y hy).2.2
        rw [e] at c
        have hx : x ∈ [z.2.p] := hx
        simp only [List.mem_cons, List.not_mem_nil, or_false] at hx
        rw [hx]; exact c
    · obtain ⟨k, hk, hx⟩ := List.mem_flatMap.mp hx
      obtain ⟨z, hz, rfl⟩ := List.mem_map.mp hk
      obtain ⟨y, hy, e⟩ := memS z hz
      have c := (o.si y hy).2.2
      rw [e] at c
      have hx : x ∈ [z.2.p, z.2.g] := hx
      simp only [List.mem_cons, List.not_mem_nil, or_false] at hx
      rcases hx with rfl | rfl
      · exact c.1
      · exact c.2
  unfold dueW
  rw [if_neg (by rw [inB_of o.b.1 o.b.2]; decide), kk]
  simp only [d1, d2, d3, d4]
theorem Made.due {T : Top K mg} {H : Hp} {R : Rw} {CS : List (Addr × Cd)} {BS SS : VL} (m : Made T H R CS BS SS) (o : R.ok) : dueW (.int R.b) (some (nmM R.ps)) (some (chM CS)) (some (vsM BS)) (some (vsM SS)) = .made := MadeD.due ⟨m.ec, m.eb, m.es⟩ o
theorem ChT.off {T : Top K mg} {H : Hp} {x D : Addr} {c : Cd} {us ws : List V} (hD : H D = some (.lst us)) (h : ChT T H x c) : ChT T (upd H D (.lst ws)) x c := by
  obtain ⟨o, dx, e⟩ := h
  exact ⟨o, dx, by rw [upd_ne (ne_of e hD (by intro z; cases z))]; exact e⟩
theorem VesT.off {T : Top K mg} {H : Hp} {x D : Addr} {v : Vd} {us ws : List V} (hD : H D = some (.lst us)) (h : VesT T H x v) : VesT T (upd H D (.lst ws)) x v := by
  obtain ⟨o, dx, e⟩ := h
  exact ⟨o, dx, by rw [upd_ne (ne_of e hD (by intro z; cases z))]; exact e⟩
theorem sfree {H H' : Hp} {p : Addr} (s : Same H H') (h : H' p = none) : H p = none := by
  cases e : H p with
  | none => rfl
  | some o => rw [s _ _ e] at h; cases h
end

section
variable {P : Program} {w : World} {K : PySem.W.Frag} {mg : Str → Option Value} {base : Heap}
theorem g_n8 {i0 i1 i2 i3 i4 i5 i6 i7 : Nat} {v0 v1 v2 v3 v4 v5 v6 v7 : V} {σ σ' : L2.St} {H : Hp} {Q : L2.St → Hp → Prop} (e : ((((((((σ.set i0 (some v0)).set i1 (some v1)).set i2 (some v2)).set i3 (some v3)).set i4 (some v4)).set i5 (some v5)).set i6 (some v6)).set i7 (some v7)) = σ') (q : Q σ' H) : (gCons (gName i0) (gCons (gName i1) (gCons (gName i2) (gCons (gName i3) (gCons (gName i4) (gCons (gName i5) (gCons (gName i6) (gCons (gName i7) gNil)))))))) [v0, v1, v2, v3, v4, v5, v6, v7] σ H Q := by
  subst e
  refine i_gcons (i_gname ?_)
  refine i_gcons (i_gname ?_)
  refine i_gcons (i_gname ?_)
  refine i_gcons (i_gname ?_)
  refine i_gcons (i_gname ?_)
  refine i_gcons (i_gname ?_)
  refine i_gcons (i_gname ?_)
  refine i_gcons (i_gname ?_)
  exact i_gnil q
theorem g_n6 {i0 i1 i2 i3 i4 i5 : Nat} {v0 v1 v2 v3 v4 v5 : V} {σ σ' : L2.St} {H : Hp} {Q : L2.St → Hp → Prop} (e : ((((((σ.set i0 (some v0)).set i1 (some v1)).set i2 (some v2)).set i3 (some v3)).set i4 (some v4)).set i5 (some v5)) = σ') (q : Q σ' H) : (gCons (gName i0) (gCons (gName i1) (gCons (gName i2) (gCons (gName i3) (gCons (gName i4) (gCons (gName i5) gNil)))))) [v0, v1, v2, v3, v4, v5] σ H Q := by
  subst e
  refine i_gcons (i_gname ?_)
  refine i_gcons (i_gname ?_)
  refine i_gcons (i_gname ?_)
  refine i_gcons (i_gname ?_)
  refine i_gcons (i_gname ?_)
  refine i_gcons (i_gname ?_)
  exact i_gnil q
theorem cd_th {c : Cd} (k : c.ok) (H : Hp) : ∀ v ∈ [V.str c.n, V.str c.o, V.str c.t, V.int c.h, V.int c.d, V.int c.f, V.int c.g, V.int c.m], Th H v := by
  intro v hv
  simp only [List.mem_cons, List.not_mem_nil, or_false] at hv
  rcases hv with rfl | rfl | rfl | rfl | rfl | rfl | rfl | rfl
  · exact name_th H k.nn
  · exact name_th H k.no
  · exact name_th H k.nt
  all_goals exact .inr ⟨_, .int _⟩
def spMake (T : Top K mg) : Sp := fun vs H Q _ => ∃ (pr : Addr) (R : Rw), vs = [.ref pr] ∧ RowsU H pr R ∧ R.ok ∧ ∀ (x : Addr) (CS : List (Addr × Cd)) (BS SS : VL) (H' : Hp), Same H H' → H x = none → WorldT T H' x R.b (nmM R.ps) (chM CS) (vsM BS) (vsM SS) → Made T H' R CS BS SS → Q (.ref x) H'
theorem ok_made (T : Top K mg) : FnG P w K mg base CX0 7 T.a_made T.d_made ["_law_world_here"] (spMake T) := by
  have G_World___init__ := ok_World___init__ (P := P) (w := w) (base := base) T
  have G_Channel___init__ := ok_Channel___init__ (P := P) (w := w) (base := base) T
  have G_Ship___init__ := ok_Ship___init__ (P := P) (w := w) (base := base) T
  have G_Breaker___init__ := ok_Breaker___init__ (P := P) (w := w) (base := base) T
  refine okG T.F_made sc_made (fun vs H Q E h => ?_) (fun cdv A outer s H vs Q E hr hgd h => ?_)
  · obtain ⟨pr, R, rfl, _⟩ := h
    rfl
  · obtain ⟨pr, R, rfl, ru, o, q⟩ := h
    refine ⟨_, (pss_cons (ps_setLc (i := 1) (own := [("_law_a", 4), ("_law_b", 5), ("_law_c", 6), ("_law_d", 7), ("_law_e", 8), ("_law_f", 9), ("_law_g", 10), ("_law_h", 11)]) rfl sc_made.nd rfl rfl (sw_true rfl rfl rfl (by decide +kernel)) (pi_tup (pe_ix ix_tup (pv 0) pe_int (fun _ _ => rfl))) (blkOk_by (own := [("_law_a", 4), ("_law_b", 5), ("_law_c", 6), ("_law_d", 7), ("_law_e", 8), ("_law_f", 9), ("_law_g", 10), ("_law_h", 11)]) (N := ["_law_world_here", "_law_channels", "_law_breakers", "_law_ships", "_law_a", "_law_b", "_law_c", "_law_d", "_law_e", "_law_f", "_law_g", "_law_h"]) (sc := defScope s_made) (by decide +kernel)) (fun _ _ _ _ _ => (show PG _ _ (gTup K 8 _) from (pg_tup rfl (pgs_cons (pg_name (i := 4) sc_made.nd rfl (by first | exact Or.inl rfl | exact Or.inr rfl)) (pgs_cons (pg_name (i := 5) sc_made.nd rfl (by first | exact Or.inl rfl | exact Or.inr rfl)) (pgs_cons (pg_name (i := 6) sc_made.nd rfl (by first | exact Or.inl rfl | exact Or.inr rfl)) (pgs_cons (pg_name (i := 7) sc_made.nd rfl (by first | exact Or.inl rfl | exact Or.inr rfl)) (pgs_cons (pg_name (i := 8) sc_made.nd rfl (by first | exact Or.inl rfl | exact Or.inr rfl)) (pgs_cons (pg_name (i := 9) sc_made.nd rfl (by first | exact Or.inl rfl | exact Or.inr rfl)) (pgs_cons (pg_name (i := 10) sc_made.nd rfl (by first | exact Or.inl rfl | exact Or.inr rfl)) (pgs_cons (pg_name (i := 11) sc_made.nd rfl (by first | exact Or.inl rfl | exact Or.inr rfl)) pgs_nil))))))))))) (fun _ _ _ _ _ => pts_nil) (fun _ _ _ _ _ => (g_make T.mk_Channel G_Channel___init__ (hr.mono (by decide)) hgd (by rfl) T.c_Channel T.b_Channel___init__ .nil passL (pa_cons (pv 4) (pa_cons (pv 5) (pa_cons (pv 6) (pa_cons (pv 7) (pa_cons (pv 8) (pa_cons (pv 9) (pa_cons (pv 10) (pa_cons (pv 11) pa_nil)))))))))))
      (pss_cons (ps_set (i := 2) sc_made.nd rfl (by first | exact Or.inl rfl | exact Or.inr rfl) (pe_callTy c_tupleOf (by rfl) T.n_tuple (by decide +kernel) (pa_cons (pe_lc (own := [("_law_a", 4), ("_law_b", 5), ("_law_c", 6), ("_law_d", 7), ("_law_e", 8), ("_law_f", 9)]) rfl sc_made.nd (pi_tup (pe_ix ix_tup (pv 0) pe_int (fun _ _ => rfl))) (blkOk_by (own := [("_law_a", 4), ("_law_b", 5), ("_law_c", 6), ("_law_d", 7), ("_law_e", 8), ("_law_f", 9)]) (N := ["_law_world_here", "_law_channels", "_law_breakers", "_law_ships", "_law_a", "_law_b", "_law_c", "_law_d", "_law_e", "_law_f", "_law_g", "_law_h"]) (sc := defScope s_made) (by decide +kernel)) (fun _ _ _ _ _ => (show PG _ _ (gTup K 6 _) from (pg_tup rfl (pgs_cons (pg_name (i := 4) sc_made.nd rfl (by first | exact Or.inl rfl | exact Or.inr rfl)) (pgs_cons (pg_name (i := 5) sc_made.nd rfl (by first | exact Or.inl rfl | exact Or.inr rfl)) (pgs_cons (pg_name (i := 6) sc_made.nd rfl (by first | exact Or.inl rfl | exact Or.inr rfl)) (pgs_cons (pg_name (i := 7) sc_made.nd rfl (by first | exact Or.inl rfl | exact Or.inr rfl)) (pgs_cons (pg_name (i := 8) sc_made.nd rfl (by first | exact Or.inl rfl | exact Or.inr rfl)) (pgs_cons (pg_name (i := 9) sc_made.nd rfl (by first | exact Or.inl rfl | exact Or.inr rfl)) pgs_nil))))))))) (fun _ _ _ _ _ => pts_nil) (fun _ _ _ _ _ => (g_make T.mk_Breaker G_Breaker___init__ (hr.mono (by decide)) hgd (by rfl) T.c_Breaker T.b_Breaker___init__ .nil passL (pa_cons (pv 4) (pa_cons (pv 5) (pa_cons (pv 6) (pa_cons (pv 7) (pa_cons (pv 8) (pa_cons (pv 9) pa_nil))))))))) pa_nil)))
      (pss_cons (ps_setLc (i := 3) (own := [("_law_a", 4), ("_law_b", 5), ("_law_c", 6), ("_law_d", 7), ("_law_e", 8), ("_law_f", 9)]) rfl sc_made.nd rfl rfl (sw_true rfl rfl rfl (by decide +kernel)) (pi_tup (pe_ix ix_tup (pv 0) pe_int (fun _ _ => rfl))) (blkOk_by (own := [("_law_a", 4), ("_law_b", 5), ("_law_c", 6), ("_law_d", 7), ("_law_e", 8), ("_law_f", 9)]) (N := ["_law_world_here", "_law_channels", "_law_breakers", "_law_ships", "_law_a", "_law_b", "_law_c", "_law_d", "_law_e", "_law_f", "_law_g", "_law_h"]) (sc := defScope s_made) (by decide +kernel)) (fun _ _ _ _ _ => (show PG _ _ (gTup K 6 _) from (pg_tup rfl (pgs_cons (pg_name (i := 4) sc_made.nd rfl (by first | exact Or.inl rfl | exact Or.inr rfl)) (pgs_cons (pg_name (i := 5) sc_made.nd rfl (by first | exact Or.inl rfl | exact Or.inr rfl)) (pgs_cons (pg_name (i := 6) sc_made.nd rfl (by first | exact Or.inl rfl | exact Or.inr rfl)) (pgs_cons (pg_name (i := 7) sc_made.nd rfl (by first | exact Or.inl rfl | exact Or.inr rfl)) (pgs_cons (pg_name (i := 8) sc_made.nd rfl (by first | exact Or.inl rfl | exact Or.inr rfl)) (pgs_cons (pg_name (i := 9) sc_made.nd rfl (by first | exact Or.inl rfl | exact Or.inr rfl)) pgs_nil))))))))) (fun _ _ _ _ _ => pts_nil) (fun _ _ _ _ _ => (g_make T.mk_Ship G_Ship___init__ (hr.mono (by decide)) hgd (by rfl) T.c_Ship T.b_Ship___init__ .nil passL (pa_cons (pv 4) (pa_cons (pv 5) (pa_cons (pv 6) (pa_cons (pv 7) (pa_cons (pv 8) (pa_cons (pv 9) pa_nil)))))))))
      (pss_one (ps_ret (g_make T.mk_World G_World___init__ (hr.mono (by decide)) hgd (by rfl) T.c_World T.b_World___init__ .nil passL (pa_cons (pe_ix ix_tup (pv 0) pe_int (fun _ _ => rfl)) (pa_cons (pe_callTy call_list_of (by rfl) T.n_list (by decide +kernel) (pa_cons (pe_ix ix_tup (pv 0) pe_int (fun _ _ => rfl)) pa_nil)) (pa_cons (pv 1) (pa_cons (pv 2) (pa_cons (pv 3) pa_nil))))))))))), ?_⟩
    have lC := o.cl; have lB := o.bl; have lS := o.sl
    have zz : (30 : Nat) ≤ sizeLine := sz_of (by decide)
    walk_at "rd"
    refine i_tupI ?_
    walk_at "rd"
    refine i_ixT (SqT.tup ru.hp) rfl ?_
    walk_at "rd"
    refine lc_relT (SqT.tup ru.h2) (by rw [show (crefs R.cs).length = R.cs.length by simp [crefs]]; omega) (fun i y H => ∃ x z, y = V.ref x ∧ (R.cs.map (·.2))[i]? = some z ∧ ChT T H x z) (fun i y H H' e ⟨x, z, a, b, c⟩ => ⟨x, z, a, b, c.same e⟩) (fun i y H D us ws hD ⟨x, z, a, b, c⟩ => ⟨x, z, a, b, c.off hD⟩) ?_ ?_
    · intro i x H' NY NN hx s hy
      unfold crefs at hx
      rw [List.getElem?_map] at hx
      cases hz : R.cs[i]? with
      | none => rw [hz] at hx; cases hx
      | some z =>
        rw [hz] at hx
        obtain rfl := Option.some.inj hx
        have mz := List.mem_of_getElem? hz
        have k := (o.ci z mz).1
        have kz : H' z.1 = some (.tup [.str z.2.n, .str z.2.o, .str z.2.t, .int z.2.h, .int z.2.d, .int z.2.f, .int z.2.g, .int z.2.m]) := s _ _ (ru.h3 z mz)
        refine i_gtup (xs := [.str z.2.n, .str z.2.o, .str z.2.t, .int z.2.h, .int z.2.d, .int z.2.f, .int z.2.g, .int z.2.m]) (SqT.tup kz) rfl ?_
        refine g_n8 (σ' := [some (.ref pr), none, none, none, some (.str z.2.n), some (.str z.2.o), some (.str z.2.t), some (.int z.2.h), some (.int z.2.d), some (.int z.2.f), some (.int z.2.g), some (.int z.2.m)]) rfl ?_
        refine ⟨rfl, i_yes ?_⟩
        rw [if_pos rfl]
        walk_at "rd"
        intro x dx hx hdx nex
        refine ⟨x, dx, _, _, _, _, _, _, _, _, rfl, upd_same, cd_th k _, ?_⟩
        rw [Cd.made k]
        exact fun H1 b1 k1 => ⟨rfl, hy _ _ (made_same hx hdx b1) ⟨x, z.2, rfl, by rw [List.getElem?_map, hz]; rfl, k, dx, k1⟩⟩
    intro lc H2 yc hlc s2 klc lyc ryc
    obtain ⟨CS, rfl, eCS, hCS⟩ := made_list yc (R.cs.map (·.2)) (by rw [lyc]; simp [crefs]) ryc
    walk_at "rd"
    refine i_tupI ?_
    walk_at "rd"
    refine i_ixT (SqT.tup (s2 _ _ ru.hp)) rfl ?_
    walk_at "rd"
    refine lc_relT (SqT.tup (s2 _ _ ru.h4)) (by rw [show (refs R.bs).length = R.bs.length by simp [refs]]; omega) (fun i y H => ∃ x z, y = V.ref x ∧ (R.bs.map (·.2))[i]? = some z ∧ VesT T H x z) (fun i y H H' e ⟨x, z, a, b, c⟩ => ⟨x, z, a, b, VesA.same c e⟩) (fun i y H D us ws hD ⟨x, z, a, b, c⟩ => ⟨x, z, a, b, c.off hD⟩) ?_ ?_
    · intro i x H' NY NN hx s hy
      obtain ⟨z, hz, rfl⟩ := refs_get hx
      have mz := List.mem_of_getElem? hz
      obtain ⟨ok, kk, _⟩ := o.bi z mz
      have kz := s _ _ (s2 _ _ (ru.h5 z mz))
      have er : z.2.row = [.str z.2.n, .str z.2.p, .int z.2.h, .int z.2.s, .int z.2.d, .int z.2.c] := by unfold Vd.row; rw [kk]
      have th : ∀ H, ∀ v ∈ z.2.row, Th H v := fun H => RowK.th H (rowK_of ok)
      rw [er] at kz th
      refine i_gtup (xs := [.str z.2.n, .str z.2.p, .int z.2.h, .int z.2.s, .int z.2.d, .int z.2.c]) (SqT.tup kz) rfl ?_
      refine g_n6 (σ' := [some (.ref pr), some (.ref lc), none, none, some (.str z.2.n), some (.str z.2.p), some (.int z.2.h), some (.int z.2.s), some (.int z.2.d), some (.int z.2.c), none, none]) rfl ?_
      refine ⟨rfl, i_yes ?_⟩
      rw [if_pos rfl]
      walk_at "rd"
      intro x dx hx hdx nex
      refine ⟨x, dx, _, _, _, _, _, _, rfl, upd_same, th _, ?_⟩
      rw [resV_snoc, ok.five.made]
      dsimp only
      rw [if_neg (by show ¬ (!inB 1 1000000 (.int z.2.c)) = true; rw [inB_of ok.c.1 ok.c.2]; decide)]
      refine fun H1 b1 k1 => ⟨rfl, hy _ _ (made_same hx hdx b1) ⟨x, z.2, rfl, by rw [List.getElem?_map, hz]; rfl, ok, dx, ?_⟩⟩
      unfold Vd.flds
      rw [kk, er]; exact k1
    intro lb0 H3 yb hlb s3 klb0 lyb ryb
    obtain ⟨BS, rfl, eBS, hBS⟩ := made_list yb (R.bs.map (·.2)) (by rw [lyb]; simp [refs]) ryb
    walk_at "rd"
    refine i_tupOf (.inl klb0) fun lb H4 s4 klb => ?_
    have s04 := s2.trans (s3.trans s4)
    walk_at "rd"
    refine i_tupI ?_
    walk_at "rd"
    refine i_ixT (SqT.tup (s04 _ _ ru.hp)) rfl ?_
    walk_at "rd"
    refine lc_relT (SqT.tup (s04 _ _ ru.h6)) (by rw [show (refs R.ss).length = R.ss.length by simp [refs]]; omega) (fun i y H => ∃ x z, y = V.ref x ∧ (R.ss.map (·.2))[i]? = some z ∧ VesT T H x z) (fun i y H H' e ⟨x, z, a, b, c⟩ => ⟨x, z, a, b, VesA.same c e⟩) (fun i y H D us ws hD ⟨x, z, a, b, c⟩ => ⟨x, z, a, b, c.off hD⟩) ?_ ?_
    · intro i x H' NY NN hx s hy
      obtain ⟨z, hz, rfl⟩ := refs_get hx
      have mz := List.mem_of_getElem? hz
      obtain ⟨ok, kk, _⟩ := o.si z mz
      have kz := s _ _ (s04 _ _ (ru.h7 z mz))
      have er : z.2.row = [.str z.2.n, .str z.2.p, .str z.2.g, .int z.2.h, .int z.2.s, .int z.2.d] := by unfold Vd.row; rw [kk]
      have th : ∀ H, ∀ v ∈ z.2.row, Th H v := fun H => RowK.th H (rowK_of ok)
      rw [er] at kz th
      refine i_gtup (xs := [.str z.2.n, .str z.2.p, .str z.2.g, .int z.2.h, .int z.2.s, .int z.2.d]) (SqT.tup kz) rfl ?_
      refine g_n6 (σ' := [some (.ref pr), some (.ref lc), some (.ref lb), none, some (.str z.2.n), some (.str z.2.p), some (.str z.2.g), some (.int z.2.h), some (.int z.2.s), some (.int z.2.d), none, none]) rfl ?_
      refine ⟨rfl, i_yes ?_⟩
      rw [if_pos rfl]
      walk_at "rd"
      intro x dx hx hdx nex
      refine ⟨x, dx, _, _, _, _, _, _, rfl, upd_same, th _, ?_⟩
      have nb : [V.str z.2.n, V.str z.2.p, V.str z.2.g].find? bad = none := by simp [bad, ok.five.nn, ok.five.np, ok.g]
      rw [resV_goal nb, ok.five.made]
      refine fun H1 b1 k1 => ⟨rfl, hy _ _ (made_same hx hdx b1) ⟨x, z.2, rfl, by rw [List.getElem?_map, hz]; rfl, ok, dx, ?_⟩⟩
      unfold Vd.flds
      rw [kk, er]; exact k1
    intro ls H5 ys hls s5 kls lys rys
    obtain ⟨SS, rfl, eSS, hSS⟩ := made_list ys (R.ss.map (·.2)) (by rw [lys]; simp [refs]) rys
    have s05 := s04.trans s5
    walk_at "rd"
    refine i_ixT (SqT.tup (s05 _ _ ru.hp)) rfl ?_
    walk_at "rd"
    refine i_ixT (SqT.tup (s05 _ _ ru.hp)) rfl ?_
    walk_at "rd"
    refine ⟨R.lp, _, rfl, .inr (SqT.tup (s05 _ _ ru.h1)), ?_⟩
    (intro lp hlp; generalize elp : upd _ lp _ = J6; have N6 := New.of elp hlp; clear elp hlp)
    walk_at "rd"
    intro x dx hx hdx nex
    have s06 := s05.trans N6.same
    have m6 : Made T J6 R CS BS SS := ⟨eCS, eBS, eSS, fun z hz => (hCS z hz).same (s3.trans (s4.trans (s5.trans N6.same))), fun z hz => VesA.same (hBS z hz) (s4.trans (s5.trans N6.same)), fun z hz => VesA.same (hSS z hz) N6.same⟩
    have sx : Same J6 (upd (upd J6 dx (.own x)) x (.ins T.a_World dx [])) := made_same hx hdx (fun _ _ _ h => h)
    have m7 := m6.same sx
    have l1 : CS.length = R.cs.length := by have := congrArg List.length eCS; simpa using this
    have l2 : BS.length = R.bs.length := by have := congrArg List.length eBS; simpa using this
    have l3 : SS.length = R.ss.length := by have := congrArg List.length eSS; simpa using this
    have p8 := o.p8
    refine ⟨x, dx, _, _, _, _, _, some (nmM R.ps), some (chM CS), some (vsM BS), some (vsM SS), rfl, upd_same, .inr ⟨_, .int _⟩, ?_, ?_, ?_, ?_, ?_, ?_⟩
    · refine .lst (by rw [nmM_v]; exact sx _ _ N6.at_) fun m hm => ?_
      obtain ⟨n, hn, rfl⟩ := List.mem_map.mp hm
      exact name_th _ (o.pi n hn)
    · refine .lst (by rw [chM_v]; exact sx _ _ (N6.app (s5 _ _ (s4 _ _ (s3 _ _ klc))))) fun m hm => ?_
      obtain ⟨z, hz, rfl⟩ := List.mem_map.mp hm
      exact m7.hc z hz
    · refine .tup (by rw [vsM_v]; exact sx _ _ (N6.app (s5 _ _ klb))) fun m hm => ?_
      obtain ⟨z, hz, rfl⟩ := List.mem_map.mp hm
      exact m7.hb z hz
    · refine .lst (by rw [vsM_v]; exact sx _ _ (N6.app kls)) fun m hm => ?_
      obtain ⟨z, hz, rfl⟩ := List.mem_map.mp hm
      exact m7.hs z hz
    · intro op hop ms e
      simp only [List.mem_cons, List.not_mem_nil, or_false] at hop
      rcases hop with rfl | rfl | rfl | rfl <;> cases e
      · show (List.map _ _).length ≤ _; rw [List.length_map]; omega
      · show (List.map _ _).length ≤ _; rw [List.length_map]; omega
      · show (List.map _ _).length ≤ _; rw [List.length_map]; omega
      · show (List.map _ _).length ≤ _; rw [List.length_map]; omega
    · unfold WantsW
      rw [m7.due o]
      intro b H' e b1 wt
      cases e
      have s7 := made_same hx hdx b1
      exact ⟨rfl, q x CS BS SS H' (s06.trans s7) (sfree s06 hx) wt (m6.same s7)⟩
end


end Ice

set_option Elab.async false
set_option linter.all false
set_option maxRecDepth 100000
set_option maxHeartbeats 4000000
set_option autoImplicit true
namespace Ice
open PySem PySem.Spec PyProof.Rows L2 TL
/-! side conditions, heaps, one step of a reading, and many -/
local macro_rules | `(tactic| walk_at "hp") => `(tactic| first | assumption | exact upd_same | exact New.at_ (by assumption) | (refine keepU ?_ (by assumption); walk_at "hp") | (refine New.app (by assumption) ?_; walk_at "hp") | (refine Same.app (by assumption) ?_; walk_at "hp") | (refine But.app (by assumption) (by assumption) ?_; walk_at "hp"))
local macro_rules | `(tactic| walk_at "sq") => `(tactic| first | assumption | exact SqL.lst (by walk_at "hp") | exact L2.Same.seq (New.same (by assumption)) (by assumption) | exact L2.Same.seq (by assumption) (by assumption))
local macro_rules | `(tactic| walk_at "len") => `(tactic| first | assumption | (simp only [List.length_cons, List.length_nil, List.length_append, List.length_map]; decide) | (refine Ice.sz_of ?_; simp only [List.length_cons, List.length_nil, List.length_append, List.length_map]; omega))
local macro_rules | `(tactic| walk_at "fresh") => `(tactic| (simp only [List.map_append, List.map_cons, List.map_nil, List.nil_append, List.cons_append]; decide +kernel))
local macro_rules | `(tactic| walk_at "sd") => `(tactic| first | assumption | (show _ ≠ _; omega) | exact Or.inl ⟨by omega, by omega⟩ | exact Or.inr ⟨by omega, by omega⟩ | exact ⟨by decide, by decide⟩ | exact ⟨by decide, by decide, by decide⟩ | exact ⟨by omega, by omega, by omega⟩)
/-! one step of a reading, and many -/
local macro_rules | `(tactic| walk_at "st") => `(tactic| first
  | with_reducible refine i_seq ?_
  | with_reducible refine i_if ?_
  | with_reducible refine i_next ?_
  | with_reducible refine i_ret ?_
  | with_reducible refine i_retN ?_
  | with_reducible refine i_drop ?_
  | with_reducible refine i_asg ?_
  | with_reducible refine i_gname ?_
  | with_reducible refine i_gsub ?_
  | ((with_reducible refine i_var (v := ?vv) ?hv ?_); (case hv => exact rfl))
  | with_reducible refine i_c ?_
  | with_reducible refine i_op ?_
  | with_reducible refine i_un ?_
  | with_reducible refine i_test ?_
  | with_reducible refine i_tB ?_
  | with_reducible refine i_and ?_
  | with_reducible refine i_or ?_
  | with_reducible refine i_not ?_
  | with_reducible refine i_andV ?_
  | with_reducible refine i_orV ?_
  | with_reducible refine i_notV ?_
  | with_reducible refine i_ifE ?_
  | with_reducible refine i_chain ?_
  | with_reducible refine i_bl ?_
  | with_reducible refine i_nil ?_
  | with_reducible refine i_cons ?_
  | with_reducible refine i_call ?_
  | with_reducible refine i_cb ?_
  | with_reducible refine i_rI0 ?_
  | with_reducible refine i_rU ?_
  | ((with_reducible refine i_rEq ?hs ?_); (case hs => exact rfl))
  | ((with_reducible refine i_rNe ?hs ?_); (case hs => exact rfl))
  | ((with_reducible refine i_rI ?hc ?_); (case hc => walk_at "sd"))
  | ((with_reducible refine i_ixL (xs := ?xs) (v := ?vv) ?hS ?he ?_); (case hS => walk_at "sq"); (case he => exact rfl))
  | ((with_reducible refine i_setL (xs := ?xs) (j := ?jj) ?hS ?he ?_); (case hS => walk_at "hp"); (case he => exact rfl))
  | with_reducible refine i_tup ?_
  | with_reducible refine i_lst ?_
  | with_reducible refine i_bm ?_
  | with_reducible refine i_bm0 ?_
  | with_reducible refine i_m1 ?_
  | with_reducible refine i_sl ?_
  | with_reducible refine i_nopart ?_
  | with_reducible refine i_part ?_
  | with_reducible refine i_int ?_
  | with_reducible refine i_str ?_
  | with_reducible refine i_for ?_
  | with_reducible refine i_yes ?_
  | ((with_reducible refine i_lenL (xs := ?xs) ?hS ?_); (case hS => walk_at "sq"))
  | ((with_reducible refine i_room ?hz ?_); (case hz => walk_at "len"))
  | with_reducible refine i_leT ?_
  | with_reducible refine i_notInS ?_
  | with_reducible refine i_inS ?_
  | with_reducible refine i_find ?_
  | with_reducible refine i_isB ?_
  | with_reducible refine i_max2 ?_
  | with_reducible refine i_min2 ?_
  | with_reducible exact trivial
  | with_reducible refine iteT ?_
  | with_reducible refine iteF ?_
  | with_reducible refine i_isstr ?_
  | with_reducible refine i_lc ?_
  | ((with_reducible refine i_cat (xs := ?xs) (zs := ?zs) ?ha ?hb ?hz ?_); (case ha => walk_at "hp"); (case hb => walk_at "hp"); (case hz => walk_at "len"))
  | ((with_reducible refine i_tyL (xs := ?xs) ?ha ?_); (case ha => walk_at "hp"))
  | with_reducible refine i_list ?_
  | with_reducible refine i_disp ?_
  | with_reducible refine i_pairs0 ?_
  | with_reducible refine i_pairs ?_
  | with_reducible refine i_newK ?_
  | with_reducible refine i_gcons ?_
  | with_reducible refine i_gnil ?_
  | with_reducible refine i_revL ?_
  | with_reducible refine i_rng1 ?_
  | ((with_reducible refine i_wipe ?hw ?_); (case hw => exact rfl))
  | with_reducible refine iteNT ?_
  | with_reducible refine iteNF ?_)
local macro_rules | `(tactic| walk_at "sx") => `(tactic| first
  | walk_at "st"
  | with_reducible refine i_kinit ?_
  | with_reducible refine i_ost ?_
  | with_reducible refine i_mkO ?_
  | with_reducible refine i_callE ?_
  | with_reducible refine i_makeE ?_
  | with_reducible refine i_xf ?_
  | with_reducible refine i_sfld ?_
  | with_reducible refine i_fld ?_
  | ((with_reducible refine i_ixT (xs := ?xs) (v := ?vv) ?hS ?he ?_); (case hS => exact SqT.tup (by walk_at "hp")); (case he => exact rfl))
  | with_reducible refine i_intB ?_
  | with_reducible refine i_runS ?_
  | with_reducible refine i_runN ?_
  | ((with_reducible refine i_xf1 (fs := ?ff) (v := ?vv) ?hx ?hl ?_); (case hx => walk_at "hp"); (case hl => exact rfl))
  | with_reducible refine i_methE ?_
  | with_reducible refine i_meth ?_
  | with_reducible refine i_make ?_
  | ((with_reducible refine i_obj (dx := ?dd) (fs := ?ff) ?hx ?hl ?_); (case hx => walk_at "hp"); (case hl => exact rfl))
  | ((with_reducible refine i_fld1 (C := ?CC) (dx := ?dd) (fs := ?ff) (v := ?vv) ?hx ?cl ?na ?hl ?_); (case hx => walk_at "hp"); (case cl => assumption); (case na => assumption); (case hl => exact rfl)))
local macro_rules | `(tactic| walk_at "sy") => `(tactic| first
  | walk_at "sx"
  | with_reducible refine i_dget ?_
  | with_reducible refine i_dget2 ?_
  | with_reducible refine i_dput ?_
  | with_reducible refine i_din ?_
  | ((with_reducible refine i_aug (x := ?vv) ?hx ?_); (case hx => exact rfl)))
local macro_rules | `(tactic| walk_at "rd") => `(tactic| repeat (walk_at "sy"))

section
variable {P : Program} {w : World} {K : PySem.W.Frag} {mg : Str → Option Value} {base : Heap}
/-- the datum that repr shows -/
def pdV : V → PyData
  | .str s => .str s
  | .int i => .int i
  | _ => .none
def pdRow (xs : List V) : PyData := .tuple (xs.map pdV)
def pdTbl (rows : List (List V)) : PyData := .tuple (rows.map pdRow)
def Rw.data (R : Rw) : PyData := .tuple [.int R.b, .tuple ((R.ps.map V.str).map pdV), pdTbl (R.cs.map (·.2.row)), pdTbl (R.bs.map (·.2.row)), pdTbl (R.ss.map (·.2.row))]
theorem smAll_map {H : Hp} {k L : Nat} {α : Type} {f : α → V} {g : α → PyData} : ∀ {xs : List α}, (∀ x ∈ xs, Sm K H k L (f x) (g x)) → SmAll K H k L (xs.map f) (xs.map g)
  | [], _ => .nil
  | x :: xs, h => .cons (h x (List.mem_cons_self ..)) (smAll_map fun y hy => h y (List.mem_cons_of_mem _ hy))
theorem row_sm {H : Hp} {p : Addr} {xs : List V} (hp : H p = some (.tup xs)) (l : xs.length ≤ 8) (h : ∀ v ∈ xs, Ps v (pdV v)) : Sm K H 1 6000 (.ref p) (pdRow xs) := by
  have := Sm.tup (K := K) (k := 0) (L := 650) (ds := xs.map pdV) hp (by
    have := smAll_map (K := K) (H := H) (k := 0) (L := 650) (f := id) (g := pdV) (xs := xs) fun v hv => (h v hv).sm
    rwa [List.map_id] at this)
  exact this.mono (by omega) (by omega)
theorem tbl_sm {H : Hp} {p : Addr} {L : List (Addr × List V)} (hp : H p = some (.tup (L.map fun z => .ref z.1))) (hr : ∀ z ∈ L, H z.1 = some (.tup z.2)) (ok : ∀ z ∈ L, z.2.length ≤ 8 ∧ ∀ v ∈ z.2, Ps v (pdV v)) (l : L.length ≤ 12) : Sm K H 2 80000 (.ref p) (pdTbl (L.map (·.2))) := by
  have := Sm.tup (K := K) (k := 1) (L := 6000) (ds := L.map fun z => pdRow z.2) hp (smAll_map fun z hz => row_sm (hr z hz) (ok z hz).1 (ok z hz).2)
  have := this.mono (k' := 2) (L' := 80000) (by omega) (by rw [List.length_map]; omega)
  unfold pdTbl
  rwa [List.map_map]
theorem ps_nat {i : Int} (h0 : 0 ≤ i) (h1 : i ≤ 1000000) : Ps (.int i) (pdV (.int i)) := .int (by
  have : i.natAbs ≤ 1000000 := by omega
  have : (1000000 : Nat) < 10 ^ 60 := by decide
  omega)
theorem cd_ps {c : Cd} (o : c.ok) : c.row.length ≤ 8 ∧ ∀ v ∈ c.row, Ps v (pdV v) := by
  refine ⟨by simp [Cd.row], fun v hv => ?_⟩
  have := o.bh; have := o.bd; have := o.bf; have := o.bg; have := o.bm
  simp only [Cd.row, List.mem_cons, List.not_mem_nil, or_false] at hv
  rcases hv with rfl | rfl | rfl | rfl | rfl | rfl | rfl | rfl
  · exact name_ps o.nn
  · exact name_ps o.no
  · exact name_ps o.nt
  all_goals exact ps_nat (by omega) (by omega)
theorem row_le (d : Vd) : d.row.length ≤ 6 := by unfold Vd.row; cases d.k <;> simp
theorem un1' {k : Nat} {A : Around} (hr : Room k A) : A.units + 1 < cLine := by have := hr.un; omega
theorem vd_ps {d : Vd} (o : d.ok) : d.row.length ≤ 8 ∧ ∀ v ∈ d.row, Ps v (pdV v) := by
  refine ⟨Nat.le_trans (row_le d) (by decide), fun v hv => ?_⟩
  have h1 := o.five.bh; have h2 := o.five.bs; have h3 := o.five.bd; have h4 := o.c
  unfold Vd.row at hv
  cases hk : d.k <;> rw [hk] at hv <;> simp only [List.mem_cons, List.not_mem_nil, or_false] at hv
  · rcases hv with rfl | rfl | rfl | rfl | rfl
    · exact name_ps o.five.nn
    · exact name_ps o.five.np
    all_goals exact ps_nat (by omega) (by omega)
  · rcases hv with rfl | rfl | rfl | rfl | rfl | rfl
    · exact name_ps o.five.nn
    · exact name_ps o.five.np
    all_goals exact ps_nat (by omega) (by omega)
  · rcases hv with rfl | rfl | rfl | rfl | rfl | rfl
    · exact name_ps o.five.nn
    · exact name_ps o.five.np
    · exact name_ps o.g
    all_goals exact ps_nat (by omega) (by omega)
theorem data_sm {H : Hp} {r ap rc rb rs : Addr} {R : Rw} {Lc Lb Ls : List (Addr × List V)} (o : R.ok) (hr : H r = some (.tup [.int R.b, .ref ap, .ref rc, .ref rb, .ref rs])) (hp : H ap = some (.tup (R.ps.map V.str)))
    (hc : H rc = some (.tup (Lc.map fun z => .ref z.1))) (hb : H rb = some (.tup (Lb.map fun z => .ref z.1))) (hs : H rs = some (.tup (Ls.map fun z => .ref z.1))) (ec : Lc.map (·.2) = R.cs.map (·.2.row)) (eb : Lb.map (·.2) = R.bs.map (·.2.row)) (es : Ls.map (·.2) = R.ss.map (·.2.row))
    (kc : ∀ z ∈ Lc, H z.1 = some (.tup z.2)) (kb : ∀ z ∈ Lb, H z.1 = some (.tup z.2)) (ks : ∀ z ∈ Ls, H z.1 = some (.tup z.2)) : Sm K H 3 400013 (.ref r) R.data := by
  have l1 := o.cl; have l2 := o.bl; have l3 := o.sl; have l4 := o.p8
  have mem : ∀ {L : List (Addr × List V)} {ys : List (List V)}, L.map (·.2) = ys → ∀ z ∈ L, z.2 ∈ ys := fun e z hz => by rw [← e]; exact List.mem_map.mpr ⟨z, hz, rfl⟩
  have tc : Sm K H 2 80000 (.ref rc) (pdTbl (Lc.map (·.2))) := tbl_sm hc kc (fun z hz => by
    obtain ⟨y, hy, e⟩ := List.mem_map.mp (mem ec z hz)
    rw [← e]; exact cd_ps (o.ci y hy).1) (by have := congrArg List.length ec; rw [List.length_map, List.length_map] at this; omega)
  have tb : Sm K H 2 80000 (.ref rb) (pdTbl (Lb.map (·.2))) := tbl_sm hb kb (fun z hz => by
    obtain ⟨y, hy, e⟩ := List.mem_map.mp (mem eb z hz)
    rw [← e]; exact vd_ps (o.bi y hy).1) (by have := congrArg List.length eb; rw [List.length_map, List.length_map] at this; omega)
  have ts : Sm K H 2 80000 (.ref rs) (pdTbl (Ls.map (·.2))) := tbl_sm hs ks (fun z hz => by
    obtain ⟨y, hy, e⟩ := List.mem_map.mp (mem es z hz)
    rw [← e]; exact vd_ps (o.si y hy).1) (by have := congrArg List.length es; rw [List.length_map, List.length_map] at this; omega)
  have tp : Sm K H 1 6000 (.ref ap) (pdRow (R.ps.map V.str)) := row_sm hp (by rw [List.length_map]; omega) fun v hv => by
    obtain ⟨n, hn, rfl⟩ := List.mem_map.mp hv
    exact name_ps (o.pi n hn)
  rw [ec] at tc; rw [eb] at tb; rw [es] at ts
  have ti : Sm K H 2 80000 (.int R.b) (.int R.b) := ((ps_nat o.b.1 o.b.2).sm (k := 0)).mono (by omega) (by omega)
  exact Sm.tup (K := K) (k := 2) (L := 80000) hr (.cons ti (.cons (tp.mono (by omega) (by omega)) (.cons tc (.cons tb (.cons ts .nil)))))
theorem data_rp {H : Hp} {r ap rc rb rs : Addr} {R : Rw} {Lc Lb Ls : List (Addr × List V)} (o : R.ok) (hr : H r = some (.tup [.int R.b, .ref ap, .ref rc, .ref rb, .ref rs])) (hp : H ap = some (.tup (R.ps.map V.str)))
    (hc : H rc = some (.tup (Lc.map fun z => .ref z.1))) (hb : H rb = some (.tup (Lb.map fun z => .ref z.1))) (hs : H rs = some (.tup (Ls.map fun z => .ref z.1))) (ec : Lc.map (·.2) = R.cs.map (·.2.row)) (eb : Lb.map (·.2) = R.bs.map (·.2.row)) (es : Ls.map (·.2) = R.ss.map (·.2.row))
    (kc : ∀ z ∈ Lc, H z.1 = some (.tup z.2)) (kb : ∀ z ∈ Lb, H z.1 = some (.tup z.2)) (ks : ∀ z ∈ Ls, H z.1 = some (.tup z.2)) : Rp K H (.ref r) R.data := (data_sm (K := K) o hr hp hc hb hs ec eb es kc kb ks).rp (by omega) (Nat.le_trans (show 400013 ≤ 500000 by decide) (by decide))
theorem RowsU.sm {H : Hp} {pr : Addr} {R : Rw} (ru : RowsU H pr R) (o : R.ok) : Sm K H 3 400013 (.ref pr) R.data := by
  refine data_sm (Lc := R.cs.map fun z => (z.1, z.2.row)) (Lb := R.bs.map fun z => (z.1, z.2.row)) (Ls := R.ss.map fun z => (z.1, z.2.row)) o ru.hp ru.h1 (by rw [List.map_map]; exact ru.h2) (by rw [List.map_map]; exact ru.h4) (by rw [List.map_map]; exact ru.h6)
    (by rw [List.map_map]; rfl) (by rw [List.map_map]; rfl) (by rw [List.map_map]; rfl) ?_ ?_ ?_ <;> intro z hz <;> obtain ⟨y, hy, rfl⟩ := List.mem_map.mp hz
  · exact ru.h3 y hy
  · exact ru.h5 y hy
  · exact ru.h7 y hy
theorem RowsU.rp {H : Hp} {pr : Addr} {R : Rw} (ru : RowsU H pr R) (o : R.ok) : Rp K H (.ref pr) R.data := by
  refine data_rp (Lc := R.cs.map fun z => (z.1, z.2.row)) (Lb := R.bs.map fun z => (z.1, z.2.row)) (Ls := R.ss.map fun z => (z.1, z.2.row)) o ru.hp ru.h1 (by rw [List.map_map]; exact ru.h2) (by rw [List.map_map]; exact ru.h4) (by rw [List.map_map]; exact ru.h6)
    (by rw [List.map_map]; rfl) (by rw [List.map_map]; rfl) (by rw [List.map_map]; rfl) ?_ ?_ ?_ <;> intro z hz <;> obtain ⟨y, hy, rfl⟩ := List.mem_map.mp hz
  · exact ru.h3 y hy
  · exact ru.h5 y hy
  · exact ru.h7 y hy
theorem Made.wok {T : Top K mg} {H : Hp} {R : Rw} {CS : List (Addr × Cd)} {BS SS : VL} (m : Made T H R CS BS SS) (o : R.ok) : WOk T H R.b (nmM R.ps) (chM CS) (vsM BS) (vsM SS) := by
  have l1 : CS.length = R.cs.length := by have := congrArg List.length m.ec; simpa using this
  have l2 : BS.length = R.bs.length := by have := congrArg List.length m.eb; simpa using this
  have l3 : SS.length = R.ss.length := by have := congrArg List.length m.es; simpa using this
  have := o.cl; have := o.bl; have := o.sl
  refine ⟨o.b, by unfold nmM; rw [List.length_map]; exact o.p8, by unfold chM; rw [List.length_map]; omega, by unfold vsM; rw [List.length_map]; omega, by unfold vsM; rw [List.length_map]; omega, ?_, ?_, ?_, ?_⟩ <;> intro x hx <;> obtain ⟨z, hz, rfl⟩ := List.mem_map.mp hx
  · exact o.pi z hz
  · exact ⟨m.hc z hz, rfl⟩
  · refine ⟨m.hb z hz, isB_of ?_⟩
    have : z.2 ∈ BS.map (·.2) := List.mem_map.mpr ⟨z, hz, rfl⟩
    rw [m.eb] at this
    obtain ⟨y, hy, e⟩ := List.mem_map.mp this
    rw [← e]; exact (o.bi y hy).2.1
  · refine ⟨m.hs z hz, isS_of ?_⟩
    have : z.2 ∈ SS.map (·.2) := List.mem_map.mpr ⟨z, hz, rfl⟩
    rw [m.es] at this
    obtain ⟨y, hy, e⟩ := List.mem_map.mp this
    rw [← e]; exact (o.si y hy).2.1
theorem ok_NoVessel___init__ (T : Top K mg) : FnOk P w K mg base CX0 1 T.a_NoVessel___init__ T.d_NoVessel___init__ ["self", "found"] (spErr K "found") := by
  refine T.F_NoVessel___init__.ok sc_NoVessel___init__ (fun vs H Q E h => ?_) (fun cdv A outer s H vs Q E hr h => ?_)
  · obtain ⟨a, C, v, rfl, _⟩ := h
    rfl
  · obtain ⟨a, C, v, rfl, O, hno, ha, q⟩ := h
    refine ⟨_, (pss_cons (ps_expr (pe_kinit (by rfl) T.c_IceError T.sp_IceError T.ty_IceError T.rd_IceError T.fc_IceError (pa_cons (pv 0) (pa_cons pe_str pa_nil))))
      (pss_one (ps_ost (pv 0) (pv 1)))), ?_⟩
    walk_at "rd"
    refine ⟨a, C, _, rfl, by show 1 ≤ 1000; decide, O, ha, ?_⟩
    walk_at "rd"
    exact ⟨a, C, rfl, O, hno, .inl ⟨ha, q⟩⟩

theorem ok_NoKind___init__ (T : Top K mg) : FnOk P w K mg base CX0 1 T.a_NoKind___init__ T.d_NoKind___init__ ["self", "found"] (spErr K "found") := by
  refine T.F_NoKind___init__.ok sc_NoKind___init__ (fun vs H Q E h => ?_) (fun cdv A outer s H vs Q E hr h => ?_)
  · obtain ⟨a, C, v, rfl, _⟩ := h
    rfl
  · obtain ⟨a, C, v, rfl, O, hno, ha, q⟩ := h
    refine ⟨_, (pss_cons (ps_expr (pe_kinit (by rfl) T.c_IceError T.sp_IceError T.ty_IceError T.rd_IceError T.fc_IceError (pa_cons (pv 0) (pa_cons pe_str pa_nil))))
      (pss_one (ps_ost (pv 0) (pv 1)))), ?_⟩
    walk_at "rd"
    refine ⟨a, C, _, rfl, by show 1 ≤ 1000; decide, O, ha, ?_⟩
    walk_at "rd"
    exact ⟨a, C, rfl, O, hno, .inl ⟨ha, q⟩⟩

/-- what stands by a name -/
def byNm (ms : List Mk) : V → Option V
  | .str s => valV (nmD ms) (Sum.inr s)
  | _ => none
def spByVe (T : Top K mg) : Sp := fun vs H Q E => ∃ (x : Addr) (v : V) (b : Int) (mp mc mb ms : List Mk), vs = [.ref x, v] ∧ WorldT T H x b mp mc mb ms ∧ Th H v ∧ (∀ u, byNm (mb ++ ms) v = some u → Q u H) ∧
  (byNm (mb ++ ms) v = none → ∀ d H', Same H H' → H' d = some (.xd [(Str.ofString "found", v)]) → E (.ref T.a_NoVessel) (some d) H')
theorem ok_World_vessel (T : Top K mg) : FnG P w K mg base (L2.CX P w) 3 T.a_World_vessel T.d_World_vessel ["self", "name"] (spByVe T) := by
  have G_NoVessel___init__ := ok_NoVessel___init__ (P := P) (w := w) (base := base) T
  refine okGX T.F_World_vessel sc_World_vessel (fun vs H Q E h => ?_) (fun cdv A outer s H vs Q E hr hgd h => ?_)
  · obtain ⟨x, v, b, mp, mc, mb, ms, rfl, _⟩ := h
    rfl
  · obtain ⟨x, v, b, mp, mc, mb, ms, rfl, ⟨dx, ap, ac, ab, as_, ad, av, wf⟩, th, q, e⟩ := h
    have G_NoVessel___init__ := ok_NoVessel___init__ (P := P) (w := w) (base := base) T
    have hu : _ := un1' hr
    refine ⟨_, (pss_cons (ps_if (PW.pt (pw_or (pt_not (pt_val (pe_callB c_isi (by rfl) T.n_isinstance (by decide +kernel) (pa_cons (pv 1) (pa_cons (pe_bltn (v := .ty "str") (by rfl) T.n_str (by decide +kernel) rfl) pa_nil))))) (pw_or1 (pt_cmp (pc_dnotin hu (pv 1) (pe_fld (pv 0) rfl))))))
        (pss_one (ps_raise rfl (takes_of rfl rfl rfl rfl) (pmk_oex T.ox_NoVessel T.in_NoVessel T.tf_NoVessel G_NoVessel___init__ (hr.mono (by decide)) T.b_NoVessel___init__ .nil pass0 (by rfl) T.c_NoVessel (pa_cons (pv 1) pa_nil))))
        pss_nil)
      (pss_one (ps_ret (pe_dget hu (pe_fld (pv 0) rfl) (pv 1) (fun _ _ => rfl))))), ?_⟩
    walk_at "rd"
    rcases th with ⟨s, rfl, hs⟩ | ⟨n, hn⟩
    · refine i_isi ty_str (b := true) (by decide +kernel) ?_
      walk_at "rd"
      refine i_dnin ?_
      walk_at "rd"
      refine ⟨x, _, dx, _, _, rfl, wf.hx, T.cl_World, T.na_World__vessel_of, rfl, ?_⟩
      refine ⟨av, _, rfl, dgetS wf.hv rfl, ?_⟩
      cases hv : valV (nmD (mb ++ ms)) (Sum.inr s) with
      | none =>
        simp only [Option.isSome_none, Bool.not_false]
        walk_at "rd"
        exact i_mkE T.ox_NoVessel T.nf_NoVessel_found (fun d hd => e hv d _ (Same.new _ hd) upd_same)
      | some u =>
        simp only [Option.isSome_some, Bool.not_true]
        walk_at "rd"
        refine ⟨x, _, dx, _, _, rfl, wf.hx, T.cl_World, T.na_World__vessel_of, rfl, ?_⟩
        walk_at "rd"
        exact ⟨av, u, rfl, dgetS wf.hv hv, q u hv⟩
    · have hv : byNm (mb ++ ms) v = none := by
        cases hn <;> rfl
      refine i_isi hn.tyx hn.noStr ?_
      walk_at "rd"
      exact i_mkE T.ox_NoVessel T.nf_NoVessel_found (fun d hd => e hv d _ (Same.new _ hd) upd_same)
theorem Made.toldS {T : Top K mg} {H : Hp} {R : Rw} {CS : List (Addr × Cd)} {BS SS : VL} {r ap rc rb rs : Addr} {Lc Lb Ls : List (Addr × Mk)} (m : Made T H R CS BS SS) {H4 : Hp} (o : R.ok) (kr : H4 r = some (.tup [.int R.b, .ref ap, .ref rc, .ref rb, .ref rs])) (kap : H4 ap = some (.tup ((nmM R.ps).map Mk.v)))
    (krc : H4 rc = some (.tup (arefs Lc))) (krb : H4 rb = some (.tup (arefs Lb))) (krs : H4 rs = some (.tup (arefs Ls))) (eLc : Lc.map (·.2) = chM CS) (eLb : Lb.map (·.2) = vsM BS) (eLs : Ls.map (·.2) = vsM SS) (kz : ∀ z ∈ Lc ++ Lb ++ Ls, H4 z.1 = some (.tup z.2.row)) : Sm K H4 3 400013 (.ref r) R.data :=
  data_sm (Lc := Lc.map fun z => (z.1, z.2.row)) (Lb := Lb.map fun z => (z.1, z.2.row)) (Ls := Ls.map fun z => (z.1, z.2.row)) o kr (by rw [← nmM_v]; exact kap) (by rw [List.map_map]; exact krc) (by rw [List.map_map]; exact krb) (by rw [List.map_map]; exact krs)
        (by rw [List.map_map, show ((fun z : Addr × List V => z.2) ∘ fun z : Addr × Mk => (z.1, z.2.row)) = Mk.row ∘ (fun z => z.2) from rfl, ← List.map_map, eLc]; unfold chM; rw [List.map_map, show (Mk.row ∘ fun z : Addr × Cd => Mk.ch z.1 z.2) = Cd.row ∘ (fun z => z.2) from rfl, ← List.map_map, m.ec, List.map_map]; rfl)
        (by rw [List.map_map, show ((fun z : Addr × List V => z.2) ∘ fun z : Addr × Mk => (z.1, z.2.row)) = Mk.row ∘ (fun z => z.2) from rfl, ← List.map_map, eLb]; unfold vsM; rw [List.map_map, show (Mk.row ∘ fun z : Addr × Vd => Mk.ves z.1 z.2) = Vd.row ∘ (fun z => z.2) from rfl, ← List.map_map, m.eb, List.map_map]; rfl)
        (by rw [List.map_map, show ((fun z : Addr × List V => z.2) ∘ fun z : Addr × Mk => (z.1, z.2.row)) = Mk.row ∘ (fun z => z.2) from rfl, ← List.map_map, eLs]; unfold vsM; rw [List.map_map, show (Mk.row ∘ fun z : Addr × Vd => Mk.ves z.1 z.2) = Vd.row ∘ (fun z => z.2) from rfl, ← List.map_map, m.es, List.map_map]; rfl)
        (fun z hz => by obtain ⟨y, hy, rfl⟩ := List.mem_map.mp hz; exact kz y (List.mem_append_left _ (List.mem_append_left _ hy)))
        (fun z hz => by obtain ⟨y, hy, rfl⟩ := List.mem_map.mp hz; exact kz y (List.mem_append_left _ (List.mem_append_right _ hy)))
        (fun z hz => by obtain ⟨y, hy, rfl⟩ := List.mem_map.mp hz; exact kz y (List.mem_append_right _ hy))
theorem Made.told {T : Top K mg} {H : Hp} {R : Rw} {CS : List (Addr × Cd)} {BS SS : VL} {r ap rc rb rs : Addr} {Lc Lb Ls : List (Addr × Mk)} (m : Made T H R CS BS SS) {H4 : Hp} (o : R.ok) (kr : H4 r = some (.tup [.int R.b, .ref ap, .ref rc, .ref rb, .ref rs])) (kap : H4 ap = some (.tup ((nmM R.ps).map Mk.v)))
    (krc : H4 rc = some (.tup (arefs Lc))) (krb : H4 rb = some (.tup (arefs Lb))) (krs : H4 rs = some (.tup (arefs Ls))) (eLc : Lc.map (·.2) = chM CS) (eLb : Lb.map (·.2) = vsM BS) (eLs : Ls.map (·.2) = vsM SS) (kz : ∀ z ∈ Lc ++ Lb ++ Ls, H4 z.1 = some (.tup z.2.row)) : Rp K H4 (.ref r) R.data :=
  data_rp (Lc := Lc.map fun z => (z.1, z.2.row)) (Lb := Lb.map fun z => (z.1, z.2.row)) (Ls := Ls.map fun z => (z.1, z.2.row)) o kr (by rw [← nmM_v]; exact kap) (by rw [List.map_map]; exact krc) (by rw [List.map_map]; exact krb) (by rw [List.map_map]; exact krs)
        (by rw [List.map_map, show ((fun z : Addr × List V => z.2) ∘ fun z : Addr × Mk => (z.1, z.2.row)) = Mk.row ∘ (fun z => z.2) from rfl, ← List.map_map, eLc]; unfold chM; rw [List.map_map, show (Mk.row ∘ fun z : Addr × Cd => Mk.ch z.1 z.2) = Cd.row ∘ (fun z => z.2) from rfl, ← List.map_map, m.ec, List.map_map]; rfl)
        (by rw [List.map_map, show ((fun z : Addr × List V => z.2) ∘ fun z : Addr × Mk => (z.1, z.2.row)) = Mk.row ∘ (fun z => z.2) from rfl, ← List.map_map, eLb]; unfold vsM; rw [List.map_map, show (Mk.row ∘ fun z : Addr × Vd => Mk.ves z.1 z.2) = Vd.row ∘ (fun z => z.2) from rfl, ← List.map_map, m.eb, List.map_map]; rfl)
        (by rw [List.map_map, show ((fun z : Addr × List V => z.2) ∘ fun z : Addr × Mk => (z.1, z.2.row)) = Mk.row ∘ (fun z => z.2) from rfl, ← List.map_map, eLs]; unfold vsM; rw [List.map_map, show (Mk.row ∘ fun z : Addr × Vd => Mk.ves z.1 z.2) = Vd.row ∘ (fun z => z.2) from rfl, ← List.map_map, m.es, List.map_map]; rfl)
        (fun z hz => by obtain ⟨y, hy, rfl⟩ := List.mem_map.mp hz; exact kz y (List.mem_append_left _ (List.mem_append_left _ hy)))
        (fun z hz => by obtain ⟨y, hy, rfl⟩ := List.mem_map.mp hz; exact kz y (List.mem_append_left _ (List.mem_append_right _ hy)))
        (fun z hz => by obtain ⟨y, hy, rfl⟩ := List.mem_map.mp hz; exact kz y (List.mem_append_right _ hy))
/-- a channel anew, by another name, between others -/
def Cd.to (c : Cd) (n o t : Str) : Cd := ⟨n, o, t, c.h, c.d, c.f, c.g, c.m⟩
def spAnewC (T : Top K mg) : Sp := fun vs H Q _ => ∃ (x : Addr) (c : Cd) (n o t : Str), vs = [.ref x, .str n, .str o, .str t] ∧ ChT T H x c ∧ (c.to n o t).ok ∧ ∀ y H', Same H H' → H y = none → ChT T H' y (c.to n o t) → Q (.ref y) H'
theorem ok_channel_anew (T : Top K mg) : FnG P w K mg base CX0 6 T.a_channel_anew T.d_channel_anew ["channel", "name", "one", "other"] (spAnewC T) := by
  have G_Channel___init__ := ok_Channel___init__ (P := P) (w := w) (base := base) T
  refine okG T.F_channel_anew sc_channel_anew (fun vs H Q E h => ?_) (fun cdv A outer s H vs Q E hr hgd h => ?_)
  · obtain ⟨x, c, n, o, t, rfl, _⟩ := h
    rfl
  · obtain ⟨x, c, n, o, t, rfl, hc, k, q⟩ := h
    refine ⟨_, (pss_one (ps_ret (g_make T.mk_Channel G_Channel___init__ (hr.mono (by decide)) hgd (by rfl) T.c_Channel T.b_Channel___init__ .nil passL (pa_cons (pv 1) (pa_cons (pv 2) (pa_cons (pv 3) (pa_cons (pe_fld (pv 0) rfl) (pa_cons (pe_fld (pv 0) rfl) (pa_cons (pe_fld (pv 0) rfl) (pa_cons (pe_fld (pv 0) rfl) (pa_cons (pe_fld (pv 0) rfl) pa_nil))))))))))), ?_⟩
    walk_at "rd"
    refine ch_fld T hc T.na_Channel_hours rfl ?_
    walk_at "rd"
    refine ch_fld T hc T.na_Channel_depth rfl ?_
    walk_at "rd"
    refine ch_fld T hc T.na_Channel_first rfl ?_
    walk_at "rd"
    refine ch_fld T hc T.na_Channel_growth rfl ?_
    walk_at "rd"
    refine ch_fld T hc T.na_Channel_most rfl ?_
    walk_at "rd"
    intro y dx hy hdx nex
    refine ⟨y, dx, _, _, _, _, _, _, _, _, rfl, upd_same, cd_th k _, ?_⟩
    have mk := Cd.made k
    unfold Cd.to at mk
    dsimp only at mk
    rw [mk]
    exact fun H1 b1 k1 => ⟨rfl, q _ _ (made_same hy hdx b1) hy ⟨k, dx, k1⟩⟩
/-- a vessel anew -/
def Vd.to (d : Vd) (n p g : Str) (h : Int) : Vd := ⟨d.k, n, p, g, h, d.s, d.d, d.c⟩
def spAnewB (T : Top K mg) : Sp := fun vs H Q _ => ∃ (x : Addr) (d : Vd) (n p : Str) (h : Int), vs = [.ref x, .str n, .str p, .int h] ∧ VesT T H x d ∧ d.k = .b ∧ (d.to n p d.g h).ok ∧ ∀ y H', Same H H' → H y = none → VesT T H' y (d.to n p d.g h) → Q (.ref y) H'
theorem ok_breaker_anew (T : Top K mg) : FnG P w K mg base CX0 7 T.a_breaker_anew T.d_breaker_anew ["breaker", "name", "port", "hour"] (spAnewB T) := by
  have G_Breaker___init__ := ok_Breaker___init__ (P := P) (w := w) (base := base) T
  refine okG T.F_breaker_anew sc_breaker_anew (fun vs H Q E h => ?_) (fun cdv A outer s H vs Q E hr hgd h => ?_)
  · obtain ⟨x, d, n, p, h, rfl, _⟩ := h
    rfl
  · obtain ⟨x, d, n, p, h, rfl, hd, dk, ok, q⟩ := h
    have er : (d.to n p d.g h).row = [.str n, .str p, .int h, .int d.s, .int d.d, .int d.c] := by unfold Vd.row Vd.to; dsimp only; rw [dk]
    have th : ∀ H, ∀ v ∈ (d.to n p d.g h).row, Th H v := fun H => RowK.th H (rowK_of ok)
    rw [er] at th
    obtain ⟨ok0, dx0, hx⟩ := hd
    rw [dk] at hx
    refine ⟨_, (pss_one (ps_ret (g_make T.mk_Breaker G_Breaker___init__ (hr.mono (by decide)) hgd (by rfl) T.c_Breaker T.b_Breaker___init__ .nil passL (pa_cons (pv 1) (pa_cons (pv 2) (pa_cons (pv 3) (pa_cons (pe_fld (pv 0) rfl) (pa_cons (pe_fld (pv 0) rfl) (pa_cons (pe_fld (pv 0) rfl) pa_nil))))))))), ?_⟩
    walk_at "rd"
    refine v_fld T hx T.cl_Breaker T.na_Breaker_strength d.l_strength ?_
    walk_at "rd"
    refine v_fld T hx T.cl_Breaker T.na_Breaker_draught d.l_draught ?_
    walk_at "rd"
    refine v_fld T hx T.cl_Breaker T.na_Breaker_cut (l_cut dk) ?_
    walk_at "rd"
    intro y dx hy hdx nex
    refine ⟨y, dx, _, _, _, _, _, _, rfl, upd_same, th _, ?_⟩
    have fm := ok.five.made
    unfold Vd.to at fm
    dsimp only at fm
    rw [resV_snoc, fm]
    dsimp only
    rw [if_neg (by show ¬ (!inB 1 1000000 (.int d.c)) = true; rw [inB_of (show 1 ≤ d.c from ok.c.1) ok.c.2]; decide)]
    refine fun H1 b1 k1 => ⟨rfl, q _ _ (made_same hy hdx b1) hy ⟨ok, dx, ?_⟩⟩
    unfold Vd.flds
    rw [er]
    show H1 y = some (.ins (match d.k with | .v => _ | .b => _ | .s => _) dx _)
    rw [show (d.to n p d.g h).k = .b from dk, dk]; exact k1
def spAnewS (T : Top K mg) : Sp := fun vs H Q _ => ∃ (x : Addr) (d : Vd) (n p g : Str) (h : Int), vs = [.ref x, .str n, .str p, .str g, .int h] ∧ VesT T H x d ∧ d.k = .s ∧ (d.to n p g h).ok ∧ ∀ y H', Same H H' → H y = none → VesT T H' y (d.to n p g h) → Q (.ref y) H'
theorem ok_ship_anew (T : Top K mg) : FnG P w K mg base CX0 7 T.a_ship_anew T.d_ship_anew ["ship", "name", "port", "goal", "hour"] (spAnewS T) := by
  have G_Ship___init__ := ok_Ship___init__ (P := P) (w := w) (base := base) T
  refine okG T.F_ship_anew sc_ship_anew (fun vs H Q E h => ?_) (fun cdv A outer s H vs Q E hr hgd h => ?_)
  · obtain ⟨x, d, n, p, g, h, rfl, _⟩ := h
    rfl
  · obtain ⟨x, d, n, p, g, h, rfl, hd, dk, ok, q⟩ := h
    have er : (d.to n p g h).row = [.str n, .str p, .str g, .int h, .int d.s, .int d.d] := by unfold Vd.row Vd.to; dsimp only; rw [dk]
    have th : ∀ H, ∀ v ∈ (d.to n p g h).row, Th H v := fun H => RowK.th H (rowK_of ok)
    rw [er] at th
    obtain ⟨ok0, dx0, hx⟩ := hd
    rw [dk] at hx
    refine ⟨_, (pss_one (ps_ret (g_make T.mk_Ship G_Ship___init__ (hr.mono (by decide)) hgd (by rfl) T.c_Ship T.b_Ship___init__ .nil passL (pa_cons (pv 1) (pa_cons (pv 2) (pa_cons (pv 3) (pa_cons (pv 4) (pa_cons (pe_fld (pv 0) rfl) (pa_cons (pe_fld (pv 0) rfl) pa_nil))))))))), ?_⟩
    walk_at "rd"
    refine v_fld T hx T.cl_Ship T.na_Ship_strength d.l_strength ?_
    walk_at "rd"
    refine v_fld T hx T.cl_Ship T.na_Ship_draught d.l_draught ?_
    walk_at "rd"
    intro y dx hy hdx nex
    refine ⟨y, dx, _, _, _, _, _, _, rfl, upd_same, th _, ?_⟩
    have fm := ok.five.made
    have ng := ok.g
    have n1 := ok.five.nn
    have n2 := ok.five.np
    unfold Vd.to at fm ng n1 n2
    dsimp only at fm ng n1 n2
    have nb : [V.str n, V.str p, V.str g].find? bad = none := by simp [bad, n1, n2, ng]
    rw [resV_goal nb, fm]
    refine fun H1 b1 k1 => ⟨rfl, q _ _ (made_same hy hdx b1) hy ⟨ok, dx, ?_⟩⟩
    unfold Vd.flds
    rw [er]
    rw [show (d.to n p g h).k = .s from dk]; exact k1
end

end Ice

set_option Elab.async false
set_option linter.all false
set_option maxRecDepth 100000
set_option maxHeartbeats 4000000
set_option autoImplicit true
namespace Ice
open PySem PySem.Spec PyProof.Rows L2 TL
/-! side conditions, heaps, one step of a reading, and many -/
local macro_rules | `(tactic| walk_at "hp") => `(tactic| first | assumption | exact upd_same | exact New.at_ (by assumption) | (refine keepU ?_ (by assumption); walk_at "hp") | (refine New.app (by assumption) ?_; walk_at "hp") | (refine Same.app (by assumption) ?_; walk_at "hp") | (refine But.app (by assumption) (by assumption) ?_; walk_at "hp"))
local macro_rules | `(tactic| walk_at "sq") => `(tactic| first | assumption | exact SqL.lst (by walk_at "hp") | exact L2.Same.seq (New.same (by assumption)) (by assumption) | exact L2.Same.seq (by assumption) (by assumption))
local macro_rules | `(tactic| walk_at "len") => `(tactic| first | assumption | (simp only [List.length_cons, List.length_nil, List.length_append, List.length_map]; decide) | (refine Ice.sz_of ?_; simp only [List.length_cons, List.length_nil, List.length_append, List.length_map]; omega))
local macro_rules | `(tactic| walk_at "fresh") => `(tactic| (simp only [List.map_append, List.map_cons, List.map_nil, List.nil_append, List.cons_append]; decide +kernel))
local macro_rules | `(tactic| walk_at "sd") => `(tactic| first | assumption | (show _ ≠ _; omega) | exact Or.inl ⟨by omega, by omega⟩ | exact Or.inr ⟨by omega, by omega⟩ | exact ⟨by decide, by decide⟩ | exact ⟨by decide, by decide, by decide⟩ | exact ⟨by omega, by omega, by omega⟩)
/-! one step of a reading, and many -/
local macro_rules | `(tactic| walk_at "st") => `(tactic| first
  | with_reducible refine i_seq ?_
  | with_reducible refine i_if ?_
  | with_reducible refine i_next ?_
  | with_reducible refine i_ret ?_
  | with_reducible refine i_retN ?_
  | with_reducible refine i_drop ?_
  | with_reducible refine i_asg ?_
  | with_reducible refine i_gname ?_
  | with_reducible refine i_gsub ?_
  | ((with_reducible refine i_var (v := ?vv) ?hv ?_); (case hv => exact rfl))
  | with_reducible refine i_c ?_
  | with_reducible refine i_op ?_
  | with_reducible refine i_un ?_
  | with_reducible refine i_test ?_
  | with_reducible refine i_tB ?_
  | with_reducible refine i_and ?_
  | with_reducible refine i_or ?_
  | with_reducible refine i_not ?_
  | with_reducible refine i_andV ?_
  | with_reducible refine i_orV ?_
  | with_reducible refine i_notV ?_
  | with_reducible refine i_ifE ?_
  | with_reducible refine i_chain ?_
  | with_reducible refine i_bl ?_
  | with_reducible refine i_nil ?_
  | with_reducible refine i_cons ?_
  | with_reducible refine i_call ?_
  | with_reducible refine i_cb ?_
  | with_reducible refine i_rI0 ?_
  | with_reducible refine i_rU ?_
  | ((with_reducible refine i_rEq ?hs ?_); (case hs => exact rfl))
  | ((with_reducible refine i_rNe ?hs ?_); (case hs => exact rfl))
  | ((with_reducible refine i_rI ?hc ?_); (case hc => walk_at "sd"))
  | ((with_reducible refine i_ixL (xs := ?xs) (v := ?vv) ?hS ?he ?_); (case hS => walk_at "sq"); (case he => exact rfl))
  | ((with_reducible refine i_setL (xs := ?xs) (j := ?jj) ?hS ?he ?_); (case hS => walk_at "hp"); (case he => exact rfl))
  | with_reducible refine i_tup ?_
  | with_reducible refine i_lst ?_
  | with_reducible refine i_bm ?_
  | with_reducible refine i_bm0 ?_
  | with_reducible refine i_m1 ?_
  | with_reducible refine i_sl ?_
  | with_reducible refine i_nopart ?_
  | with_reducible refine i_part ?_
  | with_reducible refine i_int ?_
  | with_reducible refine i_str ?_
  | with_reducible refine i_for ?_
  | with_reducible refine i_yes ?_
  | ((with_reducible refine i_lenL (xs := ?xs) ?hS ?_); (case hS => walk_at "sq"))
  | ((with_reducible refine i_room ?hz ?_); (case hz => walk_at "len"))
  | with_reducible refine i_leT ?_
  | with_reducible refine i_notInS ?_
  | with_reducible refine i_inS ?_
  | with_reducible refine i_find ?_
  | with_reducible refine i_isB ?_
  | with_reducible refine i_max2 ?_
  | with_reducible refine i_min2 ?_
  | with_reducible exact trivial
  | with_reducible refine iteT ?_
  | with_reducible refine iteF ?_
  | with_reducible refine i_isstr ?_
  | with_reducible refine i_lc ?_
  | ((with_reducible refine i_cat (xs := ?xs) (zs := ?zs) ?ha ?hb ?hz ?_); (case ha => walk_at "hp"); (case hb => walk_at "hp"); (case hz => walk_at "len"))
  | ((with_reducible refine i_tyL (xs := ?xs) ?ha ?_); (case ha => walk_at "hp"))
  | with_reducible refine i_list ?_
  | with_reducible refine i_disp ?_
  | with_reducible refine i_pairs0 ?_
  | with_reducible refine i_pairs ?_
  | with_reducible refine i_newK ?_
  | with_reducible refine i_gcons ?_
  | with_reducible refine i_gnil ?_
  | with_reducible refine i_revL ?_
  | with_reducible refine i_rng1 ?_
  | ((with_reducible refine i_wipe ?hw ?_); (case hw => exact rfl))
  | with_reducible refine iteNT ?_
  | with_reducible refine iteNF ?_)
local macro_rules | `(tactic| walk_at "sx") => `(tactic| first
  | walk_at "st"
  | with_reducible refine i_kinit ?_
  | with_reducible refine i_ost ?_
  | with_reducible refine i_mkO ?_
  | with_reducible refine i_callE ?_
  | with_reducible refine i_makeE ?_
  | with_reducible refine i_xf ?_
  | with_reducible refine i_sfld ?_
  | with_reducible refine i_fld ?_
  | ((with_reducible refine i_ixT (xs := ?xs) (v := ?vv) ?hS ?he ?_); (case hS => exact SqT.tup (by walk_at "hp")); (case he => exact rfl))
  | with_reducible refine i_intB ?_
  | with_reducible refine i_runS ?_
  | with_reducible refine i_runN ?_
  | ((with_reducible refine i_xf1 (fs := ?ff) (v := ?vv) ?hx ?hl ?_); (case hx => walk_at "hp"); (case hl => exact rfl))
  | with_reducible refine i_methE ?_
  | with_reducible refine i_meth ?_
  | with_reducible refine i_make ?_
  | ((with_reducible refine i_obj (dx := ?dd) (fs := ?ff) ?hx ?hl ?_); (case hx => walk_at "hp"); (case hl => exact rfl))
  | ((with_reducible refine i_fld1 (C := ?CC) (dx := ?dd) (fs := ?ff) (v := ?vv) ?hx ?cl ?na ?hl ?_); (case hx => walk_at "hp"); (case cl => assumption); (case na => assumption); (case hl => exact rfl)))
local macro_rules | `(tactic| walk_at "sy") => `(tactic| first
  | walk_at "sx"
  | with_reducible refine i_dget ?_
  | with_reducible refine i_dget2 ?_
  | with_reducible refine i_dput ?_
  | with_reducible refine i_din ?_
  | ((with_reducible refine i_aug (x := ?vv) ?hx ?_); (case hx => exact rfl)))
local macro_rules | `(tactic| walk_at "rd") => `(tactic| repeat (walk_at "sy"))

section
variable {P : Program} {w : World} {K : PySem.W.Frag} {mg : Str → Option Value} {base : Heap}
/-- a made world, as its rows say -/
structure WIs (T : Top K mg) (H : Hp) (x : Addr) (R : Rw) (CS : List (Addr × Cd)) (BS SS : VL) : Prop where
  w : WorldT T H x R.b (nmM R.ps) (chM CS) (vsM BS) (vsM SS)
  m : Made T H R CS BS SS
  o : R.ok
theorem WIs.same {T : Top K mg} {H H' : Hp} {x : Addr} {R : Rw} {CS : List (Addr × Cd)} {BS SS : VL} (a : WIs T H x R CS BS SS) (e : Same H H') : WIs T H' x R CS BS SS := ⟨a.w.same e, a.m.same e, a.o⟩
theorem WIs.l1 {T : Top K mg} {H : Hp} {x : Addr} {R : Rw} {CS : List (Addr × Cd)} {BS SS : VL} (a : WIs T H x R CS BS SS) : CS.length ≤ 12 ∧ BS.length ≤ 4 ∧ SS.length ≤ 6 := by
  have l1 : CS.length = R.cs.length := by have := congrArg List.length a.m.ec; simpa using this
  have l2 : BS.length = R.bs.length := by have := congrArg List.length a.m.eb; simpa using this
  have l3 : SS.length = R.ss.length := by have := congrArg List.length a.m.es; simpa using this
  rw [l1, l2, l3]; exact ⟨a.o.cl, a.o.bl, a.o.sl⟩
theorem WIs.l1000 {T : Top K mg} {H : Hp} {x : Addr} {R : Rw} {CS : List (Addr × Cd)} {BS SS : VL} (a : WIs T H x R CS BS SS) : (vsM BS).length ≤ 1000 ∧ (vsM SS).length ≤ 1000 := by
  have := a.l1
  unfold vsM; rw [List.length_map, List.length_map]; omega
theorem mem_map2 {α β γ : Type} {xs : List (α × γ)} {ys : List (β × γ)} (e : xs.map (·.2) = ys.map (·.2)) {z : α × γ} (hz : z ∈ xs) : ∃ y ∈ ys, y.2 = z.2 := by
  have : z.2 ∈ xs.map (·.2) := List.mem_map.mpr ⟨z, hz, rfl⟩
  rw [e] at this
  exact List.mem_map.mp this
theorem WIs.ci {T : Top K mg} {H : Hp} {x : Addr} {R : Rw} {CS : List (Addr × Cd)} {BS SS : VL} (a : WIs T H x R CS BS SS) : ∀ z ∈ CS, ChT T H z.1 z.2 ∧ z.2.ok ∧ z.2.o ∈ R.ps ∧ z.2.t ∈ R.ps := fun z hz => by
  obtain ⟨y, hy, e⟩ := mem_map2 a.m.ec hz
  exact ⟨a.m.hc z hz, e ▸ a.o.ci y hy⟩
theorem WIs.bi {T : Top K mg} {H : Hp} {x : Addr} {R : Rw} {CS : List (Addr × Cd)} {BS SS : VL} (a : WIs T H x R CS BS SS) : ∀ z ∈ BS, VesT T H z.1 z.2 ∧ z.2.ok ∧ z.2.k = .b ∧ z.2.p ∈ R.ps := fun z hz => by
  obtain ⟨y, hy, e⟩ := mem_map2 a.m.eb hz
  exact ⟨a.m.hb z hz, e ▸ a.o.bi y hy⟩
theorem WIs.si {T : Top K mg} {H : Hp} {x : Addr} {R : Rw} {CS : List (Addr × Cd)} {BS SS : VL} (a : WIs T H x R CS BS SS) : ∀ z ∈ SS, VesT T H z.1 z.2 ∧ z.2.ok ∧ z.2.k = .s ∧ z.2.p ∈ R.ps ∧ z.2.g ∈ R.ps := fun z hz => by
  obtain ⟨y, hy, e⟩ := mem_map2 a.m.es hz
  exact ⟨a.m.hs z hz, e ▸ a.o.si y hy⟩
def Cd.turn (c : Cd) : Cd := c.to c.n c.t c.o
theorem Cd.turn_ok {c : Cd} (o : c.ok) : c.turn.ok := ⟨o.nn, o.nt, o.no, o.ne.symm, o.bh, o.bd, o.bf, o.bg, o.bm⟩
def Rw.turn (R : Rw) : Rw := { R with cs := R.cs.map fun z => (z.1, z.2.turn) }
theorem Rw.turn_ok {R : Rw} (o : R.ok) : R.turn.ok := by
  refine { o with cl := ?_, cn := ?_, ci := ?_ }
  · show (R.cs.map _).length ≤ 12; rw [List.length_map]; exact o.cl
  · show ((R.cs.map fun z => (z.1, z.2.turn)).map (·.2.n)).Nodup
    rw [List.map_map]; exact o.cn
  · intro z hz
    obtain ⟨y, hy, rfl⟩ := List.mem_map.mp hz
    have := o.ci y hy
    exact ⟨Cd.turn_ok this.1, this.2.2, this.2.1⟩
theorem Rw.turn_data {R : Rw} : R.turn.turn.data = R.data := by
  unfold Rw.data
  have e : R.turn.turn.cs = R.cs := by
    show (R.cs.map fun z => (z.1, z.2.turn)).map (fun z => (z.1, z.2.turn)) = R.cs
    rw [List.map_map]
    exact (List.map_congr_left fun z _ => rfl).trans (List.map_id _)
  rw [e]; rfl
theorem vd_id (d : Vd) : d.to d.n d.p d.g d.h = d := rfl
theorem w_obj {T : Top K mg} {H : Hp} {x : Addr} {b : Int} {mp mc mb ms : List Mk} (wt : WorldT T H x b mp mc mb ms) {m : Str} {B : Prop} (hl : ∀ b ap ac ab as_ ad av, (fldW b ap ac ab as_ ad av).lookup m = none) (q : B) : ∃ a dx fs, V.ref x = .ref a ∧ H a = some (.ins T.a_World dx fs) ∧ fs.lookup m = none ∧ B := by
  obtain ⟨dx, ap, ac, ab, as_, ad, av, wf⟩ := wt
  exact ⟨x, dx, _, rfl, wf.hx, hl _ _ _ _ _ _ _, q⟩
theorem chs_get {CS : List (Addr × Cd)} {i : Nat} {x : V} (h : ((chM CS).map Mk.v)[i]? = some x) : ∃ z, CS[i]? = some z ∧ x = .ref z.1 := by
  unfold chM at h
  rw [List.map_map, List.getElem?_map, Option.map_eq_some_iff] at h
  obtain ⟨z, hz, rfl⟩ := h
  exact ⟨z, hz, rfl⟩
theorem vss_get {BS : VL} {i : Nat} {x : V} (h : ((vsM BS).map Mk.v)[i]? = some x) : ∃ z, BS[i]? = some z ∧ x = .ref z.1 := by
  unfold vsM at h
  rw [List.map_map, List.getElem?_map, Option.map_eq_some_iff] at h
  obtain ⟨z, hz, rfl⟩ := h
  exact ⟨z, hz, rfl⟩
theorem m_same {H : Hp} {y dx : Addr} {u v : HO} (hy : H y = none) (hd : H dx = none) : Same H (upd (upd H dx u) y v) := made_same hy hd (fun _ _ _ h => h)
/-- a World is made of what stands; refused, or not -/
theorem w_init (T : Top K mg) {R : Rw} {CS : List (Addr × Cd)} {BS SS : VL} {J : Hp} {y dx lp lc lb ls : Addr} {QQ : VK} {E : XK} (hb : 0 ≤ R.b ∧ R.b ≤ 1000000) (pi : ∀ n ∈ R.ps, isN (.str n) = true) (lens : R.ps.length ≤ 1000 ∧ CS.length ≤ 1000 ∧ BS.length ≤ 1000 ∧ SS.length ≤ 1000) (hy : J y = none) (hdx : J dx = none) (hc : ∀ z ∈ CS, ChT T J z.1 z.2) (hbb : ∀ z ∈ BS, VesT T J z.1 z.2) (hs : ∀ z ∈ SS, VesT T J z.1 z.2)
    (kp : J lp = some (.lst ((nmM R.ps).map Mk.v))) (kc : J lc = some (.lst ((chM CS).map Mk.v))) (kb : J lb = some (.lst ((vsM BS).map Mk.v))) (ks : J ls = some (.lst ((vsM SS).map Mk.v)))
    (q : WantsW T y (.int R.b) (some (nmM R.ps)) (some (chM CS)) (some (vsM BS)) (some (vsM SS)) (upd (upd J dx (.own y)) y (.ins T.a_World dx [])) QQ E) :
    spInitW T (V.ref y :: ([V.int R.b, V.ref lp, V.ref lc, V.ref lb, V.ref ls] ++ [])) (upd (upd J dx (.own y)) y (.ins T.a_World dx [])) QQ E := by
  have sx : Same J (upd (upd J dx (.own y)) y (.ins T.a_World dx [])) := m_same hy hdx
  refine ⟨y, dx, _, _, _, _, _, some (nmM R.ps), some (chM CS), some (vsM BS), some (vsM SS), rfl, upd_same, .inr ⟨_, .int _⟩, ?_, ?_, ?_, ?_, ?_, q⟩
  · refine .lst (sx _ _ kp) fun m hm => ?_
    obtain ⟨n, hn, rfl⟩ := List.mem_map.mp hm
    exact name_th _ (pi n hn)
  · refine .lst (sx _ _ kc) fun m hm => ?_
    obtain ⟨z, hz, rfl⟩ := List.mem_map.mp hm
    exact (hc z hz).same sx
  · refine .lst (sx _ _ kb) fun m hm => ?_
    obtain ⟨z, hz, rfl⟩ := List.mem_map.mp hm
    exact VesA.same (hbb z hz) sx
  · refine .lst (sx _ _ ks) fun m hm => ?_
    obtain ⟨z, hz, rfl⟩ := List.mem_map.mp hm
    exact VesA.same (hs z hz) sx
  · intro op hop ms e
    simp only [List.mem_cons, List.not_mem_nil, or_false] at hop
    rcases hop with rfl | rfl | rfl | rfl <;> cases e
    · show (List.map _ _).length ≤ _; rw [List.length_map]; omega
    · show (List.map _ _).length ≤ _; rw [List.length_map]; omega
    · show (List.map _ _).length ≤ _; rw [List.length_map]; omega
    · show (List.map _ _).length ≤ _; rw [List.length_map]; omega
theorem w_make (T : Top K mg) {R : Rw} {CS : List (Addr × Cd)} {BS SS : VL} {J : Hp} {y dx lp lc lb ls : Addr} {QQ : VK} {E : XK} (o : R.ok) (hy : J y = none) (hdx : J dx = none) (m : Made T J R CS BS SS)
    (kp : J lp = some (.lst ((nmM R.ps).map Mk.v))) (kc : J lc = some (.lst ((chM CS).map Mk.v))) (kb : J lb = some (.lst ((vsM BS).map Mk.v))) (ks : J ls = some (.lst ((vsM SS).map Mk.v)))
    (q : ∀ H8, Same J H8 → WorldT T H8 y R.b (nmM R.ps) (chM CS) (vsM BS) (vsM SS) → QQ .non H8) :
    spInitW T (V.ref y :: ([V.int R.b, V.ref lp, V.ref lc, V.ref lb, V.ref ls] ++ [])) (upd (upd J dx (.own y)) y (.ins T.a_World dx [])) QQ E := by
  have l1 : CS.length = R.cs.length := by have := congrArg List.length m.ec; simpa using this
  have l2 : BS.length = R.bs.length := by have := congrArg List.length m.eb; simpa using this
  have l3 : SS.length = R.ss.length := by have := congrArg List.length m.es; simpa using this
  have := o.p8; have := o.cl; have := o.bl; have := o.sl
  refine w_init T o.b o.pi (by omega) hy hdx m.hc m.hb m.hs kp kc kb ks ?_
  unfold WantsW
  rw [m.due o]
  intro b H' e b1 wt
  cases e
  exact q H' (made_same hy hdx b1) wt
def spTurned (T : Top K mg) : Sp := fun vs H Q _ => ∃ (x : Addr) (R : Rw) (CS : List (Addr × Cd)) (BS SS : VL), vs = [.ref x] ∧ WIs T H x R CS BS SS ∧
  ∀ (y : Addr) (CS' : List (Addr × Cd)) (BS' SS' : VL) (H' : Hp), Same H H' → H y = none → WIs T H' y R.turn CS' BS' SS' → Q (.ref y) H'
theorem ok_turned (T : Top K mg) : FnG P w K mg base CX0 8 T.a_turned T.d_turned ["world"] (spTurned T) := by
  have G_channel_anew := ok_channel_anew (P := P) (w := w) (base := base) T
  have G_breaker_anew := ok_breaker_anew (P := P) (w := w) (base := base) T
  have G_ship_anew := ok_ship_anew (P := P) (w := w) (base := base) T
  have G_World___init__ := ok_World___init__ (P := P) (w := w) (base := base) T
  have G_World_begin_hour := ok_World_begin_hour (P := P) (w := w) (base := base) T
  have G_World_ports := ok_World_ports (P := P) (w := w) (base := base) T
  have G_World_channels := ok_World_channels (P := P) (w := w) (base := base) T
  have G_World_breakers := ok_World_breakers (P := P) (w := w) (base := base) T
  have G_World_ships := ok_World_ships (P := P) (w := w) (base := base) T
  refine okG T.F_turned sc_turned (fun vs H Q E h => ?_) (fun cdv A outer s H vs Q E hr hgd h => ?_)
  · obtain ⟨x, R, CS, BS, SS, rfl, _⟩ := h
    rfl
  · obtain ⟨x, R, CS, BS, SS, rfl, wi, q⟩ := h
    have o := wi.o
    have zz : (30 : Nat) ≤ sizeLine := sz_of (by decide)
    obtain ⟨lC, lB, lS⟩ := wi.l1
    refine ⟨_, (pss_one (ps_ret (g_make T.mk_World G_World___init__ (hr.mono (by decide)) hgd (by rfl) T.c_World T.b_World___init__ .nil passL (pa_cons (g_meth0 (pv 0) T.cl_World T.me_World_begin_hour G_World_begin_hour (hr.mono (by decide)) hgd T.b_World_begin_hour .nil pass0) (pa_cons (g_meth0 (pv 0) T.cl_World T.me_World_ports G_World_ports (hr.mono (by decide)) hgd T.b_World_ports .nil pass0) (pa_cons (pe_lc (own := [("each", 1)]) (g := gName 1) rfl sc_turned.nd (pi_list (g_meth0 (pv 0) T.cl_World T.me_World_channels G_World_channels (hr.mono (by decide)) hgd T.b_World_channels .nil pass0)) (blkOk_by (own := [("each", 1)]) (N := ["world", "each"]) (sc := defScope s_turned) (by decide +kernel)) (fun _ _ _ _ _ => (pg_name (i := 1) sc_turned.nd rfl (by first | exact Or.inl rfl | exact Or.inr rfl))) (fun _ _ _ _ _ => pts_nil) (fun _ _ _ _ _ => (g_call G_channel_anew (hr.mono (by decide)) hgd (by rfl) T.m_channel_anew T.F_channel_anew.kp T.b_channel_anew .nil pass0 (pa_cons (pv 1) (pa_cons (pe_fldB (pv 1) rfl) (pa_cons (pe_fldB (pv 1) rfl) (pa_cons (pe_fldB (pv 1) rfl) pa_nil))))))) (pa_cons (pe_lc (own := [("each", 1)]) (g := gName 1) rfl sc_turned.nd (pi_list (g_meth0 (pv 0) T.cl_World T.me_World_breakers G_World_breakers (hr.mono (by decide)) hgd T.b_World_breakers .nil pass0)) (blkOk_by (own := [("each", 1)]) (N := ["world", "each"]) (sc := defScope s_turned) (by decide +kernel)) (fun _ _ _ _ _ => (pg_name (i := 1) sc_turned.nd rfl (by first | exact Or.inl rfl | exact Or.inr rfl))) (fun _ _ _ _ _ => pts_nil) (fun _ _ _ _ _ => (g_call G_breaker_anew (hr.mono (by decide)) hgd (by rfl) T.m_breaker_anew T.F_breaker_anew.kp T.b_breaker_anew .nil pass0 (pa_cons (pv 1) (pa_cons (pe_fldB (pv 1) rfl) (pa_cons (pe_fldB (pv 1) rfl) (pa_cons (pe_fldB (pv 1) rfl) pa_nil))))))) (pa_cons (pe_lc (own := [("each", 1)]) (g := gName 1) rfl sc_turned.nd (pi_list (g_meth0 (pv 0) T.cl_World T.me_World_ships G_World_ships (hr.mono (by decide)) hgd T.b_World_ships .nil pass0)) (blkOk_by (own := [("each", 1)]) (N := ["world", "each"]) (sc := defScope s_turned) (by decide +kernel)) (fun _ _ _ _ _ => (pg_name (i := 1) sc_turned.nd rfl (by first | exact Or.inl rfl | exact Or.inr rfl))) (fun _ _ _ _ _ => pts_nil) (fun _ _ _ _ _ => (g_call G_ship_anew (hr.mono (by decide)) hgd (by rfl) T.m_ship_anew T.F_ship_anew.kp T.b_ship_anew .nil pass0 (pa_cons (pv 1) (pa_cons (pe_fldB (pv 1) rfl) (pa_cons (pe_fldB (pv 1) rfl) (pa_cons (pe_fldB (pv 1) rfl) (pa_cons (pe_fldB (pv 1) rfl) pa_nil)))))))) pa_nil)))))))), ?_⟩
    walk_at "rd"
    refine w_obj wi.w (fun _ _ _ _ _ _ _ => rfl) ?_
    walk_at "rd"
    refine ⟨x, _, _, _, _, _, rfl, wi.w, ?_⟩
    walk_at "rd"
    refine w_obj wi.w (fun _ _ _ _ _ _ _ => rfl) ?_
    walk_at "rd"
    refine ⟨x, _, _, _, _, _, rfl, wi.w, wi.l1000, fun lp H1 s1 f1 k1 => ?_⟩
    have w1 := wi.same s1
    walk_at "rd"
    refine w_obj w1.w (fun _ _ _ _ _ _ _ => rfl) ?_
    walk_at "rd"
    refine ⟨x, _, _, _, _, _, rfl, w1.w, wi.l1000, fun lc H2 s2 f2 k2 => ?_⟩
    have w2 := w1.same s2
    walk_at "rd"
    refine lc_relL (SqL.lst k2) (by rw [List.length_map]; unfold chM; rw [List.length_map]; omega) (fun i y H => ∃ a z, y = V.ref a ∧ (CS.map (·.2.turn))[i]? = some z ∧ ChT T H a z) (fun i y H H' e ⟨a, z, h1, h2, h3⟩ => ⟨a, z, h1, h2, h3.same e⟩) (fun i y H D us ws hD ⟨a, z, h1, h2, h3⟩ => ⟨a, z, h1, h2, h3.off hD⟩) ?_ ?_
    · intro i v H' NY NN hv s hy
      obtain ⟨z, hz, rfl⟩ := chs_get hv
      have zi := w2.ci z (List.mem_of_getElem? hz)
      have zt := zi.1.same s
      walk_at "rd"
      refine ch_fld T zt T.na_Channel_name rfl ?_
      walk_at "rd"
      refine ch_fld T zt T.na_Channel_other rfl ?_
      walk_at "rd"
      refine ch_fld T zt T.na_Channel_one rfl ?_
      walk_at "rd"
      refine ⟨z.1, z.2, _, _, _, rfl, zt, Cd.turn_ok zi.2.1, fun y H5 s5 f5 c5 => ?_⟩
      exact hy _ _ s5 ⟨y, z.2.turn, rfl, by rw [List.getElem?_map, hz]; rfl, c5⟩
    intro cl H3 yc hcl s3 kcl lyc ryc
    obtain ⟨CS', rfl, eCS, hCS⟩ := made_list yc (CS.map (·.2.turn)) (by rw [lyc]; simp [chM]) ryc
    have w3 := w2.same s3
    walk_at "rd"
    refine w_obj w3.w (fun _ _ _ _ _ _ _ => rfl) ?_
    walk_at "rd"
    refine ⟨x, _, _, _, _, _, rfl, w3.w, wi.l1000, fun lb H4 s4 f4 k4 => ?_⟩
    have w4 := w3.same s4
    walk_at "rd"
    refine lc_relL (SqL.lst k4) (by rw [List.length_map]; unfold vsM; rw [List.length_map]; omega) (fun i y H => ∃ a z, y = V.ref a ∧ (BS.map (·.2))[i]? = some z ∧ VesT T H a z) (fun i y H H' e ⟨a, z, h1, h2, h3⟩ => ⟨a, z, h1, h2, VesA.same h3 e⟩) (fun i y H D us ws hD ⟨a, z, h1, h2, h3⟩ => ⟨a, z, h1, h2, h3.off hD⟩) ?_ ?_
    · intro i v H' NY NN hv s hy
      obtain ⟨z, hz, rfl⟩ := vss_get hv
      have zi := w4.bi z (List.mem_of_getElem? hz)
      have zt : VesT T H' z.1 z.2 := VesA.same zi.1 s
      walk_at "rd"
      refine f_name T zt ?_
      walk_at "rd"
      refine f_port T zt ?_
      walk_at "rd"
      refine f_hour T zt ?_
      walk_at "rd"
      refine ⟨z.1, z.2, _, _, _, rfl, zt, zi.2.2.1, zi.2.1, fun y H5 s5 f5 c5 => ?_⟩
      exact hy _ _ s5 ⟨y, z.2, rfl, by rw [List.getElem?_map, hz]; rfl, c5⟩
    intro bl H5 yb hbl s5 kbl lyb ryb
    obtain ⟨BS', rfl, eBS, hBS⟩ := made_list yb (BS.map (·.2)) (by rw [lyb]; simp [vsM]) ryb
    have w5 := w4.same s5
    walk_at "rd"
    refine w_obj w5.w (fun _ _ _ _ _ _ _ => rfl) ?_
    walk_at "rd"
    refine ⟨x, _, _, _, _, _, rfl, w5.w, wi.l1000, fun ls H6 s6 f6 k6 => ?_⟩
    have w6 := w5.same s6
    walk_at "rd"
    refine lc_relL (SqL.lst k6) (by rw [List.length_map]; unfold vsM; rw [List.length_map]; omega) (fun i y H => ∃ a z, y = V.ref a ∧ (SS.map (·.2))[i]? = some z ∧ VesT T H a z) (fun i y H H' e ⟨a, z, h1, h2, h3⟩ => ⟨a, z, h1, h2, VesA.same h3 e⟩) (fun i y H D us ws hD ⟨a, z, h1, h2, h3⟩ => ⟨a, z, h1, h2, h3.off hD⟩) ?_ ?_
    · intro i v H' NY NN hv s hy
      obtain ⟨z, hz, rfl⟩ := vss_get hv
      have zi := w6.si z (List.mem_of_getElem? hz)
      have zt : VesT T H' z.1 z.2 := VesA.same zi.1 s
      obtain ⟨_, dx0, hzx⟩ := id zt
      rw [zi.2.2.1] at hzx
      walk_at "rd"
      refine f_name T zt ?_
      walk_at "rd"
      refine f_port T zt ?_
      walk_at "rd"
      refine v_fld T hzx T.cl_Ship T.na_Ship_goal (l_goal zi.2.2.1) ?_
      walk_at "rd"
      refine f_hour T zt ?_
      walk_at "rd"
      refine ⟨z.1, z.2, _, _, _, _, rfl, zt, zi.2.2.1, zi.2.1, fun y H5 s5 f5 c5 => ?_⟩
      exact hy _ _ s5 ⟨y, z.2, rfl, by rw [List.getElem?_map, hz]; rfl, c5⟩
    intro sl H7 ys hsl s7 ksl lys rys
    obtain ⟨SS', rfl, eSS, hSS⟩ := made_list ys (SS.map (·.2)) (by rw [lys]; simp [vsM]) rys
    walk_at "rd"
    intro y dx hx hdx nex
    have s07 := s1.trans (s2.trans (s3.trans (s4.trans (s5.trans (s6.trans s7)))))
    have m7 : Made T H7 R.turn CS' BS' SS' := ⟨by rw [eCS]; show _ = (R.cs.map fun z => (z.1, z.2.turn)).map (·.2); rw [List.map_map, show (fun z : Addr × Cd => z.2.turn) = Cd.turn ∘ (fun z => z.2) from rfl, ← List.map_map, wi.m.ec, List.map_map]; rfl, by rw [eBS]; exact wi.m.eb, by rw [eSS]; exact wi.m.es,
      fun z hz => (hCS z hz).same (s4.trans (s5.trans (s6.trans s7))), fun z hz => VesA.same (hBS z hz) (s6.trans s7), fun z hz => hSS z hz⟩
    have vm : ∀ L : VL, (vsM L).map Mk.v = L.map fun z => V.ref z.1 := fun L => by unfold vsM; rw [List.map_map]; rfl
    have cm : ∀ L : List (Addr × Cd), (chM L).map Mk.v = L.map fun z => V.ref z.1 := fun L => by unfold chM; rw [List.map_map]; rfl
    exact w_make T (R := R.turn) (Rw.turn_ok o) hx hdx m7 ((s2.trans (s3.trans (s4.trans (s5.trans (s6.trans s7))))) _ _ k1) (by rw [cm]; exact (s4.trans (s5.trans (s6.trans s7))) _ _ kcl) (by rw [vm]; exact (s6.trans s7) _ _ kbl) (by rw [vm]; exact ksl) fun H8 s8 wt8 => ⟨rfl, q y CS' BS' SS' H8 (s07.trans s8) (sfree s07 hx) ⟨wt8, m7.same s8, Rw.turn_ok o⟩⟩
end

end Ice

set_option Elab.async false
set_option linter.all false
set_option maxRecDepth 100000
set_option maxHeartbeats 4000000
set_option autoImplicit true
namespace Ice
open PySem PySem.Spec PyProof.Rows L2 TL
/-! side conditions, heaps, one step of a reading, and many -/
local macro_rules | `(tactic| walk_at "hp") => `(tactic| first | assumption | exact upd_same | exact New.at_ (by assumption) | (refine keepU ?_ (by assumption); walk_at "hp") | (refine New.app (by assumption) ?_; walk_at "hp") | (refine Same.app (by assumption) ?_; walk_at "hp") | (refine But.app (by assumption) (by assumption) ?_; walk_at "hp"))
local macro_rules | `(tactic| walk_at "sq") => `(tactic| first | assumption | exact SqL.lst (by walk_at "hp") | exact L2.Same.seq (New.same (by assumption)) (by assumption) | exact L2.Same.seq (by assumption) (by assumption))
local macro_rules | `(tactic| walk_at "len") => `(tactic| first | assumption | (simp only [List.length_cons, List.length_nil, List.length_append, List.length_map]; decide) | (refine Ice.sz_of ?_; simp only [List.length_cons, List.length_nil, List.length_append, List.length_map]; omega))
local macro_rules | `(tactic| walk_at "fresh") => `(tactic| (simp only [List.map_append, List.map_cons, List.map_nil, List.nil_append, List.cons_append]; decide +kernel))
local macro_rules | `(tactic| walk_at "sd") => `(tactic| first | assumption | (show _ ≠ _; omega) | exact Or.inl ⟨by omega, by omega⟩ | exact Or.inr ⟨by omega, by omega⟩ | exact ⟨by decide, by decide⟩ | exact ⟨by decide, by decide, by decide⟩ | exact ⟨by omega, by omega, by omega⟩)
/-! one step of a reading, and many -/
local macro_rules | `(tactic| walk_at "st") => `(tactic| first
  | with_reducible refine i_seq ?_
  | with_reducible refine i_if ?_
  | with_reducible refine i_next ?_
  | with_reducible refine i_ret ?_
  | with_reducible refine i_retN ?_
  | with_reducible refine i_drop ?_
  | with_reducible refine i_asg ?_
  | with_reducible refine i_gname ?_
  | with_reducible refine i_gsub ?_
  | ((with_reducible refine i_var (v := ?vv) ?hv ?_); (case hv => exact rfl))
  | with_reducible refine i_c ?_
  | with_reducible refine i_op ?_
  | with_reducible refine i_un ?_
  | with_reducible refine i_test ?_
  | with_reducible refine i_tB ?_
  | with_reducible refine i_and ?_
  | with_reducible refine i_or ?_
  | with_reducible refine i_not ?_
  | with_reducible refine i_andV ?_
  | with_reducible refine i_orV ?_
  | with_reducible refine i_notV ?_
  | with_reducible refine i_ifE ?_
  | with_reducible refine i_chain ?_
  | with_reducible refine i_bl ?_
  | with_reducible refine i_nil ?_
  | with_reducible refine i_cons ?_
  | with_reducible refine i_call ?_
  | with_reducible refine i_cb ?_
  | with_reducible refine i_rI0 ?_
  | with_reducible refine i_rU ?_
  | ((with_reducible refine i_rEq ?hs ?_); (case hs => exact rfl))
  | ((with_reducible refine i_rNe ?hs ?_); (case hs => exact rfl))
  | ((with_reducible refine i_rI ?hc ?_); (case hc => walk_at "sd"))
  | ((with_reducible refine i_ixL (xs := ?xs) (v := ?vv) ?hS ?he ?_); (case hS => walk_at "sq"); (case he => exact rfl))
  | ((with_reducible refine i_setL (xs := ?xs) (j := ?jj) ?hS ?he ?_); (case hS => walk_at "hp"); (case he => exact rfl))
  | with_reducible refine i_tup ?_
  | with_reducible refine i_lst ?_
  | with_reducible refine i_bm ?_
  | with_reducible refine i_bm0 ?_
  | with_reducible refine i_m1 ?_
  | with_reducible refine i_sl ?_
  | with_reducible refine i_nopart ?_
  | with_reducible refine i_part ?_
  | with_reducible refine i_int ?_
  | with_reducible refine i_str ?_
  | with_reducible refine i_for ?_
  | with_reducible refine i_yes ?_
  | ((with_reducible refine i_lenL (xs := ?xs) ?hS ?_); (case hS => walk_at "sq"))
  | ((with_reducible refine i_room ?hz ?_); (case hz => walk_at "len"))
  | with_reducible refine i_leT ?_
  | with_reducible refine i_notInS ?_
  | with_reducible refine i_inS ?_
  | with_reducible refine i_find ?_
  | with_reducible refine i_isB ?_
  | with_reducible refine i_max2 ?_
  | with_reducible refine i_min2 ?_
  | with_reducible exact trivial
  | with_reducible refine iteT ?_
  | with_reducible refine iteF ?_
  | with_reducible refine i_isstr ?_
  | with_reducible refine i_lc ?_
  | ((with_reducible refine i_cat (xs := ?xs) (zs := ?zs) ?ha ?hb ?hz ?_); (case ha => walk_at "hp"); (case hb => walk_at "hp"); (case hz => walk_at "len"))
  | ((with_reducible refine i_tyL (xs := ?xs) ?ha ?_); (case ha => walk_at "hp"))
  | with_reducible refine i_list ?_
  | with_reducible refine i_disp ?_
  | with_reducible refine i_pairs0 ?_
  | with_reducible refine i_pairs ?_
  | with_reducible refine i_newK ?_
  | with_reducible refine i_gcons ?_
  | with_reducible refine i_gnil ?_
  | with_reducible refine i_revL ?_
  | with_reducible refine i_rng1 ?_
  | ((with_reducible refine i_wipe ?hw ?_); (case hw => exact rfl))
  | with_reducible refine iteNT ?_
  | with_reducible refine iteNF ?_)
local macro_rules | `(tactic| walk_at "sx") => `(tactic| first
  | walk_at "st"
  | with_reducible refine i_kinit ?_
  | with_reducible refine i_ost ?_
  | with_reducible refine i_mkO ?_
  | with_reducible refine i_callE ?_
  | with_reducible refine i_makeE ?_
  | with_reducible refine i_xf ?_
  | with_reducible refine i_sfld ?_
  | with_reducible refine i_fld ?_
  | ((with_reducible refine i_ixT (xs := ?xs) (v := ?vv) ?hS ?he ?_); (case hS => exact SqT.tup (by walk_at "hp")); (case he => exact rfl))
  | with_reducible refine i_intB ?_
  | with_reducible refine i_runS ?_
  | with_reducible refine i_runN ?_
  | ((with_reducible refine i_xf1 (fs := ?ff) (v := ?vv) ?hx ?hl ?_); (case hx => walk_at "hp"); (case hl => exact rfl))
  | with_reducible refine i_methE ?_
  | with_reducible refine i_meth ?_
  | with_reducible refine i_make ?_
  | ((with_reducible refine i_obj (dx := ?dd) (fs := ?ff) ?hx ?hl ?_); (case hx => walk_at "hp"); (case hl => exact rfl))
  | ((with_reducible refine i_fld1 (C := ?CC) (dx := ?dd) (fs := ?ff) (v := ?vv) ?hx ?cl ?na ?hl ?_); (case hx => walk_at "hp"); (case cl => assumption); (case na => assumption); (case hl => exact rfl)))
local macro_rules | `(tactic| walk_at "sy") => `(tactic| first
  | walk_at "sx"
  | with_reducible refine i_dget ?_
  | with_reducible refine i_dget2 ?_
  | with_reducible refine i_dput ?_
  | with_reducible refine i_din ?_
  | ((with_reducible refine i_aug (x := ?vv) ?hx ?_); (case hx => exact rfl)))
local macro_rules | `(tactic| walk_at "rd") => `(tactic| repeat (walk_at "sy"))

section
variable {P : Program} {w : World} {K : PySem.W.Frag} {mg : Str → Option Value} {base : Heap}
theorem dblAt_pre {ns : List Str} : ∀ {k : Nat}, k ≤ ns.length → (ns.take k).Nodup → dblAt ns k = none
  | 0, _, _ => rfl
  | k + 1, hk, h => by
    have hg : ns[k]? = some ns[k] := List.getElem?_eq_getElem hk
    rw [List.take_add_one, hg] at h
    have h : (ns.take k ++ [ns[k]]).Nodup := h
    rw [List.nodup_append] at h
    exact dbl_miss (dblAt_pre (by omega) h.1) hg fun z => h.2.2 _ z _ (List.mem_singleton.mpr rfl) rfl
theorem dbl_snoc {ns : List Str} {n : Str} (h : ns.Nodup) : firstDbl (ns ++ [n]) = if n ∈ ns then some n else none := by
  by_cases z : n ∈ ns
  · rw [if_pos z]
    have e : (ns ++ [n]).take ns.length = ns := by rw [List.take_left]
    exact dbl_hit (k := ns.length) (dblAt_pre (by rw [List.length_append]; omega) (by rw [e]; exact h)) (by simp) (by rw [e]; exact z)
  · rw [if_neg z]
    refine nodup_dbl ?_
    rw [List.nodup_append]
    refine ⟨h, by simp, fun a ha b hb => ?_⟩
    rw [List.mem_singleton.mp hb]
    exact fun e => z (e ▸ ha)
theorem dueW_parts {vb : V} {p c b s : OMk} (h : dueW vb p c b s = .made) : inB 0 1000000 vb = true ∧ kindsW p c b s = none ∧ firstDbl (nmsO p) = none ∧ firstDbl (nmsO c) = none ∧ firstDbl (nmsO b ++ nmsO s) = none ∧ (wantL c b s).find? (noPort (nmsO p)) = none := by
  unfold dueW at h
  split at h
  · cases h
  · rename_i h0
    refine ⟨by simpa using h0, ?_⟩
    split at h
    · cases h
    · rename_i h1
      refine ⟨h1, ?_⟩
      split at h
      · cases h
      · rename_i h2
        refine ⟨h2, ?_⟩
        split at h
        · cases h
        · rename_i h3
          refine ⟨h3, ?_⟩
          split at h
          · cases h
          · rename_i h4
            refine ⟨h4, ?_⟩
            split at h
            · cases h
            · rename_i h5
              exact h5
def Rw.names (R : Rw) : List Str := (R.bs ++ R.ss).map (·.2.n)
/-- what is due of a ship more -/
def dueS (R : Rw) (d : Vd) : DueW := if 5 < R.ss.length then .world (Str.ofString "ships") else if d.n ∈ R.names then .doubled d.n else if d.p ∉ R.ps then .port d.p else if d.g ∉ R.ps then .port d.g else .made
theorem kinds_parts {p c b s : OMk} (h : kindsW p c b s = none) : portsOk p = true ∧ seqOk 12 Mk.isC c = true ∧ seqOk 4 Mk.isB b = true ∧ seqOk 6 Mk.isS s = true := by
  unfold kindsW at h
  split at h
  · cases h
  · rename_i a1
    split at h
    · cases h
    · rename_i a2
      split at h
      · cases h
      · rename_i a3
        split at h
        · cases h
        · rename_i a4
          exact ⟨by simpa using a1, by simpa using a2, by simpa using a3, by simpa using a4⟩
theorem due_ship {R : Rw} {CS : List (Addr × Cd)} {BS SS : VL} {x : Addr} {d : Vd} (m : MadeD R CS BS SS) (o : R.ok) (dk : d.k = .s) : dueW (.int R.b) (some (nmM R.ps)) (some (chM CS)) (some (vsM BS)) (some (vsM (SS ++ [(x, d)]))) = dueS R d := by
  obtain ⟨p0, p1, p2, p3, p4, p5⟩ := dueW_parts (m.due o)
  obtain ⟨k1, k2, k3, k4⟩ := kinds_parts p1
  have lS : SS.length = R.ss.length := by have := congrArg List.length m.es; simpa using this
  have eN : nmsO (some (vsM BS)) ++ nmsO (some (vsM SS)) = R.names := by
    rw [show nmsO (some (vsM BS)) = (vsM BS).map Mk.nm from rfl, show nmsO (some (vsM SS)) = (vsM SS).map Mk.nm from rfl, vsM_n, vsM_n, m.eb, m.es]
    unfold Rw.names
    rw [List.map_append, List.map_map, List.map_map]; rfl
  have eV : vsM (SS ++ [(x, d)]) = vsM SS ++ [.ves x d] := by unfold vsM; rw [List.map_append]; rfl
  have eP : nmsO (some (nmM R.ps)) = R.ps := nmM_n R.ps
  have k4' : (vsM SS).all Mk.isS = true := by
    have k4 : (decide ((vsM SS).length ≤ 6) && (vsM SS).all Mk.isS) = true := k4
    rw [Bool.and_eq_true] at k4; exact k4.2
  unfold dueW dueS
  rw [if_neg (by rw [p0]; decide)]
  by_cases h5 : 5 < R.ss.length
  · have kk : kindsW (some (nmM R.ps)) (some (chM CS)) (some (vsM BS)) (some (vsM (SS ++ [(x, d)]))) = some (Str.ofString "ships") := by
      unfold kindsW
      rw [if_neg (by rw [k1]; decide), if_neg (by rw [k2]; decide), if_neg (by rw [k3]; decide), if_pos]
      show (decide ((vsM (SS ++ [(x, d)])).length ≤ 6) && _) = false
      rw [decide_eq_false (by unfold vsM; rw [List.length_map, List.length_append]; simp; omega), Bool.false_and]
    rw [kk, if_pos h5]
  · have kk : kindsW (some (nmM R.ps)) (some (chM CS)) (some (vsM BS)) (some (vsM (SS ++ [(x, d)]))) = none := by
      unfold kindsW
      rw [if_neg (by rw [k1]; decide), if_neg (by rw [k2]; decide), if_neg (by rw [k3]; decide), if_neg]
      show ¬ (decide ((vsM (SS ++ [(x, d)])).length ≤ 6) && _) = false
      rw [decide_eq_true (by unfold vsM; rw [List.length_map, List.length_append]; simp; omega), Bool.true_and, eV, List.all_append, k4', Bool.true_and]
      show ¬ (Mk.isS (.ves x d) && true) = false
      rw [isS_of dk]; decide
    rw [kk, if_neg h5]
    have e3 : nmsO (some (vsM BS)) ++ nmsO (some (vsM (SS ++ [(x, d)]))) = R.names ++ [d.n] := by
      rw [show nmsO (some (vsM (SS ++ [(x, d)]))) = (vsM (SS ++ [(x, d)])).map Mk.nm from rfl, eV, List.map_append, ← List.append_assoc]
      rw [show nmsO (some (vsM BS)) ++ (vsM SS).map Mk.nm = R.names from eN]; rfl
    dsimp only
    rw [p2, p3, e3, dbl_snoc (show R.names.Nodup from o.vn)]
    dsimp only
    by_cases h6 : d.n ∈ R.names
    · rw [if_pos h6, if_pos h6]
    · rw [if_neg h6, if_neg h6]
      have e4 : wantL (some (chM CS)) (some (vsM BS)) (some (vsM (SS ++ [(x, d)]))) = wantL (some (chM CS)) (some (vsM BS)) (some (vsM SS)) ++ [d.p, d.g] := by
        unfold wantL
        rw [show msO (some (vsM (SS ++ [(x, d)]))) = vsM SS ++ [.ves x d] from eV, List.flatMap_append, ← List.append_assoc]; rfl
      rw [e4, List.find?_append, p5, eP]
      dsimp only [Option.none_or]
      by_cases h7 : d.p ∈ R.ps
      · rw [if_neg (by simpa using h7)]
        by_cases h8 : d.g ∈ R.ps
        · rw [if_neg (by simpa using h8)]
          simp [noPort, h7, h8]
        · rw [if_pos h8]
          simp [noPort, h7, h8]
      · rw [if_pos h7]
        simp [noPort, h7]
def Rw.more (R : Rw) (d : Vd) : Rw := { R with ss := R.ss ++ [(0, d)] }
theorem Rw.more_ok {R : Rw} {d : Vd} (o : R.ok) (dk : d.ok) (ds : d.k = .s) (h : dueS R d = .made) : (R.more d).ok ∧ d.n ∉ R.names := by
  unfold dueS at h
  split at h
  · cases h
  rename_i h5
  split at h
  · cases h
  rename_i h6
  split at h
  · cases h
  rename_i h7
  split at h
  · cases h
  rename_i h8
  refine ⟨{ o with sl := ?_, si := ?_, vn := ?_ }, h6⟩
  · show (R.ss ++ [(0, d)]).length ≤ 6
    rw [List.length_append]; show R.ss.length + 1 ≤ 6; omega
  · intro z hz
    rcases List.mem_append.mp hz with hz | hz
    · exact o.si z hz
    · rw [List.mem_singleton.mp hz]
      exact ⟨dk, ds, Classical.not_not.mp h7, Classical.not_not.mp h8⟩
  · show ((R.bs ++ (R.ss ++ [((0 : Addr), d)])).map fun z : Addr × Vd => z.2.n).Nodup
    rw [← List.append_assoc, List.map_append, List.nodup_append]
    refine ⟨o.vn, by simp, fun a ha b hb => ?_⟩
    have : b = d.n := by simpa using hb
    rw [this]
    exact fun e => h6 (e ▸ ha)
/-- what is wanted of a world with a ship more -/
def WantsS (T : Top K mg) (R : Rw) (CS : List (Addr × Cd)) (BS SS : VL) (sx : Addr) (d : Vd) (H : Hp) (Q : VK) (E : XK) : Prop := match dueS R d with
  | .number => False
  | .world w => ∀ d H', Same H H' → H' d = some (.xd [(Str.ofString "found", .str w)]) → E (.ref T.a_NoWorld) (some d) H'
  | .doubled n => ∀ d H', Same H H' → H' d = some (.xd [(Str.ofString "name", .str n)]) → E (.ref T.a_Doubled) (some d) H'
  | .port n => ∀ d H', Same H H' → H' d = some (.xd [(Str.ofString "found", .str n)]) → E (.ref T.a_NoPort) (some d) H'
  | .made => ∀ y H', Same H H' → H y = none → WIs T H' y (R.more d) CS BS (SS ++ [(sx, d)]) → Q (.ref y) H'
def spWith (T : Top K mg) : Sp := fun vs H Q E => ∃ (x sx : Addr) (R : Rw) (CS : List (Addr × Cd)) (BS SS : VL) (d : Vd), vs = [.ref x, .ref sx] ∧ WIs T H x R CS BS SS ∧ VesT T H sx d ∧ d.k = .s ∧ WantsS T R CS BS SS sx d H Q E
theorem ok_with_ship (T : Top K mg) : FnG P w K mg base (L2.CX P w) 6 T.a_with_ship T.d_with_ship ["world", "ship"] (spWith T) := by
  have G_World___init__ := ok_World___init__ (P := P) (w := w) (base := base) T
  have G_NoKind___init__ := ok_NoKind___init__ (P := P) (w := w) (base := base) T
  have G_World_begin_hour := ok_World_begin_hour (P := P) (w := w) (base := base) T
  have G_World_ports := ok_World_ports (P := P) (w := w) (base := base) T
  have G_World_channels := ok_World_channels (P := P) (w := w) (base := base) T
  have G_World_breakers := ok_World_breakers (P := P) (w := w) (base := base) T
  have G_World_ships := ok_World_ships (P := P) (w := w) (base := base) T
  refine okGX T.F_with_ship sc_with_ship (fun vs H Q E h => ?_) (fun cdv A outer s H vs Q E hr hgd h => ?_)
  · obtain ⟨x, sx, R, CS, BS, SS, d, rfl, _⟩ := h
    rfl
  · obtain ⟨x, sx, R, CS, BS, SS, d, rfl, wi, vt, dk, q⟩ := h
    have o := wi.o
    have zz : (30 : Nat) ≤ sizeLine := sz_of (by decide)
    obtain ⟨lC, lB, lS⟩ := wi.l1
    obtain ⟨dok, dx0, hsx⟩ := id vt
    rw [dk] at hsx
    refine ⟨_, (pss_cons (ps_if (pt_not (pt_val (pe_callB c_isi (by rfl) T.n_isinstance (by decide +kernel) (pa_cons (pv 1) (pa_cons (pe_glob (v := .ref T.a_Ship) (by rfl) T.c_Ship rfl) pa_nil)))))
        (pss_one (ps_raise rfl (takes_of rfl rfl rfl rfl) (pmk_oex T.ox_NoKind T.in_NoKind T.tf_NoKind G_NoKind___init__ (hr.mono (by decide)) T.b_NoKind___init__ .nil pass0 (by rfl) T.c_NoKind (pa_cons (pv 1) pa_nil))))
        pss_nil)
      (pss_one (ps_ret (g_makeE (E := WE _) T.mk_World G_World___init__ (hr.mono (by decide)) hgd (by rfl) T.c_World T.b_World___init__ .nil (passAt (takes_of rfl rfl rfl rfl)) (pa_cons (g_meth0 (pv 0) T.cl_World T.me_World_begin_hour G_World_begin_hour (hr.mono (by decide)) hgd T.b_World_begin_hour .nil pass0) (pa_cons (g_meth0 (pv 0) T.cl_World T.me_World_ports G_World_ports (hr.mono (by decide)) hgd T.b_World_ports .nil pass0) (pa_cons (g_meth0 (pv 0) T.cl_World T.me_World_channels G_World_channels (hr.mono (by decide)) hgd T.b_World_channels .nil pass0) (pa_cons (g_meth0 (pv 0) T.cl_World T.me_World_breakers G_World_breakers (hr.mono (by decide)) hgd T.b_World_breakers .nil pass0) (pa_cons (pe_op op_cat (g_meth0 (pv 0) T.cl_World T.me_World_ships G_World_ships (hr.mono (by decide)) hgd T.b_World_ships .nil pass0) (pe_lst (pa_cons (pv 1) pa_nil))) pa_nil))))))))), ?_⟩
    walk_at "rd"
    refine i_isiV (tyI hsx T.cl_Ship T.ca_Ship T.mo_Ship T) T.io_Ship_Ship ?_
    walk_at "rd"
    refine w_obj wi.w (fun _ _ _ _ _ _ _ => rfl) ?_
    walk_at "rd"
    refine ⟨x, _, _, _, _, _, rfl, wi.w, ?_⟩
    walk_at "rd"
    refine w_obj wi.w (fun _ _ _ _ _ _ _ => rfl) ?_
    walk_at "rd"
    refine ⟨x, _, _, _, _, _, rfl, wi.w, wi.l1000, fun lp H1 s1 f1 k1 => ?_⟩
    have w1 := wi.same s1
    walk_at "rd"
    refine w_obj w1.w (fun _ _ _ _ _ _ _ => rfl) ?_
    walk_at "rd"
    refine ⟨x, _, _, _, _, _, rfl, w1.w, wi.l1000, fun lc H2 s2 f2 k2 => ?_⟩
    have w2 := w1.same s2
    walk_at "rd"
    refine w_obj w2.w (fun _ _ _ _ _ _ _ => rfl) ?_
    walk_at "rd"
    refine ⟨x, _, _, _, _, _, rfl, w2.w, wi.l1000, fun lb H3 s3 f3 k3 => ?_⟩
    have w3 := w2.same s3
    walk_at "rd"
    refine w_obj w3.w (fun _ _ _ _ _ _ _ => rfl) ?_
    walk_at "rd"
    refine ⟨x, _, _, _, _, _, rfl, w3.w, wi.l1000, fun ls H4 s4 f4 k4 => ?_⟩
    have w4 := w3.same s4
    walk_at "rd"
    (intro l5 hl5; generalize el5 : upd _ l5 _ = J5; have N5 := New.of el5 hl5; clear el5 hl5)
    walk_at "rd"
    refine i_cat (N5.app k4) N5.at_ (by unfold vsM; rw [List.length_map, List.length_map]; show _ + 1 ≤ _; omega) ?_
    (intro l6 hl6; generalize el6 : upd _ l6 _ = J6; have N6 := New.of el6 hl6; clear el6 hl6)
    have e6 : (vsM SS).map Mk.v ++ [V.ref sx] = (vsM (SS ++ [(sx, d)])).map Mk.v := by unfold vsM; rw [List.map_append, List.map_append]; rfl
    rw [e6] at N6
    have w6 := w4.same (N5.same.trans N6.same)
    have s06 := s1.trans (s2.trans (s3.trans (s4.trans (N5.same.trans N6.same))))
    walk_at "rd"
    intro y dx hx hdx nex
    have s26 := s2.trans (s3.trans (s4.trans (N5.same.trans N6.same)))
    have s36 := s3.trans (s4.trans (N5.same.trans N6.same))
    have s46 := s4.trans (N5.same.trans N6.same)
    have p8 := o.p8
    have sy : Same J6 (upd (upd J6 dx (.own y)) y (.ins T.a_World dx [])) := m_same hx hdx
    refine w_init T (R := R) (SS := SS ++ [(sx, d)]) o.b o.pi (by rw [List.length_append]; simp; omega) hx hdx w6.m.hc w6.m.hb (fun z hz => ?_) (s26 _ _ k1) (s36 _ _ k2) (s46 _ _ k3) N6.at_ ?_
    · rcases List.mem_append.mp hz with hz | hz
      · exact w6.m.hs z hz
      · rw [List.mem_singleton.mp hz]; exact VesA.same vt s06
    unfold WantsW
    unfold WantsS at q
    rw [due_ship ⟨w6.m.ec, w6.m.eb, w6.m.es⟩ o dk]
    cases hd : dueS R d with
    | number => rw [hd] at q; exact q.elim
    | world ww => rw [hd] at q; exact fun d' H' s' k' => q d' H' (s06.trans (sy.trans s')) k'
    | doubled ww => rw [hd] at q; exact fun d' H' s' k' => q d' H' (s06.trans (sy.trans s')) k'
    | port ww => rw [hd] at q; exact fun d' H' s' k' => q d' H' (s06.trans (sy.trans s')) k'
    | made =>
      rw [hd] at q
      intro b H' e b1 wt
      cases e
      have s7 := made_same hx hdx b1
      have m7 := w6.m.same s7
      refine ⟨rfl, q y H' (s06.trans s7) (sfree s06 hx) ⟨wt, ⟨m7.ec, m7.eb, ?_, m7.hc, m7.hb, fun z hz => ?_⟩, (Rw.more_ok o dok dk hd).1⟩⟩
      · show (SS ++ [(sx, d)]).map (·.2) = (R.ss ++ [((0 : Addr), d)]).map (·.2)
        rw [List.map_append, List.map_append, m7.es]; rfl
      · rcases List.mem_append.mp hz with hz | hz
        · exact m7.hs z hz
        · rw [List.mem_singleton.mp hz]; exact VesA.same vt (s06.trans s7)
end

end Ice

set_option Elab.async false
set_option linter.all false
set_option maxRecDepth 100000
set_option maxHeartbeats 4000000
set_option autoImplicit true
namespace Ice
open PySem PySem.Spec PyProof.Rows L2 TL
/-! side conditions, heaps, one step of a reading, and many -/
local macro_rules | `(tactic| walk_at "hp") => `(tactic| first | assumption | exact upd_same | exact New.at_ (by assumption) | (refine keepU ?_ (by assumption); walk_at "hp") | (refine New.app (by assumption) ?_; walk_at "hp") | (refine Same.app (by assumption) ?_; walk_at "hp") | (refine But.app (by assumption) (by assumption) ?_; walk_at "hp"))
local macro_rules | `(tactic| walk_at "sq") => `(tactic| first | assumption | exact SqL.lst (by walk_at "hp") | exact L2.Same.seq (New.same (by assumption)) (by assumption) | exact L2.Same.seq (by assumption) (by assumption))
local macro_rules | `(tactic| walk_at "len") => `(tactic| first | assumption | (simp only [List.length_cons, List.length_nil, List.length_append, List.length_map]; decide) | (refine Ice.sz_of ?_; simp only [List.length_cons, List.length_nil, List.length_append, List.length_map]; omega))
local macro_rules | `(tactic| walk_at "fresh") => `(tactic| (simp only [List.map_append, List.map_cons, List.map_nil, List.nil_append, List.cons_append]; decide +kernel))
local macro_rules | `(tactic| walk_at "sd") => `(tactic| first | assumption | (show _ ≠ _; omega) | exact Or.inl ⟨by omega, by omega⟩ | exact Or.inr ⟨by omega, by omega⟩ | exact ⟨by decide, by decide⟩ | exact ⟨by decide, by decide, by decide⟩ | exact ⟨by omega, by omega, by omega⟩)
/-! one step of a reading, and many -/
local macro_rules | `(tactic| walk_at "st") => `(tactic| first
  | with_reducible refine i_seq ?_
  | with_reducible refine i_if ?_
  | with_reducible refine i_next ?_
  | with_reducible refine i_ret ?_
  | with_reducible refine i_retN ?_
  | with_reducible refine i_drop ?_
  | with_reducible refine i_asg ?_
  | with_reducible refine i_gname ?_
  | with_reducible refine i_gsub ?_
  | ((with_reducible refine i_var (v := ?vv) ?hv ?_); (case hv => exact rfl))
  | with_reducible refine i_c ?_
  | with_reducible refine i_op ?_
  | with_reducible refine i_un ?_
  | with_reducible refine i_test ?_
  | with_reducible refine i_tB ?_
  | with_reducible refine i_and ?_
  | with_reducible refine i_or ?_
  | with_reducible refine i_not ?_
  | with_reducible refine i_andV ?_
  | with_reducible refine i_orV ?_
  | with_reducible refine i_notV ?_
  | with_reducible refine i_ifE ?_
  | with_reducible refine i_chain ?_
  | with_reducible refine i_bl ?_
  | with_reducible refine i_nil ?_
  | with_reducible refine i_cons ?_
  | with_reducible refine i_call ?_
  | with_reducible refine i_cb ?_
  | with_reducible refine i_rI0 ?_
  | with_reducible refine i_rU ?_
  | ((with_reducible refine i_rEq ?hs ?_); (case hs => exact rfl))
  | ((with_reducible refine i_rNe ?hs ?_); (case hs => exact rfl))
  | ((with_reducible refine i_rI ?hc ?_); (case hc => walk_at "sd"))
  | ((with_reducible refine i_ixL (xs := ?xs) (v := ?vv) ?hS ?he ?_); (case hS => walk_at "sq"); (case he => exact rfl))
  | ((with_reducible refine i_setL (xs := ?xs) (j := ?jj) ?hS ?he ?_); (case hS => walk_at "hp"); (case he => exact rfl))
  | with_reducible refine i_tup ?_
  | with_reducible refine i_lst ?_
  | with_reducible refine i_bm ?_
  | with_reducible refine i_bm0 ?_
  | with_reducible refine i_m1 ?_
  | with_reducible refine i_sl ?_
  | with_reducible refine i_nopart ?_
  | with_reducible refine i_part ?_
  | with_reducible refine i_int ?_
  | with_reducible refine i_str ?_
  | with_reducible refine i_for ?_
  | with_reducible refine i_yes ?_
  | ((with_reducible refine i_lenL (xs := ?xs) ?hS ?_); (case hS => walk_at "sq"))
  | ((with_reducible refine i_room ?hz ?_); (case hz => walk_at "len"))
  | with_reducible refine i_leT ?_
  | with_reducible refine i_notInS ?_
  | with_reducible refine i_inS ?_
  | with_reducible refine i_find ?_
  | with_reducible refine i_isB ?_
  | with_reducible refine i_max2 ?_
  | with_reducible refine i_min2 ?_
  | with_reducible exact trivial
  | with_reducible refine iteT ?_
  | with_reducible refine iteF ?_
  | with_reducible refine i_isstr ?_
  | with_reducible refine i_lc ?_
  | ((with_reducible refine i_cat (xs := ?xs) (zs := ?zs) ?ha ?hb ?hz ?_); (case ha => walk_at "hp"); (case hb => walk_at "hp"); (case hz => walk_at "len"))
  | ((with_reducible refine i_tyL (xs := ?xs) ?ha ?_); (case ha => walk_at "hp"))
  | with_reducible refine i_list ?_
  | with_reducible refine i_disp ?_
  | with_reducible refine i_pairs0 ?_
  | with_reducible refine i_pairs ?_
  | with_reducible refine i_newK ?_
  | with_reducible refine i_gcons ?_
  | with_reducible refine i_gnil ?_
  | with_reducible refine i_revL ?_
  | with_reducible refine i_rng1 ?_
  | ((with_reducible refine i_wipe ?hw ?_); (case hw => exact rfl))
  | with_reducible refine iteNT ?_
  | with_reducible refine iteNF ?_)
local macro_rules | `(tactic| walk_at "sx") => `(tactic| first
  | walk_at "st"
  | with_reducible refine i_kinit ?_
  | with_reducible refine i_ost ?_
  | with_reducible refine i_mkO ?_
  | with_reducible refine i_callE ?_
  | with_reducible refine i_makeE ?_
  | with_reducible refine i_xf ?_
  | with_reducible refine i_sfld ?_
  | with_reducible refine i_fld ?_
  | ((with_reducible refine i_ixT (xs := ?xs) (v := ?vv) ?hS ?he ?_); (case hS => exact SqT.tup (by walk_at "hp")); (case he => exact rfl))
  | with_reducible refine i_intB ?_
  | with_reducible refine i_runS ?_
  | with_reducible refine i_runN ?_
  | ((with_reducible refine i_xf1 (fs := ?ff) (v := ?vv) ?hx ?hl ?_); (case hx => walk_at "hp"); (case hl => exact rfl))
  | with_reducible refine i_methE ?_
  | with_reducible refine i_meth ?_
  | with_reducible refine i_make ?_
  | ((with_reducible refine i_obj (dx := ?dd) (fs := ?ff) ?hx ?hl ?_); (case hx => walk_at "hp"); (case hl => exact rfl))
  | ((with_reducible refine i_fld1 (C := ?CC) (dx := ?dd) (fs := ?ff) (v := ?vv) ?hx ?cl ?na ?hl ?_); (case hx => walk_at "hp"); (case cl => assumption); (case na => assumption); (case hl => exact rfl)))
local macro_rules | `(tactic| walk_at "sy") => `(tactic| first
  | walk_at "sx"
  | with_reducible refine i_dget ?_
  | with_reducible refine i_dget2 ?_
  | with_reducible refine i_dput ?_
  | with_reducible refine i_din ?_
  | ((with_reducible refine i_aug (x := ?vv) ?hx ?_); (case hx => exact rfl)))
local macro_rules | `(tactic| walk_at "rd") => `(tactic| repeat (walk_at "sy"))

section
variable {P : Program} {w : World} {K : PySem.W.Frag} {mg : Str → Option Value} {base : Heap}
def notN (n : Str) (z : Addr × Vd) : Bool := !decide (V.str z.2.n = V.str n)
def Rw.less (R : Rw) (n : Str) : Rw := { R with bs := R.bs.filter (notN n), ss := R.ss.filter (notN n) }
theorem filt_map (n : Str) (L : VL) : (L.filter (notN n)).map (·.2) = (L.map (·.2)).filter fun d => !decide (V.str d.n = V.str n) := by
  rw [List.filter_map]; rfl
theorem Rw.less_ok {R : Rw} (o : R.ok) (n : Str) : (R.less n).ok := by
  refine { o with bl := ?_, bi := ?_, sl := ?_, si := ?_, vn := ?_ }
  · exact Nat.le_trans (List.length_filter_le _ _) o.bl
  · exact fun z hz => o.bi z (List.mem_filter.mp hz).1
  · exact Nat.le_trans (List.length_filter_le _ _) o.sl
  · exact fun z hz => o.si z (List.mem_filter.mp hz).1
  · show ((R.bs.filter (notN n) ++ R.ss.filter (notN n)).map fun z : Addr × Vd => z.2.n).Nodup
    rw [← List.filter_append]
    exact List.Nodup.sublist (List.Sublist.map _ List.filter_sublist) o.vn
theorem gath_filt (n : Str) : ∀ L : VL, gath (L.map fun z => if notN n z = true then some (V.ref z.1) else none) = (L.filter (notN n)).map fun z => V.ref z.1
  | [] => rfl
  | z :: r => by
    have ih := gath_filt n r
    unfold gath at ih ⊢
    rw [List.map_cons, List.filter_cons]
    by_cases h : notN n z = true
    · rw [if_pos h, if_pos h, List.map_cons, List.filterMap_cons]
      exact congrArg _ ih
    · rw [if_neg h, if_neg h, List.filterMap_cons]
      exact ih
theorem val_mem : ∀ {ms : List Mk} {n : Str}, n ∈ ms.map Mk.nm → ∃ m ∈ ms, m.nm = n ∧ valV (nmD ms) (Sum.inr n) = some m.v
  | [], n, h => nomatch h
  | m :: r, n, h => by
    by_cases e : m.nm = n
    · refine ⟨m, List.mem_cons_self .., e, ?_⟩
      unfold valV nmD
      rw [List.map_cons, List.find?_cons_of_pos (by simp [e])]; rfl
    · rw [List.map_cons, List.mem_cons] at h
      obtain ⟨m', h1, h2, h3⟩ := val_mem (h.resolve_left fun z => e z.symm)
      refine ⟨m', List.mem_cons_of_mem _ h1, h2, ?_⟩
      unfold valV nmD at h3 ⊢
      rw [List.map_cons, List.find?_cons_of_neg (by simp [e])]; exact h3
theorem WIs.byNm {T : Top K mg} {H : Hp} {x : Addr} {R : Rw} {CS : List (Addr × Cd)} {BS SS : VL} (a : WIs T H x R CS BS SS) {n : Str} (hn : n ∈ R.names) : ∃ z ∈ BS ++ SS, z.2.n = n ∧ Ice.byNm (vsM BS ++ vsM SS) (.str n) = some (.ref z.1) := by
  have e : (vsM BS ++ vsM SS).map Mk.nm = R.names := by
    rw [List.map_append, vsM_n, vsM_n, a.m.eb, a.m.es]
    unfold Rw.names
    rw [List.map_append, List.map_map, List.map_map]; rfl
  rw [← e] at hn
  obtain ⟨m, hm, h2, h3⟩ := val_mem hn
  have hm : m ∈ (BS ++ SS).map fun z => Mk.ves z.1 z.2 := by rw [List.map_append]; exact hm
  obtain ⟨z, hz, rfl⟩ := List.mem_map.mp hm
  exact ⟨z, hz, h2, h3⟩
theorem WIs.ves {T : Top K mg} {H : Hp} {x : Addr} {R : Rw} {CS : List (Addr × Cd)} {BS SS : VL} (a : WIs T H x R CS BS SS) : ∀ z ∈ BS ++ SS, VesT T H z.1 z.2 := fun z hz => by
  rcases List.mem_append.mp hz with hz | hz
  · exact a.m.hb z hz
  · exact a.m.hs z hz
def spLess (T : Top K mg) : Sp := fun vs H Q E => ∃ (x : Addr) (n : Str) (R : Rw) (CS : List (Addr × Cd)) (BS SS : VL), vs = [.ref x, .str n] ∧ n.length ≤ 100000 ∧ WIs T H x R CS BS SS ∧ n ∈ R.names ∧
  ∀ y H', Same H H' → H y = none → WIs T H' y (R.less n) CS (BS.filter (notN n)) (SS.filter (notN n)) → Q (.ref y) H'
theorem ok_without (T : Top K mg) : FnG P w K mg base CX0 6 T.a_without T.d_without ["world", "name"] (spLess T) := by
  have G_World___init__ := ok_World___init__ (P := P) (w := w) (base := base) T
  have G_World_vessel := ok_World_vessel (P := P) (w := w) (base := base) T
  have G_World_begin_hour := ok_World_begin_hour (P := P) (w := w) (base := base) T
  have G_World_ports := ok_World_ports (P := P) (w := w) (base := base) T
  have G_World_channels := ok_World_channels (P := P) (w := w) (base := base) T
  have G_World_breakers := ok_World_breakers (P := P) (w := w) (base := base) T
  have G_World_ships := ok_World_ships (P := P) (w := w) (base := base) T
  refine okG T.F_without sc_without (fun vs H Q E h => ?_) (fun cdv A outer s H vs Q E hr hgd h => ?_)
  · obtain ⟨x, n, R, CS, BS, SS, rfl, _⟩ := h
    rfl
  · obtain ⟨x, n, R, CS, BS, SS, rfl, ln, wi, hn, q⟩ := h
    have o := wi.o
    have zz : (30 : Nat) ≤ sizeLine := sz_of (by decide)
    obtain ⟨lC, lB, lS⟩ := wi.l1
    obtain ⟨lv, hlv, elv, bn⟩ := wi.byNm hn
    refine ⟨_, (pss_cons (ps_set (i := 2) sc_without.nd rfl (by first | exact Or.inl rfl | exact Or.inr rfl) (g_meth (pv 0) T.cl_World T.me_World_vessel G_World_vessel (hr.mono (by decide)) hgd T.b_World_vessel .nil passL (pa_cons (pv 1) pa_nil)))
      (pss_one (ps_ret (g_make T.mk_World G_World___init__ (hr.mono (by decide)) hgd (by rfl) T.c_World T.b_World___init__ .nil passL (pa_cons (g_meth0 (pv 0) T.cl_World T.me_World_begin_hour G_World_begin_hour (hr.mono (by decide)) hgd T.b_World_begin_hour .nil pass0) (pa_cons (g_meth0 (pv 0) T.cl_World T.me_World_ports G_World_ports (hr.mono (by decide)) hgd T.b_World_ports .nil pass0) (pa_cons (g_meth0 (pv 0) T.cl_World T.me_World_channels G_World_channels (hr.mono (by decide)) hgd T.b_World_channels .nil pass0) (pa_cons (pe_lc (own := [("each", 3)]) (g := gName 3) rfl sc_without.nd (pi_list (g_meth0 (pv 0) T.cl_World T.me_World_breakers G_World_breakers (hr.mono (by decide)) hgd T.b_World_breakers .nil pass0)) (blkOk_by (own := [("each", 3)]) (N := ["world", "name", "leaving", "each"]) (sc := defScope s_without) (by decide +kernel)) (fun _ _ _ _ _ => (pg_name (i := 3) sc_without.nd rfl (by first | exact Or.inl rfl | exact Or.inr rfl))) (fun _ _ _ _ _ => (pts_one (pt_cmpR op_ne (pe_fldB (pv 3) rfl) (pe_fldB (pv 2) rfl) (nomark _)))) (fun _ _ _ _ _ => (pv 3))) (pa_cons (pe_lc (own := [("each", 3)]) (g := gName 3) rfl sc_without.nd (pi_list (g_meth0 (pv 0) T.cl_World T.me_World_ships G_World_ships (hr.mono (by decide)) hgd T.b_World_ships .nil pass0)) (blkOk_by (own := [("each", 3)]) (N := ["world", "name", "leaving", "each"]) (sc := defScope s_without) (by decide +kernel)) (fun _ _ _ _ _ => (pg_name (i := 3) sc_without.nd rfl (by first | exact Or.inl rfl | exact Or.inr rfl))) (fun _ _ _ _ _ => (pts_one (pt_cmpR op_ne (pe_fldB (pv 3) rfl) (pe_fldB (pv 2) rfl) (nomark _)))) (fun _ _ _ _ _ => (pv 3))) pa_nil))))))))), ?_⟩
    walk_at "rd"
    refine w_obj wi.w (fun _ _ _ _ _ _ _ => rfl) ?_
    walk_at "rd"
    refine ⟨x, _, _, _, _, _, _, rfl, wi.w, .inl ⟨n, rfl, ln⟩, fun u hu => ?_, fun z => by rw [bn] at z; cases z⟩
    rw [bn] at hu
    cases hu
    walk_at "rd"
    refine w_obj wi.w (fun _ _ _ _ _ _ _ => rfl) ?_
    walk_at "rd"
    refine ⟨x, _, _, _, _, _, rfl, wi.w, ?_⟩
    walk_at "rd"
    refine w_obj wi.w (fun _ _ _ _ _ _ _ => rfl) ?_
    walk_at "rd"
    refine ⟨x, _, _, _, _, _, rfl, wi.w, wi.l1000, fun lp H1 s1 f1 k1 => ?_⟩
    have w1 := wi.same s1
    walk_at "rd"
    refine w_obj w1.w (fun _ _ _ _ _ _ _ => rfl) ?_
    walk_at "rd"
    refine ⟨x, _, _, _, _, _, rfl, w1.w, wi.l1000, fun lc H2 s2 f2 k2 => ?_⟩
    have w2 := w1.same s2
    walk_at "rd"
    refine w_obj w2.w (fun _ _ _ _ _ _ _ => rfl) ?_
    walk_at "rd"
    refine ⟨x, _, _, _, _, _, rfl, w2.w, wi.l1000, fun lb H3 s3 f3 k3 => ?_⟩
    have w3 := w2.same s3
    walk_at "rd"
    refine lc_gatherL (SqL.lst k3) (BS.map fun z => if notN n z = true then some (V.ref z.1) else none) (by simp [vsM]) (by unfold vsM; rw [List.length_map, List.length_map]; omega) ?_ ?_
    · intro i v ov H' NY NN hv ho s hy hno
      obtain ⟨z, hz, rfl⟩ := vss_get hv
      rw [List.getElem?_map, hz] at ho
      obtain rfl := Option.some.inj ho
      have zt : VesT T H' z.1 z.2 := VesA.same (w3.m.hb z (List.mem_of_getElem? hz)) s
      have lt : VesT T H' lv.1 lv.2 := VesA.same (w3.ves lv hlv) s
      walk_at "rd"
      refine f_name T zt ?_
      walk_at "rd"
      refine f_name T lt ?_
      rw [elv]
      walk_at "rd"
      refine ifs (fun hh => ?_) (fun hh => ?_)
      · walk_at "rd"
        exact hy _ _ (if_pos hh) (Same.refl _)
      · exact hno _ (if_neg (by show ¬ notN n z = true; rw [show notN n z = false from hh]; decide)) (Same.refl _)
    intro D4 H4 f4 s4 k4
    rw [gath_filt] at k4
    have w4 := w3.same s4
    walk_at "rd"
    refine w_obj w4.w (fun _ _ _ _ _ _ _ => rfl) ?_
    walk_at "rd"
    refine ⟨x, _, _, _, _, _, rfl, w4.w, wi.l1000, fun ls H5 s5 f5 k5 => ?_⟩
    have w5 := w4.same s5
    walk_at "rd"
    refine lc_gatherL (SqL.lst k5) (SS.map fun z => if notN n z = true then some (V.ref z.1) else none) (by simp [vsM]) (by unfold vsM; rw [List.length_map, List.length_map]; omega) ?_ ?_
    · intro i v ov H' NY NN hv ho s hy hno
      obtain ⟨z, hz, rfl⟩ := vss_get hv
      rw [List.getElem?_map, hz] at ho
      obtain rfl := Option.some.inj ho
      have zt : VesT T H' z.1 z.2 := VesA.same (w5.m.hs z (List.mem_of_getElem? hz)) s
      have lt : VesT T H' lv.1 lv.2 := VesA.same (w5.ves lv hlv) s
      walk_at "rd"
      refine f_name T zt ?_
      walk_at "rd"
      refine f_name T lt ?_
      rw [elv]
      walk_at "rd"
      refine ifs (fun hh => ?_) (fun hh => ?_)
      · walk_at "rd"
        exact hy _ _ (if_pos hh) (Same.refl _)
      · exact hno _ (if_neg (by show ¬ notN n z = true; rw [show notN n z = false from hh]; decide)) (Same.refl _)
    intro D6 H6 f6 s6 k6
    rw [gath_filt] at k6
    have w6 := w5.same s6
    have s06 := s1.trans (s2.trans (s3.trans (s4.trans (s5.trans s6))))
    walk_at "rd"
    intro y dx hx hdx nex
    have vm : ∀ L : VL, (vsM L).map Mk.v = L.map fun z => V.ref z.1 := fun L => by unfold vsM; rw [List.map_map]; rfl
    have m6 : Made T H6 (R.less n) CS (BS.filter (notN n)) (SS.filter (notN n)) := by
      refine ⟨w6.m.ec, ?_, ?_, w6.m.hc, fun z hz => w6.m.hb z (List.mem_filter.mp hz).1, fun z hz => w6.m.hs z (List.mem_filter.mp hz).1⟩
      · show _ = (R.bs.filter (notN n)).map (·.2)
        rw [filt_map, filt_map, w6.m.eb]
      · show _ = (R.ss.filter (notN n)).map (·.2)
        rw [filt_map, filt_map, w6.m.es]
    exact w_make T (R := R.less n) (Rw.less_ok o n) hx hdx m6 ((s2.trans (s3.trans (s4.trans (s5.trans s6)))) _ _ k1) ((s3.trans (s4.trans (s5.trans s6))) _ _ k2) (by rw [vm]; exact (s5.trans s6) _ _ k4) (by rw [vm]; exact k6) fun H8 s8 wt8 => ⟨rfl, q y H8 (s06.trans s8) (sfree s06 hx) ⟨wt8, m6.same s8, Rw.less_ok o n⟩⟩
end

end Ice

set_option Elab.async false
set_option linter.all false
set_option maxRecDepth 100000
set_option maxHeartbeats 4000000
set_option autoImplicit true
namespace Ice
open PySem PySem.Spec PyProof.Rows L2 TL
/-! side conditions, heaps, one step of a reading, and many -/
local macro_rules | `(tactic| walk_at "hp") => `(tactic| first | assumption | exact upd_same | exact New.at_ (by assumption) | (refine keepU ?_ (by assumption); walk_at "hp") | (refine New.app (by assumption) ?_; walk_at "hp") | (refine Same.app (by assumption) ?_; walk_at "hp") | (refine But.app (by assumption) (by assumption) ?_; walk_at "hp"))
local macro_rules | `(tactic| walk_at "sq") => `(tactic| first | assumption | exact SqL.lst (by walk_at "hp") | exact L2.Same.seq (New.same (by assumption)) (by assumption) | exact L2.Same.seq (by assumption) (by assumption))
local macro_rules | `(tactic| walk_at "len") => `(tactic| first | assumption | (simp only [List.length_cons, List.length_nil, List.length_append, List.length_map]; decide) | (refine Ice.sz_of ?_; simp only [List.length_cons, List.length_nil, List.length_append, List.length_map]; omega))
local macro_rules | `(tactic| walk_at "fresh") => `(tactic| (simp only [List.map_append, List.map_cons, List.map_nil, List.nil_append, List.cons_append]; decide +kernel))
local macro_rules | `(tactic| walk_at "sd") => `(tactic| first | assumption | (show _ ≠ _; omega) | exact Or.inl ⟨by omega, by omega⟩ | exact Or.inr ⟨by omega, by omega⟩ | exact ⟨by decide, by decide⟩ | exact ⟨by decide, by decide, by decide⟩ | exact ⟨by omega, by omega, by omega⟩)
/-! one step of a reading, and many -/
local macro_rules | `(tactic| walk_at "st") => `(tactic| first
  | with_reducible refine i_seq ?_
  | with_reducible refine i_if ?_
  | with_reducible refine i_next ?_
  | with_reducible refine i_ret ?_
  | with_reducible refine i_retN ?_
  | with_reducible refine i_drop ?_
  | with_reducible refine i_asg ?_
  | with_reducible refine i_gname ?_
  | with_reducible refine i_gsub ?_
  | ((with_reducible refine i_var (v := ?vv) ?hv ?_); (case hv => exact rfl))
  | with_reducible refine i_c ?_
  | with_reducible refine i_op ?_
  | with_reducible refine i_un ?_
  | with_reducible refine i_test ?_
  | with_reducible refine i_tB ?_
  | with_reducible refine i_and ?_
  | with_reducible refine i_or ?_
  | with_reducible refine i_not ?_
  | with_reducible refine i_andV ?_
  | with_reducible refine i_orV ?_
  | with_reducible refine i_notV ?_
  | with_reducible refine i_ifE ?_
  | with_reducible refine i_chain ?_
  | with_reducible refine i_bl ?_
  | with_reducible refine i_nil ?_
  | with_reducible refine i_cons ?_
  | with_reducible refine i_call ?_
  | with_reducible refine i_cb ?_
  | with_reducible refine i_rI0 ?_
  | with_reducible refine i_rU ?_
  | ((with_reducible refine i_rEq ?hs ?_); (case hs => exact rfl))
  | ((with_reducible refine i_rNe ?hs ?_); (case hs => exact rfl))
  | ((with_reducible refine i_rI ?hc ?_); (case hc => walk_at "sd"))
  | ((with_reducible refine i_ixL (xs := ?xs) (v := ?vv) ?hS ?he ?_); (case hS => walk_at "sq"); (case he => exact rfl))
  | ((with_reducible refine i_setL (xs := ?xs) (j := ?jj) ?hS ?he ?_); (case hS => walk_at "hp"); (case he => exact rfl))
  | with_reducible refine i_tup ?_
  | with_reducible refine i_lst ?_
  | with_reducible refine i_bm ?_
  | with_reducible refine i_bm0 ?_
  | with_reducible refine i_m1 ?_
  | with_reducible refine i_sl ?_
  | with_reducible refine i_nopart ?_
  | with_reducible refine i_part ?_
  | with_reducible refine i_int ?_
  | with_reducible refine i_str ?_
  | with_reducible refine i_for ?_
  | with_reducible refine i_yes ?_
  | ((with_reducible refine i_lenL (xs := ?xs) ?hS ?_); (case hS => walk_at "sq"))
  | ((with_reducible refine i_room ?hz ?_); (case hz => walk_at "len"))
  | with_reducible refine i_leT ?_
  | with_reducible refine i_notInS ?_
  | with_reducible refine i_inS ?_
  | with_reducible refine i_find ?_
  | with_reducible refine i_isB ?_
  | with_reducible refine i_max2 ?_
  | with_reducible refine i_min2 ?_
  | with_reducible exact trivial
  | with_reducible refine iteT ?_
  | with_reducible refine iteF ?_
  | with_reducible refine i_isstr ?_
  | with_reducible refine i_lc ?_
  | ((with_reducible refine i_cat (xs := ?xs) (zs := ?zs) ?ha ?hb ?hz ?_); (case ha => walk_at "hp"); (case hb => walk_at "hp"); (case hz => walk_at "len"))
  | ((with_reducible refine i_tyL (xs := ?xs) ?ha ?_); (case ha => walk_at "hp"))
  | with_reducible refine i_list ?_
  | with_reducible refine i_disp ?_
  | with_reducible refine i_pairs0 ?_
  | with_reducible refine i_pairs ?_
  | with_reducible refine i_newK ?_
  | with_reducible refine i_gcons ?_
  | with_reducible refine i_gnil ?_
  | with_reducible refine i_revL ?_
  | with_reducible refine i_rng1 ?_
  | ((with_reducible refine i_wipe ?hw ?_); (case hw => exact rfl))
  | with_reducible refine iteNT ?_
  | with_reducible refine iteNF ?_)
local macro_rules | `(tactic| walk_at "sx") => `(tactic| first
  | walk_at "st"
  | with_reducible refine i_kinit ?_
  | with_reducible refine i_ost ?_
  | with_reducible refine i_mkO ?_
  | with_reducible refine i_callE ?_
  | with_reducible refine i_makeE ?_
  | with_reducible refine i_xf ?_
  | with_reducible refine i_sfld ?_
  | with_reducible refine i_fld ?_
  | ((with_reducible refine i_ixT (xs := ?xs) (v := ?vv) ?hS ?he ?_); (case hS => exact SqT.tup (by walk_at "hp")); (case he => exact rfl))
  | with_reducible refine i_intB ?_
  | with_reducible refine i_runS ?_
  | with_reducible refine i_runN ?_
  | ((with_reducible refine i_xf1 (fs := ?ff) (v := ?vv) ?hx ?hl ?_); (case hx => walk_at "hp"); (case hl => exact rfl))
  | with_reducible refine i_methE ?_
  | with_reducible refine i_meth ?_
  | with_reducible refine i_make ?_
  | ((with_reducible refine i_obj (dx := ?dd) (fs := ?ff) ?hx ?hl ?_); (case hx => walk_at "hp"); (case hl => exact rfl))
  | ((with_reducible refine i_fld1 (C := ?CC) (dx := ?dd) (fs := ?ff) (v := ?vv) ?hx ?cl ?na ?hl ?_); (case hx => walk_at "hp"); (case cl => assumption); (case na => assumption); (case hl => exact rfl)))
local macro_rules | `(tactic| walk_at "sy") => `(tactic| first
  | walk_at "sx"
  | with_reducible refine i_dget ?_
  | with_reducible refine i_dget2 ?_
  | with_reducible refine i_dput ?_
  | with_reducible refine i_din ?_
  | ((with_reducible refine i_aug (x := ?vv) ?hx ?_); (case hx => exact rfl)))
local macro_rules | `(tactic| walk_at "rd") => `(tactic| repeat (walk_at "sy"))

section
variable {P : Program} {w : World} {K : PySem.W.Frag} {mg : Str → Option Value} {base : Heap}
/-- the same data at other places -/
structure Like (R R' : Rw) : Prop where
  b : R'.b = R.b
  p : R'.ps = R.ps
  c : R'.cs.map (·.2) = R.cs.map (·.2)
  bs : R'.bs.map (·.2) = R.bs.map (·.2)
  ss : R'.ss.map (·.2) = R.ss.map (·.2)
theorem map_len {α β γ : Type} {xs : List (α × γ)} {ys : List (β × γ)} (e : xs.map (·.2) = ys.map (·.2)) : xs.length = ys.length := by
  have := congrArg List.length e; simpa using this
theorem map_f {α β γ δ : Type} {xs : List (α × γ)} {ys : List (β × γ)} (e : xs.map (·.2) = ys.map (·.2)) (f : γ → δ) : xs.map (fun z => f z.2) = ys.map (fun z => f z.2) := by
  have h : ∀ {ε : Type} (l : List (ε × γ)), l.map (fun z => f z.2) = (l.map (·.2)).map f := fun l => by rw [List.map_map]; rfl
  rw [h, h, e]
theorem Like.data {R R' : Rw} (l : Like R R') : R'.data = R.data := by
  unfold Rw.data
  rw [l.b, l.p, map_f l.c Cd.row, map_f l.bs Vd.row, map_f l.ss Vd.row]
theorem Like.ok {R R' : Rw} (l : Like R R') (o : R.ok) : R'.ok := by
  refine ⟨by rw [l.b]; exact o.b, by rw [l.p]; exact o.p1, by rw [l.p]; exact o.p8, by rw [l.p]; exact o.pn, by rw [l.p]; exact o.pi, by rw [map_len l.c]; exact o.cl, ?_, ?_, by rw [map_len l.bs]; exact o.bl, ?_, by rw [map_len l.ss]; exact o.sl, ?_, ?_⟩
  · rw [map_f l.c (fun c => c.n)]; exact o.cn
  · intro z hz
    obtain ⟨y, hy, e⟩ := mem_map2 l.c hz
    rw [l.p, ← e]; exact o.ci y hy
  · intro z hz
    obtain ⟨y, hy, e⟩ := mem_map2 l.bs hz
    rw [l.p, ← e]; exact o.bi y hy
  · intro z hz
    obtain ⟨y, hy, e⟩ := mem_map2 l.ss hz
    rw [l.p, ← e]; exact o.si y hy
  · rw [List.map_append, map_f l.bs (fun d => d.n), map_f l.ss (fun d => d.n), ← List.map_append]; exact o.vn
/-- a tuple of rows with the data of R -/
def spDue (f : Rw → Rw) : Sp := fun vs H Q _ => ∃ (pr : Addr) (R : Rw), vs = [.ref pr] ∧ RowsU H pr R ∧ R.ok ∧ ∀ p R' H', Same H H' → RowsU H' p R' → Like (f R) R' → Q (.ref p) H'
theorem ok_turned_due (T : Top K mg) : FnG P w K mg base CX0 1 T.a_turned_due T.d_turned_due ["_law_world_here"] (spDue Rw.turn) := by
  refine okG T.F_turned_due sc_turned_due (fun vs H Q E h => ?_) (fun cdv A outer s H vs Q E hr hgd h => ?_)
  · obtain ⟨pr, R, rfl, _⟩ := h
    rfl
  · obtain ⟨pr, R, rfl, ru, o, q⟩ := h
    have lC := o.cl
    have zz : (100 : Nat) ≤ sizeLine := sz_of (by decide)
    refine ⟨_, (pss_cons (ps_set (i := 1) sc_turned_due.nd rfl (by first | exact Or.inl rfl | exact Or.inr rfl) (pe_callTy c_tupleOf (by rfl) T.n_tuple (by decide +kernel) (pa_cons (pe_lc (own := [("_law_row", 2)]) (g := gName 2) rfl sc_turned_due.nd (pi_tup (pe_ix ix_tup (pv 0) pe_int (fun _ _ => rfl))) (blkOk_by (own := [("_law_row", 2)]) (N := ["_law_world_here", "_law_rows", "_law_row"]) (sc := defScope s_turned_due) (by decide +kernel)) (fun _ _ _ _ _ => (pg_name (i := 2) sc_turned_due.nd rfl (by first | exact Or.inl rfl | exact Or.inr rfl))) (fun _ _ _ _ _ => pts_nil) (fun _ _ _ _ _ => (pe_op (show OpR _ _ (rCatA K) from op_catA) (pe_op (show OpR _ _ (rCatA K) from op_catA) (pe_slice (show SlR _ (rSlA K) from sl_tupA) (pv 2) po_none (po_some pe_int)) (pe_tup (pa_cons (pe_ix (show IxR _ (rIxT K) from ix_tup) (pv 2) pe_int (fun _ _ => rfl)) (pa_cons (pe_ix (show IxR _ (rIxT K) from ix_tup) (pv 2) pe_int (fun _ _ => rfl)) pa_nil)))) (pe_slice (show SlR _ (rSlA K) from sl_tupA) (pv 2) (po_some pe_int) po_none)))) pa_nil)))
      (pss_one (ps_ret (pe_op (show OpR _ _ (rCatA K) from op_catA) (pe_op (show OpR _ _ (rCatA K) from op_catA) (pe_slice sl_tupA (pv 0) po_none (po_some pe_int)) (pe_tup (pa_cons (pv 1) pa_nil))) (pe_slice sl_tupA (pv 0) (po_some pe_int) po_none))))), ?_⟩
    walk_at "rd"
    refine i_tupI ?_
    walk_at "rd"
    try refine i_ixT (SqT.tup ru.hp) rfl ?_
    walk_at "rd"
    refine lc_relT (SqT.tup ru.h2) (by rw [show (crefs R.cs).length = R.cs.length by simp [crefs]]; omega) (fun i y H => ∃ a c, y = V.ref a ∧ (R.cs.map (·.2.turn))[i]? = some c ∧ H a = some (.tup c.row)) (fun i y H H' e ⟨a, c, h1, h2, h3⟩ => ⟨a, c, h1, h2, e _ _ h3⟩) (fun i y H D us ws hD ⟨a, c, h1, h2, h3⟩ => ⟨a, c, h1, h2, by rw [upd_ne (ne_of h3 hD (by intro z; cases z))]; exact h3⟩) ?_ ?_
    · intro i x H' NY NN hx s hy
      unfold crefs at hx
      rw [List.getElem?_map] at hx
      cases hz : R.cs[i]? with
      | none => rw [hz] at hx; cases hx
      | some z =>
        rw [hz] at hx
        obtain rfl := Option.some.inj hx
        have mz := List.mem_of_getElem? hz
        have kz := s _ _ (ru.h3 z mz)
        walk_at "rd"
        refine i_slA kz (fun r1 H1 s1 k1 => ?_)
        have k1 : H1 r1 = some (.tup [.str z.2.n]) := k1
        have kz1 := s1 _ _ kz
        walk_at "rd"
        (intro r2 hr2; generalize er2 : upd _ r2 _ = J2; have N2 := New.of er2 hr2; clear er2 hr2)
        refine i_catA (N2.app k1) N2.at_ (by show 1 + 2 ≤ _; omega) (fun r3 H3 s3 k3 => ?_)
        have kz3 := s3 _ _ (N2.app kz1)
        walk_at "rd"
        refine i_slA kz3 (fun r4 H4 s4 k4 => ?_)
        have k4 : H4 r4 = some (.tup [.int z.2.h, .int z.2.d, .int z.2.f, .int z.2.g, .int z.2.m]) := k4
        walk_at "rd"
        refine i_catA (s4 _ _ k3) k4 (by show 3 + 5 ≤ _; omega) (fun r5 H5 s5 k5 => ?_)
        exact hy _ _ (s1.trans (N2.same.trans (s3.trans (s4.trans s5)))) ⟨r5, z.2.turn, rfl, by rw [List.getElem?_map, hz]; rfl, k5⟩
    intro D H1 ys hD s1 k1 l1 r1
    obtain ⟨L, rfl, eL, hL⟩ := made_list ys (R.cs.map (·.2.turn)) (by rw [l1]; simp [crefs]) r1
    walk_at "rd"
    refine i_tupOf (.inl k1) fun rc H2 s2 k2 => ?_
    have s02 := s1.trans s2
    walk_at "rd"
    refine i_slA (s02 _ _ ru.hp) (fun a1 H3 s3 k3 => ?_)
    have k3 : H3 a1 = some (.tup [.int R.b, .ref R.lp]) := k3
    walk_at "rd"
    (intro a2 ha2; generalize ea2 : upd _ a2 _ = J4; have N4 := New.of ea2 ha2; clear ea2 ha2)
    walk_at "rd"
    refine i_catA (N4.app k3) N4.at_ (by show 2 + 1 ≤ _; omega) (fun a3 H5 s5 k5 => ?_)
    have s05 := s02.trans (s3.trans (N4.same.trans s5))
    walk_at "rd"
    refine i_slA (s05 _ _ ru.hp) (fun a4 H6 s6 k6 => ?_)
    have k6 : H6 a4 = some (.tup [.ref R.lb, .ref R.ls]) := k6
    walk_at "rd"
    refine i_catA (s6 _ _ k5) k6 (by show 3 + 2 ≤ _; omega) (fun p H7 s7 k7 => ?_)
    have s07 := s05.trans (s6.trans s7)
    have s27 : Same H2 H7 := s3.trans (N4.same.trans (s5.trans (s6.trans s7)))
    refine q p ⟨R.b, R.lp, rc, R.lb, R.ls, R.ps, L, R.bs, R.ss⟩ H7 s07 ⟨k7, s07 _ _ ru.h1, s27 _ _ k2, fun z hz => s27 _ _ (s2 _ _ (hL z hz)), s07 _ _ ru.h4, fun z hz => s07 _ _ (ru.h5 z hz), s07 _ _ ru.h6, fun z hz => s07 _ _ (ru.h7 z hz)⟩ ⟨rfl, rfl, ?_, rfl, rfl⟩
    show L.map (·.2) = (R.cs.map fun z => (z.1, z.2.turn)).map (·.2)
    rw [eL, List.map_map]; rfl
theorem row0 (d : Vd) : atI d.row 0 = some (.str d.n) := by unfold Vd.row; cases d.k <;> rfl
theorem gath_filtR (n : Str) (L : VL) : gath (L.map fun z => if notN n z = true then some (V.ref z.1) else none) = refs (L.filter (notN n)) := by rw [gath_filt]; rfl
def spDueN (f : Rw → Str → Rw) : Sp := fun vs H Q _ => ∃ (pr : Addr) (n : Str) (R : Rw), vs = [.ref pr, .str n] ∧ RowsU H pr R ∧ R.ok ∧ ∀ p R' H', Same H H' → RowsU H' p R' → Like (f R n) R' → Q (.ref p) H'
theorem ok_without_due (T : Top K mg) : FnG P w K mg base CX0 1 T.a_without_due T.d_without_due ["_law_world_here", "_law_name"] (spDueN Rw.less) := by
  refine okG T.F_without_due sc_without_due (fun vs H Q E h => ?_) (fun cdv A outer s H vs Q E hr hgd h => ?_)
  · obtain ⟨pr, n, R, rfl, _⟩ := h
    rfl
  · obtain ⟨pr, n, R, rfl, ru, o, q⟩ := h
    have lB := o.bl; have lS := o.sl
    have zz : (100 : Nat) ≤ sizeLine := sz_of (by decide)
    refine ⟨_, (pss_cons (ps_setLc (i := 2) (own := [("_law_some", 4)]) (g := gName 4) rfl sc_without_due.nd rfl rfl (sw_true rfl rfl rfl (by decide +kernel)) (pi_tup (pe_slice sl_tupA (pv 0) (po_some pe_int) po_none)) (blkOk_by (own := [("_law_some", 4)]) (N := ["_law_world_here", "_law_name", "_law_rows", "_law_row", "_law_some"]) (sc := defScope s_without_due) (by decide +kernel)) (fun _ _ _ _ _ => (pg_name (i := 4) sc_without_due.nd rfl (by first | exact Or.inl rfl | exact Or.inr rfl))) (fun _ _ _ _ _ => pts_nil) (fun _ _ _ _ _ => (pe_callTy (show CallR _ (.type "tuple") (rTupOf K) from c_tupleOf) (by rfl) T.n_tuple (by decide +kernel) (pa_cons (pe_lc (own := [("_law_row", 3)]) (g := gName 3) rfl sc_without_due.nd (show PI _ _ _ (iTup K _) from pi_tup (pv 4)) (blkOk_by (own := [("_law_row", 3)]) (N := ["_law_world_here", "_law_name", "_law_rows", "_law_row", "_law_some"]) (by rfl)) (fun _ _ _ _ _ => (pg_name (i := 3) sc_without_due.nd rfl (by first | exact Or.inl rfl | exact Or.inr rfl))) (fun _ _ _ _ _ => (pts_one (pt_cmpR op_ne (pe_ix (show IxR _ (rIxT K) from ix_tup) (pv 3) pe_int (fun _ _ => rfl)) (pv 1) (nomark _)))) (fun _ _ _ _ _ => (pv 3))) pa_nil))))
      (pss_one (ps_ret (pe_op op_catA (pe_slice sl_tupA (pv 0) po_none (po_some pe_int)) (pe_tup (pa_cons (pe_ix ix_list (pv 2) pe_int (fun _ _ => rfl)) (pa_cons (pe_ix ix_list (pv 2) pe_int (fun _ _ => rfl)) pa_nil))))))), ?_⟩
    walk_at "rd"
    refine i_tupI ?_
    walk_at "rd"
    refine i_slA ru.hp (fun a1 H1 s1 k1 => ?_)
    have k1 : H1 a1 = some (.tup [.ref R.lb, .ref R.ls]) := k1
    walk_at "rd"
    refine lc_relT (SqT.tup k1) (by show 2 < _; omega) (fun i y H => ∃ a, y = V.ref a ∧ H a = some (.tup (refs ((if i = 0 then R.bs else R.ss).filter (notN n))))) (fun i y H H' e ⟨a, h1, h2⟩ => ⟨a, h1, e _ _ h2⟩) (fun i y H D us ws hD ⟨a, h1, h2⟩ => ⟨a, h1, by rw [upd_ne (ne_of h2 hD (by intro z; cases z))]; exact h2⟩) ?_ ?_
    · intro i x H' NY NN hx s hy
      obtain ⟨S, sp, rfl, kS, hS, lS6, eS⟩ : ∃ (S : VL) (sp : Addr), x = V.ref sp ∧ H1 sp = some (.tup (refs S)) ∧ (∀ z ∈ S, H1 z.1 = some (.tup z.2.row)) ∧ S.length ≤ 6 ∧ (if i = 0 then R.bs else R.ss) = S := by
        rcases i with _ | _ | i
        · cases hx; exact ⟨R.bs, R.lb, rfl, s1 _ _ ru.h4, fun z hz => s1 _ _ (ru.h5 z hz), by omega, rfl⟩
        · cases hx; exact ⟨R.ss, R.ls, rfl, s1 _ _ ru.h6, fun z hz => s1 _ _ (ru.h7 z hz), by omega, rfl⟩
        · cases hx
      rw [eS] at hy
      walk_at "rd"
      refine i_tupI ?_
      walk_at "rd"
      refine lc_gatherT (SqT.tup (s _ _ kS)) (S.map fun z => if notN n z = true then some (V.ref z.1) else none) (by simp [refs]) (by show (List.map _ _).length < _; rw [List.length_map]; omega) ?_ ?_
      · intro j v ov H2 NY2 NN2 hv ho s2 hy2 hno2
        obtain ⟨z, hz, rfl⟩ := refs_get hv
        rw [List.getElem?_map, hz] at ho
        obtain rfl := Option.some.inj ho
        have kz := s2 _ _ (s _ _ (hS z (List.mem_of_getElem? hz)))
        walk_at "rd"
        refine i_ixT (SqT.tup kz) (row0 z.2) ?_
        walk_at "rd"
        refine ifs (fun hh => ?_) (fun hh => ?_)
        · walk_at "rd"
          exact hy2 _ _ (if_pos hh) (Same.refl _)
        · exact hno2 _ (if_neg (by show ¬ notN n z = true; rw [show notN n z = false from hh]; decide)) (Same.refl _)
      intro D2 H2 f2 s2 k2
      rw [gath_filtR] at k2
      walk_at "rd"
      refine i_tupOf (.inl k2) fun rc H3 s3 k3 => ?_
      exact hy _ _ (s2.trans s3) ⟨rc, rfl, k3⟩
    intro D H2 ys hD s2 k2 l2 r2
    have l2 : ys.length = 2 := l2
    obtain ⟨y0, y1, rfl⟩ : ∃ y0 y1, ys = [y0, y1] := by
      match ys, l2 with
      | [a, b], _ => exact ⟨a, b, rfl⟩
    obtain ⟨rb, rfl, kb⟩ := r2 0 y0 rfl
    obtain ⟨rs, rfl, ks⟩ := r2 1 y1 rfl
    have kb : H2 rb = some (.tup (refs (R.bs.filter (notN n)))) := kb
    have ks : H2 rs = some (.tup (refs (R.ss.filter (notN n)))) := ks
    have s02 := s1.trans s2
    walk_at "rd"
    refine i_slA (s02 _ _ ru.hp) (fun a1 H3 s3 k3 => ?_)
    have k3 : H3 a1 = some (.tup [.int R.b, .ref R.lp, .ref R.lc]) := k3
    walk_at "rd"
    (intro a2 ha2; generalize ea2 : upd _ a2 _ = J4; have N4 := New.of ea2 ha2; clear ea2 ha2)
    walk_at "rd"
    refine i_catA (N4.app k3) N4.at_ (by show 3 + 2 ≤ _; omega) (fun p H5 s5 k5 => ?_)
    have s25 : Same H2 H5 := s3.trans (N4.same.trans s5)
    have s05 := s02.trans s25
    exact q p ⟨R.b, R.lp, R.lc, rb, rs, R.ps, R.cs, R.bs.filter (notN n), R.ss.filter (notN n)⟩ H5 s05 ⟨k5, s05 _ _ ru.h1, s05 _ _ ru.h2, fun z hz => s05 _ _ (ru.h3 z hz), s25 _ _ kb, fun z hz => s05 _ _ (ru.h5 z (List.mem_filter.mp hz).1), s25 _ _ ks, fun z hz => s05 _ _ (ru.h7 z (List.mem_filter.mp hz).1)⟩ ⟨rfl, rfl, rfl, rfl, rfl⟩
end

end Ice

set_option Elab.async false
set_option linter.all false
set_option maxRecDepth 100000
set_option maxHeartbeats 4000000
set_option autoImplicit true
namespace Ice
open PySem PySem.Spec PyProof.Rows L2 TL
/-! side conditions, heaps, one step of a reading, and many -/
local macro_rules | `(tactic| walk_at "hp") => `(tactic| first | assumption | exact upd_same | exact New.at_ (by assumption) | (refine keepU ?_ (by assumption); walk_at "hp") | (refine New.app (by assumption) ?_; walk_at "hp") | (refine Same.app (by assumption) ?_; walk_at "hp") | (refine But.app (by assumption) (by assumption) ?_; walk_at "hp"))
local macro_rules | `(tactic| walk_at "sq") => `(tactic| first | assumption | exact SqL.lst (by walk_at "hp") | exact L2.Same.seq (New.same (by assumption)) (by assumption) | exact L2.Same.seq (by assumption) (by assumption))
local macro_rules | `(tactic| walk_at "len") => `(tactic| first | assumption | (simp only [List.length_cons, List.length_nil, List.length_append, List.length_map]; decide) | (refine Ice.sz_of ?_; simp only [List.length_cons, List.length_nil, List.length_append, List.length_map]; omega))
local macro_rules | `(tactic| walk_at "fresh") => `(tactic| (simp only [List.map_append, List.map_cons, List.map_nil, List.nil_append, List.cons_append]; decide +kernel))
local macro_rules | `(tactic| walk_at "sd") => `(tactic| first | assumption | (show _ ≠ _; omega) | exact Or.inl ⟨by omega, by omega⟩ | exact Or.inr ⟨by omega, by omega⟩ | exact ⟨by decide, by decide⟩ | exact ⟨by decide, by decide, by decide⟩ | exact ⟨by omega, by omega, by omega⟩)
/-! one step of a reading, and many -/
local macro_rules | `(tactic| walk_at "st") => `(tactic| first
  | with_reducible refine i_seq ?_
  | with_reducible refine i_if ?_
  | with_reducible refine i_next ?_
  | with_reducible refine i_ret ?_
  | with_reducible refine i_retN ?_
  | with_reducible refine i_drop ?_
  | with_reducible refine i_asg ?_
  | with_reducible refine i_gname ?_
  | with_reducible refine i_gsub ?_
  | ((with_reducible refine i_var (v := ?vv) ?hv ?_); (case hv => exact rfl))
  | with_reducible refine i_c ?_
  | with_reducible refine i_op ?_
  | with_reducible refine i_un ?_
  | with_reducible refine i_test ?_
  | with_reducible refine i_tB ?_
  | with_reducible refine i_and ?_
  | with_reducible refine i_or ?_
  | with_reducible refine i_not ?_
  | with_reducible refine i_andV ?_
  | with_reducible refine i_orV ?_
  | with_reducible refine i_notV ?_
  | with_reducible refine i_ifE ?_
  | with_reducible refine i_chain ?_
  | with_reducible refine i_bl ?_
  | with_reducible refine i_nil ?_
  | with_reducible refine i_cons ?_
  | with_reducible refine i_call ?_
  | with_reducible refine i_cb ?_
  | with_reducible refine i_rI0 ?_
  | with_reducible refine i_rU ?_
  | ((with_reducible refine i_rEq ?hs ?_); (case hs => exact rfl))
  | ((with_reducible refine i_rNe ?hs ?_); (case hs => exact rfl))
  | ((with_reducible refine i_rI ?hc ?_); (case hc => walk_at "sd"))
  | ((with_reducible refine i_ixL (xs := ?xs) (v := ?vv) ?hS ?he ?_); (case hS => walk_at "sq"); (case he => exact rfl))
  | ((with_reducible refine i_setL (xs := ?xs) (j := ?jj) ?hS ?he ?_); (case hS => walk_at "hp"); (case he => exact rfl))
  | with_reducible refine i_tup ?_
  | with_reducible refine i_lst ?_
  | with_reducible refine i_bm ?_
  | with_reducible refine i_bm0 ?_
  | with_reducible refine i_m1 ?_
  | with_reducible refine i_sl ?_
  | with_reducible refine i_nopart ?_
  | with_reducible refine i_part ?_
  | with_reducible refine i_int ?_
  | with_reducible refine i_str ?_
  | with_reducible refine i_for ?_
  | with_reducible refine i_yes ?_
  | ((with_reducible refine i_lenL (xs := ?xs) ?hS ?_); (case hS => walk_at "sq"))
  | ((with_reducible refine i_room ?hz ?_); (case hz => walk_at "len"))
  | with_reducible refine i_leT ?_
  | with_reducible refine i_notInS ?_
  | with_reducible refine i_inS ?_
  | with_reducible refine i_find ?_
  | with_reducible refine i_isB ?_
  | with_reducible refine i_max2 ?_
  | with_reducible refine i_min2 ?_
  | with_reducible exact trivial
  | with_reducible refine iteT ?_
  | with_reducible refine iteF ?_
  | with_reducible refine i_isstr ?_
  | with_reducible refine i_lc ?_
  | ((with_reducible refine i_cat (xs := ?xs) (zs := ?zs) ?ha ?hb ?hz ?_); (case ha => walk_at "hp"); (case hb => walk_at "hp"); (case hz => walk_at "len"))
  | ((with_reducible refine i_tyL (xs := ?xs) ?ha ?_); (case ha => walk_at "hp"))
  | with_reducible refine i_list ?_
  | with_reducible refine i_disp ?_
  | with_reducible refine i_pairs0 ?_
  | with_reducible refine i_pairs ?_
  | with_reducible refine i_newK ?_
  | with_reducible refine i_gcons ?_
  | with_reducible refine i_gnil ?_
  | with_reducible refine i_revL ?_
  | with_reducible refine i_rng1 ?_
  | ((with_reducible refine i_wipe ?hw ?_); (case hw => exact rfl))
  | with_reducible refine iteNT ?_
  | with_reducible refine iteNF ?_)
local macro_rules | `(tactic| walk_at "sx") => `(tactic| first
  | walk_at "st"
  | with_reducible refine i_kinit ?_
  | with_reducible refine i_ost ?_
  | with_reducible refine i_mkO ?_
  | with_reducible refine i_callE ?_
  | with_reducible refine i_makeE ?_
  | with_reducible refine i_xf ?_
  | with_reducible refine i_sfld ?_
  | with_reducible refine i_fld ?_
  | ((with_reducible refine i_ixT (xs := ?xs) (v := ?vv) ?hS ?he ?_); (case hS => exact SqT.tup (by walk_at "hp")); (case he => exact rfl))
  | with_reducible refine i_intB ?_
  | with_reducible refine i_runS ?_
  | with_reducible refine i_runN ?_
  | ((with_reducible refine i_xf1 (fs := ?ff) (v := ?vv) ?hx ?hl ?_); (case hx => walk_at "hp"); (case hl => exact rfl))
  | with_reducible refine i_methE ?_
  | with_reducible refine i_meth ?_
  | with_reducible refine i_make ?_
  | ((with_reducible refine i_obj (dx := ?dd) (fs := ?ff) ?hx ?hl ?_); (case hx => walk_at "hp"); (case hl => exact rfl))
  | ((with_reducible refine i_fld1 (C := ?CC) (dx := ?dd) (fs := ?ff) (v := ?vv) ?hx ?cl ?na ?hl ?_); (case hx => walk_at "hp"); (case cl => assumption); (case na => assumption); (case hl => exact rfl)))
local macro_rules | `(tactic| walk_at "sy") => `(tactic| first
  | walk_at "sx"
  | with_reducible refine i_dget ?_
  | with_reducible refine i_dget2 ?_
  | with_reducible refine i_dput ?_
  | with_reducible refine i_din ?_
  | ((with_reducible refine i_aug (x := ?vv) ?hx ?_); (case hx => exact rfl)))
local macro_rules | `(tactic| walk_at "rd") => `(tactic| repeat (walk_at "sy"))

section
variable {P : Program} {w : World} {K : PySem.W.Frag} {mg : Str → Option Value} {base : Heap}
def dataS (R : Rw) (d : Vd) : PyData := match dueS R d with
  | .number => .none
  | .world w => .tuple [.str (Str.ofString "world"), .str w]
  | .doubled n => .tuple [.str (Str.ofString "doubled"), .str n]
  | .port n => .tuple [.str (Str.ofString "port"), .str n]
  | .made => .tuple [.str (Str.ofString "told"), (R.more d).data]
def DueP (H : Hp) (p : Addr) (R : Rw) (d : Vd) : Prop := match dueS R d with
  | .number => False
  | .world w => H p = some (.tup [.str (Str.ofString "world"), .str w])
  | .doubled n => H p = some (.tup [.str (Str.ofString "doubled"), .str n])
  | .port n => H p = some (.tup [.str (Str.ofString "port"), .str n])
  | .made => ∃ q R', H p = some (.tup [.str (Str.ofString "told"), .ref q]) ∧ RowsU H q R' ∧ Like (R.more d) R'
def spShipDue : Sp := fun vs H Q _ => ∃ (pr rp : Addr) (R : Rw) (d : Vd), vs = [.ref pr, .ref rp] ∧ RowsU H pr R ∧ R.ok ∧ H rp = some (.tup d.row) ∧ d.k = .s ∧ ∀ p H', Same H H' → DueP H' p R d → Q (.ref p) H'
theorem ok_ship_due (T : Top K mg) : FnG P w K mg base CX0 1 T.a_ship_due T.d_ship_due ["_law_world_here", "_law_row"] spShipDue := by
  refine okG T.F_ship_due sc_ship_due (fun vs H Q E h => ?_) (fun cdv A outer s H vs Q E hr hgd h => ?_)
  · obtain ⟨pr, rp, R, d, rfl, _⟩ := h
    rfl
  · obtain ⟨pr, rp, R, d, rfl, ru, o, kr, dk, q⟩ := h
    have hu : _ := un1' hr
    have lB := o.bl; have lS := o.sl
    have zz : (100 : Nat) ≤ sizeLine := sz_of (by decide)
    have er : d.row = [.str d.n, .str d.p, .str d.g, .int d.h, .int d.s, .int d.d] := by unfold Vd.row; rw [dk]
    rw [er] at kr
    refine ⟨_, (pss_cons (ps_if (pt_cmpR op_gt (pe_callB c_len (by rfl) T.n_len (by decide +kernel) (pa_cons (pe_ix ix_tup (pv 0) pe_int (fun _ _ => rfl)) pa_nil)) pe_int (nomark _))
        (pss_one (ps_ret (pe_tup (pa_cons pe_str (pa_cons pe_str pa_nil)))))
        pss_nil)
      (pss_cons (ps_if (pt_cmpR op_in_seq (pe_ix ix_tup (pv 1) pe_int (fun _ _ => rfl)) (pe_lc (own := [("_law_one", 3)]) (g := gName 3) rfl sc_ship_due.nd (pi_tup (pe_op (show OpR _ _ (rCatA K) from op_catA) (pe_ix ix_tup (pv 0) pe_int (fun _ _ => rfl)) (pe_ix ix_tup (pv 0) pe_int (fun _ _ => rfl)))) (blkOk_by (own := [("_law_one", 3)]) (N := ["_law_world_here", "_law_row", "_law_port", "_law_one"]) (sc := defScope s_ship_due) (by decide +kernel)) (fun _ _ _ _ _ => (pg_name (i := 3) sc_ship_due.nd rfl (by first | exact Or.inl rfl | exact Or.inr rfl))) (fun _ _ _ _ _ => pts_nil) (fun _ _ _ _ _ => (pe_ix (show IxR _ (rIxT K) from ix_tup) (pv 3) pe_int (fun _ _ => rfl)))) (by rfl))
        (pss_one (ps_ret (pe_tup (pa_cons pe_str (pa_cons (pe_ix ix_tup (pv 1) pe_int (fun _ _ => rfl)) pa_nil)))))
        pss_nil)
      (pss_cons (ps_for PassesOwn.never rfl (pi_tup (pe_slice sl_tupA (pv 1) (po_some pe_int) (po_some pe_int))) (pg_name (i := 2) sc_ship_due.nd rfl (by first | exact Or.inl rfl | exact Or.inr rfl))
        (pss_one (ps_if (pt_cmpR op_notIn_seq (pv 2) (pe_ix ix_tup (pv 0) pe_int (fun _ _ => rfl)) (by rfl))
        (pss_one (ps_ret (pe_tup (pa_cons pe_str (pa_cons (pv 2) pa_nil)))))
        pss_nil)))
      (pss_one (ps_ret (pe_tup (pa_cons pe_str (pa_cons (pe_op (show OpR _ _ (rCatA K) from op_catA) (pe_slice sl_tupA (pv 0) po_none (po_some pe_int)) (pe_tup (pa_cons (pe_op (show OpR _ _ (rCatA K) from op_catA) (pe_ix ix_tup (pv 0) pe_int (fun _ _ => rfl)) (pe_tup (pa_cons (pv 1) pa_nil))) pa_nil))) pa_nil)))))))), ?_⟩
    walk_at "rd"
    refine i_ixT (SqT.tup ru.hp) (atI_nat (j := 4) rfl) ?_
    walk_at "rd"
    refine i_lenT (SqT.tup ru.h6) ?_
    rw [show (refs R.ss).length = R.ss.length by simp [refs]]
    walk_at "rd"
    refine ifs (fun h1 => ?_) (fun h1 => ?_)
    · have hd : dueS R d = .world (Str.ofString "ships") := by
        unfold dueS
        rw [if_pos (by have := of_decide_eq_true h1; omega)]
      walk_at "rd"
      (intro p hp; generalize ep : upd _ p _ = J; have N := New.of ep hp; clear ep hp)
      walk_at "rd"
      exact q p _ N.same (by unfold DueP; rw [hd]; exact N.at_)
    have h1 : ¬ 5 < R.ss.length := by have := of_decide_eq_false h1; omega
    walk_at "rd"
    try refine i_ixT (SqT.tup kr) (atI_nat (j := 0) rfl) ?_
    walk_at "rd"
    refine i_tupI ?_
    walk_at "rd"
    refine i_ixT (SqT.tup ru.hp) (atI_nat (j := 3) rfl) ?_
    walk_at "rd"
    refine i_ixT (SqT.tup ru.hp) (atI_nat (j := 4) rfl) ?_
    walk_at "rd"
    refine i_catA ru.h4 ru.h6 (by simp [refs]; omega) (fun r1 H1 s1 k1 => ?_)
    have k1 : H1 r1 = some (.tup (refs (R.bs ++ R.ss))) := by rw [k1]; simp [refs]
    walk_at "rd"
    refine lc_gatherT (SqT.tup k1) ((R.bs ++ R.ss).map fun z => some (V.str z.2.n)) (by simp [refs]) (by simp [refs]; omega) ?_ ?_
    · intro j v ov H2 NY2 NN2 hv ho s2 hy2 hno2
      obtain ⟨z, hz, rfl⟩ := refs_get hv
      rw [List.getElem?_map, hz] at ho
      obtain rfl := Option.some.inj ho
      have kz : H2 z.1 = some (.tup z.2.row) := by
        rcases List.mem_append.mp (List.mem_of_getElem? hz) with h | h
        · exact s2 _ _ (s1 _ _ (ru.h5 z h))
        · exact s2 _ _ (s1 _ _ (ru.h7 z h))
      walk_at "rd"
      refine i_ixT (SqT.tup kz) (row0 z.2) ?_
      exact hy2 _ _ rfl (Same.refl _)
    intro D H2 f2 s2 k2
    rw [show gath ((R.bs ++ R.ss).map fun z => some (V.str z.2.n)) = R.names.map V.str by
      rw [show ((R.bs ++ R.ss).map fun z => some (V.str z.2.n)) = ((R.names.map V.str).map some) by unfold Rw.names; rw [List.map_map, List.map_map]; rfl, gath_some]] at k2
    have s02 := s1.trans s2
    walk_at "rd"
    refine ⟨D, _, rfl, .inl (SqL.lst k2), rfl, flat_strs _, ?_⟩
    simp only [Bool.false_eq_true, if_false]
    rw [str_inV]
    walk_at "rd"
    refine ifs (fun h2 => ?_) (fun h2 => ?_)
    · have hd : dueS R d = .doubled d.n := by
        unfold dueS
        rw [if_neg h1, if_pos (of_decide_eq_true h2)]
      walk_at "rd"
      try refine i_ixT (SqT.tup (s02 _ _ kr)) (atI_nat (j := 0) rfl) ?_
      walk_at "rd"
      (intro p hp; generalize ep : upd _ p _ = J; have N := New.of ep hp; clear ep hp)
      walk_at "rd"
      exact q p _ (s02.trans N.same) (by unfold DueP; rw [hd]; exact N.at_)
    have h2 : ¬ d.n ∈ R.names := of_decide_eq_false h2
    walk_at "rd"
    refine i_tupI ?_
    walk_at "rd"
    refine i_slA (s02 _ _ kr) (fun r3 H3 s3 k3 => ?_)
    have k3 : H3 r3 = some (.tup [.str d.p, .str d.g]) := k3
    have s03 := s02.trans s3
    refine ⟨r3, rfl, ⟨_, SqT.tup k3⟩, ?_⟩
    refine for_tup (K := K) (a := r3) (xs := [.str d.p, .str d.g]) (fun i σ H' => Same H3 H' ∧ (∀ x ∈ [d.p, d.g].take i, x ∈ R.ps) ∧ ∃ z1 z2, σ = [some (.ref pr), some (.ref rp), z1, z2])
      ⟨Same.refl _, fun x h => by simp at h, _, _, rfl⟩ (fun i σ H' _ h => SqT.tup (h.1 _ _ k3)) ?_ ?_
    · rintro i x σ H4 hx ⟨s4, ha, z1, z2, rfl⟩
      have s04 := s03.trans s4
      obtain ⟨g, rfl, hg, hpost⟩ : ∃ g, x = V.str g ∧ [d.p, d.g][i]? = some g ∧ (g ∉ R.ps → dueS R d = .port g) := by
        rcases i with _ | _ | i
        · cases hx
          refine ⟨d.p, rfl, rfl, fun h => ?_⟩
          unfold dueS; rw [if_neg h1, if_neg h2, if_pos h]
        · cases hx
          refine ⟨d.g, rfl, rfl, fun h => ?_⟩
          unfold dueS; rw [if_neg h1, if_neg h2, if_neg (Classical.not_not.mpr (ha d.p (by simp))), if_pos h]
        · cases hx
      walk_at "rd"
      refine i_ixT (SqT.tup (s04 _ _ ru.hp)) (atI_nat (j := 1) rfl) ?_
      refine ⟨R.lp, _, rfl, .inr (SqT.tup (s04 _ _ ru.h1)), rfl, flat_strs _, ?_⟩
      simp only [if_true]
      rw [str_inV]
      walk_at "rd"
      refine ifs (fun h3 => ?_) (fun h3 => ?_)
      · have hd := hpost (by simpa using h3)
        walk_at "rd"
        (intro p hp; generalize ep : upd _ p _ = J; have N := New.of ep hp; clear ep hp)
        walk_at "rd"
        exact q p _ (s04.trans N.same) (by unfold DueP; rw [hd]; exact N.at_)
      · walk_at "rd"
        refine ⟨s4, fun x hx => ?_, _, _, rfl⟩
        rw [List.take_add_one, hg] at hx
        rcases List.mem_append.mp hx with h | h
        · exact ha x h
        · rw [show x = g by simpa using h]; simpa using h3
    · rintro σ H4 ⟨s4, ha, z1, z2, rfl⟩
      have s04 := s03.trans s4
      have hd : dueS R d = .made := by
        unfold dueS
        rw [if_neg h1, if_neg h2, if_neg (Classical.not_not.mpr (ha d.p (by simp))), if_neg (Classical.not_not.mpr (ha d.g (by simp)))]
      walk_at "rd"
      refine i_slA (s04 _ _ ru.hp) (fun a1 H5 s5 k5 => ?_)
      have k5 : H5 a1 = some (.tup [.int R.b, .ref R.lp, .ref R.lc, .ref R.lb]) := k5
      have s05 := s04.trans s5
      walk_at "rd"
      refine i_ixT (SqT.tup (s05 _ _ ru.hp)) (atI_nat (j := 4) rfl) ?_
      walk_at "rd"
      (intro a2 ha2; generalize ea2 : upd _ a2 _ = J6; have N6 := New.of ea2 ha2; clear ea2 ha2)
      have s06 := s05.trans N6.same
      refine i_catA (s06 _ _ ru.h6) N6.at_ (by simp [refs]; omega) (fun a3 H7 s7 k7 => ?_)
      have s07 := s06.trans s7
      walk_at "rd"
      (intro a4 ha4; generalize ea4 : upd _ a4 _ = J8; have N8 := New.of ea4 ha4; clear ea4 ha4)
      have s08 := s07.trans N8.same
      refine i_catA (N8.app (s7 _ _ (N6.app k5))) N8.at_ (by show 4 + 1 ≤ _; omega) (fun qa H9 s9 k9 => ?_)
      have s09 := s08.trans s9
      walk_at "rd"
      (intro p hp; generalize ep : upd _ p _ = J10; have N10 := New.of ep hp; clear ep hp)
      walk_at "rd"
      have s0A := s09.trans N10.same
      have s7A : Same H7 J10 := N8.same.trans (s9.trans N10.same)
      refine q p _ s0A (by
        unfold DueP; rw [hd]
        refine ⟨qa, ⟨R.b, R.lp, R.lc, R.lb, a3, R.ps, R.cs, R.bs, R.ss ++ [(rp, d)]⟩, N10.at_, ⟨N10.app k9, s0A _ _ ru.h1, s0A _ _ ru.h2, fun z hz => s0A _ _ (ru.h3 z hz), s0A _ _ ru.h4, fun z hz => s0A _ _ (ru.h5 z hz), by rw [s7A _ _ k7]; simp [refs], fun z hz => ?_⟩, ⟨rfl, rfl, rfl, rfl, ?_⟩⟩
        · rcases List.mem_append.mp hz with h | h
          · exact s0A _ _ (ru.h7 z h)
          · rw [List.mem_singleton.mp h]; show J10 rp = some (.tup d.row); rw [er]; exact s0A _ _ kr
        · show (R.ss ++ [(rp, d)]).map (·.2) = (R.ss ++ [((0 : Addr), d)]).map (·.2)
          rw [List.map_append, List.map_append]; rfl)
end

end Ice

set_option Elab.async false
set_option linter.all false
set_option maxRecDepth 100000
set_option maxHeartbeats 4000000
set_option autoImplicit true
namespace Ice
open PySem PySem.Spec PyProof.Rows L2 TL
/-! side conditions, heaps, one step of a reading, and many -/
local macro_rules | `(tactic| walk_at "hp") => `(tactic| first | assumption | exact upd_same | exact New.at_ (by assumption) | (refine keepU ?_ (by assumption); walk_at "hp") | (refine New.app (by assumption) ?_; walk_at "hp") | (refine Same.app (by assumption) ?_; walk_at "hp") | (refine But.app (by assumption) (by assumption) ?_; walk_at "hp"))
local macro_rules | `(tactic| walk_at "sq") => `(tactic| first | assumption | exact SqL.lst (by walk_at "hp") | exact L2.Same.seq (New.same (by assumption)) (by assumption) | exact L2.Same.seq (by assumption) (by assumption))
local macro_rules | `(tactic| walk_at "len") => `(tactic| first | assumption | (simp only [List.length_cons, List.length_nil, List.length_append, List.length_map]; decide) | (refine Ice.sz_of ?_; simp only [List.length_cons, List.length_nil, List.length_append, List.length_map]; omega))
local macro_rules | `(tactic| walk_at "fresh") => `(tactic| (simp only [List.map_append, List.map_cons, List.map_nil, List.nil_append, List.cons_append]; decide +kernel))
local macro_rules | `(tactic| walk_at "sd") => `(tactic| first | assumption | (show _ ≠ _; omega) | exact Or.inl ⟨by omega, by omega⟩ | exact Or.inr ⟨by omega, by omega⟩ | exact ⟨by decide, by decide⟩ | exact ⟨by decide, by decide, by decide⟩ | exact ⟨by omega, by omega, by omega⟩)
/-! one step of a reading, and many -/
local macro_rules | `(tactic| walk_at "st") => `(tactic| first
  | with_reducible refine i_seq ?_
  | with_reducible refine i_if ?_
  | with_reducible refine i_next ?_
  | with_reducible refine i_ret ?_
  | with_reducible refine i_retN ?_
  | with_reducible refine i_drop ?_
  | with_reducible refine i_asg ?_
  | with_reducible refine i_gname ?_
  | with_reducible refine i_gsub ?_
  | ((with_reducible refine i_var (v := ?vv) ?hv ?_); (case hv => exact rfl))
  | with_reducible refine i_c ?_
  | with_reducible refine i_op ?_
  | with_reducible refine i_un ?_
  | with_reducible refine i_test ?_
  | with_reducible refine i_tB ?_
  | with_reducible refine i_and ?_
  | with_reducible refine i_or ?_
  | with_reducible refine i_not ?_
  | with_reducible refine i_andV ?_
  | with_reducible refine i_orV ?_
  | with_reducible refine i_notV ?_
  | with_reducible refine i_ifE ?_
  | with_reducible refine i_chain ?_
  | with_reducible refine i_bl ?_
  | with_reducible refine i_nil ?_
  | with_reducible refine i_cons ?_
  | with_reducible refine i_call ?_
  | with_reducible refine i_cb ?_
  | with_reducible refine i_rI0 ?_
  | with_reducible refine i_rU ?_
  | ((with_reducible refine i_rEq ?hs ?_); (case hs => exact rfl))
  | ((with_reducible refine i_rNe ?hs ?_); (case hs => exact rfl))
  | ((with_reducible refine i_rI ?hc ?_); (case hc => walk_at "sd"))
  | ((with_reducible refine i_ixL (xs := ?xs) (v := ?vv) ?hS ?he ?_); (case hS => walk_at "sq"); (case he => exact rfl))
  | ((with_reducible refine i_setL (xs := ?xs) (j := ?jj) ?hS ?he ?_); (case hS => walk_at "hp"); (case he => exact rfl))
  | with_reducible refine i_tup ?_
  | with_reducible refine i_lst ?_
  | with_reducible refine i_bm ?_
  | with_reducible refine i_bm0 ?_
  | with_reducible refine i_m1 ?_
  | with_reducible refine i_sl ?_
  | with_reducible refine i_nopart ?_
  | with_reducible refine i_part ?_
  | with_reducible refine i_int ?_
  | with_reducible refine i_str ?_
  | with_reducible refine i_for ?_
  | with_reducible refine i_yes ?_
  | ((with_reducible refine i_lenL (xs := ?xs) ?hS ?_); (case hS => walk_at "sq"))
  | ((with_reducible refine i_room ?hz ?_); (case hz => walk_at "len"))
  | with_reducible refine i_leT ?_
  | with_reducible refine i_notInS ?_
  | with_reducible refine i_inS ?_
  | with_reducible refine i_find ?_
  | with_reducible refine i_isB ?_
  | with_reducible refine i_max2 ?_
  | with_reducible refine i_min2 ?_
  | with_reducible exact trivial
  | with_reducible refine iteT ?_
  | with_reducible refine iteF ?_
  | with_reducible refine i_isstr ?_
  | with_reducible refine i_lc ?_
  | ((with_reducible refine i_cat (xs := ?xs) (zs := ?zs) ?ha ?hb ?hz ?_); (case ha => walk_at "hp"); (case hb => walk_at "hp"); (case hz => walk_at "len"))
  | ((with_reducible refine i_tyL (xs := ?xs) ?ha ?_); (case ha => walk_at "hp"))
  | with_reducible refine i_list ?_
  | with_reducible refine i_disp ?_
  | with_reducible refine i_pairs0 ?_
  | with_reducible refine i_pairs ?_
  | with_reducible refine i_newK ?_
  | with_reducible refine i_gcons ?_
  | with_reducible refine i_gnil ?_
  | with_reducible refine i_revL ?_
  | with_reducible refine i_rng1 ?_
  | ((with_reducible refine i_wipe ?hw ?_); (case hw => exact rfl))
  | with_reducible refine iteNT ?_
  | with_reducible refine iteNF ?_)
local macro_rules | `(tactic| walk_at "sx") => `(tactic| first
  | walk_at "st"
  | with_reducible refine i_kinit ?_
  | with_reducible refine i_ost ?_
  | with_reducible refine i_mkO ?_
  | with_reducible refine i_callE ?_
  | with_reducible refine i_makeE ?_
  | with_reducible refine i_xf ?_
  | with_reducible refine i_sfld ?_
  | with_reducible refine i_fld ?_
  | ((with_reducible refine i_ixT (xs := ?xs) (v := ?vv) ?hS ?he ?_); (case hS => exact SqT.tup (by walk_at "hp")); (case he => exact rfl))
  | with_reducible refine i_intB ?_
  | with_reducible refine i_runS ?_
  | with_reducible refine i_runN ?_
  | ((with_reducible refine i_xf1 (fs := ?ff) (v := ?vv) ?hx ?hl ?_); (case hx => walk_at "hp"); (case hl => exact rfl))
  | with_reducible refine i_methE ?_
  | with_reducible refine i_meth ?_
  | with_reducible refine i_make ?_
  | ((with_reducible refine i_obj (dx := ?dd) (fs := ?ff) ?hx ?hl ?_); (case hx => walk_at "hp"); (case hl => exact rfl))
  | ((with_reducible refine i_fld1 (C := ?CC) (dx := ?dd) (fs := ?ff) (v := ?vv) ?hx ?cl ?na ?hl ?_); (case hx => walk_at "hp"); (case cl => assumption); (case na => assumption); (case hl => exact rfl)))
local macro_rules | `(tactic| walk_at "sy") => `(tactic| first
  | walk_at "sx"
  | with_reducible refine i_dget ?_
  | with_reducible refine i_dget2 ?_
  | with_reducible refine i_dput ?_
  | with_reducible refine i_din ?_
  | ((with_reducible refine i_aug (x := ?vv) ?hx ?_); (case hx => exact rfl)))
local macro_rules | `(tactic| walk_at "rd") => `(tactic| repeat (walk_at "sy"))

section
variable {P : Program} {w : World} {K : PySem.W.Frag} {mg : Str → Option Value} {base : Heap}
theorem ix_tupR {X : Cx} {pn : List (Addr × Obj)} {xe : Value → Shared → Prop} : IxR (X.tr pn xe) (rIxT X.K) := ix_tup (X := X.tr pn xe)
theorem pair_rp {H : Hp} {p : Addr} {w : Str} {v : V} {d : PyData} {k : Nat} (hw : Ps (.str w) (.str w)) (hp : H p = some (.tup [.str w, v])) (hv : Sm K H k 400013 v d) (hk : k ≤ 50) : Rp K H (.ref p) (.tuple [.str w, d]) := by
  have := Sm.tup (K := K) (k := k) (L := 400013) hp (.cons ((hw.sm (k := 0)).mono (by omega) (by omega)) (.cons hv .nil))
  exact this.rp (by omega) (Nat.le_trans (show 400013 * 2 + 2 * 2 + 3 ≤ 1000000 by decide) (by rw [sizeLine_eq]; decide))
theorem pair_ps {H : Hp} {p : Addr} {w : Str} {v : V} {d : PyData} (hw : Ps (.str w) (.str w)) (hp : H p = some (.tup [.str w, v])) (hv : Ps v d) : Rp K H (.ref p) (.tuple [.str w, d]) :=
  pair_rp hw hp ((hv.sm (k := 0)).mono (Nat.le_refl 0) (by omega)) (by omega)
theorem word_ps (w : Str) (h : w ∈ [Str.ofString "world", Str.ofString "doubled", Str.ofString "port", Str.ofString "told", Str.ofString "ships"]) : Ps (.str w) (.str w) := by
  refine .str ?_ ?_ <;> revert w <;> decide +kernel
theorem dueS_world {R : Rw} {d : Vd} {w : Str} (h : dueS R d = .world w) : w = Str.ofString "ships" := by
  unfold dueS at h
  by_cases h1 : 5 < R.ss.length
  · rw [if_pos h1] at h; cases h; rfl
  rw [if_neg h1] at h
  by_cases h2 : d.n ∈ R.names
  · rw [if_pos h2] at h; cases h
  rw [if_neg h2] at h
  by_cases h3 : d.p ∉ R.ps
  · rw [if_pos h3] at h; cases h
  rw [if_neg h3] at h
  by_cases h4 : d.g ∉ R.ps
  · rw [if_pos h4] at h; cases h
  rw [if_neg h4] at h
  cases h
theorem dueS_name {R : Rw} {d : Vd} {n : Str} (o : d.ok) (h : dueS R d = .doubled n ∨ dueS R d = .port n) : Ice.isN (.str n) = true := by
  have key : (dueS R d = .doubled n ∨ dueS R d = .port n) → n = d.n ∨ n = d.p ∨ n = d.g := by
    intro h
    unfold dueS at h
    by_cases h1 : 5 < R.ss.length
    · rw [if_pos h1] at h; rcases h with h | h <;> cases h
    rw [if_neg h1] at h
    by_cases h2 : d.n ∈ R.names
    · rw [if_pos h2] at h; rcases h with h | h <;> cases h; exact .inl rfl
    rw [if_neg h2] at h
    by_cases h3 : d.p ∉ R.ps
    · rw [if_pos h3] at h; rcases h with h | h <;> cases h; exact .inr (.inl rfl)
    rw [if_neg h3] at h
    by_cases h4 : d.g ∉ R.ps
    · rw [if_pos h4] at h; rcases h with h | h <;> cases h; exact .inr (.inr rfl)
    rw [if_neg h4] at h
    rcases h with h | h <;> cases h
  rcases key h with rfl | rfl | rfl
  · exact o.five.nn
  · exact o.five.np
  · exact o.g
theorem DueP.rp {H : Hp} {p : Addr} {R : Rw} {d : Vd} (a : DueP H p R d) (o : R.ok) (dk : d.ok) (ds : d.k = .s) : Rp K H (.ref p) (dataS R d) := by
  unfold DueP at a
  unfold dataS
  cases hd : dueS R d with
  | number => rw [hd] at a; exact a.elim
  | world w => rw [hd] at a; exact pair_ps (word_ps _ (by simp)) a (word_ps w (by rw [dueS_world hd]; simp))
  | doubled n => rw [hd] at a; exact pair_ps (word_ps _ (by simp)) a (name_ps (dueS_name dk (.inl hd)))
  | port n => rw [hd] at a; exact pair_ps (word_ps _ (by simp)) a (name_ps (dueS_name dk (.inr hd)))
  | made =>
    rw [hd] at a
    obtain ⟨q, R', k, ru, l⟩ := a
    have ok := (Rw.more_ok o dk ds hd).1
    have s := ru.sm (K := K) (l.ok ok)
    rw [l.data] at s
    exact pair_rp (word_ps _ (by simp)) k s (by decide)
theorem Sm.same {K : PySem.W.Frag} {H H' : Hp} (s : Same H H') {k L : Nat} {v : V} {d : PyData} (h : Sm K H k L v d) : Sm K H' k L v d := ⟨Dp.same s d v h.dp, h.sh, h.de, h.ln⟩
theorem sh_make (T : Top K mg) {d : Vd} (ok : d.ok) (dk : d.k = .s) {J : Hp} {x dx : Addr} (hx : J x = none) (hdx : J dx = none) {QQ : VK} {E : XK} (q : ∀ H1, Same J H1 → VesT T H1 x d → QQ .non H1) :
    spInitS T.a_Ship T.a_NoName T.a_NoNumber (V.ref x :: ([V.str d.n, V.str d.p, V.str d.g, V.int d.h, V.int d.s, V.int d.d] ++ [])) (upd (upd J dx (.own x)) x (.ins T.a_Ship dx [])) QQ E := by
  have er : d.row = [.str d.n, .str d.p, .str d.g, .int d.h, .int d.s, .int d.d] := by unfold Vd.row; rw [dk]
  have th : ∀ H, ∀ v ∈ d.row, Th H v := fun H => RowK.th H (rowK_of ok)
  rw [er] at th
  refine ⟨x, dx, _, _, _, _, _, _, rfl, upd_same, th _, ?_⟩
  have nb : [V.str d.n, V.str d.p, V.str d.g].find? bad = none := by simp [bad, ok.five.nn, ok.five.np, ok.g]
  rw [resV_goal nb, ok.five.made]
  refine fun H1 b1 k1 => q _ (made_same hx hdx b1) ⟨ok, dx, ?_⟩
  unfold Vd.flds
  rw [dk, er]; exact k1
def spLWith (T : Top K mg) : Sp := fun vs H Q _ => ∃ (x rp : Addr) (R : Rw) (CS : List (Addr × Cd)) (BS SS : VL) (d : Vd), vs = [.ref x, .ref rp] ∧ WIs T H x R CS BS SS ∧ H rp = some (.tup d.row) ∧ d.ok ∧ d.k = .s ∧ ∀ p H', Same H H' → Rp K H' (.ref p) (dataS R d) → Q (.ref p) H'
theorem ok_with (T : Top K mg) : FnG P w K mg base CX0 7 T.a_with T.d_with ["_law_made_here", "_law_row"] (spLWith T) := by
  have G_with_ship := ok_with_ship (P := P) (w := w) (base := base) T
  have G_Ship___init__ := ok_Ship___init__ (P := P) (w := w) (base := base) T
  have G_World_told := ok_World_told (P := P) (w := w) (base := base) T
  refine okG T.F_with sc_with (fun vs H Q E h => ?_) (fun cdv A outer s H vs Q E hr hgd h => ?_)
  · obtain ⟨x, rp, R, CS, BS, SS, d, rfl, _⟩ := h
    rfl
  · obtain ⟨x, rp, R, CS, BS, SS, d, rfl, wi, kr, dok, dk, q⟩ := h
    have o := wi.o
    have er : d.row = [.str d.n, .str d.p, .str d.g, .int d.h, .int d.s, .int d.d] := by unfold Vd.row; rw [dk]
    have th : ∀ H, ∀ v ∈ d.row, Th H v := fun H => RowK.th H (rowK_of dok)
    rw [er] at kr th
    refine ⟨_, (pss_cons (ps_set (i := 2) sc_with.nd rfl (by first | exact Or.inl rfl | exact Or.inr rfl) (pe_tup (pa_cons pe_str pa_nil)))
      (pss_cons (ps_try_hds rfl rfl sc_with.nd takes0 (fun W pn xe tk po => (pss_one (ps_set (i := 2) sc_with.nd rfl (by first | exact Or.inl rfl | exact Or.inr rfl) (pe_tup (pa_cons pe_str (pa_cons (g_meth0 (g_callE (E := WE _) G_with_ship (hr.mono (by decide)) hgd (by rfl) T.m_with_ship T.F_with_ship.kp T.b_with_ship .nil (passAt tk) (pa_cons (pv 0) (pa_cons (g_makeE (E := WE _) T.mk_Ship G_Ship___init__ (hr.mono (by decide)) hgd (by rfl) T.c_Ship T.b_Ship___init__ .nil (passAt tk) (pa_cons (pe_ix ix_tupR (pv 1) pe_int (fun _ _ => rfl)) (pa_cons (pe_ix ix_tupR (pv 1) pe_int (fun _ _ => rfl)) (pa_cons (pe_ix ix_tupR (pv 1) pe_int (fun _ _ => rfl)) (pa_cons (pe_ix ix_tupR (pv 1) pe_int (fun _ _ => rfl)) (pa_cons (pe_ix ix_tupR (pv 1) pe_int (fun _ _ => rfl)) (pa_cons (pe_ix ix_tupR (pv 1) pe_int (fun _ _ => rfl)) pa_nil))))))) pa_nil))) T.cl_World T.me_World_told G_World_told (hr.mono (by decide)) hgd T.b_World_told .nil pass0) pa_nil))))))
      (.named (i := 3) rfl rfl ⟨by rfl, by decide, .inl T.c_NoWorld⟩ (fun a oe cls d pn hz hf => (pss_one (ps_set (i := 2) sc_with.nd rfl (by first | exact Or.inl rfl | exact Or.inr rfl) (pe_tup (pa_cons pe_str (pa_cons (pe_xf T.xf_NoWorld T.nf_NoWorld_found hz hf (pv 3)) pa_nil)))))) (.named (i := 3) rfl rfl ⟨by rfl, by decide, .inl T.c_Doubled⟩ (fun a oe cls d pn hz hf => (pss_one (ps_set (i := 2) sc_with.nd rfl (by first | exact Or.inl rfl | exact Or.inr rfl) (pe_tup (pa_cons pe_str (pa_cons (pe_xf T.xf_Doubled T.nf_Doubled_name hz hf (pv 3)) pa_nil)))))) (.named (i := 3) rfl rfl ⟨by rfl, by decide, .inl T.c_NoPort⟩ (fun a oe cls d pn hz hf => (pss_one (ps_set (i := 2) sc_with.nd rfl (by first | exact Or.inl rfl | exact Or.inr rfl) (pe_tup (pa_cons pe_str (pa_cons (pe_xf T.xf_NoPort T.nf_NoPort_found hz hf (pv 3)) pa_nil)))))) (.plain ⟨by rfl, by decide, .inl T.c_IceError⟩ (fun a oe cls d pn hz hf => (pss_one (ps_set (i := 2) sc_with.nd rfl (by first | exact Or.inl rfl | exact Or.inr rfl) (pe_tup (pa_cons pe_str pa_nil))))) .nil)))))
      (pss_one (ps_ret (pv 2))))), ?_⟩
    walk_at "rd"
    (intro p0 hp0; generalize ep0 : upd _ p0 _ = J0; have N0 := New.of ep0 hp0; clear ep0 hp0)
    walk_at "rd"
    intro sx dx hsx hdx nex
    refine sh_make T dok dk hsx hdx fun H1 s1 vt => ⟨rfl, ?_⟩
    have s01 := N0.same.trans s1
    walk_at "rd"
    refine ⟨x, sx, R, CS, BS, SS, d, rfl, wi.same s01, vt, dk, ?_⟩
    unfold WantsS
    have due : ∀ {p : Addr} {H' : Hp}, Same H H' → H p = none → DueP H' p R d → Q (.ref p) H' := fun s _ a => q _ _ s (a.rp o dok dk)
    unfold DueP at due
    cases hd : dueS R d with
    | number =>
      unfold dueS at hd
      by_cases h1 : 5 < R.ss.length
      · rw [if_pos h1] at hd; cases hd
      rw [if_neg h1] at hd
      by_cases h2 : d.n ∈ R.names
      · rw [if_pos h2] at hd; cases hd
      rw [if_neg h2] at hd
      by_cases h3 : d.p ∉ R.ps
      · rw [if_pos h3] at hd; cases hd
      rw [if_neg h3] at hd
      by_cases h4 : d.g ∉ R.ps
      · rw [if_pos h4] at hd; cases hd
      rw [if_neg h4] at hd
      cases hd
    | world ww =>
      rw [hd] at due
      intro d' H7 s7 k7
      refine ⟨true, T.ex_NoWorld_NoWorld, fun _ a ha => ?_, fun z => by cases z⟩
      walk_at "rd"
      (intro u hu; generalize eu : upd _ u _ = J8; have N8 := New.of eu hu; clear eu hu)
      dsimp only [goneE]
      walk_at "rd"
      exact due (s01.trans (s7.trans N8.same)) (sfree (s01.trans s7) N8.free) N8.at_
    | doubled n =>
      rw [hd] at due
      intro d' H7 s7 k7
      refine ⟨false, T.ex_Doubled_NoWorld, (fun z => by cases z), fun _ => ?_⟩
      refine ⟨true, T.ex_Doubled_Doubled, fun _ a ha => ?_, fun z => by cases z⟩
      walk_at "rd"
      (intro u hu; generalize eu : upd _ u _ = J8; have N8 := New.of eu hu; clear eu hu)
      dsimp only [goneE]
      walk_at "rd"
      exact due (s01.trans (s7.trans N8.same)) (sfree (s01.trans s7) N8.free) N8.at_
    | port n =>
      rw [hd] at due
      intro d' H7 s7 k7
      refine ⟨false, T.ex_NoPort_NoWorld, (fun z => by cases z), fun _ => ?_⟩
      refine ⟨false, T.ex_NoPort_Doubled, (fun z => by cases z), fun _ => ?_⟩
      refine ⟨true, T.ex_NoPort_NoPort, fun _ a ha => ?_, fun z => by cases z⟩
      walk_at "rd"
      (intro u hu; generalize eu : upd _ u _ = J8; have N8 := New.of eu hu; clear eu hu)
      dsimp only [goneE]
      walk_at "rd"
      exact due (s01.trans (s7.trans N8.same)) (sfree (s01.trans s7) N8.free) N8.at_
    | made =>
      intro y H7 s7 ny w7
      walk_at "rd"
      refine w_obj w7.w (fun _ _ _ _ _ _ _ => rfl) ?_
      walk_at "rd"
      refine ⟨y, _, _, _, _, _, rfl, w7.w, w7.m.wok w7.o, fun r ap rc rb rs Lc Lb Ls H8 s8 kr8 kap krc krb krs eLc eLb eLs kz => ?_⟩
      walk_at "rd"
      (intro u hu; generalize eu : upd _ u _ = J9; have N9 := New.of eu hu; clear eu hu)
      walk_at "rd"
      have ts := (w7.m.same s8).toldS (K := K) w7.o kr8 kap krc krb krs eLc eLb eLs kz
      refine q u _ (s01.trans (s7.trans (s8.trans N9.same))) ?_
      unfold dataS
      rw [hd]
      refine pair_rp (word_ps _ (by simp)) N9.at_ (k := 3) ?_ (by decide)
      exact Sm.same N9.same ts
end

end Ice

set_option Elab.async false
set_option linter.all false
set_option maxRecDepth 100000
set_option maxHeartbeats 4000000
set_option autoImplicit true
namespace Ice
open PySem PySem.Spec PyProof.Rows L2 TL
/-! side conditions, heaps, one step of a reading, and many -/
local macro_rules | `(tactic| walk_at "hp") => `(tactic| first | assumption | exact upd_same | exact New.at_ (by assumption) | (refine keepU ?_ (by assumption); walk_at "hp") | (refine New.app (by assumption) ?_; walk_at "hp") | (refine Same.app (by assumption) ?_; walk_at "hp") | (refine But.app (by assumption) (by assumption) ?_; walk_at "hp"))
local macro_rules | `(tactic| walk_at "sq") => `(tactic| first | assumption | exact SqL.lst (by walk_at "hp") | exact L2.Same.seq (New.same (by assumption)) (by assumption) | exact L2.Same.seq (by assumption) (by assumption))
local macro_rules | `(tactic| walk_at "len") => `(tactic| first | assumption | (simp only [List.length_cons, List.length_nil, List.length_append, List.length_map]; decide) | (refine Ice.sz_of ?_; simp only [List.length_cons, List.length_nil, List.length_append, List.length_map]; omega))
local macro_rules | `(tactic| walk_at "fresh") => `(tactic| (simp only [List.map_append, List.map_cons, List.map_nil, List.nil_append, List.cons_append]; decide +kernel))
local macro_rules | `(tactic| walk_at "sd") => `(tactic| first | assumption | (show _ ≠ _; omega) | exact Or.inl ⟨by omega, by omega⟩ | exact Or.inr ⟨by omega, by omega⟩ | exact ⟨by decide, by decide⟩ | exact ⟨by decide, by decide, by decide⟩ | exact ⟨by omega, by omega, by omega⟩)
/-! one step of a reading, and many -/
local macro_rules | `(tactic| walk_at "st") => `(tactic| first
  | with_reducible refine i_seq ?_
  | with_reducible refine i_if ?_
  | with_reducible refine i_next ?_
  | with_reducible refine i_ret ?_
  | with_reducible refine i_retN ?_
  | with_reducible refine i_drop ?_
  | with_reducible refine i_asg ?_
  | with_reducible refine i_gname ?_
  | with_reducible refine i_gsub ?_
  | ((with_reducible refine i_var (v := ?vv) ?hv ?_); (case hv => exact rfl))
  | with_reducible refine i_c ?_
  | with_reducible refine i_op ?_
  | with_reducible refine i_un ?_
  | with_reducible refine i_test ?_
  | with_reducible refine i_tB ?_
  | with_reducible refine i_and ?_
  | with_reducible refine i_or ?_
  | with_reducible refine i_not ?_
  | with_reducible refine i_andV ?_
  | with_reducible refine i_orV ?_
  | with_reducible refine i_notV ?_
  | with_reducible refine i_ifE ?_
  | with_reducible refine i_chain ?_
  | with_reducible refine i_bl ?_
  | with_reducible refine i_nil ?_
  | with_reducible refine i_cons ?_
  | with_reducible refine i_call ?_
  | with_reducible refine i_cb ?_
  | with_reducible refine i_rI0 ?_
  | with_reducible refine i_rU ?_
  | ((with_reducible refine i_rEq ?hs ?_); (case hs => exact rfl))
  | ((with_reducible refine i_rNe ?hs ?_); (case hs => exact rfl))
  | ((with_reducible refine i_rI ?hc ?_); (case hc => walk_at "sd"))
  | ((with_reducible refine i_ixL (xs := ?xs) (v := ?vv) ?hS ?he ?_); (case hS => walk_at "sq"); (case he => exact rfl))
  | ((with_reducible refine i_setL (xs := ?xs) (j := ?jj) ?hS ?he ?_); (case hS => walk_at "hp"); (case he => exact rfl))
  | with_reducible refine i_tup ?_
  | with_reducible refine i_lst ?_
  | with_reducible refine i_bm ?_
  | with_reducible refine i_bm0 ?_
  | with_reducible refine i_m1 ?_
  | with_reducible refine i_sl ?_
  | with_reducible refine i_nopart ?_
  | with_reducible refine i_part ?_
  | with_reducible refine i_int ?_
  | with_reducible refine i_str ?_
  | with_reducible refine i_for ?_
  | with_reducible refine i_yes ?_
  | ((with_reducible refine i_lenL (xs := ?xs) ?hS ?_); (case hS => walk_at "sq"))
  | ((with_reducible refine i_room ?hz ?_); (case hz => walk_at "len"))
  | with_reducible refine i_leT ?_
  | with_reducible refine i_notInS ?_
  | with_reducible refine i_inS ?_
  | with_reducible refine i_find ?_
  | with_reducible refine i_isB ?_
  | with_reducible refine i_max2 ?_
  | with_reducible refine i_min2 ?_
  | with_reducible exact trivial
  | with_reducible refine iteT ?_
  | with_reducible refine iteF ?_
  | with_reducible refine i_isstr ?_
  | with_reducible refine i_lc ?_
  | ((with_reducible refine i_cat (xs := ?xs) (zs := ?zs) ?ha ?hb ?hz ?_); (case ha => walk_at "hp"); (case hb => walk_at "hp"); (case hz => walk_at "len"))
  | ((with_reducible refine i_tyL (xs := ?xs) ?ha ?_); (case ha => walk_at "hp"))
  | with_reducible refine i_list ?_
  | with_reducible refine i_disp ?_
  | with_reducible refine i_pairs0 ?_
  | with_reducible refine i_pairs ?_
  | with_reducible refine i_newK ?_
  | with_reducible refine i_gcons ?_
  | with_reducible refine i_gnil ?_
  | with_reducible refine i_revL ?_
  | with_reducible refine i_rng1 ?_
  | ((with_reducible refine i_wipe ?hw ?_); (case hw => exact rfl))
  | with_reducible refine iteNT ?_
  | with_reducible refine iteNF ?_)
local macro_rules | `(tactic| walk_at "sx") => `(tactic| first
  | walk_at "st"
  | with_reducible refine i_kinit ?_
  | with_reducible refine i_ost ?_
  | with_reducible refine i_mkO ?_
  | with_reducible refine i_callE ?_
  | with_reducible refine i_makeE ?_
  | with_reducible refine i_xf ?_
  | with_reducible refine i_sfld ?_
  | with_reducible refine i_fld ?_
  | ((with_reducible refine i_ixT (xs := ?xs) (v := ?vv) ?hS ?he ?_); (case hS => exact SqT.tup (by walk_at "hp")); (case he => exact rfl))
  | with_reducible refine i_intB ?_
  | with_reducible refine i_runS ?_
  | with_reducible refine i_runN ?_
  | ((with_reducible refine i_xf1 (fs := ?ff) (v := ?vv) ?hx ?hl ?_); (case hx => walk_at "hp"); (case hl => exact rfl))
  | with_reducible refine i_methE ?_
  | with_reducible refine i_meth ?_
  | with_reducible refine i_make ?_
  | ((with_reducible refine i_obj (dx := ?dd) (fs := ?ff) ?hx ?hl ?_); (case hx => walk_at "hp"); (case hl => exact rfl))
  | ((with_reducible refine i_fld1 (C := ?CC) (dx := ?dd) (fs := ?ff) (v := ?vv) ?hx ?cl ?na ?hl ?_); (case hx => walk_at "hp"); (case cl => assumption); (case na => assumption); (case hl => exact rfl)))
local macro_rules | `(tactic| walk_at "sy") => `(tactic| first
  | walk_at "sx"
  | with_reducible refine i_dget ?_
  | with_reducible refine i_dget2 ?_
  | with_reducible refine i_dput ?_
  | with_reducible refine i_din ?_
  | ((with_reducible refine i_aug (x := ?vv) ?hx ?_); (case hx => exact rfl)))
local macro_rules | `(tactic| walk_at "rd") => `(tactic| repeat (walk_at "sy"))

section
variable {P : Program} {w : World} {K : PySem.W.Frag} {mg : Str → Option Value} {base : Heap}
theorem un64' {k : Nat} {A : Around} (hr : Room k A) : A.units + 64 < cLine := by have := hr.un; omega
theorem nodup_sub : ∀ (xs ys : List Str), xs.Nodup → (∀ x ∈ xs, x ∈ ys) → xs.length ≤ ys.length
  | [], _, _, _ => Nat.zero_le _
  | a :: r, ys, hn, hs => by
    have ha := hs a (List.mem_cons_self ..)
    rw [List.nodup_cons] at hn
    have ih := nodup_sub r (ys.erase a) hn.2 fun x hx => (List.mem_erase_of_ne (fun e => hn.1 (by rw [← e]; exact hx))).mpr (hs x (List.mem_cons_of_mem _ hx))
    rw [List.length_erase_of_mem ha] at ih
    have := List.length_pos_of_mem ha
    rw [List.length_cons]; omega
def offL (ys : List Str) (x : Str) : Bool := !decide (x ∈ ys)
theorem off_cons {xs ys : List Str} (hn : xs.Nodup) (hl : ys.length < xs.length) : ∃ a r, xs.filter (offL ys) = a :: r ∧ a ∈ xs := by
  cases e : xs.filter (offL ys) with
  | nil =>
    have := nodup_sub xs ys hn fun x hx => by
      have h := List.filter_eq_nil_iff.mp e x hx
      unfold offL at h
      simpa using h
    omega
  | cons a r => exact ⟨a, r, rfl, (List.mem_filter.mp (e ▸ List.mem_cons_self .. : a ∈ xs.filter (offL ys))).1⟩
theorem gath_off (ys : List Str) : ∀ xs : List Str, gath (xs.map fun x => if offL ys x = true then some (V.str x) else none) = (xs.filter (offL ys)).map V.str
  | [] => rfl
  | z :: r => by
    have ih := gath_off ys r
    unfold gath at ih ⊢
    rw [List.map_cons, List.filter_cons]
    by_cases h : offL ys z = true
    · rw [if_pos h, if_pos h, List.map_cons, List.filterMap_cons]
      exact congrArg _ ih
    · rw [if_neg h, if_neg h, List.filterMap_cons]
      exact ih
theorem RowsU.but {b : Addr} {n : Nat} {H H' : Hp} {p : Addr} {R : Rw} (a : RowsU H p R) (B : Box H b n) (e : But b H H') : RowsU H' p R :=
  ⟨e _ _ (row_ne B a.hp) a.hp, e _ _ (row_ne B a.h1) a.h1, e _ _ (row_ne B a.h2) a.h2, fun z hz => e _ _ (row_ne B (a.h3 z hz)) (a.h3 z hz), e _ _ (row_ne B a.h4) a.h4, fun z hz => e _ _ (row_ne B (a.h5 z hz)) (a.h5 z hz), e _ _ (row_ne B a.h6) a.h6, fun z hz => e _ _ (row_ne B (a.h7 z hz)) (a.h7 z hz)⟩
theorem names_gath (R : Rw) : gath ((R.bs ++ R.ss).map fun z => some (V.str z.2.n)) = R.names.map V.str := by
  rw [show ((R.bs ++ R.ss).map fun z => some (V.str z.2.n)) = ((R.names.map V.str).map some) by unfold Rw.names; rw [List.map_map, List.map_map]; rfl, gath_some]
theorem RowsU.row {H : Hp} {p : Addr} {R : Rw} (ru : RowsU H p R) : ∀ z ∈ R.bs ++ R.ss, H z.1 = some (.tup z.2.row) := fun z hz => by
  rcases List.mem_append.mp hz with h | h
  · exact ru.h5 z h
  · exact ru.h7 z h
theorem Rw.ok.names {R : Rw} (o : R.ok) : ∀ x ∈ R.names, Ice.isN (.str x) = true := fun x hx => by
  obtain ⟨z, hz, rfl⟩ := List.mem_map.mp hx
  rcases List.mem_append.mp hz with h | h
  · exact (o.bi z h).1.five.nn
  · exact (o.si z h).1.five.nn
theorem rowS {d : Vd} (dk : d.k = .s) : d.row = [.str d.n, .str d.p, .str d.g, .int d.h, .int d.s, .int d.d] := by unfold Vd.row; rw [dk]
def spNewShip : Sp := fun vs H Q _ => ∃ (b pr : Addr) (R : Rw) (n : Nat), vs = [.ref b, .ref pr] ∧ Box H b n ∧ n ≤ 600 ∧ RowsU H pr R ∧ R.ok ∧ ∀ (p : Addr) (d : Vd) (H' : Hp), But b H H' → Box H' b (n + 60) → H' p = some (.tup d.row) → d.ok → d.k = .s → Q (.ref p) H'
theorem ok_new_ship (T : Top K mg) : FnG P w K mg base CX0 4 T.a_new_ship T.d_new_ship ["_law_box_here", "_law_world_here"] spNewShip := by
  have G_ship := ok_ship (P := P) (w := w) (base := base) T
  have G_take := ok_take (P := P) (w := w) (base := base) T
  have G_names := ok_names (P := P) (w := w) (base := base) T
  refine okG T.F_new_ship sc_new_ship (fun vs H Q E h => ?_) (fun cdv A outer s H vs Q E hr hgd h => ?_)
  · obtain ⟨b, pr, R, n, rfl, _⟩ := h
    rfl
  · obtain ⟨b, pr, R, n, rfl, hB, hn, ru, o, q⟩ := h
    have hu : _ := un1' hr
    have hu64 : _ := un64' hr
    have lB := o.bl; have lS := o.sl
    have zz : (100 : Nat) ≤ sizeLine := sz_of (by decide)
    refine ⟨_, (pss_cons (ps_par (i := 2) (j := 3) (by rfl) sc_new_ship.nd rfl rfl (by decide) rfl rfl (pa_cons (g_call G_take (hr.mono (by decide)) hgd (by rfl) T.m_take T.F_take.kp T.b_take .nil pass0 (pa_cons (pv 0) (pa_cons pe_int pa_nil))) (pa_cons (g_call G_take (hr.mono (by decide)) hgd (by rfl) T.m_take T.F_take.kp T.b_take .nil pass0 (pa_cons (pv 0) (pa_cons pe_int pa_nil))) pa_nil)) (by rfl))
      (pss_cons (ps_setLc (i := 4) (own := [("_law_name", 8)]) (g := gName 8) rfl sc_new_ship.nd rfl rfl (sw_true rfl rfl rfl (by decide +kernel)) (pi_list (g_call G_names (hr.mono (by decide)) hgd (by rfl) T.m_names T.F_names.kp T.b_names .nil pass0 (pa_cons (pv 0) (pa_cons pe_int pa_nil)))) (blkOk_by (own := [("_law_name", 8)]) (N := ["_law_box_here", "_law_world_here", "_law_spare", "_law_strange", "_law_names_here", "_law_row", "_law_some", "_law_other", "_law_name", "_law_one"]) (sc := defScope s_new_ship) (by decide +kernel)) (fun _ _ _ _ _ => (pg_name (i := 8) sc_new_ship.nd rfl (by first | exact Or.inl rfl | exact Or.inr rfl))) (fun _ _ _ _ _ => (pts_one (pt_cmpR (show OpR _ (compareOp .NotIn) (rIn K true) from op_notIn_seq) (pv 8) (pe_lc (own := [("_law_row", 5)]) (g := gName 5) rfl sc_new_ship.nd (show PI _ _ _ (iTup K _) from pi_tup (pe_op (show OpR _ _ (rCatA K) from op_catA) (pe_ix (show IxR _ (rIxT K) from ix_tup) (pv 1) pe_int (fun _ _ => rfl)) (pe_ix (show IxR _ (rIxT K) from ix_tup) (pv 1) pe_int (fun _ _ => rfl)))) (blkOk_by (own := [("_law_row", 5)]) (N := ["_law_box_here", "_law_world_here", "_law_spare", "_law_strange", "_law_names_here", "_law_row", "_law_some", "_law_other", "_law_name", "_law_one"]) (by rfl)) (fun _ _ _ _ _ => (pg_name (i := 5) sc_new_ship.nd rfl (by first | exact Or.inl rfl | exact Or.inr rfl))) (fun _ _ _ _ _ => pts_nil) (fun _ _ _ _ _ => (pe_ix (show IxR _ (rIxT K) from ix_tup) (pv 5) pe_int (fun _ _ => rfl)))) (by rfl)))) (fun _ _ _ _ _ => (pv 8)))
      (pss_cons (ps_set (i := 5) sc_new_ship.nd rfl (by first | exact Or.inl rfl | exact Or.inr rfl) (g_call G_ship (hr.mono (by decide)) hgd (by rfl) T.m_ship T.F_ship.kp T.b_ship .nil pass0 (pa_cons (pv 0) (pa_cons (pe_ix ix_list (pv 4) pe_int (fun _ _ => rfl)) (pa_cons (pe_callTy call_list_of (by rfl) T.n_list (by decide +kernel) (pa_cons (pe_ix ix_tup (pv 1) pe_int (fun _ _ => rfl)) pa_nil)) pa_nil)))))
      (pss_cons (ps_setLc (i := 6) (own := [("_law_one", 9)]) (g := gName 9) rfl sc_new_ship.nd rfl rfl (sw_true rfl rfl rfl (by decide +kernel)) (pi_tup (pe_op (show OpR _ _ (rCatA K) from op_catA) (pe_ix ix_tup (pv 1) pe_int (fun _ _ => rfl)) (pe_ix ix_tup (pv 1) pe_int (fun _ _ => rfl)))) (blkOk_by (own := [("_law_one", 9)]) (N := ["_law_box_here", "_law_world_here", "_law_spare", "_law_strange", "_law_names_here", "_law_row", "_law_some", "_law_other", "_law_name", "_law_one"]) (sc := defScope s_new_ship) (by decide +kernel)) (fun _ _ _ _ _ => (pg_name (i := 9) sc_new_ship.nd rfl (by first | exact Or.inl rfl | exact Or.inr rfl))) (fun _ _ _ _ _ => pts_nil) (fun _ _ _ _ _ => (pe_ix (show IxR _ (rIxT K) from ix_tup) (pv 9) pe_int (fun _ _ => rfl))))
      (C8.pss_cut (ps_if (PW.pt (pw_and (pt_cmpR op_eq (pv 2) pe_int (nomark _)) (pw_and1 (pt_cmpR (op_neNil hu64) (pv 6) (pe_lst pa_nil) (nomark _)))))
        (pss_one (ps_set (i := 5) sc_new_ship.nd rfl (by first | exact Or.inl rfl | exact Or.inr rfl) (pe_op (show OpR _ _ (rCatA K) from op_catA) (pe_tup (pa_cons (pe_ix ix_list (pv 6) (g_call G_take (hr.mono (by decide)) hgd (by rfl) T.m_take T.F_take.kp T.b_take .nil pass0 (pa_cons (pv 0) (pa_cons (pe_callB c_len (by rfl) T.n_len (by decide +kernel) (pa_cons (pv 6) pa_nil)) pa_nil))) (fun _ _ => rfl)) pa_nil)) (pe_slice sl_tupA (pv 5) (po_some pe_int) po_none))))
        pss_nil)
      (pss_cons (ps_if (pt_cmpR op_lt (pv 3) pe_int (nomark _))
        (pss_cons (ps_setLc (i := 7) (own := [("_law_name", 8)]) (g := gName 8) rfl sc_new_ship.nd rfl rfl (sw_true rfl rfl rfl (by decide +kernel)) (pi_list (g_call G_names (hr.mono (by decide)) hgd (by rfl) T.m_names T.F_names.kp T.b_names .nil pass0 (pa_cons (pv 0) (pa_cons pe_int pa_nil)))) (blkOk_by (own := [("_law_name", 8)]) (N := ["_law_box_here", "_law_world_here", "_law_spare", "_law_strange", "_law_names_here", "_law_row", "_law_some", "_law_other", "_law_name", "_law_one"]) (sc := defScope s_new_ship) (by decide +kernel)) (fun _ _ _ _ _ => (pg_name (i := 8) sc_new_ship.nd rfl (by first | exact Or.inl rfl | exact Or.inr rfl))) (fun _ _ _ _ _ => (pts_one (pt_cmpR (show OpR _ (compareOp .NotIn) (rIn K true) from op_notIn_seq) (pv 8) (pe_ix (show IxR _ (rIxT K) from ix_tup) (pv 1) pe_int (fun _ _ => rfl)) (by rfl)))) (fun _ _ _ _ _ => (pv 8)))
      (pss_one (ps_set (i := 5) sc_new_ship.nd rfl (by first | exact Or.inl rfl | exact Or.inr rfl) (pe_op (show OpR _ _ (rCatA K) from op_catA) (pe_op (show OpR _ _ (rCatA K) from op_catA) (pe_slice sl_tupA (pv 5) po_none (po_some (pe_op op_add pe_int (pv 3)))) (pe_tup (pa_cons (pe_ix ix_list (pv 7) pe_int (fun _ _ => rfl)) pa_nil))) (pe_slice sl_tupA (pv 5) (po_some (pe_op op_add pe_int (pv 3))) po_none)))))
        pss_nil)
      (pss_one (ps_ret (pv 5))))))))), ?_⟩
    walk_at "rd"
    try unfold tPar
    walk_at "rd"
    refine ⟨b, 4, _, rfl, hB, by omega, by decide, by decide, fun sp H1 p0 p1 e1 B1 => ?_⟩
    walk_at "rd"
    refine ⟨b, 8, _, rfl, B1, by omega, by decide, by decide, fun st H2 ta0 ta1 e2 B2 => ?_⟩
    refine ⟨_, _, rfl, ?_⟩
    walk_at "rd"
    have nl : R.names.length ≤ 10 := by unfold Rw.names; rw [List.length_map, List.length_append]; omega
    refine ⟨b, 13, _, rfl, B2, by omega, by omega, fun ln xs H3 fln e3 B3 kln lxs nxs ixs => ?_⟩
    have e03 : But b H H3 := e1.trans (e2.trans e3)
    have ru3 := ru.but hB e03
    walk_at "rd"
    refine lc_gatherL (SqL.lst kln) (xs.map fun x => if offL R.names x = true then some (V.str x) else none) (by simp) (by rw [List.length_map]; omega) ?_ ?_
    · intro i v ov H' NY NN hv ho s hy hno
      obtain ⟨nm, hnm, rfl⟩ := strs_get hv
      rw [List.getElem?_map, hnm] at ho
      obtain rfl := Option.some.inj ho
      have ru' := ru3.same s
      walk_at "rd"
      refine i_tupI ?_
      walk_at "rd"
      refine i_ixT (SqT.tup ru'.hp) (atI_nat (j := 3) rfl) ?_
      walk_at "rd"
      refine i_ixT (SqT.tup ru'.hp) (atI_nat (j := 4) rfl) ?_
      walk_at "rd"
      refine i_catA ru'.h4 ru'.h6 (by simp [refs]; omega) (fun r1 H5 s5 k5 => ?_)
      have k5 : H5 r1 = some (.tup (refs (R.bs ++ R.ss))) := by rw [k5]; simp [refs]
      walk_at "rd"
      refine lc_gatherT (SqT.tup k5) ((R.bs ++ R.ss).map fun z => some (V.str z.2.n)) (by simp [refs]) (by simp [refs]; omega) ?_ ?_
      · intro j v2 ov2 H6 NY2 NN2 hv2 ho2 s6 hy2 hno2
        obtain ⟨z, hz, rfl⟩ := refs_get hv2
        rw [List.getElem?_map, hz] at ho2
        obtain rfl := Option.some.inj ho2
        have kz := (ru'.same (s5.trans s6)).row z (List.mem_of_getElem? hz)
        walk_at "rd"
        refine i_ixT (SqT.tup kz) (row0 z.2) ?_
        exact hy2 _ _ rfl (Same.refl _)
      intro D6 H6 f6 s6 k6
      rw [names_gath] at k6
      walk_at "rd"
      refine ⟨D6, _, rfl, .inl (SqL.lst k6), rfl, flat_strs _, ?_⟩
      simp only [if_true]
      rw [str_inV]
      walk_at "rd"
      refine ifs (fun hh => ?_) (fun hh => ?_)
      · walk_at "rd"
        exact hy _ _ (if_pos hh) (s5.trans s6)
      · exact hno _ (if_neg (by show ¬ offL R.names nm = true; rw [show offL R.names nm = false from hh]; decide)) (s5.trans s6)
    intro D4 H4 f4 s4 k4
    rw [gath_off] at k4
    obtain ⟨a0, ar, ea, ma⟩ := off_cons (ys := R.names) nxs (by omega)
    rw [ea] at k4
    have B4 := B3.same s4
    have e04 : But b H H4 := e03.trans (Ice.Same.but s4)
    have ru4 := ru3.same s4
    walk_at "rd"
    refine i_ixL (SqL.lst k4) (atI_nat (j := 0) rfl) ?_
    walk_at "rd"
    refine i_ixT (SqT.tup ru4.hp) (atI_nat (j := 1) rfl) ?_
    walk_at "rd"
    refine ⟨R.lp, _, rfl, .inr (SqT.tup ru4.h1), ?_⟩
    (intro pl hpl; generalize epl : upd _ pl _ = J5; have N5 := New.of epl hpl; clear epl hpl)
    have B5 := B4.nw N5
    have plb := B4.off N5
    have e05 := e04.trans N5.but
    have ru5 := ru4.same N5.same
    walk_at "rd"
    refine ⟨b, pl, a0, R.ps, _, rfl, B5, by omega, ⟨plb, N5.at_, o.p1, o.p8, o.pn, o.pi⟩, ixs a0 ma, fun p1 d1 H6 e6 B6 kp1 ok1 dk1 dn1 dp1 dg1 => ?_⟩
    have e06 := e05.trans e6
    have ru6 := ru5.but B5 e6
    have np1 := row_ne B6 kp1
    walk_at "rd"
    refine i_tupI ?_
    walk_at "rd"
    refine i_ixT (SqT.tup ru6.hp) (atI_nat (j := 3) rfl) ?_
    walk_at "rd"
    refine i_ixT (SqT.tup ru6.hp) (atI_nat (j := 4) rfl) ?_
    walk_at "rd"
    refine i_catA ru6.h4 ru6.h6 (by simp [refs]; omega) (fun r1 H7 s7 k7 => ?_)
    have k7 : H7 r1 = some (.tup (refs (R.bs ++ R.ss))) := by rw [k7]; simp [refs]
    walk_at "rd"
    refine lc_gatherT (SqT.tup k7) ((R.bs ++ R.ss).map fun z => some (V.str z.2.n)) (by simp [refs]) (by simp [refs]; omega) ?_ ?_
    · intro j v2 ov2 H6 NY2 NN2 hv2 ho2 s6 hy2 hno2
      obtain ⟨z, hz, rfl⟩ := refs_get hv2
      rw [List.getElem?_map, hz] at ho2
      obtain rfl := Option.some.inj ho2
      have kz := (ru6.same (s7.trans s6)).row z (List.mem_of_getElem? hz)
      walk_at "rd"
      refine i_ixT (SqT.tup kz) (row0 z.2) ?_
      exact hy2 _ _ rfl (Same.refl _)
    intro D8 H8 f8 s8 k8
    rw [names_gath] at k8
    have s68 := s7.trans s8
    have B8 := B6.same s68
    have e08 := e06.trans (Ice.Same.but s68)
    have ru8 := ru6.same s68
    have kp8 := s68 _ _ kp1
    walk_at "rd"
    refine i_cut (fun σ H' => But b H H' ∧ Box H' b (n + 30) ∧ ∃ (p : Addr) (d : Vd) (z4 z6 : Option V), H' p = some (.tup d.row) ∧ d.ok ∧ d.k = .s ∧ σ = [some (.ref b), some (.ref pr), some (.int sp), some (.int st), z4, some (.ref p), z6, none, none, none]) ?_ ?_
    · have end0 : But b H H8 ∧ Box H8 b (n + 30) := ⟨e08, B8.mono (by omega)⟩
      walk_at "rd"
      refine ifs (fun h1 => ?_) (fun h1 => ?_)
      · walk_at "rd"
        (intro em hem; generalize eem : upd _ em _ = J9; have N9 := New.of eem hem; clear eem hem)
        refine ⟨D8, em, _, rfl, rfl, SqL.lst (N9.app k8), SqL.lst N9.at_, ?_⟩
        walk_at "rd"
        refine ifs (fun h2 => ?_) (fun h2 => ?_)
        · have lpos : 0 < R.names.length := by
            cases e : R.names with
            | nil => rw [e] at h2; exact absurd h2 (by decide)
            | cons a r => simp
          walk_at "rd"
          rw [List.length_map]
          have B9 := B8.nw N9
          refine ⟨b, R.names.length, _, rfl, B9, by omega, by omega, by omega, fun ix HA i0 i1 eA BA => ?_⟩
          have D8b : D8 ≠ b := (B6.same s7).ne f8
          obtain ⟨nm, hnm, mnm, _⟩ := pickS (ns := R.names) i0 i1
          refine i_ixL (SqL.lst (eA _ _ D8b (N9.app k8))) hnm ?_
          walk_at "rd"
          (intro t1 ht1; generalize et1 : upd _ t1 _ = JB; have NB := New.of et1 ht1; clear et1 ht1)
          have kpB := NB.app (eA _ _ np1 (N9.app kp8))
          walk_at "rd"
          refine i_slA kpB (fun t2 HC sC kC => ?_)
          rw [rowS dk1] at kC
          have kC : HC t2 = some (.tup [.str d1.p, .str d1.g, .int d1.h, .int d1.s, .int d1.d]) := kC
          walk_at "rd"
          refine i_catA (sC _ _ NB.at_) kC (by show 1 + 5 ≤ _; omega) (fun t3 HD sD kD => ?_)
          walk_at "rd"
          refine ⟨e08.trans (N9.but.trans (eA.trans (NB.but.trans (Ice.Same.but (sC.trans sD))))), ((BA.nw NB).same (sC.trans sD)).mono (by omega), t3, ⟨d1.k, nm, d1.p, d1.g, d1.h, d1.s, d1.d, d1.c⟩, _, _, by rw [rowS (d := ⟨d1.k, nm, d1.p, d1.g, d1.h, d1.s, d1.d, d1.c⟩) dk1]; exact kD, ⟨⟨o.names nm mnm, ok1.five.np, ok1.five.bh, ok1.five.bs, ok1.five.bd⟩, ok1.g, ok1.c⟩, dk1, rfl⟩
        · walk_at "rd"
          exact ⟨e08.trans N9.but, (B8.nw N9).mono (by omega), p1, d1, _, _, N9.app kp8, ok1, dk1, rfl⟩
      · exact ⟨e08, B8.mono (by omega), p1, d1, _, _, kp8, ok1, dk1, rfl⟩
    · rintro σ HE ⟨eE, BE, p, d, z4, z6, kp, ok, dk, rfl⟩
      have ruE := ru.but hB eE
      rw [rowS dk] at kp
      walk_at "rd"
      refine ifs (fun h1 => ?_) (fun h1 => ?_)
      · have h1 : st < 2 := of_decide_eq_true h1
        have npE := row_ne BE kp
        walk_at "rd"
        refine ⟨b, 13, _, rfl, BE, by omega, by omega, fun lm ys HF flm eF BF klm lys nys iys => ?_⟩
        have eF0 : But b H HF := eE.trans eF
        have ruF := ru.but hB eF0
        have kpF := eF _ _ npE kp
        have p8 := o.p8
        walk_at "rd"
        refine lc_gatherL (SqL.lst klm) (ys.map fun x => if offL R.ps x = true then some (V.str x) else none) (by simp) (by rw [List.length_map]; omega) ?_ ?_
        · intro i v ov H' NY NN hv ho s hy hno
          obtain ⟨nm, hnm, rfl⟩ := strs_get hv
          rw [List.getElem?_map, hnm] at ho
          obtain rfl := Option.some.inj ho
          have ru' := ruF.same s
          walk_at "rd"
          refine i_ixT (SqT.tup ru'.hp) (atI_nat (j := 1) rfl) ?_
          refine ⟨R.lp, _, rfl, .inr (SqT.tup ru'.h1), rfl, flat_strs _, ?_⟩
          simp only [if_true]
          rw [str_inV]
          walk_at "rd"
          refine ifs (fun hh => ?_) (fun hh => ?_)
          · walk_at "rd"
            exact hy _ _ (if_pos hh) (Same.refl _)
          · exact hno _ (if_neg (by show ¬ offL R.ps nm = true; rw [show offL R.ps nm = false from hh]; decide)) (Same.refl _)
        intro DG HG fG sG kG
        rw [gath_off] at kG
        obtain ⟨a1, ar1, ea1, ma1⟩ := off_cons (ys := R.ps) nys (by omega)
        rw [ea1] at kG
        have kpG := sG _ _ kpF
        have BG := BF.same sG
        have eG0 := eF0.trans (Ice.Same.but sG)
        have ia1 := iys a1 ma1
        walk_at "rd"
        refine i_slA kpG (fun t1 HH sH kH => ?_)
        walk_at "rd"
        refine i_ixL (SqL.lst (sH _ _ kG)) (atI_nat (j := 0) rfl) ?_
        walk_at "rd"
        (intro t2 ht2; generalize et2 : upd _ t2 _ = HI; have NI := New.of et2 ht2; clear et2 ht2)
        rcases (show st = 0 ∨ st = 1 by omega) with rfl | rfl
        · have kH : HH t1 = some (.tup [.str d.n]) := kH
          refine i_catA (NI.app kH) NI.at_ (by show 1 + 1 ≤ _; omega) (fun t3 HJ sJ kJ => ?_)
          walk_at "rd"
          refine i_slA (sJ _ _ (NI.app (sH _ _ kpG))) (fun t4 HK sK kK => ?_)
          have kK : HK t4 = some (.tup [.str d.g, .int d.h, .int d.s, .int d.d]) := kK
          walk_at "rd"
          refine i_catA (sK _ _ kJ) kK (by show 2 + 4 ≤ _; omega) (fun t5 HL sL kL => ?_)
          walk_at "rd"
          have sGL : Same HG HL := sH.trans (NI.same.trans (sJ.trans (sK.trans sL)))
          exact q t5 ⟨d.k, d.n, a1, d.g, d.h, d.s, d.d, d.c⟩ HL (eG0.trans (Ice.Same.but sGL)) ((BG.same sGL).mono (by omega)) (by rw [rowS (d := ⟨d.k, d.n, a1, d.g, d.h, d.s, d.d, d.c⟩) dk]; exact kL) ⟨⟨ok.five.nn, ia1, ok.five.bh, ok.five.bs, ok.five.bd⟩, ok.g, ok.c⟩ dk
        · have kH : HH t1 = some (.tup [.str d.n, .str d.p]) := kH
          refine i_catA (NI.app kH) NI.at_ (by show 2 + 1 ≤ _; omega) (fun t3 HJ sJ kJ => ?_)
          walk_at "rd"
          refine i_slA (sJ _ _ (NI.app (sH _ _ kpG))) (fun t4 HK sK kK => ?_)
          have kK : HK t4 = some (.tup [.int d.h, .int d.s, .int d.d]) := kK
          walk_at "rd"
          refine i_catA (sK _ _ kJ) kK (by show 3 + 3 ≤ _; omega) (fun t5 HL sL kL => ?_)
          walk_at "rd"
          have sGL : Same HG HL := sH.trans (NI.same.trans (sJ.trans (sK.trans sL)))
          exact q t5 ⟨d.k, d.n, d.p, a1, d.h, d.s, d.d, d.c⟩ HL (eG0.trans (Ice.Same.but sGL)) ((BG.same sGL).mono (by omega)) (by rw [rowS (d := ⟨d.k, d.n, d.p, a1, d.h, d.s, d.d, d.c⟩) dk]; exact kL) ⟨⟨ok.five.nn, ok.five.np, ok.five.bh, ok.five.bs, ok.five.bd⟩, ia1, ok.c⟩ dk
      · walk_at "rd"
        exact q p d HE eE (BE.mono (by omega)) (by rw [rowS dk]; exact kp) ok dk
end

end Ice

set_option Elab.async false
set_option linter.all false
set_option maxRecDepth 100000
set_option maxHeartbeats 4000000
set_option autoImplicit true
namespace Ice
open PySem PySem.Spec PyProof.Rows L2 TL
/-! side conditions, heaps, one step of a reading, and many -/
local macro_rules | `(tactic| walk_at "hp") => `(tactic| first | assumption | exact upd_same | exact New.at_ (by assumption) | (refine keepU ?_ (by assumption); walk_at "hp") | (refine New.app (by assumption) ?_; walk_at "hp") | (refine Same.app (by assumption) ?_; walk_at "hp") | (refine But.app (by assumption) (by assumption) ?_; walk_at "hp"))
local macro_rules | `(tactic| walk_at "sq") => `(tactic| first | assumption | exact SqL.lst (by walk_at "hp") | exact L2.Same.seq (New.same (by assumption)) (by assumption) | exact L2.Same.seq (by assumption) (by assumption))
local macro_rules | `(tactic| walk_at "len") => `(tactic| first | assumption | (simp only [List.length_cons, List.length_nil, List.length_append, List.length_map]; decide) | (refine Ice.sz_of ?_; simp only [List.length_cons, List.length_nil, List.length_append, List.length_map]; omega))
local macro_rules | `(tactic| walk_at "fresh") => `(tactic| (simp only [List.map_append, List.map_cons, List.map_nil, List.nil_append, List.cons_append]; decide +kernel))
local macro_rules | `(tactic| walk_at "sd") => `(tactic| first | assumption | (show _ ≠ _; omega) | exact Or.inl ⟨by omega, by omega⟩ | exact Or.inr ⟨by omega, by omega⟩ | exact ⟨by decide, by decide⟩ | exact ⟨by decide, by decide, by decide⟩ | exact ⟨by omega, by omega, by omega⟩)
/-! one step of a reading, and many -/
local macro_rules | `(tactic| walk_at "st") => `(tactic| first
  | with_reducible refine i_seq ?_
  | with_reducible refine i_if ?_
  | with_reducible refine i_next ?_
  | with_reducible refine i_ret ?_
  | with_reducible refine i_retN ?_
  | with_reducible refine i_drop ?_
  | with_reducible refine i_asg ?_
  | with_reducible refine i_gname ?_
  | with_reducible refine i_gsub ?_
  | ((with_reducible refine i_var (v := ?vv) ?hv ?_); (case hv => exact rfl))
  | with_reducible refine i_c ?_
  | with_reducible refine i_op ?_
  | with_reducible refine i_un ?_
  | with_reducible refine i_test ?_
  | with_reducible refine i_tB ?_
  | with_reducible refine i_and ?_
  | with_reducible refine i_or ?_
  | with_reducible refine i_not ?_
  | with_reducible refine i_andV ?_
  | with_reducible refine i_orV ?_
  | with_reducible refine i_notV ?_
  | with_reducible refine i_ifE ?_
  | with_reducible refine i_chain ?_
  | with_reducible refine i_bl ?_
  | with_reducible refine i_nil ?_
  | with_reducible refine i_cons ?_
  | with_reducible refine i_call ?_
  | with_reducible refine i_cb ?_
  | with_reducible refine i_rI0 ?_
  | with_reducible refine i_rU ?_
  | ((with_reducible refine i_rEq ?hs ?_); (case hs => exact rfl))
  | ((with_reducible refine i_rNe ?hs ?_); (case hs => exact rfl))
  | ((with_reducible refine i_rI ?hc ?_); (case hc => walk_at "sd"))
  | ((with_reducible refine i_ixL (xs := ?xs) (v := ?vv) ?hS ?he ?_); (case hS => walk_at "sq"); (case he => exact rfl))
  | ((with_reducible refine i_setL (xs := ?xs) (j := ?jj) ?hS ?he ?_); (case hS => walk_at "hp"); (case he => exact rfl))
  | with_reducible refine i_tup ?_
  | with_reducible refine i_lst ?_
  | with_reducible refine i_bm ?_
  | with_reducible refine i_bm0 ?_
  | with_reducible refine i_m1 ?_
  | with_reducible refine i_sl ?_
  | with_reducible refine i_nopart ?_
  | with_reducible refine i_part ?_
  | with_reducible refine i_int ?_
  | with_reducible refine i_str ?_
  | with_reducible refine i_for ?_
  | with_reducible refine i_yes ?_
  | ((with_reducible refine i_lenL (xs := ?xs) ?hS ?_); (case hS => walk_at "sq"))
  | ((with_reducible refine i_room ?hz ?_); (case hz => walk_at "len"))
  | with_reducible refine i_leT ?_
  | with_reducible refine i_notInS ?_
  | with_reducible refine i_inS ?_
  | with_reducible refine i_find ?_
  | with_reducible refine i_isB ?_
  | with_reducible refine i_max2 ?_
  | with_reducible refine i_min2 ?_
  | with_reducible exact trivial
  | with_reducible refine iteT ?_
  | with_reducible refine iteF ?_
  | with_reducible refine i_isstr ?_
  | with_reducible refine i_lc ?_
  | ((with_reducible refine i_cat (xs := ?xs) (zs := ?zs) ?ha ?hb ?hz ?_); (case ha => walk_at "hp"); (case hb => walk_at "hp"); (case hz => walk_at "len"))
  | ((with_reducible refine i_tyL (xs := ?xs) ?ha ?_); (case ha => walk_at "hp"))
  | with_reducible refine i_list ?_
  | with_reducible refine i_disp ?_
  | with_reducible refine i_pairs0 ?_
  | with_reducible refine i_pairs ?_
  | with_reducible refine i_newK ?_
  | with_reducible refine i_gcons ?_
  | with_reducible refine i_gnil ?_
  | with_reducible refine i_revL ?_
  | with_reducible refine i_rng1 ?_
  | ((with_reducible refine i_wipe ?hw ?_); (case hw => exact rfl))
  | with_reducible refine iteNT ?_
  | with_reducible refine iteNF ?_)
local macro_rules | `(tactic| walk_at "sx") => `(tactic| first
  | walk_at "st"
  | with_reducible refine i_kinit ?_
  | with_reducible refine i_ost ?_
  | with_reducible refine i_mkO ?_
  | with_reducible refine i_callE ?_
  | with_reducible refine i_makeE ?_
  | with_reducible refine i_xf ?_
  | with_reducible refine i_sfld ?_
  | with_reducible refine i_fld ?_
  | ((with_reducible refine i_ixT (xs := ?xs) (v := ?vv) ?hS ?he ?_); (case hS => exact SqT.tup (by walk_at "hp")); (case he => exact rfl))
  | with_reducible refine i_intB ?_
  | with_reducible refine i_runS ?_
  | with_reducible refine i_runN ?_
  | ((with_reducible refine i_xf1 (fs := ?ff) (v := ?vv) ?hx ?hl ?_); (case hx => walk_at "hp"); (case hl => exact rfl))
  | with_reducible refine i_methE ?_
  | with_reducible refine i_meth ?_
  | with_reducible refine i_make ?_
  | ((with_reducible refine i_obj (dx := ?dd) (fs := ?ff) ?hx ?hl ?_); (case hx => walk_at "hp"); (case hl => exact rfl))
  | ((with_reducible refine i_fld1 (C := ?CC) (dx := ?dd) (fs := ?ff) (v := ?vv) ?hx ?cl ?na ?hl ?_); (case hx => walk_at "hp"); (case cl => assumption); (case na => assumption); (case hl => exact rfl)))
local macro_rules | `(tactic| walk_at "sy") => `(tactic| first
  | walk_at "sx"
  | with_reducible refine i_dget ?_
  | with_reducible refine i_dget2 ?_
  | with_reducible refine i_dput ?_
  | with_reducible refine i_din ?_
  | ((with_reducible refine i_aug (x := ?vv) ?hx ?_); (case hx => exact rfl)))
local macro_rules | `(tactic| walk_at "rd") => `(tactic| repeat (walk_at "sy"))

section
variable {P : Program} {w : World} {K : PySem.W.Frag} {mg : Str → Option Value} {base : Heap}
def OwnC (T : Top K mg) (C : Addr) : Prop := C = T.a_Channel ∨ C = T.a_Breaker ∨ C = T.a_Ship
theorem own_sub (T : Top K mg) {C D : Addr} (hC : OwnC T C) (hD : OwnC T D) : C = D ∨ PySem.W.mroIn K D (.ref C) = some false := by
  rcases hC with rfl | rfl | rfl <;> rcases hD with rfl | rfl | rfl
  · exact .inl rfl
  · exact .inr (sub_of_kit T.io_Breaker_Channel)
  · exact .inr (sub_of_kit T.io_Ship_Channel)
  · exact .inr (sub_of_kit T.io_Channel_Breaker)
  · exact .inl rfl
  · exact .inr (sub_of_kit T.io_Ship_Breaker)
  · exact .inr (sub_of_kit T.io_Channel_Ship)
  · exact .inr (sub_of_kit T.io_Breaker_Ship)
  · exact .inl rfl
def OwnT (T : Top K mg) (H : Hp) (v : V) : Prop := ∃ a C, v = .ref a ∧ InsE K H a C ∧ OwnC T C
theorem OwnT.same {T : Top K mg} {H H' : Hp} {v : V} (e : Same H H') (o : OwnT T H v) : OwnT T H' v := by
  obtain ⟨a, C, rfl, i, c⟩ := o
  exact ⟨a, C, rfl, i.same e, c⟩
theorem ChT.own {T : Top K mg} {H : Hp} {x : Addr} {c : Cd} (h : ChT T H x c) : OwnT T H (.ref x) := by
  obtain ⟨_, dx, k⟩ := h
  exact ⟨x, _, rfl, ⟨⟨dx, _, k⟩, T.mo_Channel, T.eq_Channel⟩, .inl rfl⟩
theorem ves_own {T : Top K mg} {H : Hp} {x : Addr} {d : Vd} (h : VesT T H x d) (hk : d.k = .b ∨ d.k = .s) : OwnT T H (.ref x) := by
  obtain ⟨_, dx, k⟩ := h
  rcases hk with hk | hk
  · rw [hk] at k; exact ⟨x, _, rfl, ⟨⟨dx, _, k⟩, T.mo_Breaker, T.eq_Breaker⟩, .inr (.inl rfl)⟩
  · rw [hk] at k; exact ⟨x, _, rfl, ⟨⟨dx, _, k⟩, T.mo_Ship, T.eq_Ship⟩, .inr (.inr rfl)⟩
theorem own_ni {T : Top K mg} {H : Hp} {p : Addr} {v : V} {xs : List V} {Q : VK} (hp : H p = some (.lst xs)) (hv : v ∈ xs) (ho : ∀ u ∈ xs, OwnT T H u) (q : Q (.bl false) H) : rNiI K v (.ref p) H Q := by
  obtain ⟨a, D, rfl, ia, cD⟩ := ho v hv
  refine ⟨a, p, D, xs, rfl, rfl, SqL.lst hp, ia, hv, fun u hu => ?_, q⟩
  obtain ⟨b, C, rfl, ib, cC⟩ := ho u hu
  exact ⟨b, C, rfl, ib, own_sub T cC cD⟩
theorem WIs.ownC {T : Top K mg} {H : Hp} {x : Addr} {R : Rw} {CS : List (Addr × Cd)} {BS SS : VL} (a : WIs T H x R CS BS SS) : ∀ u ∈ (chM CS).map Mk.v, OwnT T H u := fun u hu => by
  unfold chM at hu
  rw [List.map_map] at hu
  obtain ⟨z, hz, rfl⟩ := List.mem_map.mp hu
  exact (a.ci z hz).1.own
theorem WIs.ownV {T : Top K mg} {H : Hp} {x : Addr} {R : Rw} {CS : List (Addr × Cd)} {BS SS : VL} (a : WIs T H x R CS BS SS) : ∀ u ∈ (vsM BS ++ vsM SS).map Mk.v, OwnT T H u := fun u hu => by
  rw [show vsM BS ++ vsM SS = vsM (BS ++ SS) by unfold vsM; rw [List.map_append]] at hu
  unfold vsM at hu
  rw [List.map_map] at hu
  obtain ⟨z, hz, rfl⟩ := List.mem_map.mp hu
  rcases List.mem_append.mp hz with h | h
  · exact ves_own (a.bi z h).1 (.inl (a.bi z h).2.2.1)
  · exact ves_own (a.si z h).1 (.inr (a.si z h).2.2.1)
def spSameT (T : Top K mg) : Sp := fun vs H Q _ => ∃ (x y : Addr) (R R2 : Rw) (CS C2 : List (Addr × Cd)) (BS SS B2 S2 : VL), vs = [.ref x, .ref y] ∧ WIs T H x R CS BS SS ∧ WIs T H y R2 C2 B2 S2 ∧ (∀ z ∈ CS, z ∈ C2) ∧ (∀ z ∈ BS ++ SS, z ∈ B2 ++ S2) ∧ ∀ H', Same H H' → Q (.bl true) H'
theorem ok_same_things (T : Top K mg) : FnG P w K mg base CX0 2 T.a_same_things T.d_same_things ["_law_one", "_law_other"] (spSameT T) := by
  have G_World_channels := ok_World_channels (P := P) (w := w) (base := base) T
  have G_World_vessels := ok_World_vessels (P := P) (w := w) (base := base) T
  refine okG T.F_same_things sc_same_things (fun vs H Q E h => ?_) (fun cdv A outer s H vs Q E hr hgd h => ?_)
  · obtain ⟨x, y, R, R2, CS, C2, BS, SS, B2, S2, rfl, _⟩ := h
    rfl
  · obtain ⟨x, y, R, R2, CS, C2, BS, SS, B2, S2, rfl, wx, wy, hc, hv, q⟩ := h
    have hu : _ := un1' hr
    have hu64 : _ := un64' hr
    have zz : (100 : Nat) ≤ sizeLine := sz_of (by decide)
    obtain ⟨lC, lB, lS⟩ := wx.l1
    refine ⟨_, (pss_cons (ps_for PassesOwn.never rfl (pi_list (pe_lst (pa_cons (pe_tup (pa_cons (g_meth0 (pv 0) T.cl_World T.me_World_channels G_World_channels (hr.mono (by decide)) hgd T.b_World_channels .nil pass0) (pa_cons (g_meth0 (pv 1) T.cl_World T.me_World_channels G_World_channels (hr.mono (by decide)) hgd T.b_World_channels .nil pass0) pa_nil))) (pa_cons (pe_tup (pa_cons (g_meth0 (pv 0) T.cl_World T.me_World_vessels G_World_vessels (hr.mono (by decide)) hgd T.b_World_vessels .nil pass0) (pa_cons (g_meth0 (pv 1) T.cl_World T.me_World_vessels G_World_vessels (hr.mono (by decide)) hgd T.b_World_vessels .nil pass0) pa_nil))) pa_nil)))) (pg_tup rfl (pgs_cons (pg_name (i := 2) sc_same_things.nd rfl (by first | exact Or.inl rfl | exact Or.inr rfl)) (pgs_cons (pg_name (i := 3) sc_same_things.nd rfl (by first | exact Or.inl rfl | exact Or.inr rfl)) pgs_nil)))
        (pss_one (ps_if (pt_cmpR (op_neNil hu64) (pe_lc (own := [("_law_thing", 4)]) (g := gName 4) rfl sc_same_things.nd (pi_list (pv 2)) (blkOk_by (own := [("_law_thing", 4)]) (N := ["_law_one", "_law_other", "_law_some", "_law_more", "_law_thing"]) (sc := defScope s_same_things) (by decide +kernel)) (fun _ _ _ _ _ => (pg_name (i := 4) sc_same_things.nd rfl (by first | exact Or.inl rfl | exact Or.inr rfl))) (fun _ _ _ _ _ => (pts_one (pt_cmpR (show OpR _ (compareOp .NotIn) (rNiI K) from op_niI hu64) (pv 4) (pv 3) (by rfl)))) (fun _ _ _ _ _ => (pv 4))) (pe_lst pa_nil) (nomark _))
        (pss_one (ps_ret pe_bl))
        pss_nil)))
      (pss_one (ps_ret pe_bl))), ?_⟩
    walk_at "rd"
    refine w_obj wx.w (fun _ _ _ _ _ _ _ => rfl) ?_
    walk_at "rd"
    refine ⟨x, _, _, _, _, _, rfl, wx.w, wx.l1000, fun l1 H1 s1 f1 k1 => ?_⟩
    walk_at "rd"
    have y1 := wy.same s1
    refine w_obj y1.w (fun _ _ _ _ _ _ _ => rfl) ?_
    walk_at "rd"
    refine ⟨y, _, _, _, _, _, rfl, y1.w, y1.l1000, fun l2 H2 s2 f2 k2 => ?_⟩
    walk_at "rd"
    (intro t1 ht1; generalize et1 : upd _ t1 _ = J3; have N3 := New.of et1 ht1; clear et1 ht1)
    have s03 := s1.trans (s2.trans N3.same)
    have x3 := wx.same s03
    walk_at "rd"
    refine w_obj x3.w (fun _ _ _ _ _ _ _ => rfl) ?_
    walk_at "rd"
    refine ⟨x, _, _, _, _, _, rfl, x3.w, x3.l1000, fun l3 H4 s4 f4 k4 => ?_⟩
    walk_at "rd"
    have y4 := wy.same (s03.trans s4)
    refine w_obj y4.w (fun _ _ _ _ _ _ _ => rfl) ?_
    walk_at "rd"
    refine ⟨y, _, _, _, _, _, rfl, y4.w, y4.l1000, fun l4 H5 s5 f5 k5 => ?_⟩
    walk_at "rd"
    (intro t2 ht2; generalize et2 : upd _ t2 _ = J6; have N6 := New.of et2 ht2; clear et2 ht2)
    walk_at "rd"
    (intro ll hll; generalize ell : upd _ ll _ = J7; have N7 := New.of ell hll; clear ell hll)
    have s67 := N7.same
    have s57 : Same H5 J7 := N6.same.trans s67
    have s47 : Same H4 J7 := s5.trans s57
    have s37 : Same J3 J7 := s4.trans s47
    have s07 := s03.trans s37
    have x7 := wx.same s07
    have y7 := wy.same s07
    have kk1 := s37 _ _ (N3.app (s2 _ _ k1))
    have kk2 := s37 _ _ (N3.app k2)
    have kk3 := s47 _ _ k4
    have kk4 := s57 _ _ k5
    have kt1 := s37 _ _ N3.at_
    have kt2 := s67 _ _ N6.at_
    have each : ∀ (i : Nat) (v : V), [V.ref t1, V.ref t2][i]? = some v → ∃ (t la lb : Addr) (xs ys : List V), v = .ref t ∧ J7 t = some (.tup [.ref la, .ref lb]) ∧ J7 la = some (.lst xs) ∧ J7 lb = some (.lst ys) ∧ xs.length ≤ 20 ∧ (∀ u ∈ xs, u ∈ ys) ∧ ∀ u ∈ ys, OwnT T J7 u := by
      intro i v hv'
      rcases i with _ | _ | i
      · cases hv'
        refine ⟨t1, l1, l2, _, _, rfl, kt1, kk1, kk2, by unfold chM; rw [List.length_map, List.length_map]; omega, fun u hu => ?_, y7.ownC⟩
        unfold chM at hu ⊢
        rw [List.map_map] at hu ⊢
        obtain ⟨z, hz, rfl⟩ := List.mem_map.mp hu
        exact List.mem_map.mpr ⟨z, hc z hz, rfl⟩
      · cases hv'
        refine ⟨t2, l3, l4, _, _, rfl, kt2, kk3, kk4, by unfold vsM; rw [List.length_map, List.length_append, List.length_map, List.length_map]; omega, fun u hu => ?_, y7.ownV⟩
        replace hu : u ∈ (vsM BS ++ vsM SS).map Mk.v := hu
        show u ∈ (vsM B2 ++ vsM S2).map Mk.v
        rw [show vsM BS ++ vsM SS = vsM (BS ++ SS) by unfold vsM; rw [List.map_append]] at hu
        rw [show vsM B2 ++ vsM S2 = vsM (B2 ++ S2) by unfold vsM; rw [List.map_append]]
        unfold vsM at hu ⊢
        rw [List.map_map] at hu ⊢
        obtain ⟨z, hz, rfl⟩ := List.mem_map.mp hu
        exact List.mem_map.mpr ⟨z, hv z hz, rfl⟩
      · cases hv'
    refine ⟨ll, rfl, ⟨_, SqL.lst N7.at_⟩, ?_⟩
    refine for_list (K := K) (a := ll) (xs := [V.ref t1, V.ref t2]) (fun i σ H' => Same J7 H' ∧ ∃ z1 z2 z3, σ = [some (.ref x), some (.ref y), z1, z2, z3])
      ⟨Same.refl _, _, _, _, rfl⟩ (fun i σ H' _ h => SqL.lst (h.1 _ _ N7.at_)) ?_ ?_
    · rintro i v σ H8 hx ⟨s8, z1, z2, z3, rfl⟩
      obtain ⟨t, la, lb, xs, ys, rfl, kt, ka, kb, lx, hsub, hown⟩ := each i v hx
      refine i_gtup (SqT.tup (s8 _ _ kt)) rfl ?_
      walk_at "rd"
      refine lc_gatherL (SqL.lst (s8 _ _ ka)) (xs.map fun _ => none) (by simp) (by omega) ?_ ?_
      · intro j u ou H9 NY NN hu' ho s9 hy hno
        rw [List.getElem?_map, hu'] at ho
        obtain rfl := Option.some.inj ho
        walk_at "rd"
        refine own_ni (T := T) (s9 _ _ (s8 _ _ kb)) (hsub u (List.mem_of_getElem? hu')) (fun w hw => (hown w hw).same (s8.trans s9)) ?_
        walk_at "rd"
        exact hno _ rfl (Same.refl _)
      intro D H9 f9 s9 k9
      rw [show gath (xs.map fun _ => none) = [] by
        unfold gath; rw [List.filterMap_map]; exact List.filterMap_eq_nil_iff.mpr fun _ _ => rfl] at k9
      walk_at "rd"
      (intro em hem; generalize eem : upd _ em _ = JA; have NA := New.of eem hem; clear eem hem)
      refine ⟨D, em, _, rfl, rfl, SqL.lst (NA.app k9), SqL.lst NA.at_, ?_⟩
      walk_at "rd"
      exact ⟨s8.trans (s9.trans NA.same), _, _, _, rfl⟩
    · rintro σ H8 ⟨s8, z1, z2, z3, rfl⟩
      walk_at "rd"
      exact q _ (s07.trans s8)
end

end Ice

set_option Elab.async false
set_option linter.all false
set_option maxRecDepth 100000
set_option maxHeartbeats 4000000
set_option autoImplicit true
namespace Ice
open PySem PySem.Spec PyProof.Rows L2 TL
/-! side conditions, heaps, one step of a reading, and many -/
local macro_rules | `(tactic| walk_at "hp") => `(tactic| first | assumption | exact upd_same | exact New.at_ (by assumption) | (refine keepU ?_ (by assumption); walk_at "hp") | (refine New.app (by assumption) ?_; walk_at "hp") | (refine Same.app (by assumption) ?_; walk_at "hp") | (refine But.app (by assumption) (by assumption) ?_; walk_at "hp"))
local macro_rules | `(tactic| walk_at "sq") => `(tactic| first | assumption | exact SqL.lst (by walk_at "hp") | exact L2.Same.seq (New.same (by assumption)) (by assumption) | exact L2.Same.seq (by assumption) (by assumption))
local macro_rules | `(tactic| walk_at "len") => `(tactic| first | assumption | (simp only [List.length_cons, List.length_nil, List.length_append, List.length_map]; decide) | (refine Ice.sz_of ?_; simp only [List.length_cons, List.length_nil, List.length_append, List.length_map]; omega))
local macro_rules | `(tactic| walk_at "fresh") => `(tactic| (simp only [List.map_append, List.map_cons, List.map_nil, List.nil_append, List.cons_append]; decide +kernel))
local macro_rules | `(tactic| walk_at "sd") => `(tactic| first | assumption | (show _ ≠ _; omega) | exact Or.inl ⟨by omega, by omega⟩ | exact Or.inr ⟨by omega, by omega⟩ | exact ⟨by decide, by decide⟩ | exact ⟨by decide, by decide, by decide⟩ | exact ⟨by omega, by omega, by omega⟩)
/-! one step of a reading, and many -/
local macro_rules | `(tactic| walk_at "st") => `(tactic| first
  | with_reducible refine i_seq ?_
  | with_reducible refine i_if ?_
  | with_reducible refine i_next ?_
  | with_reducible refine i_ret ?_
  | with_reducible refine i_retN ?_
  | with_reducible refine i_drop ?_
  | with_reducible refine i_asg ?_
  | with_reducible refine i_gname ?_
  | with_reducible refine i_gsub ?_
  | ((with_reducible refine i_var (v := ?vv) ?hv ?_); (case hv => exact rfl))
  | with_reducible refine i_c ?_
  | with_reducible refine i_op ?_
  | with_reducible refine i_un ?_
  | with_reducible refine i_test ?_
  | with_reducible refine i_tB ?_
  | with_reducible refine i_and ?_
  | with_reducible refine i_or ?_
  | with_reducible refine i_not ?_
  | with_reducible refine i_andV ?_
  | with_reducible refine i_orV ?_
  | with_reducible refine i_notV ?_
  | with_reducible refine i_ifE ?_
  | with_reducible refine i_chain ?_
  | with_reducible refine i_bl ?_
  | with_reducible refine i_nil ?_
  | with_reducible refine i_cons ?_
  | with_reducible refine i_call ?_
  | with_reducible refine i_cb ?_
  | with_reducible refine i_rI0 ?_
  | with_reducible refine i_rU ?_
  | ((with_reducible refine i_rEq ?hs ?_); (case hs => exact rfl))
  | ((with_reducible refine i_rNe ?hs ?_); (case hs => exact rfl))
  | ((with_reducible refine i_rI ?hc ?_); (case hc => walk_at "sd"))
  | ((with_reducible refine i_ixL (xs := ?xs) (v := ?vv) ?hS ?he ?_); (case hS => walk_at "sq"); (case he => exact rfl))
  | ((with_reducible refine i_setL (xs := ?xs) (j := ?jj) ?hS ?he ?_); (case hS => walk_at "hp"); (case he => exact rfl))
  | with_reducible refine i_tup ?_
  | with_reducible refine i_lst ?_
  | with_reducible refine i_bm ?_
  | with_reducible refine i_bm0 ?_
  | with_reducible refine i_m1 ?_
  | with_reducible refine i_sl ?_
  | with_reducible refine i_nopart ?_
  | with_reducible refine i_part ?_
  | with_reducible refine i_int ?_
  | with_reducible refine i_str ?_
  | with_reducible refine i_for ?_
  | with_reducible refine i_yes ?_
  | ((with_reducible refine i_lenL (xs := ?xs) ?hS ?_); (case hS => walk_at "sq"))
  | ((with_reducible refine i_room ?hz ?_); (case hz => walk_at "len"))
  | with_reducible refine i_leT ?_
  | with_reducible refine i_notInS ?_
  | with_reducible refine i_inS ?_
  | with_reducible refine i_find ?_
  | with_reducible refine i_isB ?_
  | with_reducible refine i_max2 ?_
  | with_reducible refine i_min2 ?_
  | with_reducible exact trivial
  | with_reducible refine iteT ?_
  | with_reducible refine iteF ?_
  | with_reducible refine i_isstr ?_
  | with_reducible refine i_lc ?_
  | ((with_reducible refine i_cat (xs := ?xs) (zs := ?zs) ?ha ?hb ?hz ?_); (case ha => walk_at "hp"); (case hb => walk_at "hp"); (case hz => walk_at "len"))
  | ((with_reducible refine i_tyL (xs := ?xs) ?ha ?_); (case ha => walk_at "hp"))
  | with_reducible refine i_list ?_
  | with_reducible refine i_disp ?_
  | with_reducible refine i_pairs0 ?_
  | with_reducible refine i_pairs ?_
  | with_reducible refine i_newK ?_
  | with_reducible refine i_gcons ?_
  | with_reducible refine i_gnil ?_
  | with_reducible refine i_revL ?_
  | with_reducible refine i_rng1 ?_
  | ((with_reducible refine i_wipe ?hw ?_); (case hw => exact rfl))
  | with_reducible refine iteNT ?_
  | with_reducible refine iteNF ?_)
local macro_rules | `(tactic| walk_at "sx") => `(tactic| first
  | walk_at "st"
  | with_reducible refine i_kinit ?_
  | with_reducible refine i_ost ?_
  | with_reducible refine i_mkO ?_
  | with_reducible refine i_callE ?_
  | with_reducible refine i_makeE ?_
  | with_reducible refine i_xf ?_
  | with_reducible refine i_sfld ?_
  | with_reducible refine i_fld ?_
  | ((with_reducible refine i_ixT (xs := ?xs) (v := ?vv) ?hS ?he ?_); (case hS => exact SqT.tup (by walk_at "hp")); (case he => exact rfl))
  | with_reducible refine i_intB ?_
  | with_reducible refine i_runS ?_
  | with_reducible refine i_runN ?_
  | ((with_reducible refine i_xf1 (fs := ?ff) (v := ?vv) ?hx ?hl ?_); (case hx => walk_at "hp"); (case hl => exact rfl))
  | with_reducible refine i_methE ?_
  | with_reducible refine i_meth ?_
  | with_reducible refine i_make ?_
  | ((with_reducible refine i_obj (dx := ?dd) (fs := ?ff) ?hx ?hl ?_); (case hx => walk_at "hp"); (case hl => exact rfl))
  | ((with_reducible refine i_fld1 (C := ?CC) (dx := ?dd) (fs := ?ff) (v := ?vv) ?hx ?cl ?na ?hl ?_); (case hx => walk_at "hp"); (case cl => assumption); (case na => assumption); (case hl => exact rfl)))
local macro_rules | `(tactic| walk_at "sy") => `(tactic| first
  | walk_at "sx"
  | with_reducible refine i_dget ?_
  | with_reducible refine i_dget2 ?_
  | with_reducible refine i_dput ?_
  | with_reducible refine i_din ?_
  | ((with_reducible refine i_aug (x := ?vv) ?hx ?_); (case hx => exact rfl)))
local macro_rules | `(tactic| walk_at "rd") => `(tactic| repeat (walk_at "sy"))

section
variable {P : Program} {w : World} {K : PySem.W.Frag} {mg : Str → Option Value} {base : Heap}
theorem off_b {H : Hp} {b y : Addr} {n : Nat} {o : HO} (B : Box H b n) (h : H y = some o) (nl : ∀ xs, o ≠ .lst xs) : y ≠ b := by
  obtain ⟨_, _, _, k, _⟩ := B.ex
  exact ne_of h k (nl _)
theorem ChT.but {T : Top K mg} {H H' : Hp} {b x : Addr} {n : Nat} {c : Cd} (B : Box H b n) (e : But b H H') (h : ChT T H x c) : ChT T H' x c := by
  obtain ⟨o, dx, k⟩ := h
  exact ⟨o, dx, e _ _ (off_b B k (fun _ z => by cases z)) k⟩
theorem ves_but {T : Top K mg} {H H' : Hp} {b x : Addr} {n : Nat} {d : Vd} (B : Box H b n) (e : But b H H') (h : VesT T H x d) : VesT T H' x d := by
  obtain ⟨o, dx, k⟩ := h
  exact ⟨o, dx, e _ _ (off_b B k (fun _ z => by cases z)) k⟩
theorem WIs.but {T : Top K mg} {H H' : Hp} {b x : Addr} {n : Nat} {R : Rw} {CS : List (Addr × Cd)} {BS SS : VL} (a : WIs T H x R CS BS SS) (B : Box H b n) (e : But b H H') : WIs T H' x R CS BS SS := by
  obtain ⟨⟨dx, ap, ac, ab, as_, ad, av, wf⟩, m, o⟩ := a
  exact ⟨⟨dx, ap, ac, ab, as_, ad, av, e _ _ (off_b B wf.hx (fun _ z => by cases z)) wf.hx, e _ _ (off_b B wf.hp (fun _ z => by cases z)) wf.hp, e _ _ (off_b B wf.hc (fun _ z => by cases z)) wf.hc, e _ _ (off_b B wf.hb (fun _ z => by cases z)) wf.hb, e _ _ (off_b B wf.hs (fun _ z => by cases z)) wf.hs, e _ _ (off_b B wf.hd (fun _ z => by cases z)) wf.hd, e _ _ (off_b B wf.hv (fun _ z => by cases z)) wf.hv⟩,
    ⟨m.ec, m.eb, m.es, fun z hz => (m.hc z hz).but B e, fun z hz => ves_but B e (m.hb z hz), fun z hz => ves_but B e (m.hs z hz)⟩, o⟩
theorem WIs.toldQ {T : Top K mg} {H : Hp} {y : Addr} {R : Rw} {CS : List (Addr × Cd)} {BS SS : VL} (a : WIs T H y R CS BS SS) {Q : VK} {E : XK} (q : ∀ r H', Same H H' → Rp K H' (.ref r) R.data → Q (.ref r) H') : spTold T [V.ref y] H Q E :=
  ⟨y, _, _, _, _, _, rfl, a.w, a.m.wok a.o, fun r ap rc rb rs Lc Lb Ls H2 s2 kr kap krc krb krs e1 e2 e3 kz => q r H2 s2 ((a.m.same s2).told (K := K) a.o kr kap krc krb krs e1 e2 e3 kz)⟩
theorem more_less {R : Rw} {d : Vd} (h : d.n ∉ R.names) : ((R.more d).less d.n).data = R.data := by
  have f : ∀ L : VL, (∀ z ∈ L, z.2.n ∈ R.names) → L.filter (notN d.n) = L := fun L hL => by
    rw [List.filter_eq_self]
    intro z hz
    unfold notN
    have : z.2.n ≠ d.n := fun e => h (e ▸ hL z hz)
    simp [this]
  have e1 : ((R.more d).less d.n).bs = R.bs := f _ fun z hz => List.mem_map.mpr ⟨z, List.mem_append_left _ hz, rfl⟩
  have e2 : ((R.more d).less d.n).ss = R.ss := by
    show (R.ss ++ [((0 : Addr), d)]).filter (notN d.n) = R.ss
    rw [List.filter_append, f R.ss fun z hz => List.mem_map.mpr ⟨z, List.mem_append_right _ hz, rfl⟩]
    show R.ss ++ [((0 : Addr), d)].filter (notN d.n) = R.ss
    rw [List.filter_cons_of_neg (by simp [notN]), List.filter_nil, List.append_nil]
  unfold Rw.data
  rw [e1, e2]; rfl
theorem DueP.word {H : Hp} {p : Addr} {R : Rw} {d : Vd} (a : DueP H p R d) : ∃ w v, H p = some (.tup [.str w, v]) ∧ (w = Str.ofString "told" → dueS R d = .made ∧ ∃ q R', v = .ref q ∧ RowsU H q R' ∧ Like (R.more d) R') := by
  unfold DueP at a
  cases hd : dueS R d with
  | number => rw [hd] at a; exact a.elim
  | world w => rw [hd] at a; exact ⟨_, _, a, fun z => absurd z (by decide +kernel)⟩
  | doubled n => rw [hd] at a; exact ⟨_, _, a, fun z => absurd z (by decide +kernel)⟩
  | port n => rw [hd] at a; exact ⟨_, _, a, fun z => absurd z (by decide +kernel)⟩
  | made =>
    rw [hd] at a
    obtain ⟨q, R', k, ru, l⟩ := a
    exact ⟨_, _, k, fun _ => ⟨rfl, q, R', rfl, ru, l⟩⟩
theorem WIs.byShip {T : Top K mg} {H : Hp} {x sx : Addr} {R : Rw} {d : Vd} {CS : List (Addr × Cd)} {BS SS : VL} (a : WIs T H x (R.more d) CS BS (SS ++ [(sx, d)])) (m : BS.map (·.2) = R.bs.map (·.2) ∧ SS.map (·.2) = R.ss.map (·.2)) (hn : d.n ∉ R.names) : d.n ∈ (R.more d).names ∧ Ice.byNm (vsM BS ++ vsM (SS ++ [(sx, d)])) (.str d.n) = some (.ref sx) := by
  have hm : d.n ∈ (R.more d).names := by
    show d.n ∈ (R.bs ++ (R.ss ++ [((0 : Addr), d)])).map fun z : Addr × Vd => z.2.n
    simp
  refine ⟨hm, ?_⟩
  obtain ⟨z, hz, e1, e2⟩ := a.byNm hm
  rw [e2]
  rw [← List.append_assoc] at hz
  rcases List.mem_append.mp hz with h | h
  · exfalso
    apply hn
    rw [← e1]
    have e : (BS ++ SS).map (·.2) = (R.bs ++ R.ss).map (·.2) := by rw [List.map_append, List.map_append, m.1, m.2]
    obtain ⟨y, hy, ey⟩ := mem_map2 e h
    rw [← ey]
    exact List.mem_map.mpr ⟨y, hy, rfl⟩
  · rw [List.mem_singleton.mp h]
theorem atI_last (us : List V) (v : V) : atI (us ++ [v]) (-1) = some v := by
  have e : ixN (us ++ [v]).length (-1) = some us.length := by
    rw [List.length_append]
    unfold ixN
    simp
    exact ⟨by omega, by omega⟩
  unfold atI
  rw [e]
  simp
theorem nm_len {x : Str} (h : Ice.isN (.str x) = true) : x.length ≤ 100000 := by
  have h : 1 ≤ x.length ∧ x.length ≤ 8 ∧ ∀ c ∈ tl x, 97 ≤ c ∧ c ≤ 122 := of_decide_eq_true h
  omega
def spRightK (T : Top K mg) : Sp := fun vs H Q _ => ∃ (b x pr : Addr) (R : Rw) (CS : List (Addr × Cd)) (BS SS : VL) (n : Nat), vs = [.ref b, .ref x, .ref pr] ∧ Box H b n ∧ n ≤ 600 ∧ WIs T H x R CS BS SS ∧ RowsU H pr R ∧ ∀ H', But b H H' → Box H' b (n + 70) → Q (.bl true) H'
theorem ok_right (T : Top K mg) : FnG P w K mg base CX0 9 T.a_right T.d_right ["_law_box_here", "_law_made_here", "_law_world_here"] (spRightK T) := by
  have G_turned := ok_turned (P := P) (w := w) (base := base) T
  have G_new_ship := ok_new_ship (P := P) (w := w) (base := base) T
  have G_ship_due := ok_ship_due (P := P) (w := w) (base := base) T
  have G_with_ship := ok_with_ship (P := P) (w := w) (base := base) T
  have G_without := ok_without (P := P) (w := w) (base := base) T
  have G_take := ok_take (P := P) (w := w) (base := base) T
  have G_turned_due := ok_turned_due (P := P) (w := w) (base := base) T
  have G_with := ok_with (P := P) (w := w) (base := base) T
  have G_same_things := ok_same_things (P := P) (w := w) (base := base) T
  have G_without_due := ok_without_due (P := P) (w := w) (base := base) T
  have G_Ship___init__ := ok_Ship___init__ (P := P) (w := w) (base := base) T
  have G_World_told := ok_World_told (P := P) (w := w) (base := base) T
  have G_World_ships := ok_World_ships (P := P) (w := w) (base := base) T
  have G_World_vessel := ok_World_vessel (P := P) (w := w) (base := base) T
  refine okG T.F_right sc_right (fun vs H Q E h => ?_) (fun cdv A outer s H vs Q E hr hgd h => ?_)
  · obtain ⟨b, x, pr, R, CS, BS, SS, n, rfl, _⟩ := h
    rfl
  · obtain ⟨b, x, pr, R, CS, BS, SS, n, rfl, hB, hn, wi, ru, q⟩ := h
    have hu : _ := un1' hr
    have hu64 : _ := un64' hr
    have hu110 := un110 hr
    have o := wi.o
    have zz : (100 : Nat) ≤ sizeLine := sz_of (by decide)
    refine ⟨_, (pss_cons (ps_set (i := 3) sc_right.nd rfl (by first | exact Or.inl rfl | exact Or.inr rfl) (g_call G_turned (hr.mono (by decide)) hgd (by rfl) T.m_turned T.F_turned.kp T.b_turned .nil pass0 (pa_cons (pv 1) pa_nil)))
      (pss_cons (ps_if (PW.pt (pw_or (pt_cmpR op_ne (pe_callB (c_repr hgd hu110) (by rfl) T.n_repr (by decide +kernel) (pa_cons (g_meth0 (pv 3) T.cl_World T.me_World_told G_World_told (hr.mono (by decide)) hgd T.b_World_told .nil pass0) pa_nil)) (pe_callB (c_repr hgd hu110) (by rfl) T.n_repr (by decide +kernel) (pa_cons (g_call G_turned_due (hr.mono (by decide)) hgd (by rfl) T.m_turned_due T.F_turned_due.kp T.b_turned_due .nil pass0 (pa_cons (pv 2) pa_nil)) pa_nil)) (nomark _)) (pw_or1 (pt_cmpR op_ne (pe_callB (c_repr hgd hu110) (by rfl) T.n_repr (by decide +kernel) (pa_cons (g_meth0 (g_call G_turned (hr.mono (by decide)) hgd (by rfl) T.m_turned T.F_turned.kp T.b_turned .nil pass0 (pa_cons (pv 3) pa_nil)) T.cl_World T.me_World_told G_World_told (hr.mono (by decide)) hgd T.b_World_told .nil pass0) pa_nil)) (pe_callB (c_repr hgd hu110) (by rfl) T.n_repr (by decide +kernel) (pa_cons (pv 2) pa_nil)) (nomark _)))))
        (pss_one (ps_ret pe_bl))
        pss_nil)
      (pss_cons (ps_set (i := 4) sc_right.nd rfl (by first | exact Or.inl rfl | exact Or.inr rfl) (g_call G_new_ship (hr.mono (by decide)) hgd (by rfl) T.m_new_ship T.F_new_ship.kp T.b_new_ship .nil pass0 (pa_cons (pv 0) (pa_cons (pv 2) pa_nil))))
      (pss_cons (ps_set (i := 5) sc_right.nd rfl (by first | exact Or.inl rfl | exact Or.inr rfl) (g_call G_ship_due (hr.mono (by decide)) hgd (by rfl) T.m_ship_due T.F_ship_due.kp T.b_ship_due .nil pass0 (pa_cons (pv 2) (pa_cons (pv 4) pa_nil))))
      (pss_cons (ps_for PassesOwn.never rfl (pi_range1 (by rfl) T.n_range (pa_cons pe_int pa_nil)) (pg_name (i := 6) sc_right.nd rfl (by first | exact Or.inl rfl | exact Or.inr rfl))
        (pss_one (ps_if (pt_cmpR op_ne (pe_callB (c_repr hgd hu110) (by rfl) T.n_repr (by decide +kernel) (pa_cons (g_call G_with (hr.mono (by decide)) hgd (by rfl) T.m_with T.F_with.kp T.b_with .nil pass0 (pa_cons (pv 1) (pa_cons (pv 4) pa_nil))) pa_nil)) (pe_callB (c_repr hgd hu110) (by rfl) T.n_repr (by decide +kernel) (pa_cons (pv 5) pa_nil)) (nomark _))
        (pss_one (ps_ret pe_bl))
        pss_nil)))
      (C8.pss_cut (ps_if (pt_cmpR op_eq (pe_ix ix_tup (pv 5) pe_int (fun _ _ => rfl)) pe_str (nomark _))
        (pss_cons (ps_set (i := 7) sc_right.nd rfl (by first | exact Or.inl rfl | exact Or.inr rfl) (g_make T.mk_Ship G_Ship___init__ (hr.mono (by decide)) hgd (by rfl) T.c_Ship T.b_Ship___init__ .nil passL (pa_cons (pe_ix ix_tup (pv 4) pe_int (fun _ _ => rfl)) (pa_cons (pe_ix ix_tup (pv 4) pe_int (fun _ _ => rfl)) (pa_cons (pe_ix ix_tup (pv 4) pe_int (fun _ _ => rfl)) (pa_cons (pe_ix ix_tup (pv 4) pe_int (fun _ _ => rfl)) (pa_cons (pe_ix ix_tup (pv 4) pe_int (fun _ _ => rfl)) (pa_cons (pe_ix ix_tup (pv 4) pe_int (fun _ _ => rfl)) pa_nil))))))))
      (pss_cons (ps_set (i := 8) sc_right.nd rfl (by first | exact Or.inl rfl | exact Or.inr rfl) (g_callE (E := WE _) G_with_ship (hr.mono (by decide)) hgd (by rfl) T.m_with_ship T.F_with_ship.kp T.b_with_ship .nil (passAt takes0) (pa_cons (pv 1) (pa_cons (pv 7) pa_nil))))
      (pss_cons (ps_if (PW.pt (pw_or (pt_cmpR (show OpR _ (compareOp .NotEq) (rNeIn K) from op_neIn hu64) (pe_ix ix_list (g_meth0 (pv 8) T.cl_World T.me_World_ships G_World_ships (hr.mono (by decide)) hgd T.b_World_ships .nil pass0) (pe_un un_neg pe_int) (fun _ _ => rfl)) (pv 7) (nomark _)) (pw_or1 (pt_cmpR (show OpR _ (compareOp .NotEq) (rNeIn K) from op_neIn hu64) (g_meth (pv 8) T.cl_World T.me_World_vessel G_World_vessel (hr.mono (by decide)) hgd T.b_World_vessel .nil passL (pa_cons (pe_ix ix_tup (pv 4) pe_int (fun _ _ => rfl)) pa_nil)) (pv 7) (nomark _)))))
        (pss_one (ps_ret pe_bl))
        pss_nil)
      (pss_cons (ps_if (PW.pt (pw_or (pt_cmpR op_ne (pe_callB (c_repr hgd hu110) (by rfl) T.n_repr (by decide +kernel) (pa_cons (g_meth0 (g_call G_without (hr.mono (by decide)) hgd (by rfl) T.m_without T.F_without.kp T.b_without .nil pass0 (pa_cons (pv 8) (pa_cons (pe_ix ix_tup (pv 4) pe_int (fun _ _ => rfl)) pa_nil))) T.cl_World T.me_World_told G_World_told (hr.mono (by decide)) hgd T.b_World_told .nil pass0) pa_nil)) (pe_callB (c_repr hgd hu110) (by rfl) T.n_repr (by decide +kernel) (pa_cons (pv 2) pa_nil)) (nomark _)) (pw_or1 (pt_not (pt_val (g_call G_same_things (hr.mono (by decide)) hgd (by rfl) T.m_same_things T.F_same_things.kp T.b_same_things .nil pass0 (pa_cons (pv 1) (pa_cons (pv 8) pa_nil))))))))
        (pss_one (ps_ret pe_bl))
        pss_nil)
      (pss_cons (ps_expr (pe_bm0 PySem.F.plainAttrs_list PySem.F.slot_list_clear PySem.F.type_list_clear mt_clear (g_meth0 (pv 8) T.cl_World T.me_World_ships G_World_ships (hr.mono (by decide)) hgd T.b_World_ships .nil pass0)))
      (pss_one (ps_if (pt_cmpR op_ne (pe_callB (c_repr hgd hu110) (by rfl) T.n_repr (by decide +kernel) (pa_cons (g_meth0 (pv 8) T.cl_World T.me_World_told G_World_told (hr.mono (by decide)) hgd T.b_World_told .nil pass0) pa_nil)) (pe_callB (c_repr hgd hu110) (by rfl) T.n_repr (by decide +kernel) (pa_cons (pe_ix ix_tup (pv 5) pe_int (fun _ _ => rfl)) pa_nil)) (nomark _))
        (pss_one (ps_ret pe_bl))
        pss_nil)))))))
        pss_nil)
      (pss_cons (ps_setLc (i := 9) (own := [("_law_one", 12)]) (g := gName 12) rfl sc_right.nd rfl rfl (sw_true rfl rfl rfl (by decide +kernel)) (pi_tup (pe_op op_catA (pe_ix ix_tup (pv 2) pe_int (fun _ _ => rfl)) (pe_ix ix_tup (pv 2) pe_int (fun _ _ => rfl)))) (blkOk_by (own := [("_law_one", 12)]) (N := ["_law_box_here", "_law_made_here", "_law_world_here", "_law_once", "_law_row", "_law_due", "_law_turn", "_law_ship_here", "_law_more", "_law_some", "_law_name", "_law_less", "_law_one"]) (sc := defScope s_right) (by decide +kernel)) (fun _ _ _ _ _ => (pg_name (i := 12) sc_right.nd rfl (by first | exact Or.inl rfl | exact Or.inr rfl))) (fun _ _ _ _ _ => pts_nil) (fun _ _ _ _ _ => (pe_ix (show IxR _ (rIxT K) from ix_tup) (pv 12) pe_int (fun _ _ => rfl))))
      (pss_cons (ps_for PassesOwn.never rfl (pi_range1 (by rfl) T.n_range (pa_cons (pe_op op_mul pe_int (pe_callTy c_intB (by rfl) T.n_int (by decide +kernel) (pa_cons (pe_cmpR (op_neNil hu64) (pv 9) (pe_lst pa_nil) (nomark _)) pa_nil))) pa_nil)) (pg_name (i := 6) sc_right.nd rfl (by first | exact Or.inl rfl | exact Or.inr rfl))
        (pss_cons (ps_set (i := 10) sc_right.nd rfl (by first | exact Or.inl rfl | exact Or.inr rfl) (pe_ix ix_list (pv 9) (g_call G_take (hr.mono (by decide)) hgd (by rfl) T.m_take T.F_take.kp T.b_take .nil pass0 (pa_cons (pv 0) (pa_cons (pe_callB c_len (by rfl) T.n_len (by decide +kernel) (pa_cons (pv 9) pa_nil)) pa_nil))) (fun _ _ => rfl)))
      (pss_cons (ps_set (i := 11) sc_right.nd rfl (by first | exact Or.inl rfl | exact Or.inr rfl) (g_call G_without (hr.mono (by decide)) hgd (by rfl) T.m_without T.F_without.kp T.b_without .nil pass0 (pa_cons (pv 1) (pa_cons (pv 10) pa_nil))))
      (pss_one (ps_if (PW.pt (pw_or (pt_cmpR op_ne (pe_callB (c_repr hgd hu110) (by rfl) T.n_repr (by decide +kernel) (pa_cons (g_meth0 (pv 11) T.cl_World T.me_World_told G_World_told (hr.mono (by decide)) hgd T.b_World_told .nil pass0) pa_nil)) (pe_callB (c_repr hgd hu110) (by rfl) T.n_repr (by decide +kernel) (pa_cons (g_call G_without_due (hr.mono (by decide)) hgd (by rfl) T.m_without_due T.F_without_due.kp T.b_without_due .nil pass0 (pa_cons (pv 2) (pa_cons (pv 10) pa_nil))) pa_nil)) (nomark _)) (pw_or1 (pt_not (pt_val (g_call G_same_things (hr.mono (by decide)) hgd (by rfl) T.m_same_things T.F_same_things.kp T.b_same_things .nil pass0 (pa_cons (pv 11) (pa_cons (pv 1) pa_nil))))))))
        (pss_one (ps_ret pe_bl))
        pss_nil)))))
      (pss_one (ps_ret (pe_cmpR op_eq (pe_callB (c_repr hgd hu110) (by rfl) T.n_repr (by decide +kernel) (pa_cons (g_meth0 (pv 1) T.cl_World T.me_World_told G_World_told (hr.mono (by decide)) hgd T.b_World_told .nil pass0) pa_nil)) (pe_callB (c_repr hgd hu110) (by rfl) T.n_repr (by decide +kernel) (pa_cons (pv 2) pa_nil)) (nomark _)))))))))))), ?_⟩
    walk_at "rd"
    refine ⟨x, R, CS, BS, SS, rfl, wi, fun y C1 B1 S1 H1 s1 ny w1 => ?_⟩
    walk_at "rd"
    refine w_obj w1.w (fun _ _ _ _ _ _ _ => rfl) ?_
    walk_at "rd"
    refine w1.toldQ fun r2 H2 s2 rp2 => ?_
    walk_at "rd"
    refine i_repr rp2 ?_
    walk_at "rd"
    refine ⟨pr, R, rfl, ru.same (s1.trans s2), o, fun p3 R3 H3 s3 ru3 l3 => ?_⟩
    have rp3 := ru3.rp (K := K) (l3.ok (Rw.turn_ok o))
    rw [l3.data] at rp3
    walk_at "rd"
    refine i_repr rp3 ?_
    walk_at "rd"
    rw [decide_eq_true rfl]
    walk_at "rd"
    refine ⟨y, R.turn, C1, B1, S1, rfl, w1.same (s2.trans s3), fun y2 C2 B2 S2 H4 s4 ny2 w4 => ?_⟩
    walk_at "rd"
    refine w_obj w4.w (fun _ _ _ _ _ _ _ => rfl) ?_
    walk_at "rd"
    refine w4.toldQ fun r5 H5 s5 rp5 => ?_
    rw [Rw.turn_data] at rp5
    walk_at "rd"
    refine i_repr rp5 ?_
    walk_at "rd"
    have s05 := s1.trans (s2.trans (s3.trans (s4.trans s5)))
    have ru5 := ru.same s05
    refine i_repr (ru5.rp o) ?_
    walk_at "rd"
    rw [decide_eq_true rfl]
    walk_at "rd"
    have B5 := hB.same s05
    refine ⟨b, pr, R, n, rfl, B5, hn, ru5, o, fun rp d H6 e6 B6 kr6 dok dk => ?_⟩
    have wi6 := (wi.same s05).but B5 e6
    have ru6 := ru5.but B5 e6
    walk_at "rd"
    refine ⟨pr, rp, R, d, rfl, ru6, o, kr6, dk, fun dp H7 s7 due7 => ?_⟩
    have wi7 := wi6.same s7
    have ru7 := ru6.same s7
    have kr7 := s7 _ _ kr6
    have B7 := B6.same s7
    have rpd := due7.rp (K := K) o dok dk
    walk_at "rd"
    refine ⟨2, rfl, by decide, by decide, ?_⟩
    refine for_range (lo := 0) (n := 2) (fun i σ H' => Same H7 H' ∧ ∃ z6, σ = [some (.ref b), some (.ref x), some (.ref pr), some (.ref y), some (.ref rp), some (.ref dp), z6, none, none, none, none, none, none]) ⟨Same.refl _, _, rfl⟩ ?_ ?_
    · rintro i σ H8 hi ⟨s8, z6, rfl⟩
      walk_at "rd"
      refine ⟨x, rp, R, CS, BS, SS, d, rfl, wi7.same s8, s8 _ _ kr7, dok, dk, fun p9 H9 s9 rp9 => ?_⟩
      walk_at "rd"
      refine i_repr rp9 ?_
      walk_at "rd"
      refine i_repr (rpd.same (s8.trans s9)) ?_
      walk_at "rd"
      rw [decide_eq_true rfl]
      walk_at "rd"
      exact ⟨s8.trans s9, _, rfl⟩
    rintro σ H8 ⟨s8, z6, rfl⟩
    have s58 := s7.trans s8
    have wi8 := wi7.same s8
    have ru8 := ru7.same s8
    have B8 := B7.same s8
    have kr8 := s8 _ _ kr7
    have e08 : But b H H8 := (Ice.Same.but s05).trans (e6.trans (Ice.Same.but s58))
    obtain ⟨ww, vv, kd, told⟩ := due7.word
    have kd8 := s8 _ _ kd
    refine i_cut (fun σ H' => But b H H' ∧ Box H' b (n + 60) ∧ ∃ z3 z4 z5 z6 z7 z8, σ = [some (.ref b), some (.ref x), some (.ref pr), z3, z4, z5, z6, z7, z8, none, none, none, none]) ?_ ?_
    · walk_at "rd"
      refine ifs (fun h1 => ?_) (fun h1 => ?_)
      · obtain ⟨hd, qa, R', rfl, ruq, lq⟩ := told (by simpa using h1)
        obtain ⟨mok, mn⟩ := Rw.more_ok o dok dk hd
        rw [rowS dk] at kr8
        walk_at "rd"
        intro sx dx hsx hdx nex
        refine sh_make T dok dk hsx hdx fun HA sA vt => ⟨rfl, ?_⟩
        have wiA := wi8.same sA
        walk_at "rd"
        refine ⟨x, sx, R, CS, BS, SS, d, rfl, wiA, vt, dk, ?_⟩
        unfold WantsS
        rw [hd]
        intro y3 HB sB ny3 wB
        obtain ⟨hnm, hby⟩ := wB.byShip ⟨wiA.m.eb, wiA.m.es⟩ mn
        have vtB : VesT T HB sx d := VesA.same vt sB
        walk_at "rd"
        refine w_obj wB.w (fun _ _ _ _ _ _ _ => rfl) ?_
        walk_at "rd"
        refine ⟨y3, _, _, _, _, _, rfl, wB.w, wB.l1000, fun ls HC sC fC kC => ?_⟩
        have kC : HC ls = some (.lst ((vsM SS).map Mk.v ++ [V.ref sx])) := by rw [kC]; unfold vsM; rw [List.map_append, List.map_append]; rfl
        have insE : ∀ {H' : Hp}, VesT T H' sx d → InsE K H' sx T.a_Ship := fun {H'} v => by
          obtain ⟨_, dx, k⟩ := v
          rw [dk] at k
          exact ⟨⟨dx, _, k⟩, T.mo_Ship, T.eq_Ship⟩
        have vtC : VesT T HC sx d := VesA.same vtB sC
        walk_at "rd"
        refine i_ixL (SqL.lst kC) (atI_last _ _) ?_
        walk_at "rd"
        refine ⟨sx, T.a_Ship, rfl, rfl, insE vtC, T.ne_Ship, ?_⟩
        have wC := wB.same sC
        have sAC := sA.trans (sB.trans sC)
        walk_at "rd"
        refine w_obj wC.w (fun _ _ _ _ _ _ _ => rfl) ?_
        walk_at "rd"
        try refine i_ixT (SqT.tup (sAC _ _ kr8)) (v := .str d.n) (atI_nat (j := 0) rfl) ?_
        walk_at "rd"
        refine ⟨y3, _, _, _, _, _, _, rfl, wC.w, .inl ⟨d.n, rfl, nm_len dok.five.nn⟩, fun u hu => ?_, fun z => by rw [hby] at z; cases z⟩
        rw [hby] at hu
        cases hu
        walk_at "rd"
        refine ⟨sx, T.a_Ship, rfl, rfl, insE vtC, T.ne_Ship, ?_⟩
        walk_at "rd"
        try refine i_ixT (SqT.tup (sAC _ _ kr8)) (v := .str d.n) (atI_nat (j := 0) rfl) ?_
        walk_at "rd"
        refine ⟨y3, d.n, R.more d, CS, BS, SS ++ [(sx, d)], rfl, nm_len dok.five.nn, wC, hnm, fun y4 HD sD ny4 wD => ?_⟩
        walk_at "rd"
        refine w_obj wD.w (fun _ _ _ _ _ _ _ => rfl) ?_
        walk_at "rd"
        refine wD.toldQ fun rE HE sE rpE => ?_
        rw [more_less mn] at rpE
        walk_at "rd"
        refine i_repr rpE ?_
        walk_at "rd"
        have sAE := sAC.trans (sD.trans sE)
        refine i_repr ((ru8.same sAE).rp o) ?_
        walk_at "rd"
        rw [decide_eq_true rfl]
        walk_at "rd"
        have wE := wC.same (sD.trans sE)
        refine ⟨x, y3, R, R.more d, CS, CS, BS, SS, BS, SS ++ [(sx, d)], rfl, wi8.same sAE, wE, fun z h => h, fun z h => ?_, fun HF sF => ?_⟩
        · rw [← List.append_assoc]; exact List.mem_append_left _ h
        walk_at "rd"
        have wF := wE.same sF
        refine w_obj wF.w (fun _ _ _ _ _ _ _ => rfl) ?_
        walk_at "rd"
        refine ⟨y3, _, _, _, _, _, rfl, wF.w, wF.l1000, fun lg HG sG fG kG => ?_⟩
        walk_at "rd"
        refine ⟨lg, _, rfl, rfl, kG, ?_⟩
        have sFG : Same HF (upd HG lg (.lst [])) := fun a o h => by rw [upd_ne (ne_of_none h fG)]; exact sG _ _ h
        generalize upd HG lg (.lst []) = HI at sFG
        have wI := wF.same sFG
        walk_at "rd"
        refine w_obj wI.w (fun _ _ _ _ _ _ _ => rfl) ?_
        walk_at "rd"
        refine wI.toldQ fun rJ HJ sJ rpJ => ?_
        walk_at "rd"
        refine i_repr rpJ ?_
        have s8J := sAE.trans (sF.trans (sFG.trans sJ))
        walk_at "rd"
        try refine i_ixT (SqT.tup (s8J _ _ kd8)) (v := .ref qa) (atI_nat (j := 1) rfl) ?_
        walk_at "rd"
        have rpq := (ruq.same (s8.trans s8J)).rp (K := K) (lq.ok mok)
        rw [lq.data] at rpq
        refine i_repr rpq ?_
        walk_at "rd"
        rw [decide_eq_true rfl]
        walk_at "rd"
        exact ⟨e08.trans (Ice.Same.but s8J), (B8.same s8J).mono (by omega), _, _, _, _, _, _, rfl⟩
      · exact ⟨e08, B8.mono (by omega), _, _, _, _, _, _, rfl⟩
    · rintro σ H9 ⟨e9, B9, z3, z4, z5, z6, z7, z8, rfl⟩
      have lB := o.bl; have lS := o.sl
      have wi9 := wi.but hB e9
      have ru9 := ru.but hB e9
      walk_at "rd"
      refine i_tupI ?_
      walk_at "rd"
      refine i_ixT (SqT.tup ru9.hp) (atI_nat (j := 3) rfl) ?_
      walk_at "rd"
      refine i_ixT (SqT.tup ru9.hp) (atI_nat (j := 4) rfl) ?_
      walk_at "rd"
      refine i_catA ru9.h4 ru9.h6 (by simp [refs]; omega) (fun r1 H7 s7 k7 => ?_)
      have k7 : H7 r1 = some (.tup (refs (R.bs ++ R.ss))) := by rw [k7]; simp [refs]
      walk_at "rd"
      refine lc_gatherT (SqT.tup k7) ((R.bs ++ R.ss).map fun z => some (V.str z.2.n)) (by simp [refs]) (by simp [refs]; omega) ?_ ?_
      · intro j v2 ov2 H6 NY2 NN2 hv2 ho2 s6 hy2 hno2
        obtain ⟨z, hz, rfl⟩ := refs_get hv2
        rw [List.getElem?_map, hz] at ho2
        obtain rfl := Option.some.inj ho2
        have kz := (ru9.same (s7.trans s6)).row z (List.mem_of_getElem? hz)
        walk_at "rd"
        refine i_ixT (SqT.tup kz) (row0 z.2) ?_
        exact hy2 _ _ rfl (Same.refl _)
      intro D H8 f8 s8 k8
      rw [names_gath] at k8
      have Db : D ≠ b := (B9.same s7).ne f8
      walk_at "rd"
      (intro em hem; generalize eem : upd _ em _ = JA; have NA := New.of eem hem; clear eem hem)
      refine ⟨D, em, _, rfl, rfl, SqL.lst (NA.app k8), SqL.lst NA.at_, ?_⟩
      walk_at "rd"
      have s9A := s7.trans (s8.trans NA.same)
      have nl : R.names.length ≤ 10 := by unfold Rw.names; rw [List.length_map, List.length_append]; omega
      obtain ⟨cnt, ecnt, c2, cpos⟩ : ∃ cnt : Nat, ((2 : Int) * if (!(R.names.map V.str).isEmpty) = true then 1 else 0) = (cnt : Int) ∧ cnt ≤ 2 ∧ (0 < cnt → 0 < R.names.length) := by
        by_cases z : (!(R.names.map V.str).isEmpty) = true
        · refine ⟨2, by rw [if_pos z]; rfl, Nat.le_refl _, fun _ => ?_⟩
          cases e : R.names with
          | nil => rw [e] at z; exact absurd z (by decide)
          | cons a r => simp
        · exact ⟨0, by rw [if_neg z]; rfl, by omega, fun h => by omega⟩
      rw [ecnt]
      refine ⟨cnt, rfl, by omega, by omega, ?_⟩
      refine for_range (lo := 0) (n := cnt) (fun i σ H' => But b H H' ∧ Box H' b (n + 60 + i) ∧ H' D = some (.lst (R.names.map V.str)) ∧ ∃ z6 z10 z11, σ = [some (.ref b), some (.ref x), some (.ref pr), z3, z4, z5, z6, z7, z8, some (.ref D), z10, z11, none])
        ⟨e9.trans (Ice.Same.but s9A), B9.same s9A, NA.app k8, _, _, _, rfl⟩ ?_ ?_
      · rintro i σ HB hi ⟨eB, BB, kB, z6, z10, z11, rfl⟩
        have lpos := cpos (by omega)
        have wiB := wi.but hB eB
        walk_at "rd"
        try refine i_lenL (SqL.lst kB) ?_
        rw [List.length_map]
        walk_at "rd"
        refine ⟨b, R.names.length, _, rfl, BB, by omega, by omega, by omega, fun ix HC i0 i1 eC BC => ?_⟩
        obtain ⟨nm, hnm, mnm, _⟩ := pickS (ns := R.names) i0 i1
        have kC := eC _ _ Db kB
        have eC0 := eB.trans eC
        have wiC := wi.but hB eC0
        have ruC := ru.but hB eC0
        refine i_ixL (SqL.lst kC) hnm ?_
        walk_at "rd"
        refine ⟨x, nm, R, CS, BS, SS, rfl, nm_len (o.names nm mnm), wiC, mnm, fun y4 HD sD ny4 wD => ?_⟩
        walk_at "rd"
        refine w_obj wD.w (fun _ _ _ _ _ _ _ => rfl) ?_
        walk_at "rd"
        refine wD.toldQ fun rE HE sE rpE => ?_
        walk_at "rd"
        refine i_repr rpE ?_
        walk_at "rd"
        have sCE := sD.trans sE
        refine ⟨pr, nm, R, rfl, ruC.same sCE, o, fun p3 R3 HF sF ru3 l3 => ?_⟩
        have rp3 := ru3.rp (K := K) (l3.ok (Rw.less_ok o nm))
        rw [l3.data] at rp3
        walk_at "rd"
        refine i_repr rp3 ?_
        walk_at "rd"
        rw [decide_eq_true rfl]
        walk_at "rd"
        have sCF := sCE.trans sF
        refine ⟨y4, x, R.less nm, R, CS, CS, BS.filter (notN nm), SS.filter (notN nm), BS, SS, rfl, wD.same (sE.trans sF), wiC.same sCF, fun z h => h, fun z h => ?_, fun HG sG => ?_⟩
        · rcases List.mem_append.mp h with h | h
          · exact List.mem_append_left _ (List.mem_filter.mp h).1
          · exact List.mem_append_right _ (List.mem_filter.mp h).1
        walk_at "rd"
        have sCG := sCF.trans sG
        exact ⟨eC0.trans (Ice.Same.but sCG), (BC.same sCG).mono (by omega), sCG _ _ kC, _, _, _, rfl⟩
      · rintro σ HB ⟨eB, BB, kB, z6, z10, z11, rfl⟩
        have wiB := wi.but hB eB
        have ruB := ru.but hB eB
        walk_at "rd"
        refine w_obj wiB.w (fun _ _ _ _ _ _ _ => rfl) ?_
        walk_at "rd"
        refine wiB.toldQ fun rC HC sC rpC => ?_
        walk_at "rd"
        refine i_repr rpC ?_
        walk_at "rd"
        refine i_repr ((ruB.same sC).rp o) ?_
        walk_at "rd"
        rw [decide_eq_true rfl]
        exact q _ (eB.trans (Ice.Same.but sC)) ((BB.same sC).mono (by omega))
end

end Ice

set_option Elab.async false
set_option linter.all false
set_option maxRecDepth 100000
set_option maxHeartbeats 4000000
set_option autoImplicit true
namespace Ice
open PySem PySem.Spec PyProof.Rows L2 TL
/-! side conditions, heaps, one step of a reading, and many -/
local macro_rules | `(tactic| walk_at "hp") => `(tactic| first | assumption | exact upd_same | exact New.at_ (by assumption) | (refine keepU ?_ (by assumption); walk_at "hp") | (refine New.app (by assumption) ?_; walk_at "hp") | (refine Same.app (by assumption) ?_; walk_at "hp") | (refine But.app (by assumption) (by assumption) ?_; walk_at "hp"))
local macro_rules | `(tactic| walk_at "sq") => `(tactic| first | assumption | exact SqL.lst (by walk_at "hp") | exact L2.Same.seq (New.same (by assumption)) (by assumption) | exact L2.Same.seq (by assumption) (by assumption))
local macro_rules | `(tactic| walk_at "len") => `(tactic| first | assumption | (simp only [List.length_cons, List.length_nil, List.length_append, List.length_map]; decide) | (refine Ice.sz_of ?_; simp only [List.length_cons, List.length_nil, List.length_append, List.length_map]; omega))
local macro_rules | `(tactic| walk_at "fresh") => `(tactic| (simp only [List.map_append, List.map_cons, List.map_nil, List.nil_append, List.cons_append]; decide +kernel))
local macro_rules | `(tactic| walk_at "sd") => `(tactic| first | assumption | (show _ ≠ _; omega) | exact Or.inl ⟨by omega, by omega⟩ | exact Or.inr ⟨by omega, by omega⟩ | exact ⟨by decide, by decide⟩ | exact ⟨by decide, by decide, by decide⟩ | exact ⟨by omega, by omega, by omega⟩)
/-! one step of a reading, and many -/
local macro_rules | `(tactic| walk_at "st") => `(tactic| first
  | with_reducible refine i_seq ?_
  | with_reducible refine i_if ?_
  | with_reducible refine i_next ?_
  | with_reducible refine i_ret ?_
  | with_reducible refine i_retN ?_
  | with_reducible refine i_drop ?_
  | with_reducible refine i_asg ?_
  | with_reducible refine i_gname ?_
  | with_reducible refine i_gsub ?_
  | ((with_reducible refine i_var (v := ?vv) ?hv ?_); (case hv => exact rfl))
  | with_reducible refine i_c ?_
  | with_reducible refine i_op ?_
  | with_reducible refine i_un ?_
  | with_reducible refine i_test ?_
  | with_reducible refine i_tB ?_
  | with_reducible refine i_and ?_
  | with_reducible refine i_or ?_
  | with_reducible refine i_not ?_
  | with_reducible refine i_andV ?_
  | with_reducible refine i_orV ?_
  | with_reducible refine i_notV ?_
  | with_reducible refine i_ifE ?_
  | with_reducible refine i_chain ?_
  | with_reducible refine i_bl ?_
  | with_reducible refine i_nil ?_
  | with_reducible refine i_cons ?_
  | with_reducible refine i_call ?_
  | with_reducible refine i_cb ?_
  | with_reducible refine i_rI0 ?_
  | with_reducible refine i_rU ?_
  | ((with_reducible refine i_rEq ?hs ?_); (case hs => exact rfl))
  | ((with_reducible refine i_rNe ?hs ?_); (case hs => exact rfl))
  | ((with_reducible refine i_rI ?hc ?_); (case hc => walk_at "sd"))
  | ((with_reducible refine i_ixL (xs := ?xs) (v := ?vv) ?hS ?he ?_); (case hS => walk_at "sq"); (case he => exact rfl))
  | ((with_reducible refine i_setL (xs := ?xs) (j := ?jj) ?hS ?he ?_); (case hS => walk_at "hp"); (case he => exact rfl))
  | with_reducible refine i_tup ?_
  | with_reducible refine i_lst ?_
  | with_reducible refine i_bm ?_
  | with_reducible refine i_bm0 ?_
  | with_reducible refine i_m1 ?_
  | with_reducible refine i_sl ?_
  | with_reducible refine i_nopart ?_
  | with_reducible refine i_part ?_
  | with_reducible refine i_int ?_
  | with_reducible refine i_str ?_
  | with_reducible refine i_for ?_
  | with_reducible refine i_yes ?_
  | ((with_reducible refine i_lenL (xs := ?xs) ?hS ?_); (case hS => walk_at "sq"))
  | ((with_reducible refine i_room ?hz ?_); (case hz => walk_at "len"))
  | with_reducible refine i_leT ?_
  | with_reducible refine i_notInS ?_
  | with_reducible refine i_inS ?_
  | with_reducible refine i_find ?_
  | with_reducible refine i_isB ?_
  | with_reducible refine i_max2 ?_
  | with_reducible refine i_min2 ?_
  | with_reducible exact trivial
  | with_reducible refine iteT ?_
  | with_reducible refine iteF ?_
  | with_reducible refine i_isstr ?_
  | with_reducible refine i_lc ?_
  | ((with_reducible refine i_cat (xs := ?xs) (zs := ?zs) ?ha ?hb ?hz ?_); (case ha => walk_at "hp"); (case hb => walk_at "hp"); (case hz => walk_at "len"))
  | ((with_reducible refine i_tyL (xs := ?xs) ?ha ?_); (case ha => walk_at "hp"))
  | with_reducible refine i_list ?_
  | with_reducible refine i_disp ?_
  | with_reducible refine i_pairs0 ?_
  | with_reducible refine i_pairs ?_
  | with_reducible refine i_newK ?_
  | with_reducible refine i_gcons ?_
  | with_reducible refine i_gnil ?_
  | with_reducible refine i_revL ?_
  | with_reducible refine i_rng1 ?_
  | ((with_reducible refine i_wipe ?hw ?_); (case hw => exact rfl))
  | with_reducible refine iteNT ?_
  | with_reducible refine iteNF ?_)
local macro_rules | `(tactic| walk_at "sx") => `(tactic| first
  | walk_at "st"
  | with_reducible refine i_kinit ?_
  | with_reducible refine i_ost ?_
  | with_reducible refine i_mkO ?_
  | with_reducible refine i_callE ?_
  | with_reducible refine i_makeE ?_
  | with_reducible refine i_xf ?_
  | with_reducible refine i_sfld ?_
  | with_reducible refine i_fld ?_
  | ((with_reducible refine i_ixT (xs := ?xs) (v := ?vv) ?hS ?he ?_); (case hS => exact SqT.tup (by walk_at "hp")); (case he => exact rfl))
  | with_reducible refine i_intB ?_
  | with_reducible refine i_runS ?_
  | with_reducible refine i_runN ?_
  | ((with_reducible refine i_xf1 (fs := ?ff) (v := ?vv) ?hx ?hl ?_); (case hx => walk_at "hp"); (case hl => exact rfl))
  | with_reducible refine i_methE ?_
  | with_reducible refine i_meth ?_
  | with_reducible refine i_make ?_
  | ((with_reducible refine i_obj (dx := ?dd) (fs := ?ff) ?hx ?hl ?_); (case hx => walk_at "hp"); (case hl => exact rfl))
  | ((with_reducible refine i_fld1 (C := ?CC) (dx := ?dd) (fs := ?ff) (v := ?vv) ?hx ?cl ?na ?hl ?_); (case hx => walk_at "hp"); (case cl => assumption); (case na => assumption); (case hl => exact rfl)))
local macro_rules | `(tactic| walk_at "sy") => `(tactic| first
  | walk_at "sx"
  | with_reducible refine i_dget ?_
  | with_reducible refine i_dget2 ?_
  | with_reducible refine i_dput ?_
  | with_reducible refine i_din ?_
  | ((with_reducible refine i_aug (x := ?vv) ?hx ?_); (case hx => exact rfl)))
local macro_rules | `(tactic| walk_at "rd") => `(tactic| repeat (walk_at "sy"))

section
variable {P : Program} {w : World} {K : PySem.W.Frag} {mg : Str → Option Value} {base : Heap}
theorem WorldF.off {T : Top K mg} {H : Hp} {D : Addr} {us ws : List V} (hD : H D = some (.lst us)) {x dx ap ac ab as_ ad av : Addr} {b : Int} {mp mc mb ms : List Mk} (a : WorldF T H x dx ap ac ab as_ ad av b mp mc mb ms) : WorldF T (upd H D (.lst ws)) x dx ap ac ab as_ ad av b mp mc mb ms := by
  have n : ∀ {p : Addr} {o : HO}, H p = some o → (∀ xs, o ≠ .lst xs) → upd H D (.lst ws) p = some o := fun {p o} h k => by
    rw [upd_ne (fun e => by rw [e, hD] at h; exact k us (Option.some.inj h).symm)]; exact h
  exact ⟨n a.hx nofun, n a.hp nofun, n a.hc nofun, n a.hb nofun, n a.hs nofun, n a.hd nofun, n a.hv nofun⟩
theorem WorldT.off {T : Top K mg} {H : Hp} {D : Addr} {us ws : List V} (hD : H D = some (.lst us)) {x : Addr} {b : Int} {mp mc mb ms : List Mk} (a : WorldT T H x b mp mc mb ms) : WorldT T (upd H D (.lst ws)) x b mp mc mb ms := by
  obtain ⟨dx, ap, ac, ab, as_, ad, av, f⟩ := a
  exact ⟨dx, ap, ac, ab, as_, ad, av, f.off hD⟩
theorem RowsU.off {H : Hp} {D p : Addr} {us ws : List V} {R : Rw} (hD : H D = some (.lst us)) (a : RowsU H p R) : RowsU (upd H D (.lst ws)) p R := by
  have n : ∀ {p : Addr} {xs : List V}, H p = some (.tup xs) → upd H D (.lst ws) p = some (.tup xs) := fun {p xs} h => by
    rw [upd_ne (fun e => by rw [e, hD] at h; cases h)]; exact h
  exact ⟨n a.hp, n a.h1, n a.h2, fun z hz => n (a.h3 z hz), n a.h4, fun z hz => n (a.h5 z hz), n a.h6, fun z hz => n (a.h7 z hz)⟩
theorem Made.off {T : Top K mg} {H : Hp} {D : Addr} {us ws : List V} {R : Rw} {CS : List (Addr × Cd)} {BS SS : VL} (hD : H D = some (.lst us)) (m : Made T H R CS BS SS) : Made T (upd H D (.lst ws)) R CS BS SS :=
  ⟨m.ec, m.eb, m.es, fun z hz => (m.hc z hz).off hD, fun z hz => (m.hb z hz).off hD, fun z hz => (m.hs z hz).off hD⟩
/-- a world and its rows, as a pair -/
structure PairW (T : Top K mg) (H : Hp) (t x pr : Addr) (R : Rw) (CS : List (Addr × Cd)) (BS SS : VL) : Prop where
  ht : H t = some (.tup [.ref x, .ref pr])
  ru : RowsU H pr R
  ok : R.ok
  wt : WorldT T H x R.b (nmM R.ps) (chM CS) (vsM BS) (vsM SS)
  md : Made T H R CS BS SS
theorem PairW.same {T : Top K mg} {H H' : Hp} {t x pr : Addr} {R : Rw} {CS : List (Addr × Cd)} {BS SS : VL} (a : PairW T H t x pr R CS BS SS) (e : Same H H') : PairW T H' t x pr R CS BS SS :=
  ⟨e _ _ a.ht, a.ru.same e, a.ok, a.wt.same e, a.md.same e⟩
theorem PairW.off {T : Top K mg} {H : Hp} {D t x pr : Addr} {us ws : List V} {R : Rw} {CS : List (Addr × Cd)} {BS SS : VL} (hD : H D = some (.lst us)) (a : PairW T H t x pr R CS BS SS) : PairW T (upd H D (.lst ws)) t x pr R CS BS SS :=
  ⟨by rw [upd_ne (fun e => by have := a.ht; rw [e, hD] at this; cases this)]; exact a.ht, a.ru.off hD, a.ok, a.wt.off hD, a.md.off hD⟩
def PairOk (T : Top K mg) (H : Hp) (v : V) : Prop := ∃ t x pr R CS BS SS, v = .ref t ∧ PairW T H t x pr R CS BS SS
theorem PairOk.same {T : Top K mg} {H H' : Hp} {v : V} (a : PairOk T H v) (e : Same H H') : PairOk T H' v := by
  obtain ⟨t, x, pr, R, CS, BS, SS, rfl, h⟩ := a
  exact ⟨t, x, pr, R, CS, BS, SS, rfl, h.same e⟩
theorem PairOk.off {T : Top K mg} {H : Hp} {D : Addr} {us ws : List V} {v : V} (hD : H D = some (.lst us)) (a : PairOk T H v) : PairOk T (upd H D (.lst ws)) v := by
  obtain ⟨t, x, pr, R, CS, BS, SS, rfl, h⟩ := a
  exact ⟨t, x, pr, R, CS, BS, SS, rfl, h.off hD⟩
theorem mem_cutV {xs : List V} {lo hi : Option Int} {v : V} (h : v ∈ cutV xs lo hi) : v ∈ xs := List.mem_of_mem_drop (List.mem_of_mem_take h)
theorem atI_neg1 (us : List V) (v : V) : atI (us ++ [v]) (-1) = some v := by
  have e : ixN (us ++ [v]).length (-1) = some us.length := by
    rw [List.length_append]
    unfold ixN
    simp
    exact ⟨by omega, by omega⟩
  unfold atI
  rw [e]
  simp
theorem PairOk.but {T : Top K mg} {H H' : Hp} {b : Addr} {n : Nat} {v : V} (B : Box H b n) (e : But b H H') (a : PairOk T H v) : PairOk T H' v := by
  obtain ⟨t, x, pr, R, CS, BS, SS, rfl, h⟩ := a
  have wi := (WIs.but (T := T) ⟨h.wt, h.md, h.ok⟩ B e)
  exact ⟨t, x, pr, R, CS, BS, SS, rfl, e _ _ (row_ne B h.ht) h.ht, h.ru.but B e, h.ok, wi.w, wi.m⟩
theorem ok_law (T : Top K mg) : FnG P w K mg base CX0 10 T.a_law T.d_law ["_law_script"] (spLaw K) := by
  have G_box := ok_box (P := P) (w := w) (base := base) T
  have G_world := ok_world (P := P) (w := w) (base := base) T
  have G_cell := ok_cell (P := P) (w := w) (base := base) T
  have G_few := ok_few (P := P) (w := w) (base := base) T
  have G_made := ok_made (P := P) (w := w) (base := base) T
  have G_right := ok_right (P := P) (w := w) (base := base) T
  refine okG T.F_law sc_law (fun vs H Q E h => ?_) (fun cdv A outer s H vs Q E hr hgd h => ?_)
  · obtain ⟨a, ns, rfl, _⟩ := h
    rfl
  · obtain ⟨a, ns, rfl, hS, hlen, _, hO, q⟩ := h
    refine ⟨_, (pss_cons (ps_set (i := 1) sc_law.nd rfl (by first | exact Or.inl rfl | exact Or.inr rfl) (pe_lst pa_nil))
      (pss_cons (ps_for PassesOwn.never rfl (pi_range1 (by rfl) T.n_range (pa_cons (pe_callB (c_max2) (by rfl) T.n_max (by decide +kernel) (pa_cons pe_int (pa_cons (pe_callB (c_min2) (by rfl) T.n_min (by decide +kernel) (pa_cons pe_int (pa_cons (pe_callB c_len (by rfl) T.n_len (by decide +kernel) (pa_cons (pv 0) pa_nil)) pa_nil))) pa_nil))) pa_nil)) (pg_name (i := 2) sc_law.nd rfl (by first | exact Or.inl rfl | exact Or.inr rfl))
        (pss_cons (ps_set (i := 3) sc_law.nd rfl (by first | exact Or.inl rfl | exact Or.inr rfl) (g_call G_box (hr.mono (by decide)) hgd (by rfl) T.m_box T.F_box.kp T.b_box .nil pass0 (pa_cons (g_call G_cell (hr.mono (by decide)) hgd (by rfl) T.m_cell T.F_cell.kp T.b_cell .nil pass0 (pa_cons (pv 0) (pa_cons (pv 2) pa_nil))) pa_nil)))
      (pss_cons (ps_set (i := 4) sc_law.nd rfl (by first | exact Or.inl rfl | exact Or.inr rfl) (g_call G_world (hr.mono (by decide)) hgd (by rfl) T.m_world T.F_world.kp T.b_world .nil pass0 (pa_cons (pv 3) (pa_cons (g_call G_few (hr.mono (by decide)) hgd (by rfl) T.m_few T.F_few.kp T.b_few .nil pass0 (pa_cons (pv 3) pa_nil)) pa_nil))))
      (pss_cons (ps_expr (pe_bm PySem.F.plainAttrs_list PySem.F.slot_list_append PySem.F.type_list_append mt_append (pv 1) (pa_cons (pe_tup (pa_cons (g_call G_made (hr.mono (by decide)) hgd (by rfl) T.m_made T.F_made.kp T.b_made .nil pass0 (pa_cons (pv 4) pa_nil)) (pa_cons (pv 4) pa_nil))) pa_nil)))
      (pss_one (ps_for PassesOwn.never rfl (pi_list (pe_slice sl_list (pv 1) (po_some (pe_un un_neg pe_int)) po_none)) (pg_tup rfl (pgs_cons (pg_name (i := 5) sc_law.nd rfl (by first | exact Or.inl rfl | exact Or.inr rfl)) (pgs_cons (pg_name (i := 6) sc_law.nd rfl (by first | exact Or.inl rfl | exact Or.inr rfl)) pgs_nil)))
        (pss_one (ps_if (pt_not (pt_val (g_call G_right (hr.mono (by decide)) hgd (by rfl) T.m_right T.F_right.kp T.b_right .nil pass0 (pa_cons (pv 3) (pa_cons (pv 5) (pa_cons (pv 6) pa_nil))))))
        (pss_one (ps_ret pe_bl))
        pss_nil))))))))
      (pss_one (ps_ret pe_bl)))), ?_⟩
    walk_at "rd"
    (intro al hal; generalize eal : upd _ al _ = J0; have N0 := New.of eal hal; clear eal hal)
    walk_at "rd"
    generalize hN : (if (if ((ns.map V.int).length : Int) < 6 then ((ns.map V.int).length : Int) else 6) > 2 then (if ((ns.map V.int).length : Int) < 6 then ((ns.map V.int).length : Int) else 6) else 2) = N
    have hN2 : 2 ≤ N ∧ N ≤ 8 := by rw [← hN]; split <;> split <;> omega
    refine ⟨N, rfl, by omega, by omega, ?_⟩
    have hal := N0.free
    refine for_range (lo := 0) (n := N.toNat) (fun i σ H' => Same H H' ∧ (∃ us : List V, H' al = some (.lst us) ∧ us.length = i ∧ ∀ v ∈ us, PairOk T H' v) ∧ ∃ s2 s3 s4 s5 s6, σ = [some (.ref a), some (.ref al), s2, s3, s4, s5, s6])
      ⟨N0.same, ⟨[], N0.at_, rfl, fun v h => by cases h⟩, _, _, _, _, _, rfl⟩ ?_ ?_
    · rintro i σ H1 hi ⟨s1, ⟨us, kal, lus, ous⟩, z2, z3, z4, z5, z6, rfl⟩
      have hi8 : i < 8 := by omega
      walk_at "rd"
      refine ⟨a, ns, _, rfl, s1.seq hS, by omega, by omega, fun z => ?_⟩
      walk_at "rd"
      refine ⟨z, rfl, fun b H2 hb s12 B2 => ?_⟩
      have nab : al ≠ b := ne_of_none kal hb
      walk_at "rd"
      refine ⟨b, 0, rfl, B2, by omega, fun sl g0 g1 g2 g3 H3 e3 B3 nsl ksl r0 r1 r2 r3 => ?_⟩
      walk_at "rd"
      refine ⟨b, sl, g0, g1, g2, g3, _, rfl, B3, by omega, nsl, ksl, r0, r1, r2, r3, fun pr R H4 e4 B4 ru o => ?_⟩
      have s14 : Same H1 H4 := But.to s12 (e3.trans e4) hb
      walk_at "rd"
      refine ⟨pr, R, rfl, ru, o, fun x CS BS SS H5 s5 fx wt md => ?_⟩
      walk_at "rd"
      (intro t ht; generalize et : upd _ t _ = J6; have N6 := New.of et ht; clear et ht)
      have s16 : Same H1 J6 := s14.trans (s5.trans N6.same)
      have B6 : Box J6 b 405 := ((B4.same s5).same N6.same).mono (by omega)
      walk_at "rd"
      have kal6 := s16 _ _ kal
      refine i_append kal6 (by omega) ?_
      generalize eJ : upd J6 al _ = J7
      have B7 : Box J7 b 405 := by rw [← eJ]; exact B6.upd nab
      have p7 : PairW T J7 t x pr R CS BS SS := by
        rw [← eJ]
        exact PairW.off kal6 ⟨N6.at_, ru.same (s5.trans N6.same), o, wt.same N6.same, md.same N6.same⟩
      have k7 : J7 al = some (.lst (us ++ [.ref t])) := by rw [← eJ, upd_same]
      have o7 : ∀ v ∈ us ++ [V.ref t], PairOk T J7 v := fun v hv => by
        rcases List.mem_append.mp hv with hv | hv
        · rw [← eJ]; exact ((ous v hv).same s16).off kal6
        · simp only [List.mem_cons, List.not_mem_nil, or_false] at hv
          exact ⟨t, x, pr, R, CS, BS, SS, hv, p7⟩
      have s7 : Same H J7 := fun c u h => by rw [← eJ, upd_ne (ne_of_none h hal)]; exact s16 _ _ (s1 _ _ h)
      clear eJ
      walk_at "rd"
      refine ⟨al, _, rfl, SqL.lst k7, ?_⟩
      (intro c1 hc1; generalize ec1 : upd _ c1 _ = J8; have N8 := New.of ec1 hc1; clear ec1 hc1)
      have lc1 := cutV_length (us ++ [V.ref t]) (some (-2)) none
      rw [List.length_append] at lc1
      have l1 : [V.ref t].length = 1 := rfl
      have zz : (100 : Nat) ≤ sizeLine := sz_of (by decide)
      have B8 := B7.nw N8
      have c1b := B7.off N8
      have o8 : ∀ v ∈ us ++ [V.ref t], PairOk T J8 v := fun v hv => (o7 v hv).same N8.same
      have k8 := N8.app k7
      have hbH : H b = none := sfree s1 hb
      have lc2 : (cutV (us ++ [V.ref t]) (some (-2)) none).length ≤ 2 := by
        unfold cutV
        rw [List.length_take, List.length_drop, HT.sIx_none]
        have e : HT.sIx (us ++ [V.ref t]).length 0 (some (-2)) = ((-2 : Int) + (((us ++ [V.ref t]).length : Nat) : Int)).toNat := by
          show (if (-2 : Int) < 0 then ((-2 : Int) + (((us ++ [V.ref t]).length : Nat) : Int)).toNat else min (-2 : Int).toNat (us ++ [V.ref t]).length) = _
          rw [if_pos (by decide)]
        rw [e]
        omega
      walk_at "rd"
      refine for_listK (SqL.lst N8.at_) (fun j σ H' => But b J8 H' ∧ Box H' b (405 + 70 * j) ∧ ∃ z5 z6, σ = [some (.ref a), some (.ref al), some (.int (0 + (i : Int))), some (.ref b), some (.ref pr), z5, z6])
        ⟨But.refl _ _, B8.mono (by omega), _, _, rfl⟩ (fun j σ H' _ h o ho => h.1 _ _ c1b ho) ?_ ?_
      · rintro j y σ H' hj ⟨e', B', y5, y6, rfl⟩
        have lj := (List.getElem?_eq_some_iff.mp hj).1
        have hy := mem_cutV (List.mem_of_getElem? hj)
        obtain ⟨t', x', pr', R', CS', BS', SS', rfl, p'⟩ := (o8 y hy).but B8 e'
        refine i_gtup (xs := [.ref x', .ref pr']) (SqT.tup p'.ht) rfl ?_
        walk_at "rd"
        refine ⟨b, x', pr', R', CS', BS', SS', _, rfl, B', by omega, ⟨p'.wt, p'.md, p'.ok⟩, p'.ru, fun H'' e'' B'' => ?_⟩
        walk_at "rd"
        exact ⟨e'.trans e'', B''.mono (by omega), _, _, rfl⟩
      · rintro σ HB ⟨eB, BB, y5, y6, rfl⟩
        walk_at "rd"
        have sHB : Same H HB := fun c u h => eB _ _ (ne_of_none h hbH) (N8.app (s7 _ _ h))
        refine ⟨sHB, ⟨us ++ [V.ref t], eB _ _ nab k8, by rw [List.length_append, lus, l1], fun v hv => (o8 v hv).but B8 eB⟩, _, _, _, _, _, rfl⟩
    · rintro σ H1 ⟨s1, ⟨us, kal, lus, ous⟩, z2, z3, z4, z5, z6, rfl⟩
      walk_at "rd"
      exact q _
end

end Ice

set_option Elab.async false
set_option linter.all false
set_option maxRecDepth 100000
set_option maxHeartbeats 4000000
set_option autoImplicit true
namespace Ice
open PySem PySem.Spec PyProof.Rows L2 TL
/-! side conditions, heaps, one step of a reading, and many -/
local macro_rules | `(tactic| walk_at "hp") => `(tactic| first | assumption | exact upd_same | exact New.at_ (by assumption) | (refine keepU ?_ (by assumption); walk_at "hp") | (refine New.app (by assumption) ?_; walk_at "hp") | (refine Same.app (by assumption) ?_; walk_at "hp") | (refine But.app (by assumption) (by assumption) ?_; walk_at "hp"))
local macro_rules | `(tactic| walk_at "sq") => `(tactic| first | assumption | exact SqL.lst (by walk_at "hp") | exact L2.Same.seq (New.same (by assumption)) (by assumption) | exact L2.Same.seq (by assumption) (by assumption))
local macro_rules | `(tactic| walk_at "len") => `(tactic| first | assumption | (simp only [List.length_cons, List.length_nil, List.length_append, List.length_map]; decide) | (refine Ice.sz_of ?_; simp only [List.length_cons, List.length_nil, List.length_append, List.length_map]; omega))
local macro_rules | `(tactic| walk_at "fresh") => `(tactic| (simp only [List.map_append, List.map_cons, List.map_nil, List.nil_append, List.cons_append]; decide +kernel))
local macro_rules | `(tactic| walk_at "sd") => `(tactic| first | assumption | (show _ ≠ _; omega) | exact Or.inl ⟨by omega, by omega⟩ | exact Or.inr ⟨by omega, by omega⟩ | exact ⟨by decide, by decide⟩ | exact ⟨by decide, by decide, by decide⟩ | exact ⟨by omega, by omega, by omega⟩)
/-! one step of a reading, and many -/
local macro_rules | `(tactic| walk_at "st") => `(tactic| first
  | with_reducible refine i_seq ?_
  | with_reducible refine i_if ?_
  | with_reducible refine i_next ?_
  | with_reducible refine i_ret ?_
  | with_reducible refine i_retN ?_
  | with_reducible refine i_drop ?_
  | with_reducible refine i_asg ?_
  | with_reducible refine i_gname ?_
  | with_reducible refine i_gsub ?_
  | ((with_reducible refine i_var (v := ?vv) ?hv ?_); (case hv => exact rfl))
  | with_reducible refine i_c ?_
  | with_reducible refine i_op ?_
  | with_reducible refine i_un ?_
  | with_reducible refine i_test ?_
  | with_reducible refine i_tB ?_
  | with_reducible refine i_and ?_
  | with_reducible refine i_or ?_
  | with_reducible refine i_not ?_
  | with_reducible refine i_andV ?_
  | with_reducible refine i_orV ?_
  | with_reducible refine i_notV ?_
  | with_reducible refine i_ifE ?_
  | with_reducible refine i_chain ?_
  | with_reducible refine i_bl ?_
  | with_reducible refine i_nil ?_
  | with_reducible refine i_cons ?_
  | with_reducible refine i_call ?_
  | with_reducible refine i_cb ?_
  | with_reducible refine i_rI0 ?_
  | with_reducible refine i_rU ?_
  | ((with_reducible refine i_rEq ?hs ?_); (case hs => exact rfl))
  | ((with_reducible refine i_rNe ?hs ?_); (case hs => exact rfl))
  | ((with_reducible refine i_rI ?hc ?_); (case hc => walk_at "sd"))
  | ((with_reducible refine i_ixL (xs := ?xs) (v := ?vv) ?hS ?he ?_); (case hS => walk_at "sq"); (case he => exact rfl))
  | ((with_reducible refine i_setL (xs := ?xs) (j := ?jj) ?hS ?he ?_); (case hS => walk_at "hp"); (case he => exact rfl))
  | with_reducible refine i_tup ?_
  | with_reducible refine i_lst ?_
  | with_reducible refine i_bm ?_
  | with_reducible refine i_bm0 ?_
  | with_reducible refine i_m1 ?_
  | with_reducible refine i_sl ?_
  | with_reducible refine i_nopart ?_
  | with_reducible refine i_part ?_
  | with_reducible refine i_int ?_
  | with_reducible refine i_str ?_
  | with_reducible refine i_for ?_
  | with_reducible refine i_yes ?_
  | ((with_reducible refine i_lenL (xs := ?xs) ?hS ?_); (case hS => walk_at "sq"))
  | ((with_reducible refine i_room ?hz ?_); (case hz => walk_at "len"))
  | with_reducible refine i_leT ?_
  | with_reducible refine i_notInS ?_
  | with_reducible refine i_inS ?_
  | with_reducible refine i_find ?_
  | with_reducible refine i_isB ?_
  | with_reducible refine i_max2 ?_
  | with_reducible refine i_min2 ?_
  | with_reducible exact trivial
  | with_reducible refine iteT ?_
  | with_reducible refine iteF ?_
  | with_reducible refine i_isstr ?_
  | with_reducible refine i_lc ?_
  | ((with_reducible refine i_cat (xs := ?xs) (zs := ?zs) ?ha ?hb ?hz ?_); (case ha => walk_at "hp"); (case hb => walk_at "hp"); (case hz => walk_at "len"))
  | ((with_reducible refine i_tyL (xs := ?xs) ?ha ?_); (case ha => walk_at "hp"))
  | with_reducible refine i_list ?_
  | with_reducible refine i_disp ?_
  | with_reducible refine i_pairs0 ?_
  | with_reducible refine i_pairs ?_
  | with_reducible refine i_newK ?_
  | with_reducible refine i_gcons ?_
  | with_reducible refine i_gnil ?_
  | with_reducible refine i_revL ?_
  | with_reducible refine i_rng1 ?_
  | ((with_reducible refine i_wipe ?hw ?_); (case hw => exact rfl))
  | with_reducible refine iteNT ?_
  | with_reducible refine iteNF ?_)
local macro_rules | `(tactic| walk_at "rd") => `(tactic| repeat (walk_at "st"))

end Ice
set_option maxHeartbeats 0 in
theorem PySem.Challenge.cw_iceopened_k76_turned_more_and_less_holds : PySem.Challenge.rw_iceopened_k76_turned_more_and_less.Holds := by
  exact Ice.head_of fun _ _ _ _ _ T => Ice.ok_law T

