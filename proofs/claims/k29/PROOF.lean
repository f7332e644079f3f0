import PyProof.Rows.All
import Wide.All
import OpenK.AllK
import Wide.FinOn
import HandS.ForMost
import HandS.Wide
import HandS.Style
import HandS.IsInst
import HandS.Codes
import HandS.Steps
import PyProof.ReprRoads
import HandS.ForExc
import HandS.EndBits
import KE.IntTextLaws
import HandS.ExcInit
import HandS.ExcField
import HandS.TryMany
import KE.KEqDict
import HandS.TryOnly
import KE.KEqNest
import HandS.More
import HandS.Iter
import HandS.Walk
import HandS.Deep
import HandS.SetFor
import HandS.SortRule
import KE.DataFind
import HandS.Rev
import HandS.Zip
import KE.RegKIsAll
import PySem.Challenge.RW_iceopened_k29_whole_breakings_alone
set_option Elab.async false
set_option linter.all false
set_option maxRecDepth 100000
set_option maxHeartbeats 4000000
/-! The steps of a reading, one lemma for each construct; facts of heaps. -/
namespace Ice
open PySem PySem.Spec PyProof.Rows L2
section
variable {σ : L2.St} {H H' : Hp} {D : Ends} {t u : TS} {c tt tu : TT} {te ta tb tc : TE} {tA : TA} {Q : VK} {QA : List V → Hp → Prop} {QT : Bool → Hp → Prop} {i : Nat} {v x y : V} {g : TG} {r : R2}
theorem i_seq (h : t { D with nx := u D } σ H) : tSeq t u D σ H := h
theorem i_if (h : c σ H fun b H1 => if b = true then t D σ H1 else u D σ H1) : tIfS c t u D σ H := h
theorem i_next (h : D.nx σ H) : tNext D σ H := h
theorem i_brk (h : D.bk σ H) : tBreak D σ H := h
theorem i_cont (h : D.ct σ H) : tCont D σ H := h
theorem i_ret (h : te σ H D.rt) : tRet te D σ H := h
theorem i_retN (h : D.rt .non H) : tRetN D σ H := h
theorem i_drop (h : te σ H fun _ H1 => D.nx σ H1) : tDrop te D σ H := h
theorem i_asg (h : te σ H fun x H1 => g x σ H1 D.nx) : tAsg te g D σ H := h
theorem i_gname {q : L2.St → Hp → Prop} (h : q (σ.set i (some v)) H) : gName i v σ H q := h
theorem i_gsub {to ti : TE} {s : TSet} {q : L2.St → Hp → Prop} (h : to σ H fun o H1 => ti σ H1 fun i H2 => s o i v H2 fun H3 => q σ H3) : gSub to ti s v σ H q := h
theorem i_var (h : σ[i]? = some (some v)) (q : Q v H) : tVar i σ H Q := ⟨v, h, q⟩
theorem i_c (q : Q v H) : tC v σ H Q := q
theorem i_op (h : ta σ H fun x H1 => tb σ H1 fun y H2 => r x y H2 Q) : tOp r ta tb σ H Q := h
theorem i_un {r : V → Hp → VK → Prop} (h : ta σ H fun x H1 => r x H1 Q) : tUn r ta σ H Q := h
theorem i_test (h : te σ H fun x H' => ∃ k, x = .bl k ∧ QT k H') : tTest te σ H QT := h
theorem i_tB (h : te σ H fun x H' => ∃ k, x = .bl k ∧ QT k H') : tB te σ H QT := h
theorem i_and (h : c σ H fun b H1 => if b = true then tt σ H1 QT else QT false H1) : tAnd c tt σ H QT := h
theorem i_or (h : c σ H fun b H1 => if b = true then QT true H1 else tt σ H1 QT) : tOr c tt σ H QT := h
theorem i_not (h : c σ H fun b H1 => QT (!b) H1) : tNot c σ H QT := h
theorem i_andV (h : ta σ H fun x H1 => ∃ c, x = .bl c ∧ if c = true then tb σ H1 Q else Q (.bl false) H1) : tAndV ta tb σ H Q := h
theorem i_orV (h : ta σ H fun x H1 => ∃ c, x = .bl c ∧ if c = true then Q (.bl true) H1 else tb σ H1 Q) : tOrV ta tb σ H Q := h
theorem i_notV (h : ta σ H fun x H1 => ∃ c, x = .bl c ∧ Q (.bl (!c)) H1) : tNotV ta σ H Q := h
theorem i_ifE (h : c σ H fun b H1 => if b = true then ta σ H1 Q else tb σ H1 Q) : tIf c ta tb σ H Q := h
theorem i_bl {b : Bool} {q : Bool → Prop} (h : q b) : ∃ k, V.bl b = .bl k ∧ q k := ⟨b, rfl, h⟩
theorem i_nil (q : QA [] H) : tNil σ H QA := q
theorem i_cons (h : te σ H fun x H1 => tA σ H1 fun xs H2 => QA (x :: xs) H2) : tCons te tA σ H QA := h
theorem i_call {sp : Sp} {dvs : List V} {E : XK} (h : tA σ H fun vs H1 => sp (vs ++ dvs) H1 Q E) : tCall sp dvs E tA σ H Q := h
theorem i_cb {r : List V → Hp → VK → Prop} (h : tA σ H fun vs H1 => r vs H1 Q) : tCB r tA σ H Q := h
theorem i_rI0 {f : Int → Int → V} {a b : Int} (q : Q (f a b) H) : rI0 f (.int a) (.int b) H Q := ⟨a, b, rfl, rfl, q⟩
theorem i_rI {C : Int → Int → Prop} {f : Int → Int → V} {a b : Int} (hc : C a b) (q : Q (f a b) H) : rI C f (.int a) (.int b) H Q := ⟨a, b, rfl, rfl, hc, q⟩
theorem i_rU {f : Int → V} {a : Int} (q : Q (f a) H) : rU f (.int a) H Q := ⟨a, rfl, q⟩
theorem i_rEq (h : scal x y = true) (q : Q (.bl (decide (x = y))) H) : rEq x y H Q := ⟨h, q⟩
theorem i_rNe (h : scal x y = true) (q : Q (.bl (!decide (x = y))) H) : rNe x y H Q := ⟨h, q⟩
theorem i_chain {r' : R2} (h : ta σ H fun x H1 => tb σ H1 fun y H2 => r x y H2 fun z H3 => ∃ k, z = .bl k ∧ (if k = true then tc σ H3 fun w' H4 => r' y w' H4 Q else Q (.bl false) H3)) : tChain r r' ta tb tc σ H Q := h
theorem i_tup (h : tA σ H fun xs H1 => xs.length ≤ sizeLine ∧ ∀ p, H1 p = none → Q (.ref p) (upd H1 p (.tup xs))) : tTup tA σ H Q := h
theorem i_lst (h : tA σ H fun xs H1 => xs.length ≤ sizeLine ∧ ∀ p, H1 p = none → Q (.ref p) (upd H1 p (.lst xs))) : tLst tA σ H Q := h
theorem i_bm {K : PySem.W.Frag} {T : String} {r : V → List V → Hp → VK → Prop} (h : te σ H fun x H1 => tyV K T x H1 ∧ tA σ H1 fun xs H2 => r x xs H2 Q) : tBM K T r te tA σ H Q := h
theorem i_bm0 {K : PySem.W.Frag} {T : String} {r : V → List V → Hp → VK → Prop} (h : te σ H fun x H1 => tyV K T x H1 ∧ r x [] H1 Q) : tBM0 K T r te σ H Q := h
theorem i_m1 {r : V → List V → Hp → VK → Prop} (h : te σ H fun x H1 => (∃ a, x = .str a) ∧ tb σ H1 fun y H2 => r x [y] H2 Q) : tM1 r te tb σ H Q := h
theorem i_sl {r : V → Option Int → Option Int → Hp → VK → Prop} {tl th : TO} (h : te σ H fun x H1 => tl σ H1 fun a H2 => th σ H2 fun b H3 => r x a b H3 Q) : tSl r te tl th σ H Q := h
theorem i_nopart {q : Option Int → Hp → Prop} (h : q none H) : tNoPart σ H q := h
theorem i_part {q : Option Int → Hp → Prop} (h : te σ H fun x H1 => ∃ i, x = .int i ∧ q (some i) H1) : tPart te σ H q := h
theorem i_int {a : Int} {q : Int → Prop} (h : q a) : ∃ k, V.int a = .int k ∧ q k := ⟨a, rfl, h⟩
theorem i_str {a : Str} {q : Str → Prop} (h : q a) : ∃ k, V.str a = .str k ∧ q k := ⟨a, rfl, h⟩
theorem i_for {wi : TI} {tb : TS} (h : wi σ H fun J H1 => ∃ W : Nat → Nat → L2.St → Hp → Prop, (∃ m, W 0 m σ H1) ∧ ∀ i m σ H, W i m σ H →
      (J.stop i H ∧ D.nx σ H) ∨ (J.go i H ∧ ∃ N : L2.St → Hp → Prop, (∀ σ' H', N σ' H' → ∃ m', m' < m ∧ W (i + 1) m' σ' H') ∧ ∀ x H', J.yld i H x H' → g x σ H' fun σ2 H2 => tb { D with nx := N, ct := N, bk := D.nx } σ2 H2)) : tFor wi g tb D σ H := h
theorem i_yes {q : Bool → Hp → Prop} (h : q true H) : tYes σ H q := h
theorem ifs {b : Bool} {A B : Prop} (h1 : b = true → A) (h2 : b = false → B) : if b = true then A else B := by
  cases b with
  | true => exact h1 rfl
  | false => exact h2 rfl
end
/-! ### heaps -/
/-- all but what stands at b is as it was -/
def But (b : Addr) (H H' : Hp) : Prop := ∀ a o, a ≠ b → H a = some o → H' a = some o
theorem But.refl (b : Addr) (H : Hp) : But b H H := fun _ _ _ h => h
theorem But.trans {b : Addr} {H H1 H2 : Hp} (e : But b H H1) (e' : But b H1 H2) : But b H H2 := fun a o n h => e' a o n (e a o n h)
theorem But.set {b : Addr} {H : Hp} (o : HO) : But b H (upd H b o) := fun a u n h => by rw [upd_ne n]; exact h
theorem But.new {b p : Addr} {H : Hp} (o : HO) (hp : H p = none) : But b H (upd H p o) := fun a u n h => by rw [upd_ne (ne_of_none h hp)]; exact h
theorem Same.new {p : Addr} {H : Hp} (o : HO) (hp : H p = none) : Same H (upd H p o) := fun a u h => by rw [upd_ne (ne_of_none h hp)]; exact h
theorem Same.but {b : Addr} {H H' : Hp} (e : Same H H') : But b H H' := fun a o _ h => e a o h
/-- behind a change at b that H doesn't know -/
theorem But.same {b : Addr} {H H' : Hp} (e : But b H H') (hb : H b = none) : Same H H' := fun a o h => e a o (ne_of_none h hb) h
theorem keepU {H : Hp} {b p : Addr} {o u : HO} (h : H b = some o) (n : H p = none) : upd H p u b = some o := by rw [upd_ne (ne_of_none h n)]; exact h
theorem freeU {H : Hp} {b p : Addr} {u : HO} (h : upd H p u b = none) : H b = none := by
  by_cases e : b = p
  · subst e; rw [upd_same] at h; cases h
  · rw [upd_ne e] at h; exact h
theorem freeNe {H : Hp} {b p : Addr} {u : HO} (h : upd H p u b = none) : b ≠ p := fun e => by subst e; rw [upd_same] at h; cases h
theorem But.free {b p : Addr} {H H' : Hp} (e : But b H H') (n : p ≠ b) (h : H' p = none) : H p = none := by
  cases q : H p with
  | none => rfl
  | some o => rw [e p o n q] at h; cases h
theorem SqL.lst {K : PySem.W.Frag} {H : Hp} {a : Addr} {xs : List V} (h : H a = some (.lst xs)) : SqL K H a xs := .inl (.inl h)
theorem SqT.tup {K : PySem.W.Frag} {H : Hp} {a : Addr} {xs : List V} (h : H a = some (.tup xs)) : SqT K H a xs := .inl (.inl h)
/-- a law's script: what is read never changes -/
theorem SqL.but {K : PySem.W.Frag} {b : Addr} {H H' : Hp} {a : Addr} {xs : List V} (e : But b H H') (n : a ≠ b) (h : SqL K H a xs) : SqL K H' a xs := by
  rcases h with (h | ⟨o, h⟩) | h
  · exact .inl (.inl (e _ _ n h))
  · exact .inl (.inr ⟨o, e _ _ n h⟩)
  · exact .inr h
section
variable {H H' : Hp} {Q : VK} {K : PySem.W.Frag}
theorem i_ixL {p : Addr} {xs : List V} {i : Int} {v : V} (hS : SqL K H p xs) (he : atI xs i = some v) (q : Q v H) : rIxL K (.ref p) (.int i) H Q := ⟨p, xs, i, v, rfl, rfl, hS, he, q⟩
theorem i_ixT {p : Addr} {xs : List V} {i : Int} {v : V} (hS : SqT K H p xs) (he : atI xs i = some v) (q : Q v H) : rIxT K (.ref p) (.int i) H Q := ⟨p, xs, i, v, rfl, rfl, hS, he, q⟩
theorem i_ixS {z : Str} {i : Int} {c : Nat} (hz : z.length ≤ sizeLine) (he : atI z.cps.toList i = some c) (q : Q (.str ⟨#[c]⟩) H) : rIxS (.str z) (.int i) H Q := ⟨z, i, c, rfl, rfl, hz, he, q⟩
theorem i_setL {p : Addr} {xs : List V} {k : Int} {j : Nat} {v : V} {q : Hp → Prop} (h : H p = some (.lst xs)) (hj : ixN xs.length k = some j) (hq : q (upd H p (.lst (xs.set j v)))) : rSetL (.ref p) (.int k) v H q := ⟨p, xs, k, j, rfl, rfl, h, hj, hq⟩
end
/-! ### rules by name -/
def rLen (K : PySem.W.Frag) : List V → Hp → VK → Prop := fun xs H Q => ∃ p ys, xs = [.ref p] ∧ (SqL K H p ys ∨ SqT K H p ys) ∧ Q (.int ys.length) H
def rLenS : List V → Hp → VK → Prop := fun xs H Q => ∃ x, xs = [.str x] ∧ x.length ≤ sizeLine ∧ Q (.int x.length) H
def rMax2 : List V → Hp → VK → Prop := fun xs H Q => ∃ i j, xs = [.int i, .int j] ∧ Q (.int (if j > i then j else i)) H
def rMin2 : List V → Hp → VK → Prop := fun xs H Q => ∃ i j, xs = [.int i, .int j] ∧ Q (.int (if j < i then j else i)) H
def rStrI : List V → Hp → VK → Prop := fun xs H Q => ∃ i, xs = [.int i] ∧ i.natAbs.log2 < 1920 ∧ Q (.str (toString i)) H
def rAddT : R2 := fun x y H Q => ∃ i j, x = .str i ∧ y = .str j ∧ i.length + j.length ≤ sizeLine ∧ Q (.str (i ++ j)) H
section
variable {X : Cx} {H H' : Hp} {Q : VK} {K : PySem.W.Frag}
theorem c_len : CallR X (.builtin "len") (rLen X.K) := call_len_seq
theorem c_lenS : CallR X (.builtin "len") rLenS := call_len_str
theorem c_max2 (hc : X.calm = true := by rfl) : CallR X (.builtin "max") rMax2 := call_max2 hc
theorem c_min2 (hc : X.calm = true := by rfl) : CallR X (.builtin "min") rMin2 := call_min2 hc
theorem c_strI : CallR X (.type "str") rStrI := call_str_int
theorem o_addT : OpR X (binaryOp .Add) rAddT := op_add_str
theorem i_lenL {p : Addr} {xs : List V} (hS : SqL K H p xs) (q : Q (.int xs.length) H) : rLen K [.ref p] H Q := ⟨p, xs, rfl, .inl hS, q⟩
theorem i_lenT {p : Addr} {xs : List V} (hS : SqT K H p xs) (q : Q (.int xs.length) H) : rLen K [.ref p] H Q := ⟨p, xs, rfl, .inr hS, q⟩
theorem i_lenS {x : Str} (hz : x.length ≤ sizeLine) (q : Q (.int x.length) H) : rLenS [.str x] H Q := ⟨x, rfl, hz, q⟩
theorem i_max2 {i j : Int} (q : Q (.int (if j > i then j else i)) H) : rMax2 [.int i, .int j] H Q := ⟨i, j, rfl, q⟩
theorem i_min2 {i j : Int} (q : Q (.int (if j < i then j else i)) H) : rMin2 [.int i, .int j] H Q := ⟨i, j, rfl, q⟩
theorem i_strI {i : Int} (h : i.natAbs.log2 < 1920) (q : Q (.str (toString i)) H) : rStrI [.int i] H Q := ⟨i, rfl, h, q⟩
theorem i_addT {x y : Str} (h : x.length + y.length ≤ sizeLine) (q : Q (.str (x ++ y)) H) : rAddT (.str x) (.str y) H Q := ⟨x, y, rfl, rfl, h, q⟩
end
/-- the box that numbers are drawn from -/
structure Box (H : Hp) (b : Addr) (n : Nat) : Prop where
  ex : ∃ (x y z : Int), H b = some (.lst [.int x, .int y, .int z]) ∧ 0 ≤ x ∧ 0 ≤ y ∧ y < 2147483629 ∧ 0 ≤ z ∧ z ≤ n
theorem Box.mono {H : Hp} {b : Addr} {n m : Nat} (h : Box H b n) (e : n ≤ m) : Box H b m := by
  obtain ⟨x, y, z, h1, h2, h3, h4, h5, h6⟩ := h
  exact ⟨x, y, z, h1, h2, h3, h4, h5, by omega⟩
theorem Box.same {H H' : Hp} {b : Addr} {n : Nat} (h : Box H b n) (e : Same H H') : Box H' b n := by
  obtain ⟨x, y, z, h1, h2⟩ := h
  exact ⟨x, y, z, e _ _ h1, h2⟩
/-- the law's own promise -/
def spLaw (K : PySem.W.Frag) : Sp := fun vs H Q _ => ∃ (a : Addr) (ns : List Int), vs = [.ref a] ∧ SqL K H a (ns.map V.int) ∧ ns.length ≤ 63 ∧ (∀ z ∈ ns, Builtin.Int.intBits z ≤ 1048576) ∧ Only H ∧ ∀ H', Q (.bl true) H'
theorem law_sp (K : PySem.W.Frag) (H : Hp) (a : Addr) (ns : List Int) (h1 : ns.length ≤ 63) (h2 : ∀ z ∈ ns, Builtin.Int.intBits z ≤ 1048576) (h3 : Only H) (h4 : SqL K H a (ns.map V.int)) :
    spLaw K [.ref a] H (fun v _ => v = .bl true) fun _ _ _ => False := ⟨a, ns, rfl, h4, h1, h2, h3, fun _ => rfl⟩
theorem sz_of {n : Nat} (h : n ≤ 100000) : n ≤ sizeLine := Nat.le_trans h (by decide)
theorem i_room {n : Nat} {B : Prop} (h : n ≤ sizeLine) (q : B) : n ≤ sizeLine ∧ B := ⟨h, q⟩
theorem iteNT {A B : Prop} (h : B) : if (!true) = true then A else B := h
theorem iteNF {A B : Prop} (h : A) : if (!false) = true then A else B := h
theorem i_cut {t u : TS} {D : Ends} {σ : L2.St} {H : Hp} (Mid : L2.St → Hp → Prop) (h1 : t { D with nx := Mid } σ H) (h2 : ∀ σ' H', Mid σ' H' → u D σ' H') : C8.tCut t u D σ H := ⟨Mid, h1, h2⟩
theorem i_isstr {x : Str} {B : Prop} (h : B) : (∃ a, V.str x = .str a) ∧ B := ⟨⟨x, rfl⟩, h⟩
theorem i_wipe {a b : L2.St} {vs : List Nat} {B : Prop} (h : wipe a vs = wipe b vs) (q : B) : wipe a vs = wipe b vs ∧ B := ⟨h, q⟩
theorem i_rng1 {tA : TA} {σ : L2.St} {H : Hp} {R : It → Hp → Prop} (h : tA σ H fun vs H1 => ∃ j : Int, vs = [.int j] ∧ -(2 ^ 62) ≤ j ∧ j < 2 ^ 62 ∧ R (Itr 0 j.toNat) H1) : iRng1 tA σ H R := h
theorem i_lc {wi : TI} {g : TG} {tt : TT} {te : TE} {vs : List Nat} {σ : L2.St} {H : Hp} {Q : VK} (h : wi σ H fun J H1 => ∀ D, H1 D = none → ∃ W : Nat → Nat → Hp → Prop, (∃ m, W 0 m (upd H1 D (.lst []))) ∧ ∀ i m H, W i m H →
    (J.stop i H ∧ Q (.ref D) H) ∨ (J.go i H ∧ ∃ Nx : Hp → Prop, (∀ H', Nx H' → ∃ m', m' < m ∧ W (i + 1) m' H') ∧ ∀ x H', J.yld i H x H' → g x (wipe σ vs) H' fun σ2 H2 => wipe σ2 vs = wipe σ vs ∧ tt σ2 H2 fun b H3 =>
      if b = true then te σ2 H3 fun y H4 => ∃ acc, H4 D = some (.lst acc) ∧ acc.length < sizeLine ∧ Nx (upd H4 D (.lst (acc ++ [y]))) else Nx H3)) : tLc wi g tt te vs σ H Q := h
theorem Box.ne {H : Hp} {b p : Addr} {n : Nat} (h : Box H b n) (hp : H p = none) : p ≠ b := by
  obtain ⟨x, y, z, h1, _⟩ := h
  exact (ne_of_none h1 hp).symm
theorem Box.upd {H : Hp} {b p : Addr} {n : Nat} {o : HO} (h : Box H b n) (hp : p ≠ b) : Box (upd H p o) b n := by
  obtain ⟨x, y, z, h1, h2⟩ := h
  exact ⟨x, y, z, by rw [upd_ne hp.symm]; exact h1, h2⟩
theorem But.upd {H H' : Hp} {b p : Addr} {o : HO} (e : But b H H') (hp : H p = none) : But b H (upd H' p o) := fun a u n h => by rw [upd_ne (ne_of_none h hp)]; exact e a u n h
theorem Box.new {H : Hp} {b p : Addr} {n : Nat} {o : HO} (h : Box H b n) (hp : H p = none) : Box (L2.upd H p o) b n := h.upd (h.ne hp)
theorem i_list {K : PySem.W.Frag} {te : TE} {σ : L2.St} {H : Hp} {R : It → Hp → Prop} (h : te σ H fun x H1 => ∃ a, x = .ref a ∧ (∃ xs, SqL K H1 a xs) ∧ R (Itl K a) H1) : iList K te σ H R := h
theorem i_revL {K : PySem.W.Frag} {te : TE} {σ : L2.St} {H : Hp} {Q : VK} (h : te σ H fun x H1 => ∃ a xs, x = .ref a ∧ SqL K H1 a xs ∧ ∀ p, H1 p = none → Q (.ref p) (upd H1 p (.lst xs.reverse))) : tRevL K te σ H Q := h
theorem But.to {b : Addr} {H H1 H2 : Hp} (s : Same H H1) (e : But b H1 H2) (hb : H b = none) : Same H H2 := fun a o h => e a o (ne_of_none h hb) (s a o h)
theorem Same.upd {H H' : Hp} {p : Addr} {o : HO} (s : Same H H') (hp : H p = none) : Same H (L2.upd H' p o) := fun a u h => by rw [upd_ne (ne_of_none h hp)]; exact s a u h
theorem i_disp {trs : List (TE × TE)} {σ : L2.St} {H : Hp} {Q : VK} (h : ∀ p, H p = none → tPairs trs σ (upd H p (.dK [])) fun ps H2 => H2 p = some (.dK []) ∧ ∃ kvs : List (Key × V), ps = kvs.map (fun kv => (kV kv.1, kv.2)) ∧ kvs.length ≤ 15 ∧ Q (.ref p) (upd H2 p (.dK (mergeK [] kvs)))) : tDisp trs σ H Q := h
theorem i_pairs0 {σ : L2.St} {H : Hp} {Q : List (V × V) → Hp → Prop} (h : Q [] H) : tPairs [] σ H Q := h
theorem i_pairs {tk tv : TE} {r : List (TE × TE)} {σ : L2.St} {H : Hp} {Q : List (V × V) → Hp → Prop} (h : tk σ H fun x H1 => tv σ H1 fun y H2 => tPairs r σ H2 fun ps H3 => Q ((x, y) :: ps) H3) : tPairs ((tk, tv) :: r) σ H Q := h
theorem i_newK {σ : L2.St} {H : Hp} {Q : VK} (h : ∀ p, H p = none → Q (.ref p) (upd H p (.dK []))) : tDNewK σ H Q := h
theorem i_gtup {K : PySem.W.Frag} {n : Nat} {t : TGs} {a : Addr} {xs : List V} {σ : L2.St} {H : Hp} {Q : L2.St → Hp → Prop} (hS : SqT K H a xs) (hl : xs.length = n) (q : t xs σ H Q) : gTup K n t (.ref a) σ H Q := ⟨a, xs, rfl, hS, hl, q⟩
theorem i_gcons {t : TG} {u : TGs} {v : V} {r : List V} {σ : L2.St} {H : Hp} {Q : L2.St → Hp → Prop} (q : t v σ H fun σ' H' => u r σ' H' Q) : gCons t u (v :: r) σ H Q := ⟨v, r, rfl, q⟩
theorem i_gnil {σ : L2.St} {H : Hp} {Q : L2.St → Hp → Prop} (q : Q σ H) : gNil [] σ H Q := ⟨rfl, q⟩
/-- p is new in H', and holds o -/
structure New (H : Hp) (p : Addr) (o : HO) (H' : Hp) : Prop where
  free : H p = none
  same : Same H H'
  at_ : H' p = some o
theorem New.mk' {H : Hp} {p : Addr} {o : HO} (hp : H p = none) : New H p o (upd H p o) := ⟨hp, Same.new o hp, upd_same⟩
theorem i_new {H : Hp} {o : HO} {G : Addr → Hp → Prop} (h : ∀ p H', New H p o H' → G p H') : ∀ p, H p = none → G p (upd H p o) := fun p hp => h p _ (.mk' hp)
theorem Box.nw {H H' : Hp} {b p : Addr} {n : Nat} {o : HO} (h : Box H b n) (N : New H p o H') : Box H' b n := h.same N.same
theorem Box.off {H H' : Hp} {b p : Addr} {n : Nat} {o : HO} (h : Box H b n) (N : New H p o H') : p ≠ b := h.ne N.free
theorem New.but {H H' : Hp} {b p : Addr} {o : HO} (N : New H p o H') : But b H H' := Same.but N.same
theorem Same.app {H H' : Hp} {a : Addr} {o : HO} (s : Same H H') (h : H a = some o) : H' a = some o := s a o h
theorem But.app {H H' : Hp} {a b : Addr} {o : HO} (s : But b H H') (n : a ≠ b) (h : H a = some o) : H' a = some o := s a o n h
theorem New.app {H H' : Hp} {a p : Addr} {o u : HO} (N : New H p o H') (h : H a = some u) : H' a = some u := N.same a u h
theorem i_cat {H : Hp} {Q : VK} {l b : Addr} {xs zs : List V} (hl : H l = some (.lst xs)) (hb : H b = some (.lst zs)) (hz : xs.length + zs.length ≤ sizeLine) (h : ∀ p, H p = none → Q (.ref p) (upd H p (.lst (xs ++ zs)))) : rCat (.ref l) (.ref b) H Q := ⟨l, b, xs, zs, rfl, rfl, hl, hb, hz, h⟩
theorem New.of {H H' : Hp} {p : Addr} {o : HO} (e : upd H p o = H') (hp : H p = none) : New H p o H' := e ▸ .mk' hp
theorem i_tyL {K : PySem.W.Frag} {H : Hp} {l : Addr} {xs : List V} {B : Prop} (h : H l = some (.lst xs)) (q : B) : tyV K "list" (.ref l) H ∧ B := ⟨.inl ⟨rfl, _, SqL.lst h⟩, q⟩
theorem i_append {H : Hp} {Q : VK} {l : Addr} {xs : List V} {v : V} (h : H l = some (.lst xs)) (hz : xs.length ≤ 100000) (q : Q .non (upd H l (.lst (xs ++ [v])))) : rAppend (.ref l) [v] H Q := ⟨l, xs, v, rfl, rfl, h, Nat.lt_of_le_of_lt hz (by decide), q⟩
theorem i_rng1v {j : Int} {R : It → Hp → Prop} {H : Hp} (h0 : 0 ≤ j) (h1 : j ≤ 1000000) (q : R (Itr 0 j.toNat) H) : ∃ j' : Int, [V.int j] = [.int j'] ∧ -(2 ^ 62) ≤ j' ∧ j' < 2 ^ 62 ∧ R (Itr 0 j'.toNat) H := ⟨j, rfl, by omega, by omega, q⟩
end Ice

set_option Elab.async false
set_option linter.all false
set_option maxRecDepth 100000
set_option maxHeartbeats 4000000
/-! A def's promise where no repr is under way (guards are none): as the layer's, with that one fact more. -/
namespace Ice
open PySem PySem.Spec PyProof.Rows L2
/-- as the layer's promise of a def, called where no repr is under way -/
structure FnG (P : Program) (w : World) (K : PySem.W.Frag) (mg : Str → Option Value) (base : Heap) (X0 : CXT) (k : Nat) (f : Addr) (fd : FuncData) (ps : List Str) (sp : Sp) : Prop where
  len : ∀ vs H Q E, sp vs H Q E → vs.length = ps.length
  run : ∀ (A : Around) (outer : List Env) (s : Shared) (H : Hp) (args : Args) (us : List Value) (vs : List V) (Q : VK) (E : XK),
    Room k A → A.guards = some [] → Env0 P w K mg base A outer s H → BindsTo s fd args (ps.zip us) → Vals vs us → sp vs H Q E →
      codeAny (model P w) A (.call (.ref f) args) (CR X0 outer P w H s Q E) s
section
variable {P : Program} {w : World} {K : PySem.W.Frag} {mg : Str → Option Value} {base : Heap} {X0 : CXT} {k j : Nat} {f : Addr} {fd : FuncData} {ps : List Str} {sp : Sp}
theorem FnG.of (F : FnOk P w K mg base X0 k f fd ps sp) : FnG P w K mg base X0 k f fd ps sp :=
  ⟨F.len, fun A outer s H args us vs Q E hr _ => F.run A outer s H args us vs Q E hr⟩
theorem FnG.mono (F : FnG P w K mg base X0 j f fd ps sp) (h : j ≤ k) : FnG P w K mg base X0 k f fd ps sp :=
  ⟨F.len, fun A outer s H args us vs Q E hr => F.run A outer s H args us vs Q E (hr.mono h)⟩
/-- a def of the text by its body, told where no repr is under way -/
theorem fn_ofG {name qual : Str} {params : Arguments} {body : List Stmt} {scope : Scope} {dV kV doc pm cdv ct oc : Value} {an od : Option Addr} {osl : Array (Option Value)} {N : List Str}
    (lk : K.lookup f = some ⟨oc, od, .func (PySem.W.fnOf name qual params body scope dV kV doc pm an cdv ct), osl⟩) (hcd : PySem.W.codeIn K cdv qual = true)
    (S : FnScope N ps scope) (len : ∀ vs H Q E, sp vs H Q E → vs.length = ps.length)
    (hbody : ∀ (A : Around) (outer : List Env) (s : Shared) (H : Hp) (vs : List V) (Q : VK) (E : XK), Room k (A.deeper (envOfC qual scope s.heap.objs.size f cdv)) → A.guards = some [] → sp vs H Q E →
      ∃ t, PSs (cxOf X0 P w K mg base N qual scope f cdv A outer s H E) body t ∧ t { nx := fun _ H' => Q .non H', rt := Q } (start N vs) H) :
    FnG P w K mg base X0 (k + 1) f (PySem.W.fnOf name qual params body scope dV kV doc pm an cdv ct) ps sp := by
  refine ⟨len, fun A outer s H args us vs Q E hr hgd e0 hb r hsp => ?_⟩
  have hl := len _ _ _ _ hsp
  have KX : K.In s.heap := e0.mod.kin.keeps (fun b o e => And.left (e0.bs b o e))
  have lim : s.heap.NoLimit := e0.mod.nolimit.keeps (fun b o e => And.left (e0.bs b o e))
  have hk2 : ∀ y ∈ ps.zip us, scope.names.lookup y.1 = some .local ∨
      (scope.names.lookup y.1 = some .cell ∧ ((cellsFrom (s.heap.objs.size + 1) scope.names []).lookup y.1).isSome = true) := by
    rintro ⟨n, v⟩ hy
    rcases S.par n (List.of_mem_zip hy).1 with q | q
    · exact Or.inl q
    · exact Or.inr ⟨q, PySem.W.cellsFrom_some _ _ _ (Or.inl q)⟩
  refine codeAny_call_function hr.depth (KX _ _ lk) rfl S.co S.gen rfl (PySem.W.codeRec_of KX hcd) (hb _ _ _ _ (wpAny_newFunctionEnv_cells S.kind hk2 (fun env he s1 x => ?_)))
  subst he
  refine And.intro (lim.keeps x.toInCall.keep) (codeAny_func ?_)
  obtain ⟨t, ht, hq⟩ := hbody A outer s H vs Q E (hr.deeper _) hgd hsp
  have I := inv_start (CX := X0) (P := P) (w := w) (K := K) (mg := mg) (base := base) (f := f) (cd := cdv) (A := A) (outer := outer) (E := E) S hr.hd e0 hl r x
  refine wpAny_mono (ht.run [] s1 (start N vs) H _ I hq) (fun fl s' hs => ?_) (fun e s' hs => hs)
  cases fl with
  | ret u => obtain ⟨v, σ', H', J, rv, q⟩ := hs; exact ⟨v, H', J.os, J.bare, J.base, J.hok, rv, q⟩
  | next => obtain ⟨σ', H', J, q⟩ := hs; exact ⟨V.non, H', J.os, J.bare, J.base, J.hok, rfl, q⟩
  | brk => obtain ⟨_, _, _, q⟩ := hs; exact q.elim
  | cont => obtain ⟨_, _, _, q⟩ := hs; exact q.elim
end
section
variable {P : Program} {w : World} {K : PySem.W.Frag} {mg : Str → Option Value} {base : Heap} {x qual : Str} {st : Stmt} {f : Addr} {fd : FuncData} {N ps : List Str} {k : Nat} {sp : Sp}
theorem okG (F : Fun K x qual st f fd) (S : FnScope N ps (defScope st)) (len : ∀ vs H Q E, sp vs H Q E → vs.length = ps.length)
    (hbody : ∀ (cdv : Value) (A : Around) (outer : List Env) (s : Shared) (H : Hp) (vs : List V) (Q : VK) (E : XK), Room k (A.deeper (envOfC qual (defScope st) s.heap.objs.size f cdv)) → A.guards = some [] → sp vs H Q E →
      ∃ t, PSs (cxOf CX0 P w K mg base N qual (defScope st) f cdv A outer s H E).nox (defBody st) t ∧ t { nx := fun _ H' => Q .non H', rt := Q } (start N vs) H) :
    FnG P w K mg base CX0 (k + 1) f fd ps sp := by
  obtain ⟨oc, od, kV, doc, pm, an, cdv, ct, osl, rfl, lk, hcd⟩ := F.ex
  refine fn_ofG lk hcd S len (fun A outer s H vs Q E hr hgd hsp => ?_)
  obtain ⟨t, h, q⟩ := hbody cdv A outer s H vs Q E hr hgd hsp
  exact ⟨t, h.nox, q⟩
theorem okGX (F : Fun K x qual st f fd) (S : FnScope N ps (defScope st)) (len : ∀ vs H Q E, sp vs H Q E → vs.length = ps.length)
    (hbody : ∀ (cdv : Value) (A : Around) (outer : List Env) (s : Shared) (H : Hp) (vs : List V) (Q : VK) (E : XK), Room k (A.deeper (envOfC qual (defScope st) s.heap.objs.size f cdv)) → A.guards = some [] → sp vs H Q E →
      ∃ t, PSs (cxOf (L2.CX P w) P w K mg base N qual (defScope st) f cdv A outer s H E) (defBody st) t ∧ t { nx := fun _ H' => Q .non H', rt := Q } (start N vs) H) :
    FnG P w K mg base (L2.CX P w) (k + 1) f fd ps sp := by
  obtain ⟨oc, od, kV, doc, pm, an, cdv, ct, osl, rfl, lk, hcd⟩ := F.ex
  exact fn_ofG lk hcd S len (fun A outer s H vs Q E hr hgd hsp => hbody cdv A outer s H vs Q E hr hgd hsp)
end
/-! ### calls of such defs -/
section
variable {X : Cx} {X0 : CXT} {k : Nat} {f C : Addr} {fd : FuncData} {ps : List Str} {sp : Sp} {dvs : List V} {ds : List Value} {E : XK} {x m : Str} {p pos apos : Pos} {e o : Expr} {es : List Expr} {ta : TE} {t : TA}
theorem run_g {pins : List (Addr × Obj)} {σ : L2.St} {H : Hp} {s : Shared} {Q : VK} {us : List Value} {vs : List V} (F : FnG X.prog X.w X.K X.mg X.base X0 k f fd ps sp) (hr : Room k X.A) (hgd : X.A.guards = some [])
    (hb : Binds X.K fd ps ds) (hd : Vals dvs ds) (hx : Passes X0 X E) (I : Inv X pins σ H s) (r : Vals vs us) (h : sp (vs ++ dvs) H Q E) :
    wpAny (model X.prog X.w) X.A (call (.ref f) us) (EP X pins σ Q) X.xe s := by
  have r2 := Vals.append r hd
  have hl : (us ++ ds).length = ps.length := (Vals.length r2).symm.trans (F.len _ _ _ _ h)
  refine wpAny_call (codeAny_mono (F.run X.A X.stack s H ⟨us, []⟩ (us ++ ds) (vs ++ dvs) Q E hr hgd I.env0 (hb s us I.kIn hl) r2 h) (fun r s' hq => ?_))
  match r, hq with
  | .error e, hq => exact hx pins σ H s e s' I hq
  | .ok (.ret u), hq => exact I.after hq
  | .ok .next, hq => exact False.elim hq
  | .ok .brk, hq => exact False.elim hq
  | .ok .cont, hq => exact False.elim hq
theorem g_call (F : FnG X.prog X.w X.K X.mg X.base X0 k f fd ps sp) (hr : Room k X.A) (hgd : X.A.guards = some []) (hg : Gl X x) (hm : X.mg x = some (.ref f)) (hk : PySem.W.keepIn X.K (.ref f) = true) (hb : Binds X.K fd ps ds) (hd : Vals dvs ds)
    (hx : Passes X0 X E) (ha : PA X (e :: es) t) (hdb : (x == ("__debug__" : Str)) = false := by decide) (he : starEach (e :: es) X.env = (false, eval e X.env) :: starEach es X.env := by rfl)
    (hpl : (backTo pos (starEach es X.env)).any (·.1) = false := by rfl) : PE X (.Call (.Name x p) (e :: es) [] pos) (tCall sp dvs E t) := by
  constructor
  intro pins s σ H Q I h
  refine wpAny_Call_Name_kw (ld_glob I hg hm (PySem.W.callWith_K (h₀ := X.base) I.ok.mod.kin hk ?_ he hpl) hdb)
  exact thn (ha.run pos pins s σ H _ I h) (fun us s1 ⟨vs, H1, I1, r, q⟩ => ⟨I1.kIn, run_g F hr hgd hb hd hx I1 r q⟩)
theorem g_call0 (F : FnG X.prog X.w X.K X.mg X.base X0 k f fd ps sp) (hr : Room k X.A) (hgd : X.A.guards = some []) (hg : Gl X x) (hm : X.mg x = some (.ref f)) (hk : PySem.W.keepIn X.K (.ref f) = true) (hb : Binds X.K fd ps ds) (hd : Vals dvs ds)
    (hx : Passes X0 X E) (hdb : (x == ("__debug__" : Str)) = false := by decide) : PE X (.Call (.Name x p) [] [] pos) (tCall sp dvs E tNil) := by
  constructor
  intro pins s σ H Q I h
  exact wpAny_Call_Name_kw (ld_glob I hg hm (PySem.W.callWith_K0 I.kIn hk (run_g (us := []) F hr hgd hb hd hx I .nil h)) hdb)
theorem g_meth {pl : Sem Bool} (he : PE X o ta) (c : Cls X.K C) (hm : Meth X.K C m f) (F : FnG X.prog X.w X.K X.mg X.base X0 k f fd ps sp) (hr : Room k X.A) (hgd : X.A.guards = some []) (hb : Binds X.K fd ps ds) (hd : Vals dvs ds)
    (hx : Passes X0 X E) (ha : PA X (e :: es) t) (hst : starEach (e :: es) X.env = (false, eval e X.env) :: starEach es X.env := by rfl) (hpl : (backTo pos (starEach es X.env)).any (·.1) = false := by rfl)
    (ht : eval (.Call (.Attribute o m apos) (e :: es) [] pos) X.env =
      (do let ov ← eval o X.env; standAt apos.atName; let (f, first) ← holding [ov] (getMethod ov m pl); callWith pos f first (backTo pos (starEach (e :: es) X.env)) (backToKw pos (keywordEach [] X.env))) := by rfl) :
    PE X (.Call (.Attribute o m apos) (e :: es) [] pos) (tMeth C m sp dvs E ta t) := by
  constructor
  intro pins s σ H Q I h
  refine PySem.W.methodCall_KW (pl := pl) (thn (he.run pins s σ H _ I h) (fun u s1 ⟨x, H1, I1, rx, a, dx, fs, ex, ea, l, q⟩ => ?_)) ht
  subst ex
  cases (show u = Value.ref a from rx)
  refine getmeth_ok I1 ea c hm l (PySem.W.callWith_K (first := [.ref a]) (h₀ := X.base) I.ok.mod.kin hm.kp ?_ hst hpl)
  exact thn (ha.run pos pins s1 σ H1 _ I1 q) (fun us s2 ⟨vs, H2, I2, r, q2⟩ => ⟨I2.kIn, run_g (us := .ref a :: us) (vs := .ref a :: vs) F hr hgd hb hd hx I2 (.cons rfl r) q2⟩)
theorem g_meth0 {pl : Sem Bool} (he : PE X o ta) (c : Cls X.K C) (hm : Meth X.K C m f) (F : FnG X.prog X.w X.K X.mg X.base X0 k f fd ps sp) (hr : Room k X.A) (hgd : X.A.guards = some []) (hb : Binds X.K fd ps ds) (hd : Vals dvs ds)
    (hx : Passes X0 X E)
    (ht : eval (.Call (.Attribute o m apos) [] [] pos) X.env =
      (do let ov ← eval o X.env; standAt apos.atName; let (f, first) ← holding [ov] (getMethod ov m pl); callWith pos f first (backTo pos (starEach [] X.env)) (backToKw pos (keywordEach [] X.env))) := by rfl) :
    PE X (.Call (.Attribute o m apos) [] [] pos) (tMeth C m sp dvs E ta tNil) := by
  constructor
  intro pins s σ H Q I h
  refine PySem.W.methodCall_KW (pl := pl) (thn (he.run pins s σ H _ I h) (fun u s1 ⟨x, H1, I1, rx, a, dx, fs, ex, ea, l, q⟩ => ?_)) ht
  subst ex
  cases (show u = Value.ref a from rx)
  exact getmeth_ok I1 ea c hm l (PySem.W.callWith_K0 (first := [.ref a]) I1.kIn hm.kp (run_g (us := [.ref a]) (vs := [.ref a]) F hr hgd hb hd hx I1 (.cons rfl .nil) q))
theorem make_guards {A : Around} {C : Addr} {us : List Value} {kw : List (Str × Value)} (h : A.guards = some []) : (A.under (.builtin "type.__call__" ⟨.ref C :: us, kw⟩)).guards = some [] := by
  show pushGuards (Code.guards (.builtin "type.__call__" ⟨.ref C :: us, kw⟩)) A.guards = some []
  rw [h]; rfl
theorem run_mk {pins : List (Addr × Obj)} {σ : L2.St} {H : Hp} {s : Shared} {Q : VK} {us : List Value} {vs : List V} (M : Mk X.K C f) (F : FnG X.prog X.w X.K X.mg X.base X0 k f fd ps sp) (hr : Room (k + 1) X.A) (hgd : X.A.guards = some [])
    (hb : Binds X.K fd ps ds) (hd : Vals dvs ds) (hx : Passes X0 X E) (I : Inv X pins σ H s) (r : Vals vs us)
    (h : ∀ x dx, H x = none → H dx = none → dx ≠ x → sp (.ref x :: (vs ++ dvs)) (upd (upd H dx (.own x)) x (.ins C dx [])) (fun v H2 => v = .non ∧ Q (.ref x) H2) E) :
    wpAny (model X.prog X.w) X.A (call (.ref C) us) (EP X pins σ Q) X.xe s := by
  have hq := h (s.heap.objs.size + 1) s.heap.objs.size (I.hok.fresh (Nat.le_succ _)) (I.hok.fresh (Nat.le_refl _)) (by simp)
  have I2 := Inv.made (C := C) I
  have r2 : Vals (V.ref (s.heap.objs.size + 1) :: (vs ++ dvs)) (Value.ref (s.heap.objs.size + 1) :: (us ++ ds)) := .cons rfl (Vals.append r hd)
  have hl : (Value.ref (s.heap.objs.size + 1) :: us ++ ds).length = ps.length := (Vals.length r2).symm.trans (F.len _ _ _ _ hq)
  have run := F.run _ X.stack _ _ ⟨Value.ref (s.heap.objs.size + 1) :: us, []⟩ (Value.ref (s.heap.objs.size + 1) :: (us ++ ds)) _ _ E (hr.make C us []) (make_guards hgd) (I2.env0.make C us [])
    (hb _ (Value.ref (s.heap.objs.size + 1) :: us) I2.kIn hl) r2 hq
  refine wpAny_call (make_map (f := f) I.kIn M.makes M.init (beq_iff_eq.mp M.fn) (codeAny_mono run (fun r s' hq' => ?_)))
  match r, hq' with
  | .error e, hq' => exact hx pins σ _ _ e s' I2 hq'
  | .ok (.ret u), hq' =>
    obtain ⟨v, H', I3, rv, ev, q3⟩ := I2.after hq'
    subst ev
    exact ⟨rv, V.ref (s.heap.objs.size + 1), H', I3, rfl, q3⟩
  | .ok .next, hq' => exact False.elim hq'
  | .ok .brk, hq' => exact False.elim hq'
  | .ok .cont, hq' => exact False.elim hq'
theorem g_make (M : Mk X.K C f) (F : FnG X.prog X.w X.K X.mg X.base X0 k f fd ps sp) (hr : Room (k + 1) X.A) (hgd : X.A.guards = some []) (hg : Gl X x) (hm : X.mg x = some (.ref C)) (hb : Binds X.K fd ps ds) (hd : Vals dvs ds) (hx : Passes X0 X E)
    (ha : PA X (e :: es) t) (hdb : (x == ("__debug__" : Str)) = false := by decide) (he : starEach (e :: es) X.env = (false, eval e X.env) :: starEach es X.env := by rfl)
    (hpl : (backTo pos (starEach es X.env)).any (·.1) = false := by rfl) : PE X (.Call (.Name x p) (e :: es) [] pos) (tMake C sp dvs E t) := by
  constructor
  intro pins s σ H Q I h
  refine wpAny_Call_Name_kw (ld_glob I hg hm (PySem.W.callWith_K (h₀ := X.base) I.ok.mod.kin M.kp ?_ he hpl) hdb)
  exact thn (ha.run pos pins s σ H _ I h) (fun us s1 ⟨vs, H1, I1, r, q⟩ => ⟨I1.kIn, run_mk M F hr hgd hb hd hx I1 r q⟩)
end
end Ice

set_option Elab.async false
set_option linter.all false
set_option maxRecDepth 100000
set_option maxHeartbeats 4000000
/-! The law's own call, where its def is told with no repr under way. -/
namespace Ice
open PySem PySem.Spec PyProof.Rows L2
section
variable {P : Program} {w : World} {K : PySem.W.Frag} {mg mb : Str → Option Value} {X0 : CXT} {k : Nat} {fa a : Addr} {fd : FuncData} {x : Str} {sp : Sp} {s : Shared} {vs : List Value} {ns : List Int}
/-- the heap at the law's entry, where at most the script at a is tracked -/
theorem law_at (KX : K.In s.heap) (hns : s.heap.Ns mainGlobals mg) (hb : s.heap.Ns builtinsNs mb) (hbb : ∀ y : Str, y ≠ "__name__" → mb y = bootBuiltins y) (hlim : s.heap.NoLimit) (hg : s.gens = #[])
    (ha : s.heap.get? a = some { cls := .type "list", data := .seq vs.toArray }) (hr : Room k callerA)
    (F : ∀ base : Heap, K.In base → base.Ns mainGlobals mg → FnG P w K mg base X0 k fa fd [x] sp) (hbind : ∀ (s : Shared) (u : Value), BindsTo s fd ⟨[u], []⟩ [(x, u)])
    (hX : ∀ H e s', X0 [] H s (fun _ _ _ => False) e s' → False) (H : Hp) (hO : Only H) (hsp : sp [.ref a] H (fun v _ => v = .bl true) fun _ _ _ => False)
    (ok : HOk P w H s.heap) (hA : ∀ b u, H b = some u → b = a) (hK : ∀ u, H a = some u → K.lookup a = none) :
    codeAny (model P w) callerA (.call (.ref fa) ⟨[.ref a], []⟩) (fun r s' => r = .ok (.ret (.bool true)) ∧ OldK s.heap s'.heap ∧ s'.os = s.os ∧ AllBare s'.gens) s := by
  -- a dict's object is not the script's
  have nd : ∀ {b : Addr} {o : Obj} {es : Array DictEntry} {ep : Nat}, s.heap.get? b = some o → o.data = .dict es ep → H b = none := by
    intro b o es ep e d
    match q : H b with
    | none => rfl
    | some u =>
      cases hA b u q
      rw [ha] at e
      cases e
      cases (show Data.seq vs.toArray _ = Data.dict es ep from d)
  have up : ∀ {b : Addr} {m : Str → Option Value}, s.heap.Ns b m → (hidT s.heap H).Ns b m := by
    rintro b m ⟨o, es, ep, e, d, r⟩
    exact ⟨o, es, ep, hidT_get e (nd e d), d, r⟩
  have KB : K.In (hidT s.heap H) := by
    intro b o e
    refine hidT_get (KX b o e) ?_
    match q : H b with
    | none => rfl
    | some u =>
      cases hA b u q
      rw [hK u q] at e
      cases e
  have md : Mod K mg (hidT s.heap H) := by
    obtain ⟨mc, l1, l2⟩ := hlim
    exact ⟨KB, up hns, ⟨mb, up hb, hbb⟩, mc, up l1, l2⟩
  have e0 : Env0 P w K mg (hidT s.heap H) callerA [] s H := by
    refine ⟨rfl, md, fun b o e => of_hidT e, Nat.le_of_eq (hidT_size _ _), trivial, ?_, ok, .of_eq hg⟩
    intro b z
    cases (show b ∈ ([] : List Addr) from z)
  have R := (F (hidT s.heap H) KB (up hns)).run callerA [] s H ⟨[.ref a], []⟩ [.ref a] [.ref a] _ _ hr rfl e0 (hbind s (.ref a)) (.cons rfl .nil) hsp
  refine codeAny_mono R ?_
  intro r s' h
  match r, h with
  | .error e, h => exact (hX H e s' h).elim
  | .ok .next, h => exact False.elim h
  | .ok .brk, h => exact False.elim h
  | .ok .cont, h => exact False.elim h
  | .ok (.ret u), h =>
    obtain ⟨v, H', os, bare, un, ok', r', q⟩ := h
    cases (show v = V.bl true from q)
    cases (show u = Value.bool true from r')
    refine ⟨rfl, OldK.of_keep ?_, os, bare⟩
    intro b o e
    match q : H b with
    | none => exact un.keep b o e q (fun z => by cases (show b ∈ ([] : List Addr) from z)) (by simp)
    | some u =>
      rcases hO b with z | ⟨ob, xs, z⟩
      · rw [q] at z; cases z
      · have e1 := (ok b _ z).1
        have e2 := (ok' b _ (un.frzs b ob _ z)).1
        rw [e] at e1
        cases e1
        exact e2
theorem law_callG (KX : K.In s.heap) (hns : s.heap.Ns mainGlobals mg) (hb : s.heap.Ns builtinsNs mb) (hbb : ∀ y : Str, y ≠ "__name__" → mb y = bootBuiltins y) (hlim : s.heap.NoLimit) (hg : s.gens = #[])
    (ha : s.heap.get? a = some { cls := .type "list", data := .seq vs.toArray }) (hi : IntsAre vs ns) (hl : ns.length ≤ sizeLine) (hr : Room k callerA)
    (F : ∀ base : Heap, K.In base → base.Ns mainGlobals mg → FnG P w K mg base X0 k fa fd [x] sp) (hbind : ∀ (s : Shared) (u : Value), BindsTo s fd ⟨[u], []⟩ [(x, u)])
    (hsp : ∀ H : Hp, Only H → SqL K H a (ns.map V.int) → sp [.ref a] H (fun v _ => v = .bl true) fun _ _ _ => False) (hX : ∀ H e s', X0 [] H s (fun _ _ _ => False) e s' → False) :
    codeAny (model P w) callerA (.call (.ref fa) ⟨[.ref a], []⟩) (fun r s' => r = .ok (.ret (.bool true)) ∧ OldK s.heap s'.heap ∧ s'.os = s.os ∧ AllBare s'.gens) s := by
  have rv := vals_ints hi
  have lv : vs.length = ns.length := hi.length
  match hk : K.lookup a with
  | some o =>
    have e := KX a o hk
    rw [ha] at e
    cases e
    have hS : SqL K (fun _ => none) a (ns.map V.int) := .inr ⟨_, vs.toArray, _, hk, rfl, rfl, rfl, (by rw [List.size_toArray, lv]; exact hl), by simpa using rv⟩
    have z : ∀ (b : Addr) (u : HO), ((fun _ => none : Hp) b = some u) → False := fun _ _ h => by cases h
    exact law_at KX hns hb hbb hlim hg ha hr F hbind hX _ (fun _ => .inl rfl) (hsp _ (fun _ => .inl rfl) hS) (fun b u q => (z b u q).elim) (fun b u q => (z b u q).elim) (fun u q => (z a u q).elim)
  | none =>
    let o : HO := .frz { cls := .type "list", data := .seq vs.toArray } (.lst (ns.map V.int))
    let H : Hp := fun b => if b = a then some o else none
    have at_a : H a = some o := if_pos rfl
    have only : ∀ b u, H b = some u → b = a ∧ u = o := by
      intro b u q
      by_cases e : b = a
      · subst e; rw [at_a] at q; exact ⟨rfl, (Option.some.inj q).symm⟩
      · rw [show H b = none from if_neg e] at q; cases q
    have hO : Only H := by
      intro b
      by_cases e : b = a
      · subst e; exact .inr ⟨_, _, at_a⟩
      · exact .inl (if_neg e)
    have hok : HOk P w H s.heap := by
      intro b u q
      obtain ⟨rfl, rfl⟩ := only b u q
      exact ⟨ha, by rw [List.length_map]; exact hl, vs, _, rv, ha⟩
    exact law_at KX hns hb hbb hlim hg ha hr F hbind hX H hO (hsp H hO (.inl (.inr ⟨_, at_a⟩))) hok (fun b u q => (only b u q).1) (fun _ _ => hk)
end
/-- the end of a law, with the bits of its script told -/
theorem walkG {l : PySem.W.OpenLaw} {n k : Nat} {q : Program} {loose : List Str} {XP : (Str → Option Value) → Heap → Prop} {YP : World → Heap → Prop} {d : DefRec} {K : Params → PySem.W.Frag} {sp : PySem.W.Frag → Sp} {x : Str}
    (hn : l.most = some n) (hn2 : n ≤ sizeLine) (hdf : d.params.defaults = []) (hr : Room k callerA) (hY : ∀ (w : World) (h : Heap), YP w h → (K w.params).In h)
    (F : ∀ (w : World) (mg : Str → Option Value) (fa : Addr) (h : Heap), (K w.params).In h → h.Ns mainGlobals mg → mg d.name = some (.ref fa) →
      ∃ fd : FuncData, (∀ (s : Shared) (u : Value), BindsTo s fd ⟨[u], []⟩ [(x, u)]) ∧
        ∀ base : Heap, (K w.params).In base → base.Ns mainGlobals mg → FnG l.prog w (K w.params) mg base CX0 k fa fd [x] (sp (K w.params)))
    (hsp : ∀ (K : PySem.W.Frag) (H : Hp) (a : Addr) (ns : List Int), ns.length ≤ n → (∀ z ∈ ns, Builtin.Int.intBits z ≤ 1048576) → Only H → SqL K H a (ns.map V.int) → sp K [.ref a] H (fun v _ => v = .bl true) fun _ _ _ => False) :
    PySem.W.WalkO q loose XP YP l.row.toRowW d [] (fun f vs => PySem.call f vs) := by
  refine Att.attach_callB hn hdf (fun w s₀ s₁ mg mb fa o pm cd doc a vs ns G Y ho hd hcd hmg hobj hints hlen hbits hg => ?_)
  obtain ⟨fd, hb, hF⟩ := F w mg fa _ (hY w _ Y) G.T.g hmg
  exact law_callG (hY w _ Y) G.T.g G.T.b G.T.builtins G.T.nolimit hg hobj hints (Nat.le_trans hlen hn2) hr hF hb (fun H hO hS => hsp _ H a ns hlen hbits hO hS) (fun H e s' h => h)
end Ice

set_option Elab.async false
set_option linter.all false
set_option maxRecDepth 100000
set_option maxHeartbeats 4000000
/-! repr of data at any depth, dicts of plain things within tuples among them. -/
namespace Ice
open PySem PySem.Spec PyProof.Rows L2
/-- a plain thing -/
inductive Ds : V → PyData → Prop
  | non : Ds .non .none
  | bl (b : Bool) : Ds (.bl b) (.bool b)
  | int (i : Int) : Ds (.int i) (.int i)
  | str (x : Str) : Ds (.str x) (.str x)
def kD : Key → PyData
  | .inl i => .int i
  | .inr x => .str x
mutual
/-- data without lists; dicts hold plain things -/
inductive Dd (K : PySem.W.Frag) (H : Hp) : V → PyData → Prop
  | sc {v : V} {d : PyData} : Ds v d → Dd K H v d
  | tup {a : Addr} {xs : List V} {ds : List PyData} : SqT K H a xs → DdAll K H xs ds → Dd K H (.ref a) (.tuple ds)
  | dct {a : Addr} {kvs : List (Key × V)} {ds : List PyData} : H a = some (.dK kvs) → Paired Ds (kvs.map (·.2)) ds → Dd K H (.ref a) (.dict ((kvs.map fun kv => kD kv.1).zip ds))
inductive DdAll (K : PySem.W.Frag) (H : Hp) : List V → List PyData → Prop
  | nil : DdAll K H [] []
  | cons {v : V} {vs : List V} {d : PyData} {ds : List PyData} : Dd K H v d → DdAll K H vs ds → DdAll K H (v :: vs) (d :: ds)
end
theorem Ds.reads {h : Heap} {v : V} {u : Value} {d : PyData} (s : Ds v d) (r : RelV v u) : Reads h u d [] := by
  cases s with
  | non => cases (show u = .none from r); exact .none
  | bl b => cases (show u = .bool b from r); exact .bool b
  | int i => obtain ⟨t, rfl⟩ := (show ∃ t, u = .int i t from r); exact .int i t
  | str x => obtain ⟨t, rfl⟩ := (show ∃ t, u = .str x t from r); exact .str x t
theorem Ds.readsAll {h : Heap} : ∀ {vs : List V} {us : List Value} {ds : List PyData}, Paired Ds vs ds → Vals vs us → ReadsAll h us ds []
  | [], _, _, .nil, .nil => .nil
  | _ :: _, _, _, .cons s t, .cons r q => .cons (Ds.reads s r) (Ds.readsAll t q)
theorem kD_reads {h : Heap} {k : Key} {u : Value} (e : keyIs k u = true) : Reads h u (kD k) [] := by
  rcases keyIs_shape e with ⟨i, t, rfl, rfl⟩ | ⟨x, t, rfl, rfl⟩
  · exact .int i t
  · exact .str x t
theorem kv_reads {P : Program} {w : World} {h : Heap} {es : List DictEntry} {us : List (Key × Value)} (p : Pairs (mixKind P w) es us) : ∀ (kvs : List (Key × V)) (ds : List PyData), KV kvs us → Paired Ds (kvs.map (·.2)) ds →
    ReadsAll h (es.map (·.key)) (((kvs.map fun kv => kD kv.1).zip ds).map (·.1)) [] ∧ ReadsAll h (es.map (·.val)) (((kvs.map fun kv => kD kv.1).zip ds).map (·.2)) [] := by
  induction p with
  | nil =>
    intro kvs ds hk hd
    cases kvs with
    | cons _ _ => cases hk
    | nil => exact ⟨.nil, .nil⟩
  | @cons e u es us h1 h2 h3 ih =>
    intro kvs ds hk hd
    cases kvs with
    | nil => cases hk
    | cons kv kvs =>
      cases hk with
      | cons e1 hk =>
        cases ds with
        | nil => cases hd
        | cons d ds =>
          cases hd with
          | cons s1 hd =>
            obtain ⟨r1, r2⟩ := ih kvs ds hk hd
            have k1 : keyIs kv.1 e.key = true := by rw [e1.1]; exact h1
            have v1 : RelV kv.2 e.val := by rw [h2]; exact e1.2
            exact ⟨ReadsAll.cons (as := []) (kD_reads k1) r1, ReadsAll.cons (as := []) (Ds.reads s1 v1) r2⟩
section
variable {X : Cx} {pins : List (Addr × Obj)} {σ : L2.St} {H : Hp} {s : Shared}
mutual
theorem Dd.reads (I : Inv X pins σ H s) : ∀ (d : PyData) (v : V) (u : Value), Dd X.K H v d → RelV v u → ∃ as, Reads s.heap u d as ∧ sysModules ∉ as
  | d, v, u, .sc z, r => ⟨[], z.reads r, by simp⟩
  | .tuple ds, _, u, .tup (a := a) hs ha, r => by
    cases (show u = .ref a from r)
    obtain ⟨its, rv, ⟨o, ho, hc, n, hd⟩, _⟩ := I.tuple hs
    obtain ⟨as, hr, hn⟩ := Dd.readsAll I ds _ its ha rv
    exact ⟨as, Reads.tuple ho hc hd hr, hn⟩
  | .dict _, _, u, .dct (a := a) (kvs := kvs) hk hd, r => by
    cases (show u = .ref a from r)
    obtain ⟨_, hn, us, rv, o, es, ep, e1, e2, e3, _, e4, _⟩ := I.hok a _ hk
    obtain ⟨r1, r2⟩ := kv_reads (h := s.heap) e4 _ _ rv hd
    refine ⟨_, Reads.dict (n := ep) e1 e2.1 e3 r1 r2, ?_⟩
    intro z
    have : sysModules = a := by simpa using z
    rw [this] at hn
    simp at hn
theorem Dd.readsAll (I : Inv X pins σ H s) : ∀ (ds : List PyData) (vs : List V) (us : List Value), DdAll X.K H vs ds → Vals vs us → ∃ as, ReadsAll s.heap us ds as ∧ sysModules ∉ as
  | [], _, _, .nil, .nil => ⟨_, .nil, by simp⟩
  | d :: ds, _, _, .cons h1 h2, .cons r1 r2 => by
    obtain ⟨as, q1, n1⟩ := Dd.reads I d _ _ h1 r1
    obtain ⟨bs, q2, n2⟩ := Dd.readsAll I ds _ _ h2 r2
    exact ⟨_, .cons q1 q2, by simp [n1, n2]⟩
end
mutual
theorem Dp.noDict {K : PySem.W.Frag} {H : Hp} : ∀ (d : PyData) (v : V), Dp K H v d → d.hasDict = false
  | .none, _, _ => rfl
  | .bool _, _, _ => rfl
  | .int _, _, _ => rfl
  | .str _, _, _ => rfl
  | .list ds, _, h => by
    cases h with
    | lst hs ha => exact Dp.noDictAll ds _ ha
  | .tuple ds, _, h => by
    cases h with
    | tup hs ha => exact Dp.noDictAll ds _ ha
  | .dict _, _, h => by cases h
theorem Dp.noDictAll {K : PySem.W.Frag} {H : Hp} : ∀ (ds : List PyData) (vs : List V), DpAll K H vs ds → PyData.hasDictAll ds = false
  | [], _, _ => rfl
  | d :: ds, _, h => by
    cases h with
    | cons h1 h2 => rw [PyData.hasDictAll, Dp.noDict d _ h1, Dp.noDictAll ds _ h2]; rfl
end
end
/-- what repr tells -/
def Rp (K : PySem.W.Frag) (H : Hp) (v : V) (d : PyData) : Prop := (Dp K H v d ∨ Dd K H v d) ∧ d.showable = true ∧ d.depth ≤ 100 ∧ d.shown.length ≤ sizeLine
def rRepr (K : PySem.W.Frag) : List V → Hp → VK → Prop := fun xs H Q => ∃ v d, xs = [v] ∧ Rp K H v d ∧ Q (.str d.shown) H
theorem i_repr {K : PySem.W.Frag} {H : Hp} {Q : VK} {v : V} {d : PyData} (h : Rp K H v d) (q : Q (.str d.shown) H) : rRepr K [v] H Q := ⟨v, d, rfl, h, q⟩
section
variable {X : Cx}
theorem c_repr (hgd : X.A.guards = some []) (hu : X.A.units + 110 < cLine) : CallR X (.builtin "repr") (rRepr X.K) := by
  intro pins s σ H xs us Q I r h
  obtain ⟨v, d, rfl, ⟨hD, hs, hp, hz⟩, q⟩ := h
  obtain ⟨u, rfl, rx⟩ := vals1 r
  have red : ∃ as, Reads s.heap u d as ∧ (d.hasDict = true → sysModules ∉ as) := by
    rcases hD with hD | hD
    · obtain ⟨as, h1⟩ := Dp.reads I d v u hD rx
      exact ⟨as, h1, fun z => by rw [Dp.noDict d v hD] at z; cases z⟩
    · obtain ⟨as, h1, h2⟩ := Dd.reads I d v u hD rx
      exact ⟨as, h1, fun _ => h2⟩
  obtain ⟨as, rd, hsm⟩ := red
  have fin : ∀ (tk : Nat), EP X pins σ Q (.str d.shown s.toks) { s with toks := tk } := fun tk => ⟨.str d.shown, H, I.tok _, ⟨_, rfl⟩, q⟩
  cases rd with
  | none => exact P.repr_of_none (fin _)
  | bool b => exact P.repr_of_bool (fin _)
  | int i t => exact P.repr_of_int (of_decide_eq_true hs) (fin _)
  | str x t => exact P.repr_of_str (fin _) hz
  | list h1 h2 h3 h4 => exact repr_of_reads' (.list h1 h2 h3 h4) hs hsm hgd (by omega) (fun _ _ e => e) (fun h' t tk hk => ⟨.str _, H, I.kept hk, ⟨_, rfl⟩, q⟩) hz
  | tuple h1 h2 h3 h4 => exact repr_of_reads' (.tuple h1 h2 h3 h4) hs hsm hgd (by omega) (fun _ _ e => e) (fun h' t tk hk => ⟨.str _, H, I.kept hk, ⟨_, rfl⟩, q⟩) hz
  | dict h1 h2 h3 h4 h5 => exact repr_of_reads' (.dict h1 h2 h3 h4 h5) hs hsm hgd (by omega) (fun _ _ e => e) (fun h' t tk hk => ⟨.str _, H, I.kept hk, ⟨_, rfl⟩, q⟩) hz
end
section
variable {K : PySem.W.Frag} {H : Hp}
theorem Rp.int {i : Int} (h : i.natAbs.log2 < 1920) : Rp K H (.int i) (.int i) := ⟨.inl (.int i), decide_eq_true h, Nat.zero_le _, int_text_fits h⟩
theorem Rp.non : Rp K H .non .none := ⟨.inl .non, rfl, by decide, by decide +kernel⟩
theorem Rp.bl (b : Bool) : Rp K H (.bl b) (.bool b) := ⟨.inl (.bl b), rfl, Nat.zero_le _, by cases b <;> decide +kernel⟩
end
end Ice
namespace Ice
open PySem PySem.Spec PyProof.Rows L2
/-! ### what is told stays told -/
section
variable {K : PySem.W.Frag} {H H' : Hp}
theorem SqL.same (s : Same H H') {a : Addr} {xs : List V} (h : SqL K H a xs) : SqL K H' a xs := s.seq h
theorem SqT.same (s : Same H H') {a : Addr} {xs : List V} (h : SqT K H a xs) : SqT K H' a xs := by
  rcases h with (h | ⟨o, h⟩) | h
  · exact .inl (.inl (s _ _ h))
  · exact .inl (.inr ⟨o, s _ _ h⟩)
  · exact .inr h
mutual
theorem Dp.same (s : Same H H') : ∀ (d : PyData) (v : V), Dp K H v d → Dp K H' v d
  | .none, _, h => by cases h; exact .non
  | .bool _, _, h => by cases h; exact .bl _
  | .int _, _, h => by cases h; exact .int _
  | .str _, _, h => by cases h; exact .str _
  | .list ds, _, h => by
    cases h with
    | lst hs ha => exact .lst (SqL.same s hs) (Dp.sameAll s ds _ ha)
  | .tuple ds, _, h => by
    cases h with
    | tup hs ha => exact .tup (SqT.same s hs) (Dp.sameAll s ds _ ha)
  | .dict _, _, h => by cases h
theorem Dp.sameAll (s : Same H H') : ∀ (ds : List PyData) (vs : List V), DpAll K H vs ds → DpAll K H' vs ds
  | [], _, h => by cases h; exact .nil
  | d :: ds, _, h => by
    cases h with
    | cons h1 h2 => exact .cons (Dp.same s d _ h1) (Dp.sameAll s ds _ h2)
end
mutual
theorem Dd.same (s : Same H H') : ∀ (d : PyData) (v : V), Dd K H v d → Dd K H' v d
  | _, _, .sc z => .sc z
  | .tuple ds, _, .tup hs ha => .tup (SqT.same s hs) (Dd.sameAll s ds _ ha)
  | .dict _, _, .dct hk hd => .dct (s _ _ hk) hd
theorem Dd.sameAll (s : Same H H') : ∀ (ds : List PyData) (vs : List V), DdAll K H vs ds → DdAll K H' vs ds
  | [], _, .nil => .nil
  | d :: ds, _, .cons h1 h2 => .cons (Dd.same s d _ h1) (Dd.sameAll s ds _ h2)
end
theorem Rp.same (s : Same H H') {v : V} {d : PyData} (h : Rp K H v d) : Rp K H' v d :=
  ⟨h.1.imp (Dp.same s d v) (Dd.same s d v), h.2⟩
theorem Rp.str {x : Str} (hl : x.length ≤ 1000) (hc : ∀ c ∈ x.cps.toList, c < 128) : Rp K H (.str x) (.str x) := by
  refine ⟨.inl (.str x), rfl, Nat.zero_le _, ?_⟩
  have b := PySem.StrLaws.reprText_len x (fun c h => Nat.lt_trans (hc c h) (by decide))
  show (reprText x).length ≤ _
  exact sz_of (by omega)
end
end Ice

set_option Elab.async false
set_option linter.all false
set_option maxRecDepth 100000
set_option maxHeartbeats 4000000
set_option autoImplicit false
/-! Texts: walked sign by sign, compared, joined, cut, repeated. -/
namespace Ice
open PySem PySem.Spec PyProof.Rows L2 TL
theorem tl_len (x : Str) : (tl x).length = x.length := by show x.cps.toList.length = x.cps.size; simp
/-- a for over a text's signs -/
theorem for_text {x : Str} {g : TG} {tb : TS} {D : Ends} {σ : L2.St} {H : Hp} (Pv : Nat → L2.St → Hp → Prop) (h0 : Pv 0 σ H)
    (hs : ∀ i c σ H, (tl x)[i]? = some c → Pv i σ H → g (.str ⟨#[c]⟩) σ H fun σ2 H2 => tb { D with nx := Pv (i + 1), ct := Pv (i + 1), bk := D.nx } σ2 H2) (hd : ∀ σ H, Pv (tl x).length σ H → D.nx σ H) :
    ∃ W : Nat → Nat → L2.St → Hp → Prop, (∃ m, W 0 m σ H) ∧ ∀ i m σ H, W i m σ H →
      ((Its x).stop i H ∧ D.nx σ H) ∨ ((Its x).go i H ∧ ∃ N : L2.St → Hp → Prop, (∀ σ' H', N σ' H' → ∃ m', m' < m ∧ W (i + 1) m' σ' H') ∧ ∀ v H', (Its x).yld i H v H' → g v σ H' fun σ2 H2 => tb { D with nx := N, ct := N, bk := D.nx } σ2 H2) := by
  have sz : (tl x).length = x.cps.size := by show x.cps.toList.length = _; simp
  refine ⟨fun i m σ H => m = (tl x).length - i ∧ i ≤ (tl x).length ∧ Pv i σ H, ⟨(tl x).length, by simp, Nat.zero_le _, h0⟩, ?_⟩
  rintro i m σ H ⟨rfl, hi, p⟩
  by_cases lt : i < (tl x).length
  · refine .inr ⟨by show i < x.cps.size; omega, Pv (i + 1), fun σ' H' p' => ⟨(tl x).length - (i + 1), by omega, rfl, lt, p'⟩, ?_⟩
    rintro v H' ⟨rfl, c, hc, rfl⟩
    exact hs i c σ H' (by show x.cps.toList[i]? = some c; rw [Array.getElem?_toList]; exact hc) p
  · have e : i = (tl x).length := by omega
    subst e
    exact .inl ⟨by show x.cps.size ≤ _; omega, hd σ H p⟩
/-- a comprehension over a text's signs -/
theorem lc_text {x : Str} {g : TG} {tt : TT} {te : TE} {vs : List Nat} {σ : L2.St} {H1 : Hp} {D : Addr} {Qd : Hp → Prop} (Pv : Nat → Hp → Prop) (h0 : Pv 0 (upd H1 D (.lst [])))
    (hs : ∀ i c H, (tl x)[i]? = some c → Pv i H → g (.str ⟨#[c]⟩) (wipe σ vs) H fun σ2 H2 => wipe σ2 vs = wipe σ vs ∧ tt σ2 H2 fun b H3 =>
      if b = true then te σ2 H3 fun y H4 => ∃ acc, H4 D = some (.lst acc) ∧ acc.length < sizeLine ∧ Pv (i + 1) (upd H4 D (.lst (acc ++ [y]))) else Pv (i + 1) H3) (hd : ∀ H, Pv (tl x).length H → Qd H) :
    ∃ W : Nat → Nat → Hp → Prop, (∃ m, W 0 m (upd H1 D (.lst []))) ∧ ∀ i m H, W i m H →
      ((Its x).stop i H ∧ Qd H) ∨ ((Its x).go i H ∧ ∃ Nx : Hp → Prop, (∀ H', Nx H' → ∃ m', m' < m ∧ W (i + 1) m' H') ∧ ∀ v H', (Its x).yld i H v H' → g v (wipe σ vs) H' fun σ2 H2 => wipe σ2 vs = wipe σ vs ∧ tt σ2 H2 fun b H3 =>
        if b = true then te σ2 H3 fun y H4 => ∃ acc, H4 D = some (.lst acc) ∧ acc.length < sizeLine ∧ Nx (upd H4 D (.lst (acc ++ [y]))) else Nx H3) := by
  have sz : (tl x).length = x.cps.size := by show x.cps.toList.length = _; simp
  refine ⟨fun i m H => m = (tl x).length - i ∧ i ≤ (tl x).length ∧ Pv i H, ⟨(tl x).length, by simp, Nat.zero_le _, h0⟩, ?_⟩
  rintro i m H ⟨rfl, hi, p⟩
  by_cases lt : i < (tl x).length
  · refine .inr ⟨by show i < x.cps.size; omega, Pv (i + 1), fun H' p' => ⟨(tl x).length - (i + 1), by omega, rfl, lt, p'⟩, ?_⟩
    rintro v H' ⟨rfl, c, hc, rfl⟩
    exact hs i c H' (by show x.cps.toList[i]? = some c; rw [Array.getElem?_toList]; exact hc) p
  · have e : i = (tl x).length := by omega
    subst e
    exact .inl ⟨by show x.cps.size ≤ _; omega, hd H p⟩
/-! ### joined with nothing between -/
theorem joinL_nil : ∀ ps : List (List Nat), joinL [] ps = ps.flatten
  | [] => rfl
  | [p] => by simp [joinL]
  | p :: q :: r => by
    show p ++ ([] ++ joinL [] (q :: r)) = _
    rw [joinL_nil (q :: r)]
    simp
theorem tl_joined {e : Str} (he : tl e = []) (ys : List Str) : tl (Txt.join e ys) = (ys.map tl).flatten := by rw [join_eq, tl_join, he, joinL_nil]
theorem flat_ones : ∀ (ys : List Str), (∀ y ∈ ys, y.length = 1) → ((ys.map tl).flatten).length = ys.length
  | [], _ => rfl
  | y :: ys, h => by
    have h1 := h y (List.mem_cons_self ..)
    rw [List.map_cons, List.flatten_cons, List.length_append, tl_len, h1, flat_ones ys fun z hz => h z (List.mem_cons_of_mem _ hz), List.length_cons]
    omega
theorem len_joined {e : Str} (he : tl e = []) {ys : List Str} (h : ∀ y ∈ ys, y.length = 1) : (Txt.join e ys).length = ys.length := by rw [← tl_len, tl_joined he, flat_ones ys h]
theorem sum_ones : ∀ {ys : List Str}, (∀ y ∈ ys, y.length = 1) → (ys.map (·.length)).sum = ys.length
  | [], _ => rfl
  | y :: ys, h => by
    rw [List.map_cons, List.sum_cons, h y (List.mem_cons_self ..), sum_ones fun z hz => h z (List.mem_cons_of_mem _ hz), List.length_cons]
    omega
/-! ### cut, put together -/
theorem len_add (x y : Str) : (x ++ y).length = x.length + y.length := by rw [← tl_len, tl_append, List.length_append, tl_len, tl_len]
theorem tl_cut (z : Str) (lo hi : Option Int) : tl (cutS z lo hi) = ((tl z).drop (HT.sIx z.length 0 lo)).take (HT.sIx z.length z.length hi - HT.sIx z.length 0 lo) := rfl
theorem tl_cut_to (z : Str) (k : Nat) : tl (cutS z none (some (k : Int))) = (tl z).take k := by
  rw [tl_cut, HT.sIx_none, HT.sIx_nat, List.drop_zero, Nat.sub_zero]
  by_cases h : k ≤ z.length
  · rw [Nat.min_eq_left h]
  · rw [Nat.min_eq_right (by omega), List.take_of_length_le (by rw [tl_len]; omega), List.take_of_length_le (by rw [tl_len]; omega)]
theorem tl_cut_from (z : Str) (k : Nat) : tl (cutS z (some (k : Int)) none) = (tl z).drop k := by
  rw [tl_cut, HT.sIx_none, HT.sIx_nat]
  by_cases h : k ≤ z.length
  · rw [Nat.min_eq_left h, List.take_of_length_le (by rw [List.length_drop, tl_len]; omega)]
  · rw [Nat.min_eq_right (by omega), List.drop_of_length_le (by rw [tl_len]; omega), List.drop_of_length_le (by rw [tl_len]; omega)]
    simp
theorem len_cut_to (z : Str) (k : Nat) : (cutS z none (some (k : Int))).length = min k z.length := by rw [← tl_len, tl_cut_to, List.length_take, tl_len]
theorem len_cut_from (z : Str) (k : Nat) : (cutS z (some (k : Int)) none).length = z.length - k := by rw [← tl_len, tl_cut_from, List.length_drop, tl_len]
/-! ### items -/
theorem atI_some {α : Type} {xs : List α} {i : Int} (h0 : 0 ≤ i) (h1 : i < xs.length) : ∃ v, atI xs i = some v ∧ v ∈ xs ∧ xs[i.toNat]? = some v := by
  obtain ⟨k, rfl⟩ := Int.eq_ofNat_of_zero_le h0
  have hk : k < xs.length := by omega
  exact ⟨xs[k], atI_nat (List.getElem?_eq_getElem hk), List.getElem_mem _, by simp [List.getElem?_eq_getElem hk]⟩
/-! ### rules -/
def repS (x : Str) (k : Int) : Str := ⟨((List.replicate k.toNat (tl x)).flatten).toArray⟩
theorem tl_rep (x : Str) (k : Int) : tl (repS x k) = (List.replicate k.toNat (tl x)).flatten := by show ((List.replicate k.toNat (tl x)).flatten).toArray.toList = _; simp
theorem len_rep (x : Str) (k : Int) : (repS x k).length = k.toNat * x.length := by rw [← tl_len, tl_rep, List.length_flatten, List.map_replicate, List.sum_replicate_nat, tl_len]
def rMulT : R2 := fun x y H Q => ∃ i k, x = .str i ∧ y = .int k ∧ 0 ≤ k ∧ k ≤ 1000 ∧ i.length ≤ 1000 ∧ Q (.str (repS i k)) H
def rFind : V → List V → Hp → VK → Prop := fun x xs H Q => ∃ a b, x = .str a ∧ xs = [.str b] ∧ Q (.int (Txt.find a b)) H
def rJoin (K : PySem.W.Frag) : V → List V → Hp → VK → Prop := fun x xs H Q => ∃ a p, ∃ ys : List Str, x = .str a ∧ xs = [.ref p] ∧ (SqL K H p (ys.map V.str) ∨ SqT K H p (ys.map V.str)) ∧ (ys.map (·.length)).sum + ys.length * a.length ≤ 16777216 ∧ Q (.str (Txt.join a ys)) H
def rLeT : R2 := fun x y H Q => ∃ i j, x = .str i ∧ y = .str j ∧ Q (.bl (!decide (j.cps.toList < i.cps.toList))) H
def rIsBl : R2 := fun x y H Q => ∃ b, y = .bl b ∧ Q (.bl (decide (x = .bl b))) H
theorem fold_flat : ∀ (l : List (Array Nat)) (acc : Array Nat), (l.foldl (· ++ ·) acc).toList = acc.toList ++ (l.map (·.toList)).flatten
  | [], acc => by simp
  | a :: l, acc => by rw [List.foldl_cons, fold_flat l, Array.toList_append, List.map_cons, List.flatten_cons, List.append_assoc]
theorem rep_fold (x : Str) (k : Int) : (⟨(List.replicate k.toNat x.cps).foldl (· ++ ·) #[]⟩ : Str) = repS x k := by
  have e : ((List.replicate k.toNat x.cps).foldl (· ++ ·) #[]) = ((List.replicate k.toNat (tl x)).flatten).toArray := by
    apply Array.toList_inj.mp
    rw [fold_flat, List.map_replicate]
    simp
  rw [e]
  rfl
section
variable {X : Cx} {H : Hp} {Q : VK} {K : PySem.W.Frag}
theorem o_leT : OpR X (compareOp .LtE) rLeT := op_le_str
theorem m_join : MtR X "str.join" (rJoin X.K) := mt_join
theorem m_find : MtR X "str.find" rFind := mt_find
theorem c_isi : CallR X (.builtin "isinstance") (rIsi X.K) := call_isi
theorem c_intS : CallR X (.type "int") (fun xs H Q => ∃ a n, xs = [.str a] ∧ PySem.intText? a = some n ∧ a.length ≤ 640 ∧ Q (.int n) H) := call_int_str
theorem o_mulT : OpR X (binaryOp .Mult) rMulT := by
  intro pins s σ H x y v u Q I rx ry h
  obtain ⟨i, k, rfl, rfl, h0, h1, hz, q⟩ := h
  obtain ⟨t, rfl⟩ := rx
  obtain ⟨t', rfl⟩ := ry
  have big : i.length * k.toNat ≤ 1000 * 1000 := Nat.mul_le_mul hz (by omega)
  have lim : (1000 : Int) * 1000 ≤ (2 ^ 63 - 1) := by decide
  refine PySem.P.mul_str ?_ ?_ ?_ ?_
  · rw [decide_eq_false (by omega), decide_eq_false (by omega)]; rfl
  · intro h2 _ h3
    have k0 : 0 < k := by omega
    have a1 : (i.length : Int) * k ≤ 1000 * 1000 := Int.mul_le_mul (by omega) h1 (by omega) (by omega)
    have a2 : (2 ^ 63 - 1 : Int) / k < i.length := h3
    have a3 : (2 ^ 63 - 1 : Int) < i.length * k := Int.lt_mul_of_ediv_lt k0 a2
    omega
  · intro _ _
    unfold Builtin.Str.tooLong
    exact decide_eq_false (by rw [sizeLine_eq]; omega)
  · have fin : ∀ (z : Str) (tk1 tk2 : Nat), z = repS i k → EP X pins σ Q (.str z tk1) { s with toks := tk2 } := fun z a b e => ⟨.str z, H, I.tok _, ⟨_, rfl⟩, by rw [e]; exact q⟩
    by_cases k1 : k < 1
    · rw [if_pos k1]
      have k0 : k = 0 := by omega
      exact ⟨by decide, fin _ _ _ (by subst k0; rfl)⟩
    · rw [if_neg k1]
      by_cases k2 : (k == 1 || i.length == 0) = true
      · rw [if_pos k2]
        refine fin i t s.toks ?_
        rw [← mk_tl i]
        show _ = (⟨((List.replicate k.toNat (tl i)).flatten).toArray⟩ : Str)
        rcases Bool.or_eq_true _ _ ▸ k2 with e | e
        · rw [beq_iff_eq.mp e]; simp
        · have e0 : tl i = [] := List.eq_nil_of_length_eq_zero (by rw [tl_len]; exact beq_iff_eq.mp e)
          rw [e0]; simp
      · rw [if_neg k2]
        refine ⟨?_, fin _ _ _ (rep_fold i k)⟩
        rw [rep_fold]
        rw [len_rep, sizeLine_eq]
        have : k.toNat * i.length ≤ 1000 * 1000 := Nat.mul_le_mul (by omega) hz
        omega
theorem o_isB : OpR X (compareOp .Is) rIsBl := by
  intro pins s σ H x y v u Q I rx ry h
  obtain ⟨b, rfl, q⟩ := h
  cases (show u = Value.bool b from ry)
  by_cases e : x = .bl b
  · subst e
    cases (show v = Value.bool b from rx)
    exact wpAny_is_self rfl ⟨.bl true, H, I, rfl, by simpa using q⟩
  · have q' : Q (.bl false) H := by simpa [e] using q
    have fin : ∀ s', s' = s → EP X pins σ Q (.bool false) s' := fun s' z => ⟨.bl false, H, z ▸ I, rfl, q'⟩
    cases x with
    | bl c => cases (show v = Value.bool c from rx); exact wpAny_is_other rfl (fun z => e (by cases z; rfl)) (fin _ rfl)
    | non => cases (show v = Value.none from rx); exact wpAny_is_other rfl (fun z => by cases z) (fin _ rfl)
    | int i => obtain ⟨t, rfl⟩ := (show ∃ t, v = Value.int i t from rx); exact wpAny_is_other rfl (fun z => by cases z) (fin _ rfl)
    | str i => obtain ⟨t, rfl⟩ := (show ∃ t, v = Value.str i t from rx); exact wpAny_is_other rfl (fun z => by cases z) (fin _ rfl)
    | byt i => obtain ⟨t, rfl⟩ := (show ∃ t, v = Value.bytes i t from rx); exact wpAny_is_other rfl (fun z => by cases z) (fin _ rfl)
    | flt i => obtain ⟨t, rfl⟩ := (show ∃ t, v = Value.float i t from rx); exact wpAny_is_other rfl (fun z => by cases z) (fin _ rfl)
    | ref a => cases (show v = Value.ref a from rx); exact wpAny_is_other rfl (fun z => by cases z) (fin _ rfl)
    | ty n => cases (show v = Value.type n from rx); exact wpAny_is_other rfl (fun z => by cases z) (fin _ rfl)
theorem i_isi {v : V} {n m : String} {b : Bool} (h : TyX K H v (.type n)) (e : kitB n m = some b) (q : Q (.bl b) H) : rIsi K [v, .ty m] H Q := ⟨v, .ty m, .type n, .type m, b, rfl, .ty m, h, kit_ty e, q⟩
theorem i_mulT {i : Str} {k : Int} (h0 : 0 ≤ k) (h1 : k ≤ 1000) (hz : i.length ≤ 1000) (q : Q (.str (repS i k)) H) : rMulT (.str i) (.int k) H Q := ⟨i, k, rfl, rfl, h0, h1, hz, q⟩
theorem i_find {a b : Str} (q : Q (.int (Txt.find a b)) H) : rFind (.str a) [.str b] H Q := ⟨a, b, rfl, rfl, q⟩
theorem i_leT {a b : Str} (q : Q (.bl (!decide (tl b < tl a))) H) : rLeT (.str a) (.str b) H Q := ⟨a, b, rfl, rfl, q⟩
theorem i_isB {x : V} {b : Bool} (q : Q (.bl (decide (x = .bl b))) H) : rIsBl x (.bl b) H Q := ⟨b, rfl, q⟩
theorem i_notInS {c : Nat} {z : Str} (q : Q (.bl (!decide (c ∈ z.cps.toList))) H) : rNotInS (.str ⟨#[c]⟩) (.str z) H Q := ⟨c, z, rfl, rfl, q⟩
theorem i_inS {c : Nat} {z : Str} (q : Q (.bl (decide (c ∈ z.cps.toList))) H) : rInS (.str ⟨#[c]⟩) (.str z) H Q := ⟨c, z, rfl, rfl, q⟩
theorem i_slS {z : Str} {lo hi : Option Int} (hz : z.length ≤ sizeLine) (q : Q (.str (cutS z lo hi)) H) : rSlS (.str z) lo hi H Q := ⟨z, rfl, hz, q⟩
end
end Ice

set_option Elab.async false
set_option linter.all false
set_option maxRecDepth 100000
set_option maxHeartbeats 4000000
set_option autoImplicit false
/-! Things of any kind. -/
namespace Ice
open PySem PySem.Spec PyProof.Rows L2 TL
theorem one_lt (c l : Nat) : ([c] < [l]) ↔ c < l := by rw [List.cons_lt_cons_iff]; simp
theorem str_ext {x y : Str} (h : tl x = tl y) : x = y := by rw [← mk_tl x, ← mk_tl y, h]
theorem take_all {P : Nat → Prop} {l : List Nat} {i c : Nat} (h : ∀ x ∈ l.take i, P x) (hc : l[i]? = some c) (hp : P c) : ∀ x ∈ l.take (i + 1), P x := by
  intro x hx
  rw [List.take_add_one, hc] at hx
  rcases List.mem_append.mp hx with z | z
  · exact h x z
  · have : x = c := by simpa using z
    rw [this]; exact hp
theorem empty_eq (s : Str) : (V.str s = V.str (Str.ofString "")) ↔ s.length = 0 := by
  constructor
  · intro h; injection h with h; rw [h]; decide +kernel
  · intro h
    have : tl s = tl (Str.ofString "") := by rw [List.eq_nil_of_length_eq_zero (by rw [tl_len]; exact h : (tl s).length = 0)]; decide +kernel
    rw [str_ext this]
theorem sign_eq (c d : Nat) : (V.str ⟨#[c]⟩ = V.str ⟨#[d]⟩) ↔ c = d := by
  constructor
  · intro h; injection h with h; injection h with h; simpa using h
  · rintro rfl; rfl
/-- what is no text -/
inductive NoTx (H : Hp) : V → String → Prop
  | non : NoTx H .non "NoneType"
  | int (i : Int) : NoTx H (.int i) "int"
  | bl (b : Bool) : NoTx H (.bl b) "bool"
  | lst {p : Addr} {xs : List V} (h : H p = some (.lst xs)) : NoTx H (.ref p) "list"
  | tup {p : Addr} {xs : List V} (h : H p = some (.tup xs)) : NoTx H (.ref p) "tuple"
  | dct {p : Addr} {xs : List (Key × V)} (h : H p = some (.dK xs)) : NoTx H (.ref p) "dict"
def Th (H : Hp) (v : V) : Prop := (∃ s, v = .str s ∧ s.length ≤ 64) ∨ ∃ n, NoTx H v n
theorem NoTx.same {H H' : Hp} {v : V} {n : String} (e : Same H H') (h : NoTx H v n) : NoTx H' v n := by
  cases h with
  | non => exact .non
  | int i => exact .int i
  | bl b => exact .bl b
  | lst h => exact .lst (e _ _ h)
  | tup h => exact .tup (e _ _ h)
  | dct h => exact .dct (e _ _ h)
theorem Th.same {H H' : Hp} {v : V} (e : Same H H') (h : Th H v) : Th H' v := by
  rcases h with h | ⟨n, h⟩
  · exact .inl h
  · exact .inr ⟨n, h.same e⟩
theorem Th.updL {H : Hp} {D : Addr} {xs ys : List V} {v : V} (hD : H D = some (.lst xs)) (h : Th H v) : Th (upd H D (.lst ys)) v := by
  rcases h with h | ⟨n, h⟩
  · exact .inl h
  · refine .inr ?_
    cases h with
    | non => exact ⟨_, .non⟩
    | int i => exact ⟨_, .int i⟩
    | bl b => exact ⟨_, .bl b⟩
    | @lst p xs h =>
      by_cases e : p = D
      · subst e; exact ⟨_, .lst upd_same⟩
      · exact ⟨_, .lst (by rw [upd_ne e]; exact h)⟩
    | tup h => exact ⟨_, .tup (by rw [upd_ne (ne_of h hD (by intro z; cases z))]; exact h)⟩
    | dct h => exact ⟨_, .dct (by rw [upd_ne (ne_of h hD (by intro z; cases z))]; exact h)⟩
section
variable {K : PySem.W.Frag} {H : Hp}
theorem ty_str {s : Str} : TyX K H (.str s) (.type "str") := .base (.str s)
theorem NoTx.tyx {v : V} {n : String} (h : NoTx H v n) : TyX K H v (.type n) := by
  cases h with
  | non => exact .base .non
  | int i => exact .base (.int i)
  | bl b => exact .base (.bl b)
  | lst h => exact .base (.lst h)
  | tup h => exact .base (.tup h)
  | dct h => exact .base (.dK h)
theorem NoTx.noStr {v : V} {n : String} (h : NoTx H v n) : kitB n "str" = some false := by cases h <;> decide +kernel
theorem NoTx.ty {v : V} {n : String} (h : NoTx H v n) : TyX K H v (.type n) ∧ kitB n "str" = some false := ⟨h.tyx, h.noStr⟩
end
/-- a whole number; one within bounds; a name -/
def isW : V → Bool
  | .int _ => true
  | _ => false
def inB (lo hi : Int) : V → Bool
  | .int i => decide (lo ≤ i) && decide (i ≤ hi)
  | _ => false
def isN : V → Bool
  | .str s => decide (1 ≤ s.length ∧ s.length ≤ 8 ∧ ∀ c ∈ tl s, 97 ≤ c ∧ c ≤ 122)
  | _ => false
theorem NoTx.isN {H : Hp} {v : V} {n : String} (h : NoTx H v n) : isN v = false := by cases h <;> rfl
theorem Th.ty {K : PySem.W.Frag} {H : Hp} {v : V} (h : Th H v) : ∃ n, TyX K H v (.type n) ∧ kitB n "int" = some (isW v || decide (n = "bool")) ∧ kitB n "bool" = some (decide (n = "bool")) ∧ (n = "bool" → ∃ b, v = .bl b) := by
  rcases h with ⟨s, rfl, _⟩ | ⟨n, h⟩
  · exact ⟨"str", ty_str, (by decide +kernel : kitB "str" "int" = some (false || decide ("str" = "bool"))), by decide +kernel, fun z => absurd z (by decide)⟩
  · refine ⟨n, h.tyx, ?_⟩
    cases h with
    | non => exact ⟨(by decide +kernel : kitB "NoneType" "int" = some (false || decide ("NoneType" = "bool"))), by decide +kernel, fun z => absurd z (by decide)⟩
    | int i => exact ⟨(by decide +kernel : kitB "int" "int" = some (true || decide ("int" = "bool"))), by decide +kernel, fun z => absurd z (by decide)⟩
    | bl b => exact ⟨(by decide +kernel : kitB "bool" "int" = some (false || decide ("bool" = "bool"))), by decide +kernel, fun _ => ⟨b, rfl⟩⟩
    | lst h => exact ⟨(by decide +kernel : kitB "list" "int" = some (false || decide ("list" = "bool"))), by decide +kernel, fun z => absurd z (by decide)⟩
    | tup h => exact ⟨(by decide +kernel : kitB "tuple" "int" = some (false || decide ("tuple" = "bool"))), by decide +kernel, fun z => absurd z (by decide)⟩
    | dct h => exact ⟨(by decide +kernel : kitB "dict" "int" = some (false || decide ("dict" = "bool"))), by decide +kernel, fun z => absurd z (by decide)⟩
end Ice

set_option Elab.async false
set_option linter.all false
set_option maxRecDepth 100000
set_option maxHeartbeats 4000000
set_option autoImplicit false
/-! Texts drawn sign by sign from a box. -/
namespace Ice
open PySem PySem.Spec PyProof.Rows L2 TL
/-- a comprehension over a range whose element draws one sign from the box b -/
theorem lc_draw {b : Addr} {n size : Nat} {P : Nat → Prop} {g : TG} {tt : TT} {te : TE} {vs : List Nat} {σ : L2.St} {H1 : Hp} {D : Addr} {Qd : Hp → Prop} (hB : Box H1 b n) (hD : H1 D = none) (hz : size ≤ 1000)
    (hs : ∀ i H, i < size → But b H1 H → Box H b (n + i) → ∀ N : V → Hp → Prop, (∀ c H4, P c → But b H H4 → Box H4 b (n + i + 1) → N (.str ⟨#[c]⟩) H4) →
      g (.int (0 + i)) (wipe σ vs) H fun σ2 H2 => wipe σ2 vs = wipe σ vs ∧ tt σ2 H2 fun b H3 => if b = true then te σ2 H3 N else False)
    (mono : ∀ i H (N : V → Hp → Prop) (M : Hp → Prop), (g (.int (0 + i)) (wipe σ vs) H fun σ2 H2 => wipe σ2 vs = wipe σ vs ∧ tt σ2 H2 fun b H3 => if b = true then te σ2 H3 N else False) →
      g (.int (0 + i)) (wipe σ vs) H fun σ2 H2 => wipe σ2 vs = wipe σ vs ∧ tt σ2 H2 fun b H3 => if b = true then te σ2 H3 N else M H3)
    (hd : ∀ (acc : List Str) H, But b H1 H → Box H b (n + size) → H D = some (.lst (acc.map V.str)) → acc.length = size → (∀ y ∈ acc, ∃ c, y = ⟨#[c]⟩ ∧ P c) → Qd H) :
    ∃ W : Nat → Nat → Hp → Prop, (∃ m, W 0 m (upd H1 D (.lst []))) ∧ ∀ i m H, W i m H →
      ((Itr 0 size).stop i H ∧ Qd H) ∨ ((Itr 0 size).go i H ∧ ∃ Nx : Hp → Prop, (∀ H', Nx H' → ∃ m', m' < m ∧ W (i + 1) m' H') ∧ ∀ x H', (Itr 0 size).yld i H x H' → g x (wipe σ vs) H' fun σ2 H2 => wipe σ2 vs = wipe σ vs ∧ tt σ2 H2 fun b H3 =>
        if b = true then te σ2 H3 fun y H4 => ∃ acc, H4 D = some (.lst acc) ∧ acc.length < sizeLine ∧ Nx (upd H4 D (.lst (acc ++ [y]))) else Nx H3) := by
  have bD := hB.ne hD
  refine lc_range (lo := 0) (n := size) (fun i H' => But b H1 H' ∧ Box H' b (n + i) ∧ ∃ acc : List Str, H' D = some (.lst (acc.map V.str)) ∧ acc.length = i ∧ ∀ y ∈ acc, ∃ c, y = ⟨#[c]⟩ ∧ P c)
    ⟨But.new _ hD, hB.new hD, [], upd_same, rfl, by simp⟩ ?_ ?_
  · rintro i H' hi ⟨e6, B6, acc, hA, hl, h1⟩
    refine mono i H' _ _ (hs i H' hi e6 B6 _ ?_)
    intro c H4 pc e7 B7
    refine ⟨_, e7 D _ bD hA, by rw [List.length_map]; exact small1000 (by omega), fun a o na ha => ?_, B7.upd bD, acc ++ [⟨#[c]⟩], by rw [upd_same, List.map_append]; rfl, by simp [hl], ?_⟩
    · rw [upd_ne (ne_of_none ha hD)]
      exact e7 a o na (e6 a o na ha)
    · intro y hy
      rcases List.mem_append.mp hy with z | z
      · exact h1 y z
      · simp at z; exact ⟨c, z, pc⟩
  · rintro H' ⟨e6, B6, acc, hA, hl, h1⟩
    exact hd acc H' e6 B6 hA hl h1
/-- what is joined of such signs -/
theorem join_draw {K : PySem.W.Frag} {P : Nat → Prop} {e : Str} {D : Addr} {acc : List Str} {H : Hp} {Q : VK} (he : tl e = []) (hA : H D = some (.lst (acc.map V.str))) (hz : acc.length ≤ 1000) (h1 : ∀ y ∈ acc, ∃ c, y = ⟨#[c]⟩ ∧ P c)
    (q : ∀ t : Str, t.length = acc.length → (∀ c ∈ tl t, P c) → Q (.str t) H) :
    rJoin K (.str e) [.ref D] H Q := by
  have one : ∀ y ∈ acc, y.length = 1 := fun y hy => by obtain ⟨c, rfl, _⟩ := h1 y hy; rfl
  have e0 : e.length = 0 := by rw [← tl_len, he]; rfl
  refine ⟨e, D, acc, rfl, rfl, .inl (SqL.lst hA), by rw [sum_ones one, e0]; omega, q _ (len_joined he one) ?_⟩
  intro c hc
  rw [tl_joined he] at hc
  obtain ⟨l, hl, hcl⟩ := List.mem_flatten.mp hc
  obtain ⟨y, hy, rfl⟩ := List.mem_map.mp hl
  obtain ⟨d, rfl, pd⟩ := h1 y hy
  have : c = d := by simpa using (show c ∈ [d] from hcl)
  rw [this]; exact pd
/-- a sign of a written text at a drawn place -/
theorem sign_at {P : Nat → Prop} {x : Str} {d : Int} (h0 : 0 ≤ d) (h1 : d < x.length) (hp : ∀ c ∈ tl x, P c) : ∃ c, atI x.cps.toList d = some c ∧ P c := by
  obtain ⟨c, hc, hm, _⟩ := atI_some (xs := x.cps.toList) h0 (by simp only [Array.length_toList]; exact h1)
  exact ⟨c, hc, hp c hm⟩
theorem cut_all {P : Nat → Prop} {z : Str} {lo hi : Option Int} (h : ∀ c ∈ tl z, P c) : ∀ c ∈ tl (cutS z lo hi), P c := by
  intro c hc
  rw [tl_cut] at hc
  exact h c (List.mem_of_mem_drop (List.mem_of_mem_take hc))
theorem add_all {P : Nat → Prop} {x y : Str} (h1 : ∀ c ∈ tl x, P c) (h2 : ∀ c ∈ tl y, P c) : ∀ c ∈ tl (x ++ y), P c := by
  intro c hc
  rw [tl_append] at hc
  rcases List.mem_append.mp hc with z | z
  · exact h1 c z
  · exact h2 c z
theorem one_all {P : Nat → Prop} {d : Nat} (h : P d) : ∀ c ∈ tl (⟨#[d]⟩ : Str), P c := by
  intro c hc
  have : c = d := by simpa using (show c ∈ [d] from hc)
  rw [this]; exact h
end Ice

set_option Elab.async false
set_option linter.all false
set_option maxRecDepth 100000
set_option maxHeartbeats 4000000
set_option autoImplicit false
/-! Own errors over an own error over ValueError; several except clauses, with names or without. -/
namespace Ice
open PySem PySem.Spec PyProof.Rows L2
/-- one except clause: its class, the slot of its name, its suite -/
structure Hd where
  c : Value
  i : Option Nat
  ts : Addr → Value → Option Addr → TS
/-- the slots behind a suite whose name is gone -/
def goneE (i : Nat) (D : Ends) : Ends := { nx := fun σ' H' => D.nx (σ'.set i none) H', rt := D.rt, bk := fun σ' H' => D.bk (σ'.set i none) H', ct := fun σ' H' => D.ct (σ'.set i none) H' }
def Hd.run (h : Hd) (a : Addr) (cls : Value) (d : Option Addr) (D : Ends) (σ : L2.St) (H : Hp) : Prop :=
  match h.i with
  | none => h.ts a cls d D σ H
  | some i => h.ts a cls d (goneE i D) (σ.set i (some (.ref a))) H
def wHds (K : PySem.W.Frag) (Wout : WX) (D : Ends) : List Hd → WX
  | [] => Wout
  | h :: r => fun cls d σ H => ∃ b, PySem.W.exmOne K cls h.c = some b ∧ (b = true → ∀ a, H a = none → h.run a cls d D σ H) ∧ (b = false → wHds K Wout D r cls d σ H)
inductive HdOk (X : Cx) : List ExceptHandler → List Hd → Prop
  | nil : HdOk X [] []
  | plain {x : Str} {c : Value} {ts : Addr → Value → Option Addr → TS} {b₀ : Stmt} {suite : List Stmt} {np pos' : Pos} {hds : List ExceptHandler} {l : List Hd} (hc : Names X x c)
      (hsu : ∀ (a : Addr) (oe : Obj) (cls : Value) (d : Option Addr) (pn : List (Addr × Obj)), Zc cls d oe → (∃ vs, oe.data = .fields vs) → PSs (X.suite a ((a, oe) :: pn)) (b₀ :: suite) (ts a cls d)) (r : HdOk X hds l) :
      HdOk X (.ExceptHandler (some (.Name x np)) none (b₀ :: suite) pos' :: hds) (⟨c, none, ts⟩ :: l)
  | named {x n : Str} {i : Nat} {c : Value} {ts : Addr → Value → Option Addr → TS} {b₀ : Stmt} {suite : List Stmt} {np pos' : Pos} {hds : List ExceptHandler} {l : List Hd} (hi : X.N[i]? = some n) (hln : X.env.kindOf n = some .local) (hc : Names X x c)
      (hsu : ∀ (a : Addr) (oe : Obj) (cls : Value) (d : Option Addr) (pn : List (Addr × Obj)), Zc cls d oe → (∃ vs, oe.data = .fields vs) → PSs (X.suite a ((a, oe) :: pn)) (b₀ :: suite) (ts a cls d)) (r : HdOk X hds l) :
      HdOk X (.ExceptHandler (some (.Name x np)) (some n) (b₀ :: suite) pos' :: hds) (⟨c, some i, ts⟩ :: l)
section
variable {X : Cx} {body : List Stmt} {h₀ : ExceptHandler} {hds : List ExceptHandler} {l : List Hd} {pos : Pos} {tb : WX → TS} {Wout : WX}
/-- the exception at a is caught by one of the clauses, or goes on -/
theorem handled {pins : List (Addr × Obj)} {D : Ends} (hs : X.stack = X.env :: X.outer) (hf : X.env.frame = some X.env.locals) (hN : X.N.Nodup) (tk : Takes X Wout) (ok : X.Ok)
    {a : Addr} {B : Heap} {sI s' : Shared} {σ' : L2.St} {H' : Hp} {cls : Value} {d : Option Addr} {h3 : Heap} (J : Inv X pins σ' H' sI) (nb : ∀ b o, sI.heap.get? b = some o → b ∉ frs X.stack → B.get? b = some o)
    (up : sI.heap.UpToSlots s'.heap) (na : H' a = none) (os : s'.os = sI.os) (ag : AllBare s'.gens) (fl3 : HandSPX.FlyingZ B (X.env :: X.outer) a (Zc cls d) h3) (up3 : s'.heap.UpToSlots h3)
    {hds' : List ExceptHandler} {l' : List Hd} (hk : HdOk X hds' l') :
    wHds X.K Wout D l' cls d σ' H' → wpAny (model X.prog X.w) X.A (handleBy (.ref a) X.env hds') (SP X pins D) X.xe { s' with heap := h3 } := by
  have J3 : Inv X pins σ' H' { s' with heap := h3 } := J.landed nb fl3.1 (up.trans up3) os ag
  obtain ⟨oe3, vs3, he3, hz3, hd3⟩ := fl3.there
  have nfr : a ∉ frs (X.env :: X.outer) := by
    intro hm
    obtain ⟨_, o', e', hnf⟩ := fl3.2.2.1.mem hm
    rw [he3] at e'; cases e'
    exact hnf _ hd3
  have nL : a ≠ X.env.locals := fun z => nfr (List.mem_filterMap.mpr ⟨X.env, List.mem_cons_self, by rw [hf, z]⟩)
  have nF : a ∉ X.fs := by
    intro hm
    obtain ⟨e, he, q⟩ := List.mem_filterMap.mp hm
    exact nfr (List.mem_filterMap.mpr ⟨e, List.mem_cons_of_mem _ he, q⟩)
  have S3 := J3.suite he3 hd3 na nL nF
  have LT : PySem.W.Looks (model X.prog X.w) h3 (typeOf (.ref a)) cls := fun A Q E s k q => wpAny_typeOf_ref (k _ _ he3) (by rw [hz3.1]; exact q)
  have test : ∀ {x : Str} {c : Value} {np : Pos} {Q : Value → Shared → Prop} {E : Value → Shared → Prop}, Names X x c → Q c { s' with heap := h3 } →
      wpAny (model X.prog X.w) (X.A.mark (some (.ref a))) (eval (.Name x np) X.env) Q E { s' with heap := h3 } := by
    rintro x c np Q E ⟨hg, hdbg, hm | ⟨hm, hv, hnn⟩⟩ q
    · exact ld_glob (X := X.suite a ((a, oe3) :: (X.pn ++ pins))) S3 hg hm q hdbg
    · exact ld_blt (X := X.suite a ((a, oe3) :: (X.pn ++ pins))) S3 hg hm hv q hnn hdbg
  have land : ∀ {R : Shared → Prop}, (∀ h4 oe4, (∃ vs, oe4.data = .fields vs) → Zc cls d oe4 → Inv (X.suite a ((a, oe4) :: (X.pn ++ pins))) [] σ' H' { s' with heap := h4 } → R { s' with heap := h4 }) →
      ∀ h4, HandSPX.FlyingZ B (X.env :: X.outer) a (Zc cls d) h4 → s'.heap.UpToSlots h4 → R { s' with heap := h4 } := by
    intro R hR h4 fl4 up4
    have J4 : Inv X pins σ' H' { s' with heap := h4 } := J.landed nb fl4.1 (up.trans up4) os ag
    obtain ⟨oe4, vs4, he4, hz4, hd4⟩ := fl4.there
    exact hR h4 oe4 ⟨_, hd4⟩ hz4 (J4.suite he4 hd4 na nL nF)
  induction hk with
  | nil =>
    intro w
    refine wpAny_handleBy_nil ?_
    obtain ⟨k1, k2, k3, oe, vs, T, oT, ts', he, hz, hd, h1, hr⟩ := id fl3
    unfold PySem.passOn
    refine wpAny_bind (wpAny_field he hd h1 ?_)
    rw [if_neg (show ¬ ((Value.ref T == Value.none) = true) from by simp)]
    have fin : wpAny (model X.prog X.w) X.A (setFlight (.ref a) X.env.frame) (fun _ s4 => wpAny (model X.prog X.w) X.A (throw (.ref a) : Sem Flow) (SP X pins D) X.xe s4) X.xe { s' with heap := h3 } := by
      rw [hf]
      exact HandSPX.setFlight_upZ fl3 (fun h4 hh4 up4 => wpAny_throw (tk _ _ ⟨a, B, sI, pins, σ', H', cls, d, rfl, J, nb, (up.trans up3).trans up4, .inr (.inr (by rw [hs]; exact hh4)), na, os, ag, w⟩))
    first
      | exact wpAny_bind (wpAny_pure (wpAny_bind fin))
      | exact wpAny_bind fin
  | @plain x c ts b₀ suite np pos' hds2 l2 hc hsu r ih =>
    rintro ⟨b, hb1, hyes, hno⟩
    refine wpAny_handleBy_cons (codeAny_handlers_test ?_) (by intro q; cases q)
    refine test hc ((PySem.W.exm_one (M := model X.prog X.w) J3.kIn LT hb1).here ?_)
    match b, hyes, hno with
    | true, hyes, _ =>
      refine codeAny_handlers_suite (HandSPX.lands_againZ fl3 (fun h4 fl4 up4 => ?_))
      refine land ?_ h4 fl4 (up3.trans up4)
      intro h5 oe5 hd5 hz5 S5
      refine wpAny_mono ((hsu a oe5 cls d (X.pn ++ pins) hz5 hd5).run [] _ _ H' _ S5 (hyes rfl a na)) (fun f s6 hsp => ?_) (fun _ _ z => False.elim z)
      match f, hsp with
      | .next, ⟨σ6, H6, S6, q6⟩ => exact ⟨_, _, S6.unsuite ok, q6⟩
      | .brk, ⟨σ6, H6, S6, q6⟩ => exact ⟨_, _, S6.unsuite ok, q6⟩
      | .cont, ⟨σ6, H6, S6, q6⟩ => exact ⟨_, _, S6.unsuite ok, q6⟩
      | .ret u, ⟨v6, σ6, H6, S6, r6, q6⟩ => exact ⟨_, _, _, S6.unsuite ok, r6, q6⟩
    | false, _, hno => exact ih (hno rfl)
  | @named x n i c ts b₀ suite np pos' hds2 l2 hi hln hc hsu r ih =>
    rintro ⟨b, hb1, hyes, hno⟩
    refine wpAny_handleBy_cons (codeAny_handlers_test ?_) (by intro q; cases q)
    refine test hc ((PySem.W.exm_one (M := model X.prog X.w) J3.kIn LT hb1).here ?_)
    match b, hyes, hno with
    | true, hyes, _ =>
      refine codeAny_handlers_suite_as (HandSPX.lands_againZ fl3 (fun h4 fl4 up4 => ?_))
      refine land ?_ h4 fl4 (up3.trans up4)
      intro h5 oe5 hd5 hz5 S5
      refine store_ok (X := X.suite a ((a, oe5) :: (X.pn ++ pins))) (v := .ref a) S5 hN hi (.inl hln) rfl (fun s6 S6 => ?_) (.inr hln)
      refine wpAny_mono ((hsu a oe5 cls d (X.pn ++ pins) hz5 hd5).run [] s6 _ H' _ S6 (hyes rfl a na)) (fun f s7 hsp => ?_) (fun _ _ z => False.elim z)
      match f, hsp with
      | .next, ⟨σ6, H6, S7, q6⟩ => exact gone_ok (S7.unsuite ok) hN hi hln (fun s8 J8 => ⟨_, _, J8, q6⟩)
      | .brk, ⟨σ6, H6, S7, q6⟩ => exact gone_ok (S7.unsuite ok) hN hi hln (fun s8 J8 => ⟨_, _, J8, q6⟩)
      | .cont, ⟨σ6, H6, S7, q6⟩ => exact gone_ok (S7.unsuite ok) hN hi hln (fun s8 J8 => ⟨_, _, J8, q6⟩)
      | .ret u, ⟨v6, σ6, H6, S7, r6, q6⟩ => exact gone_ok (S7.unsuite ok) hN hi hln (fun s8 J8 => ⟨_, _, _, J8, r6, q6⟩)
    | false, _, hno => exact ih (hno rfl)
theorem ps_try_hds (hs : X.stack = X.env :: X.outer) (hf : X.env.frame = some X.env.locals) (hN : X.N.Nodup) (tk : Takes X Wout)
    (hb : ∀ (W : WX) (pn : List (Addr × Obj)) (xe : Value → Shared → Prop), Takes (X.tr pn xe) W → PassesOwn (model X.prog X.w) X.A X.env xe → PSs (X.tr pn xe) body (tb W))
    (hh : HdOk X (h₀ :: hds) l) : PS X (.Try body (h₀ :: hds) [] [] pos) (fun D σ H => tb (wHds X.K Wout D l) D σ H) := by
  constructor
  intro pins s σ H D I h
  have ok := I.ok
  have hfr : X.A.frames = some (X.env :: X.outer) := by rw [ok.frames, hs]
  refine wpAny_Try_except ?_
  have run := (hb (wHds X.K Wout D l) (X.pn ++ pins) (fun e s₁ => wpAny (model X.prog X.w) X.A (noteFrame e X.env)
    (fun _ s₂ => wpAny (model X.prog X.w) X.A (setFlight e none) (fun _ s₃ => wpAny (model X.prog X.w) X.A (handleBy e X.env (h₀ :: hds)) (SP X pins D) X.xe s₃) X.xe s₂) X.xe s₁) ?_ PassesOwn.looking).run [] s σ H D (I.toTry _) h
  · refine wpAny_mono run (fun f s1 hsp => ?_) (fun e s1 he => he)
    match f, hsp with
    | .next, ⟨σ', H', J', q⟩ => exact wpAny_execs_nil ⟨σ', H', J'.ofTry ok, q⟩
    | .brk, ⟨σ', H', J', q⟩ => exact ⟨σ', H', J'.ofTry ok, q⟩
    | .cont, ⟨σ', H', J', q⟩ => exact ⟨σ', H', J'.ofTry ok, q⟩
    | .ret u, ⟨v, σ', H', J', r, q⟩ => exact ⟨v, σ', H', J'.ofTry ok, r, q⟩
  · rintro u s' ⟨a, B, sI, pins', σ', H', cls, d, rfl, J', nb, up, sky, na, os, ag, w⟩
    have sky' : Sky B (X.env :: X.outer) a (Zc cls d) X.env.locals s'.heap := by rw [← hs]; exact sky
    exact Sky.land Zc.steady hfr hf sky' (fun h3 fl3 up3 => handled hs hf hN tk ok (J'.ofTry ok) nb up na os ag fl3 up3 hh w)
end
/-! ### Base.__init__(self, ..), Base an own error class over ValueError -/
section
variable {X : Cx} {e : Expr} {es : List Expr} {ta : TA} {p1 p2 pos : Pos} {x : Str} {B : Addr}
theorem pe_kinit {pl : Sem Bool} (hg : Gl X x) (hm : X.mg x = some (.ref B)) (hsp : PySem.W.specialIn X.K (.ref B) "__getattribute__" = some (some (.builtin "type.__getattribute__"))) (ht : PySem.W.typeIn X.K (.ref B) = some (.type "type"))
    (hr : PySem.W.readsIn X.K B (.type "type") = true) (hF : PySem.W.findCls X.K (.ref B) (.type "type") "__init__" = some (.val (.builtin "ValueError.__init__"))) (ha : PA X (e :: es) ta)
    (hdb : (x == ("__debug__" : Str)) = false := by decide)
    (hc : eval (.Call (.Attribute (.Name x p1) "__init__" p2) (e :: es) [] pos) X.env =
      (do let ov ← eval (.Name x p1) X.env; standAt p2.atName; let (f, first) ← holding [ov] (getMethod ov "__init__" pl); callWith pos f first (backTo pos (starEach (e :: es) X.env)) (backToKw pos (keywordEach [] X.env))) := by rfl)
    (he : starEach (e :: es) X.env = (false, eval e X.env) :: starEach es X.env := by rfl) (hpl : (backTo pos (starEach es X.env)).any (·.1) = false := by rfl) :
    PE X (.Call (.Attribute (.Name x p1) "__init__" p2) (e :: es) [] pos) (tVeI X.K ta) := by
  constructor
  intro pins s σ H Q I h
  refine PySem.W.methodCall_KW (ld_glob I hg hm ?_ hdb) hc
  obtain ⟨m, fr⟩ := I.fr
  refine PySem.W.method_of_cls fr I.ok.mod.kin hsp (PySem.W.cls_val fr I.ok.mod.kin ht hr hF (by decide +kernel) ?_)
  show wpAny _ _ (callWith pos (Value.builtin "ValueError.__init__") [] (backTo pos (starEach (e :: es) X.env)) []) _ _ _
  refine PyProof.Rows.callWith_method1 (thn (ha.run pos pins _ σ H _ (I.tok _) h) (fun us s1 ⟨vs, H1, I1, r1, a, C, ws, ev, hl, T, ea, q⟩ => ?_)) he hpl
  subst ev
  cases r1 with
  | @cons _ u0 _ ur ra rw' =>
    cases (show u0 = Value.ref a from ra)
    exact oinit_ok T I1 ea (by rw [← Paired.length rw', sizeLine_eq]; omega) (fun s' J => ⟨.non, H1, J, rfl, q⟩)
end
end Ice
namespace Ice
open PySem PySem.Spec PyProof.Rows L2
/-! ### calls whose errors are wished for at the caller's slots -/
section
variable {X : Cx} {X0 : CXT} {k : Nat} {f C : Addr} {fd : FuncData} {ps : List Str} {sp : Sp} {dvs : List V} {ds : List Value} {E : L2.St → XK} {x m : Str} {p pos apos : Pos} {e o : Expr} {es : List Expr} {ta : TE} {t : TA}
def tCallE (sp : Sp) (dvs : List V) (E : L2.St → XK) (t : TA) : TE := fun σ H Q => t σ H fun vs H1 => sp (vs ++ dvs) H1 Q (E σ)
def tMakeE (C : Addr) (sp : Sp) (dvs : List V) (E : L2.St → XK) (t : TA) : TE := fun σ H Q => t σ H fun vs H1 => ∀ x dx, H1 x = none → H1 dx = none → dx ≠ x →
  sp (.ref x :: (vs ++ dvs)) (upd (upd H1 dx (.own x)) x (.ins C dx [])) (fun v H2 => v = .non ∧ Q (.ref x) H2) (E σ)
def tMethE (C : Addr) (m : Str) (sp : Sp) (dvs : List V) (E : L2.St → XK) (ta : TE) (t : TA) : TE := fun σ H Q => ta σ H fun x H1 => ∃ a dx fs, x = .ref a ∧ H1 a = some (.ins C dx fs) ∧ fs.lookup m = none ∧
  t σ H1 fun vs H2 => sp (x :: (vs ++ dvs)) H2 Q (E σ)
theorem run_ge {pins : List (Addr × Obj)} {σ : L2.St} {H : Hp} {s : Shared} {Q : VK} {us : List Value} {vs : List V} (F : FnG X.prog X.w X.K X.mg X.base X0 k f fd ps sp) (hr : Room k X.A) (hgd : X.A.guards = some [])
    (hb : Binds X.K fd ps ds) (hd : Vals dvs ds) (hx : PassesAt X0 X σ (E σ)) (I : Inv X pins σ H s) (r : Vals vs us) (h : sp (vs ++ dvs) H Q (E σ)) :
    wpAny (model X.prog X.w) X.A (call (.ref f) us) (EP X pins σ Q) X.xe s := by
  have r2 := Vals.append r hd
  have hl : (us ++ ds).length = ps.length := (Vals.length r2).symm.trans (F.len _ _ _ _ h)
  refine wpAny_call (codeAny_mono (F.run X.A X.stack s H ⟨us, []⟩ (us ++ ds) (vs ++ dvs) Q (E σ) hr hgd I.env0 (hb s us I.kIn hl) r2 h) (fun r s' hq => ?_))
  match r, hq with
  | .error e, hq => exact hx pins H s e s' I hq
  | .ok (.ret u), hq => exact I.after hq
  | .ok .next, hq => exact False.elim hq
  | .ok .brk, hq => exact False.elim hq
  | .ok .cont, hq => exact False.elim hq
theorem g_callE (F : FnG X.prog X.w X.K X.mg X.base X0 k f fd ps sp) (hr : Room k X.A) (hgd : X.A.guards = some []) (hg : Gl X x) (hm : X.mg x = some (.ref f)) (hk : PySem.W.keepIn X.K (.ref f) = true) (hb : Binds X.K fd ps ds) (hd : Vals dvs ds)
    (hx : ∀ σ, PassesAt X0 X σ (E σ)) (ha : PA X (e :: es) t) (hdb : (x == ("__debug__" : Str)) = false := by decide) (he : starEach (e :: es) X.env = (false, eval e X.env) :: starEach es X.env := by rfl)
    (hpl : (backTo pos (starEach es X.env)).any (·.1) = false := by rfl) : PE X (.Call (.Name x p) (e :: es) [] pos) (tCallE sp dvs E t) := by
  constructor
  intro pins s σ H Q I h
  refine wpAny_Call_Name_kw (ld_glob I hg hm (PySem.W.callWith_K (h₀ := X.base) I.ok.mod.kin hk ?_ he hpl) hdb)
  exact thn (ha.run pos pins s σ H _ I h) (fun us s1 ⟨vs, H1, I1, r, q⟩ => ⟨I1.kIn, run_ge F hr hgd hb hd (hx σ) I1 r q⟩)
theorem g_methE {pl : Sem Bool} (he : PE X o ta) (c : Cls X.K C) (hm : Meth X.K C m f) (F : FnG X.prog X.w X.K X.mg X.base X0 k f fd ps sp) (hr : Room k X.A) (hgd : X.A.guards = some []) (hb : Binds X.K fd ps ds) (hd : Vals dvs ds)
    (hx : ∀ σ, PassesAt X0 X σ (E σ)) (ha : PA X (e :: es) t) (hst : starEach (e :: es) X.env = (false, eval e X.env) :: starEach es X.env := by rfl) (hpl : (backTo pos (starEach es X.env)).any (·.1) = false := by rfl)
    (ht : eval (.Call (.Attribute o m apos) (e :: es) [] pos) X.env =
      (do let ov ← eval o X.env; standAt apos.atName; let (f, first) ← holding [ov] (getMethod ov m pl); callWith pos f first (backTo pos (starEach (e :: es) X.env)) (backToKw pos (keywordEach [] X.env))) := by rfl) :
    PE X (.Call (.Attribute o m apos) (e :: es) [] pos) (tMethE C m sp dvs E ta t) := by
  constructor
  intro pins s σ H Q I h
  refine PySem.W.methodCall_KW (pl := pl) (thn (he.run pins s σ H _ I h) (fun u s1 ⟨x, H1, I1, rx, a, dx, fs, ex, ea, l, q⟩ => ?_)) ht
  subst ex
  cases (show u = Value.ref a from rx)
  refine getmeth_ok I1 ea c hm l (PySem.W.callWith_K (first := [.ref a]) (h₀ := X.base) I.ok.mod.kin hm.kp ?_ hst hpl)
  exact thn (ha.run pos pins s1 σ H1 _ I1 q) (fun us s2 ⟨vs, H2, I2, r, q2⟩ => ⟨I2.kIn, run_ge (us := .ref a :: us) (vs := .ref a :: vs) F hr hgd hb hd (hx σ) I2 (.cons rfl r) q2⟩)
theorem run_mke {pins : List (Addr × Obj)} {σ : L2.St} {H : Hp} {s : Shared} {Q : VK} {us : List Value} {vs : List V} (M : Mk X.K C f) (F : FnG X.prog X.w X.K X.mg X.base X0 k f fd ps sp) (hr : Room (k + 1) X.A) (hgd : X.A.guards = some [])
    (hb : Binds X.K fd ps ds) (hd : Vals dvs ds) (hx : PassesAt X0 X σ (E σ)) (hx2 : ∀ {H2 : Hp} {e : Value} {s2 s' : Shared}, Inv X pins σ H2 s2 → X0 X.stack H2 s2 (E σ) e s' → X.xe e s') (I : Inv X pins σ H s) (r : Vals vs us)
    (h : ∀ x dx, H x = none → H dx = none → dx ≠ x → sp (.ref x :: (vs ++ dvs)) (upd (upd H dx (.own x)) x (.ins C dx [])) (fun v H2 => v = .non ∧ Q (.ref x) H2) (E σ)) :
    wpAny (model X.prog X.w) X.A (call (.ref C) us) (EP X pins σ Q) X.xe s := by
  have hq := h (s.heap.objs.size + 1) s.heap.objs.size (I.hok.fresh (Nat.le_succ _)) (I.hok.fresh (Nat.le_refl _)) (by simp)
  have I2 := Inv.made (C := C) I
  have r2 : Vals (V.ref (s.heap.objs.size + 1) :: (vs ++ dvs)) (Value.ref (s.heap.objs.size + 1) :: (us ++ ds)) := .cons rfl (Vals.append r hd)
  have hl : (Value.ref (s.heap.objs.size + 1) :: us ++ ds).length = ps.length := (Vals.length r2).symm.trans (F.len _ _ _ _ hq)
  have run := F.run _ X.stack _ _ ⟨Value.ref (s.heap.objs.size + 1) :: us, []⟩ (Value.ref (s.heap.objs.size + 1) :: (us ++ ds)) _ _ (E σ) (hr.make C us []) (make_guards hgd) (I2.env0.make C us [])
    (hb _ (Value.ref (s.heap.objs.size + 1) :: us) I2.kIn hl) r2 hq
  refine wpAny_call (make_map (f := f) I.kIn M.makes M.init (beq_iff_eq.mp M.fn) (codeAny_mono run (fun r s' hq' => ?_)))
  match r, hq' with
  | .error e, hq' => exact hx2 I2 hq'
  | .ok (.ret u), hq' =>
    obtain ⟨v, H', I3, rv, ev, q3⟩ := I2.after hq'
    subst ev
    exact ⟨rv, V.ref (s.heap.objs.size + 1), H', I3, rfl, q3⟩
  | .ok .next, hq' => exact False.elim hq'
  | .ok .brk, hq' => exact False.elim hq'
  | .ok .cont, hq' => exact False.elim hq'
theorem g_makeE (M : Mk X.K C f) (F : FnG X.prog X.w X.K X.mg X.base X0 k f fd ps sp) (hr : Room (k + 1) X.A) (hgd : X.A.guards = some []) (hg : Gl X x) (hm : X.mg x = some (.ref C)) (hb : Binds X.K fd ps ds) (hd : Vals dvs ds) (hx : ∀ σ, PassesAt X0 X σ (E σ))
    (ha : PA X (e :: es) t) (hdb : (x == ("__debug__" : Str)) = false := by decide) (he : starEach (e :: es) X.env = (false, eval e X.env) :: starEach es X.env := by rfl)
    (hpl : (backTo pos (starEach es X.env)).any (·.1) = false := by rfl) : PE X (.Call (.Name x p) (e :: es) [] pos) (tMakeE C sp dvs E t) := by
  constructor
  intro pins s σ H Q I h
  refine wpAny_Call_Name_kw (ld_glob I hg hm (PySem.W.callWith_K (h₀ := X.base) I.ok.mod.kin M.kp ?_ he hpl) hdb)
  exact thn (ha.run pos pins s σ H _ I h) (fun us s1 ⟨vs, H1, I1, r, q⟩ => ⟨I1.kIn, run_mke M F hr hgd hb hd (hx σ) (fun {H2 e s2 s'} J c => hx σ _ H2 s2 e s' J c) I1 r q⟩)
end
/-! ### an own error's __init__, and its raise -/
def spErr (K : PySem.W.Frag) (f : Str) : Sp := fun vs H Q _ => ∃ (a C : Addr) (v : V), vs = [.ref a, v] ∧ OexC K C ∧ PySem.W.findIn K (.ref C) f = some none ∧ H a = some (exo a C none) ∧
  ∀ dx, H dx = none → dx ≠ a → Q .non (upd (upd H dx (exd dx [(f, v)])) a (exo a C (some dx)))
section
variable {K : PySem.W.Frag} {σ : L2.St} {H : Hp} {Q : VK}
theorem i_mkE {C : Addr} {f : Str} {v : V} {W : XK} (T : OexC K C) (hf : PySem.W.findIn K (.ref C) f = some none) (q : ∀ d, H d = none → W (.ref C) (some d) (upd H d (.xd [(f, v)]))) :
    [v].length ≤ 1000 ∧ ∀ a, H a = none → spErr K f (.ref a :: ([v] ++ [])) (upd H a (exo a C none))
      (fun v H2 => v = .non ∧ ∃ (d : Addr) (fs : List (Str × V)), H2 a = some (exo a C (some d)) ∧ H2 d = some (exd d fs) ∧ H d = none ∧ W (.ref C) (some d) (upd (del H2 a) d (.xd fs))) (fun _ _ _ => False) := by
  refine ⟨by show 1 ≤ 1000; decide, fun a ha => ⟨a, C, v, rfl, T, hf, upd_same, fun dx hdx ne => ⟨rfl, dx, [(f, v)], upd_same, by rw [upd_ne ne, upd_same], freeU hdx, ?_⟩⟩⟩
  have e : upd (del (upd (upd (upd H a (exo a C none)) dx (exd dx [(f, v)])) a (exo a C (some dx))) a) dx (.xd [(f, v)]) = upd H dx (.xd [(f, v)]) := by
    funext b
    by_cases h1 : b = dx
    · rw [h1, upd_same, upd_same]
    · rw [upd_ne h1, upd_ne h1]
      by_cases h2 : b = a
      · rw [h2, del_same, ha]
      · rw [del_ne h2, upd_ne h2, upd_ne h1, upd_ne h2]
  rw [e]
  exact q dx (freeU hdx)
theorem i_kinit {ta : TA} (h : ta σ H fun vs H1 => ∃ (a C : Addr) (ws : List V), vs = .ref a :: ws ∧ ws.length ≤ 1000 ∧ OexC K C ∧ H1 a = some (exo a C none) ∧ Q .non H1) : tVeI K ta σ H Q := h
theorem i_ost {f : Str} {to te : TE} {D : Ends} (h : te σ H fun y H1 => to σ H1 fun x H2 => ∃ a C : Addr, x = .ref a ∧ OexC K C ∧ PySem.W.findIn K (.ref C) f = some none ∧
    ((H2 a = some (exo a C none) ∧ ∀ dx, H2 dx = none → dx ≠ a → D.nx σ (upd (upd H2 dx (exd dx [(f, y)])) a (exo a C (some dx)))) ∨
      ∃ (dx : Addr) (fs : List (Str × V)), H2 a = some (exo a C (some dx)) ∧ H2 dx = some (exd dx fs) ∧ fs.length ≤ 900 ∧ D.nx σ (upd H2 dx (exd dx ((f, y) :: fs))))) : tOst K f to te D σ H := h
theorem i_mkO {C : Addr} {sp : Sp} {dvs : List V} {ta : TA} {W : XK} (h : ta σ H fun vs H1 => vs.length ≤ 1000 ∧ ∀ a, H1 a = none → sp (.ref a :: (vs ++ dvs)) (upd H1 a (exo a C none))
    (fun v H2 => v = .non ∧ ∃ (d : Addr) (fs : List (Str × V)), H2 a = some (exo a C (some d)) ∧ H2 d = some (exd d fs) ∧ H1 d = none ∧ W (.ref C) (some d) (upd (del H2 a) d (.xd fs))) (fun _ _ _ => False)) : tMkO C sp dvs ta σ H W := h
theorem i_callE {sp : Sp} {dvs : List V} {E : L2.St → XK} {t : TA} (h : t σ H fun vs H1 => sp (vs ++ dvs) H1 Q (E σ)) : tCallE sp dvs E t σ H Q := h
theorem i_makeE {C : Addr} {sp : Sp} {dvs : List V} {E : L2.St → XK} {t : TA} (h : t σ H fun vs H1 => ∀ x dx, H1 x = none → H1 dx = none → dx ≠ x →
    sp (.ref x :: (vs ++ dvs)) (upd (upd H1 dx (.own x)) x (.ins C dx [])) (fun v H2 => v = .non ∧ Q (.ref x) H2) (E σ)) : tMakeE C sp dvs E t σ H Q := h
theorem i_xf {a C dd : Addr} {cls : Value} {f : Str} {te : TE} (h : te σ H fun x H1 => x = .ref a ∧ cls = .ref C ∧ ∃ (d' : Addr) (fs : List (Str × V)) (v : V), some dd = some d' ∧ H1 d' = some (.xd fs) ∧ fs.lookup f = some v ∧ Q v H1) : tXf a cls (some dd) C f te σ H Q := h
theorem i_sfld {ta tv : TE} {f : Str} {D : Ends} (h : tv σ H fun y H1 => ta σ H1 fun x H2 => ∃ a C dx fs, x = .ref a ∧ H2 a = some (.ins C dx fs) ∧ Cls K C ∧ NoAttr K C f ∧ fs.length < 1000 ∧ D.nx σ (upd H2 a (.ins C dx (putF f y fs)))) : sFld K ta tv f D σ H := h
end
end Ice
namespace Ice
open PySem PySem.Spec PyProof.Rows L2
theorem putF_new {f : Str} {v : V} : ∀ {fs : List (Str × V)}, f ∉ fs.map (·.1) → putF f v fs = fs ++ [(f, v)]
  | [], _ => rfl
  | (g, u) :: r, h => by
    have h1 : ¬ g = f := fun e => h (by rw [e]; exact List.mem_cons_self ..)
    have h2 : f ∉ r.map (·.1) := fun e => h (List.mem_cons_of_mem _ e)
    show (if g = f then (g, v) :: r else (g, u) :: putF f v r) = _
    rw [if_neg h1, putF_new h2]
    rfl
theorem i_store {K : PySem.W.Frag} {H : Hp} {x C dx : Addr} {fs : List (Str × V)} {f : Str} {y : V} {N : Hp → Prop} (hx : H x = some (.ins C dx fs)) (cl : Cls K C) (na : NoAttr K C f) (hl : fs.length ≤ 900) (hf : f ∉ fs.map (·.1))
    (q : N (upd H x (.ins C dx (fs ++ [(f, y)])))) : ∃ a C dx fs, V.ref x = .ref a ∧ H a = some (.ins C dx fs) ∧ Cls K C ∧ NoAttr K C f ∧ fs.length < 1000 ∧ N (upd H a (.ins C dx (putF f y fs))) :=
  ⟨x, C, dx, fs, rfl, hx, cl, na, by omega, by rw [putF_new hf]; exact q⟩
end Ice

set_option Elab.async false
set_option linter.all false
set_option maxRecDepth 100000
set_option maxHeartbeats 4000000
set_option autoImplicit false
/-! repr of rows of plain things; a thing compared with a text. -/
namespace Ice
open PySem PySem.Spec PyProof.Rows L2
/-- a plain thing whose repr is short -/
inductive Ps : V → PyData → Prop
  | non : Ps .non .none
  | bl (b : Bool) : Ps (.bl b) (.bool b)
  | int {i : Int} : i.natAbs < 10 ^ 60 → Ps (.int i) (.int i)
  | str {x : Str} : x.length ≤ 64 → (∀ c ∈ x.cps.toList, c < 128) → Ps (.str x) (.str x)
inductive PsAll : List V → List PyData → Prop
  | nil : PsAll [] []
  | cons {v : V} {vs : List V} {d : PyData} {ds : List PyData} : Ps v d → PsAll vs ds → PsAll (v :: vs) (d :: ds)
section
variable {K : PySem.W.Frag} {H : Hp}
theorem Ps.dp {v : V} {d : PyData} (h : Ps v d) : Dp K H v d := by
  cases h with
  | non => exact .non
  | bl b => exact .bl b
  | int _ => exact .int _
  | str _ _ => exact .str _
theorem Ps.show {v : V} {d : PyData} (h : Ps v d) : d.showable = true ∧ d.depth = 0 ∧ d.shown.length ≤ 650 := by
  cases h with
  | non => exact ⟨rfl, rfl, by decide +kernel⟩
  | bl b => exact ⟨rfl, rfl, by cases b <;> decide +kernel⟩
  | @int i h =>
    refine ⟨decide_eq_true (Nat.lt_trans (PySem.Flt.log2_lt_of (k := 200) (by decide) (Nat.lt_trans h (by decide))) (by decide)), rfl, ?_⟩
    have := int_text_length_le10 (a := i) (k := 60) (by decide) h
    show (Str.ofString (toString i)).length ≤ _
    rw [PySem.ofString_length]; omega
  | @str x h1 h2 =>
    have b := PySem.StrLaws.reprText_len x (fun c h => Nat.lt_trans (h2 c h) (by decide))
    refine ⟨rfl, rfl, ?_⟩
    show (reprText x).length ≤ _
    omega
theorem PsAll.dp : ∀ {vs : List V} {ds : List PyData}, PsAll vs ds → DpAll K H vs ds
  | _, _, .nil => .nil
  | _, _, .cons h t => .cons h.dp t.dp
theorem PsAll.show {vs : List V} {ds : List PyData} (h : PsAll vs ds) : PyData.showableAll ds = true ∧ PyData.depthAll ds = 0 ∧ ((PyData.shownAll ds).map (·.length)).sum ≤ 650 * ds.length ∧ (PyData.shownAll ds).length = ds.length := by
  induction h with
  | nil => exact ⟨rfl, rfl, by decide +kernel, rfl⟩
  | @cons v vs d ds h t ih =>
    obtain ⟨a1, a2, a3, a4⟩ := ih
    obtain ⟨b1, b2, b3⟩ := h.show
    refine ⟨?_, ?_, ?_, ?_⟩
    · show (d.showable && PyData.showableAll ds) = true
      rw [b1, a1]; rfl
    · show max d.depth (PyData.depthAll ds) = 0
      rw [b2, a2]; rfl
    · show ((d.shown :: PyData.shownAll ds).map (·.length)).sum ≤ _
      rw [List.map_cons, List.sum_cons, List.length_cons]
      omega
    · show (d.shown :: PyData.shownAll ds).length = _
      rw [List.length_cons, a4, List.length_cons]
theorem PsAll.len {vs : List V} {ds : List PyData} (h : PsAll vs ds) : ds.length = vs.length := by
  induction h with
  | nil => rfl
  | cons _ _ ih => rw [List.length_cons, List.length_cons, ih]
theorem Ps.rp {v : V} {d : PyData} (h : Ps v d) : Rp K H v d := by
  obtain ⟨b1, b2, b3⟩ := h.show
  exact ⟨.inl h.dp, b1, by omega, sz_of (by omega)⟩
theorem Rp.tupP {p : Addr} {vs : List V} {ds : List PyData} (hp : H p = some (.tup vs)) (h : PsAll vs ds) (hl : vs.length ≤ 20) : Rp K H (.ref p) (.tuple ds) := by
  obtain ⟨a1, a2, a3, a4⟩ := h.show
  have hl2 := h.len
  have b := PySem.tupleText_len_le (PyData.shownAll ds)
  refine ⟨.inl (.tup (SqT.tup hp) h.dp), a1, ?_, ?_⟩
  · show PyData.depthAll ds + 1 ≤ _
    omega
  · show (PySem.tupleText (PyData.shownAll ds)).length ≤ _
    exact sz_of (by omega)
theorem Rp.lstP {p : Addr} {vs : List V} {ds : List PyData} (hp : H p = some (.lst vs)) (h : PsAll vs ds) (hl : vs.length ≤ 20) : Rp K H (.ref p) (.list ds) := by
  obtain ⟨a1, a2, a3, a4⟩ := h.show
  have hl2 := h.len
  have b := PySem.listText_len_le (PyData.shownAll ds)
  refine ⟨.inl (.lst (SqL.lst hp) h.dp), a1, ?_, ?_⟩
  · show PyData.depthAll ds + 1 ≤ _
    omega
  · show (PySem.listText (PyData.shownAll ds)).length ≤ _
    exact sz_of (by omega)
theorem Rp.dct0 {p : Addr} (hp : H p = some (.dK [])) : Rp K H (.ref p) (.dict []) :=
  ⟨.inr (.dct (ds := []) hp .nil), rfl, by decide, by decide +kernel⟩
end
section
variable {P : Program} {w : World} {A : Around} {E : Value → Shared → Prop} {s : Shared}
theorem str_declines_dict (b : Str) (u : Tok) (l : Addr) (c : Value) (es : Array DictEntry) (n : Nat) (dd : Option Addr) (sl : Array (Option Value)) :
    Meets (Builtin.«str.__eq__» ⟨[.str b u, .ref l], []⟩) (fun _ R s => s.heap.get? l = some { cls := c, dict := dd, data := .dict es n, slots := sl } ∧ R (.ok (.ret .notImplemented)) s) :=
  .of_wp fun prog w A R s h => by obtain ⟨hp, g, d, tk, os⟩ := s; obtain ⟨hl, h⟩ := h; wp_walk using PySem.AutoSeq1.wpAny_loadPart' hl, wpAny_load hl; exact ⟨_, rfl, h⟩
theorem dict_eq_str {l : Addr} {b : Str} {u : Tok} {o : Obj} {es : Array DictEntry} {n : Nat} (ho : s.heap.get? l = some o) (hc : o.cls = .type "dict") (hd : o.data = .dict es n) (hu : A.units < cLine) {Q : Value → Shared → Prop} (h : Q (.bool false) s) :
    wpAny (model P w) A (compareOp .Eq (.ref l) (.str b u)) Q E s := by
  have ht : s.TypeIs (.ref l) "dict" := ⟨o, ho, hc⟩
  refine PySem.SeqAt.rc_eq_decline_or (k := false) ht (typeIs_str s b u) (by decide) PySem.F.sub_str_dict PySem.F.slot_dict_eq PySem.F.slot_str_eq_refl ?_ ?_ ?_ (.inr hu) h
  · intro Q' hq
    refine wpAny_call_entry PySem.F.slot_dict_eq ht PySem.F.entry_dict_eq ?_ (PySem.F.args_dict_eq_2 _ _)
    show wpAny _ _ (Builtin.Dict.dictSlotArgs "__eq__" ⟨[.ref l, .str b u], []⟩ >>= _) _ _ s
    refine wpAny_bind ?_
    unfold Builtin.Dict.dictSlotArgs
    refine wpAny_bind (wpAny_notOrdered_dict ht ?_)
    show wpAny _ _ (pure (Value.ref l, Value.str b u)) _ _ s
    refine wpAny_pure ?_
    refine wpAny_bind (wpAny_isInstance (T := "str") (typeIs_str s b u) PySem.F.sub_str_dict ?_)
    refine wpAny_bind (wpAny_rule ?_)
    exact wpAny_pure ⟨_, rfl, hq⟩
  · intro Q' hq
    obtain ⟨cls, dd, data, sl⟩ := o
    simp only at hc hd
    subst hc hd
    exact call_meets PySem.F.slot_str_eq_refl (typeIs_str s b u) PySem.F.entry_str_eq (PySem.F.args_str_eq_2 _ _) (str_declines_dict b u l (.type "dict") es n dd sl) ⟨ho, hq⟩
  · intro Q' hq
    exact wpAny_of_eq (rfl : isSame (.ref l) (.str b u) = pure false) hq
end
theorem strOk_asc {x : Str} (h : ∀ c ∈ x.cps.toList, c < 128) : PySem.PyData.strOk x = true := by
  show x.cps.all (· < 0x110000) = true
  rw [Array.all_eq_true']
  intro c hc
  have := h c (by simpa using hc)
  simp
  omega
theorem shaped_str {x : Str} (h : ∀ c ∈ x.cps.toList, c < 128) : SeqAt.shaped (.str x) = true := by
  show (PySem.PyData.strOk x && decide (0 ≤ 64)) = true
  rw [strOk_asc h]; rfl
theorem Ps.lay {v : V} {d : PyData} (h : Ps v d) : d.canLay0 = true := by
  cases h with
  | str h1 h2 => exact strOk_asc h2
  | _ => rfl
theorem PsAll.lay {vs : List V} {ds : List PyData} (h : PsAll vs ds) : PyData.canLayAll0 ds = true := by
  induction h with
  | nil => rfl
  | @cons v vs d ds h t ih =>
    show (d.canLay0 && PyData.canLayAll0 ds) = true
    rw [h.lay, ih]; rfl
theorem Ps.shaped {v : V} {d : PyData} (h : Ps v d) : SeqAt.shaped d = true := by
  show (d.canLay0 && decide (d.depth ≤ 64)) = true
  rw [h.lay, h.show.2.1]; rfl
theorem PsAll.shapedL {vs : List V} {ds : List PyData} (h : PsAll vs ds) : SeqAt.shaped (.list ds) = true := by
  show (PyData.canLayAll0 ds && decide (PyData.depthAll ds + 1 ≤ 64)) = true
  rw [h.lay, h.show.2.1]; rfl
theorem PsAll.shapedT {vs : List V} {ds : List PyData} (h : PsAll vs ds) : SeqAt.shaped (.tuple ds) = true := by
  show (PyData.canLayAll0 ds && decide (PyData.depthAll ds + 1 ≤ 64)) = true
  rw [h.lay, h.show.2.1]; rfl
/-- a thing that may be compared with a text -/
def Tq (K : PySem.W.Frag) (H : Hp) (v : V) : Prop := (∃ d, Dp K H v d ∧ SeqAt.shaped d = true) ∨ ∃ a kvs, v = .ref a ∧ H a = some (.dK kvs)
def rEqS (K : PySem.W.Frag) : R2 := fun x y H Q => ∃ s, y = .str s ∧ (∀ c ∈ s.cps.toList, c < 128) ∧ Tq K H x ∧ Q (.bl (decide (x = .str s))) H
theorem eqv_str {K : PySem.W.Frag} {H : Hp} {v : V} {d : PyData} {s : Str} (h : Dp K H v d) : PyData.eqv d (.str s) = decide (v = .str s) := by
  cases h with
  | str x =>
    show (x == s) = _
    by_cases e : x = s
    · subst e; simp
    · rw [decide_eq_false (fun z => e (by injection z))]
      exact beq_eq_false_iff_ne.mpr e
  | non => rfl
  | bl b => cases b <;> rfl
  | int i => rfl
  | lst _ _ => rfl
  | tup _ _ => rfl
section
variable {K : PySem.W.Frag} {H : Hp}
theorem Tq.ps {v : V} {d : PyData} (h : Ps v d) : Tq K H v := .inl ⟨d, h.dp, h.shaped⟩
theorem Tq.lst {p : Addr} {vs : List V} {ds : List PyData} (hp : H p = some (.lst vs)) (h : PsAll vs ds) : Tq K H (.ref p) := .inl ⟨_, .lst (SqL.lst hp) h.dp, h.shapedL⟩
theorem Tq.tup {p : Addr} {vs : List V} {ds : List PyData} (hp : H p = some (.tup vs)) (h : PsAll vs ds) : Tq K H (.ref p) := .inl ⟨_, .tup (SqT.tup hp) h.dp, h.shapedT⟩
theorem Tq.dct {p : Addr} {kvs : List (Key × V)} (hp : H p = some (.dK kvs)) : Tq K H (.ref p) := .inr ⟨_, _, rfl, hp⟩
theorem i_eqS {x : V} {z : Str} {Q : VK} (hz : ∀ c ∈ z.cps.toList, c < 128) (h : Tq K H x) (q : Q (.bl (decide (x = .str z))) H) : rEqS K x (.str z) H Q := ⟨z, rfl, hz, h, q⟩
end
section
variable {X : Cx}
theorem o_eqS (hu : X.A.units + 110 < cLine) : OpR X (compareOp .Eq) (rEqS X.K) := by
  intro pins s σ H x y v u Q I rx ry h
  obtain ⟨z, rfl, hz, hx, q⟩ := h
  rcases hx with ⟨d, hd, sd⟩ | ⟨a, kvs, rfl, ha⟩
  · refine op_eqD (by omega) pins s σ H x _ v u Q I rx ry ⟨d, .str z, hd, .str z, sd, shaped_str hz, ?_⟩
    rw [eqv_str hd]
    exact q
  · cases (show v = .ref a from rx)
    obtain ⟨t, rfl⟩ := (show ∃ t, u = .str z t from ry)
    obtain ⟨_, hn, us, rv, o, es, ep, e1, e2, e3, _, e4, _⟩ := I.hok a _ ha
    exact dict_eq_str e1 e2.1 e3 (by omega) ⟨.bl false, H, I, rfl, by rw [decide_eq_false (by intro z; cases z)] at q; exact q⟩
end
section
variable {K : PySem.W.Frag} {σ : L2.St} {H : Hp} {Q : VK}
theorem i_fld {ta : TE} {f : Str} (h : ta σ H fun x H1 => ∃ a C dx fs v, x = .ref a ∧ H1 a = some (.ins C dx fs) ∧ Cls K C ∧ NoAttr K C f ∧ fs.lookup f = some v ∧ Q v H1) : tFld K ta f σ H Q := h
theorem i_fld1 {x C dx : Addr} {fs : List (Str × V)} {f : Str} {v : V} (hx : H x = some (.ins C dx fs)) (cl : Cls K C) (na : NoAttr K C f) {B : V → Prop} (hl : fs.lookup f = some v) (q : B v) :
    ∃ a C dx fs v, V.ref x = .ref a ∧ H a = some (.ins C dx fs) ∧ Cls K C ∧ NoAttr K C f ∧ fs.lookup f = some v ∧ B v := ⟨x, C, dx, fs, v, rfl, hx, cl, na, hl, q⟩
end
theorem un110 {k : Nat} {A : Around} (hr : Room k A) : A.units + 110 < cLine := by have := hr.un; omega
theorem c_reprS {X : Cx} {a : Addr} {pn : List (Addr × Obj)} (hgd : X.A.guards = some []) (hu : X.A.units + 110 < cLine) : CallR (X.suite a pn) (.builtin "repr") (rRepr X.K) := c_repr (X := X.suite a pn) hgd hu
section
variable {K : PySem.W.Frag} {σ : L2.St} {H : Hp} {Q : VK}
theorem i_methE {C : Addr} {m : Str} {sp : Sp} {dvs : List V} {E : L2.St → XK} {ta : TE} {t : TA} (h : ta σ H fun x H1 => ∃ a dx fs, x = .ref a ∧ H1 a = some (.ins C dx fs) ∧ fs.lookup m = none ∧ t σ H1 fun vs H2 => sp (x :: (vs ++ dvs)) H2 Q (E σ)) : tMethE C m sp dvs E ta t σ H Q := h
theorem i_meth {C : Addr} {m : Str} {sp : Sp} {dvs : List V} {E : XK} {ta : TE} {t : TA} (h : ta σ H fun x H1 => ∃ a dx fs, x = .ref a ∧ H1 a = some (.ins C dx fs) ∧ fs.lookup m = none ∧ t σ H1 fun vs H2 => sp (x :: (vs ++ dvs)) H2 Q E) : tMeth C m sp dvs E ta t σ H Q := h
theorem i_make {C : Addr} {sp : Sp} {dvs : List V} {E : XK} {t : TA} (h : t σ H fun vs H1 => ∀ x dx, H1 x = none → H1 dx = none → dx ≠ x → sp (.ref x :: (vs ++ dvs)) (upd (upd H1 dx (.own x)) x (.ins C dx [])) (fun v H2 => v = .non ∧ Q (.ref x) H2) E) : tMake C sp dvs E t σ H Q := h
theorem i_obj {x C dx : Addr} {fs : List (Str × V)} {m : Str} {B : Prop} (hx : H x = some (.ins C dx fs)) (hl : fs.lookup m = none) (q : B) : ∃ a dx fs, V.ref x = .ref a ∧ H a = some (.ins C dx fs) ∧ fs.lookup m = none ∧ B := ⟨x, dx, fs, rfl, hx, hl, q⟩
end
section
variable {K : PySem.W.Frag} {σ : L2.St} {H : Hp} {D : Ends}
theorem i_runS {c : Value} {i : Nat} {ts : Addr → Value → Option Addr → TS} {a : Addr} {cls : Value} {d : Option Addr} (h : ts a cls d (goneE i D) (σ.set i (some (.ref a))) H) : (Hd.mk c (some i) ts).run a cls d D σ H := h
theorem i_runN {c : Value} {ts : Addr → Value → Option Addr → TS} {a : Addr} {cls : Value} {d : Option Addr} (h : ts a cls d D σ H) : (Hd.mk c none ts).run a cls d D σ H := h
theorem i_xf1 {a C dd : Addr} {fs : List (Str × V)} {f : Str} {v : V} {B : V → Prop} (hd : H dd = some (.xd fs)) (hl : fs.lookup f = some v) (q : B v) :
    V.ref a = .ref a ∧ Value.ref C = .ref C ∧ ∃ (d' : Addr) (fs : List (Str × V)) (v : V), some dd = some d' ∧ H d' = some (.xd fs) ∧ fs.lookup f = some v ∧ B v := ⟨rfl, rfl, dd, fs, v, rfl, hd, hl, q⟩
end
def rIntB : List V → Hp → VK → Prop := fun xs H Q => ∃ k, xs = [.bl k] ∧ Q (.int (if k then 1 else 0)) H
theorem c_intB {X : Cx} : CallR X (.type "int") rIntB := fun pins s σ H xs us Q I r h => call_int1 pins s σ H xs us Q I r (.inr h)
theorem i_intB {k : Bool} {H : Hp} {Q : VK} (q : Q (.int (if k then 1 else 0)) H) : rIntB [.bl k] H Q := ⟨k, rfl, q⟩
theorem i_glst {K : PySem.W.Frag} {n : Nat} {t : TGs} {a : Addr} {xs : List V} {σ : L2.St} {H : Hp} {Q : L2.St → Hp → Prop} (hS : SqL K H a xs) (hl : xs.length = n) (q : t xs σ H Q) : gLst K n t (.ref a) σ H Q := ⟨a, xs, rfl, hS, hl, q⟩
end Ice

set_option Elab.async false
set_option linter.all false
set_option maxRecDepth 100000
set_option maxHeartbeats 4000000
set_option autoImplicit false
/-! Base.__init__(self, ..) of an own class, where Base is an own class with an own __init__. -/
namespace Ice
open PySem PySem.Spec PyProof.Rows L2
section
variable {X : Cx} {X0 : CXT} {k : Nat} {f B : Addr} {fd : FuncData} {ps : List Str} {sp : Sp} {dvs : List V} {ds : List Value} {E : L2.St → XK} {x : Str} {p1 p2 pos : Pos} {e : Expr} {es : List Expr} {t : TA}
/-- what is known of a class whose __init__ is read of itself -/
structure Kin (K : PySem.W.Frag) (B f : Addr) : Prop where
  sp : PySem.W.specialIn K (.ref B) "__getattribute__" = some (some (.builtin "type.__getattribute__"))
  ty : PySem.W.typeIn K (.ref B) = some (.type "type")
  rd : PySem.W.readsIn K B (.type "type") = true
  fc : PySem.W.findCls K (.ref B) (.type "type") "__init__" = some (.val (.ref f))
  kp : PySem.W.keepIn K (.ref f) = true
theorem g_kinitE {pl : Sem Bool} (kin : Kin X.K B f) (F : FnG X.prog X.w X.K X.mg X.base X0 k f fd ps sp) (hr : Room k X.A) (hgd : X.A.guards = some []) (hg : Gl X x) (hm : X.mg x = some (.ref B)) (hb : Binds X.K fd ps ds) (hd : Vals dvs ds)
    (hx : ∀ σ, PassesAt X0 X σ (E σ)) (ha : PA X (e :: es) t) (hdb : (x == ("__debug__" : Str)) = false := by decide)
    (hc : eval (.Call (.Attribute (.Name x p1) "__init__" p2) (e :: es) [] pos) X.env =
      (do let ov ← eval (.Name x p1) X.env; standAt p2.atName; let (f, first) ← holding [ov] (getMethod ov "__init__" pl); callWith pos f first (backTo pos (starEach (e :: es) X.env)) (backToKw pos (keywordEach [] X.env))) := by rfl)
    (he : starEach (e :: es) X.env = (false, eval e X.env) :: starEach es X.env := by rfl) (hpl : (backTo pos (starEach es X.env)).any (·.1) = false := by rfl) :
    PE X (.Call (.Attribute (.Name x p1) "__init__" p2) (e :: es) [] pos) (tCallE sp dvs E t) := by
  constructor
  intro pins s σ H Q I h
  refine PySem.W.methodCall_KW (ld_glob I hg hm ?_ hdb) hc
  obtain ⟨m, fr⟩ := I.fr
  refine PySem.W.method_of_cls fr I.ok.mod.kin kin.sp (PySem.W.cls_val fr I.ok.mod.kin kin.ty kin.rd kin.fc (by rfl) ?_)
  show wpAny _ _ (callWith pos (Value.ref f) [] (backTo pos (starEach (e :: es) X.env)) []) _ _ _
  refine PySem.W.callWith_K (h₀ := X.base) I.ok.mod.kin kin.kp ?_ he hpl
  exact thn (ha.run pos pins _ σ H _ (I.tok _) h) (fun us s1 ⟨vs, H1, I1, r, q⟩ => ⟨I1.kIn, run_ge F hr hgd hb hd (hx σ) I1 r q⟩)
end
end Ice

set_option Elab.async false
set_option linter.all false
set_option maxRecDepth 100000
set_option maxHeartbeats 4000000
set_option autoImplicit false
/-! things that equal themselves; one expression read in two ways. -/
namespace Ice
open PySem PySem.Spec PyProof.Rows L2 SeqAt
/-- one reading or another -/
def tAlt (t1 t2 : TE) : TE := fun σ H Q => t1 σ H Q ∨ t2 σ H Q
theorem pe_alt {X : Cx} {e : Expr} {t1 t2 : TE} (h1 : PE X e t1) (h2 : PE X e t2) : PE X e (tAlt t1 t2) :=
  ⟨fun pins s σ H Q I h => h.elim (h1.run pins s σ H Q I) (h2.run pins s σ H Q I)⟩
theorem i_altL {t1 t2 : TE} {σ : L2.St} {H : Hp} {Q : VK} (h : t1 σ H Q) : tAlt t1 t2 σ H Q := .inl h
theorem i_altR {t1 t2 : TE} {σ : L2.St} {H : Hp} {Q : VK} (h : t2 σ H Q) : tAlt t1 t2 σ H Q := .inr h
theorem i_aug {i : Nat} {te : TE} {ti : TIp} {D : Ends} {σ : L2.St} {H : Hp} {x : V} (hx : σ[i]? = some (some x)) (h : te σ H fun y H1 => ti x y H1 fun z H2 => D.nx (σ.set i (some z)) H2) : tAug i te ti D σ H := ⟨x, hx, h⟩
theorem i_ipI {f : Int → Int → Int} {i j : Int} {H : Hp} {Q : VK} (q : Q (.int (f i j)) H) : ipI f (.int i) (.int j) H Q := ⟨i, j, rfl, rfl, q⟩
theorem ps_alt {X : Cx} {st : Stmt} {t1 t2 : TS} (h1 : PS X st t1) (h2 : PS X st t2) : PS X st (fun D σ H => t1 D σ H ∨ t2 D σ H) :=
  ⟨fun pins s σ H D I h => h.elim (h1.run pins s σ H D I) (h2.run pins s σ H D I)⟩
/-- rules within a comprehension: their readings may not name its frame -/
theorem pe_fldB {X : Cx} {s : Shared} {H : Hp} {scope : Scope} {env : Env} {fp : List Addr} {e : Expr} {te : TE} {f : Str} {pos : Pos} (he : PE (X.blk s H scope env fp) e te) (hb : attributeBase e f env (eval e env) = eval e env := by rfl) : PE (X.blk s H scope env fp) (.Attribute e f pos) (tFld X.K te f) := pe_fld he hb
/-- an item that is the same on both sides -/
def It1 (v : V) : Prop := (∃ b, v = .ref b) ∨ ∃ d, Ps v d
theorem eqAt_item {A : Around} {s : Shared} {v : V} {u u' : Value} (h : It1 v) (r : RelV v u) (r' : RelV v u') : EqAt A s u u' true := by
  rcases h with ⟨b, rfl⟩ | ⟨d, h⟩
  · cases (show u = .ref b from r)
    cases (show u' = .ref b from r')
    exact EqAt.same _
  · cases h with
    | non =>
      cases (show u = .none from r)
      cases (show u' = .none from r')
      exact EqAt.same _
    | bl b =>
      cases (show u = .bool b from r)
      cases (show u' = .bool b from r')
      exact EqAt.same _
    | @int i _ =>
      obtain ⟨t, rfl⟩ := (show ∃ t, u = .int i t from r)
      obtain ⟨t', rfl⟩ := (show ∃ t, u' = .int i t from r')
      have := (MeetsSeq.EqGives.int i i t t').at A s
      rwa [show (i == i) = true by simp] at this
    | @str x _ _ =>
      obtain ⟨t, rfl⟩ := (show ∃ t, u = .str x t from r)
      obtain ⟨t', rfl⟩ := (show ∃ t, u' = .str x t from r')
      have := (SeqRoads2.EqGives.str x x t t').at A s
      rwa [show (x.cps.toList == x.cps.toList) = true by simp] at this
theorem eqAt_items {A : Around} {s : Shared} {vs : List V} {as bs : List Value} (h : ∀ v ∈ vs, It1 v) (ra : Vals vs as) (rb : Vals vs bs) (j : Nat) (h1 : j < as.toArray.size) (h2 : j < bs.toArray.size) : EqAt A s as.toArray[j] bs.toArray[j] true := by
  have l1 : vs.length = as.length := ra.length
  have hj : j < vs.length := by rw [l1]; simpa using h1
  obtain ⟨u, hu, ru⟩ := ra.get (List.getElem?_eq_getElem hj)
  obtain ⟨u2, hu2, ru2⟩ := rb.get (List.getElem?_eq_getElem hj)
  have e1 : as.toArray[j] = u := by
    have : as[j]? = some as.toArray[j] := by simp
    exact Option.some.inj (this.symm.trans hu)
  have e2 : bs.toArray[j] = u2 := by
    have : bs[j]? = some bs.toArray[j] := by simp
    exact Option.some.inj (this.symm.trans hu2)
  rw [e1, e2]
  exact eqAt_item (h _ (List.getElem_mem hj)) ru ru2
theorem all_true (n : Nat) : ((List.range n).all fun _ => true) = true := by simp
/-- two lists of the same items -/
def rEqSm (K : PySem.W.Frag) : R2 := fun x y H Q => ∃ a b vs, x = .ref a ∧ y = .ref b ∧ SqL K H a vs ∧ SqL K H b vs ∧ (∀ v ∈ vs, It1 v) ∧ Q (.bl true) H
def rNeSm (K : PySem.W.Frag) : R2 := fun x y H Q => ∃ a b vs, x = .ref a ∧ y = .ref b ∧ SqL K H a vs ∧ SqL K H b vs ∧ (∀ v ∈ vs, It1 v) ∧ Q (.bl false) H
section
variable {X : Cx}
theorem op_neSm (hu : X.A.units + 64 < cLine) : OpR X (compareOp .NotEq) (rNeSm X.K) := by
  intro pins s σ H x y v u Q I rx ry h
  obtain ⟨a, b, vs, rfl, rfl, ha, hb, hv, q⟩ := h
  cases (show v = .ref a from rx)
  cases (show u = .ref b from ry)
  obtain ⟨as, ra, p1, _⟩ := I.list ha
  obtain ⟨bs, rb, p2, _⟩ := I.list hb
  have hsz : as.toArray.size = bs.toArray.size := by
    have l1 := ra.length; have l2 := rb.length
    simp; omega
  have z := RcNeAt.lists (A := X.A) (e := fun _ => true) p1.isList p2.isList hsz (by omega) (fun j h1 h2 => eqAt_items hv ra rb j h1 h2)
  rw [all_true] at z
  exact z X.prog X.w X.xe _ ⟨.bl false, H, I, rfl, q⟩
end
/-- what equals itself -/
inductive Self (K : PySem.W.Frag) (H : Hp) : V → Prop
  | ps {v : V} {d : PyData} : Ps v d → Self K H v
  | lst {a : Addr} {vs : List V} : SqL K H a vs → (∀ v ∈ vs, It1 v) → Self K H (.ref a)
  | tup {a : Addr} {vs : List V} : SqT K H a vs → (∀ v ∈ vs, It1 v) → Self K H (.ref a)
  | dct {a : Addr} : H a = some (.dK []) → Self K H (.ref a)
  | ins {a C dx : Addr} {fs : List (Str × V)} : H a = some (.ins C dx fs) → PySem.W.mroIn K C (.type "object") = some true → PySem.W.findIn K (.ref C) "__eq__" = some (some (.builtin "object.__eq__")) → Self K H (.ref a)
section
variable {M : Model} {prog : Program} {w : World} {A : Around} {E : Value → Shared → Prop} {s : Shared} {K : PySem.W.Frag} {x C : Addr} {ox : Obj} {od : Option Obj}
theorem rc_self (hu : A.units < cLine) (X : K.In s.heap) (I : PySem.W.InstAt s.heap x ox C od) (hm : PySem.W.mroIn K C (.type "object") = some true) (hs : PySem.W.findIn K (.ref C) "__eq__" = some (some (.builtin "object.__eq__"))) :
    RcAt A s (.ref x) (.ref x) true := fun prog w E Q h => by
  have one : ∀ {E : Value → Shared → Prop}, wpAny (model prog w) A (tryCompare (.ref x) "__eq__" (.ref x)) (fun r s' => r = some (.bool true) ∧ s' = s) E s := by
    intro E
    unfold tryCompare
    refine wpAny_bind (HN.ifBound_objEq X I hs ?_)
    exact wpAny_call (codeAny_call_builtin F.cmp_object.eq.plain F.cmpEntry_eq (PySem.W.check_slot F.cmpKind_eq F.cmpSplit_eq (I.type.andThen (PySem.W.looks_mroIn X hm)) (F.cmpArgs_eq _ _) (PySem.objEq_entry_same (wpAny_pure ⟨rfl, rfl⟩))))
  simp only [richCompare, cmpInfo_Eq, oneThing_ref]
  refine wpAny_holding (wpAny_bind (wpAny_cRoomFor hu ?_))
  refine wpAny_bind (I.type.here ?_)
  refine wpAny_bind (I.type.here ?_)
  rw [if_neg (by simp)]
  refine wpAny_bind (m := tryCompare (.ref x) _ (.ref x)) (wpAny_mono one (fun r s1 z => ?_) fun _ _ e => e)
  obtain ⟨z1, z2⟩ := z
  subst z1
  subst z2
  exact wpAny_pure h
end
/-- x == y where both are one thing, or alike plain ones -/
def rEqSf (K : PySem.W.Frag) : R2 := fun x y H Q => x = y ∧ Self K H x ∧ Q (.bl true) H
section
variable {X : Cx}
theorem op_eqSf (hu : X.A.units + 64 < cLine) : OpR X (compareOp .Eq) (rEqSf X.K) := by
  intro pins s σ H x y v u Q I rx ry h
  obtain ⟨rfl, hs, q⟩ := h
  cases hs with
  | @ps v d h =>
    refine op_eqD hu pins s σ H x x _ _ Q I rx ry ⟨d, d, h.dp, h.dp, h.shaped, h.shaped, ?_⟩
    rw [SeqAt.eqv_refl _ h.lay]
    exact q
  | @lst a vs ha hv =>
    cases (show v = .ref a from rx)
    cases (show u = .ref a from ry)
    obtain ⟨as, ra, p1, _⟩ := I.list ha
    have z := RcAt.lists (A := X.A) (e := fun _ => true) p1.isList p1.isList rfl (by omega) (fun j h1 h2 => eqAt_items hv ra ra j h1 h2)
    rw [all_true] at z
    exact z X.prog X.w X.xe _ ⟨.bl true, H, I, rfl, q⟩
  | @tup a vs ha hv =>
    cases (show v = .ref a from rx)
    cases (show u = .ref a from ry)
    obtain ⟨as, ra, p1, _⟩ := I.tuple ha
    have p2 : s.heap.IsTuple a as.toArray := p1
    have z := RcAt.tuples (A := X.A) (e := fun _ => true) p2 p2 (by omega) (fun j h1 h2 => eqAt_items hv ra ra j h1 h2)
    rw [all_true] at z
    simp only [beq_self_eq_true, Bool.and_self] at z
    exact z X.prog X.w X.xe _ ⟨.bl true, H, I, rfl, q⟩
  | @dct a ha =>
    cases (show v = .ref a from rx)
    cases (show u = .ref a from ry)
    obtain ⟨_, hn, vs, kv, hm⟩ := dk_of I.hok ha
    have : vs = [] := by cases kv; rfl
    subst this
    refine PySem.W.eq_dictsT (e := fun _ => true) hn hn hm hm (n := 0) (fun k v y h => by cases h) (by omega) ?_
    exact ⟨.bl true, H, I, rfl, q⟩
  | @ins a C dx fs ha hm he =>
    cases (show v = .ref a from rx)
    cases (show u = .ref a from ry)
    obtain ⟨mA, O, _⟩ := ins_get I.hok ha
    obtain ⟨od, J, _⟩ := O.look
    exact rc_self (by omega) I.kIn J hm he X.prog X.w X.xe _ ⟨.bl true, H, I, rfl, q⟩
end
end Ice

set_option Elab.async false
set_option linter.all false
set_option maxRecDepth 100000
set_option maxHeartbeats 4000000
set_option autoImplicit false
/-! The ice of a channel: its pieces, by breakings. -/
namespace Ice
open PySem PySem.Spec PyProof.Rows L2
structure IceN where
  first : Int
  growth : Int
  most : Int
  b : Int
structure IceN.ok (N : IceN) : Prop where
  f0 : 0 ≤ N.first
  fm : N.first ≤ N.most
  m6 : N.most ≤ 1000000
  g0 : 0 ≤ N.growth
  g3 : N.growth ≤ 1000
  b0 : 0 ≤ N.b
  b6 : N.b ≤ 1000000
abbrev Brk := List (Int × Int)
def grown (N : IceN) (t h : Int) : Int := if t + N.growth * h < N.most then t + N.growth * h else N.most
/-- one cut more of an hour -/
def addC : Brk → Int → Int → Brk
  | [], h, c => [(h, c)]
  | (k, v) :: r, h, c => if k = h then (k, v + c) :: r else (k, v) :: addC r h c
def cbh (b : Int) (B : Brk) : Brk := B.foldl (fun acc z => addC acc z.1 z.2) [(b, 0)]
abbrev Pcs := List (Int × Int × Int)
def aheadOf (N : IceN) (o : Option (Int × Int)) (h : Int) : Int := match o with
  | none => N.first
  | some (s, b) => grown N b (h - s)
def pcs (N : IceN) : Option (Int × Int) → Brk → Pcs
  | _, [] => []
  | o, (h, c) :: r => (h, aheadOf N o h, if aheadOf N o h - c > 0 then aheadOf N o h - c else 0) :: pcs N (some (h, if aheadOf N o h - c > 0 then aheadOf N o h - c else 0)) r
def lastOr (o : Option (Int × Int)) (P : Pcs) : Option (Int × Int) := match P.getLast? with
  | none => o
  | some z => some (z.1, z.2.2)
theorem pcs_snoc (N : IceN) : ∀ (o : Option (Int × Int)) (C : Brk) (h c : Int), pcs N o (C ++ [(h, c)]) = pcs N o C ++ pcs N (lastOr o (pcs N o C)) [(h, c)]
  | o, [], h, c => rfl
  | o, (k, v) :: r, h, c => by
    show _ :: pcs N _ (r ++ [(h, c)]) = (_ :: pcs N _ r) ++ _
    rw [pcs_snoc N _ r h c, List.cons_append]
    congr 2
    congr 1
    unfold lastOr
    rw [show pcs N o ((k, v) :: r) = (k, aheadOf N o k, if aheadOf N o k - v > 0 then aheadOf N o k - v else 0) :: pcs N (some (k, if aheadOf N o k - v > 0 then aheadOf N o k - v else 0)) r from rfl, List.getLast?_cons]
    cases hl : (pcs N (some (k, if aheadOf N o k - v > 0 then aheadOf N o k - v else 0)) r).getLast? with
    | none => rfl
    | some z => rfl
theorem pcs_len (N : IceN) : ∀ (o : Option (Int × Int)) (C : Brk), (pcs N o C).length = C.length
  | _, [] => rfl
  | _, (_, _) :: r => by show (pcs N _ r).length + 1 = r.length + 1; rw [pcs_len N _ r]
theorem pcs_hours (N : IceN) : ∀ (o : Option (Int × Int)) (C : Brk), (pcs N o C).map (·.1) = C.map (·.1)
  | _, [] => rfl
  | _, (_, _) :: r => by show _ :: (pcs N _ r).map _ = _ :: r.map _; rw [pcs_hours N _ r]
def pieces (N : IceN) (B : Brk) : Pcs := pcs N none (cbh N.b B)
/-- hours that rise -/
def Rise (C : Brk) : Prop := (C.map (·.1)).Pairwise (· < ·)
theorem addC_last {C : Brk} {h c : Int} (r : Rise C) (hl : ∀ z ∈ C, z.1 ≤ h) : (addC C h c).map (·.1) = C.map (·.1) ∨ ((∀ z ∈ C, z.1 < h) ∧ (addC C h c).map (·.1) = C.map (·.1) ++ [h]) := by
  induction C with
  | nil => exact .inr ⟨(fun z hz => by cases hz), rfl⟩
  | cons z r' ih =>
    obtain ⟨k, v⟩ := z
    by_cases e : k = h
    · left
      show ((if k = h then (k, v + c) :: r' else (k, v) :: addC r' h c)).map _ = _
      rw [if_pos e]; rfl
    · have r2 : Rise r' := (List.pairwise_cons.mp r).2
      have hk : k < h := by have := hl (k, v) (by simp); show k < h; have : k ≤ h := this; omega
      have e2 : addC ((k, v) :: r') h c = (k, v) :: addC r' h c := by
        show (if k = h then (k, v + c) :: r' else (k, v) :: addC r' h c) = _
        rw [if_neg e]
      rw [e2]
      rcases ih r2 (fun z hz => hl z (by simp [hz])) with i | ⟨i1, i2⟩
      · left
        show k :: (addC r' h c).map _ = k :: r'.map _
        rw [i]
      · right
        refine ⟨fun z hz => ?_, ?_⟩
        · rcases List.mem_cons.mp hz with rfl | hz
          · exact hk
          · exact i1 z hz
        · show k :: (addC r' h c).map _ = k :: r'.map _ ++ [h]
          rw [i2]; rfl
theorem addC_rise {C : Brk} {h c : Int} (r : Rise C) (hl : ∀ z ∈ C, z.1 ≤ h) : Rise (addC C h c) ∧ ∀ z ∈ addC C h c, z.1 ≤ h := by
  have key : ∀ z ∈ addC C h c, z.1 ∈ (addC C h c).map (·.1) := fun z hz => List.mem_map.mpr ⟨z, hz, rfl⟩
  rcases addC_last (c := c) r hl with e | ⟨e1, e2⟩
  · refine ⟨by unfold Rise; rw [e]; exact r, fun z hz => ?_⟩
    have := key z hz
    rw [e] at this
    obtain ⟨y, hy, e'⟩ := List.mem_map.mp this
    rw [← e']; exact hl y hy
  · refine ⟨?_, fun z hz => ?_⟩
    · unfold Rise
      rw [e2, List.pairwise_append]
      refine ⟨r, by simp, fun a ha b hb => ?_⟩
      have : b = h := by simpa using hb
      rw [this]
      obtain ⟨y, hy, e'⟩ := List.mem_map.mp ha
      rw [← e']; exact e1 y hy
    · have := key z hz
      rw [e2] at this
      rcases List.mem_append.mp this with m | m
      · obtain ⟨y, hy, e'⟩ := List.mem_map.mp m
        rw [← e']; exact hl y hy
      · have : z.1 = h := by simpa using m
        omega
/-- sorted breakings from b on -/
structure BOk (b : Int) (B : Brk) : Prop where
  srt : B.Pairwise (fun x y => x.1 ≤ y.1)
  ge : ∀ z ∈ B, b ≤ z.1
theorem cbh_rise {b : Int} {B : Brk} (o : BOk b B) : Rise (cbh b B) ∧ ∃ r, (cbh b B).map (·.1) = b :: r := by
  have key : ∀ (B acc : Brk), B.Pairwise (fun x y => x.1 ≤ y.1) → (∀ z ∈ B, ∀ y ∈ acc, y.1 ≤ z.1) → Rise acc → (∃ r, acc.map (·.1) = b :: r) → (Rise (B.foldl (fun acc z => addC acc z.1 z.2) acc) ∧ ∃ r, (B.foldl (fun acc z => addC acc z.1 z.2) acc).map (·.1) = b :: r) := by
    intro B
    induction B with
    | nil => intro acc _ _ r e; exact ⟨r, e⟩
    | cons z B ih =>
      intro acc hs hb r e
      rw [List.foldl_cons]
      have hz := hb z (by simp)
      obtain ⟨r1, l1⟩ := addC_rise (c := z.2) r hz
      refine ih _ (List.pairwise_cons.mp hs).2 (fun y hy u hu => ?_) r1 ?_
      · have := (List.pairwise_cons.mp hs).1 y hy
        have := l1 u hu
        omega
      · obtain ⟨q, hq⟩ := e
        rcases addC_last (c := z.2) r hz with a | ⟨_, a⟩
        · exact ⟨q, by rw [a]; exact hq⟩
        · exact ⟨q ++ [z.1], by rw [a, hq]; rfl⟩
  refine key B [(b, 0)] o.srt (fun z hz y hy => ?_) (by simp [Rise]) ⟨[], rfl⟩
  have : y = (b, 0) := by simpa using hy
  rw [this]; exact o.ge z hz
theorem cbh_len_le (b : Int) (B : Brk) : (cbh b B).length ≤ B.length + 1 := by
  have l : ∀ (C : Brk) (h c : Int), (addC C h c).length ≤ C.length + 1 := by
    intro C h c
    induction C with
    | nil => simp [addC]
    | cons z r ih =>
      obtain ⟨k, v⟩ := z
      show (if k = h then (k, v + c) :: r else (k, v) :: addC r h c).length ≤ _
      split
      · simp
      · simp; omega
  have key : ∀ (B acc : Brk), (B.foldl (fun acc z => addC acc z.1 z.2) acc).length ≤ B.length + acc.length := by
    intro B
    induction B with
    | nil => intro acc; simp
    | cons z B ih =>
      intro acc
      rw [List.foldl_cons]
      have := ih (addC acc z.1 z.2)
      have := l acc z.1 z.2
      simp; omega
  exact key B [(b, 0)]
theorem pieces_head {N : IceN} {B : Brk} (o : BOk N.b B) : ∃ c r, cbh N.b B = (N.b, c) :: r := by
  obtain ⟨_, r, e⟩ := cbh_rise o
  match h : cbh N.b B with
  | [] => rw [h] at e; cases e
  | (k, c) :: q =>
    rw [h] at e
    injection e with e1 e2
    have : k = N.b := e1
    subst this
    exact ⟨c, q, rfl⟩
theorem pieces_rise {N : IceN} {B : Brk} (o : BOk N.b B) : ((pieces N B).map (·.1)).Pairwise (· < ·) := by
  unfold pieces
  rw [pcs_hours]
  exact (cbh_rise o).1
theorem pieces_pos {N : IceN} {B : Brk} (o : BOk N.b B) : 0 < (pieces N B).length := by
  obtain ⟨c, r, e⟩ := pieces_head o
  unfold pieces
  rw [pcs_len, e]
  simp
theorem grown_le {N : IceN} {t h : Int} : grown N t h ≤ N.most := by unfold grown; split <;> omega
theorem grown_zero {N : IceN} {t : Int} (h : t ≤ N.most) : grown N t 0 = t := by
  unfold grown
  rw [Int.mul_zero, Int.add_zero]
  split <;> omega
/-- the piece of an hour -/
def AtP (P : Pcs) (h : Int) (i : Nat) : Prop := (∃ z, P[i]? = some z ∧ z.1 ≤ h) ∧ ∀ j z, i < j → P[j]? = some z → h < z.1
theorem AtP.uniq {P : Pcs} {h : Int} {i j : Nat} (a : AtP P h i) (b : AtP P h j) : i = j := by
  obtain ⟨⟨z, hz, lz⟩, a2⟩ := a
  obtain ⟨⟨y, hy, ly⟩, b2⟩ := b
  rcases Nat.lt_trichotomy i j with l | l | l
  · have := a2 j y l hy; omega
  · exact l
  · have := b2 i z l hz; omega
end Ice

set_option Elab.async false
set_option linter.all false
set_option maxRecDepth 100000
set_option maxHeartbeats 4000000
set_option autoImplicit false
/-! readings of dicts, step by step. -/
namespace Ice
open PySem PySem.Spec PyProof.Rows L2
section
variable {σ : L2.St} {H : Hp} {Q : VK} {td ty tx tv : TE} {D : Ends}
theorem i_dget (h : td σ H fun x H1 => ty σ H1 fun y H2 => ∃ a v, x = .ref a ∧ DGet H2 a y (some v) ∧ Q v H2) : tDGet td ty σ H Q := h
theorem i_dget1 (h : td σ H fun x H1 => ∃ a, x = .ref a ∧ IsD H1 a ∧ ty σ H1 fun y H2 => ∃ o, DGet H2 a y o ∧ Q (o.getD .non) H2) : tDGet1 td ty σ H Q := h
theorem i_dget2 (h : td σ H fun x H1 => ∃ a, x = .ref a ∧ IsD H1 a ∧ ty σ H1 fun y H2 => tx σ H2 fun z H3 => ∃ o, DGet H3 a y o ∧ Q (o.getD z) H3) : tDGet2 td ty tx σ H Q := h
theorem i_dput (h : tv σ H fun v H1 => td σ H1 fun x H2 => ty σ H2 fun y H3 => ∃ a H4, x = .ref a ∧ DPut H3 a y v H4 ∧ D.nx σ H4) : sDPut td ty tv D σ H := h
theorem i_lockE {t : TE} (h : ∃ d u, H d = some u ∧ Mut (some u) ∧ ∀ od, t σ (upd H d (.frz od u)) fun v H' => H' d = some (.frz od u) ∧ Q v (upd H' d u)) : tLockE t σ H Q := h
theorem i_keysV {i : Nat} {d : Addr} {o : Obj} {kvs : List (Key × V)} {R : It → Hp → Prop} (h1 : σ[i]? = some (some (.ref d))) (h2 : H d = some (.frz o (.dK kvs))) (q : R (Itk d o kvs) H) : iKeys (tVar i) σ H R := ⟨_, h1, d, o, rfl, .inl ⟨kvs, h2, q⟩⟩
theorem i_din (h : ty σ H fun y H1 => td σ H1 fun x H2 => ∃ a o, x = .ref a ∧ DGet H2 a y o ∧ Q (.bl o.isSome) H2) : tDIn ty td σ H Q := h
theorem isD {a : Addr} {kvs : List (Key × V)} (h : H a = some (.dK kvs)) : IsD H a := .inl ⟨kvs, .inl h⟩
theorem i_isD {a : Addr} {kvs : List (Key × V)} {B : Prop} (h : H a = some (.dK kvs)) (q : B) : ∃ a', V.ref a = .ref a' ∧ IsD H a' ∧ (a' = a → B) := ⟨a, rfl, isD h, fun _ => q⟩
theorem dgetI {a : Addr} {kvs : List (Key × V)} {i : Int} {o : Option V} (h : H a = some (.dK kvs)) (e : valV kvs (Sum.inl i) = o) : DGet H a (.int i) o := by rw [← e]; exact DGet.k (k := Sum.inl i) h
theorem dgetS {a : Addr} {kvs : List (Key × V)} {x : Str} {o : Option V} (h : H a = some (.dK kvs)) (e : valV kvs (Sum.inr x) = o) : DGet H a (.str x) o := by rw [← e]; exact DGet.k (k := Sum.inr x) h
theorem dgetF {a : Addr} {kvs : List (Key × V)} {od : Obj} {i : Int} {o : Option V} (h : H a = some (.frz od (.dK kvs))) (e : valV kvs (Sum.inl i) = o) : DGet H a (.int i) o := by rw [← e]; exact .inl ⟨kvs, Sum.inl i, .inr ⟨_, h⟩, rfl, rfl⟩
theorem mutK {kvs : List (Key × V)} : Mut (some (HO.dK kvs)) := by first | exact True.intro | trivial
end
end Ice

set_option Elab.async false
set_option linter.all false
set_option maxRecDepth 100000
set_option maxHeartbeats 4000000
set_option autoImplicit false
/-! list.remove of a thing of data; pairs of numbers as data. -/
namespace Ice
open PySem PySem.Spec PyProof.Rows L2
section
variable {X : Cx}
def rRemD (K : PySem.W.Frag) : V → List V → Hp → VK → Prop := fun x xs H Q => ∃ (l : Addr) (ys : List V) (y : V) (d : PyData) (ds : List PyData) (j : Nat), x = .ref l ∧ xs = [y] ∧ H l = some (.lst ys) ∧ DpAll K H ys ds ∧ Dp K H y d ∧
  PyData.plainAll ds = true ∧ d.plain = true ∧ min (PyData.depthAll ds) d.depth ≤ 60 ∧ SeqAt.dataPlace ds d = some j ∧ Q .non (upd H l (.lst (ys.eraseIdx j)))
theorem mt_removeD (hu : X.A.units + 65 < cLine) : MtR X "list.remove" (rRemD X.K) := by
  intro pins s σ H x xs v us Q I rx rxs h
  obtain ⟨l, ys, y, d, ds, j, rfl, rfl, hH, ha, hy, pa, pd, dp, hj, q⟩ := h
  cases rx
  obtain ⟨u, rfl, ru⟩ := rxs.one
  obtain ⟨z, its, n, r, hl, e⟩ := I.lstM hH
  obtain ⟨as, r1⟩ := Dp.readsAll I ds _ its ha r
  obtain ⟨bs, r2⟩ := Dp.reads I d y u hy ru
  refine SeqAt.remove_list_data (vs := its.toArray) ⟨_, e, rfl, _, rfl⟩ r1 r2 pa pd (by omega) hj (by rw [List.size_toArray]; omega) ?_
  have rr := r.eraseIdx j
  refine ⟨.non, _, I.lset (its' := its.eraseIdx j) (t' := s.toks) hH e ?_ rr ?_, rfl, q⟩
  · show its.toArray.eraseIdxIfInBounds j = (its.eraseIdx j).toArray
    rw [List.eraseIdxIfInBounds_toArray]
  · have := List.length_eraseIdx_le ys j
    omega
end
def pd2 (z : Int × Int) : PyData := .tuple [.int z.1, .int z.2]
theorem dp2 {K : PySem.W.Frag} {H : Hp} {a : Addr} {z : Int × Int} (h : H a = some (.tup [.int z.1, .int z.2])) : Dp K H (.ref a) (pd2 z) := .tup (SqT.tup h) (.cons (.int _) (.cons (.int _) .nil))
theorem pd2_eqv (y z : Int × Int) : PyData.eqv (pd2 y) (pd2 z) = decide (y = z) := by
  obtain ⟨a, b⟩ := y; obtain ⟨c, d⟩ := z
  unfold pd2
  simp [PyData.eqv, PyData.eqvAll]
  rfl
theorem pd2_plain : ∀ B : Brk, PyData.plainAll (B.map pd2) = true
  | [] => rfl
  | z :: r => by
    show (PyData.plain (pd2 z) && PyData.plainAll (r.map pd2)) = true
    rw [pd2_plain r]; rfl
theorem pd2_depth (z : Int × Int) : (pd2 z).depth ≤ 3 := by
  show (PyData.tuple [.int z.1, .int z.2]).depth ≤ 3
  simp [PyData.depth, PyData.depthAll]
theorem pd2_depthAll : ∀ B : Brk, PyData.depthAll (B.map pd2) ≤ 3
  | [] => by show PyData.depthAll [] ≤ 3; simp [PyData.depthAll]
  | z :: r => by
    show PyData.depthAll (pd2 z :: r.map pd2) ≤ 3
    have := pd2_depth z
    have := pd2_depthAll r
    simp only [PyData.depthAll]
    omega
theorem pd2_lay (z : Int × Int) : (pd2 z).canLay0 = true := by rfl
theorem pd2_shaped (z : Int × Int) : SeqAt.shaped (pd2 z) = true := by
  have := pd2_depth z
  unfold SeqAt.shaped
  rw [pd2_lay, decide_eq_true (by omega)]; rfl
theorem pd2_layA : ∀ B : Brk, PyData.canLayAll0 (B.map pd2) = true
  | [] => rfl
  | z :: r => by
    show (PyData.canLay0 (pd2 z) && PyData.canLayAll0 (r.map pd2)) = true
    rw [pd2_layA r, pd2_lay]; rfl
theorem pd2_layAll : ∀ B : Brk, PyData.canLay0 (.list (B.map pd2)) = true := by
  intro B
  simp [PyData.canLay0, pd2_layA]
theorem pd2_shapedL (B : Brk) : SeqAt.shaped (.list (B.map pd2)) = true := by
  have h := pd2_depthAll B
  have : (PyData.list (B.map pd2)).depth ≤ 64 := by simp only [PyData.depth]; omega
  unfold SeqAt.shaped
  rw [pd2_layAll, decide_eq_true this]; rfl
theorem pd2_place {z : Int × Int} : ∀ B : Brk, z ∈ B → ∃ j, SeqAt.dataPlace (B.map pd2) (pd2 z) = some j ∧ B[j]? = some z ∧ B.eraseIdx j = B.erase z
  | [], h => by cases h
  | y :: r, h => by
    by_cases e : y = z
    · refine ⟨0, ?_, by rw [e]; rfl, ?_⟩
      · unfold SeqAt.dataPlace
        rw [List.map_cons, List.findIdx?_cons, pd2_eqv, decide_eq_true e]; rfl
      · rw [e, List.erase_cons_head]; rfl
    · obtain ⟨j, h1, h2, h3⟩ := pd2_place r (by rcases List.mem_cons.mp h with h | h; exact absurd h.symm e; exact h)
      refine ⟨j + 1, ?_, h2, ?_⟩
      · unfold SeqAt.dataPlace at *
        rw [List.map_cons, List.findIdx?_cons, pd2_eqv, decide_eq_false e, h1]; rfl
      · rw [List.erase_cons_tail (by simpa using e), ← h3]; rfl
theorem pd2_any {z : Int × Int} (B : Brk) : ((B.map pd2).any fun y => PyData.eqv y (pd2 z)) = decide (z ∈ B) := by
  induction B with
  | nil => rfl
  | cons y r ih =>
    rw [List.map_cons, List.any_cons, ih, pd2_eqv]
    by_cases e : y = z
    · simp [e]
    · by_cases h : z ∈ r
      · simp [h]
      · have : ¬ z = y := fun h => e h.symm
        simp [e, h, this]
end Ice

set_option Elab.async false
set_option linter.all false
set_option maxRecDepth 100000
set_option maxHeartbeats 4000000
set_option autoImplicit false
/-! repr of nested and of long things. -/
namespace Ice
open PySem PySem.Spec PyProof.Rows L2
section
variable {K : PySem.W.Frag} {H : Hp}
structure Sm (K : PySem.W.Frag) (H : Hp) (k L : Nat) (v : V) (d : PyData) : Prop where
  dp : Dp K H v d
  sh : d.showable = true
  de : d.depth ≤ k
  ln : d.shown.length ≤ L
inductive SmAll (K : PySem.W.Frag) (H : Hp) (k L : Nat) : List V → List PyData → Prop
  | nil : SmAll K H k L [] []
  | cons {v : V} {vs : List V} {d : PyData} {ds : List PyData} : Sm K H k L v d → SmAll K H k L vs ds → SmAll K H k L (v :: vs) (d :: ds)
theorem Ps.sm {v : V} {d : PyData} (h : Ps v d) {k : Nat} : Sm K H k 650 v d := by
  obtain ⟨b1, b2, b3⟩ := h.show
  exact ⟨h.dp, b1, by omega, b3⟩
theorem Sm.mono {k L k' L' : Nat} {v : V} {d : PyData} (h : Sm K H k L v d) (hk : k ≤ k') (hL : L ≤ L') : Sm K H k' L' v d := ⟨h.dp, h.sh, Nat.le_trans h.de hk, Nat.le_trans h.ln hL⟩
theorem SmAll.all {k L : Nat} {vs : List V} {ds : List PyData} (h : SmAll K H k L vs ds) : DpAll K H vs ds ∧ PyData.showableAll ds = true ∧ PyData.depthAll ds ≤ k ∧ ((PyData.shownAll ds).map (·.length)).sum ≤ L * vs.length ∧ (PyData.shownAll ds).length = vs.length := by
  induction h with
  | nil => exact ⟨.nil, rfl, Nat.zero_le _, by show 0 ≤ _; exact Nat.zero_le _, rfl⟩
  | @cons v vs d ds h t ih =>
    obtain ⟨a0, a1, a2, a3, a4⟩ := ih
    refine ⟨.cons h.dp a0, ?_, ?_, ?_, ?_⟩
    · show (d.showable && PyData.showableAll ds) = true
      rw [h.sh, a1]; rfl
    · show max d.depth (PyData.depthAll ds) ≤ k
      have := h.de
      omega
    · show ((d.shown :: PyData.shownAll ds).map (·.length)).sum ≤ _
      rw [List.map_cons, List.sum_cons, List.length_cons, Nat.mul_succ]
      have := h.ln
      omega
    · show (d.shown :: PyData.shownAll ds).length = _
      rw [List.length_cons, a4, List.length_cons]
theorem Sm.tup {k L : Nat} {p : Addr} {vs : List V} {ds : List PyData} (hp : H p = some (.tup vs)) (h : SmAll K H k L vs ds) : Sm K H (k + 1) (L * vs.length + 2 * vs.length + 3) (.ref p) (.tuple ds) := by
  obtain ⟨a0, a1, a2, a3, a4⟩ := h.all
  have b := PySem.tupleText_len_le (PyData.shownAll ds)
  refine ⟨.tup (SqT.tup hp) a0, a1, ?_, ?_⟩
  · show PyData.depthAll ds + 1 ≤ _
    omega
  · show (PySem.tupleText (PyData.shownAll ds)).length ≤ _
    omega
theorem Sm.lst {k L : Nat} {p : Addr} {vs : List V} {ds : List PyData} (hp : H p = some (.lst vs)) (h : SmAll K H k L vs ds) : Sm K H (k + 1) (L * vs.length + 2 * vs.length + 3) (.ref p) (.list ds) := by
  obtain ⟨a0, a1, a2, a3, a4⟩ := h.all
  have b := PySem.listText_len_le (PyData.shownAll ds)
  refine ⟨.lst (SqL.lst hp) a0, a1, ?_, ?_⟩
  · show PyData.depthAll ds + 1 ≤ _
    omega
  · show (PySem.listText (PyData.shownAll ds)).length ≤ _
    omega
theorem Sm.rp {k L : Nat} {v : V} {d : PyData} (h : Sm K H k L v d) (hk : k ≤ 100) (hL : L ≤ sizeLine) : Rp K H v d := ⟨.inl h.dp, h.sh, Nat.le_trans h.de hk, Nat.le_trans h.ln hL⟩
end
end Ice

set_option Elab.async false
set_option linter.all false
set_option maxRecDepth 100000
set_option maxHeartbeats 4000000
namespace Ice
open PySem PySem.Spec PyProof.Rows L2 TL
/-! side conditions, heaps, one step of a reading, and many -/
local macro_rules | `(tactic| walk_at "hp") => `(tactic| first | assumption | exact upd_same | exact New.at_ (by assumption) | (refine keepU ?_ (by assumption); walk_at "hp") | (refine New.app (by assumption) ?_; walk_at "hp") | (refine Same.app (by assumption) ?_; walk_at "hp") | (refine But.app (by assumption) (by assumption) ?_; walk_at "hp"))
local macro_rules | `(tactic| walk_at "sq") => `(tactic| first | assumption | exact SqL.lst (by walk_at "hp") | exact L2.Same.seq (New.same (by assumption)) (by assumption) | exact L2.Same.seq (by assumption) (by assumption))
local macro_rules | `(tactic| walk_at "len") => `(tactic| first | assumption | (simp only [List.length_cons, List.length_nil, List.length_append, List.length_map]; decide) | (refine Ice.sz_of ?_; simp only [List.length_cons, List.length_nil, List.length_append, List.length_map]; omega))
local macro_rules | `(tactic| walk_at "fresh") => `(tactic| (simp only [List.map_append, List.map_cons, List.map_nil, List.nil_append, List.cons_append]; decide +kernel))
local macro_rules | `(tactic| walk_at "sd") => `(tactic| first | assumption | (show _ ≠ _; omega) | exact Or.inl ⟨by omega, by omega⟩ | exact Or.inr ⟨by omega, by omega⟩ | exact ⟨by decide, by decide⟩ | exact ⟨by decide, by decide, by decide⟩ | exact ⟨by omega, by omega, by omega⟩)
/-! one step of a reading, and many -/
local macro_rules | `(tactic| walk_at "st") => `(tactic| first
  | with_reducible refine i_seq ?_
  | with_reducible refine i_if ?_
  | with_reducible refine i_next ?_
  | with_reducible refine i_ret ?_
  | with_reducible refine i_retN ?_
  | with_reducible refine i_drop ?_
  | with_reducible refine i_asg ?_
  | with_reducible refine i_gname ?_
  | with_reducible refine i_gsub ?_
  | ((with_reducible refine i_var (v := ?vv) ?hv ?_); (case hv => exact rfl))
  | with_reducible refine i_c ?_
  | with_reducible refine i_op ?_
  | with_reducible refine i_un ?_
  | with_reducible refine i_test ?_
  | with_reducible refine i_tB ?_
  | with_reducible refine i_and ?_
  | with_reducible refine i_or ?_
  | with_reducible refine i_not ?_
  | with_reducible refine i_andV ?_
  | with_reducible refine i_orV ?_
  | with_reducible refine i_notV ?_
  | with_reducible refine i_ifE ?_
  | with_reducible refine i_chain ?_
  | with_reducible refine i_bl ?_
  | with_reducible refine i_nil ?_
  | with_reducible refine i_cons ?_
  | with_reducible refine i_call ?_
  | with_reducible refine i_cb ?_
  | with_reducible refine i_rI0 ?_
  | with_reducible refine i_rU ?_
  | ((with_reducible refine i_rEq ?hs ?_); (case hs => exact rfl))
  | ((with_reducible refine i_rNe ?hs ?_); (case hs => exact rfl))
  | ((with_reducible refine i_rI ?hc ?_); (case hc => walk_at "sd"))
  | ((with_reducible refine i_ixL (xs := ?xs) (v := ?vv) ?hS ?he ?_); (case hS => walk_at "sq"); (case he => exact rfl))
  | ((with_reducible refine i_setL (xs := ?xs) (j := ?jj) ?hS ?he ?_); (case hS => walk_at "hp"); (case he => exact rfl))
  | with_reducible refine i_tup ?_
  | with_reducible refine i_lst ?_
  | with_reducible refine i_bm ?_
  | with_reducible refine i_bm0 ?_
  | with_reducible refine i_m1 ?_
  | with_reducible refine i_sl ?_
  | with_reducible refine i_nopart ?_
  | with_reducible refine i_part ?_
  | with_reducible refine i_int ?_
  | with_reducible refine i_str ?_
  | with_reducible refine i_for ?_
  | with_reducible refine i_yes ?_
  | ((with_reducible refine i_lenL (xs := ?xs) ?hS ?_); (case hS => walk_at "sq"))
  | ((with_reducible refine i_room ?hz ?_); (case hz => walk_at "len"))
  | with_reducible refine i_leT ?_
  | with_reducible refine i_notInS ?_
  | with_reducible refine i_inS ?_
  | with_reducible refine i_find ?_
  | with_reducible refine i_isB ?_
  | with_reducible refine i_max2 ?_
  | with_reducible refine i_min2 ?_
  | with_reducible exact trivial
  | with_reducible refine iteT ?_
  | with_reducible refine iteF ?_
  | with_reducible refine i_isstr ?_
  | with_reducible refine i_lc ?_
  | ((with_reducible refine i_cat (xs := ?xs) (zs := ?zs) ?ha ?hb ?hz ?_); (case ha => walk_at "hp"); (case hb => walk_at "hp"); (case hz => walk_at "len"))
  | ((with_reducible refine i_tyL (xs := ?xs) ?ha ?_); (case ha => walk_at "hp"))
  | with_reducible refine i_list ?_
  | with_reducible refine i_disp ?_
  | with_reducible refine i_pairs0 ?_
  | with_reducible refine i_pairs ?_
  | with_reducible refine i_newK ?_
  | with_reducible refine i_gcons ?_
  | with_reducible refine i_gnil ?_
  | with_reducible refine i_revL ?_
  | with_reducible refine i_rng1 ?_
  | ((with_reducible refine i_wipe ?hw ?_); (case hw => exact rfl))
  | with_reducible refine iteNT ?_
  | with_reducible refine iteNF ?_)
local macro_rules | `(tactic| walk_at "sx") => `(tactic| first
  | walk_at "st"
  | with_reducible refine i_kinit ?_
  | with_reducible refine i_ost ?_
  | with_reducible refine i_mkO ?_
  | with_reducible refine i_callE ?_
  | with_reducible refine i_makeE ?_
  | with_reducible refine i_xf ?_
  | with_reducible refine i_sfld ?_
  | with_reducible refine i_fld ?_
  | ((with_reducible refine i_ixT (xs := ?xs) (v := ?vv) ?hS ?he ?_); (case hS => exact SqT.tup (by walk_at "hp")); (case he => exact rfl))
  | with_reducible refine i_intB ?_
  | with_reducible refine i_runS ?_
  | with_reducible refine i_runN ?_
  | ((with_reducible refine i_xf1 (fs := ?ff) (v := ?vv) ?hx ?hl ?_); (case hx => walk_at "hp"); (case hl => exact rfl))
  | with_reducible refine i_methE ?_
  | with_reducible refine i_meth ?_
  | with_reducible refine i_make ?_
  | ((with_reducible refine i_obj (dx := ?dd) (fs := ?ff) ?hx ?hl ?_); (case hx => walk_at "hp"); (case hl => exact rfl))
  | ((with_reducible refine i_fld1 (C := ?CC) (dx := ?dd) (fs := ?ff) (v := ?vv) ?hx ?cl ?na ?hl ?_); (case hx => walk_at "hp"); (case cl => assumption); (case na => assumption); (case hl => exact rfl)))
local macro_rules | `(tactic| walk_at "sy") => `(tactic| first
  | walk_at "sx"
  | with_reducible refine i_dget ?_
  | with_reducible refine i_dget2 ?_
  | with_reducible refine i_dput ?_
  | with_reducible refine i_din ?_
  | ((with_reducible refine i_aug (x := ?vv) ?hx ?_); (case hx => exact rfl)))
local macro_rules | `(tactic| walk_at "rd") => `(tactic| repeat (walk_at "sy"))
def topS (i : Nat) : Stmt := PySem.Challenge.pw_iceopened_k29_whole_breakings_alone.main.body.getD i (.Pass ⟨0, 0, 0, 0⟩)
abbrev s_is_whole : Stmt := topS 12
theorem sc_is_whole : FnScope ["thing"] ["thing"] (defScope s_is_whole) := ⟨rfl, rfl, rfl, by decide +kernel, rfl, by decide +kernel, by decide +kernel⟩
abbrev s_is_within : Stmt := topS 13
theorem sc_is_within : FnScope ["thing", "low", "high"] ["thing", "low", "high"] (defScope s_is_within) := ⟨rfl, rfl, rfl, by decide +kernel, rfl, by decide +kernel, by decide +kernel⟩
abbrev s_is_name : Stmt := topS 14
theorem sc_is_name : FnScope ["thing"] ["thing"] (defScope s_is_name) := ⟨rfl, rfl, rfl, by decide +kernel, rfl, by decide +kernel, by decide +kernel⟩
abbrev s_all_between : Stmt := topS 15
theorem sc_all_between : FnScope ["text", "low", "high", "sign"] ["text", "low", "high"] (defScope s_all_between) := ⟨rfl, rfl, rfl, by decide +kernel, rfl, by decide +kernel, by decide +kernel⟩
abbrev s_check_number : Stmt := topS 17
theorem sc_check_number : FnScope ["thing", "low", "high"] ["thing", "low", "high"] (defScope s_check_number) := ⟨rfl, rfl, rfl, by decide +kernel, rfl, by decide +kernel, by decide +kernel⟩
abbrev s_check_hour : Stmt := topS 18
theorem sc_check_hour : FnScope ["thing", "low", "high"] ["thing", "low", "high"] (defScope s_check_hour) := ⟨rfl, rfl, rfl, by decide +kernel, rfl, by decide +kernel, by decide +kernel⟩
abbrev s_check_names : Stmt := topS 25
theorem sc_check_names : FnScope ["things", "thing"] ["things"] (defScope s_check_names) := ⟨rfl, rfl, rfl, by decide +kernel, rfl, by decide +kernel, by decide +kernel⟩
abbrev s_cuts_by_hour : Stmt := topS 34
theorem sc_cuts_by_hour : FnScope ["begin", "breakings", "cuts", "hour", "cut"] ["begin", "breakings"] (defScope s_cuts_by_hour) := ⟨rfl, rfl, rfl, by decide +kernel, rfl, by decide +kernel, by decide +kernel⟩
abbrev s_cell : Stmt := topS 36
theorem sc_cell : FnScope ["_law_script", "_law_k"] ["_law_script", "_law_k"] (defScope s_cell) := ⟨rfl, rfl, rfl, by decide +kernel, rfl, by decide +kernel, by decide +kernel⟩
abbrev s_box : Stmt := topS 37
theorem sc_box : FnScope ["_law_cell_here"] ["_law_cell_here"] (defScope s_box) := ⟨rfl, rfl, rfl, by decide +kernel, rfl, by decide +kernel, by decide +kernel⟩
abbrev s_take : Stmt := topS 38
theorem sc_take : FnScope ["_law_box_here", "_law_many", "_law_digit", "_law_number"] ["_law_box_here", "_law_many"] (defScope s_take) := ⟨rfl, rfl, rfl, by decide +kernel, rfl, by decide +kernel, by decide +kernel⟩
abbrev s_numbers : Stmt := topS 39
theorem sc_numbers : FnScope ["_law_box_here", "_law_most", "_law_first", "_law_growth", "_law_begin"] ["_law_box_here"] (defScope s_numbers) := ⟨rfl, rfl, rfl, by decide +kernel, rfl, by decide +kernel, by decide +kernel⟩
abbrev s_ice : Stmt := topS 40
theorem sc_ice : FnScope ["_law_numbers_here", "_law_way"] ["_law_numbers_here"] (defScope s_ice) := ⟨rfl, rfl, rfl, by decide +kernel, rfl, by decide +kernel, by decide +kernel⟩
abbrev s_cut : Stmt := topS 41
theorem sc_cut : FnScope ["_law_box_here", "_law_numbers_here"] ["_law_box_here", "_law_numbers_here"] (defScope s_cut) := ⟨rfl, rfl, rfl, by decide +kernel, rfl, by decide +kernel, by decide +kernel⟩
abbrev s_hour : Stmt := topS 42
theorem sc_hour : FnScope ["_law_box_here", "_law_begin", "_law_some"] ["_law_box_here", "_law_begin"] (defScope s_hour) := ⟨rfl, rfl, rfl, by decide +kernel, rfl, by decide +kernel, by decide +kernel⟩
abbrev s_turned : Stmt := topS 43
theorem sc_turned : FnScope ["_law_box_here", "_law_rows", "_law_left", "_law_found"] ["_law_box_here", "_law_rows"] (defScope s_turned) := ⟨rfl, rfl, rfl, by decide +kernel, rfl, by decide +kernel, by decide +kernel⟩
abbrev s_thick : Stmt := topS 44
theorem sc_thick : FnScope ["_law_numbers_here", "_law_rows", "_law_hour_here", "_law_at", "_law_level", "_law_when", "_law_cut_here"] ["_law_numbers_here", "_law_rows", "_law_hour_here"] (defScope s_thick) := ⟨rfl, rfl, rfl, by decide +kernel, rfl, by decide +kernel, by decide +kernel⟩
abbrev s_all : Stmt := topS 45
theorem sc_all : FnScope ["_law_ice_here", "_law_strengths", "_law_hours", "_law_found", "_law_hour_here", "_law_strength", "_law_one"] ["_law_ice_here", "_law_strengths", "_law_hours"] (defScope s_all) := ⟨rfl, rfl, rfl, by decide +kernel, rfl, by decide +kernel, by decide +kernel⟩
abbrev s_next_right : Stmt := topS 46
theorem sc_next_right : FnScope ["_law_ice_here", "_law_hours", "_law_hour_here", "_law_strength", "_law_found", "_law_one"] ["_law_ice_here", "_law_hours", "_law_hour_here", "_law_strength"] (defScope s_next_right) := ⟨rfl, rfl, rfl, by decide +kernel, rfl, by decide +kernel, by decide +kernel⟩
abbrev s_last_right : Stmt := topS 47
theorem sc_last_right : FnScope ["_law_ice_here", "_law_hours", "_law_hour_here", "_law_strength", "_law_found", "_law_one"] ["_law_ice_here", "_law_hours", "_law_hour_here", "_law_strength"] (defScope s_last_right) := ⟨rfl, rfl, rfl, by decide +kernel, rfl, by decide +kernel, by decide +kernel⟩
abbrev s_stretches_right : Stmt := topS 48
theorem sc_stretches_right : FnScope ["_law_ice_here", "_law_begin", "_law_hours", "_law_strength", "_law_told_here", "_law_behind", "_law_start", "_law_end", "_law_hour_here", "_law_some"] ["_law_ice_here", "_law_begin", "_law_hours", "_law_strength"] (defScope s_stretches_right) := ⟨rfl, rfl, rfl, by decide +kernel, rfl, by decide +kernel, by decide +kernel⟩
abbrev s_more_right : Stmt := topS 49
theorem sc_more_right : FnScope ["_law_ice_here", "_law_more", "_law_strengths", "_law_hours", "_law_hour_here", "_law_strength", "_law_one", "_law_other"] ["_law_ice_here", "_law_more", "_law_strengths", "_law_hours"] (defScope s_more_right) := ⟨rfl, rfl, rfl, by decide +kernel, rfl, by decide +kernel, by decide +kernel⟩
abbrev s_told : Stmt := topS 50
theorem sc_told : FnScope ["_law_box_here", "_law_ice_here", "_law_rows", "_law_numbers_here", "_law_between", "_law_hour_here", "_law_cut_here"] ["_law_box_here", "_law_ice_here", "_law_rows", "_law_numbers_here", "_law_between"] (defScope s_told) := ⟨rfl, rfl, rfl, by decide +kernel, rfl, by decide +kernel, by decide +kernel⟩
abbrev s_walked : Stmt := topS 51
theorem sc_walked : FnScope ["_law_ice_here", "_law_begin", "_law_strengths", "_law_hours", "_law_strength", "_law_hour_here"] ["_law_ice_here", "_law_begin", "_law_strengths", "_law_hours"] (defScope s_walked) := ⟨rfl, rfl, rfl, by decide +kernel, rfl, by decide +kernel, by decide +kernel⟩
abbrev s_law : Stmt := topS 52
theorem sc_law : FnScope ["_law_script", "_law_k", "_law_box_here", "_law_numbers_here", "_law_begin", "_law_some", "_law_many", "_law_rows", "_law_one", "_law_other", "_law_more", "_law_turn", "_law_hours", "_law_strengths", "_law_due", "_law_hour_here", "_law_cut_here"] ["_law_script"] (defScope s_law) := ⟨rfl, rfl, rfl, by decide +kernel, rfl, by decide +kernel, by decide +kernel⟩
abbrev s_NoName___init__ : Stmt := inClass (topS 3) 0
theorem sc_NoName___init__ : FnScope ["self", "found"] ["self", "found"] (defScope s_NoName___init__) := ⟨rfl, rfl, rfl, by decide +kernel, rfl, by decide +kernel, by decide +kernel⟩
abbrev s_NoNumber___init__ : Stmt := inClass (topS 4) 0
theorem sc_NoNumber___init__ : FnScope ["self", "found"] ["self", "found"] (defScope s_NoNumber___init__) := ⟨rfl, rfl, rfl, by decide +kernel, rfl, by decide +kernel, by decide +kernel⟩
abbrev s_Doubled___init__ : Stmt := inClass (topS 5) 0
theorem sc_Doubled___init__ : FnScope ["self", "name"] ["self", "name"] (defScope s_Doubled___init__) := ⟨rfl, rfl, rfl, by decide +kernel, rfl, by decide +kernel, by decide +kernel⟩
abbrev s_NoChannel___init__ : Stmt := inClass (topS 6) 0
theorem sc_NoChannel___init__ : FnScope ["self", "found"] ["self", "found"] (defScope s_NoChannel___init__) := ⟨rfl, rfl, rfl, by decide +kernel, rfl, by decide +kernel, by decide +kernel⟩
abbrev s_NoHour___init__ : Stmt := inClass (topS 7) 0
theorem sc_NoHour___init__ : FnScope ["self", "found"] ["self", "found"] (defScope s_NoHour___init__) := ⟨rfl, rfl, rfl, by decide +kernel, rfl, by decide +kernel, by decide +kernel⟩
abbrev s_TooMany___init__ : Stmt := inClass (topS 8) 0
theorem sc_TooMany___init__ : FnScope ["self", "many"] ["self", "many"] (defScope s_TooMany___init__) := ⟨rfl, rfl, rfl, by decide +kernel, rfl, by decide +kernel, by decide +kernel⟩
abbrev s_NoEntry___init__ : Stmt := inClass (topS 9) 0
theorem sc_NoEntry___init__ : FnScope ["self", "found"] ["self", "found"] (defScope s_NoEntry___init__) := ⟨rfl, rfl, rfl, by decide +kernel, rfl, by decide +kernel, by decide +kernel⟩
abbrev s_Channel___init__ : Stmt := inClass (topS 24) 0
theorem sc_Channel___init__ : FnScope ["self", "name", "one", "other", "hours", "depth", "first", "growth", "most"] ["self", "name", "one", "other", "hours", "depth", "first", "growth", "most"] (defScope s_Channel___init__) := ⟨rfl, rfl, rfl, by decide +kernel, rfl, by decide +kernel, by decide +kernel⟩
abbrev s_Channel_ends : Stmt := inClass (topS 24) 1
theorem sc_Channel_ends : FnScope ["self"] ["self"] (defScope s_Channel_ends) := ⟨rfl, rfl, rfl, by decide +kernel, rfl, by decide +kernel, by decide +kernel⟩
abbrev s_Ice___init__ : Stmt := inClass (topS 33) 0
theorem sc_Ice___init__ : FnScope ["self", "channel", "begin"] ["self", "channel", "begin"] (defScope s_Ice___init__) := ⟨rfl, rfl, rfl, by decide +kernel, rfl, by decide +kernel, by decide +kernel⟩
abbrev s_Ice_break_at : Stmt := inClass (topS 33) 1
theorem sc_Ice_break_at : FnScope ["self", "hour", "cut", "many"] ["self", "hour", "cut"] (defScope s_Ice_break_at) := ⟨rfl, rfl, rfl, by decide +kernel, rfl, by decide +kernel, by decide +kernel⟩
abbrev s_Ice_mend_at : Stmt := inClass (topS 33) 2
theorem sc_Ice_mend_at : FnScope ["self", "hour", "cut", "left"] ["self", "hour", "cut"] (defScope s_Ice_mend_at) := ⟨rfl, rfl, rfl, by decide +kernel, rfl, by decide +kernel, by decide +kernel⟩
abbrev s_Ice_thick : Stmt := inClass (topS 33) 3
theorem sc_Ice_thick : FnScope ["self", "hour", "start", "_", "behind"] ["self", "hour"] (defScope s_Ice_thick) := ⟨rfl, rfl, rfl, by decide +kernel, rfl, by decide +kernel, by decide +kernel⟩
abbrev s_Ice_ahead : Stmt := inClass (topS 33) 4
theorem sc_Ice_ahead : FnScope ["self", "hour", "start", "ahead", "behind"] ["self", "hour"] (defScope s_Ice_ahead) := ⟨rfl, rfl, rfl, by decide +kernel, rfl, by decide +kernel, by decide +kernel⟩
abbrev s_Ice_breakings : Stmt := inClass (topS 33) 5
theorem sc_Ice_breakings : FnScope ["self"] ["self"] (defScope s_Ice_breakings) := ⟨rfl, rfl, rfl, by decide +kernel, rfl, by decide +kernel, by decide +kernel⟩
abbrev s_Ice_rows : Stmt := inClass (topS 33) 6
theorem sc_Ice_rows : FnScope ["self"] ["self"] (defScope s_Ice_rows) := ⟨rfl, rfl, rfl, by decide +kernel, rfl, by decide +kernel, by decide +kernel⟩
abbrev s_Ice_next_hour : Stmt := inClass (topS 33) 7
theorem sc_Ice_next_hour : FnScope ["self", "hour", "strength", "start", "_", "behind"] ["self", "hour", "strength"] (defScope s_Ice_next_hour) := ⟨rfl, rfl, rfl, by decide +kernel, rfl, by decide +kernel, by decide +kernel⟩
abbrev s_Ice_last_hour : Stmt := inClass (topS 33) 8
theorem sc_Ice_last_hour : FnScope ["self", "hour", "strength", "start", "_", "behind"] ["self", "hour", "strength"] (defScope s_Ice_last_hour) := ⟨rfl, rfl, rfl, by decide +kernel, rfl, by decide +kernel, by decide +kernel⟩
abbrev s_Ice_stretches : Stmt := inClass (topS 33) 9
theorem sc_Ice_stretches : FnScope ["self", "strength", "found", "ends", "start", "_", "behind", "last", "end", "piece"] ["self", "strength"] (defScope s_Ice_stretches) := ⟨rfl, rfl, rfl, by decide +kernel, rfl, by decide +kernel, by decide +kernel⟩
abbrev s_Ice_copied : Stmt := inClass (topS 33) 10
theorem sc_Ice_copied : FnScope ["self", "other"] ["self"] (defScope s_Ice_copied) := ⟨rfl, rfl, rfl, by decide +kernel, rfl, by decide +kernel, by decide +kernel⟩
abbrev s_Ice__keep : Stmt := inClass (topS 33) 11
theorem sc_Ice__keep : FnScope ["self", "breakings", "hour", "cut", "ahead", "start", "_", "behind"] ["self", "breakings"] (defScope s_Ice__keep) := ⟨rfl, rfl, rfl, by decide +kernel, rfl, by decide +kernel, by decide +kernel⟩
abbrev s_Ice__grown : Stmt := inClass (topS 33) 12
theorem sc_Ice__grown : FnScope ["self", "thick", "hours"] ["self", "thick", "hours"] (defScope s_Ice__grown) := ⟨rfl, rfl, rfl, by decide +kernel, rfl, by decide +kernel, by decide +kernel⟩
abbrev s_Ice__piece_of : Stmt := inClass (topS 33) 13
theorem sc_Ice__piece_of : FnScope ["self", "hour", "low", "high", "middle"] ["self", "hour"] (defScope s_Ice__piece_of) := ⟨rfl, rfl, rfl, by decide +kernel, rfl, by decide +kernel, by decide +kernel⟩
abbrev s_Ice__end_of : Stmt := inClass (topS 33) 14
theorem sc_Ice__end_of : FnScope ["self", "start", "behind", "strength", "last", "end"] ["self", "start", "behind", "strength", "last"] (defScope s_Ice__end_of) := ⟨rfl, rfl, rfl, by decide +kernel, rfl, by decide +kernel, by decide +kernel⟩
abbrev s_Ice__check_hour : Stmt := inClass (topS 33) 15
theorem sc_Ice__check_hour : FnScope ["self", "hour"] ["self", "hour"] (defScope s_Ice__check_hour) := ⟨rfl, rfl, rfl, by decide +kernel, rfl, by decide +kernel, by decide +kernel⟩
abbrev s_Ice__check_breaking : Stmt := inClass (topS 33) 16
theorem sc_Ice__check_breaking : FnScope ["self", "hour", "cut"] ["self", "hour", "cut"] (defScope s_Ice__check_breaking) := ⟨rfl, rfl, rfl, by decide +kernel, rfl, by decide +kernel, by decide +kernel⟩

structure Top (K : PySem.W.Frag) (mg : Str → Option Value) where
  a_is_whole : Addr
  d_is_whole : FuncData
  F_is_whole : Fun K "is_whole" "is_whole" s_is_whole a_is_whole d_is_whole
  b_is_whole : Binds K d_is_whole ["thing"] []
  m_is_whole : mg "is_whole" = some (.ref a_is_whole)
  a_is_within : Addr
  d_is_within : FuncData
  F_is_within : Fun K "is_within" "is_within" s_is_within a_is_within d_is_within
  b_is_within : Binds K d_is_within ["thing", "low", "high"] []
  m_is_within : mg "is_within" = some (.ref a_is_within)
  a_is_name : Addr
  d_is_name : FuncData
  F_is_name : Fun K "is_name" "is_name" s_is_name a_is_name d_is_name
  b_is_name : Binds K d_is_name ["thing"] []
  m_is_name : mg "is_name" = some (.ref a_is_name)
  a_all_between : Addr
  d_all_between : FuncData
  F_all_between : Fun K "_all_between" "_all_between" s_all_between a_all_between d_all_between
  b_all_between : Binds K d_all_between ["text", "low", "high"] []
  m_all_between : mg "_all_between" = some (.ref a_all_between)
  a_check_number : Addr
  d_check_number : FuncData
  F_check_number : Fun K "check_number" "check_number" s_check_number a_check_number d_check_number
  b_check_number : Binds K d_check_number ["thing", "low", "high"] []
  m_check_number : mg "check_number" = some (.ref a_check_number)
  a_check_hour : Addr
  d_check_hour : FuncData
  F_check_hour : Fun K "check_hour" "check_hour" s_check_hour a_check_hour d_check_hour
  b_check_hour : Binds K d_check_hour ["thing", "low", "high"] []
  m_check_hour : mg "check_hour" = some (.ref a_check_hour)
  a_check_names : Addr
  d_check_names : FuncData
  F_check_names : Fun K "_check_names" "_check_names" s_check_names a_check_names d_check_names
  b_check_names : Binds K d_check_names ["things"] []
  m_check_names : mg "_check_names" = some (.ref a_check_names)
  a_cuts_by_hour : Addr
  d_cuts_by_hour : FuncData
  F_cuts_by_hour : Fun K "_cuts_by_hour" "_cuts_by_hour" s_cuts_by_hour a_cuts_by_hour d_cuts_by_hour
  b_cuts_by_hour : Binds K d_cuts_by_hour ["begin", "breakings"] []
  m_cuts_by_hour : mg "_cuts_by_hour" = some (.ref a_cuts_by_hour)
  a_cell : Addr
  d_cell : FuncData
  F_cell : Fun K "_law_cell" "_law_cell" s_cell a_cell d_cell
  b_cell : Binds K d_cell ["_law_script", "_law_k"] []
  m_cell : mg "_law_cell" = some (.ref a_cell)
  a_box : Addr
  d_box : FuncData
  F_box : Fun K "_law_box" "_law_box" s_box a_box d_box
  b_box : Binds K d_box ["_law_cell_here"] []
  m_box : mg "_law_box" = some (.ref a_box)
  a_take : Addr
  d_take : FuncData
  F_take : Fun K "_law_take" "_law_take" s_take a_take d_take
  b_take : Binds K d_take ["_law_box_here", "_law_many"] []
  m_take : mg "_law_take" = some (.ref a_take)
  a_numbers : Addr
  d_numbers : FuncData
  F_numbers : Fun K "_law_numbers" "_law_numbers" s_numbers a_numbers d_numbers
  b_numbers : Binds K d_numbers ["_law_box_here"] []
  m_numbers : mg "_law_numbers" = some (.ref a_numbers)
  a_ice : Addr
  d_ice : FuncData
  F_ice : Fun K "_law_ice" "_law_ice" s_ice a_ice d_ice
  b_ice : Binds K d_ice ["_law_numbers_here"] []
  m_ice : mg "_law_ice" = some (.ref a_ice)
  a_cut : Addr
  d_cut : FuncData
  F_cut : Fun K "_law_cut" "_law_cut" s_cut a_cut d_cut
  b_cut : Binds K d_cut ["_law_box_here", "_law_numbers_here"] []
  m_cut : mg "_law_cut" = some (.ref a_cut)
  a_hour : Addr
  d_hour : FuncData
  F_hour : Fun K "_law_hour" "_law_hour" s_hour a_hour d_hour
  b_hour : Binds K d_hour ["_law_box_here", "_law_begin"] []
  m_hour : mg "_law_hour" = some (.ref a_hour)
  a_turned : Addr
  d_turned : FuncData
  F_turned : Fun K "_law_turned" "_law_turned" s_turned a_turned d_turned
  b_turned : Binds K d_turned ["_law_box_here", "_law_rows"] []
  m_turned : mg "_law_turned" = some (.ref a_turned)
  a_thick : Addr
  d_thick : FuncData
  F_thick : Fun K "_law_thick" "_law_thick" s_thick a_thick d_thick
  b_thick : Binds K d_thick ["_law_numbers_here", "_law_rows", "_law_hour_here"] []
  m_thick : mg "_law_thick" = some (.ref a_thick)
  a_all : Addr
  d_all : FuncData
  F_all : Fun K "_law_all" "_law_all" s_all a_all d_all
  b_all : Binds K d_all ["_law_ice_here", "_law_strengths", "_law_hours"] []
  m_all : mg "_law_all" = some (.ref a_all)
  a_next_right : Addr
  d_next_right : FuncData
  F_next_right : Fun K "_law_next_right" "_law_next_right" s_next_right a_next_right d_next_right
  b_next_right : Binds K d_next_right ["_law_ice_here", "_law_hours", "_law_hour_here", "_law_strength"] []
  m_next_right : mg "_law_next_right" = some (.ref a_next_right)
  a_last_right : Addr
  d_last_right : FuncData
  F_last_right : Fun K "_law_last_right" "_law_last_right" s_last_right a_last_right d_last_right
  b_last_right : Binds K d_last_right ["_law_ice_here", "_law_hours", "_law_hour_here", "_law_strength"] []
  m_last_right : mg "_law_last_right" = some (.ref a_last_right)
  a_stretches_right : Addr
  d_stretches_right : FuncData
  F_stretches_right : Fun K "_law_stretches_right" "_law_stretches_right" s_stretches_right a_stretches_right d_stretches_right
  b_stretches_right : Binds K d_stretches_right ["_law_ice_here", "_law_begin", "_law_hours", "_law_strength"] []
  m_stretches_right : mg "_law_stretches_right" = some (.ref a_stretches_right)
  a_more_right : Addr
  d_more_right : FuncData
  F_more_right : Fun K "_law_more_right" "_law_more_right" s_more_right a_more_right d_more_right
  b_more_right : Binds K d_more_right ["_law_ice_here", "_law_more", "_law_strengths", "_law_hours"] []
  m_more_right : mg "_law_more_right" = some (.ref a_more_right)
  a_told : Addr
  d_told : FuncData
  F_told : Fun K "_law_told" "_law_told" s_told a_told d_told
  b_told : Binds K d_told ["_law_box_here", "_law_ice_here", "_law_rows", "_law_numbers_here", "_law_between"] []
  m_told : mg "_law_told" = some (.ref a_told)
  a_walked : Addr
  d_walked : FuncData
  F_walked : Fun K "_law_walked" "_law_walked" s_walked a_walked d_walked
  b_walked : Binds K d_walked ["_law_ice_here", "_law_begin", "_law_strengths", "_law_hours"] []
  m_walked : mg "_law_walked" = some (.ref a_walked)
  a_law : Addr
  d_law : FuncData
  F_law : Fun K "law" "law" s_law a_law d_law
  b_law : Binds K d_law ["_law_script"] []
  m_law : mg "law" = some (.ref a_law)
  a_NoName___init__ : Addr
  d_NoName___init__ : FuncData
  F_NoName___init__ : Fun K "__init__" "NoName.__init__" s_NoName___init__ a_NoName___init__ d_NoName___init__
  b_NoName___init__ : Binds K d_NoName___init__ ["self", "found"] []
  a_NoNumber___init__ : Addr
  d_NoNumber___init__ : FuncData
  F_NoNumber___init__ : Fun K "__init__" "NoNumber.__init__" s_NoNumber___init__ a_NoNumber___init__ d_NoNumber___init__
  b_NoNumber___init__ : Binds K d_NoNumber___init__ ["self", "found"] []
  a_Doubled___init__ : Addr
  d_Doubled___init__ : FuncData
  F_Doubled___init__ : Fun K "__init__" "Doubled.__init__" s_Doubled___init__ a_Doubled___init__ d_Doubled___init__
  b_Doubled___init__ : Binds K d_Doubled___init__ ["self", "name"] []
  a_NoChannel___init__ : Addr
  d_NoChannel___init__ : FuncData
  F_NoChannel___init__ : Fun K "__init__" "NoChannel.__init__" s_NoChannel___init__ a_NoChannel___init__ d_NoChannel___init__
  b_NoChannel___init__ : Binds K d_NoChannel___init__ ["self", "found"] []
  a_NoHour___init__ : Addr
  d_NoHour___init__ : FuncData
  F_NoHour___init__ : Fun K "__init__" "NoHour.__init__" s_NoHour___init__ a_NoHour___init__ d_NoHour___init__
  b_NoHour___init__ : Binds K d_NoHour___init__ ["self", "found"] []
  a_TooMany___init__ : Addr
  d_TooMany___init__ : FuncData
  F_TooMany___init__ : Fun K "__init__" "TooMany.__init__" s_TooMany___init__ a_TooMany___init__ d_TooMany___init__
  b_TooMany___init__ : Binds K d_TooMany___init__ ["self", "many"] []
  a_NoEntry___init__ : Addr
  d_NoEntry___init__ : FuncData
  F_NoEntry___init__ : Fun K "__init__" "NoEntry.__init__" s_NoEntry___init__ a_NoEntry___init__ d_NoEntry___init__
  b_NoEntry___init__ : Binds K d_NoEntry___init__ ["self", "found"] []
  a_Channel___init__ : Addr
  d_Channel___init__ : FuncData
  F_Channel___init__ : Fun K "__init__" "Channel.__init__" s_Channel___init__ a_Channel___init__ d_Channel___init__
  b_Channel___init__ : Binds K d_Channel___init__ ["self", "name", "one", "other", "hours", "depth", "first", "growth", "most"] []
  a_Channel_ends : Addr
  d_Channel_ends : FuncData
  F_Channel_ends : Fun K "ends" "Channel.ends" s_Channel_ends a_Channel_ends d_Channel_ends
  b_Channel_ends : Binds K d_Channel_ends ["self"] []
  a_Ice___init__ : Addr
  d_Ice___init__ : FuncData
  F_Ice___init__ : Fun K "__init__" "Ice.__init__" s_Ice___init__ a_Ice___init__ d_Ice___init__
  b_Ice___init__ : Binds K d_Ice___init__ ["self", "channel", "begin"] []
  a_Ice_break_at : Addr
  d_Ice_break_at : FuncData
  F_Ice_break_at : Fun K "break_at" "Ice.break_at" s_Ice_break_at a_Ice_break_at d_Ice_break_at
  b_Ice_break_at : Binds K d_Ice_break_at ["self", "hour", "cut"] []
  a_Ice_mend_at : Addr
  d_Ice_mend_at : FuncData
  F_Ice_mend_at : Fun K "mend_at" "Ice.mend_at" s_Ice_mend_at a_Ice_mend_at d_Ice_mend_at
  b_Ice_mend_at : Binds K d_Ice_mend_at ["self", "hour", "cut"] []
  a_Ice_thick : Addr
  d_Ice_thick : FuncData
  F_Ice_thick : Fun K "thick" "Ice.thick" s_Ice_thick a_Ice_thick d_Ice_thick
  b_Ice_thick : Binds K d_Ice_thick ["self", "hour"] []
  a_Ice_ahead : Addr
  d_Ice_ahead : FuncData
  F_Ice_ahead : Fun K "ahead" "Ice.ahead" s_Ice_ahead a_Ice_ahead d_Ice_ahead
  b_Ice_ahead : Binds K d_Ice_ahead ["self", "hour"] []
  a_Ice_breakings : Addr
  d_Ice_breakings : FuncData
  F_Ice_breakings : Fun K "breakings" "Ice.breakings" s_Ice_breakings a_Ice_breakings d_Ice_breakings
  b_Ice_breakings : Binds K d_Ice_breakings ["self"] []
  a_Ice_rows : Addr
  d_Ice_rows : FuncData
  F_Ice_rows : Fun K "rows" "Ice.rows" s_Ice_rows a_Ice_rows d_Ice_rows
  b_Ice_rows : Binds K d_Ice_rows ["self"] []
  a_Ice_next_hour : Addr
  d_Ice_next_hour : FuncData
  F_Ice_next_hour : Fun K "next_hour" "Ice.next_hour" s_Ice_next_hour a_Ice_next_hour d_Ice_next_hour
  b_Ice_next_hour : Binds K d_Ice_next_hour ["self", "hour", "strength"] []
  a_Ice_last_hour : Addr
  d_Ice_last_hour : FuncData
  F_Ice_last_hour : Fun K "last_hour" "Ice.last_hour" s_Ice_last_hour a_Ice_last_hour d_Ice_last_hour
  b_Ice_last_hour : Binds K d_Ice_last_hour ["self", "hour", "strength"] []
  a_Ice_stretches : Addr
  d_Ice_stretches : FuncData
  F_Ice_stretches : Fun K "stretches" "Ice.stretches" s_Ice_stretches a_Ice_stretches d_Ice_stretches
  b_Ice_stretches : Binds K d_Ice_stretches ["self", "strength"] []
  a_Ice_copied : Addr
  d_Ice_copied : FuncData
  F_Ice_copied : Fun K "copied" "Ice.copied" s_Ice_copied a_Ice_copied d_Ice_copied
  b_Ice_copied : Binds K d_Ice_copied ["self"] []
  a_Ice__keep : Addr
  d_Ice__keep : FuncData
  F_Ice__keep : Fun K "_keep" "Ice._keep" s_Ice__keep a_Ice__keep d_Ice__keep
  b_Ice__keep : Binds K d_Ice__keep ["self", "breakings"] []
  a_Ice__grown : Addr
  d_Ice__grown : FuncData
  F_Ice__grown : Fun K "_grown" "Ice._grown" s_Ice__grown a_Ice__grown d_Ice__grown
  b_Ice__grown : Binds K d_Ice__grown ["self", "thick", "hours"] []
  a_Ice__piece_of : Addr
  d_Ice__piece_of : FuncData
  F_Ice__piece_of : Fun K "_piece_of" "Ice._piece_of" s_Ice__piece_of a_Ice__piece_of d_Ice__piece_of
  b_Ice__piece_of : Binds K d_Ice__piece_of ["self", "hour"] []
  a_Ice__end_of : Addr
  d_Ice__end_of : FuncData
  F_Ice__end_of : Fun K "_end_of" "Ice._end_of" s_Ice__end_of a_Ice__end_of d_Ice__end_of
  b_Ice__end_of : Binds K d_Ice__end_of ["self", "start", "behind", "strength", "last"] []
  a_Ice__check_hour : Addr
  d_Ice__check_hour : FuncData
  F_Ice__check_hour : Fun K "_check_hour" "Ice._check_hour" s_Ice__check_hour a_Ice__check_hour d_Ice__check_hour
  b_Ice__check_hour : Binds K d_Ice__check_hour ["self", "hour"] []
  a_Ice__check_breaking : Addr
  d_Ice__check_breaking : FuncData
  F_Ice__check_breaking : Fun K "_check_breaking" "Ice._check_breaking" s_Ice__check_breaking a_Ice__check_breaking d_Ice__check_breaking
  b_Ice__check_breaking : Binds K d_Ice__check_breaking ["self", "hour", "cut"] []
  a_IceError : Addr
  c_IceError : mg "IceError" = some (.ref a_IceError)
  sp_IceError : PySem.W.specialIn K (.ref a_IceError) "__getattribute__" = some (some (.builtin "type.__getattribute__"))
  ty_IceError : PySem.W.typeIn K (.ref a_IceError) = some (.type "type")
  rd_IceError : PySem.W.readsIn K a_IceError (.type "type") = true
  fc_IceError : PySem.W.findCls K (.ref a_IceError) (.type "type") "__init__" = some (.val (.builtin "ValueError.__init__"))
  a_NoName : Addr
  c_NoName : mg "NoName" = some (.ref a_NoName)
  ox_NoName : OexC K a_NoName
  xf_NoName : XfC K a_NoName
  in_NoName : PySem.W.findIn K (.ref a_NoName) "__init__" = some (some (.ref a_NoName___init__))
  tf_NoName : PySem.W.typeIn K (.ref a_NoName___init__) = some (.type "function")
  nf_NoName_found : PySem.W.findIn K (.ref a_NoName) "found" = some none
  a_NoNumber : Addr
  c_NoNumber : mg "NoNumber" = some (.ref a_NoNumber)
  ox_NoNumber : OexC K a_NoNumber
  xf_NoNumber : XfC K a_NoNumber
  in_NoNumber : PySem.W.findIn K (.ref a_NoNumber) "__init__" = some (some (.ref a_NoNumber___init__))
  tf_NoNumber : PySem.W.typeIn K (.ref a_NoNumber___init__) = some (.type "function")
  nf_NoNumber_found : PySem.W.findIn K (.ref a_NoNumber) "found" = some none
  a_Doubled : Addr
  c_Doubled : mg "Doubled" = some (.ref a_Doubled)
  ox_Doubled : OexC K a_Doubled
  xf_Doubled : XfC K a_Doubled
  in_Doubled : PySem.W.findIn K (.ref a_Doubled) "__init__" = some (some (.ref a_Doubled___init__))
  tf_Doubled : PySem.W.typeIn K (.ref a_Doubled___init__) = some (.type "function")
  nf_Doubled_name : PySem.W.findIn K (.ref a_Doubled) "name" = some none
  a_NoChannel : Addr
  c_NoChannel : mg "NoChannel" = some (.ref a_NoChannel)
  ox_NoChannel : OexC K a_NoChannel
  xf_NoChannel : XfC K a_NoChannel
  in_NoChannel : PySem.W.findIn K (.ref a_NoChannel) "__init__" = some (some (.ref a_NoChannel___init__))
  tf_NoChannel : PySem.W.typeIn K (.ref a_NoChannel___init__) = some (.type "function")
  nf_NoChannel_found : PySem.W.findIn K (.ref a_NoChannel) "found" = some none
  a_NoHour : Addr
  c_NoHour : mg "NoHour" = some (.ref a_NoHour)
  ox_NoHour : OexC K a_NoHour
  xf_NoHour : XfC K a_NoHour
  in_NoHour : PySem.W.findIn K (.ref a_NoHour) "__init__" = some (some (.ref a_NoHour___init__))
  tf_NoHour : PySem.W.typeIn K (.ref a_NoHour___init__) = some (.type "function")
  nf_NoHour_found : PySem.W.findIn K (.ref a_NoHour) "found" = some none
  a_TooMany : Addr
  c_TooMany : mg "TooMany" = some (.ref a_TooMany)
  ox_TooMany : OexC K a_TooMany
  xf_TooMany : XfC K a_TooMany
  in_TooMany : PySem.W.findIn K (.ref a_TooMany) "__init__" = some (some (.ref a_TooMany___init__))
  tf_TooMany : PySem.W.typeIn K (.ref a_TooMany___init__) = some (.type "function")
  nf_TooMany_many : PySem.W.findIn K (.ref a_TooMany) "many" = some none
  a_NoEntry : Addr
  c_NoEntry : mg "NoEntry" = some (.ref a_NoEntry)
  ox_NoEntry : OexC K a_NoEntry
  xf_NoEntry : XfC K a_NoEntry
  in_NoEntry : PySem.W.findIn K (.ref a_NoEntry) "__init__" = some (some (.ref a_NoEntry___init__))
  tf_NoEntry : PySem.W.typeIn K (.ref a_NoEntry___init__) = some (.type "function")
  nf_NoEntry_found : PySem.W.findIn K (.ref a_NoEntry) "found" = some none
  a_Channel : Addr
  c_Channel : mg "Channel" = some (.ref a_Channel)
  cl_Channel : Cls K a_Channel
  mk_Channel : Mk K a_Channel a_Channel___init__
  na_Channel_name : NoAttr K a_Channel "name"
  na_Channel_one : NoAttr K a_Channel "one"
  na_Channel_other : NoAttr K a_Channel "other"
  na_Channel_hours : NoAttr K a_Channel "hours"
  na_Channel_depth : NoAttr K a_Channel "depth"
  na_Channel_first : NoAttr K a_Channel "first"
  na_Channel_growth : NoAttr K a_Channel "growth"
  na_Channel_most : NoAttr K a_Channel "most"
  me_Channel_ends : Meth K a_Channel "ends" a_Channel_ends
  a_Ice : Addr
  c_Ice : mg "Ice" = some (.ref a_Ice)
  cl_Ice : Cls K a_Ice
  mk_Ice : Mk K a_Ice a_Ice___init__
  na_Ice__channel : NoAttr K a_Ice "_channel"
  na_Ice__begin : NoAttr K a_Ice "_begin"
  na_Ice__breakings : NoAttr K a_Ice "_breakings"
  na_Ice__pieces : NoAttr K a_Ice "_pieces"
  me_Ice_break_at : Meth K a_Ice "break_at" a_Ice_break_at
  me_Ice_mend_at : Meth K a_Ice "mend_at" a_Ice_mend_at
  me_Ice_thick : Meth K a_Ice "thick" a_Ice_thick
  me_Ice_ahead : Meth K a_Ice "ahead" a_Ice_ahead
  me_Ice_breakings : Meth K a_Ice "breakings" a_Ice_breakings
  me_Ice_rows : Meth K a_Ice "rows" a_Ice_rows
  me_Ice_next_hour : Meth K a_Ice "next_hour" a_Ice_next_hour
  me_Ice_last_hour : Meth K a_Ice "last_hour" a_Ice_last_hour
  me_Ice_stretches : Meth K a_Ice "stretches" a_Ice_stretches
  me_Ice_copied : Meth K a_Ice "copied" a_Ice_copied
  me_Ice__keep : Meth K a_Ice "_keep" a_Ice__keep
  me_Ice__grown : Meth K a_Ice "_grown" a_Ice__grown
  me_Ice__piece_of : Meth K a_Ice "_piece_of" a_Ice__piece_of
  me_Ice__end_of : Meth K a_Ice "_end_of" a_Ice__end_of
  me_Ice__check_hour : Meth K a_Ice "_check_hour" a_Ice__check_hour
  me_Ice__check_breaking : Meth K a_Ice "_check_breaking" a_Ice__check_breaking
  sgc : PySem.W.specialIn K (.builtin "object.__class__") "__get__" = some (some (.builtin "getset_descriptor.__get__"))
  tkc : PySem.W.takesIn K (.builtin "object.__class__") = some true
  ca_Channel : PySem.W.findIn K (.ref a_Channel) "__class__" = some (some (.builtin "object.__class__"))
  mo_Channel : PySem.W.mroIn K a_Channel (.type "object") = some true
  io_Channel_Channel : PySem.W.kitOne K (.ref a_Channel) (.ref a_Channel) = some true
  ca_Ice : PySem.W.findIn K (.ref a_Ice) "__class__" = some (some (.builtin "object.__class__"))
  mo_Ice : PySem.W.mroIn K a_Ice (.type "object") = some true
  io_Ice_Channel : PySem.W.kitOne K (.ref a_Ice) (.ref a_Channel) = some false
  t_NAME_MOST : Tok
  c_NAME_MOST : mg "NAME_MOST" = some (.int 8 t_NAME_MOST)
  t_HOURS_MOST : Tok
  c_HOURS_MOST : mg "HOURS_MOST" = some (.int 1000 t_HOURS_MOST)
  t_DEPTH_MOST : Tok
  c_DEPTH_MOST : mg "DEPTH_MOST" = some (.int 1000 t_DEPTH_MOST)
  t_GROWTH_MOST : Tok
  c_GROWTH_MOST : mg "GROWTH_MOST" = some (.int 1000 t_GROWTH_MOST)
  t_THICK_MOST : Tok
  c_THICK_MOST : mg "THICK_MOST" = some (.int 1000000 t_THICK_MOST)
  t_BEGIN_MOST : Tok
  c_BEGIN_MOST : mg "BEGIN_MOST" = some (.int 1000000 t_BEGIN_MOST)
  t_ASKED_HOUR_MOST : Tok
  c_ASKED_HOUR_MOST : mg "ASKED_HOUR_MOST" = some (.int 1000000000 t_ASKED_HOUR_MOST)
  t_BREAKING_HOUR_MOST : Tok
  c_BREAKING_HOUR_MOST : mg "BREAKING_HOUR_MOST" = some (.int 100000000 t_BREAKING_HOUR_MOST)
  t_CUT_MOST : Tok
  c_CUT_MOST : mg "CUT_MOST" = some (.int 1000000 t_CUT_MOST)
  t_STRENGTH_MOST : Tok
  c_STRENGTH_MOST : mg "STRENGTH_MOST" = some (.int 1000000000 t_STRENGTH_MOST)
  t_BREAKINGS_MOST : Tok
  c_BREAKINGS_MOST : mg "BREAKINGS_MOST" = some (.int 200 t_BREAKINGS_MOST)
  n_isinstance : mg "isinstance" = none
  n_int : mg "int" = none
  n_bool : mg "bool" = none
  n_str : mg "str" = none
  n_len : mg "len" = none
  n_max : mg "max" = none
  n_list : mg "list" = none
  n_sorted : mg "sorted" = none
  n_min : mg "min" = none
  n_repr : mg "repr" = none
  n_range : mg "range" = none
  n_reversed : mg "reversed" = none
  n_zip : mg "zip" = none

section
variable {P : Program} {w : World} {K : PySem.W.Frag} {mg : Str → Option Value} {base : Heap}
def spCell (K : PySem.W.Frag) : Sp := fun vs H Q _ => ∃ (a : Addr) (ns : List Int) (k : Int), vs = [.ref a, .int k] ∧ SqL K H a (ns.map V.int) ∧ 0 ≤ k ∧ k ≤ 1000 ∧ ∀ z : Int, Q (.int z) H
theorem ok_cell (T : Top K mg) : FnG P w K mg base CX0 1 T.a_cell T.d_cell ["_law_script", "_law_k"] (spCell K) := by
  refine okG T.F_cell sc_cell (fun vs H Q E h => ?_) (fun cdv A outer s H vs Q E hr hgd h => ?_)
  · obtain ⟨a, ns, k, rfl, _⟩ := h
    rfl
  · obtain ⟨a, ns, k, rfl, hS, k0, hk, q⟩ := h
    obtain ⟨k, rfl⟩ := Int.eq_ofNat_of_zero_le k0
    refine ⟨_, (pss_cons (ps_if (pt_cmpR op_lt (pv 1) (pe_callB c_len (by rfl) T.n_len (by decide +kernel) (pa_cons (pv 0) pa_nil)) (nomark _))
        (pss_one (ps_ret (pe_ix ix_list (pv 0) (pv 1) (fun _ _ => rfl))))
        pss_nil)
      (pss_one (ps_ret (pe_op op_add (pe_op op_mul pe_int (pv 1)) pe_int)))), ?_⟩
    walk_at "rd"
    refine ifs (fun hc => ?_) (fun hc => ?_)
    · walk_at "rd"
      simp only [decide_eq_true_eq, List.length_map] at hc
      have hc' : k < ns.length := by omega
      exact i_ixL hS (atI_nat (by rw [List.getElem?_map, List.getElem?_eq_getElem hc']; rfl)) (q _)
    · walk_at "rd"
      exact q _
def spBox : Sp := fun vs H Q _ => ∃ z : Int, vs = [.int z] ∧ ∀ (p : Addr) (H' : Hp), H p = none → Same H H' → Box H' p 0 → Q (.ref p) H'
theorem ok_box (T : Top K mg) : FnG P w K mg base CX0 1 T.a_box T.d_box ["_law_cell_here"] spBox := by
  refine okG T.F_box sc_box (fun vs H Q E h => ?_) (fun cdv A outer s H vs Q E hr hgd h => ?_)
  · obtain ⟨z, rfl, _⟩ := h
    rfl
  · obtain ⟨z, rfl, q⟩ := h
    refine ⟨_, (pss_one (ps_ret (pe_lst (pa_cons (pe_callB (c_max2) (by rfl) T.n_max (by decide +kernel) (pa_cons pe_int (pa_cons (pe_op op_sub (pv 0) (pe_op op_pow pe_int pe_int)) pa_nil))) (pa_cons (pe_op op_modN (pv 0) pe_int) (pa_cons pe_int pa_nil)))))), ?_⟩
    walk_at "rd"
    (intro p hp; generalize ep : upd _ p _ = J; have N := New.of ep hp; clear ep hp)
    walk_at "rd"
    refine q p _ N.free N.same ⟨_, _, _, N.at_, ?_, Int.fmod_nonneg_of_pos _ (by decide), Int.fmod_lt_of_pos _ (by decide), by omega, by omega⟩
    split <;> omega
theorem sq_bound {z : Int} (h0 : 0 ≤ z) (h1 : z ≤ 1000) : 0 ≤ 104729 * (z + 1) * (z + 1) ∧ 104729 * (z + 1) * (z + 1) ≤ 104729 * 1001 * 1001 := by
  have a : 0 ≤ (z + 1) * (z + 1) := Int.mul_nonneg (by omega) (by omega)
  have b : (z + 1) * (z + 1) ≤ 1001 * 1001 := Int.mul_le_mul (by omega) (by omega) (by omega) (by omega)
  rw [Int.mul_assoc]
  omega
def spTake : Sp := fun vs H Q _ => ∃ (b : Addr) (m : Int) (n : Nat), vs = [.ref b, .int m] ∧ Box H b n ∧ n ≤ 100000 ∧ 0 < m ∧ m.natAbs < 2 ^ 100 ∧
  ∀ (d : Int) (H' : Hp), 0 ≤ d → d < m → But b H H' → Box H' b (n + 1) → Q (.int d) H'
theorem ok_take (T : Top K mg) : FnG P w K mg base CX0 1 T.a_take T.d_take ["_law_box_here", "_law_many"] spTake := by
  refine okG T.F_take sc_take (fun vs H Q E h => ?_) (fun cdv A outer s H vs Q E hr hgd h => ?_)
  · obtain ⟨b, m, n, rfl, _⟩ := h
    rfl
  · obtain ⟨b, m, n, rfl, ⟨x, y, z, hb, x0, y0, y1, z0, z1⟩, hn, m0, m1, q⟩ := h
    refine ⟨_, (pss_cons (ps_if (pt_cmpR op_gt (pe_ix ix_list (pv 0) pe_int (fun _ _ => rfl)) pe_int (nomark _))
        (pss_cons (ps_set (i := 2) sc_take.nd rfl (by first | exact Or.inl rfl | exact Or.inr rfl) (pe_op op_modN (pe_ix ix_list (pv 0) pe_int (fun _ _ => rfl)) (pv 1)))
      (pss_cons (ps_asg (pe_op op_fdivW (pe_ix ix_list (pv 0) pe_int (fun _ _ => rfl)) (pv 1)) (pg_sub (pv 0) pe_int set_list))
      (pss_one (ps_ret (pv 2)))))
        pss_nil)
      (pss_cons (ps_asg (pe_op op_add (pe_ix ix_list (pv 0) pe_int (fun _ _ => rfl)) pe_int) (pg_sub (pv 0) pe_int set_list))
      (pss_cons (ps_set (i := 3) sc_take.nd rfl (by first | exact Or.inl rfl | exact Or.inr rfl) (pe_op op_modN (pe_op op_pow (pe_op op_add (pe_op op_add (pe_ix ix_list (pv 0) pe_int (fun _ _ => rfl)) (pe_op op_mul pe_int (pe_ix ix_list (pv 0) pe_int (fun _ _ => rfl)))) pe_int) pe_int) pe_int))
      (pss_cons (ps_set (i := 3) sc_take.nd rfl (by first | exact Or.inl rfl | exact Or.inr rfl) (pe_op op_modN (pe_op op_pow (pe_op op_add (pv 3) (pe_op op_mul pe_int (pe_ix ix_list (pv 0) pe_int (fun _ _ => rfl)))) pe_int) pe_int))
      (pss_one (ps_ret (pe_op op_modN (pe_op op_fdivN (pv 3) pe_int) (pv 1)))))))), ?_⟩
    walk_at "rd"
    refine ifs (fun hc => ?_) (fun hc => ?_)
    · have hx : 0 < x := of_decide_eq_true hc
      walk_at "rd"
      refine i_rI (wide_div m0 m1 (by decide) (by decide)) ?_
      walk_at "rd"
      exact q _ _ (Int.fmod_nonneg_of_pos _ m0) (Int.fmod_lt_of_pos _ m0) (But.set _) ⟨_, _, _, upd_same, Int.ediv_nonneg x0 (by omega), y0, y1, z0, by omega⟩
    · walk_at "rd"
      have o0 : 0 ≤ ((y + 7919 * (z + 1) + 53) ^ Int.toNat 5).fmod 2147483647 := Int.fmod_nonneg_of_pos _ (by decide)
      have o1 : ((y + 7919 * (z + 1) + 53) ^ Int.toNat 5).fmod 2147483647 < 2147483647 := Int.fmod_lt_of_pos _ (by decide)
      refine i_rI ⟨by decide, by decide, ?_⟩ ?_
      · generalize ((y + 7919 * (z + 1) + 53) ^ Int.toNat 5).fmod 2147483647 = o at o0 o1 ⊢
        omega
      · walk_at "rd"
        exact q _ _ (Int.fmod_nonneg_of_pos _ m0) (Int.fmod_lt_of_pos _ m0) (But.set _) ⟨_, _, _, upd_same, x0, y0, y1, by omega, by omega⟩
end

section
variable {P : Program} {w : World} {K : PySem.W.Frag} {mg : Str → Option Value} {base : Heap}
def spBetween : Sp := fun vs H Q _ => ∃ (s lo hi : Str) (l h : Nat), vs = [.str s, .str lo, .str hi] ∧ tl lo = [l] ∧ tl hi = [h] ∧ Q (.bl (decide (∀ c ∈ tl s, l ≤ c ∧ c ≤ h))) H
theorem ok_all_between (T : Top K mg) : FnG P w K mg base CX0 1 T.a_all_between T.d_all_between ["text", "low", "high"] spBetween := by
  refine okG T.F_all_between sc_all_between (fun vs H Q E h => ?_) (fun cdv A outer s H vs Q E hr hgd h => ?_)
  · obtain ⟨s, lo, hi, l, h, rfl, _⟩ := h
    rfl
  · obtain ⟨s, lo, hi, l, h, rfl, hl, hh, q⟩ := h
    refine ⟨_, (pss_cons (ps_for PassesOwn.never rfl (pi_str (pv 0)) (pg_name (i := 3) sc_all_between.nd rfl (by first | exact Or.inl rfl | exact Or.inr rfl))
        (pss_one (ps_if (pt_not (pt_chain o_leT o_leT (pv 1) (pv 3) (pv 2)))
        (pss_one (ps_ret pe_bl))
        pss_nil)))
      (pss_one (ps_ret pe_bl))), ?_⟩
    walk_at "rd"
    refine ⟨.str s, rfl, s, rfl, for_text (fun i σ H' => H' = H ∧ (∃ v, σ = [some (.str s), some (.str lo), some (.str hi), v]) ∧ ∀ c ∈ (tl s).take i, l ≤ c ∧ c ≤ h) ⟨rfl, ⟨none, rfl⟩, by simp⟩ ?_ ?_⟩
    · rintro i c σ H' hc ⟨rfl, ⟨v, rfl⟩, hi'⟩
      have mem : c ∈ tl s := List.mem_of_getElem? hc
      have no : ¬ (l ≤ c ∧ c ≤ h) → Q (.bl false) H' := fun n => by rw [decide_eq_false (fun z => n (z c mem))] at q; exact q
      walk_at "rd"
      have e1 : (tl { cps := #[c] } < tl lo) ↔ c < l := by rw [hl]; exact one_lt c l
      have e2 : (tl hi < tl { cps := #[c] }) ↔ h < c := by rw [hh]; exact one_lt h c
      simp only [e1]
      refine ifs (fun h1 => ?_) (fun h1 => ?_)
      · walk_at "rd"
        simp only [e2]
        refine ifs (fun h2 => ?_) (fun h2 => ?_)
        · walk_at "rd"
          exact no (by simp at h1 h2; omega)
        · refine ⟨rfl, ⟨_, rfl⟩, take_all hi' hc ?_⟩
          simp at h1 h2; omega
      · walk_at "rd"
        exact no (by simp at h1; omega)
    · rintro σ H' ⟨rfl, ⟨v, rfl⟩, hi'⟩
      walk_at "rd"
      rw [List.take_length] at hi'
      rw [decide_eq_true hi'] at q
      exact q
end

section
variable {P : Program} {w : World} {K : PySem.W.Frag} {mg : Str → Option Value} {base : Heap}
def spWhole : Sp := fun vs H Q _ => ∃ v, vs = [v] ∧ Th H v ∧ Q (.bl (isW v)) H
theorem ok_is_whole (T : Top K mg) : FnG P w K mg base CX0 1 T.a_is_whole T.d_is_whole ["thing"] spWhole := by
  refine okG T.F_is_whole sc_is_whole (fun vs H Q E h => ?_) (fun cdv A outer s H vs Q E hr hgd h => ?_)
  · obtain ⟨v, rfl, _⟩ := h
    rfl
  · obtain ⟨v, rfl, th, q⟩ := h
    obtain ⟨n, ty, k1, k2, k3⟩ := th.ty (K := K)
    refine ⟨_, (pss_one (ps_ret (pe_and (pe_callB c_isi (by rfl) T.n_isinstance (by decide +kernel) (pa_cons (pv 0) (pa_cons (pe_bltn (v := .ty "int") (by rfl) T.n_int (by decide +kernel) rfl) pa_nil))) (pe_one (pe_not (pe_callB c_isi (by rfl) T.n_isinstance (by decide +kernel) (pa_cons (pv 0) (pa_cons (pe_bltn (v := .ty "bool") (by rfl) T.n_bool (by decide +kernel) rfl) pa_nil)))))))), ?_⟩
    walk_at "rd"
    refine i_isi ty k1 ?_
    walk_at "rd"
    refine ifs (fun h1 => ?_) (fun h1 => ?_)
    · walk_at "rd"
      refine i_isi ty k2 ?_
      walk_at "rd"
      have e : isW v = !decide (n = "bool") := by
        by_cases z : n = "bool"
        · obtain ⟨b, rfl⟩ := k3 z
          rw [decide_eq_true z]; rfl
        · rw [decide_eq_false z] at h1 ⊢
          simpa using h1
      rw [← e]
      exact q
    · have e : isW v = false := by simp at h1; exact h1.1
      rw [e] at q
      exact q
def spWithin : Sp := fun vs H Q _ => ∃ (v : V) (lo hi : Int), vs = [v, .int lo, .int hi] ∧ Th H v ∧ Q (.bl (inB lo hi v)) H
theorem ok_is_within (T : Top K mg) : FnG P w K mg base CX0 2 T.a_is_within T.d_is_within ["thing", "low", "high"] spWithin := by
  have G_is_whole := ok_is_whole (P := P) (w := w) (base := base) T
  refine okG T.F_is_within sc_is_within (fun vs H Q E h => ?_) (fun cdv A outer s H vs Q E hr hgd h => ?_)
  · obtain ⟨v, lo, hi, rfl, _⟩ := h
    rfl
  · obtain ⟨v, lo, hi, rfl, th, q⟩ := h
    refine ⟨_, (pss_one (ps_ret (pe_and (g_call G_is_whole (hr.mono (by decide)) hgd (by rfl) T.m_is_whole T.F_is_whole.kp T.b_is_whole .nil pass0 (pa_cons (pv 0) pa_nil)) (pe_one (pe_chain op_le op_le (pv 1) (pv 0) (pv 2)))))), ?_⟩
    walk_at "rd"
    refine ⟨v, rfl, th, ?_⟩
    walk_at "rd"
    refine ifs (fun h1 => ?_) (fun h1 => ?_)
    · obtain ⟨i, rfl⟩ : ∃ i, v = .int i := by cases v <;> first | exact ⟨_, rfl⟩ | cases h1
      have e : inB lo hi (.int i) = (decide (lo ≤ i) && decide (i ≤ hi)) := rfl
      rw [e] at q
      walk_at "rd"
      refine ifs (fun h2 => ?_) (fun h2 => ?_)
      · walk_at "rd"
        rw [h2] at q
        exact q
      · rw [h2] at q
        exact q
    · have e : inB lo hi v = false := by cases v <;> first | rfl | cases h1
      rw [e] at q
      exact q
def spName : Sp := fun vs H Q _ => ∃ v, vs = [v] ∧ Th H v ∧ Q (.bl (isN v)) H
theorem ok_is_name (T : Top K mg) : FnG P w K mg base CX0 2 T.a_is_name T.d_is_name ["thing"] spName := by
  have G_all_between := ok_all_between (P := P) (w := w) (base := base) T
  refine okG T.F_is_name sc_is_name (fun vs H Q E h => ?_) (fun cdv A outer s H vs Q E hr hgd h => ?_)
  · obtain ⟨v, rfl, _⟩ := h
    rfl
  · obtain ⟨v, rfl, th, q⟩ := h
    refine ⟨_, (pss_cons (ps_if (PW.pt (pw_or (pt_not (pt_val (pe_callB c_isi (by rfl) T.n_isinstance (by decide +kernel) (pa_cons (pv 0) (pa_cons (pe_bltn (v := .ty "str") (by rfl) T.n_str (by decide +kernel) rfl) pa_nil))))) (pw_or1 (pt_not (pt_chain op_le op_le pe_int (pe_callB c_lenS (by rfl) T.n_len (by decide +kernel) (pa_cons (pv 0) pa_nil)) (pe_glob (v := .int 8) (by rfl) T.c_NAME_MOST ⟨_, rfl⟩))))))
        (pss_one (ps_ret pe_bl))
        pss_nil)
      (pss_one (ps_ret (g_call G_all_between (hr.mono (by decide)) hgd (by rfl) T.m_all_between T.F_all_between.kp T.b_all_between .nil pass0 (pa_cons (pv 0) (pa_cons pe_str (pa_cons pe_str pa_nil))))))), ?_⟩
    rcases th with ⟨s, rfl, hs⟩ | ⟨n, hn⟩
    · have hz : s.length ≤ sizeLine := sz_of (by omega)
      have e : isN (.str s) = decide (1 ≤ s.length ∧ s.length ≤ 8 ∧ ∀ c ∈ tl s, 97 ≤ c ∧ c ≤ 122) := rfl
      rw [e] at q
      walk_at "rd"
      refine i_isi ty_str (b := true) (by decide +kernel) ?_
      walk_at "rd"
      refine i_lenS hz ?_
      walk_at "rd"
      refine ifs (fun h1 => ?_) (fun h1 => ?_)
      · walk_at "rd"
        refine ifs (fun h2 => ?_) (fun h2 => ?_)
        · walk_at "rd"
          rw [decide_eq_false (fun z => by simp at h1 h2; omega)] at q
          exact q
        · walk_at "rd"
          refine ⟨s, _, _, 97, 122, rfl, by decide +kernel, by decide +kernel, ?_⟩
          have e2 : decide (1 ≤ s.length ∧ s.length ≤ 8 ∧ ∀ c ∈ tl s, 97 ≤ c ∧ c ≤ 122) = decide (∀ c ∈ tl s, 97 ≤ c ∧ c ≤ 122) := by
            rw [decide_eq_decide]
            exact ⟨fun z => z.2.2, fun z => ⟨by simp at h1 h2; omega, by simp at h1 h2; omega, z⟩⟩
          rw [e2] at q
          exact q
      · walk_at "rd"
        rw [decide_eq_false (fun z => by simp at h1; omega)] at q
        exact q
    · rw [hn.isN] at q
      walk_at "rd"
      refine i_isi hn.tyx hn.noStr ?_
      walk_at "rd"
      exact q
end

section
variable {P : Program} {w : World} {K : PySem.W.Frag} {mg : Str → Option Value} {base : Heap}
theorem ok_NoName___init__ (T : Top K mg) : FnOk P w K mg base CX0 1 T.a_NoName___init__ T.d_NoName___init__ ["self", "found"] (spErr K "found") := by
  refine T.F_NoName___init__.ok sc_NoName___init__ (fun vs H Q E h => ?_) (fun cdv A outer s H vs Q E hr h => ?_)
  · obtain ⟨a, C, v, rfl, _⟩ := h
    rfl
  · obtain ⟨a, C, v, rfl, O, hno, ha, q⟩ := h
    refine ⟨_, (pss_cons (ps_expr (pe_kinit (by rfl) T.c_IceError T.sp_IceError T.ty_IceError T.rd_IceError T.fc_IceError (pa_cons (pv 0) (pa_cons pe_str pa_nil))))
      (pss_one (ps_ost (pv 0) (pv 1)))), ?_⟩
    walk_at "rd"
    refine ⟨a, C, _, rfl, by show 1 ≤ 1000; decide, O, ha, ?_⟩
    walk_at "rd"
    exact ⟨a, C, rfl, O, hno, .inl ⟨ha, q⟩⟩

theorem ok_NoNumber___init__ (T : Top K mg) : FnOk P w K mg base CX0 1 T.a_NoNumber___init__ T.d_NoNumber___init__ ["self", "found"] (spErr K "found") := by
  refine T.F_NoNumber___init__.ok sc_NoNumber___init__ (fun vs H Q E h => ?_) (fun cdv A outer s H vs Q E hr h => ?_)
  · obtain ⟨a, C, v, rfl, _⟩ := h
    rfl
  · obtain ⟨a, C, v, rfl, O, hno, ha, q⟩ := h
    refine ⟨_, (pss_cons (ps_expr (pe_kinit (by rfl) T.c_IceError T.sp_IceError T.ty_IceError T.rd_IceError T.fc_IceError (pa_cons (pv 0) (pa_cons pe_str pa_nil))))
      (pss_one (ps_ost (pv 0) (pv 1)))), ?_⟩
    walk_at "rd"
    refine ⟨a, C, _, rfl, by show 1 ≤ 1000; decide, O, ha, ?_⟩
    walk_at "rd"
    exact ⟨a, C, rfl, O, hno, .inl ⟨ha, q⟩⟩

theorem ok_Doubled___init__ (T : Top K mg) : FnOk P w K mg base CX0 1 T.a_Doubled___init__ T.d_Doubled___init__ ["self", "name"] (spErr K "name") := by
  refine T.F_Doubled___init__.ok sc_Doubled___init__ (fun vs H Q E h => ?_) (fun cdv A outer s H vs Q E hr h => ?_)
  · obtain ⟨a, C, v, rfl, _⟩ := h
    rfl
  · obtain ⟨a, C, v, rfl, O, hno, ha, q⟩ := h
    refine ⟨_, (pss_cons (ps_expr (pe_kinit (by rfl) T.c_IceError T.sp_IceError T.ty_IceError T.rd_IceError T.fc_IceError (pa_cons (pv 0) (pa_cons pe_str pa_nil))))
      (pss_one (ps_ost (pv 0) (pv 1)))), ?_⟩
    walk_at "rd"
    refine ⟨a, C, _, rfl, by show 1 ≤ 1000; decide, O, ha, ?_⟩
    walk_at "rd"
    exact ⟨a, C, rfl, O, hno, .inl ⟨ha, q⟩⟩

theorem ok_NoHour___init__ (T : Top K mg) : FnOk P w K mg base CX0 1 T.a_NoHour___init__ T.d_NoHour___init__ ["self", "found"] (spErr K "found") := by
  refine T.F_NoHour___init__.ok sc_NoHour___init__ (fun vs H Q E h => ?_) (fun cdv A outer s H vs Q E hr h => ?_)
  · obtain ⟨a, C, v, rfl, _⟩ := h
    rfl
  · obtain ⟨a, C, v, rfl, O, hno, ha, q⟩ := h
    refine ⟨_, (pss_cons (ps_expr (pe_kinit (by rfl) T.c_IceError T.sp_IceError T.ty_IceError T.rd_IceError T.fc_IceError (pa_cons (pv 0) (pa_cons pe_str pa_nil))))
      (pss_one (ps_ost (pv 0) (pv 1)))), ?_⟩
    walk_at "rd"
    refine ⟨a, C, _, rfl, by show 1 ≤ 1000; decide, O, ha, ?_⟩
    walk_at "rd"
    exact ⟨a, C, rfl, O, hno, .inl ⟨ha, q⟩⟩

theorem ok_TooMany___init__ (T : Top K mg) : FnOk P w K mg base CX0 1 T.a_TooMany___init__ T.d_TooMany___init__ ["self", "many"] (spErr K "many") := by
  refine T.F_TooMany___init__.ok sc_TooMany___init__ (fun vs H Q E h => ?_) (fun cdv A outer s H vs Q E hr h => ?_)
  · obtain ⟨a, C, v, rfl, _⟩ := h
    rfl
  · obtain ⟨a, C, v, rfl, O, hno, ha, q⟩ := h
    refine ⟨_, (pss_cons (ps_expr (pe_kinit (by rfl) T.c_IceError T.sp_IceError T.ty_IceError T.rd_IceError T.fc_IceError (pa_cons (pv 0) (pa_cons pe_str pa_nil))))
      (pss_one (ps_ost (pv 0) (pv 1)))), ?_⟩
    walk_at "rd"
    refine ⟨a, C, _, rfl, by show 1 ≤ 1000; decide, O, ha, ?_⟩
    walk_at "rd"
    exact ⟨a, C, rfl, O, hno, .inl ⟨ha, q⟩⟩

theorem ok_NoEntry___init__ (T : Top K mg) : FnOk P w K mg base CX0 1 T.a_NoEntry___init__ T.d_NoEntry___init__ ["self", "found"] (spErr K "found") := by
  refine T.F_NoEntry___init__.ok sc_NoEntry___init__ (fun vs H Q E h => ?_) (fun cdv A outer s H vs Q E hr h => ?_)
  · obtain ⟨a, C, v, rfl, _⟩ := h
    rfl
  · obtain ⟨a, C, v, rfl, O, hno, ha, q⟩ := h
    refine ⟨_, (pss_cons (ps_expr (pe_kinit (by rfl) T.c_IceError T.sp_IceError T.ty_IceError T.rd_IceError T.fc_IceError (pa_cons (pv 0) (pa_cons pe_str pa_nil))))
      (pss_one (ps_ost (pv 0) (pv 1)))), ?_⟩
    walk_at "rd"
    refine ⟨a, C, _, rfl, by show 1 ≤ 1000; decide, O, ha, ?_⟩
    walk_at "rd"
    exact ⟨a, C, rfl, O, hno, .inl ⟨ha, q⟩⟩

theorem ok_NoChannel___init__ (T : Top K mg) : FnOk P w K mg base CX0 1 T.a_NoChannel___init__ T.d_NoChannel___init__ ["self", "found"] (spErr K "found") := by
  refine T.F_NoChannel___init__.ok sc_NoChannel___init__ (fun vs H Q E h => ?_) (fun cdv A outer s H vs Q E hr h => ?_)
  · obtain ⟨a, C, v, rfl, _⟩ := h
    rfl
  · obtain ⟨a, C, v, rfl, O, hno, ha, q⟩ := h
    refine ⟨_, (pss_cons (ps_expr (pe_kinit (by rfl) T.c_IceError T.sp_IceError T.ty_IceError T.rd_IceError T.fc_IceError (pa_cons (pv 0) (pa_cons pe_str pa_nil))))
      (pss_one (ps_ost (pv 0) (pv 1)))), ?_⟩
    walk_at "rd"
    refine ⟨a, C, _, rfl, by show 1 ≤ 1000; decide, O, ha, ?_⟩
    walk_at "rd"
    exact ⟨a, C, rfl, O, hno, .inl ⟨ha, q⟩⟩

end
end Ice

set_option Elab.async false
set_option linter.all false
set_option maxRecDepth 100000
set_option maxHeartbeats 4000000
namespace Ice
open PySem PySem.Spec PyProof.Rows L2 TL
/-! side conditions, heaps, one step of a reading, and many -/
local macro_rules | `(tactic| walk_at "hp") => `(tactic| first | assumption | exact upd_same | exact New.at_ (by assumption) | (refine keepU ?_ (by assumption); walk_at "hp") | (refine New.app (by assumption) ?_; walk_at "hp") | (refine Same.app (by assumption) ?_; walk_at "hp") | (refine But.app (by assumption) (by assumption) ?_; walk_at "hp"))
local macro_rules | `(tactic| walk_at "sq") => `(tactic| first | assumption | exact SqL.lst (by walk_at "hp") | exact L2.Same.seq (New.same (by assumption)) (by assumption) | exact L2.Same.seq (by assumption) (by assumption))
local macro_rules | `(tactic| walk_at "len") => `(tactic| first | assumption | (simp only [List.length_cons, List.length_nil, List.length_append, List.length_map]; decide) | (refine Ice.sz_of ?_; simp only [List.length_cons, List.length_nil, List.length_append, List.length_map]; omega))
local macro_rules | `(tactic| walk_at "fresh") => `(tactic| (simp only [List.map_append, List.map_cons, List.map_nil, List.nil_append, List.cons_append]; decide +kernel))
local macro_rules | `(tactic| walk_at "sd") => `(tactic| first | assumption | (show _ ≠ _; omega) | exact Or.inl ⟨by omega, by omega⟩ | exact Or.inr ⟨by omega, by omega⟩ | exact ⟨by decide, by decide⟩ | exact ⟨by decide, by decide, by decide⟩ | exact ⟨by omega, by omega, by omega⟩)
/-! one step of a reading, and many -/
local macro_rules | `(tactic| walk_at "st") => `(tactic| first
  | with_reducible refine i_seq ?_
  | with_reducible refine i_if ?_
  | with_reducible refine i_next ?_
  | with_reducible refine i_ret ?_
  | with_reducible refine i_retN ?_
  | with_reducible refine i_drop ?_
  | with_reducible refine i_asg ?_
  | with_reducible refine i_gname ?_
  | with_reducible refine i_gsub ?_
  | ((with_reducible refine i_var (v := ?vv) ?hv ?_); (case hv => exact rfl))
  | with_reducible refine i_c ?_
  | with_reducible refine i_op ?_
  | with_reducible refine i_un ?_
  | with_reducible refine i_test ?_
  | with_reducible refine i_tB ?_
  | with_reducible refine i_and ?_
  | with_reducible refine i_or ?_
  | with_reducible refine i_not ?_
  | with_reducible refine i_andV ?_
  | with_reducible refine i_orV ?_
  | with_reducible refine i_notV ?_
  | with_reducible refine i_ifE ?_
  | with_reducible refine i_chain ?_
  | with_reducible refine i_bl ?_
  | with_reducible refine i_nil ?_
  | with_reducible refine i_cons ?_
  | with_reducible refine i_call ?_
  | with_reducible refine i_cb ?_
  | with_reducible refine i_rI0 ?_
  | with_reducible refine i_rU ?_
  | ((with_reducible refine i_rEq ?hs ?_); (case hs => exact rfl))
  | ((with_reducible refine i_rNe ?hs ?_); (case hs => exact rfl))
  | ((with_reducible refine i_rI ?hc ?_); (case hc => walk_at "sd"))
  | ((with_reducible refine i_ixL (xs := ?xs) (v := ?vv) ?hS ?he ?_); (case hS => walk_at "sq"); (case he => exact rfl))
  | ((with_reducible refine i_setL (xs := ?xs) (j := ?jj) ?hS ?he ?_); (case hS => walk_at "hp"); (case he => exact rfl))
  | with_reducible refine i_tup ?_
  | with_reducible refine i_lst ?_
  | with_reducible refine i_bm ?_
  | with_reducible refine i_bm0 ?_
  | with_reducible refine i_m1 ?_
  | with_reducible refine i_sl ?_
  | with_reducible refine i_nopart ?_
  | with_reducible refine i_part ?_
  | with_reducible refine i_int ?_
  | with_reducible refine i_str ?_
  | with_reducible refine i_for ?_
  | with_reducible refine i_yes ?_
  | ((with_reducible refine i_lenL (xs := ?xs) ?hS ?_); (case hS => walk_at "sq"))
  | ((with_reducible refine i_room ?hz ?_); (case hz => walk_at "len"))
  | with_reducible refine i_leT ?_
  | with_reducible refine i_notInS ?_
  | with_reducible refine i_inS ?_
  | with_reducible refine i_find ?_
  | with_reducible refine i_isB ?_
  | with_reducible refine i_max2 ?_
  | with_reducible refine i_min2 ?_
  | with_reducible exact trivial
  | with_reducible refine iteT ?_
  | with_reducible refine iteF ?_
  | with_reducible refine i_isstr ?_
  | with_reducible refine i_lc ?_
  | ((with_reducible refine i_cat (xs := ?xs) (zs := ?zs) ?ha ?hb ?hz ?_); (case ha => walk_at "hp"); (case hb => walk_at "hp"); (case hz => walk_at "len"))
  | ((with_reducible refine i_tyL (xs := ?xs) ?ha ?_); (case ha => walk_at "hp"))
  | with_reducible refine i_list ?_
  | with_reducible refine i_disp ?_
  | with_reducible refine i_pairs0 ?_
  | with_reducible refine i_pairs ?_
  | with_reducible refine i_newK ?_
  | with_reducible refine i_gcons ?_
  | with_reducible refine i_gnil ?_
  | with_reducible refine i_revL ?_
  | with_reducible refine i_rng1 ?_
  | ((with_reducible refine i_wipe ?hw ?_); (case hw => exact rfl))
  | with_reducible refine iteNT ?_
  | with_reducible refine iteNF ?_)
local macro_rules | `(tactic| walk_at "sx") => `(tactic| first
  | walk_at "st"
  | with_reducible refine i_kinit ?_
  | with_reducible refine i_ost ?_
  | with_reducible refine i_mkO ?_
  | with_reducible refine i_callE ?_
  | with_reducible refine i_makeE ?_
  | with_reducible refine i_xf ?_
  | with_reducible refine i_sfld ?_
  | with_reducible refine i_fld ?_
  | ((with_reducible refine i_ixT (xs := ?xs) (v := ?vv) ?hS ?he ?_); (case hS => exact SqT.tup (by walk_at "hp")); (case he => exact rfl))
  | with_reducible refine i_intB ?_
  | with_reducible refine i_runS ?_
  | with_reducible refine i_runN ?_
  | ((with_reducible refine i_xf1 (fs := ?ff) (v := ?vv) ?hx ?hl ?_); (case hx => walk_at "hp"); (case hl => exact rfl))
  | with_reducible refine i_methE ?_
  | with_reducible refine i_meth ?_
  | with_reducible refine i_make ?_
  | ((with_reducible refine i_obj (dx := ?dd) (fs := ?ff) ?hx ?hl ?_); (case hx => walk_at "hp"); (case hl => exact rfl))
  | ((with_reducible refine i_fld1 (C := ?CC) (dx := ?dd) (fs := ?ff) (v := ?vv) ?hx ?cl ?na ?hl ?_); (case hx => walk_at "hp"); (case cl => assumption); (case na => assumption); (case hl => exact rfl)))
local macro_rules | `(tactic| walk_at "sy") => `(tactic| first
  | walk_at "sx"
  | with_reducible refine i_dget ?_
  | with_reducible refine i_dget2 ?_
  | with_reducible refine i_dput ?_
  | with_reducible refine i_din ?_
  | ((with_reducible refine i_aug (x := ?vv) ?hx ?_); (case hx => exact rfl)))
local macro_rules | `(tactic| walk_at "rd") => `(tactic| repeat (walk_at "sy"))

section
variable {P : Program} {w : World} {K : PySem.W.Frag} {mg : Str → Option Value} {base : Heap}
def bad (v : V) : Bool := !isN v
def spNames (K : PySem.W.Frag) (C : Addr) : Sp := fun vs H Q E => ∃ (p : Addr) (xs : List V), vs = [.ref p] ∧ H p = some (.lst xs) ∧ (∀ v ∈ xs, Th H v) ∧
  ((xs.find? bad = none → Q .non H) ∧ ∀ v, xs.find? bad = some v → ∀ d, H d = none → E (.ref C) (some d) (upd H d (.xd [(Str.ofString "found", v)])))
theorem find_take {xs : List V} {i : Nat} {v : V} (h : (xs.take i).find? bad = none) (hi : xs[i]? = some v) : (bad v = true → xs.find? bad = some v) ∧ (bad v = false → (xs.take (i + 1)).find? bad = none) := by
  have e : xs.take (i + 1) = xs.take i ++ [v] := by rw [List.take_add_one, hi]; rfl
  refine ⟨fun z => ?_, fun z => ?_⟩
  · have e2 : xs = xs.take i ++ v :: xs.drop (i + 1) := by
      have hl := (List.getElem?_eq_some_iff.mp hi)
      rw [← hl.2, ← List.drop_eq_getElem_cons hl.1, List.take_append_drop]
    rw [e2, List.find?_append, h, List.find?_cons, z]; rfl
  · rw [e, List.find?_append, h, List.find?_cons, z]; rfl
theorem ok_check_names (T : Top K mg) : FnG P w K mg base (L2.CX P w) 3 T.a_check_names T.d_check_names ["things"] (spNames K T.a_NoName) := by
  have G_is_name := ok_is_name (P := P) (w := w) (base := base) T
  have G_NoName___init__ := ok_NoName___init__ (P := P) (w := w) (base := base) T
  refine okGX T.F_check_names sc_check_names (fun vs H Q E h => ?_) (fun cdv A outer s H vs Q E hr hgd h => ?_)
  · obtain ⟨p, xs, rfl, _⟩ := h
    rfl
  · obtain ⟨p, xs, rfl, hp, th, q0, q1⟩ := h
    have G_NoName___init__ := ok_NoName___init__ (P := P) (w := w) (base := base) T
    refine ⟨_, (pss_one (ps_for (passes_of rfl) rfl (pi_list (pv 0)) (pg_name (i := 1) sc_check_names.nd rfl (by first | exact Or.inl rfl | exact Or.inr rfl))
        (pss_one (ps_if (pt_not (pt_val (g_call G_is_name (hr.mono (by decide)) hgd (by rfl) T.m_is_name T.F_is_name.kp T.b_is_name .nil pass0 (pa_cons (pv 1) pa_nil))))
        (pss_one (ps_raise rfl (takes_of rfl rfl rfl rfl) (pmk_oex T.ox_NoName T.in_NoName T.tf_NoName G_NoName___init__ (hr.mono (by decide)) T.b_NoName___init__ .nil pass0 (by rfl) T.c_NoName (pa_cons (pv 1) pa_nil))))
        pss_nil)))), ?_⟩
    walk_at "rd"
    refine ⟨p, rfl, ⟨_, SqL.lst hp⟩, ?_⟩
    refine for_list (K := K) (a := p) (xs := xs) (fun i σ H' => H' = H ∧ (∃ v, σ = [some (.ref p), v]) ∧ (xs.take i).find? bad = none) ⟨rfl, ⟨none, rfl⟩, rfl⟩ (fun i σ H' _ h => by rw [h.1]; exact SqL.lst hp) ?_ ?_
    · rintro i v σ H' hi ⟨rfl, ⟨_, rfl⟩, hf⟩
      obtain ⟨f1, f2⟩ := find_take hf hi
      walk_at "rd"
      refine ⟨v, rfl, th v (List.mem_of_getElem? hi), ?_⟩
      walk_at "rd"
      refine ifs (fun h1 => ?_) (fun h1 => ?_)
      · walk_at "rd"
        exact i_mkE T.ox_NoName T.nf_NoName_found (q1 v (f1 h1))
      · exact ⟨rfl, ⟨_, rfl⟩, f2 (by simpa [bad] using h1)⟩
    · rintro σ H' ⟨rfl, ⟨_, rfl⟩, hf⟩
      walk_at "rd"
      rw [List.take_length] at hf
      exact q0 hf
def spNumber (K : PySem.W.Frag) (C : Addr) : Sp := fun vs H Q E => ∃ (v : V) (lo hi : Int), vs = [v, .int lo, .int hi] ∧ Th H v ∧
  ((inB lo hi v = true → Q .non H) ∧ (inB lo hi v = false → ∀ d, H d = none → E (.ref C) (some d) (upd H d (.xd [(Str.ofString "found", v)]))))
theorem ok_check_number (T : Top K mg) : FnG P w K mg base (L2.CX P w) 3 T.a_check_number T.d_check_number ["thing", "low", "high"] (spNumber K T.a_NoNumber) := by
  have G_is_within := ok_is_within (P := P) (w := w) (base := base) T
  have G_NoNumber___init__ := ok_NoNumber___init__ (P := P) (w := w) (base := base) T
  refine okGX T.F_check_number sc_check_number (fun vs H Q E h => ?_) (fun cdv A outer s H vs Q E hr hgd h => ?_)
  · obtain ⟨v, lo, hi, rfl, _⟩ := h
    rfl
  · obtain ⟨v, lo, hi, rfl, th, q0, q1⟩ := h
    have G_NoNumber___init__ := ok_NoNumber___init__ (P := P) (w := w) (base := base) T
    refine ⟨_, (pss_one (ps_if (pt_not (pt_val (g_call G_is_within (hr.mono (by decide)) hgd (by rfl) T.m_is_within T.F_is_within.kp T.b_is_within .nil pass0 (pa_cons (pv 0) (pa_cons (pv 1) (pa_cons (pv 2) pa_nil))))))
        (pss_one (ps_raise rfl (takes_of rfl rfl rfl rfl) (pmk_oex T.ox_NoNumber T.in_NoNumber T.tf_NoNumber G_NoNumber___init__ (hr.mono (by decide)) T.b_NoNumber___init__ .nil pass0 (by rfl) T.c_NoNumber (pa_cons (pv 0) pa_nil))))
        pss_nil)), ?_⟩
    walk_at "rd"
    refine ⟨v, lo, hi, rfl, th, ?_⟩
    walk_at "rd"
    refine ifs (fun h1 => ?_) (fun h1 => ?_)
    · walk_at "rd"
      exact i_mkE T.ox_NoNumber T.nf_NoNumber_found (q1 (by simpa using h1))
    · exact q0 (by simpa using h1)
end

section
variable {P : Program} {w : World} {K : PySem.W.Frag} {mg : Str → Option Value} {base : Heap}
theorem ok_check_hour (T : Top K mg) : FnG P w K mg base (L2.CX P w) 3 T.a_check_hour T.d_check_hour ["thing", "low", "high"] (spNumber K T.a_NoHour) := by
  have G_is_within := ok_is_within (P := P) (w := w) (base := base) T
  have G_NoHour___init__ := ok_NoHour___init__ (P := P) (w := w) (base := base) T
  refine okGX T.F_check_hour sc_check_hour (fun vs H Q E h => ?_) (fun cdv A outer s H vs Q E hr hgd h => ?_)
  · obtain ⟨v, lo, hi, rfl, _⟩ := h
    rfl
  · obtain ⟨v, lo, hi, rfl, th, q0, q1⟩ := h
    have G_NoHour___init__ := ok_NoHour___init__ (P := P) (w := w) (base := base) T
    refine ⟨_, (pss_one (ps_if (pt_not (pt_val (g_call G_is_within (hr.mono (by decide)) hgd (by rfl) T.m_is_within T.F_is_within.kp T.b_is_within .nil pass0 (pa_cons (pv 0) (pa_cons (pv 1) (pa_cons (pv 2) pa_nil))))))
        (pss_one (ps_raise rfl (takes_of rfl rfl rfl rfl) (pmk_oex T.ox_NoHour T.in_NoHour T.tf_NoHour G_NoHour___init__ (hr.mono (by decide)) T.b_NoHour___init__ .nil pass0 (by rfl) T.c_NoHour (pa_cons (pv 0) pa_nil))))
        pss_nil)), ?_⟩
    walk_at "rd"
    refine ⟨v, lo, hi, rfl, th, ?_⟩
    walk_at "rd"
    refine ifs (fun h1 => ?_) (fun h1 => ?_)
    · walk_at "rd"
      exact i_mkE T.ox_NoHour T.nf_NoHour_found (q1 (by simpa using h1))
    · exact q0 (by simpa using h1)
end
/-- what comes of eight things: a channel, or what is refused -/
inductive Res
  | made | name (v : V) | doubled (v : V) | number (v : V)
def inV6 (f m : V) : Bool := match f with
  | .int lo => inB lo 1000000 m
  | _ => false
def resC (n o t h d f g m : V) : Res :=
  match [n, o, t].find? bad with
  | some v => .name v
  | none => if o = t then .doubled o else if inB 1 1000 h = false then .number h else if inB 0 1000 d = false then .number d
    else if inB 0 1000000 f = false then .number f else if inB 0 1000 g = false then .number g else if inV6 f m = false then .number m else .made
section
variable {P : Program} {w : World} {K : PySem.W.Frag} {mg : Str → Option Value} {base : Heap}
def fldC (n o t h d f g m : V) : List (Str × V) := [(Str.ofString "name", n), (Str.ofString "one", o), (Str.ofString "other", t), (Str.ofString "hours", h), (Str.ofString "depth", d), (Str.ofString "first", f), (Str.ofString "growth", g), (Str.ofString "most", m)]
/-- what is wanted of each outcome -/
def Wants (r : Res) (cN cD cR : Addr) (E : XK) (H : Hp) (made : Prop) : Prop := match r with
  | .made => made
  | .name v => ∀ d H', Same H H' → H' d = some (.xd [(Str.ofString "found", v)]) → E (.ref cN) (some d) H'
  | .doubled v => ∀ d H', Same H H' → H' d = some (.xd [(Str.ofString "name", v)]) → E (.ref cD) (some d) H'
  | .number v => ∀ d H', Same H H' → H' d = some (.xd [(Str.ofString "found", v)]) → E (.ref cR) (some d) H'
def spInitC (C cN cD cR : Addr) : Sp := fun vs H Q E => ∃ (x dx : Addr) (n o t h d f g m : V), vs = [.ref x, n, o, t, h, d, f, g, m] ∧ H x = some (.ins C dx []) ∧ (∀ v ∈ [n, o, t, h, d, f, g, m], Th H v) ∧
  Wants (resC n o t h d f g m) cN cD cR E H (∀ H', But x H H' → H' x = some (.ins C dx (fldC n o t h d f g m)) → Q .non H')
theorem name_of {H : Hp} {v : V} (h : bad v = false) : ∃ s, v = .str s := by
  cases v <;> first | exact ⟨_, rfl⟩ | cases h
theorem ok_Channel___init__ (T : Top K mg) : FnG P w K mg base (L2.CX P w) 4 T.a_Channel___init__ T.d_Channel___init__ ["self", "name", "one", "other", "hours", "depth", "first", "growth", "most"] (spInitC T.a_Channel T.a_NoName T.a_Doubled T.a_NoNumber) := by
  have G_check_names := ok_check_names (P := P) (w := w) (base := base) T
  have G_check_number := ok_check_number (P := P) (w := w) (base := base) T
  have G_Doubled___init__ := ok_Doubled___init__ (P := P) (w := w) (base := base) T
  refine okGX T.F_Channel___init__ sc_Channel___init__ (fun vs H Q E h => ?_) (fun cdv A outer s H vs Q E hr hgd h => ?_)
  · obtain ⟨x, dx, n, o, t, h, d, f, g, m, rfl, _⟩ := h
    rfl
  · obtain ⟨x, dx, n, o, t, h, d, f, g, m, rfl, hx, th, q⟩ := h
    have G_Doubled___init__ := ok_Doubled___init__ (P := P) (w := w) (base := base) T
    have thn := th n (by simp); have tho := th o (by simp); have tht := th t (by simp); have thh := th h (by simp)
    have thd := th d (by simp); have thf := th f (by simp); have thg := th g (by simp); have thm := th m (by simp)
    refine ⟨_, (pss_cons (ps_expr (g_callE (E := WE _) G_check_names (hr.mono (by decide)) hgd (by rfl) T.m_check_names T.F_check_names.kp T.b_check_names .nil (passAt (takes_of rfl rfl rfl rfl)) (pa_cons (pe_lst (pa_cons (pv 1) (pa_cons (pv 2) (pa_cons (pv 3) pa_nil)))) pa_nil)))
      (pss_cons (ps_if (pt_cmpR op_eq (pv 2) (pv 3) (nomark _))
        (pss_one (ps_raise rfl (takes_of rfl rfl rfl rfl) (pmk_oex T.ox_Doubled T.in_Doubled T.tf_Doubled G_Doubled___init__ (hr.mono (by decide)) T.b_Doubled___init__ .nil pass0 (by rfl) T.c_Doubled (pa_cons (pv 2) pa_nil))))
        pss_nil)
      (pss_cons (ps_expr (g_callE (E := WE _) G_check_number (hr.mono (by decide)) hgd (by rfl) T.m_check_number T.F_check_number.kp T.b_check_number .nil (passAt (takes_of rfl rfl rfl rfl)) (pa_cons (pv 4) (pa_cons pe_int (pa_cons (pe_glob (v := .int 1000) (by rfl) T.c_HOURS_MOST ⟨_, rfl⟩) pa_nil)))))
      (pss_cons (ps_expr (g_callE (E := WE _) G_check_number (hr.mono (by decide)) hgd (by rfl) T.m_check_number T.F_check_number.kp T.b_check_number .nil (passAt (takes_of rfl rfl rfl rfl)) (pa_cons (pv 5) (pa_cons pe_int (pa_cons (pe_glob (v := .int 1000) (by rfl) T.c_DEPTH_MOST ⟨_, rfl⟩) pa_nil)))))
      (pss_cons (ps_expr (g_callE (E := WE _) G_check_number (hr.mono (by decide)) hgd (by rfl) T.m_check_number T.F_check_number.kp T.b_check_number .nil (passAt (takes_of rfl rfl rfl rfl)) (pa_cons (pv 6) (pa_cons pe_int (pa_cons (pe_glob (v := .int 1000000) (by rfl) T.c_THICK_MOST ⟨_, rfl⟩) pa_nil)))))
      (pss_cons (ps_expr (g_callE (E := WE _) G_check_number (hr.mono (by decide)) hgd (by rfl) T.m_check_number T.F_check_number.kp T.b_check_number .nil (passAt (takes_of rfl rfl rfl rfl)) (pa_cons (pv 7) (pa_cons pe_int (pa_cons (pe_glob (v := .int 1000) (by rfl) T.c_GROWTH_MOST ⟨_, rfl⟩) pa_nil)))))
      (pss_cons (ps_expr (g_callE (E := WE _) G_check_number (hr.mono (by decide)) hgd (by rfl) T.m_check_number T.F_check_number.kp T.b_check_number .nil (passAt (takes_of rfl rfl rfl rfl)) (pa_cons (pv 8) (pa_cons (pv 6) (pa_cons (pe_glob (v := .int 1000000) (by rfl) T.c_THICK_MOST ⟨_, rfl⟩) pa_nil)))))
      (pss_cons (ps_fld (pv 0) (pv 1) rfl)
      (pss_cons (ps_fld (pv 0) (pv 2) rfl)
      (pss_cons (ps_fld (pv 0) (pv 3) rfl)
      (pss_cons (ps_fld (pv 0) (pv 4) rfl)
      (pss_cons (ps_fld (pv 0) (pv 5) rfl)
      (pss_cons (ps_fld (pv 0) (pv 6) rfl)
      (pss_cons (ps_fld (pv 0) (pv 7) rfl)
      (pss_one (ps_fld (pv 0) (pv 8) rfl)))))))))))))))), ?_⟩
    walk_at "rd"
    (intro p hp; generalize ep : upd _ p _ = J; have N := New.of ep hp; clear ep hp)
    walk_at "rd"
    have xp : x ≠ p := ne_of_none hx N.free
    refine ⟨p, [n, o, t], rfl, N.at_, ?_, ?_, ?_⟩
    · intro v hv
      simp at hv
      rcases hv with rfl | rfl | rfl
      · exact thn.same N.same
      · exact tho.same N.same
      · exact tht.same N.same
    · intro nb
      obtain ⟨bo, bt⟩ : bad o = false ∧ bad t = false := by simp at nb; exact ⟨nb.2.1, nb.2.2⟩
      obtain ⟨so, rfl⟩ := name_of (H := H) bo
      obtain ⟨st, rfl⟩ := name_of (H := H) bt
      unfold resC at q
      rw [nb] at q
      walk_at "rd"
      refine ifs (fun h1 => ?_) (fun h1 => ?_)
      · walk_at "rd"
        dsimp only at q
        rw [if_pos (of_decide_eq_true h1)] at q
        exact i_mkE T.ox_Doubled T.nf_Doubled_name (fun d hd => q d _ (N.same.trans (Same.new _ hd)) upd_same)
      · walk_at "rd"
        dsimp only at q
        rw [if_neg (of_decide_eq_false h1)] at q
        refine ⟨h, 1, 1000, rfl, thh.same N.same, fun b1 => ?_, fun b1 d hd => ?_⟩
        · walk_at "rd"
          rw [if_neg (by rw [b1]; simp)] at q
          refine ⟨d, 0, 1000, rfl, thd.same N.same, fun b2 => ?_, fun b2 d hd => ?_⟩
          · walk_at "rd"
            rw [if_neg (by rw [b2]; simp)] at q
            refine ⟨f, 0, 1000000, rfl, thf.same N.same, fun b3 => ?_, fun b3 d hd => ?_⟩
            · walk_at "rd"
              rw [if_neg (by rw [b3]; simp)] at q
              refine ⟨g, 0, 1000, rfl, thg.same N.same, fun b4 => ?_, fun b4 d hd => ?_⟩
              · walk_at "rd"
                rw [if_neg (by rw [b4]; simp)] at q
                obtain ⟨lo, rfl⟩ : ∃ i, f = .int i := by cases f <;> first | exact ⟨_, rfl⟩ | cases b3
                refine ⟨m, lo, 1000000, rfl, thm.same N.same, fun b5 => ?_, fun b5 d hd => ?_⟩
                · rw [if_neg (by show ¬ inB lo 1000000 m = false; rw [b5]; simp)] at q
                  have hx0 : J x = some (.ins T.a_Channel dx []) := N.app hx
                  walk_at "rd"
                  refine i_store hx0 T.cl_Channel T.na_Channel_name (by decide) (by decide +kernel) ?_
                  walk_at "rd"
                  refine i_store upd_same T.cl_Channel T.na_Channel_one (by simp) (by walk_at "fresh") ?_
                  walk_at "rd"
                  refine i_store upd_same T.cl_Channel T.na_Channel_other (by simp) (by walk_at "fresh") ?_
                  walk_at "rd"
                  refine i_store upd_same T.cl_Channel T.na_Channel_hours (by simp) (by walk_at "fresh") ?_
                  walk_at "rd"
                  refine i_store upd_same T.cl_Channel T.na_Channel_depth (by simp) (by walk_at "fresh") ?_
                  walk_at "rd"
                  refine i_store upd_same T.cl_Channel T.na_Channel_first (by simp) (by walk_at "fresh") ?_
                  walk_at "rd"
                  refine i_store upd_same T.cl_Channel T.na_Channel_growth (by simp) (by walk_at "fresh") ?_
                  walk_at "rd"
                  refine i_store upd_same T.cl_Channel T.na_Channel_most (by simp) (by walk_at "fresh") ?_
                  refine q _ ?_ upd_same
                  intro b u nb hb
                  repeat rw [upd_ne nb]
                  exact N.app hb
                · rw [if_pos (show inV6 (.int lo) m = false from b5)] at q
                  exact q d _ (N.same.trans (Same.new _ hd)) upd_same
              · rw [if_pos b4] at q
                exact q d _ (N.same.trans (Same.new _ hd)) upd_same
            · rw [if_pos b3] at q
              exact q d _ (N.same.trans (Same.new _ hd)) upd_same
          · rw [if_pos b2] at q
            exact q d _ (N.same.trans (Same.new _ hd)) upd_same
        · rw [if_pos b1] at q
          exact q d _ (N.same.trans (Same.new _ hd)) upd_same
    · intro v hv d hd
      unfold resC at q
      rw [hv] at q
      exact q d _ (N.same.trans (Same.new _ hd)) upd_same
end

end Ice

set_option Elab.async false
set_option linter.all false
set_option maxRecDepth 100000
set_option maxHeartbeats 4000000
namespace Ice
open PySem PySem.Spec PyProof.Rows L2 TL
/-! side conditions, heaps, one step of a reading, and many -/
local macro_rules | `(tactic| walk_at "hp") => `(tactic| first | assumption | exact upd_same | exact New.at_ (by assumption) | (refine keepU ?_ (by assumption); walk_at "hp") | (refine New.app (by assumption) ?_; walk_at "hp") | (refine Same.app (by assumption) ?_; walk_at "hp") | (refine But.app (by assumption) (by assumption) ?_; walk_at "hp"))
local macro_rules | `(tactic| walk_at "sq") => `(tactic| first | assumption | exact SqL.lst (by walk_at "hp") | exact L2.Same.seq (New.same (by assumption)) (by assumption) | exact L2.Same.seq (by assumption) (by assumption))
local macro_rules | `(tactic| walk_at "len") => `(tactic| first | assumption | (simp only [List.length_cons, List.length_nil, List.length_append, List.length_map]; decide) | (refine Ice.sz_of ?_; simp only [List.length_cons, List.length_nil, List.length_append, List.length_map]; omega))
local macro_rules | `(tactic| walk_at "fresh") => `(tactic| (simp only [List.map_append, List.map_cons, List.map_nil, List.nil_append, List.cons_append]; decide +kernel))
local macro_rules | `(tactic| walk_at "sd") => `(tactic| first | assumption | (show _ ≠ _; omega) | exact Or.inl ⟨by omega, by omega⟩ | exact Or.inr ⟨by omega, by omega⟩ | exact ⟨by decide, by decide⟩ | exact ⟨by decide, by decide, by decide⟩ | exact ⟨by omega, by omega, by omega⟩)
/-! one step of a reading, and many -/
local macro_rules | `(tactic| walk_at "st") => `(tactic| first
  | with_reducible refine i_seq ?_
  | with_reducible refine i_if ?_
  | with_reducible refine i_next ?_
  | with_reducible refine i_ret ?_
  | with_reducible refine i_retN ?_
  | with_reducible refine i_drop ?_
  | with_reducible refine i_asg ?_
  | with_reducible refine i_gname ?_
  | with_reducible refine i_gsub ?_
  | ((with_reducible refine i_var (v := ?vv) ?hv ?_); (case hv => exact rfl))
  | with_reducible refine i_c ?_
  | with_reducible refine i_op ?_
  | with_reducible refine i_un ?_
  | with_reducible refine i_test ?_
  | with_reducible refine i_tB ?_
  | with_reducible refine i_and ?_
  | with_reducible refine i_or ?_
  | with_reducible refine i_not ?_
  | with_reducible refine i_andV ?_
  | with_reducible refine i_orV ?_
  | with_reducible refine i_notV ?_
  | with_reducible refine i_ifE ?_
  | with_reducible refine i_chain ?_
  | with_reducible refine i_bl ?_
  | with_reducible refine i_nil ?_
  | with_reducible refine i_cons ?_
  | with_reducible refine i_call ?_
  | with_reducible refine i_cb ?_
  | with_reducible refine i_rI0 ?_
  | with_reducible refine i_rU ?_
  | ((with_reducible refine i_rEq ?hs ?_); (case hs => exact rfl))
  | ((with_reducible refine i_rNe ?hs ?_); (case hs => exact rfl))
  | ((with_reducible refine i_rI ?hc ?_); (case hc => walk_at "sd"))
  | ((with_reducible refine i_ixL (xs := ?xs) (v := ?vv) ?hS ?he ?_); (case hS => walk_at "sq"); (case he => exact rfl))
  | ((with_reducible refine i_setL (xs := ?xs) (j := ?jj) ?hS ?he ?_); (case hS => walk_at "hp"); (case he => exact rfl))
  | with_reducible refine i_tup ?_
  | with_reducible refine i_lst ?_
  | with_reducible refine i_bm ?_
  | with_reducible refine i_bm0 ?_
  | with_reducible refine i_m1 ?_
  | with_reducible refine i_sl ?_
  | with_reducible refine i_nopart ?_
  | with_reducible refine i_part ?_
  | with_reducible refine i_int ?_
  | with_reducible refine i_str ?_
  | with_reducible refine i_for ?_
  | with_reducible refine i_yes ?_
  | ((with_reducible refine i_lenL (xs := ?xs) ?hS ?_); (case hS => walk_at "sq"))
  | ((with_reducible refine i_room ?hz ?_); (case hz => walk_at "len"))
  | with_reducible refine i_leT ?_
  | with_reducible refine i_notInS ?_
  | with_reducible refine i_inS ?_
  | with_reducible refine i_find ?_
  | with_reducible refine i_isB ?_
  | with_reducible refine i_max2 ?_
  | with_reducible refine i_min2 ?_
  | with_reducible exact trivial
  | with_reducible refine iteT ?_
  | with_reducible refine iteF ?_
  | with_reducible refine i_isstr ?_
  | with_reducible refine i_lc ?_
  | ((with_reducible refine i_cat (xs := ?xs) (zs := ?zs) ?ha ?hb ?hz ?_); (case ha => walk_at "hp"); (case hb => walk_at "hp"); (case hz => walk_at "len"))
  | ((with_reducible refine i_tyL (xs := ?xs) ?ha ?_); (case ha => walk_at "hp"))
  | with_reducible refine i_list ?_
  | with_reducible refine i_disp ?_
  | with_reducible refine i_pairs0 ?_
  | with_reducible refine i_pairs ?_
  | with_reducible refine i_newK ?_
  | with_reducible refine i_gcons ?_
  | with_reducible refine i_gnil ?_
  | with_reducible refine i_revL ?_
  | with_reducible refine i_rng1 ?_
  | ((with_reducible refine i_wipe ?hw ?_); (case hw => exact rfl))
  | with_reducible refine iteNT ?_
  | with_reducible refine iteNF ?_)
local macro_rules | `(tactic| walk_at "sx") => `(tactic| first
  | walk_at "st"
  | with_reducible refine i_kinit ?_
  | with_reducible refine i_ost ?_
  | with_reducible refine i_mkO ?_
  | with_reducible refine i_callE ?_
  | with_reducible refine i_makeE ?_
  | with_reducible refine i_xf ?_
  | with_reducible refine i_sfld ?_
  | with_reducible refine i_fld ?_
  | ((with_reducible refine i_ixT (xs := ?xs) (v := ?vv) ?hS ?he ?_); (case hS => exact SqT.tup (by walk_at "hp")); (case he => exact rfl))
  | with_reducible refine i_intB ?_
  | with_reducible refine i_runS ?_
  | with_reducible refine i_runN ?_
  | ((with_reducible refine i_xf1 (fs := ?ff) (v := ?vv) ?hx ?hl ?_); (case hx => walk_at "hp"); (case hl => exact rfl))
  | with_reducible refine i_methE ?_
  | with_reducible refine i_meth ?_
  | with_reducible refine i_make ?_
  | ((with_reducible refine i_obj (dx := ?dd) (fs := ?ff) ?hx ?hl ?_); (case hx => walk_at "hp"); (case hl => exact rfl))
  | ((with_reducible refine i_fld1 (C := ?CC) (dx := ?dd) (fs := ?ff) (v := ?vv) ?hx ?cl ?na ?hl ?_); (case hx => walk_at "hp"); (case cl => assumption); (case na => assumption); (case hl => exact rfl)))
local macro_rules | `(tactic| walk_at "sy") => `(tactic| first
  | walk_at "sx"
  | with_reducible refine i_dget ?_
  | with_reducible refine i_dget2 ?_
  | with_reducible refine i_dput ?_
  | with_reducible refine i_din ?_
  | ((with_reducible refine i_aug (x := ?vv) ?hx ?_); (case hx => exact rfl)))
local macro_rules | `(tactic| walk_at "rd") => `(tactic| repeat (walk_at "sy"))

abbrev flI (ch : Addr) (b : Int) (lb lp : Addr) : List (Str × V) := [(Str.ofString "_channel", .ref ch), (Str.ofString "_begin", .int b), (Str.ofString "_breakings", .ref lb), (Str.ofString "_pieces", .ref lp)]
/-- pairs, triples of numbers -/
def PairsAt (H : Hp) (bs : List Addr) (B : Brk) : Prop := bs.length = B.length ∧ ∀ (i : Nat) (a : Addr) (z : Int × Int), bs[i]? = some a → B[i]? = some z → H a = some (.tup [.int z.1, .int z.2])
def TripsAt (H : Hp) (ps : List Addr) (P : Pcs) : Prop := ps.length = P.length ∧ ∀ (i : Nat) (a : Addr) (z : Int × Int × Int), ps[i]? = some a → P[i]? = some z → H a = some (.tup [.int z.1, .int z.2.1, .int z.2.2])
theorem PairsAt.keep {H H' : Hp} {bs : List Addr} {B : Brk} (p : PairsAt H bs B) (e : ∀ a xs, H a = some (.tup xs) → H' a = some (.tup xs)) : PairsAt H' bs B := ⟨p.1, fun i a z h1 h2 => e a _ (p.2 i a z h1 h2)⟩
theorem TripsAt.keep {H H' : Hp} {bs : List Addr} {B : Pcs} (p : TripsAt H bs B) (e : ∀ a xs, H a = some (.tup xs) → H' a = some (.tup xs)) : TripsAt H' bs B := ⟨p.1, fun i a z h1 h2 => e a _ (p.2 i a z h1 h2)⟩
theorem keepT_same {H H' : Hp} (e : Same H H') : ∀ a xs, H a = some (.tup xs) → H' a = some (.tup xs) := fun a _ h => e a _ h
theorem keepT_upd {H : Hp} {d : Addr} {o u : HO} (hd : H d = some o) (n : ∀ xs, o ≠ .tup xs) : ∀ a xs, H a = some (.tup xs) → upd H d u a = some (.tup xs) := fun a xs h => by rw [upd_ne (ne_of h hd (n xs).symm)]; exact h
theorem keepT_but {H H' : Hp} {x : Addr} {o : HO} (hx : H x = some o) (n : ∀ xs, o ≠ .tup xs) (e : But x H H') : ∀ a xs, H a = some (.tup xs) → H' a = some (.tup xs) := fun a xs h => e a _ (ne_of h hx (n xs).symm) h
theorem PairsAt.snoc {H H' : Hp} {bs : List Addr} {B : Brk} {z : Int × Int} {r : Addr} (p : PairsAt H bs B) (e : ∀ a xs, H a = some (.tup xs) → H' a = some (.tup xs)) (hr : H' r = some (.tup [.int z.1, .int z.2])) : PairsAt H' (bs ++ [r]) (B ++ [z]) := by
  refine ⟨by simp [p.1], fun i a y h1 h2 => ?_⟩
  by_cases hi : i < bs.length
  · rw [List.getElem?_append_left hi] at h1
    rw [List.getElem?_append_left (by rw [← p.1]; exact hi)] at h2
    exact e _ _ (p.2 i a y h1 h2)
  · have : i < (bs ++ [r]).length := (List.getElem?_eq_some_iff.mp h1).1
    have hi2 : i = bs.length := by simp at this; omega
    subst hi2
    rw [List.getElem?_append_right (Nat.le_refl _), Nat.sub_self] at h1
    rw [p.1, List.getElem?_append_right (Nat.le_refl _), Nat.sub_self] at h2
    simp at h1 h2
    subst h1 h2
    exact hr
theorem TripsAt.snoc {H H' : Hp} {bs : List Addr} {B : Pcs} {z : Int × Int × Int} {r : Addr} (p : TripsAt H bs B) (e : ∀ a xs, H a = some (.tup xs) → H' a = some (.tup xs)) (hr : H' r = some (.tup [.int z.1, .int z.2.1, .int z.2.2])) : TripsAt H' (bs ++ [r]) (B ++ [z]) := by
  refine ⟨by simp [p.1], fun i a y h1 h2 => ?_⟩
  by_cases hi : i < bs.length
  · rw [List.getElem?_append_left hi] at h1
    rw [List.getElem?_append_left (by rw [← p.1]; exact hi)] at h2
    exact e _ _ (p.2 i a y h1 h2)
  · have : i < (bs ++ [r]).length := (List.getElem?_eq_some_iff.mp h1).1
    have hi2 : i = bs.length := by simp at this; omega
    subst hi2
    rw [List.getElem?_append_right (Nat.le_refl _), Nat.sub_self] at h1
    rw [p.1, List.getElem?_append_right (Nat.le_refl _), Nat.sub_self] at h2
    simp at h1 h2
    subst h1 h2
    exact hr
def rf (bs : List Addr) : List V := bs.map V.ref
theorem rf_get {bs : List Addr} {i : Nat} {v : V} (h : (rf bs)[i]? = some v) : ∃ a, bs[i]? = some a ∧ v = .ref a := by
  unfold rf at h
  rw [List.getElem?_map] at h
  cases hz : bs[i]? with
  | none => rw [hz] at h; cases h
  | some z => rw [hz] at h; exact ⟨z, rfl, (Option.some.inj h).symm⟩
theorem PairsAt.get {H : Hp} {bs : List Addr} {B : Brk} (p : PairsAt H bs B) {i : Nat} {v : V} (h : (rf bs)[i]? = some v) : ∃ a z, v = .ref a ∧ B[i]? = some z ∧ H a = some (.tup [.int z.1, .int z.2]) := by
  obtain ⟨a, ha, rfl⟩ := rf_get h
  have lt : i < B.length := by rw [← p.1]; exact (List.getElem?_eq_some_iff.mp ha).1
  exact ⟨a, B[i], rfl, List.getElem?_eq_getElem lt, p.2 i a _ ha (List.getElem?_eq_getElem lt)⟩
theorem TripsAt.get {H : Hp} {bs : List Addr} {B : Pcs} (p : TripsAt H bs B) {i : Nat} {z : Int × Int × Int} (h : B[i]? = some z) : ∃ a, (rf bs)[i]? = some (.ref a) ∧ H a = some (.tup [.int z.1, .int z.2.1, .int z.2.2]) := by
  have lt : i < bs.length := by rw [p.1]; exact (List.getElem?_eq_some_iff.mp h).1
  refine ⟨bs[i], ?_, p.2 i _ z (List.getElem?_eq_getElem lt) h⟩
  unfold rf
  rw [List.getElem?_map, List.getElem?_eq_getElem lt]
  rfl
theorem take_succ_of {α : Type} {L : List α} {i : Nat} {z : α} (h : L[i]? = some z) : L.take (i + 1) = L.take i ++ [z] := by rw [List.take_add_one, h]; rfl
/-- the dict of cuts -/
def dkv (C : Brk) : List (Key × V) := C.map fun z => (Sum.inl z.1, V.int z.2)
def lookC : Brk → Int → Option Int
  | [], _ => none
  | (k, v) :: r, h => if k = h then some v else lookC r h
theorem valV_dkv (C : Brk) (h : Int) : valV (dkv C) (Sum.inl h) = (lookC C h).map V.int := by
  induction C with
  | nil => rfl
  | cons z r ih =>
    obtain ⟨k, v⟩ := z
    show valV ((Sum.inl k, V.int v) :: dkv r) (Sum.inl h) = ((if k = h then some v else lookC r h)).map V.int
    by_cases e : k = h
    · rw [valV_pos (by rw [e]), if_pos e]; rfl
    · rw [valV_neg (fun z => e (by injection z)), ih, if_neg e]
theorem putK_ne {p : Key × V} {r : List (Key × V)} {k : Key} {v : V} (e : ¬ p.1 = k) : putK (p :: r) k v = p :: putK r k v := by
  unfold putK
  rw [List.any_cons, decide_eq_false e, Bool.false_or]
  split
  · rw [List.map_cons, if_neg e]
  · rfl
theorem putK_eq {p : Key × V} {r : List (Key × V)} {k : Key} {v : V} (e : p.1 = k) (h : ∀ q ∈ r, ¬ q.1 = k) : putK (p :: r) k v = (k, v) :: r := by
  unfold putK
  rw [List.any_cons, decide_eq_true e, Bool.true_or, if_pos rfl, List.map_cons, if_pos e, e]
  congr 1
  refine (List.map_congr_left fun q hq => ?_).trans (List.map_id r)
  rw [if_neg (h q hq)]; rfl
theorem putK_dkv {C : Brk} (r : Rise C) (h c : Int) : putK (dkv C) (Sum.inl h) (.int ((lookC C h).getD 0 + c)) = dkv (addC C h c) := by
  induction C with
  | nil =>
    show putK [] _ (.int (0 + c)) = [(Sum.inl h, V.int c)]
    rw [Int.zero_add]; rfl
  | cons z q ih =>
    obtain ⟨k, v⟩ := z
    have rq : Rise q := (List.pairwise_cons.mp r).2
    show putK ((Sum.inl k, V.int v) :: dkv q) (Sum.inl h) (.int ((if k = h then some v else lookC q h).getD 0 + c)) = dkv (if k = h then (k, v + c) :: q else (k, v) :: addC q h c)
    by_cases e : k = h
    · rw [if_pos e, if_pos e, putK_eq (by rw [e])]
      · rw [e]; rfl
      · intro p hp hk
        obtain ⟨y, hy, rfl⟩ := List.mem_map.mp hp
        have := (List.pairwise_cons.mp r).1 y.1 (List.mem_map.mpr ⟨y, hy, rfl⟩)
        injection hk with hk
        have t1 : k < y.1 := this
        omega
    · rw [if_neg e, if_neg e, putK_ne (fun z => e (by injection z)), ih rq]; rfl
theorem none_back {H0 H : Hp} (s : Same H0 H) {a : Addr} (h : H a = none) : H0 a = none := by
  cases e : H0 a with
  | none => rfl
  | some o => have := s a o e; rw [h] at this; cases this
theorem un1 {k : Nat} {A : Around} (hr : Room k A) : A.units + 1 < cLine := by have := hr.un; omega
section
variable {P : Program} {w : World} {K : PySem.W.Frag} {mg : Str → Option Value} {base : Heap}
def ChA (T : Top K mg) (H : Hp) (ch : Addr) (N : IceN) : Prop := ∃ (dch : Addr) (n o t h d : V), H ch = some (.ins T.a_Channel dch (fldC n o t h d (.int N.first) (.int N.growth) (.int N.most)))
/-- an Ice, its channel's numbers, its breakings -/
def IceA (T : Top K mg) (H : Hp) (x : Addr) (N : IceN) (B : Brk) : Prop := ∃ (dx ch lb lp : Addr) (bs ps : List Addr), H x = some (.ins T.a_Ice dx (flI ch N.b lb lp)) ∧ ChA T H ch N ∧ H lb = some (.lst (rf bs)) ∧ PairsAt H bs B ∧ H lp = some (.lst (rf ps)) ∧ TripsAt H ps (pieces N B)
/-- with its two lists -/
def IceL (T : Top K mg) (H : Hp) (x : Addr) (N : IceN) (B : Brk) (lb lp : Addr) : Prop := ∃ (dx ch : Addr) (bs ps : List Addr), H x = some (.ins T.a_Ice dx (flI ch N.b lb lp)) ∧ ChA T H ch N ∧ H lb = some (.lst (rf bs)) ∧ PairsAt H bs B ∧ H lp = some (.lst (rf ps)) ∧ TripsAt H ps (pieces N B)
theorem IceL.a {T : Top K mg} {H : Hp} {x : Addr} {N : IceN} {B : Brk} {lb lp : Addr} (i : IceL T H x N B lb lp) : IceA T H x N B := by
  obtain ⟨dx, ch, bs, ps, h⟩ := i
  exact ⟨dx, ch, lb, lp, bs, ps, h⟩
def spGrown (T : Top K mg) : Sp := fun vs H Q _ => ∃ (x dx ch : Addr) (fs : List (Str × V)) (N : IceN) (t h : Int), vs = [.ref x, .int t, .int h] ∧ H x = some (.ins T.a_Ice dx fs) ∧ fs.lookup (Str.ofString "_channel") = some (.ref ch) ∧ ChA T H ch N ∧ N.ok ∧ Q (.int (grown N t h)) H
theorem ok_Ice__grown (T : Top K mg) : FnG P w K mg base CX0 1 T.a_Ice__grown T.d_Ice__grown ["self", "thick", "hours"] (spGrown T) := by
  refine okG T.F_Ice__grown sc_Ice__grown (fun vs H Q E h => ?_) (fun cdv A outer s H vs Q E hr hgd h => ?_)
  · obtain ⟨x, dx, ch, fs, N, t, h, rfl, _⟩ := h
    rfl
  · obtain ⟨x, dx, ch, fs, N, t, h, rfl, hx, hl, ⟨dch, n, o, t', h', d, hc⟩, ok, q⟩ := h
    have g0 := ok.g0; have g3 := ok.g3
    refine ⟨_, (pss_one (ps_ret (pe_callB (c_min2) (by rfl) T.n_min (by decide +kernel) (pa_cons (pe_fld (pe_fld (pv 0) rfl) rfl) (pa_cons (pe_op op_add (pv 1) (pe_op op_mul (pe_fld (pe_fld (pv 0) rfl) rfl) (pv 2))) pa_nil))))), ?_⟩
    walk_at "rd"
    refine ⟨x, _, dx, fs, _, rfl, hx, T.cl_Ice, T.na_Ice__channel, hl, ?_⟩
    refine ⟨ch, _, dch, _, _, rfl, hc, T.cl_Channel, T.na_Channel_most, rfl, ?_⟩
    walk_at "rd"
    refine ⟨x, _, dx, fs, _, rfl, hx, T.cl_Ice, T.na_Ice__channel, hl, ?_⟩
    refine ⟨ch, _, dch, _, _, rfl, hc, T.cl_Channel, T.na_Channel_growth, rfl, ?_⟩
    walk_at "rd"
    exact q
def spCuts : Sp := fun vs H Q _ => ∃ (b : Int) (lb : Addr) (bs : List Addr) (B : Brk), vs = [.int b, .ref lb] ∧ H lb = some (.lst (rf bs)) ∧ PairsAt H bs B ∧ B.length ≤ 300 ∧ BOk b B ∧ ∀ r rs H', Same H H' → H' r = some (.lst (rf rs)) → PairsAt H' rs (cbh b B) → Q (.ref r) H'
theorem lookC_mem {C : Brk} (r : Rise C) {z : Int × Int} (hz : z ∈ C) : lookC C z.1 = some z.2 := by
  induction C with
  | nil => cases hz
  | cons y q ih =>
    obtain ⟨k, v⟩ := y
    show (if k = z.1 then some v else lookC q z.1) = some z.2
    rcases List.mem_cons.mp hz with e | e
    · subst e; rw [if_pos rfl]
    · have : k < z.1 := (List.pairwise_cons.mp r).1 z.1 (List.mem_map.mpr ⟨z, e, rfl⟩)
      rw [if_neg (by omega), ih (List.pairwise_cons.mp r).2 e]
theorem ok_cuts_by_hour (T : Top K mg) : FnG P w K mg base CX0 1 T.a_cuts_by_hour T.d_cuts_by_hour ["begin", "breakings"] spCuts := by
  refine okG T.F_cuts_by_hour sc_cuts_by_hour (fun vs H Q E h => ?_) (fun cdv A outer s H vs Q E hr hgd h => ?_)
  · obtain ⟨b, lb, bs, B, rfl, _⟩ := h
    rfl
  · obtain ⟨b, lb, bs, B, rfl, hlb, pB, l3, ok, q⟩ := h
    have hu : _ := un1 hr
    refine ⟨_, (pss_cons (ps_set (i := 2) sc_cuts_by_hour.nd rfl (by first | exact Or.inl rfl | exact Or.inr rfl) (pe_disp (pps_cons (pv 0) pe_int pps_nil) (by rfl) (by rfl) (fun z => by cases z) (by decide)))
      (pss_cons (ps_for PassesOwn.never rfl (pi_list (pv 1)) (pg_tup rfl (pgs_cons (pg_name (i := 3) sc_cuts_by_hour.nd rfl (by first | exact Or.inl rfl | exact Or.inr rfl)) (pgs_cons (pg_name (i := 4) sc_cuts_by_hour.nd rfl (by first | exact Or.inl rfl | exact Or.inr rfl)) pgs_nil)))
        (pss_one (ps_dput hu (pv 2) (pv 3) (pe_op op_add (pe_dget2 hu (pv 2) (pv 3) pe_int ⟨rfl, rfl, rfl, rfl⟩) (pv 4)) rfl)))
      (pss_one (ps_ret (pe_lock (pe_lc (own := [("hour", 3)]) (g := gName 3) rfl sc_cuts_by_hour.nd (pi_keys (pv 2)) (blkOk_by (own := [("hour", 3)]) (N := ["begin", "breakings", "cuts", "hour", "cut"]) (sc := defScope s_cuts_by_hour) (by decide +kernel)) (fun _ _ _ _ _ => (pg_name (i := 3) sc_cuts_by_hour.nd rfl (by first | exact Or.inl rfl | exact Or.inr rfl))) (fun _ _ _ _ _ => pts_nil) (fun _ _ _ _ _ => (pe_tup (pa_cons (pv 3) (pa_cons (pe_dget hu (pv 2) (pv 3) (fun _ _ => rfl)) pa_nil)))))))))), ?_⟩
    walk_at "rd"
    intro p hp
    walk_at "rd"
    refine ⟨upd_same, dkv [(b, 0)], rfl, (by show 1 ≤ 15; decide), ?_⟩
    rw [upd_upd, show mergeK [] (dkv [(b, 0)]) = dkv [(b, 0)] from rfl]
    have hpl : p ≠ lb := (ne_of_none hlb hp).symm
    walk_at "rd"
    refine ⟨lb, rfl, ⟨_, SqL.lst (show upd H p (HO.dK (dkv [(b, 0)])) lb = _ by rw [upd_ne hpl.symm]; exact hlb)⟩, ?_⟩
    refine for_list (K := K) (a := lb) (xs := rf bs) (fun i σ H' => H' = upd H p (.dK (dkv (cbh b (B.take i)))) ∧ ∃ z1 z2, σ = [some (.int b), some (.ref lb), some (.ref p), z1, z2])
      ⟨rfl, _, _, rfl⟩ (fun i σ H' _ h => by rw [h.1]; exact SqL.lst (by rw [upd_ne hpl.symm]; exact hlb)) ?_ ?_
    · rintro i v σ H1 hi ⟨rfl, z1, z2, rfl⟩
      obtain ⟨a, z, rfl, hz, ha⟩ := pB.get hi
      have ha' : upd H p (.dK (dkv (cbh b (B.take i)))) a = some (.tup [.int z.1, .int z.2]) := by rw [upd_ne (ne_of_none ha hp)]; exact ha
      refine i_gtup (xs := [.int z.1, .int z.2]) (SqT.tup ha') rfl ?_
      walk_at "rd"
      generalize hC : cbh b (B.take i) = C at ha' ⊢
      refine ⟨p, rfl, isD upd_same, ?_⟩
      walk_at "rd"
      refine ⟨_, dgetI upd_same rfl, ?_⟩
      rw [valV_dkv, show ((lookC C z.1).map V.int).getD (V.int 0) = V.int ((lookC C z.1).getD 0) by cases lookC C z.1 <;> rfl]
      walk_at "rd"
      have okT : BOk b (B.take i) := ⟨ok.srt.sublist (List.take_sublist i B), fun y hy => ok.ge y (List.mem_of_mem_take hy)⟩
      have rC : Rise C := by rw [← hC]; exact (cbh_rise okT).1
      have lC : C.length ≤ 301 := by rw [← hC]; have := cbh_len_le b (B.take i); rw [List.length_take] at this; omega
      refine ⟨p, _, rfl, DPut.k (k := Sum.inl z.1) upd_same (small1000 (by simp [dkv]; omega)), ?_⟩
      rw [upd_upd, putK_dkv rC]
      refine ⟨?_, _, _, rfl⟩
      rw [take_succ_of hz]
      unfold cbh
      rw [List.foldl_append]
      show _ = upd H p (HO.dK (dkv (addC (cbh b (B.take i)) z.1 z.2)))
      rw [hC]
    · rintro σ H1 ⟨rfl, z1, z2, rfl⟩
      rw [show (rf bs).length = B.length by simp [rf, pB.1], List.take_length]
      have lC : (cbh b B).length ≤ 301 := by have := cbh_len_le b B; omega
      have rC : Rise (cbh b B) := (cbh_rise ok).1
      generalize hC : cbh b B = C at lC rC q
      walk_at "rd"
      refine i_lockE ⟨p, _, upd_same, mutK, fun od => ?_⟩
      rw [upd_upd]
      refine i_lc (i_keysV rfl upd_same fun D hD => ?_)
      have np : D ≠ p := fun e => by rw [e, upd_same] at hD; cases hD
      refine lc_it (walk_keys (d := p) (o := od) (kvs := dkv C)) (fun i H' => Same (upd H p (.frz od (.dK (dkv C)))) H' ∧ ∃ rs, H' D = some (.lst (rf rs)) ∧ PairsAt H' rs (C.take i)) ⟨Same.new _ hD, [], upd_same, by simp, fun i a z h1 h2 => by simp at h1⟩ (fun i H' _ h => h.1 p _ upd_same) ?_ ?_
      · rintro i x H1 H2 hi ⟨sH, rs, kD, pR⟩ ⟨rfl, k, v, hkv, rfl⟩
        obtain ⟨z, hz, rfl, rfl⟩ : ∃ z, C[i]? = some z ∧ k = Sum.inl z.1 ∧ v = .int z.2 := by
          unfold dkv at hkv
          rw [List.getElem?_map] at hkv
          cases hc : C[i]? with
          | none => rw [hc] at hkv; cases hkv
          | some z => rw [hc] at hkv; cases hkv; exact ⟨z, rfl, rfl, rfl⟩
        walk_at "rd"
        refine ⟨p, .int z.2, rfl, dgetF (sH p _ upd_same) (by rw [valV_dkv, lookC_mem rC (List.mem_of_getElem? hz)]; rfl), ?_⟩
        walk_at "rd"
        (intro r hr; generalize er : upd _ r _ = J; have N := New.of er hr; clear er hr)
        have kD2 := N.app kD
        have lr : rs.length ≤ 301 := by rw [pR.1, List.length_take]; omega
        refine ⟨rf rs, kD2, small1000 (by simp [rf]; omega), Same.upd (sH.trans N.same) hD, rs ++ [r], by rw [upd_same]; simp [rf], ?_⟩
        rw [take_succ_of hz]
        exact (pR.snoc (keepT_same N.same) N.at_).keep (keepT_upd kD2 (fun xs => nofun))
      · rintro H1 ⟨sH, rs, kD, pR⟩
        have kp := sH p _ upd_same
        refine ⟨kp, ?_⟩
        rw [show (dkv C).length = C.length by simp [dkv], List.take_length] at pR
        refine q D rs _ (Same.upd (fun a o h => sH a o (by rw [upd_ne (ne_of_none h hp)]; exact h)) hp) (by rw [upd_ne np]; exact kD) (pR.keep (keepT_upd kp (fun xs => nofun)))
end

end Ice

set_option Elab.async false
set_option linter.all false
set_option maxRecDepth 100000
set_option maxHeartbeats 4000000
namespace Ice
open PySem PySem.Spec PyProof.Rows L2 TL
/-! side conditions, heaps, one step of a reading, and many -/
local macro_rules | `(tactic| walk_at "hp") => `(tactic| first | assumption | exact upd_same | exact New.at_ (by assumption) | (refine keepU ?_ (by assumption); walk_at "hp") | (refine New.app (by assumption) ?_; walk_at "hp") | (refine Same.app (by assumption) ?_; walk_at "hp") | (refine But.app (by assumption) (by assumption) ?_; walk_at "hp"))
local macro_rules | `(tactic| walk_at "sq") => `(tactic| first | assumption | exact SqL.lst (by walk_at "hp") | exact L2.Same.seq (New.same (by assumption)) (by assumption) | exact L2.Same.seq (by assumption) (by assumption))
local macro_rules | `(tactic| walk_at "len") => `(tactic| first | assumption | (simp only [List.length_cons, List.length_nil, List.length_append, List.length_map]; decide) | (refine Ice.sz_of ?_; simp only [List.length_cons, List.length_nil, List.length_append, List.length_map]; omega))
local macro_rules | `(tactic| walk_at "fresh") => `(tactic| (simp only [List.map_append, List.map_cons, List.map_nil, List.nil_append, List.cons_append]; decide +kernel))
local macro_rules | `(tactic| walk_at "sd") => `(tactic| first | assumption | (show _ ≠ _; omega) | exact Or.inl ⟨by omega, by omega⟩ | exact Or.inr ⟨by omega, by omega⟩ | exact ⟨by decide, by decide⟩ | exact ⟨by decide, by decide, by decide⟩ | exact ⟨by omega, by omega, by omega⟩)
/-! one step of a reading, and many -/
local macro_rules | `(tactic| walk_at "st") => `(tactic| first
  | with_reducible refine i_seq ?_
  | with_reducible refine i_if ?_
  | with_reducible refine i_next ?_
  | with_reducible refine i_ret ?_
  | with_reducible refine i_retN ?_
  | with_reducible refine i_drop ?_
  | with_reducible refine i_asg ?_
  | with_reducible refine i_gname ?_
  | with_reducible refine i_gsub ?_
  | ((with_reducible refine i_var (v := ?vv) ?hv ?_); (case hv => exact rfl))
  | with_reducible refine i_c ?_
  | with_reducible refine i_op ?_
  | with_reducible refine i_un ?_
  | with_reducible refine i_test ?_
  | with_reducible refine i_tB ?_
  | with_reducible refine i_and ?_
  | with_reducible refine i_or ?_
  | with_reducible refine i_not ?_
  | with_reducible refine i_andV ?_
  | with_reducible refine i_orV ?_
  | with_reducible refine i_notV ?_
  | with_reducible refine i_ifE ?_
  | with_reducible refine i_chain ?_
  | with_reducible refine i_bl ?_
  | with_reducible refine i_nil ?_
  | with_reducible refine i_cons ?_
  | with_reducible refine i_call ?_
  | with_reducible refine i_cb ?_
  | with_reducible refine i_rI0 ?_
  | with_reducible refine i_rU ?_
  | ((with_reducible refine i_rEq ?hs ?_); (case hs => exact rfl))
  | ((with_reducible refine i_rNe ?hs ?_); (case hs => exact rfl))
  | ((with_reducible refine i_rI ?hc ?_); (case hc => walk_at "sd"))
  | ((with_reducible refine i_ixL (xs := ?xs) (v := ?vv) ?hS ?he ?_); (case hS => walk_at "sq"); (case he => exact rfl))
  | ((with_reducible refine i_setL (xs := ?xs) (j := ?jj) ?hS ?he ?_); (case hS => walk_at "hp"); (case he => exact rfl))
  | with_reducible refine i_tup ?_
  | with_reducible refine i_lst ?_
  | with_reducible refine i_bm ?_
  | with_reducible refine i_bm0 ?_
  | with_reducible refine i_m1 ?_
  | with_reducible refine i_sl ?_
  | with_reducible refine i_nopart ?_
  | with_reducible refine i_part ?_
  | with_reducible refine i_int ?_
  | with_reducible refine i_str ?_
  | with_reducible refine i_for ?_
  | with_reducible refine i_yes ?_
  | ((with_reducible refine i_lenL (xs := ?xs) ?hS ?_); (case hS => walk_at "sq"))
  | ((with_reducible refine i_room ?hz ?_); (case hz => walk_at "len"))
  | with_reducible refine i_leT ?_
  | with_reducible refine i_notInS ?_
  | with_reducible refine i_inS ?_
  | with_reducible refine i_find ?_
  | with_reducible refine i_isB ?_
  | with_reducible refine i_max2 ?_
  | with_reducible refine i_min2 ?_
  | with_reducible exact trivial
  | with_reducible refine iteT ?_
  | with_reducible refine iteF ?_
  | with_reducible refine i_isstr ?_
  | with_reducible refine i_lc ?_
  | ((with_reducible refine i_cat (xs := ?xs) (zs := ?zs) ?ha ?hb ?hz ?_); (case ha => walk_at "hp"); (case hb => walk_at "hp"); (case hz => walk_at "len"))
  | ((with_reducible refine i_tyL (xs := ?xs) ?ha ?_); (case ha => walk_at "hp"))
  | with_reducible refine i_list ?_
  | with_reducible refine i_disp ?_
  | with_reducible refine i_pairs0 ?_
  | with_reducible refine i_pairs ?_
  | with_reducible refine i_newK ?_
  | with_reducible refine i_gcons ?_
  | with_reducible refine i_gnil ?_
  | with_reducible refine i_revL ?_
  | with_reducible refine i_rng1 ?_
  | ((with_reducible refine i_wipe ?hw ?_); (case hw => exact rfl))
  | with_reducible refine iteNT ?_
  | with_reducible refine iteNF ?_)
local macro_rules | `(tactic| walk_at "sx") => `(tactic| first
  | walk_at "st"
  | with_reducible refine i_kinit ?_
  | with_reducible refine i_ost ?_
  | with_reducible refine i_mkO ?_
  | with_reducible refine i_callE ?_
  | with_reducible refine i_makeE ?_
  | with_reducible refine i_xf ?_
  | with_reducible refine i_sfld ?_
  | with_reducible refine i_fld ?_
  | ((with_reducible refine i_ixT (xs := ?xs) (v := ?vv) ?hS ?he ?_); (case hS => exact SqT.tup (by walk_at "hp")); (case he => exact rfl))
  | with_reducible refine i_intB ?_
  | with_reducible refine i_runS ?_
  | with_reducible refine i_runN ?_
  | ((with_reducible refine i_xf1 (fs := ?ff) (v := ?vv) ?hx ?hl ?_); (case hx => walk_at "hp"); (case hl => exact rfl))
  | with_reducible refine i_methE ?_
  | with_reducible refine i_meth ?_
  | with_reducible refine i_make ?_
  | ((with_reducible refine i_obj (dx := ?dd) (fs := ?ff) ?hx ?hl ?_); (case hx => walk_at "hp"); (case hl => exact rfl))
  | ((with_reducible refine i_fld1 (C := ?CC) (dx := ?dd) (fs := ?ff) (v := ?vv) ?hx ?cl ?na ?hl ?_); (case hx => walk_at "hp"); (case cl => assumption); (case na => assumption); (case hl => exact rfl)))
local macro_rules | `(tactic| walk_at "sy") => `(tactic| first
  | walk_at "sx"
  | with_reducible refine i_dget ?_
  | with_reducible refine i_dget2 ?_
  | with_reducible refine i_dput ?_
  | with_reducible refine i_din ?_
  | ((with_reducible refine i_aug (x := ?vv) ?hx ?_); (case hx => exact rfl)))
local macro_rules | `(tactic| walk_at "rd") => `(tactic| repeat (walk_at "sy"))

section
variable {c : TT} {tb : TS} {D : Ends} {σ : L2.St} {H : Hp}
theorem i_while (h : ∃ W : Nat → L2.St → Hp → Prop, (∃ m, W m σ H) ∧ ∀ m σ H, W m σ H → c σ H fun b H1 => if b = true then ∃ N : L2.St → Hp → Prop, (∀ σ' H', N σ' H' → ∃ m', m' < m ∧ W m' σ' H') ∧ tb { D with nx := N, ct := N, bk := D.nx } σ H1 else D.nx σ H1) : tWhile c tb D σ H := h
end
theorem atI_last {α : Type} {xs : List α} {v : α} : atI (xs ++ [v]) (-1) = some v := by
  unfold atI ixN
  rw [if_neg (by decide), List.length_append, if_pos (by simp; omega)]
  show (xs ++ [v])[(-1 + ((xs.length + 1 : Nat) : Int)).toNat]? = some v
  rw [show (-1 + ((xs.length + 1 : Nat) : Int)).toNat = xs.length by omega, List.getElem?_append_right (Nat.le_refl _), Nat.sub_self]
  rfl
theorem i_sfldP {K : PySem.W.Frag} {H : Hp} {x C dx : Addr} {fs fs' : List (Str × V)} {f : Str} {y : V} {N : Hp → Prop} (hx : H x = some (.ins C dx fs)) (cl : Cls K C) (na : NoAttr K C f) (hl : fs.length ≤ 900) (hf : putF f y fs = fs')
    (q : N (upd H x (.ins C dx fs'))) : ∃ a C dx fs, V.ref x = .ref a ∧ H a = some (.ins C dx fs) ∧ Cls K C ∧ NoAttr K C f ∧ fs.length < 1000 ∧ N (upd H a (.ins C dx (putF f y fs))) :=
  ⟨x, C, dx, fs, rfl, hx, cl, na, by omega, by rw [hf]; exact q⟩
section
variable {P : Program} {w : World} {K : PySem.W.Frag} {mg : Str → Option Value} {base : Heap}
theorem ChA.but {T : Top K mg} {H H' : Hp} {ch x dx : Addr} {N : IceN} {fs : List (Str × V)} (c : ChA T H ch N) (hx : H x = some (.ins T.a_Ice dx ((Str.ofString "_channel", .ref ch) :: fs))) (e : But x H H') : ChA T H' ch N := by
  obtain ⟨dch, n, o, t, h, d, hc⟩ := c
  refine ⟨dch, n, o, t, h, d, e _ _ (ne_of hc hx ?_) hc⟩
  intro z
  injection z with _ _ z
  injection z with z _
  injection z with z _
  exact absurd z (by decide +kernel)
theorem ChA.same {T : Top K mg} {H H' : Hp} {ch : Addr} {N : IceN} (c : ChA T H ch N) (e : Same H H') : ChA T H' ch N := by
  obtain ⟨dch, n, o, t, h, d, hc⟩ := c
  exact ⟨dch, n, o, t, h, d, e _ _ hc⟩
def fl2 (ch : Addr) (b : Int) : List (Str × V) := [(Str.ofString "_channel", .ref ch), (Str.ofString "_begin", .int b)]
def spKeep (T : Top K mg) : Sp := fun vs H Q _ => ∃ (x dx ch lb : Addr) (fs : List (Str × V)) (bs : List Addr) (N : IceN) (B : Brk), vs = [.ref x, .ref lb] ∧ H x = some (.ins T.a_Ice dx fs) ∧ (fs = fl2 ch N.b ∨ ∃ lb0 lp0, fs = flI ch N.b lb0 lp0) ∧
  ChA T H ch N ∧ N.ok ∧ H lb = some (.lst (rf bs)) ∧ PairsAt H bs B ∧ B.length ≤ 300 ∧ BOk N.b B ∧ ∀ H' lp, But x H H' → H lp = none → IceL T H' x N B lb lp → Q .non H'
theorem last_of {P : Pcs} {z : Int × Int × Int} : lastOr none (P ++ [z]) = some (z.1, z.2.2) := by unfold lastOr; rw [List.getLast?_concat]
theorem ok_Ice__keep (T : Top K mg) : FnG P w K mg base CX0 2 T.a_Ice__keep T.d_Ice__keep ["self", "breakings"] (spKeep T) := by
  have G_cuts_by_hour := ok_cuts_by_hour (P := P) (w := w) (base := base) T
  have G_Ice__grown := ok_Ice__grown (P := P) (w := w) (base := base) T
  refine okG T.F_Ice__keep sc_Ice__keep (fun vs H Q E h => ?_) (fun cdv A outer s H vs Q E hr hgd h => ?_)
  · obtain ⟨x, dx, ch, lb, fs, bs, N, B, rfl, _⟩ := h
    rfl
  · obtain ⟨x, dx, ch, lb, fs, bs, N, B, rfl, hx, hfs, hc, ok, hlb, pB, l3, bo, q⟩ := h
    have hfc : ∃ r, fs = (Str.ofString "_channel", .ref ch) :: r := by rcases hfs with rfl | ⟨_, _, rfl⟩ <;> exact ⟨_, rfl⟩
    obtain ⟨frest, hfr⟩ := hfc
    have lfs : fs.length ≤ 4 := by rcases hfs with rfl | ⟨_, _, rfl⟩ <;> simp [fl2]
    have xlb : lb ≠ x := ne_of hlb hx (by intro z; cases z)
    refine ⟨_, (pss_cons (ps_fld (pv 0) (pv 1) rfl)
      (pss_cons (ps_fld (pv 0) (pe_lst pa_nil) rfl)
      (pss_one (ps_for PassesOwn.never rfl (pi_list (g_call G_cuts_by_hour (hr.mono (by decide)) hgd (by rfl) T.m_cuts_by_hour T.F_cuts_by_hour.kp T.b_cuts_by_hour .nil pass0 (pa_cons (pe_fld (pv 0) rfl) (pa_cons (pv 1) pa_nil)))) (pg_tup rfl (pgs_cons (pg_name (i := 2) sc_Ice__keep.nd rfl (by first | exact Or.inl rfl | exact Or.inr rfl)) (pgs_cons (pg_name (i := 3) sc_Ice__keep.nd rfl (by first | exact Or.inl rfl | exact Or.inr rfl)) pgs_nil)))
        (pss_cons (ps_set (i := 4) sc_Ice__keep.nd rfl (by first | exact Or.inl rfl | exact Or.inr rfl) (pe_fld (pe_fld (pv 0) rfl) rfl))
      (C8.pss_cut (ps_if (pt_truth (pe_fld (pv 0) rfl) (by intro _; rfl))
        (pss_cons (ps_asg (pe_ix ix_list (pe_fld (pv 0) rfl) (pe_un un_neg pe_int) (fun _ _ => rfl)) (pg_tup rfl (pgs_cons (pg_name (i := 5) sc_Ice__keep.nd rfl (by first | exact Or.inl rfl | exact Or.inr rfl)) (pgs_cons (pg_name (i := 6) sc_Ice__keep.nd rfl (by first | exact Or.inl rfl | exact Or.inr rfl)) (pgs_cons (pg_name (i := 7) sc_Ice__keep.nd rfl (by first | exact Or.inl rfl | exact Or.inr rfl)) pgs_nil)))))
      (pss_one (ps_set (i := 4) sc_Ice__keep.nd rfl (by first | exact Or.inl rfl | exact Or.inr rfl) (g_meth (pv 0) T.cl_Ice T.me_Ice__grown G_Ice__grown (hr.mono (by decide)) hgd T.b_Ice__grown .nil pass0 (pa_cons (pv 7) (pa_cons (pe_op op_sub (pv 2) (pv 5)) pa_nil))))))
        pss_nil)
      (pss_one (ps_expr (pe_bm PySem.F.plainAttrs_list PySem.F.slot_list_append PySem.F.type_list_append mt_append (pe_fld (pv 0) rfl) (pa_cons (pe_tup (pa_cons (pv 2) (pa_cons (pv 4) (pa_cons (pe_callB (c_max2) (by rfl) T.n_max (by decide +kernel) (pa_cons pe_int (pa_cons (pe_op op_sub (pv 4) (pv 3)) pa_nil))) pa_nil)))) pa_nil)))))))))), ?_⟩
    walk_at "rd"
    refine i_sfldP hx T.cl_Ice T.na_Ice__breakings (by omega) rfl ?_
    generalize eX : upd H x (HO.ins T.a_Ice dx (putF (Str.ofString "_breakings") (V.ref lb) fs)) = J1
    have kx1 : J1 x = some (.ins T.a_Ice dx (putF (Str.ofString "_breakings") (V.ref lb) fs)) := by rw [← eX]; exact upd_same
    have e1 : But x H J1 := fun a o na ha => by rw [← eX, upd_ne na]; exact ha
    clear eX
    walk_at "rd"
    (intro lp hlp; generalize elp : upd _ lp _ = J2; have N2 := New.of elp hlp; clear elp hlp)
    walk_at "rd"
    have efs : putF (Str.ofString "_pieces") (V.ref lp) (putF (Str.ofString "_breakings") (V.ref lb) fs) = flI ch N.b lb lp := by
      rcases hfs with rfl | ⟨_, _, rfl⟩ <;> rfl
    have l2 : (putF (Str.ofString "_breakings") (V.ref lb) fs).length ≤ 5 := by
      rcases hfs with rfl | ⟨_, _, rfl⟩
      · show 3 ≤ 5; decide
      · show 4 ≤ 5; decide
    refine i_sfldP (N2.app kx1) T.cl_Ice T.na_Ice__pieces (by omega) efs ?_
    generalize eY : upd J2 x (HO.ins T.a_Ice dx (flI ch N.b lb lp)) = J3
    have kx3 : J3 x = some (.ins T.a_Ice dx (flI ch N.b lb lp)) := by rw [← eY]; exact upd_same
    have e3 : But x H J3 := fun a o na ha => by rw [← eY, upd_ne na]; exact N2.app (e1 a o na ha)
    have lpx : lp ≠ x := (ne_of_none kx1 N2.free).symm
    have klp3 : J3 lp = some (.lst []) := by rw [← eY, upd_ne lpx]; exact N2.at_
    have flp : H lp = none := by
      cases e : H lp with
      | none => rfl
      | some o => have := e1 lp o lpx e; rw [N2.free] at this; cases this
    clear eY
    (have cl_Ice := T.cl_Ice; have na_Ice__channel := T.na_Ice__channel; have na_Ice__begin := T.na_Ice__begin; have na_Ice__breakings := T.na_Ice__breakings; have na_Ice__pieces := T.na_Ice__pieces)
    walk_at "rd"
    have hlb3 := e3 lb _ xlb hlb
    have pB3 : PairsAt J3 bs B := pB.keep (keepT_but hx (fun xs => nofun) e3)
    refine ⟨N.b, lb, bs, B, rfl, hlb3, pB3, l3, bo, fun r rs J4 s34 kr pr => ?_⟩
    have kx4 := s34 _ _ kx3
    have klp4 := s34 _ _ klp3
    have hc4 : ChA T J4 ch N := (hc.but (by rw [hfr] at hx; exact hx) e3).same s34
    have lC : (cbh N.b B).length ≤ 301 := by have := cbh_len_le N.b B; omega
    generalize hC : cbh N.b B = C at pr lC
    have rlp : r ≠ lp := fun e => by
      rw [e, klp4] at kr
      have : (rf rs) = [] := (HO.lst.inj (Option.some.inj kr)).symm
      have l0 : rs.length = 0 := by have := congrArg List.length this; simpa [rf] using this
      have := pr.1
      obtain ⟨c, q', hq⟩ := pieces_head bo
      rw [hC] at hq; rw [hq, l0] at this; simp at this
    refine ⟨r, rfl, ⟨_, SqL.lst kr⟩, ?_⟩
    refine for_list (K := K) (a := r) (xs := rf rs) (fun i σ H' => But lp J4 H' ∧ (∃ ps, H' lp = some (.lst (rf ps)) ∧ TripsAt H' ps (pcs N none (C.take i))) ∧ ∃ z1 z2 z3 z4 z5 z6, σ = [some (.ref x), some (.ref lb), z1, z2, z3, z4, z5, z6])
      ⟨fun a o _ h => h, ⟨[], klp4, by simp [pcs], fun i a z h1 h2 => by simp at h1⟩, _, _, _, _, _, _, rfl⟩ (fun i σ H' _ h => SqL.lst (h.1 r _ rlp kr)) ?_ ?_
    · rintro i v σ H1 hi ⟨e4, ⟨ps, kp, tp⟩, z1, z2, z3, z4, z5, z6, rfl⟩
      obtain ⟨a, z, rfl, hz, ha⟩ := pr.get hi
      have ha1 := e4 a _ (ne_of ha klp4 (by intro z; cases z)) ha
      have kx1 := e4 x _ lpx.symm kx4
      refine i_gtup (xs := [.int z.1, .int z.2]) (SqT.tup ha1) rfl ?_
      have hc1 : ChA T H1 ch N := by
        obtain ⟨dch, n, o, t', h', d, hcc⟩ := hc4
        exact ⟨dch, n, o, t', h', d, e4 ch _ (ne_of hcc klp4 (by intro z; cases z)) hcc⟩
      obtain ⟨dch, n, o, t', h', d, hcc⟩ := id hc1
      walk_at "rd"
      refine ⟨ch, _, dch, _, _, rfl, hcc, T.cl_Channel, T.na_Channel_first, rfl, ?_⟩
      walk_at "rd"
      refine i_cut (fun σ H' => H' = H1 ∧ ∃ z5 z6 z7, σ = [some (.ref x), some (.ref lb), some (.int z.1), some (.int z.2), some (.int (aheadOf N (lastOr none (pcs N none (C.take i))) z.1)), z5, z6, z7]) ?_ ?_
      · walk_at "rd"
        refine ⟨!(rf ps).isEmpty, .inl ⟨rf ps, SqL.lst kp, rfl⟩, ?_⟩
        rcases List.eq_nil_or_concat ps with rfl | ⟨ps', pl, rfl⟩
        · walk_at "rd"
          have : pcs N none (C.take i) = [] := List.eq_nil_of_length_eq_zero tp.1.symm
          rw [this]
          exact ⟨rfl, _, _, _, rfl⟩
        · simp only [List.concat_eq_append] at kp tp ⊢
          rw [show (!(rf (ps' ++ [pl])).isEmpty) = true by simp [rf]]
          obtain ⟨y, hy⟩ : ∃ y, (pcs N none (C.take i)).getLast? = some y := by
            cases hl : (pcs N none (C.take i)).getLast? with
            | none => rw [List.getLast?_eq_none_iff] at hl; have := tp.1; rw [hl] at this; simp at this
            | some y => exact ⟨y, rfl⟩
          have hpl : H1 pl = some (.tup [.int y.1, .int y.2.1, .int y.2.2]) := by
            refine tp.2 ps'.length pl y (by simp) ?_
            rw [List.getLast?_eq_getElem?, ← tp.1] at hy
            simpa using hy
          walk_at "rd"
          refine i_ixL (SqL.lst kp) (show atI (rf (ps' ++ [pl])) (-1) = some (.ref pl) by unfold rf; rw [List.map_append]; exact atI_last) ?_
          walk_at "rd"
          refine i_gtup (xs := [.int y.1, .int y.2.1, .int y.2.2]) (SqT.tup hpl) rfl ?_
          walk_at "rd"
          refine ⟨x, dx, ch, _, N, y.2.2, z.1 - y.1, rfl, kx1, rfl, hc1, ok, ?_⟩
          unfold lastOr
          rw [hy]
          exact ⟨rfl, _, _, _, rfl⟩
      · rintro σ H5 ⟨rfl, w5, w6, w7, rfl⟩
        walk_at "rd"
        (intro u hu; generalize eu : upd _ u _ = J6; have N6 := New.of eu hu; clear eu hu)
        have kp6 := N6.app kp
        have lps : ps.length ≤ 301 := by rw [tp.1, pcs_len, List.length_take]; omega
        walk_at "rd"
        refine i_append kp6 (by simp [rf]; omega) ?_
        refine ⟨fun a' o' na ha' => by rw [upd_ne na]; exact N6.app (e4 a' o' na ha'), ⟨ps ++ [u], by rw [upd_same]; simp [rf], ?_⟩, _, _, _, _, _, _, rfl⟩
        rw [take_succ_of hz, show z = (z.1, z.2) from rfl, pcs_snoc]
        exact (tp.snoc (keepT_same N6.same) (z := (z.1, aheadOf N (lastOr none (pcs N none (C.take i))) z.1, _)) N6.at_).keep (keepT_upd kp6 (fun xs => nofun))
    · rintro σ H1 ⟨e4, ⟨ps, kp, tp⟩, z1, z2, z3, z4, z5, z6, rfl⟩
      rw [show (rf rs).length = C.length by simp [rf, pr.1], List.take_length] at tp
      walk_at "rd"
      have nlb : lb ≠ lp := fun e => by rw [e] at hlb; rw [flp] at hlb; cases hlb
      refine q H1 lp (fun a o na ha => e4 a o (fun e => by rw [e, flp] at ha; cases ha) (s34 _ _ (e3 a o na ha))) flp ⟨dx, ch, bs, ps, e4 x _ lpx.symm kx4, ?_, e4 lb _ nlb (s34 _ _ hlb3), pB3.keep (fun a xs ha => e4 a _ (ne_of (s34 _ _ ha) klp4 (by intro z; cases z)) (s34 _ _ ha)), kp, ?_⟩
      · obtain ⟨dch, n, o, t', h', d, hcc⟩ := hc4
        exact ⟨dch, n, o, t', h', d, e4 ch _ (ne_of hcc klp4 (by intro z; cases z)) hcc⟩
      · unfold pieces; rw [hC]; exact tp
end

end Ice

set_option Elab.async false
set_option linter.all false
set_option maxRecDepth 100000
set_option maxHeartbeats 4000000
namespace Ice
open PySem PySem.Spec PyProof.Rows L2 TL
/-! side conditions, heaps, one step of a reading, and many -/
local macro_rules | `(tactic| walk_at "hp") => `(tactic| first | assumption | exact upd_same | exact New.at_ (by assumption) | (refine keepU ?_ (by assumption); walk_at "hp") | (refine New.app (by assumption) ?_; walk_at "hp") | (refine Same.app (by assumption) ?_; walk_at "hp") | (refine But.app (by assumption) (by assumption) ?_; walk_at "hp"))
local macro_rules | `(tactic| walk_at "sq") => `(tactic| first | assumption | exact SqL.lst (by walk_at "hp") | exact L2.Same.seq (New.same (by assumption)) (by assumption) | exact L2.Same.seq (by assumption) (by assumption))
local macro_rules | `(tactic| walk_at "len") => `(tactic| first | assumption | (simp only [List.length_cons, List.length_nil, List.length_append, List.length_map]; decide) | (refine Ice.sz_of ?_; simp only [List.length_cons, List.length_nil, List.length_append, List.length_map]; omega))
local macro_rules | `(tactic| walk_at "fresh") => `(tactic| (simp only [List.map_append, List.map_cons, List.map_nil, List.nil_append, List.cons_append]; decide +kernel))
local macro_rules | `(tactic| walk_at "sd") => `(tactic| first | assumption | (show _ ≠ _; omega) | exact Or.inl ⟨by omega, by omega⟩ | exact Or.inr ⟨by omega, by omega⟩ | exact ⟨by decide, by decide⟩ | exact ⟨by decide, by decide, by decide⟩ | exact ⟨by omega, by omega, by omega⟩)
/-! one step of a reading, and many -/
local macro_rules | `(tactic| walk_at "st") => `(tactic| first
  | with_reducible refine i_seq ?_
  | with_reducible refine i_if ?_
  | with_reducible refine i_next ?_
  | with_reducible refine i_ret ?_
  | with_reducible refine i_retN ?_
  | with_reducible refine i_drop ?_
  | with_reducible refine i_asg ?_
  | with_reducible refine i_gname ?_
  | with_reducible refine i_gsub ?_
  | ((with_reducible refine i_var (v := ?vv) ?hv ?_); (case hv => exact rfl))
  | with_reducible refine i_c ?_
  | with_reducible refine i_op ?_
  | with_reducible refine i_un ?_
  | with_reducible refine i_test ?_
  | with_reducible refine i_tB ?_
  | with_reducible refine i_and ?_
  | with_reducible refine i_or ?_
  | with_reducible refine i_not ?_
  | with_reducible refine i_andV ?_
  | with_reducible refine i_orV ?_
  | with_reducible refine i_notV ?_
  | with_reducible refine i_ifE ?_
  | with_reducible refine i_chain ?_
  | with_reducible refine i_bl ?_
  | with_reducible refine i_nil ?_
  | with_reducible refine i_cons ?_
  | with_reducible refine i_call ?_
  | with_reducible refine i_cb ?_
  | with_reducible refine i_rI0 ?_
  | with_reducible refine i_rU ?_
  | ((with_reducible refine i_rEq ?hs ?_); (case hs => exact rfl))
  | ((with_reducible refine i_rNe ?hs ?_); (case hs => exact rfl))
  | ((with_reducible refine i_rI ?hc ?_); (case hc => walk_at "sd"))
  | ((with_reducible refine i_ixL (xs := ?xs) (v := ?vv) ?hS ?he ?_); (case hS => walk_at "sq"); (case he => exact rfl))
  | ((with_reducible refine i_setL (xs := ?xs) (j := ?jj) ?hS ?he ?_); (case hS => walk_at "hp"); (case he => exact rfl))
  | with_reducible refine i_tup ?_
  | with_reducible refine i_lst ?_
  | with_reducible refine i_bm ?_
  | with_reducible refine i_bm0 ?_
  | with_reducible refine i_m1 ?_
  | with_reducible refine i_sl ?_
  | with_reducible refine i_nopart ?_
  | with_reducible refine i_part ?_
  | with_reducible refine i_int ?_
  | with_reducible refine i_str ?_
  | with_reducible refine i_for ?_
  | with_reducible refine i_yes ?_
  | ((with_reducible refine i_lenL (xs := ?xs) ?hS ?_); (case hS => walk_at "sq"))
  | ((with_reducible refine i_room ?hz ?_); (case hz => walk_at "len"))
  | with_reducible refine i_leT ?_
  | with_reducible refine i_notInS ?_
  | with_reducible refine i_inS ?_
  | with_reducible refine i_find ?_
  | with_reducible refine i_isB ?_
  | with_reducible refine i_max2 ?_
  | with_reducible refine i_min2 ?_
  | with_reducible exact trivial
  | with_reducible refine iteT ?_
  | with_reducible refine iteF ?_
  | with_reducible refine i_isstr ?_
  | with_reducible refine i_lc ?_
  | ((with_reducible refine i_cat (xs := ?xs) (zs := ?zs) ?ha ?hb ?hz ?_); (case ha => walk_at "hp"); (case hb => walk_at "hp"); (case hz => walk_at "len"))
  | ((with_reducible refine i_tyL (xs := ?xs) ?ha ?_); (case ha => walk_at "hp"))
  | with_reducible refine i_list ?_
  | with_reducible refine i_disp ?_
  | with_reducible refine i_pairs0 ?_
  | with_reducible refine i_pairs ?_
  | with_reducible refine i_newK ?_
  | with_reducible refine i_gcons ?_
  | with_reducible refine i_gnil ?_
  | with_reducible refine i_revL ?_
  | with_reducible refine i_rng1 ?_
  | ((with_reducible refine i_wipe ?hw ?_); (case hw => exact rfl))
  | with_reducible refine iteNT ?_
  | with_reducible refine iteNF ?_)
local macro_rules | `(tactic| walk_at "sx") => `(tactic| first
  | walk_at "st"
  | with_reducible refine i_kinit ?_
  | with_reducible refine i_ost ?_
  | with_reducible refine i_mkO ?_
  | with_reducible refine i_callE ?_
  | with_reducible refine i_makeE ?_
  | with_reducible refine i_xf ?_
  | with_reducible refine i_sfld ?_
  | with_reducible refine i_fld ?_
  | ((with_reducible refine i_ixT (xs := ?xs) (v := ?vv) ?hS ?he ?_); (case hS => exact SqT.tup (by walk_at "hp")); (case he => exact rfl))
  | with_reducible refine i_intB ?_
  | with_reducible refine i_runS ?_
  | with_reducible refine i_runN ?_
  | ((with_reducible refine i_xf1 (fs := ?ff) (v := ?vv) ?hx ?hl ?_); (case hx => walk_at "hp"); (case hl => exact rfl))
  | with_reducible refine i_methE ?_
  | with_reducible refine i_meth ?_
  | with_reducible refine i_make ?_
  | ((with_reducible refine i_obj (dx := ?dd) (fs := ?ff) ?hx ?hl ?_); (case hx => walk_at "hp"); (case hl => exact rfl))
  | ((with_reducible refine i_fld1 (C := ?CC) (dx := ?dd) (fs := ?ff) (v := ?vv) ?hx ?cl ?na ?hl ?_); (case hx => walk_at "hp"); (case cl => assumption); (case na => assumption); (case hl => exact rfl)))
local macro_rules | `(tactic| walk_at "sy") => `(tactic| first
  | walk_at "sx"
  | with_reducible refine i_dget ?_
  | with_reducible refine i_dget2 ?_
  | with_reducible refine i_dput ?_
  | with_reducible refine i_din ?_
  | ((with_reducible refine i_aug (x := ?vv) ?hx ?_); (case hx => exact rfl)))
local macro_rules | `(tactic| walk_at "rd") => `(tactic| repeat (walk_at "sy"))

section
variable {P : Program} {w : World} {K : PySem.W.Frag} {mg : Str → Option Value} {base : Heap}
theorem int_th (H : Hp) (i : Int) : Th H (.int i) := .inr ⟨_, .int i⟩
theorem inB_of {lo hi i : Int} (h0 : lo ≤ i) (h1 : i ≤ hi) : inB lo hi (.int i) = true := by
  show (decide (lo ≤ i) && decide (i ≤ hi)) = true
  rw [decide_eq_true h0, decide_eq_true h1]; rfl
def spCkH (T : Top K mg) : Sp := fun vs H Q _ => ∃ (x dx : Addr) (fs : List (Str × V)) (b h : Int), vs = [.ref x, .int h] ∧ H x = some (.ins T.a_Ice dx fs) ∧ fs.lookup (Str.ofString "_begin") = some (.int b) ∧ b ≤ h ∧ h ≤ 1000000000 ∧ Q .non H
theorem ok_Ice__check_hour (T : Top K mg) : FnG P w K mg base CX0 4 T.a_Ice__check_hour T.d_Ice__check_hour ["self", "hour"] (spCkH T) := by
  have G_check_hour := ok_check_hour (P := P) (w := w) (base := base) T
  refine okG T.F_Ice__check_hour sc_Ice__check_hour (fun vs H Q E h => ?_) (fun cdv A outer s H vs Q E hr hgd h => ?_)
  · obtain ⟨x, dx, fs, b, h, rfl, _⟩ := h
    rfl
  · obtain ⟨x, dx, fs, b, h, rfl, hx, hl, h0, h1, q⟩ := h
    refine ⟨_, (pss_one (ps_expr (g_callE (E := WE _) G_check_hour (hr.mono (by decide)) hgd (by rfl) T.m_check_hour T.F_check_hour.kp T.b_check_hour .nil (passAt takes0) (pa_cons (pv 1) (pa_cons (pe_fld (pv 0) rfl) (pa_cons (pe_glob (v := .int 1000000000) (by rfl) T.c_ASKED_HOUR_MOST ⟨_, rfl⟩) pa_nil)))))), ?_⟩
    walk_at "rd"
    refine ⟨x, _, dx, fs, _, rfl, hx, T.cl_Ice, T.na_Ice__begin, hl, ?_⟩
    walk_at "rd"
    refine ⟨.int h, b, _, rfl, int_th _ _, fun _ => ?_, fun z => ?_⟩
    · walk_at "rd"
      exact q
    · exact absurd (inB_of h0 h1) (by rw [show inB b 1000000000 (.int h) = false from z]; decide)
def spCkB (T : Top K mg) : Sp := fun vs H Q _ => ∃ (x dx : Addr) (fs : List (Str × V)) (b h c : Int), vs = [.ref x, .int h, .int c] ∧ H x = some (.ins T.a_Ice dx fs) ∧ fs.lookup (Str.ofString "_begin") = some (.int b) ∧ b ≤ h ∧ h ≤ 100000000 ∧ 1 ≤ c ∧ c ≤ 1000000 ∧ Q .non H
theorem ok_Ice__check_breaking (T : Top K mg) : FnG P w K mg base CX0 4 T.a_Ice__check_breaking T.d_Ice__check_breaking ["self", "hour", "cut"] (spCkB T) := by
  have G_check_hour := ok_check_hour (P := P) (w := w) (base := base) T
  have G_check_number := ok_check_number (P := P) (w := w) (base := base) T
  refine okG T.F_Ice__check_breaking sc_Ice__check_breaking (fun vs H Q E h => ?_) (fun cdv A outer s H vs Q E hr hgd h => ?_)
  · obtain ⟨x, dx, fs, b, h, c, rfl, _⟩ := h
    rfl
  · obtain ⟨x, dx, fs, b, h, c, rfl, hx, hl, h0, h1, c0, c1, q⟩ := h
    refine ⟨_, (pss_cons (ps_expr (g_callE (E := WE _) G_check_hour (hr.mono (by decide)) hgd (by rfl) T.m_check_hour T.F_check_hour.kp T.b_check_hour .nil (passAt takes0) (pa_cons (pv 1) (pa_cons (pe_fld (pv 0) rfl) (pa_cons (pe_glob (v := .int 100000000) (by rfl) T.c_BREAKING_HOUR_MOST ⟨_, rfl⟩) pa_nil)))))
      (pss_one (ps_expr (g_callE (E := WE _) G_check_number (hr.mono (by decide)) hgd (by rfl) T.m_check_number T.F_check_number.kp T.b_check_number .nil (passAt takes0) (pa_cons (pv 2) (pa_cons pe_int (pa_cons (pe_glob (v := .int 1000000) (by rfl) T.c_CUT_MOST ⟨_, rfl⟩) pa_nil))))))), ?_⟩
    walk_at "rd"
    refine ⟨x, _, dx, fs, _, rfl, hx, T.cl_Ice, T.na_Ice__begin, hl, ?_⟩
    walk_at "rd"
    refine ⟨.int h, b, _, rfl, int_th _ _, fun _ => ?_, fun z => ?_⟩
    · walk_at "rd"
      refine ⟨.int c, _, _, rfl, int_th _ _, fun _ => ?_, fun z => ?_⟩
      · walk_at "rd"
        exact q
      · exact absurd (inB_of c0 c1) (by rw [show inB 1 1000000 (.int c) = false from z]; decide)
    · exact absurd (inB_of h0 h1) (by rw [show inB b 100000000 (.int h) = false from z]; decide)
def spPiece (T : Top K mg) : Sp := fun vs H Q _ => ∃ (x dx lp : Addr) (fs : List (Str × V)) (ps : List Addr) (P : Pcs) (h : Int), vs = [.ref x, .int h] ∧ H x = some (.ins T.a_Ice dx fs) ∧ fs.lookup (Str.ofString "_pieces") = some (.ref lp) ∧ H lp = some (.lst (rf ps)) ∧ TripsAt H ps P ∧
  P.length ≤ 1000 ∧ (P.map (·.1)).Pairwise (· < ·) ∧ (∃ z, P[0]? = some z ∧ z.1 ≤ h) ∧ ∀ i : Nat, AtP P h i → i < P.length → Q (.int i) H
theorem rise_lt {P : Pcs} (r : (P.map (·.1)).Pairwise (· < ·)) {i j : Nat} {y z : Int × Int × Int} (hij : i < j) (hy : P[i]? = some y) (hz : P[j]? = some z) : y.1 < z.1 := by
  have hi := (List.getElem?_eq_some_iff.mp hy); have hj := (List.getElem?_eq_some_iff.mp hz)
  have := (List.pairwise_iff_getElem.mp r) i j (by simpa using hi.1) (by simpa using hj.1) hij
  rw [List.getElem_map, List.getElem_map, hi.2, hj.2] at this
  exact this
theorem ok_Ice__piece_of (T : Top K mg) : FnG P w K mg base CX0 1 T.a_Ice__piece_of T.d_Ice__piece_of ["self", "hour"] (spPiece T) := by
  refine okG T.F_Ice__piece_of sc_Ice__piece_of (fun vs H Q E h => ?_) (fun cdv A outer s H vs Q E hr hgd h => ?_)
  · obtain ⟨x, dx, lp, fs, ps, P', h, rfl, _⟩ := h
    rfl
  · obtain ⟨x, dx, lp, fs, ps, P', h, rfl, hx, hl, hp, tp, l1, rise, ⟨z0, hz0, z0h⟩, q⟩ := h
    have p0 : 0 < P'.length := (List.getElem?_eq_some_iff.mp hz0).1
    refine ⟨_, (pss_cons (ps_set (i := 2) sc_Ice__piece_of.nd rfl (by first | exact Or.inl rfl | exact Or.inr rfl) pe_int)
      (pss_cons (ps_set (i := 3) sc_Ice__piece_of.nd rfl (by first | exact Or.inl rfl | exact Or.inr rfl) (pe_callB c_len (by rfl) T.n_len (by decide +kernel) (pa_cons (pe_fld (pv 0) rfl) pa_nil)))
      (pss_cons (ps_while PassesOwn.never (pt_cmpR op_gt (pe_op op_sub (pv 3) (pv 2)) pe_int (nomark _))
        (pss_cons (ps_set (i := 4) sc_Ice__piece_of.nd rfl (by first | exact Or.inl rfl | exact Or.inr rfl) (pe_op op_fdivN (pe_op op_add (pv 2) (pv 3)) pe_int))
      (pss_one (ps_if (pt_cmpR op_le (pe_ix ix_tup (pe_ix ix_list (pe_fld (pv 0) rfl) (pv 4) (fun _ _ => rfl)) pe_int (fun _ _ => rfl)) (pv 1) (nomark _))
        (pss_one (ps_set (i := 2) sc_Ice__piece_of.nd rfl (by first | exact Or.inl rfl | exact Or.inr rfl) (pv 4)))
        (pss_one (ps_set (i := 3) sc_Ice__piece_of.nd rfl (by first | exact Or.inl rfl | exact Or.inr rfl) (pv 4)))))))
      (pss_one (ps_ret (pv 2)))))), ?_⟩
    walk_at "rd"
    refine ⟨x, _, dx, fs, _, rfl, hx, T.cl_Ice, T.na_Ice__pieces, hl, ?_⟩
    walk_at "rd"
    refine i_while ⟨fun m σ H' => H' = H ∧ ∃ (lo hi : Nat) (z : Option V), m = hi - lo ∧ lo < hi ∧ hi ≤ P'.length ∧ (∃ y, P'[lo]? = some y ∧ y.1 ≤ h) ∧ (∀ j y, hi ≤ j → P'[j]? = some y → h < y.1) ∧ σ = [some (.ref x), some (.int h), some (.int lo), some (.int hi), z], ⟨_, rfl, 0, P'.length, none, rfl, p0, Nat.le_refl _, ⟨z0, hz0, z0h⟩, fun j y hj hy => ?_, ?_⟩, ?_⟩
    · have := (List.getElem?_eq_some_iff.mp hy).1; omega
    · rw [show (rf ps).length = P'.length by simp [rf, tp.1]]; rfl
    · rintro m σ H1 ⟨rfl, lo, hi, z, rfl, lh, hl', ⟨y, hy, yh⟩, hall, rfl⟩
      walk_at "rd"
      refine ifs (fun h1 => ?_) (fun h1 => ?_)
      · have h1' : (hi : Int) - lo > 1 := of_decide_eq_true h1
        refine ⟨fun σ' H' => ∃ m', m' < hi - lo ∧ (H' = H1 ∧ ∃ (lo hi : Nat) (z : Option V), m' = hi - lo ∧ lo < hi ∧ hi ≤ P'.length ∧ (∃ y, P'[lo]? = some y ∧ y.1 ≤ h) ∧ (∀ j y, hi ≤ j → P'[j]? = some y → h < y.1) ∧ σ' = [some (.ref x), some (.int h), some (.int lo), some (.int hi), z]), fun σ' H' z => z, ?_⟩
        have em : ((lo : Int) + hi).fdiv 2 = (((lo + hi) / 2 : Nat) : Int) := by
          rw [Int.fdiv_eq_ediv_of_nonneg _ (by decide)]; omega
        walk_at "rd"
        rw [em]
        generalize hmd : (lo + hi) / 2 = md
        have b1 : lo < md ∧ md < hi := by omega
        refine ⟨x, _, dx, fs, _, rfl, hx, T.cl_Ice, T.na_Ice__pieces, hl, ?_⟩
        obtain ⟨w, hw⟩ : ∃ w, P'[md]? = some w := ⟨P'[md]'(by omega), List.getElem?_eq_getElem (by omega)⟩
        obtain ⟨aw, hrw, haw⟩ := tp.get hw
        walk_at "rd"
        refine i_ixL (SqL.lst hp) (atI_nat hrw) ?_
        walk_at "rd"
        refine ifs (fun h2 => ?_) (fun h2 => ?_)
        · walk_at "rd"
          exact ⟨hi - md, by omega, rfl, md, hi, _, rfl, b1.2, hl', ⟨w, hw, of_decide_eq_true h2⟩, hall, rfl⟩
        · have h2' : ¬ w.1 ≤ h := of_decide_eq_false h2
          walk_at "rd"
          refine ⟨md - lo, by omega, rfl, lo, md, _, rfl, b1.1, by omega, ⟨y, hy, yh⟩, fun j y' hj hy' => ?_, rfl⟩
          rcases Nat.lt_or_eq_of_le hj with hj | rfl
          · have := rise_lt rise hj hw hy'; omega
          · rw [hw] at hy'; cases hy'; omega
      · have h1' : ¬ (hi : Int) - lo > 1 := of_decide_eq_false h1
        walk_at "rd"
        exact q lo ⟨⟨y, hy, yh⟩, fun j y' hj hy' => hall j y' (by omega) hy'⟩ (by omega)
end

end Ice

set_option Elab.async false
set_option linter.all false
set_option maxRecDepth 100000
set_option maxHeartbeats 4000000
namespace Ice
open PySem PySem.Spec PyProof.Rows L2 TL
/-! side conditions, heaps, one step of a reading, and many -/
local macro_rules | `(tactic| walk_at "hp") => `(tactic| first | assumption | exact upd_same | exact New.at_ (by assumption) | (refine keepU ?_ (by assumption); walk_at "hp") | (refine New.app (by assumption) ?_; walk_at "hp") | (refine Same.app (by assumption) ?_; walk_at "hp") | (refine But.app (by assumption) (by assumption) ?_; walk_at "hp"))
local macro_rules | `(tactic| walk_at "sq") => `(tactic| first | assumption | exact SqL.lst (by walk_at "hp") | exact L2.Same.seq (New.same (by assumption)) (by assumption) | exact L2.Same.seq (by assumption) (by assumption))
local macro_rules | `(tactic| walk_at "len") => `(tactic| first | assumption | (simp only [List.length_cons, List.length_nil, List.length_append, List.length_map]; decide) | (refine Ice.sz_of ?_; simp only [List.length_cons, List.length_nil, List.length_append, List.length_map]; omega))
local macro_rules | `(tactic| walk_at "fresh") => `(tactic| (simp only [List.map_append, List.map_cons, List.map_nil, List.nil_append, List.cons_append]; decide +kernel))
local macro_rules | `(tactic| walk_at "sd") => `(tactic| first | assumption | (show _ ≠ _; omega) | exact Or.inl ⟨by omega, by omega⟩ | exact Or.inr ⟨by omega, by omega⟩ | exact ⟨by decide, by decide⟩ | exact ⟨by decide, by decide, by decide⟩ | exact ⟨by omega, by omega, by omega⟩)
/-! one step of a reading, and many -/
local macro_rules | `(tactic| walk_at "st") => `(tactic| first
  | with_reducible refine i_seq ?_
  | with_reducible refine i_if ?_
  | with_reducible refine i_next ?_
  | with_reducible refine i_ret ?_
  | with_reducible refine i_retN ?_
  | with_reducible refine i_drop ?_
  | with_reducible refine i_asg ?_
  | with_reducible refine i_gname ?_
  | with_reducible refine i_gsub ?_
  | ((with_reducible refine i_var (v := ?vv) ?hv ?_); (case hv => exact rfl))
  | with_reducible refine i_c ?_
  | with_reducible refine i_op ?_
  | with_reducible refine i_un ?_
  | with_reducible refine i_test ?_
  | with_reducible refine i_tB ?_
  | with_reducible refine i_and ?_
  | with_reducible refine i_or ?_
  | with_reducible refine i_not ?_
  | with_reducible refine i_andV ?_
  | with_reducible refine i_orV ?_
  | with_reducible refine i_notV ?_
  | with_reducible refine i_ifE ?_
  | with_reducible refine i_chain ?_
  | with_reducible refine i_bl ?_
  | with_reducible refine i_nil ?_
  | with_reducible refine i_cons ?_
  | with_reducible refine i_call ?_
  | with_reducible refine i_cb ?_
  | with_reducible refine i_rI0 ?_
  | with_reducible refine i_rU ?_
  | ((with_reducible refine i_rEq ?hs ?_); (case hs => exact rfl))
  | ((with_reducible refine i_rNe ?hs ?_); (case hs => exact rfl))
  | ((with_reducible refine i_rI ?hc ?_); (case hc => walk_at "sd"))
  | ((with_reducible refine i_ixL (xs := ?xs) (v := ?vv) ?hS ?he ?_); (case hS => walk_at "sq"); (case he => exact rfl))
  | ((with_reducible refine i_setL (xs := ?xs) (j := ?jj) ?hS ?he ?_); (case hS => walk_at "hp"); (case he => exact rfl))
  | with_reducible refine i_tup ?_
  | with_reducible refine i_lst ?_
  | with_reducible refine i_bm ?_
  | with_reducible refine i_bm0 ?_
  | with_reducible refine i_m1 ?_
  | with_reducible refine i_sl ?_
  | with_reducible refine i_nopart ?_
  | with_reducible refine i_part ?_
  | with_reducible refine i_int ?_
  | with_reducible refine i_str ?_
  | with_reducible refine i_for ?_
  | with_reducible refine i_yes ?_
  | ((with_reducible refine i_lenL (xs := ?xs) ?hS ?_); (case hS => walk_at "sq"))
  | ((with_reducible refine i_room ?hz ?_); (case hz => walk_at "len"))
  | with_reducible refine i_leT ?_
  | with_reducible refine i_notInS ?_
  | with_reducible refine i_inS ?_
  | with_reducible refine i_find ?_
  | with_reducible refine i_isB ?_
  | with_reducible refine i_max2 ?_
  | with_reducible refine i_min2 ?_
  | with_reducible exact trivial
  | with_reducible refine iteT ?_
  | with_reducible refine iteF ?_
  | with_reducible refine i_isstr ?_
  | with_reducible refine i_lc ?_
  | ((with_reducible refine i_cat (xs := ?xs) (zs := ?zs) ?ha ?hb ?hz ?_); (case ha => walk_at "hp"); (case hb => walk_at "hp"); (case hz => walk_at "len"))
  | ((with_reducible refine i_tyL (xs := ?xs) ?ha ?_); (case ha => walk_at "hp"))
  | with_reducible refine i_list ?_
  | with_reducible refine i_disp ?_
  | with_reducible refine i_pairs0 ?_
  | with_reducible refine i_pairs ?_
  | with_reducible refine i_newK ?_
  | with_reducible refine i_gcons ?_
  | with_reducible refine i_gnil ?_
  | with_reducible refine i_revL ?_
  | with_reducible refine i_rng1 ?_
  | ((with_reducible refine i_wipe ?hw ?_); (case hw => exact rfl))
  | with_reducible refine iteNT ?_
  | with_reducible refine iteNF ?_)
local macro_rules | `(tactic| walk_at "sx") => `(tactic| first
  | walk_at "st"
  | with_reducible refine i_kinit ?_
  | with_reducible refine i_ost ?_
  | with_reducible refine i_mkO ?_
  | with_reducible refine i_callE ?_
  | with_reducible refine i_makeE ?_
  | with_reducible refine i_xf ?_
  | with_reducible refine i_sfld ?_
  | with_reducible refine i_fld ?_
  | ((with_reducible refine i_ixT (xs := ?xs) (v := ?vv) ?hS ?he ?_); (case hS => exact SqT.tup (by walk_at "hp")); (case he => exact rfl))
  | with_reducible refine i_intB ?_
  | with_reducible refine i_runS ?_
  | with_reducible refine i_runN ?_
  | ((with_reducible refine i_xf1 (fs := ?ff) (v := ?vv) ?hx ?hl ?_); (case hx => walk_at "hp"); (case hl => exact rfl))
  | with_reducible refine i_methE ?_
  | with_reducible refine i_meth ?_
  | with_reducible refine i_make ?_
  | ((with_reducible refine i_obj (dx := ?dd) (fs := ?ff) ?hx ?hl ?_); (case hx => walk_at "hp"); (case hl => exact rfl))
  | ((with_reducible refine i_fld1 (C := ?CC) (dx := ?dd) (fs := ?ff) (v := ?vv) ?hx ?cl ?na ?hl ?_); (case hx => walk_at "hp"); (case cl => assumption); (case na => assumption); (case hl => exact rfl)))
local macro_rules | `(tactic| walk_at "sy") => `(tactic| first
  | walk_at "sx"
  | with_reducible refine i_dget ?_
  | with_reducible refine i_dget2 ?_
  | with_reducible refine i_dput ?_
  | with_reducible refine i_din ?_
  | ((with_reducible refine i_aug (x := ?vv) ?hx ?_); (case hx => exact rfl)))
local macro_rules | `(tactic| walk_at "rd") => `(tactic| repeat (walk_at "sy"))

section
variable {P : Program} {w : World} {K : PySem.W.Frag} {mg : Str → Option Value} {base : Heap}
theorem piece_ok {N : IceN} {B : Brk} (ok : N.ok) (bo : BOk N.b B) : ∃ c r, pieces N B = (N.b, N.first, c) :: r := by
  obtain ⟨c, r, e⟩ := pieces_head bo
  unfold pieces
  rw [e]
  exact ⟨_, _, rfl⟩
theorem pieces_len {N : IceN} {B : Brk} : (pieces N B).length ≤ B.length + 1 := by unfold pieces; rw [pcs_len]; exact cbh_len_le _ _
def spThick (T : Top K mg) : Sp := fun vs H Q _ => ∃ (x : Addr) (N : IceN) (B : Brk) (h : Int), vs = [.ref x, .int h] ∧ IceA T H x N B ∧ N.ok ∧ BOk N.b B ∧ B.length ≤ 300 ∧ N.b ≤ h ∧ h ≤ 1000000000 ∧
  ∀ (i : Nat) z, AtP (pieces N B) h i → (pieces N B)[i]? = some z → Q (.int (grown N z.2.2 (h - z.1))) H
theorem ok_Ice_thick (T : Top K mg) : FnG P w K mg base CX0 5 T.a_Ice_thick T.d_Ice_thick ["self", "hour"] (spThick T) := by
  have G_Ice__check_hour := ok_Ice__check_hour (P := P) (w := w) (base := base) T
  have G_Ice__grown := ok_Ice__grown (P := P) (w := w) (base := base) T
  have G_Ice__piece_of := ok_Ice__piece_of (P := P) (w := w) (base := base) T
  refine okG T.F_Ice_thick sc_Ice_thick (fun vs H Q E h => ?_) (fun cdv A outer s H vs Q E hr hgd h => ?_)
  · obtain ⟨x, N, B, h, rfl, _⟩ := h
    rfl
  · obtain ⟨x, N, B, h, rfl, ⟨dx, ch, lb, lp, bs, ps, hx, hc, hlb, pB, hlp, tP⟩, ok, bo, l3, h0, h1, q⟩ := h
    (have cl_Ice := T.cl_Ice; have na_Ice__channel := T.na_Ice__channel; have na_Ice__begin := T.na_Ice__begin; have na_Ice__breakings := T.na_Ice__breakings; have na_Ice__pieces := T.na_Ice__pieces)
    refine ⟨_, (pss_cons (ps_expr (g_meth (pv 0) T.cl_Ice T.me_Ice__check_hour G_Ice__check_hour (hr.mono (by decide)) hgd T.b_Ice__check_hour .nil pass0 (pa_cons (pv 1) pa_nil)))
      (pss_cons (ps_asg (pe_ix ix_list (pe_fld (pv 0) rfl) (g_meth (pv 0) T.cl_Ice T.me_Ice__piece_of G_Ice__piece_of (hr.mono (by decide)) hgd T.b_Ice__piece_of .nil pass0 (pa_cons (pv 1) pa_nil)) (fun _ _ => rfl)) (pg_tup rfl (pgs_cons (pg_name (i := 2) sc_Ice_thick.nd rfl (by first | exact Or.inl rfl | exact Or.inr rfl)) (pgs_cons (pg_name (i := 3) sc_Ice_thick.nd rfl (by first | exact Or.inl rfl | exact Or.inr rfl)) (pgs_cons (pg_name (i := 4) sc_Ice_thick.nd rfl (by first | exact Or.inl rfl | exact Or.inr rfl)) pgs_nil)))))
      (pss_one (ps_ret (g_meth (pv 0) T.cl_Ice T.me_Ice__grown G_Ice__grown (hr.mono (by decide)) hgd T.b_Ice__grown .nil pass0 (pa_cons (pv 4) (pa_cons (pe_op op_sub (pv 1) (pv 2)) pa_nil))))))), ?_⟩
    walk_at "rd"
    refine ⟨x, dx, _, N.b, h, rfl, hx, rfl, h0, h1, ?_⟩
    walk_at "rd"
    obtain ⟨c, r, e⟩ := piece_ok ok bo
    refine ⟨x, dx, lp, _, ps, pieces N B, h, rfl, hx, rfl, hlp, tP, by have := pieces_len (N := N) (B := B); omega, pieces_rise bo, ⟨_, by rw [e]; rfl, h0⟩, fun i ai li => ?_⟩
    have hz : (pieces N B)[i]? = some (pieces N B)[i] := List.getElem?_eq_getElem li
    generalize (pieces N B)[i] = z at hz
    obtain ⟨a, ha, hta⟩ := tP.get hz
    refine i_ixL (SqL.lst hlp) (atI_nat ha) ?_
    walk_at "rd"
    refine i_gtup (xs := [.int z.1, .int z.2.1, .int z.2.2]) (SqT.tup hta) rfl ?_
    walk_at "rd"
    refine ⟨x, dx, ch, _, N, z.2.2, h - z.1, rfl, hx, rfl, hc, ok, ?_⟩
    walk_at "rd"
    exact q i z ai hz
def spAhead (T : Top K mg) : Sp := fun vs H Q _ => ∃ (x : Addr) (N : IceN) (B : Brk) (h : Int), vs = [.ref x, .int h] ∧ IceA T H x N B ∧ N.ok ∧ BOk N.b B ∧ B.length ≤ 300 ∧ N.b ≤ h ∧ h ≤ 1000000000 ∧
  ∀ (i : Nat) z, AtP (pieces N B) h i → (pieces N B)[i]? = some z → Q (.int (if z.1 = h then z.2.1 else grown N z.2.2 (h - z.1))) H
theorem ok_Ice_ahead (T : Top K mg) : FnG P w K mg base CX0 5 T.a_Ice_ahead T.d_Ice_ahead ["self", "hour"] (spAhead T) := by
  have G_Ice__check_hour := ok_Ice__check_hour (P := P) (w := w) (base := base) T
  have G_Ice__grown := ok_Ice__grown (P := P) (w := w) (base := base) T
  have G_Ice__piece_of := ok_Ice__piece_of (P := P) (w := w) (base := base) T
  refine okG T.F_Ice_ahead sc_Ice_ahead (fun vs H Q E h => ?_) (fun cdv A outer s H vs Q E hr hgd h => ?_)
  · obtain ⟨x, N, B, h, rfl, _⟩ := h
    rfl
  · obtain ⟨x, N, B, h, rfl, ⟨dx, ch, lb, lp, bs, ps, hx, hc, hlb, pB, hlp, tP⟩, ok, bo, l3, h0, h1, q⟩ := h
    (have cl_Ice := T.cl_Ice; have na_Ice__channel := T.na_Ice__channel; have na_Ice__begin := T.na_Ice__begin; have na_Ice__breakings := T.na_Ice__breakings; have na_Ice__pieces := T.na_Ice__pieces)
    refine ⟨_, (pss_cons (ps_expr (g_meth (pv 0) T.cl_Ice T.me_Ice__check_hour G_Ice__check_hour (hr.mono (by decide)) hgd T.b_Ice__check_hour .nil pass0 (pa_cons (pv 1) pa_nil)))
      (pss_cons (ps_asg (pe_ix ix_list (pe_fld (pv 0) rfl) (g_meth (pv 0) T.cl_Ice T.me_Ice__piece_of G_Ice__piece_of (hr.mono (by decide)) hgd T.b_Ice__piece_of .nil pass0 (pa_cons (pv 1) pa_nil)) (fun _ _ => rfl)) (pg_tup rfl (pgs_cons (pg_name (i := 2) sc_Ice_ahead.nd rfl (by first | exact Or.inl rfl | exact Or.inr rfl)) (pgs_cons (pg_name (i := 3) sc_Ice_ahead.nd rfl (by first | exact Or.inl rfl | exact Or.inr rfl)) (pgs_cons (pg_name (i := 4) sc_Ice_ahead.nd rfl (by first | exact Or.inl rfl | exact Or.inr rfl)) pgs_nil)))))
      (pss_cons (ps_if (pt_cmpR op_eq (pv 2) (pv 1) (nomark _))
        (pss_one (ps_ret (pv 3)))
        pss_nil)
      (pss_one (ps_ret (g_meth (pv 0) T.cl_Ice T.me_Ice__grown G_Ice__grown (hr.mono (by decide)) hgd T.b_Ice__grown .nil pass0 (pa_cons (pv 4) (pa_cons (pe_op op_sub (pv 1) (pv 2)) pa_nil)))))))), ?_⟩
    walk_at "rd"
    refine ⟨x, dx, _, N.b, h, rfl, hx, rfl, h0, h1, ?_⟩
    walk_at "rd"
    obtain ⟨c, r, e⟩ := piece_ok ok bo
    refine ⟨x, dx, lp, _, ps, pieces N B, h, rfl, hx, rfl, hlp, tP, by have := pieces_len (N := N) (B := B); omega, pieces_rise bo, ⟨_, by rw [e]; rfl, h0⟩, fun i ai li => ?_⟩
    have hz : (pieces N B)[i]? = some (pieces N B)[i] := List.getElem?_eq_getElem li
    generalize (pieces N B)[i] = z at hz
    obtain ⟨a, ha, hta⟩ := tP.get hz
    have qq := q i z ai hz
    refine i_ixL (SqL.lst hlp) (atI_nat ha) ?_
    walk_at "rd"
    refine i_gtup (xs := [.int z.1, .int z.2.1, .int z.2.2]) (SqT.tup hta) rfl ?_
    walk_at "rd"
    refine ifs (fun h2 => ?_) (fun h2 => ?_)
    · walk_at "rd"
      have e2 : z.1 = h := by have := of_decide_eq_true h2; injection this
      rw [if_pos e2] at qq
      exact qq
    · walk_at "rd"
      have e2 : ¬ z.1 = h := fun e2 => of_decide_eq_false h2 (by rw [e2])
      rw [if_neg e2] at qq
      refine ⟨x, dx, ch, _, N, z.2.2, h - z.1, rfl, hx, rfl, hc, ok, ?_⟩
      walk_at "rd"
      exact qq
def spBrk (T : Top K mg) : Sp := fun vs H Q _ => ∃ (x : Addr) (N : IceN) (B : Brk), vs = [.ref x] ∧ IceA T H x N B ∧ ∀ r bs H', New H r (.lst (rf bs)) H' → PairsAt H' bs B → Q (.ref r) H'
theorem ok_Ice_breakings (T : Top K mg) : FnG P w K mg base CX0 1 T.a_Ice_breakings T.d_Ice_breakings ["self"] (spBrk T) := by
  refine okG T.F_Ice_breakings sc_Ice_breakings (fun vs H Q E h => ?_) (fun cdv A outer s H vs Q E hr hgd h => ?_)
  · obtain ⟨x, N, B, rfl, _⟩ := h
    rfl
  · obtain ⟨x, N, B, rfl, ⟨dx, ch, lb, lp, bs, ps, hx, hc, hlb, pB, hlp, tP⟩, q⟩ := h
    (have cl_Ice := T.cl_Ice; have na_Ice__channel := T.na_Ice__channel; have na_Ice__begin := T.na_Ice__begin; have na_Ice__breakings := T.na_Ice__breakings; have na_Ice__pieces := T.na_Ice__pieces)
    refine ⟨_, (pss_one (ps_ret (pe_callTy call_list_of (by rfl) T.n_list (by decide +kernel) (pa_cons (pe_fld (pv 0) rfl) pa_nil)))), ?_⟩
    walk_at "rd"
    refine ⟨lb, rf bs, rfl, .inl (SqL.lst hlb), ?_⟩
    (intro r hr; generalize er : upd _ r _ = J; have N := New.of er hr; clear er hr)
    exact q r bs J N (pB.keep (keepT_same N.same))
def spRows (T : Top K mg) : Sp := fun vs H Q _ => ∃ (x : Addr) (N : IceN) (B : Brk), vs = [.ref x] ∧ IceA T H x N B ∧ B.length ≤ 300 ∧ ∀ r ps H', New H r (.lst (rf ps)) H' → ((∃ c r, B = (N.b, c) :: r) → TripsAt H' ps (pieces N B)) → ((¬ ∃ c r, B = (N.b, c) :: r) → TripsAt H' ps ((pieces N B).drop 1)) → Q (.ref r) H'
theorem TripsAt.drop {H : Hp} {ps : List Addr} {P : Pcs} (t : TripsAt H ps P) (k : Nat) : TripsAt H (ps.drop k) (P.drop k) :=
  ⟨by rw [List.length_drop, List.length_drop, t.1], fun i a z h1 h2 => t.2 (k + i) a z (by rw [List.getElem?_drop] at h1; exact h1) (by rw [List.getElem?_drop] at h2; exact h2)⟩
theorem i_slLs {K : PySem.W.Frag} {H : Hp} {Q : VK} {a : Addr} {xs : List V} {lo hi : Option Int} (ha : H a = some (.lst xs)) (q : ∀ p H', New H p (.lst (cutV xs lo hi)) H' → Q (.ref p) H') : rSlL K (.ref a) lo hi H Q := ⟨a, xs, rfl, SqL.lst ha, fun p hp => q p _ (.mk' hp)⟩
theorem cutV_drop1 (ps : List Addr) : cutV (rf ps) (some 1) none = rf (ps.drop 1) := by
  unfold cutV rf
  rw [HT.sIx_none, show (1 : Int) = ((1 : Nat) : Int) from rfl, HT.sIx_nat, ← List.map_drop, ← List.map_take, List.take_of_length_le (by simp)]
  congr 1
  by_cases h : 1 ≤ ps.length
  · rw [List.length_map, Nat.min_eq_left h]
  · have : ps = [] := List.eq_nil_of_length_eq_zero (by omega)
    subst this; rfl
theorem ok_Ice_rows (T : Top K mg) : FnG P w K mg base CX0 1 T.a_Ice_rows T.d_Ice_rows ["self"] (spRows T) := by
  refine okG T.F_Ice_rows sc_Ice_rows (fun vs H Q E h => ?_) (fun cdv A outer s H vs Q E hr hgd h => ?_)
  · obtain ⟨x, N, B, rfl, _⟩ := h
    rfl
  · obtain ⟨x, N, B, rfl, ⟨dx, ch, lb, lp, bs, ps, hx, hc, hlb, pB, hlp, tP⟩, l3, q⟩ := h
    (have cl_Ice := T.cl_Ice; have na_Ice__channel := T.na_Ice__channel; have na_Ice__begin := T.na_Ice__begin; have na_Ice__breakings := T.na_Ice__breakings; have na_Ice__pieces := T.na_Ice__pieces)
    refine ⟨_, (pss_cons (ps_if (PW.pt (pw_and (pt_truth (pe_fld (pv 0) rfl) (by intro _; rfl)) (pw_and1 (pt_cmpR op_eq (pe_ix ix_tup (pe_ix ix_list (pe_fld (pv 0) rfl) pe_int (fun _ _ => rfl)) pe_int (fun _ _ => rfl)) (pe_fld (pv 0) rfl) (nomark _)))))
        (pss_one (ps_ret (pe_callTy call_list_of (by rfl) T.n_list (by decide +kernel) (pa_cons (pe_fld (pv 0) rfl) pa_nil))))
        pss_nil)
      (pss_one (ps_ret (pe_slice sl_list (pe_fld (pv 0) rfl) (po_some pe_int) po_none)))), ?_⟩
    walk_at "rd"
    refine ⟨!(rf bs).isEmpty, .inl ⟨rf bs, SqL.lst hlb, rfl⟩, ?_⟩
    have tail : (¬ ∃ c r, B = (N.b, c) :: r) → ∀ p H', New H p (.lst (cutV (rf ps) (some 1) none)) H' → Q (.ref p) H' := fun nb p H' n => by
      rw [cutV_drop1] at n
      exact q p _ H' n (fun z => absurd z nb) (fun _ => (tP.drop 1).keep (keepT_same n.same))
    match bs, B, pB, hlb with
    | [], B, pB, hlb =>
      rw [show (!(rf ([] : List Addr)).isEmpty) = false from rfl]
      walk_at "rd"
      refine i_slLs hlp (tail ?_)
      rintro ⟨c, r, rfl⟩
      exact absurd pB.1 (by simp)
    | b0 :: bs', [], pB, hlb => exact absurd pB.1 (by simp)
    | b0 :: bs', z :: B', pB, hlb =>
      have hb0 := pB.2 0 b0 z rfl rfl
      rw [show (!(rf (b0 :: bs')).isEmpty) = true from rfl]
      walk_at "rd"
      refine i_ixL (SqL.lst hlb) (show atI (rf (b0 :: bs')) 0 = some (.ref b0) from atI_nat (j := 0) rfl) ?_
      walk_at "rd"
      refine ifs (fun h1 => ?_) (fun h1 => ?_)
      · have e1 : z.1 = N.b := by have := of_decide_eq_true h1; injection this
        walk_at "rd"
        refine ⟨lp, rf ps, rfl, .inl (SqL.lst hlp), ?_⟩
        (intro r hr; generalize er : upd _ r _ = J; have N2 := New.of er hr; clear er hr)
        exact q r ps J N2 (fun _ => tP.keep (keepT_same N2.same)) (fun nb => absurd ⟨z.2, B', by rw [← e1]⟩ nb)
      · have e1 : ¬ z.1 = N.b := fun e => of_decide_eq_false h1 (by rw [e])
        walk_at "rd"
        refine i_slLs hlp (tail ?_)
        rintro ⟨c, r, hr⟩
        injection hr with hr _
        exact e1 (by rw [hr])
section
variable {K : PySem.W.Frag} {H : Hp} {Q : VK}
theorem i_isiO {x C D dx : Addr} {fs : List (Str × V)} {b : Bool} (hx : H x = some (.ins C dx fs)) (cl : Cls K C) (ca : PySem.W.findIn K (.ref C) "__class__" = some (some (.builtin "object.__class__"))) (sg : PySem.W.specialIn K (.builtin "object.__class__") "__get__" = some (some (.builtin "getset_descriptor.__get__")))
    (tk : PySem.W.takesIn K (.builtin "object.__class__") = some true) (mo : PySem.W.mroIn K C (.type "object") = some true) (e : PySem.W.kitOne K (.ref C) (.ref D) = some b) (q : Q (.bl b) H) : rIsi K [.ref x, .ref D] H Q :=
  ⟨.ref x, .ref D, .ref C, .ref D, b, rfl, .own D, .base (.ins hx cl ca sg tk mo), e, q⟩
end
def spInitI (T : Top K mg) : Sp := fun vs H Q _ => ∃ (x dx ch : Addr) (N : IceN), vs = [.ref x, .ref ch, .int N.b] ∧ H x = some (.ins T.a_Ice dx []) ∧ ChA T H ch N ∧ N.ok ∧ ∀ H' lb lp, But x H H' → H lb = none → H lp = none → IceL T H' x N [] lb lp → Q .non H'
theorem ok_Ice___init__ (T : Top K mg) : FnG P w K mg base (L2.CX P w) 4 T.a_Ice___init__ T.d_Ice___init__ ["self", "channel", "begin"] (spInitI T) := by
  have G_check_number := ok_check_number (P := P) (w := w) (base := base) T
  have G_NoChannel___init__ := ok_NoChannel___init__ (P := P) (w := w) (base := base) T
  have G_Ice__keep := ok_Ice__keep (P := P) (w := w) (base := base) T
  refine okGX T.F_Ice___init__ sc_Ice___init__ (fun vs H Q E h => ?_) (fun cdv A outer s H vs Q E hr hgd h => ?_)
  · obtain ⟨x, dx, ch, N, rfl, _⟩ := h
    rfl
  · obtain ⟨x, dx, ch, N, rfl, hx, hc, ok, q⟩ := h
    have chx : ch ≠ x := by
      obtain ⟨dch, n, o, t, h, d, hcc⟩ := hc
      refine ne_of hcc hx ?_
      intro z
      injection z with _ _ z
      cases z
    refine ⟨_, (pss_cons (ps_if (pt_not (pt_val (pe_callB c_isi (by rfl) T.n_isinstance (by decide +kernel) (pa_cons (pv 1) (pa_cons (pe_glob (v := .ref T.a_Channel) (by rfl) T.c_Channel rfl) pa_nil)))))
        (pss_one (ps_raise rfl (takes_of rfl rfl rfl rfl) (pmk_oex T.ox_NoChannel T.in_NoChannel T.tf_NoChannel G_NoChannel___init__ (hr.mono (by decide)) T.b_NoChannel___init__ .nil pass0 (by rfl) T.c_NoChannel (pa_cons (pv 1) pa_nil))))
        pss_nil)
      (pss_cons (ps_expr (g_callE (E := WE _) G_check_number (hr.mono (by decide)) hgd (by rfl) T.m_check_number T.F_check_number.kp T.b_check_number .nil (passAt (takes_of rfl rfl rfl rfl)) (pa_cons (pv 2) (pa_cons pe_int (pa_cons (pe_glob (v := .int 1000000) (by rfl) T.c_BEGIN_MOST ⟨_, rfl⟩) pa_nil)))))
      (pss_cons (ps_fld (pv 0) (pv 1) rfl)
      (pss_cons (ps_fld (pv 0) (pv 2) rfl)
      (pss_one (ps_expr (g_meth (pv 0) T.cl_Ice T.me_Ice__keep G_Ice__keep (hr.mono (by decide)) hgd T.b_Ice__keep .nil pass0 (pa_cons (pe_lst pa_nil) pa_nil)))))))), ?_⟩
    walk_at "rd"
    obtain ⟨dch, n, o, t, h, d, hcc⟩ := id hc
    refine i_isiO hcc T.cl_Channel T.ca_Channel T.sgc T.tkc T.mo_Channel T.io_Channel_Channel ?_
    walk_at "rd"
    refine ⟨.int N.b, _, _, rfl, int_th _ _, fun _ => ?_, fun z => ?_⟩
    · walk_at "rd"
      refine i_sfldP hx T.cl_Ice T.na_Ice__channel (by simp) rfl ?_
      walk_at "rd"
      refine i_sfldP upd_same T.cl_Ice T.na_Ice__begin (by simp [putF]) rfl ?_
      rw [upd_upd]
      generalize eX : upd H x (HO.ins T.a_Ice dx _) = J1
      have kx1 : J1 x = some (.ins T.a_Ice dx (fl2 ch N.b)) := by rw [← eX]; exact upd_same
      have e1 : But x H J1 := fun a o na ha => by rw [← eX, upd_ne na]; exact ha
      walk_at "rd"
      (intro lb hlb; generalize elb : upd _ lb _ = J2; have N2 := New.of elb hlb; clear elb hlb)
      walk_at "rd"
      refine ⟨x, dx, ch, lb, _, [], N, [], rfl, N2.app kx1, .inl rfl, ?_, ok, N2.at_, ⟨rfl, fun i a z h => by simp at h⟩, by simp, ⟨.nil, fun z hz => by cases hz⟩, fun H' lp e' flp ia => ?_⟩
      · exact ⟨dch, n, o, t, h, d, N2.app (e1 ch _ chx hcc)⟩
      · walk_at "rd"
        have fr : ∀ a, J1 a = none → H a = none := fun a ha => by
          have ax : a ≠ x := (ne_of_none kx1 ha).symm
          cases e : H a with
          | none => rfl
          | some o => have := e1 a o ax e; rw [ha] at this; cases this
        exact q H' lb lp (e1.trans (N2.but.trans e')) (fr lb N2.free) (fr lp (none_back N2.same flp)) ia
    · exact absurd (inB_of ok.b0 ok.b6) (by rw [show inB 0 1000000 (.int N.b) = false from z]; decide)
end

end Ice

set_option Elab.async false
set_option linter.all false
set_option maxRecDepth 100000
set_option maxHeartbeats 4000000
namespace Ice
open PySem PySem.Spec PyProof.Rows L2 TL
/-! side conditions, heaps, one step of a reading, and many -/
local macro_rules | `(tactic| walk_at "hp") => `(tactic| first | assumption | exact upd_same | exact New.at_ (by assumption) | (refine keepU ?_ (by assumption); walk_at "hp") | (refine New.app (by assumption) ?_; walk_at "hp") | (refine Same.app (by assumption) ?_; walk_at "hp") | (refine But.app (by assumption) (by assumption) ?_; walk_at "hp"))
local macro_rules | `(tactic| walk_at "sq") => `(tactic| first | assumption | exact SqL.lst (by walk_at "hp") | exact L2.Same.seq (New.same (by assumption)) (by assumption) | exact L2.Same.seq (by assumption) (by assumption))
local macro_rules | `(tactic| walk_at "len") => `(tactic| first | assumption | (simp only [List.length_cons, List.length_nil, List.length_append, List.length_map]; decide) | (refine Ice.sz_of ?_; simp only [List.length_cons, List.length_nil, List.length_append, List.length_map]; omega))
local macro_rules | `(tactic| walk_at "fresh") => `(tactic| (simp only [List.map_append, List.map_cons, List.map_nil, List.nil_append, List.cons_append]; decide +kernel))
local macro_rules | `(tactic| walk_at "sd") => `(tactic| first | assumption | (show _ ≠ _; omega) | exact Or.inl ⟨by omega, by omega⟩ | exact Or.inr ⟨by omega, by omega⟩ | exact ⟨by decide, by decide⟩ | exact ⟨by decide, by decide, by decide⟩ | exact ⟨by omega, by omega, by omega⟩)
/-! one step of a reading, and many -/
local macro_rules | `(tactic| walk_at "st") => `(tactic| first
  | with_reducible refine i_seq ?_
  | with_reducible refine i_if ?_
  | with_reducible refine i_next ?_
  | with_reducible refine i_ret ?_
  | with_reducible refine i_retN ?_
  | with_reducible refine i_drop ?_
  | with_reducible refine i_asg ?_
  | with_reducible refine i_gname ?_
  | with_reducible refine i_gsub ?_
  | ((with_reducible refine i_var (v := ?vv) ?hv ?_); (case hv => exact rfl))
  | with_reducible refine i_c ?_
  | with_reducible refine i_op ?_
  | with_reducible refine i_un ?_
  | with_reducible refine i_test ?_
  | with_reducible refine i_tB ?_
  | with_reducible refine i_and ?_
  | with_reducible refine i_or ?_
  | with_reducible refine i_not ?_
  | with_reducible refine i_andV ?_
  | with_reducible refine i_orV ?_
  | with_reducible refine i_notV ?_
  | with_reducible refine i_ifE ?_
  | with_reducible refine i_chain ?_
  | with_reducible refine i_bl ?_
  | with_reducible refine i_nil ?_
  | with_reducible refine i_cons ?_
  | with_reducible refine i_call ?_
  | with_reducible refine i_cb ?_
  | with_reducible refine i_rI0 ?_
  | with_reducible refine i_rU ?_
  | ((with_reducible refine i_rEq ?hs ?_); (case hs => exact rfl))
  | ((with_reducible refine i_rNe ?hs ?_); (case hs => exact rfl))
  | ((with_reducible refine i_rI ?hc ?_); (case hc => walk_at "sd"))
  | ((with_reducible refine i_ixL (xs := ?xs) (v := ?vv) ?hS ?he ?_); (case hS => walk_at "sq"); (case he => exact rfl))
  | ((with_reducible refine i_setL (xs := ?xs) (j := ?jj) ?hS ?he ?_); (case hS => walk_at "hp"); (case he => exact rfl))
  | with_reducible refine i_tup ?_
  | with_reducible refine i_lst ?_
  | with_reducible refine i_bm ?_
  | with_reducible refine i_bm0 ?_
  | with_reducible refine i_m1 ?_
  | with_reducible refine i_sl ?_
  | with_reducible refine i_nopart ?_
  | with_reducible refine i_part ?_
  | with_reducible refine i_int ?_
  | with_reducible refine i_str ?_
  | with_reducible refine i_for ?_
  | with_reducible refine i_yes ?_
  | ((with_reducible refine i_lenL (xs := ?xs) ?hS ?_); (case hS => walk_at "sq"))
  | ((with_reducible refine i_room ?hz ?_); (case hz => walk_at "len"))
  | with_reducible refine i_leT ?_
  | with_reducible refine i_notInS ?_
  | with_reducible refine i_inS ?_
  | with_reducible refine i_find ?_
  | with_reducible refine i_isB ?_
  | with_reducible refine i_max2 ?_
  | with_reducible refine i_min2 ?_
  | with_reducible exact trivial
  | with_reducible refine iteT ?_
  | with_reducible refine iteF ?_
  | with_reducible refine i_isstr ?_
  | with_reducible refine i_lc ?_
  | ((with_reducible refine i_cat (xs := ?xs) (zs := ?zs) ?ha ?hb ?hz ?_); (case ha => walk_at "hp"); (case hb => walk_at "hp"); (case hz => walk_at "len"))
  | ((with_reducible refine i_tyL (xs := ?xs) ?ha ?_); (case ha => walk_at "hp"))
  | with_reducible refine i_list ?_
  | with_reducible refine i_disp ?_
  | with_reducible refine i_pairs0 ?_
  | with_reducible refine i_pairs ?_
  | with_reducible refine i_newK ?_
  | with_reducible refine i_gcons ?_
  | with_reducible refine i_gnil ?_
  | with_reducible refine i_revL ?_
  | with_reducible refine i_rng1 ?_
  | ((with_reducible refine i_wipe ?hw ?_); (case hw => exact rfl))
  | with_reducible refine iteNT ?_
  | with_reducible refine iteNF ?_)
local macro_rules | `(tactic| walk_at "sx") => `(tactic| first
  | walk_at "st"
  | with_reducible refine i_kinit ?_
  | with_reducible refine i_ost ?_
  | with_reducible refine i_mkO ?_
  | with_reducible refine i_callE ?_
  | with_reducible refine i_makeE ?_
  | with_reducible refine i_xf ?_
  | with_reducible refine i_sfld ?_
  | with_reducible refine i_fld ?_
  | ((with_reducible refine i_ixT (xs := ?xs) (v := ?vv) ?hS ?he ?_); (case hS => exact SqT.tup (by walk_at "hp")); (case he => exact rfl))
  | with_reducible refine i_intB ?_
  | with_reducible refine i_runS ?_
  | with_reducible refine i_runN ?_
  | ((with_reducible refine i_xf1 (fs := ?ff) (v := ?vv) ?hx ?hl ?_); (case hx => walk_at "hp"); (case hl => exact rfl))
  | with_reducible refine i_methE ?_
  | with_reducible refine i_meth ?_
  | with_reducible refine i_make ?_
  | ((with_reducible refine i_obj (dx := ?dd) (fs := ?ff) ?hx ?hl ?_); (case hx => walk_at "hp"); (case hl => exact rfl))
  | ((with_reducible refine i_fld1 (C := ?CC) (dx := ?dd) (fs := ?ff) (v := ?vv) ?hx ?cl ?na ?hl ?_); (case hx => walk_at "hp"); (case cl => assumption); (case na => assumption); (case hl => exact rfl)))
local macro_rules | `(tactic| walk_at "sy") => `(tactic| first
  | walk_at "sx"
  | with_reducible refine i_dget ?_
  | with_reducible refine i_dget2 ?_
  | with_reducible refine i_dput ?_
  | with_reducible refine i_din ?_
  | ((with_reducible refine i_aug (x := ?vv) ?hx ?_); (case hx => exact rfl)))
local macro_rules | `(tactic| walk_at "rd") => `(tactic| repeat (walk_at "sy"))

/-- in order, and one more -/
def lexLe (x y : Int × Int) : Prop := x.1 < y.1 ∨ (x.1 = y.1 ∧ x.2 ≤ y.2)
instance (x y : Int × Int) : Decidable (lexLe x y) := inferInstanceAs (Decidable (_ ∨ _))
def SrtB (B : Brk) : Prop := B.Pairwise lexLe
theorem lexLe_tot {x y : Int × Int} (h : ¬ lexLe x y) : lexLe y x := by unfold lexLe at *; omega
theorem lexLe_trans {x y z : Int × Int} (h : lexLe x y) (g : lexLe y z) : lexLe x z := by unfold lexLe at *; omega
theorem lexLe_anti {x y : Int × Int} (h : lexLe x y) (g : lexLe y x) : x = y := by
  obtain ⟨a, b⟩ := x; obtain ⟨c, d⟩ := y
  unfold lexLe at *
  simp at *
  omega
def insB (z : Int × Int) : Brk → Brk
  | [] => [z]
  | y :: r => if lexLe y z then y :: insB z r else z :: y :: r
theorem insB_perm (z : Int × Int) : ∀ B : Brk, (insB z B).Perm (z :: B)
  | [] => .refl _
  | y :: r => by
    show (if lexLe y z then y :: insB z r else z :: y :: r).Perm _
    split
    · exact ((insB_perm z r).cons y).trans (.swap z y r)
    · exact .refl _
theorem insB_srt {z : Int × Int} : ∀ {B : Brk}, SrtB B → SrtB (insB z B)
  | [], _ => by show List.Pairwise lexLe [z]; simp
  | y :: r, s => by
    obtain ⟨s1, s2⟩ := List.pairwise_cons.mp s
    show List.Pairwise lexLe (if lexLe y z then y :: insB z r else z :: y :: r)
    split
    · rename_i h
      refine List.pairwise_cons.mpr ⟨fun u hu => ?_, insB_srt s2⟩
      rcases List.mem_cons.mp ((insB_perm z r).mem_iff.mp hu) with rfl | hu
      · exact h
      · exact s1 u hu
    · rename_i h
      refine List.pairwise_cons.mpr ⟨fun u hu => ?_, s⟩
      rcases List.mem_cons.mp hu with rfl | hu
      · exact lexLe_tot h
      · exact lexLe_trans (lexLe_tot h) (s1 u hu)
theorem srt_uniq {B C : Brk} (b : SrtB B) (c : SrtB C) (p : B.Perm C) : B = C := p.eq_of_pairwise (fun _ _ _ _ h g => lexLe_anti h g) b c
/-- breakings that an Ice may hold -/
structure BGood (b : Int) (B : Brk) : Prop where
  srt : SrtB B
  ge : ∀ z ∈ B, b ≤ z.1 ∧ z.1 ≤ 100000000 ∧ 1 ≤ z.2 ∧ z.2 ≤ 1000000
theorem BGood.ok {b : Int} {B : Brk} (g : BGood b B) : BOk b B := ⟨g.srt.imp fun h => by unfold lexLe at h; omega, fun z hz => (g.ge z hz).1⟩
theorem BGood.ins {b : Int} {B : Brk} {z : Int × Int} (g : BGood b B) (hz : b ≤ z.1 ∧ z.1 ≤ 100000000 ∧ 1 ≤ z.2 ∧ z.2 ≤ 1000000) : BGood b (insB z B) := ⟨insB_srt g.srt, fun u hu => by
  rcases List.mem_cons.mp ((insB_perm z B).mem_iff.mp hu) with rfl | hu
  · exact hz
  · exact g.ge u hu⟩
def hk2 (H : Hp) : V → Int × Int
  | .ref a => match H a with
    | some (.tup [.int i, .int j]) => (i, j)
    | _ => (0, 0)
  | _ => (0, 0)
theorem hk2_at {H : Hp} {a : Addr} {i j : Int} (h : H a = some (.tup [.int i, .int j])) : hk2 H (.ref a) = (i, j) := by show (match H a with | some (.tup [.int i, .int j]) => (i, j) | _ => (0, 0)) = _; rw [h]
theorem PairsAt.map {H : Hp} {bs : List Addr} {B : Brk} (p : PairsAt H bs B) : (rf bs).map (hk2 H) = B := by
  apply List.ext_getElem
  · simp [rf, p.1]
  · intro i h1 h2
    have h3 : i < bs.length := by rw [p.1]; exact h2
    have := p.2 i _ _ (List.getElem?_eq_getElem h3) (List.getElem?_eq_getElem h2)
    simp only [rf, List.getElem_map]
    rw [hk2_at this]
theorem rf_of {xs : List V} (h : ∀ x ∈ xs, ∃ a, x = .ref a) : ∃ bs, xs = rf bs := by
  induction xs with
  | nil => exact ⟨[], rfl⟩
  | cons x r ih =>
    obtain ⟨a, rfl⟩ := h x (by simp)
    obtain ⟨bs, rfl⟩ := ih (fun y hy => h y (by simp [hy]))
    exact ⟨a :: bs, rfl⟩
theorem PairsAt.mem {H : Hp} {bs : List Addr} {B : Brk} (p : PairsAt H bs B) {v : V} (h : v ∈ rf bs) : ∃ a z, v = .ref a ∧ z ∈ B ∧ H a = some (.tup [.int z.1, .int z.2]) := by
  obtain ⟨i, hi, rfl⟩ := List.getElem_of_mem h
  obtain ⟨a, z, e, hz, ha⟩ := p.get (List.getElem?_eq_getElem hi)
  exact ⟨a, z, e, List.mem_of_getElem? hz, ha⟩
/-- what sorted tells of pairs -/
theorem PairsAt.sorted {H : Hp} {bs : List Addr} {B : Brk} {z : Int × Int} {ys : List V} (p : PairsAt H bs (B ++ [z])) (s : SrtB B) (h1 : SrtO.Srtd (ltP (hk2 H)) ys) (h2 : SrtO.Stb (ltP (hk2 H)) ys (rf bs)) : ∃ cs, ys = rf cs ∧ PairsAt H cs (insB z B) := by
  obtain ⟨cs, rfl⟩ := rf_of (xs := ys) (fun x hx => by
    obtain ⟨a, _, e, _⟩ := p.mem (h2.perm.mem_iff.mp hx)
    exact ⟨a, e⟩)
  refine ⟨cs, rfl, ?_⟩
  have e1 : ((rf cs).map (hk2 H)).Perm (B ++ [z]) := by rw [← p.map]; exact h2.perm.map _
  have e2 : SrtB ((rf cs).map (hk2 H)) := by
    unfold SrtB
    rw [List.pairwise_map]
    refine h1.imp fun {x y} h => ?_
    have h : SrtO.lexB (hk2 H y) (hk2 H x) = false := h
    unfold SrtO.lexB at h
    unfold lexLe
    by_cases e : (hk2 H y).1 = (hk2 H x).1
    · rw [if_pos e] at h
      have := of_decide_eq_false h
      omega
    · rw [if_neg e] at h
      have := of_decide_eq_false h
      omega
  have e3 : (rf cs).map (hk2 H) = insB z B := srt_uniq e2 (insB_srt s) (e1.trans ((List.perm_append_comm (l₁ := B) (l₂ := [z])).trans (insB_perm z B).symm))
  refine ⟨by rw [← e3]; simp [rf], fun i a y ha hy => ?_⟩
  have hv : (rf cs)[i]? = some (.ref a) := by unfold rf; rw [List.getElem?_map, ha]; rfl
  obtain ⟨a', u, e, hu, hH⟩ := p.mem (h2.perm.mem_iff.mp (List.mem_of_getElem? hv))
  injection e with e; subst e
  rw [← e3, List.getElem?_map, hv] at hy
  have hy : hk2 H (.ref a) = y := Option.some.inj hy
  rw [hk2_at hH] at hy
  rw [hH, ← hy]
section
variable {P : Program} {w : World} {K : PySem.W.Frag} {mg : Str → Option Value} {base : Heap}
def spBreak (T : Top K mg) : Sp := fun vs H Q _ => ∃ (x : Addr) (N : IceN) (B : Brk) (h c : Int), vs = [.ref x, .int h, .int c] ∧ IceA T H x N B ∧ N.ok ∧ BGood N.b B ∧ B.length < 200 ∧ N.b ≤ h ∧ h ≤ 100000000 ∧ 1 ≤ c ∧ c ≤ 1000000 ∧
  ∀ H', But x H H' → IceA T H' x N (insB (h, c) B) → Q .non H'
theorem ok_Ice_break_at (T : Top K mg) : FnG P w K mg base (L2.CX P w) 5 T.a_Ice_break_at T.d_Ice_break_at ["self", "hour", "cut"] (spBreak T) := by
  have G_TooMany___init__ := ok_TooMany___init__ (P := P) (w := w) (base := base) T
  have G_Ice__check_breaking := ok_Ice__check_breaking (P := P) (w := w) (base := base) T
  have G_Ice__keep := ok_Ice__keep (P := P) (w := w) (base := base) T
  refine okGX T.F_Ice_break_at sc_Ice_break_at (fun vs H Q E h => ?_) (fun cdv A outer s H vs Q E hr hgd h => ?_)
  · obtain ⟨x, N, B, h, c, rfl, _⟩ := h
    rfl
  · obtain ⟨x, N, B, h, c, rfl, ⟨dx, ch, lb, lp, bs, ps, hx, hc, hlb, pB, hlp, tP⟩, ok, bg, l2, h0, h1, c0, c1, q⟩ := h
    (have cl_Ice := T.cl_Ice; have na_Ice__channel := T.na_Ice__channel; have na_Ice__begin := T.na_Ice__begin; have na_Ice__breakings := T.na_Ice__breakings; have na_Ice__pieces := T.na_Ice__pieces)
    refine ⟨_, (pss_cons (ps_expr (g_meth (pv 0) T.cl_Ice T.me_Ice__check_breaking G_Ice__check_breaking (hr.mono (by decide)) hgd T.b_Ice__check_breaking .nil pass0 (pa_cons (pv 1) (pa_cons (pv 2) pa_nil))))
      (pss_cons (ps_set (i := 3) sc_Ice_break_at.nd rfl (by first | exact Or.inl rfl | exact Or.inr rfl) (pe_op op_add (pe_callB c_len (by rfl) T.n_len (by decide +kernel) (pa_cons (pe_fld (pv 0) rfl) pa_nil)) pe_int))
      (pss_cons (ps_if (pt_cmpR op_gt (pv 3) (pe_glob (v := .int 200) (by rfl) T.c_BREAKINGS_MOST ⟨_, rfl⟩) (nomark _))
        (pss_one (ps_raise rfl (takes_of rfl rfl rfl rfl) (pmk_oex T.ox_TooMany T.in_TooMany T.tf_TooMany G_TooMany___init__ (hr.mono (by decide)) T.b_TooMany___init__ .nil pass0 (by rfl) T.c_TooMany (pa_cons (pv 3) pa_nil))))
        pss_nil)
      (pss_one (ps_expr (g_meth (pv 0) T.cl_Ice T.me_Ice__keep G_Ice__keep (hr.mono (by decide)) hgd T.b_Ice__keep .nil pass0 (pa_cons (pe_callB cr_sortedPO (by rfl) T.n_sorted (by decide +kernel) (pa_cons (pe_op op_cat (pe_fld (pv 0) rfl) (pe_lst (pa_cons (pe_tup (pa_cons (pv 1) (pa_cons (pv 2) pa_nil))) pa_nil))) pa_nil)) pa_nil))))))), ?_⟩
    walk_at "rd"
    refine ⟨x, dx, _, N.b, h, c, rfl, hx, rfl, h0, h1, c0, c1, ?_⟩
    walk_at "rd"
    have lb1 : (rf bs).length = B.length := by simp [rf, pB.1]
    refine ifs (fun h2 => ?_) (fun h2 => ?_)
    · have := of_decide_eq_true h2
      rw [lb1] at this; omega
    · walk_at "rd"
      (intro t ht; generalize et : upd _ t _ = J1; have N1 := New.of et ht; clear et ht)
      walk_at "rd"
      (intro l1 hl1; generalize el1 : upd _ l1 _ = J2; have N2 := New.of el1 hl1; clear el1 hl1)
      walk_at "rd"
      (intro l2 hl2; generalize el2 : upd _ l2 _ = J3; have N3 := New.of el2 hl2; clear el2 hl2)
      walk_at "rd"
      have ht3 : J3 t = some (.tup [.int h, .int c]) := N3.app (N2.app N1.at_)
      have pB3 : PairsAt J3 (bs ++ [t]) (B ++ [(h, c)]) := pB.snoc (keepT_same (N1.same.trans (N2.same.trans N3.same))) ht3
      have kl3 : J3 l2 = some (.lst (rf (bs ++ [t]))) := by rw [N3.at_]; simp [rf]
      refine ⟨l2, rf (bs ++ [t]), hk2 J3, rfl, SqL.of kl3, fun v hv => ?_, fun ys r sr st hr => ?_⟩
      · obtain ⟨a, z, rfl, _, ha⟩ := pB3.mem hv
        exact ⟨a, rfl, by rw [hk2_at ha]; exact ha⟩
      · obtain ⟨cs, rfl, pC⟩ := pB3.sorted bg.srt sr st
        generalize eR : upd J3 r (HO.lst (rf cs)) = J4
        have N4 := New.of eR hr
        clear eR
        have e4 : Same H J4 := N1.same.trans (N2.same.trans (N3.same.trans N4.same))
        have lC : (insB (h, c) B).length = B.length + 1 := (insB_perm _ _).length_eq
        walk_at "rd"
        refine ⟨x, dx, ch, r, _, cs, N, insB (h, c) B, rfl, e4 _ _ hx, .inr ⟨_, _, rfl⟩, hc.same e4, ok, N4.at_, pC.keep (keepT_same N4.same), by omega, (bg.ins ⟨h0, h1, c0, c1⟩).ok, fun H' lp' e' _ ia => ?_⟩
        walk_at "rd"
        exact q H' (fun a o na ha => e' a o na (e4 a o ha)) ia.a
end

end Ice

set_option Elab.async false
set_option linter.all false
set_option maxRecDepth 100000
set_option maxHeartbeats 4000000
namespace Ice
open PySem PySem.Spec PyProof.Rows L2 TL
/-! side conditions, heaps, one step of a reading, and many -/
local macro_rules | `(tactic| walk_at "hp") => `(tactic| first | assumption | exact upd_same | exact New.at_ (by assumption) | (refine keepU ?_ (by assumption); walk_at "hp") | (refine New.app (by assumption) ?_; walk_at "hp") | (refine Same.app (by assumption) ?_; walk_at "hp") | (refine But.app (by assumption) (by assumption) ?_; walk_at "hp"))
local macro_rules | `(tactic| walk_at "sq") => `(tactic| first | assumption | exact SqL.lst (by walk_at "hp") | exact L2.Same.seq (New.same (by assumption)) (by assumption) | exact L2.Same.seq (by assumption) (by assumption))
local macro_rules | `(tactic| walk_at "len") => `(tactic| first | assumption | (simp only [List.length_cons, List.length_nil, List.length_append, List.length_map]; decide) | (refine Ice.sz_of ?_; simp only [List.length_cons, List.length_nil, List.length_append, List.length_map]; omega))
local macro_rules | `(tactic| walk_at "fresh") => `(tactic| (simp only [List.map_append, List.map_cons, List.map_nil, List.nil_append, List.cons_append]; decide +kernel))
local macro_rules | `(tactic| walk_at "sd") => `(tactic| first | assumption | (show _ ≠ _; omega) | exact Or.inl ⟨by omega, by omega⟩ | exact Or.inr ⟨by omega, by omega⟩ | exact ⟨by decide, by decide⟩ | exact ⟨by decide, by decide, by decide⟩ | exact ⟨by omega, by omega, by omega⟩)
/-! one step of a reading, and many -/
local macro_rules | `(tactic| walk_at "st") => `(tactic| first
  | with_reducible refine i_seq ?_
  | with_reducible refine i_if ?_
  | with_reducible refine i_next ?_
  | with_reducible refine i_ret ?_
  | with_reducible refine i_retN ?_
  | with_reducible refine i_drop ?_
  | with_reducible refine i_asg ?_
  | with_reducible refine i_gname ?_
  | with_reducible refine i_gsub ?_
  | ((with_reducible refine i_var (v := ?vv) ?hv ?_); (case hv => exact rfl))
  | with_reducible refine i_c ?_
  | with_reducible refine i_op ?_
  | with_reducible refine i_un ?_
  | with_reducible refine i_test ?_
  | with_reducible refine i_tB ?_
  | with_reducible refine i_and ?_
  | with_reducible refine i_or ?_
  | with_reducible refine i_not ?_
  | with_reducible refine i_andV ?_
  | with_reducible refine i_orV ?_
  | with_reducible refine i_notV ?_
  | with_reducible refine i_ifE ?_
  | with_reducible refine i_chain ?_
  | with_reducible refine i_bl ?_
  | with_reducible refine i_nil ?_
  | with_reducible refine i_cons ?_
  | with_reducible refine i_call ?_
  | with_reducible refine i_cb ?_
  | with_reducible refine i_rI0 ?_
  | with_reducible refine i_rU ?_
  | ((with_reducible refine i_rEq ?hs ?_); (case hs => exact rfl))
  | ((with_reducible refine i_rNe ?hs ?_); (case hs => exact rfl))
  | ((with_reducible refine i_rI ?hc ?_); (case hc => walk_at "sd"))
  | ((with_reducible refine i_ixL (xs := ?xs) (v := ?vv) ?hS ?he ?_); (case hS => walk_at "sq"); (case he => exact rfl))
  | ((with_reducible refine i_setL (xs := ?xs) (j := ?jj) ?hS ?he ?_); (case hS => walk_at "hp"); (case he => exact rfl))
  | with_reducible refine i_tup ?_
  | with_reducible refine i_lst ?_
  | with_reducible refine i_bm ?_
  | with_reducible refine i_bm0 ?_
  | with_reducible refine i_m1 ?_
  | with_reducible refine i_sl ?_
  | with_reducible refine i_nopart ?_
  | with_reducible refine i_part ?_
  | with_reducible refine i_int ?_
  | with_reducible refine i_str ?_
  | with_reducible refine i_for ?_
  | with_reducible refine i_yes ?_
  | ((with_reducible refine i_lenL (xs := ?xs) ?hS ?_); (case hS => walk_at "sq"))
  | ((with_reducible refine i_room ?hz ?_); (case hz => walk_at "len"))
  | with_reducible refine i_leT ?_
  | with_reducible refine i_notInS ?_
  | with_reducible refine i_inS ?_
  | with_reducible refine i_find ?_
  | with_reducible refine i_isB ?_
  | with_reducible refine i_max2 ?_
  | with_reducible refine i_min2 ?_
  | with_reducible exact trivial
  | with_reducible refine iteT ?_
  | with_reducible refine iteF ?_
  | with_reducible refine i_isstr ?_
  | with_reducible refine i_lc ?_
  | ((with_reducible refine i_cat (xs := ?xs) (zs := ?zs) ?ha ?hb ?hz ?_); (case ha => walk_at "hp"); (case hb => walk_at "hp"); (case hz => walk_at "len"))
  | ((with_reducible refine i_tyL (xs := ?xs) ?ha ?_); (case ha => walk_at "hp"))
  | with_reducible refine i_list ?_
  | with_reducible refine i_disp ?_
  | with_reducible refine i_pairs0 ?_
  | with_reducible refine i_pairs ?_
  | with_reducible refine i_newK ?_
  | with_reducible refine i_gcons ?_
  | with_reducible refine i_gnil ?_
  | with_reducible refine i_revL ?_
  | with_reducible refine i_rng1 ?_
  | ((with_reducible refine i_wipe ?hw ?_); (case hw => exact rfl))
  | with_reducible refine iteNT ?_
  | with_reducible refine iteNF ?_)
local macro_rules | `(tactic| walk_at "sx") => `(tactic| first
  | walk_at "st"
  | with_reducible refine i_kinit ?_
  | with_reducible refine i_ost ?_
  | with_reducible refine i_mkO ?_
  | with_reducible refine i_callE ?_
  | with_reducible refine i_makeE ?_
  | with_reducible refine i_xf ?_
  | with_reducible refine i_sfld ?_
  | with_reducible refine i_fld ?_
  | ((with_reducible refine i_ixT (xs := ?xs) (v := ?vv) ?hS ?he ?_); (case hS => exact SqT.tup (by walk_at "hp")); (case he => exact rfl))
  | with_reducible refine i_intB ?_
  | with_reducible refine i_runS ?_
  | with_reducible refine i_runN ?_
  | ((with_reducible refine i_xf1 (fs := ?ff) (v := ?vv) ?hx ?hl ?_); (case hx => walk_at "hp"); (case hl => exact rfl))
  | with_reducible refine i_methE ?_
  | with_reducible refine i_meth ?_
  | with_reducible refine i_make ?_
  | ((with_reducible refine i_obj (dx := ?dd) (fs := ?ff) ?hx ?hl ?_); (case hx => walk_at "hp"); (case hl => exact rfl))
  | ((with_reducible refine i_fld1 (C := ?CC) (dx := ?dd) (fs := ?ff) (v := ?vv) ?hx ?cl ?na ?hl ?_); (case hx => walk_at "hp"); (case cl => assumption); (case na => assumption); (case hl => exact rfl)))
local macro_rules | `(tactic| walk_at "sy") => `(tactic| first
  | walk_at "sx"
  | with_reducible refine i_dget ?_
  | with_reducible refine i_dget2 ?_
  | with_reducible refine i_dput ?_
  | with_reducible refine i_din ?_
  | ((with_reducible refine i_aug (x := ?vv) ?hx ?_); (case hx => exact rfl)))
local macro_rules | `(tactic| walk_at "rd") => `(tactic| repeat (walk_at "sy"))

theorem PairsAt.all {K : PySem.W.Frag} {H : Hp} : ∀ {bs : List Addr} {B : Brk}, PairsAt H bs B → DpAll K H (rf bs) (B.map pd2)
  | [], [], _ => .nil
  | [], _ :: _, p => absurd p.1 (by simp)
  | _ :: _, [], p => absurd p.1 (by simp)
  | a :: r, z :: q, p => .cons (dp2 (p.2 0 a z rfl rfl)) (PairsAt.all ⟨by have := p.1; simpa using this, fun i b y h1 h2 => p.2 (i + 1) b y h1 h2⟩)
theorem PairsAt.erase {H : Hp} {bs : List Addr} {B : Brk} {j : Nat} (p : PairsAt H bs B) : PairsAt H (bs.eraseIdx j) (B.eraseIdx j) := by
  refine ⟨by rw [List.length_eraseIdx, List.length_eraseIdx, p.1], fun i a z h1 h2 => ?_⟩
  rw [List.getElem?_eraseIdx] at h1 h2
  by_cases e : i < j
  · rw [if_pos e] at h1 h2; exact p.2 i a z h1 h2
  · rw [if_neg e] at h1 h2; exact p.2 (i + 1) a z h1 h2
theorem rf_erase : ∀ (bs : List Addr) (j : Nat), (rf bs).eraseIdx j = rf (bs.eraseIdx j)
  | [], j => rfl
  | b :: r, 0 => rfl
  | b :: r, j + 1 => by
    show V.ref b :: (rf r).eraseIdx j = V.ref b :: rf (r.eraseIdx j)
    rw [rf_erase r j]
theorem BGood.del {b : Int} {B : Brk} {z : Int × Int} (g : BGood b B) : BGood b (B.erase z) := ⟨g.srt.sublist (List.erase_sublist), fun u hu => g.ge u (List.mem_of_mem_erase hu)⟩
theorem un65 {k : Nat} {A : Around} (hr : Room k A) : A.units + 65 < cLine := by have := hr.un; omega
section
variable {P : Program} {w : World} {K : PySem.W.Frag} {mg : Str → Option Value} {base : Heap}
def spMend (T : Top K mg) : Sp := fun vs H Q E => ∃ (x : Addr) (N : IceN) (B : Brk) (h c : Int), vs = [.ref x, .int h, .int c] ∧ IceA T H x N B ∧ N.ok ∧ BGood N.b B ∧ B.length ≤ 200 ∧ N.b ≤ h ∧ h ≤ 100000000 ∧ 1 ≤ c ∧ c ≤ 1000000 ∧
  ((h, c) ∈ B → ∀ H', But x H H' → IceA T H' x N (B.erase (h, c)) → Q .non H') ∧
  (¬ (h, c) ∈ B → ∀ J t d, Same H J → J t = some (.tup [.int h, .int c]) → J d = none → E (.ref T.a_NoEntry) (some d) (upd J d (.xd [(Str.ofString "found", .ref t)])))
theorem ok_Ice_mend_at (T : Top K mg) : FnG P w K mg base (L2.CX P w) 5 T.a_Ice_mend_at T.d_Ice_mend_at ["self", "hour", "cut"] (spMend T) := by
  have G_NoEntry___init__ := ok_NoEntry___init__ (P := P) (w := w) (base := base) T
  have G_Ice__check_breaking := ok_Ice__check_breaking (P := P) (w := w) (base := base) T
  have G_Ice__keep := ok_Ice__keep (P := P) (w := w) (base := base) T
  refine okGX T.F_Ice_mend_at sc_Ice_mend_at (fun vs H Q E h => ?_) (fun cdv A outer s H vs Q E hr hgd h => ?_)
  · obtain ⟨x, N, B, h, c, rfl, _⟩ := h
    rfl
  · obtain ⟨x, N, B, h, c, rfl, ⟨dx, ch, lb, lp, bs, ps, hx, hc, hlb, pB, hlp, tP⟩, ok, bg, l2, h0, h1, c0, c1, q0, q1⟩ := h
    have hu65 := un65 hr
    (have cl_Ice := T.cl_Ice; have na_Ice__channel := T.na_Ice__channel; have na_Ice__begin := T.na_Ice__begin; have na_Ice__breakings := T.na_Ice__breakings; have na_Ice__pieces := T.na_Ice__pieces)
    refine ⟨_, (pss_cons (ps_expr (g_meth (pv 0) T.cl_Ice T.me_Ice__check_breaking G_Ice__check_breaking (hr.mono (by decide)) hgd T.b_Ice__check_breaking .nil pass0 (pa_cons (pv 1) (pa_cons (pv 2) pa_nil))))
      (pss_cons (ps_if (pt_cmpR (op_notInD hu65) (pe_tup (pa_cons (pv 1) (pa_cons (pv 2) pa_nil))) (pe_fld (pv 0) rfl) (by rfl))
        (pss_one (ps_raise rfl (takes_of rfl rfl rfl rfl) (pmk_oex T.ox_NoEntry T.in_NoEntry T.tf_NoEntry G_NoEntry___init__ (hr.mono (by decide)) T.b_NoEntry___init__ .nil pass0 (by rfl) T.c_NoEntry (pa_cons (pe_tup (pa_cons (pv 1) (pa_cons (pv 2) pa_nil))) pa_nil))))
        pss_nil)
      (pss_cons (ps_set (i := 3) sc_Ice_mend_at.nd rfl (by first | exact Or.inl rfl | exact Or.inr rfl) (pe_callTy call_list_of (by rfl) T.n_list (by decide +kernel) (pa_cons (pe_fld (pv 0) rfl) pa_nil)))
      (pss_cons (ps_expr (pe_bm PySem.F.plainAttrs_list PySem.F.slot_list_remove PySem.F.type_list_remove (mt_removeD hu65) (pv 3) (pa_cons (pe_tup (pa_cons (pv 1) (pa_cons (pv 2) pa_nil))) pa_nil)))
      (pss_one (ps_expr (g_meth (pv 0) T.cl_Ice T.me_Ice__keep G_Ice__keep (hr.mono (by decide)) hgd T.b_Ice__keep .nil pass0 (pa_cons (pv 3) pa_nil)))))))), ?_⟩
    walk_at "rd"
    refine ⟨x, dx, _, N.b, h, c, rfl, hx, rfl, h0, h1, c0, c1, ?_⟩
    walk_at "rd"
    (intro t ht; generalize et : upd _ t _ = J1; have N1 := New.of et ht; clear et ht)
    walk_at "rd"
    have pB1 : PairsAt J1 bs B := pB.keep (keepT_same N1.same)
    refine ⟨pd2 (h, c), B.map pd2, dp2 (z := (h, c)) N1.at_, .lst (SqL.lst (N1.app hlb)) pB1.all, pd2_shaped _, pd2_shapedL B, ?_⟩
    rw [pd2_any]
    by_cases hm : (h, c) ∈ B
    · rw [decide_eq_true hm]
      walk_at "rd"
      refine ⟨lb, rf bs, rfl, .inl (SqL.lst (N1.app hlb)), ?_⟩
      (intro ll hll; generalize ell : upd _ ll _ = J2; have N2 := New.of ell hll; clear ell hll)
      walk_at "rd"
      (intro t3 ht3; generalize et3 : upd _ t3 _ = J3; have N3 := New.of et3 ht3; clear et3 ht3)
      walk_at "rd"
      have kll := N3.app N2.at_
      have hlb3 := N3.app (N2.app (N1.app hlb))
      have pB3 : PairsAt J3 bs B := pB1.keep (keepT_same (N2.same.trans N3.same))
      have nll : lb ≠ ll := ne_of_none (N1.app hlb) N2.free
      obtain ⟨j, e1, e2, e3⟩ := pd2_place B hm
      refine ⟨ll, rf bs, .ref t3, pd2 (h, c), B.map pd2, j, rfl, rfl, kll, pB3.all, dp2 (z := (h, c)) N3.at_, pd2_plain B, rfl, by have := pd2_depth (h, c); omega, e1, ?_⟩
      rw [rf_erase]
      generalize eR : upd J3 ll (HO.lst (rf (bs.eraseIdx j))) = J4
      have k4 : J4 ll = some (.lst (rf (bs.eraseIdx j))) := by rw [← eR]; exact upd_same
      have e4 : But ll J3 J4 := fun a o na ha => by rw [← eR, upd_ne na]; exact ha
      have pB4 : PairsAt J4 (bs.eraseIdx j) (B.erase (h, c)) := by
        rw [← e3]
        exact pB3.erase.keep (keepT_but kll (fun xs => nofun) e4)
      clear eR
      have e04 : Same H J4 := fun a o ha => e4 a o (fun e => by rw [e] at ha; have := N1.app ha; rw [N2.free] at this; cases this) (N3.app (N2.app (N1.app ha)))
      have lC : (B.erase (h, c)).length ≤ B.length := List.length_erase_le
      walk_at "rd"
      refine ⟨x, dx, ch, ll, _, _, N, B.erase (h, c), rfl, e04 _ _ hx, .inr ⟨_, _, rfl⟩, hc.same e04, ok, k4, pB4, by omega, bg.del.ok, fun H' lp' e' _ ia => ?_⟩
      walk_at "rd"
      exact q0 hm H' (fun a o na ha => e' a o na (e04 a o ha)) ia.a
    · rw [decide_eq_false hm]
      walk_at "rd"
      (intro t2 ht2; generalize et2 : upd _ t2 _ = J2; have N2 := New.of et2 ht2; clear et2 ht2)
      walk_at "rd"
      exact i_mkE T.ox_NoEntry T.nf_NoEntry_found (fun d hd => q1 hm J2 t2 d (N1.same.trans N2.same) N2.at_ hd)
end

end Ice

set_option Elab.async false
set_option linter.all false
set_option maxRecDepth 100000
set_option maxHeartbeats 4000000
namespace Ice
open PySem PySem.Spec PyProof.Rows L2 TL
/-! side conditions, heaps, one step of a reading, and many -/
local macro_rules | `(tactic| walk_at "hp") => `(tactic| first | assumption | exact upd_same | exact New.at_ (by assumption) | (refine keepU ?_ (by assumption); walk_at "hp") | (refine New.app (by assumption) ?_; walk_at "hp") | (refine Same.app (by assumption) ?_; walk_at "hp") | (refine But.app (by assumption) (by assumption) ?_; walk_at "hp"))
local macro_rules | `(tactic| walk_at "sq") => `(tactic| first | assumption | exact SqL.lst (by walk_at "hp") | exact L2.Same.seq (New.same (by assumption)) (by assumption) | exact L2.Same.seq (by assumption) (by assumption))
local macro_rules | `(tactic| walk_at "len") => `(tactic| first | assumption | (simp only [List.length_cons, List.length_nil, List.length_append, List.length_map]; decide) | (refine Ice.sz_of ?_; simp only [List.length_cons, List.length_nil, List.length_append, List.length_map]; omega))
local macro_rules | `(tactic| walk_at "fresh") => `(tactic| (simp only [List.map_append, List.map_cons, List.map_nil, List.nil_append, List.cons_append]; decide +kernel))
local macro_rules | `(tactic| walk_at "sd") => `(tactic| first | assumption | (show _ ≠ _; omega) | exact Or.inl ⟨by omega, by omega⟩ | exact Or.inr ⟨by omega, by omega⟩ | exact ⟨by decide, by decide⟩ | exact ⟨by decide, by decide, by decide⟩ | exact ⟨by omega, by omega, by omega⟩)
/-! one step of a reading, and many -/
local macro_rules | `(tactic| walk_at "st") => `(tactic| first
  | with_reducible refine i_seq ?_
  | with_reducible refine i_if ?_
  | with_reducible refine i_next ?_
  | with_reducible refine i_ret ?_
  | with_reducible refine i_retN ?_
  | with_reducible refine i_drop ?_
  | with_reducible refine i_asg ?_
  | with_reducible refine i_gname ?_
  | with_reducible refine i_gsub ?_
  | ((with_reducible refine i_var (v := ?vv) ?hv ?_); (case hv => exact rfl))
  | with_reducible refine i_c ?_
  | with_reducible refine i_op ?_
  | with_reducible refine i_un ?_
  | with_reducible refine i_test ?_
  | with_reducible refine i_tB ?_
  | with_reducible refine i_and ?_
  | with_reducible refine i_or ?_
  | with_reducible refine i_not ?_
  | with_reducible refine i_andV ?_
  | with_reducible refine i_orV ?_
  | with_reducible refine i_notV ?_
  | with_reducible refine i_ifE ?_
  | with_reducible refine i_chain ?_
  | with_reducible refine i_bl ?_
  | with_reducible refine i_nil ?_
  | with_reducible refine i_cons ?_
  | with_reducible refine i_call ?_
  | with_reducible refine i_cb ?_
  | with_reducible refine i_rI0 ?_
  | with_reducible refine i_rU ?_
  | ((with_reducible refine i_rEq ?hs ?_); (case hs => exact rfl))
  | ((with_reducible refine i_rNe ?hs ?_); (case hs => exact rfl))
  | ((with_reducible refine i_rI ?hc ?_); (case hc => walk_at "sd"))
  | ((with_reducible refine i_ixL (xs := ?xs) (v := ?vv) ?hS ?he ?_); (case hS => walk_at "sq"); (case he => exact rfl))
  | ((with_reducible refine i_setL (xs := ?xs) (j := ?jj) ?hS ?he ?_); (case hS => walk_at "hp"); (case he => exact rfl))
  | with_reducible refine i_tup ?_
  | with_reducible refine i_lst ?_
  | with_reducible refine i_bm ?_
  | with_reducible refine i_bm0 ?_
  | with_reducible refine i_m1 ?_
  | with_reducible refine i_sl ?_
  | with_reducible refine i_nopart ?_
  | with_reducible refine i_part ?_
  | with_reducible refine i_int ?_
  | with_reducible refine i_str ?_
  | with_reducible refine i_for ?_
  | with_reducible refine i_yes ?_
  | ((with_reducible refine i_lenL (xs := ?xs) ?hS ?_); (case hS => walk_at "sq"))
  | ((with_reducible refine i_room ?hz ?_); (case hz => walk_at "len"))
  | with_reducible refine i_leT ?_
  | with_reducible refine i_notInS ?_
  | with_reducible refine i_inS ?_
  | with_reducible refine i_find ?_
  | with_reducible refine i_isB ?_
  | with_reducible refine i_max2 ?_
  | with_reducible refine i_min2 ?_
  | with_reducible exact trivial
  | with_reducible refine iteT ?_
  | with_reducible refine iteF ?_
  | with_reducible refine i_isstr ?_
  | with_reducible refine i_lc ?_
  | ((with_reducible refine i_cat (xs := ?xs) (zs := ?zs) ?ha ?hb ?hz ?_); (case ha => walk_at "hp"); (case hb => walk_at "hp"); (case hz => walk_at "len"))
  | ((with_reducible refine i_tyL (xs := ?xs) ?ha ?_); (case ha => walk_at "hp"))
  | with_reducible refine i_list ?_
  | with_reducible refine i_disp ?_
  | with_reducible refine i_pairs0 ?_
  | with_reducible refine i_pairs ?_
  | with_reducible refine i_newK ?_
  | with_reducible refine i_gcons ?_
  | with_reducible refine i_gnil ?_
  | with_reducible refine i_revL ?_
  | with_reducible refine i_rng1 ?_
  | ((with_reducible refine i_wipe ?hw ?_); (case hw => exact rfl))
  | with_reducible refine iteNT ?_
  | with_reducible refine iteNF ?_)
local macro_rules | `(tactic| walk_at "sx") => `(tactic| first
  | walk_at "st"
  | with_reducible refine i_kinit ?_
  | with_reducible refine i_ost ?_
  | with_reducible refine i_mkO ?_
  | with_reducible refine i_callE ?_
  | with_reducible refine i_makeE ?_
  | with_reducible refine i_xf ?_
  | with_reducible refine i_sfld ?_
  | with_reducible refine i_fld ?_
  | ((with_reducible refine i_ixT (xs := ?xs) (v := ?vv) ?hS ?he ?_); (case hS => exact SqT.tup (by walk_at "hp")); (case he => exact rfl))
  | with_reducible refine i_intB ?_
  | with_reducible refine i_runS ?_
  | with_reducible refine i_runN ?_
  | ((with_reducible refine i_xf1 (fs := ?ff) (v := ?vv) ?hx ?hl ?_); (case hx => walk_at "hp"); (case hl => exact rfl))
  | with_reducible refine i_methE ?_
  | with_reducible refine i_meth ?_
  | with_reducible refine i_make ?_
  | ((with_reducible refine i_obj (dx := ?dd) (fs := ?ff) ?hx ?hl ?_); (case hx => walk_at "hp"); (case hl => exact rfl))
  | ((with_reducible refine i_fld1 (C := ?CC) (dx := ?dd) (fs := ?ff) (v := ?vv) ?hx ?cl ?na ?hl ?_); (case hx => walk_at "hp"); (case cl => assumption); (case na => assumption); (case hl => exact rfl)))
local macro_rules | `(tactic| walk_at "sy") => `(tactic| first
  | walk_at "sx"
  | with_reducible refine i_dget ?_
  | with_reducible refine i_dget2 ?_
  | with_reducible refine i_dput ?_
  | with_reducible refine i_din ?_
  | ((with_reducible refine i_aug (x := ?vv) ?hx ?_); (case hx => exact rfl)))
local macro_rules | `(tactic| walk_at "rd") => `(tactic| repeat (walk_at "sy"))

theorem pick {ns : List Int} {d : Int} (h0 : 0 ≤ d) (h1 : d < ns.length) : ∃ m, m ∈ ns ∧ atI (ns.map V.int) d = some (.int m) := by
  obtain ⟨k, rfl⟩ := Int.eq_ofNat_of_zero_le h0
  have hk : k < ns.length := by omega
  exact ⟨ns[k], List.getElem_mem hk, atI_nat (by rw [List.getElem?_map, List.getElem?_eq_getElem hk]; rfl)⟩
theorem box_ne {H : Hp} {b p : Addr} {n : Nat} (B : Box H b n) (hp : H p = none) : p ≠ b := by
  obtain ⟨x, y, z, hb, _⟩ := B
  exact (ne_of_none hb hp).symm
theorem free_but {H H' : Hp} {b p : Addr} {n : Nat} (e : But b H H') (B : Box H' b n) (h : H' p = none) : H p = none := by
  cases hp : H p with
  | none => rfl
  | some o => have := e p o (box_ne B h) hp; rw [h] at this; cases this
/-- the law's dict of numbers -/
def dkN (N : IceN) (dc : Addr) : List (Key × V) := [(Sum.inr (Str.ofString "first"), .int N.first), (Sum.inr (Str.ofString "growth"), .int N.growth), (Sum.inr (Str.ofString "most"), .int N.most), (Sum.inr (Str.ofString "begin"), .int N.b), (Sum.inr (Str.ofString "cuts"), .ref dc)]
section
variable {P : Program} {w : World} {K : PySem.W.Frag} {mg : Str → Option Value} {base : Heap}
def spNums : Sp := fun vs H Q _ => ∃ (b : Addr) (n : Nat), vs = [.ref b] ∧ Box H b n ∧ n ≤ 90000 ∧ ∀ (N : IceN) (p dc : Addr) (H' : Hp), N.ok → But b H H' → Box H' b (n + 20) → H' p = some (.dK (dkN N dc)) → H' dc = some (.dK []) → H p = none → H dc = none → p ≠ dc → Q (.ref p) H'
theorem ok_numbers (T : Top K mg) : FnG P w K mg base CX0 2 T.a_numbers T.d_numbers ["_law_box_here"] spNums := by
  have G_take := ok_take (P := P) (w := w) (base := base) T
  refine okG T.F_numbers sc_numbers (fun vs H Q E h => ?_) (fun cdv A outer s H vs Q E hr hgd h => ?_)
  · obtain ⟨b, n, rfl, _⟩ := h
    rfl
  · obtain ⟨b, n, rfl, hB, hn, q⟩ := h
    refine ⟨_, (pss_cons (ps_set (i := 1) sc_numbers.nd rfl (by first | exact Or.inl rfl | exact Or.inr rfl) (pe_ix ix_list (pe_lst (pa_cons (g_call G_take (hr.mono (by decide)) hgd (by rfl) T.m_take T.F_take.kp T.b_take .nil pass0 (pa_cons (pv 0) (pa_cons pe_int pa_nil))) (pa_cons (pe_op op_add pe_int (g_call G_take (hr.mono (by decide)) hgd (by rfl) T.m_take T.F_take.kp T.b_take .nil pass0 (pa_cons (pv 0) (pa_cons pe_int pa_nil)))) (pa_cons (pe_op op_pow pe_int pe_int) pa_nil)))) (g_call G_take (hr.mono (by decide)) hgd (by rfl) T.m_take T.F_take.kp T.b_take .nil pass0 (pa_cons (pv 0) (pa_cons pe_int pa_nil))) (fun _ _ => rfl)))
      (pss_cons (ps_set (i := 2) sc_numbers.nd rfl (by first | exact Or.inl rfl | exact Or.inr rfl) (pe_ix ix_list (pe_lst (pa_cons pe_int (pa_cons (pv 1) (pa_cons (g_call G_take (hr.mono (by decide)) hgd (by rfl) T.m_take T.F_take.kp T.b_take .nil pass0 (pa_cons (pv 0) (pa_cons (pe_op op_add (pv 1) pe_int) pa_nil))) pa_nil)))) (g_call G_take (hr.mono (by decide)) hgd (by rfl) T.m_take T.F_take.kp T.b_take .nil pass0 (pa_cons (pv 0) (pa_cons pe_int pa_nil))) (fun _ _ => rfl)))
      (pss_cons (ps_set (i := 3) sc_numbers.nd rfl (by first | exact Or.inl rfl | exact Or.inr rfl) (pe_ix ix_list (pe_lst (pa_cons pe_int (pa_cons pe_int (pa_cons pe_int (pa_cons pe_int (pa_cons pe_int (pa_cons pe_int (pa_cons (g_call G_take (hr.mono (by decide)) hgd (by rfl) T.m_take T.F_take.kp T.b_take .nil pass0 (pa_cons (pv 0) (pa_cons pe_int pa_nil))) (pa_cons pe_int pa_nil))))))))) (g_call G_take (hr.mono (by decide)) hgd (by rfl) T.m_take T.F_take.kp T.b_take .nil pass0 (pa_cons (pv 0) (pa_cons pe_int pa_nil))) (fun _ _ => rfl)))
      (pss_cons (ps_set (i := 4) sc_numbers.nd rfl (by first | exact Or.inl rfl | exact Or.inr rfl) (pe_ix ix_list (pe_lst (pa_cons pe_int (pa_cons (pe_op op_pow pe_int pe_int) (pa_cons (g_call G_take (hr.mono (by decide)) hgd (by rfl) T.m_take T.F_take.kp T.b_take .nil pass0 (pa_cons (pv 0) (pa_cons pe_int pa_nil))) (pa_cons pe_int pa_nil))))) (g_call G_take (hr.mono (by decide)) hgd (by rfl) T.m_take T.F_take.kp T.b_take .nil pass0 (pa_cons (pv 0) (pa_cons pe_int pa_nil))) (fun _ _ => rfl)))
      (pss_one (ps_ret (pe_disp (pps_cons pe_str (pv 2) (pps_cons pe_str (pv 3) (pps_cons pe_str (pv 1) (pps_cons pe_str (pv 4) (pps_cons pe_str pe_dnewK pps_nil))))) (by rfl) (by rfl) (fun z => by cases z) (by decide)))))))), ?_⟩
    walk_at "rd"
    refine ⟨b, 12, n, rfl, hB, by omega, by decide, by decide, fun d1 H1 d10 d11 e1 B1 => ?_⟩
    walk_at "rd"
    refine ⟨b, 60, n + 1, rfl, B1, by omega, by decide, by decide, fun d2 H2 d20 d21 e2 B2 => ?_⟩
    walk_at "rd"
    (intro p1 hp1; generalize ep1 : upd _ p1 _ = J1; have N1 := New.of ep1 hp1; clear ep1 hp1)
    walk_at "rd"
    refine ⟨b, 3, n + 2, rfl, B2.nw N1, by omega, by decide, by decide, fun d3 H3 d30 d31 e3 B3 => ?_⟩
    obtain ⟨most, hm, am⟩ := pick (ns := [d1, 30 + d2, 1000000]) d30 (by simpa using d31)
    refine i_ixL (SqL.lst (e3 p1 _ (box_ne B2 N1.free) N1.at_)) am ?_
    have mb : 0 ≤ most ∧ most ≤ 1000000 := by
      simp only [List.mem_cons, List.not_mem_nil, or_false] at hm
      omega
    walk_at "rd"
    refine ⟨b, most + 1, n + 3, rfl, B3, by omega, by omega, by omega, fun d4 H4 d40 d41 e4 B4 => ?_⟩
    walk_at "rd"
    (intro p2 hp2; generalize ep2 : upd _ p2 _ = J2; have N2 := New.of ep2 hp2; clear ep2 hp2)
    walk_at "rd"
    refine ⟨b, 3, n + 4, rfl, B4.nw N2, by omega, by decide, by decide, fun d5 H5 d50 d51 e5 B5 => ?_⟩
    obtain ⟨first, hf, af⟩ := pick (ns := [0, most, d4]) d50 (by simpa using d51)
    refine i_ixL (SqL.lst (e5 p2 _ (box_ne B4 N2.free) N2.at_)) af ?_
    have fb : 0 ≤ first ∧ first ≤ most := by
      simp only [List.mem_cons, List.not_mem_nil, or_false] at hf
      omega
    walk_at "rd"
    refine ⟨b, 20, n + 5, rfl, B5, by omega, by decide, by decide, fun d6 H6 d60 d61 e6 B6 => ?_⟩
    walk_at "rd"
    (intro p3 hp3; generalize ep3 : upd _ p3 _ = J3; have N3 := New.of ep3 hp3; clear ep3 hp3)
    walk_at "rd"
    refine ⟨b, 8, n + 6, rfl, B6.nw N3, by omega, by decide, by decide, fun d7 H7 d70 d71 e7 B7 => ?_⟩
    obtain ⟨growth, hg, ag⟩ := pick (ns := [0, 1, 2, 3, 7, 1000, d6, 1]) d70 (by simpa using d71)
    refine i_ixL (SqL.lst (e7 p3 _ (box_ne B6 N3.free) N3.at_)) ag ?_
    have gb : 0 ≤ growth ∧ growth ≤ 1000 := by
      simp only [List.mem_cons, List.not_mem_nil, or_false] at hg
      omega
    walk_at "rd"
    refine ⟨b, 99, n + 7, rfl, B7, by omega, by decide, by decide, fun d8 H8 d80 d81 e8 B8 => ?_⟩
    walk_at "rd"
    (intro p4 hp4; generalize ep4 : upd _ p4 _ = J4; have N4 := New.of ep4 hp4; clear ep4 hp4)
    walk_at "rd"
    refine ⟨b, 4, n + 8, rfl, B8.nw N4, by omega, by decide, by decide, fun d9 H9 d90 d91 e9 B9 => ?_⟩
    obtain ⟨bg, hb, ab⟩ := pick (ns := [0, 1000000, d8, 7]) d90 (by simpa using d91)
    refine i_ixL (SqL.lst (e9 p4 _ (box_ne B8 N4.free) N4.at_)) ab ?_
    have bb : 0 ≤ bg ∧ bg ≤ 1000000 := by
      simp only [List.mem_cons, List.not_mem_nil, or_false] at hb
      omega
    have e09 : But b H H9 := e1.trans (e2.trans (N1.but.trans (e3.trans (e4.trans (N2.but.trans (e5.trans (e6.trans (N3.but.trans (e7.trans (e8.trans (N4.but.trans e9)))))))))))
    walk_at "rd"
    intro p hp
    walk_at "rd"
    (intro dc hdc; generalize edc : upd _ dc _ = J5; have N5 := New.of edc hdc; clear edc hdc)
    walk_at "rd"
    have kp : J5 p = some (.dK []) := N5.app upd_same
    have npd : p ≠ dc := ne_of_none upd_same N5.free
    have f9 : H9 dc = none := by
      have := N5.free
      rw [upd_ne npd.symm] at this
      exact this
    refine ⟨kp, dkN ⟨first, growth, most, bg⟩ dc, rfl, (by show 5 ≤ 15; decide), ?_⟩
    have e59 : But b H9 (upd J5 p (.dK (mergeK [] (dkN ⟨first, growth, most, bg⟩ dc)))) := fun a o na ha => by
      have nap : a ≠ p := ne_of_none ha hp
      rw [upd_ne nap]
      exact N5.app (by rw [upd_ne nap]; exact ha)
    have B59 : Box (upd J5 p (.dK (mergeK [] (dkN ⟨first, growth, most, bg⟩ dc)))) b (n + 20) := by
      refine ((B9.same (fun a o ha => ?_)).mono (by omega))
      have nap : a ≠ p := ne_of_none ha hp
      rw [upd_ne nap]
      exact N5.app (by rw [upd_ne nap]; exact ha)
    refine q ⟨first, growth, most, bg⟩ p dc _ ⟨fb.1, fb.2, mb.2, gb.1, gb.2, bb.1, bb.2⟩ (e09.trans e59) B59 upd_same (by rw [upd_ne npd.symm]; exact N5.at_) (free_but e09 B9 hp) (free_but e09 B9 f9) npd
end

end Ice

set_option Elab.async false
set_option linter.all false
set_option maxRecDepth 100000
set_option maxHeartbeats 4000000
namespace Ice
open PySem PySem.Spec PyProof.Rows L2 TL
/-! side conditions, heaps, one step of a reading, and many -/
local macro_rules | `(tactic| walk_at "hp") => `(tactic| first | assumption | exact upd_same | exact New.at_ (by assumption) | (refine keepU ?_ (by assumption); walk_at "hp") | (refine New.app (by assumption) ?_; walk_at "hp") | (refine Same.app (by assumption) ?_; walk_at "hp") | (refine But.app (by assumption) (by assumption) ?_; walk_at "hp"))
local macro_rules | `(tactic| walk_at "sq") => `(tactic| first | assumption | exact SqL.lst (by walk_at "hp") | exact L2.Same.seq (New.same (by assumption)) (by assumption) | exact L2.Same.seq (by assumption) (by assumption))
local macro_rules | `(tactic| walk_at "len") => `(tactic| first | assumption | (simp only [List.length_cons, List.length_nil, List.length_append, List.length_map]; decide) | (refine Ice.sz_of ?_; simp only [List.length_cons, List.length_nil, List.length_append, List.length_map]; omega))
local macro_rules | `(tactic| walk_at "fresh") => `(tactic| (simp only [List.map_append, List.map_cons, List.map_nil, List.nil_append, List.cons_append]; decide +kernel))
local macro_rules | `(tactic| walk_at "sd") => `(tactic| first | assumption | (show _ ≠ _; omega) | exact Or.inl ⟨by omega, by omega⟩ | exact Or.inr ⟨by omega, by omega⟩ | exact ⟨by decide, by decide⟩ | exact ⟨by decide, by decide, by decide⟩ | exact ⟨by omega, by omega, by omega⟩)
/-! one step of a reading, and many -/
local macro_rules | `(tactic| walk_at "st") => `(tactic| first
  | with_reducible refine i_seq ?_
  | with_reducible refine i_if ?_
  | with_reducible refine i_next ?_
  | with_reducible refine i_ret ?_
  | with_reducible refine i_retN ?_
  | with_reducible refine i_drop ?_
  | with_reducible refine i_asg ?_
  | with_reducible refine i_gname ?_
  | with_reducible refine i_gsub ?_
  | ((with_reducible refine i_var (v := ?vv) ?hv ?_); (case hv => exact rfl))
  | with_reducible refine i_c ?_
  | with_reducible refine i_op ?_
  | with_reducible refine i_un ?_
  | with_reducible refine i_test ?_
  | with_reducible refine i_tB ?_
  | with_reducible refine i_and ?_
  | with_reducible refine i_or ?_
  | with_reducible refine i_not ?_
  | with_reducible refine i_andV ?_
  | with_reducible refine i_orV ?_
  | with_reducible refine i_notV ?_
  | with_reducible refine i_ifE ?_
  | with_reducible refine i_chain ?_
  | with_reducible refine i_bl ?_
  | with_reducible refine i_nil ?_
  | with_reducible refine i_cons ?_
  | with_reducible refine i_call ?_
  | with_reducible refine i_cb ?_
  | with_reducible refine i_rI0 ?_
  | with_reducible refine i_rU ?_
  | ((with_reducible refine i_rEq ?hs ?_); (case hs => exact rfl))
  | ((with_reducible refine i_rNe ?hs ?_); (case hs => exact rfl))
  | ((with_reducible refine i_rI ?hc ?_); (case hc => walk_at "sd"))
  | ((with_reducible refine i_ixL (xs := ?xs) (v := ?vv) ?hS ?he ?_); (case hS => walk_at "sq"); (case he => exact rfl))
  | ((with_reducible refine i_setL (xs := ?xs) (j := ?jj) ?hS ?he ?_); (case hS => walk_at "hp"); (case he => exact rfl))
  | with_reducible refine i_tup ?_
  | with_reducible refine i_lst ?_
  | with_reducible refine i_bm ?_
  | with_reducible refine i_bm0 ?_
  | with_reducible refine i_m1 ?_
  | with_reducible refine i_sl ?_
  | with_reducible refine i_nopart ?_
  | with_reducible refine i_part ?_
  | with_reducible refine i_int ?_
  | with_reducible refine i_str ?_
  | with_reducible refine i_for ?_
  | with_reducible refine i_yes ?_
  | ((with_reducible refine i_lenL (xs := ?xs) ?hS ?_); (case hS => walk_at "sq"))
  | ((with_reducible refine i_room ?hz ?_); (case hz => walk_at "len"))
  | with_reducible refine i_leT ?_
  | with_reducible refine i_notInS ?_
  | with_reducible refine i_inS ?_
  | with_reducible refine i_find ?_
  | with_reducible refine i_isB ?_
  | with_reducible refine i_max2 ?_
  | with_reducible refine i_min2 ?_
  | with_reducible exact trivial
  | with_reducible refine iteT ?_
  | with_reducible refine iteF ?_
  | with_reducible refine i_isstr ?_
  | with_reducible refine i_lc ?_
  | ((with_reducible refine i_cat (xs := ?xs) (zs := ?zs) ?ha ?hb ?hz ?_); (case ha => walk_at "hp"); (case hb => walk_at "hp"); (case hz => walk_at "len"))
  | ((with_reducible refine i_tyL (xs := ?xs) ?ha ?_); (case ha => walk_at "hp"))
  | with_reducible refine i_list ?_
  | with_reducible refine i_disp ?_
  | with_reducible refine i_pairs0 ?_
  | with_reducible refine i_pairs ?_
  | with_reducible refine i_newK ?_
  | with_reducible refine i_gcons ?_
  | with_reducible refine i_gnil ?_
  | with_reducible refine i_revL ?_
  | with_reducible refine i_rng1 ?_
  | ((with_reducible refine i_wipe ?hw ?_); (case hw => exact rfl))
  | with_reducible refine iteNT ?_
  | with_reducible refine iteNF ?_)
local macro_rules | `(tactic| walk_at "sx") => `(tactic| first
  | walk_at "st"
  | with_reducible refine i_kinit ?_
  | with_reducible refine i_ost ?_
  | with_reducible refine i_mkO ?_
  | with_reducible refine i_callE ?_
  | with_reducible refine i_makeE ?_
  | with_reducible refine i_xf ?_
  | with_reducible refine i_sfld ?_
  | with_reducible refine i_fld ?_
  | ((with_reducible refine i_ixT (xs := ?xs) (v := ?vv) ?hS ?he ?_); (case hS => exact SqT.tup (by walk_at "hp")); (case he => exact rfl))
  | with_reducible refine i_intB ?_
  | with_reducible refine i_runS ?_
  | with_reducible refine i_runN ?_
  | ((with_reducible refine i_xf1 (fs := ?ff) (v := ?vv) ?hx ?hl ?_); (case hx => walk_at "hp"); (case hl => exact rfl))
  | with_reducible refine i_methE ?_
  | with_reducible refine i_meth ?_
  | with_reducible refine i_make ?_
  | ((with_reducible refine i_obj (dx := ?dd) (fs := ?ff) ?hx ?hl ?_); (case hx => walk_at "hp"); (case hl => exact rfl))
  | ((with_reducible refine i_fld1 (C := ?CC) (dx := ?dd) (fs := ?ff) (v := ?vv) ?hx ?cl ?na ?hl ?_); (case hx => walk_at "hp"); (case cl => assumption); (case na => assumption); (case hl => exact rfl)))
local macro_rules | `(tactic| walk_at "sy") => `(tactic| first
  | walk_at "sx"
  | with_reducible refine i_dget ?_
  | with_reducible refine i_dget2 ?_
  | with_reducible refine i_dput ?_
  | with_reducible refine i_din ?_
  | ((with_reducible refine i_aug (x := ?vv) ?hx ?_); (case hx => exact rfl)))
local macro_rules | `(tactic| walk_at "rd") => `(tactic| repeat (walk_at "sy"))

theorem made_same {H H' : Hp} {x dx : Addr} {u v : HO} (hx : H x = none) (hd : H dx = none) (e : But x (upd (upd H dx u) x v) H') : Same H H' := fun a o h => e a o (ne_of_none h hx) (by rw [upd_ne (ne_of_none h hx), upd_ne (ne_of_none h hd)]; exact h)
def Asc (x : Str) : Prop := ∀ c ∈ x.cps.toList, c < 128
theorem name_asc {x : Str} (h : isN (.str x) = true) : (1 ≤ x.length ∧ x.length ≤ 8 ∧ ∀ c ∈ tl x, 97 ≤ c ∧ c ≤ 122) := of_decide_eq_true h
theorem name_Asc {x : Str} (h : isN (.str x) = true) : Asc x := fun c hc => by have := (name_asc h).2.2 c hc; omega
theorem name_ps {x : Str} (h : isN (.str x) = true) : Ps (.str x) (.str x) := .str (by have := (name_asc h).2.1; omega) (name_Asc h)
theorem res_made {n o t : Str} {h d f g m : Int} (hn : isN (.str n) = true) (ho : isN (.str o) = true) (ht : isN (.str t) = true) (ne : o ≠ t) (bh : 1 ≤ h ∧ h ≤ 1000) (bd : 0 ≤ d ∧ d ≤ 1000) (bf : 0 ≤ f ∧ f ≤ 1000000)
    (bg : 0 ≤ g ∧ g ≤ 1000) (bm : f ≤ m ∧ m ≤ 1000000) : resC (.str n) (.str o) (.str t) (.int h) (.int d) (.int f) (.int g) (.int m) = .made := by
  have e : [V.str n, V.str o, V.str t].find? bad = none := by simp [bad, hn, ho, ht]
  have i1 : ∀ {lo hi i : Int}, lo ≤ i ∧ i ≤ hi → ¬ inB lo hi (.int i) = false := fun {lo hi i} z => by
    show ¬ (decide (lo ≤ i) && decide (i ≤ hi)) = false
    rw [decide_eq_true z.1, decide_eq_true z.2]; decide
  unfold resC
  rw [e]
  dsimp only
  rw [if_neg (fun z => ne (by injection z)), if_neg (i1 bh), if_neg (i1 bd), if_neg (i1 bf), if_neg (i1 bg), if_neg (show ¬ inV6 (.int f) (.int m) = false from i1 bm)]
theorem valV_neS {a b : String} {v : V} {r : List (Key × V)} (h : ¬ Str.ofString a = Str.ofString b) : valV ((Sum.inr (Str.ofString a), v) :: r) (Sum.inr (Str.ofString b)) = valV r (Sum.inr (Str.ofString b)) := valV_neg (fun z => h (by injection z))
theorem nu_first (N : IceN) (dc : Addr) : valV (dkN N dc) (Sum.inr (Str.ofString "first")) = some (.int N.first) := valV_pos rfl
theorem nu_growth (N : IceN) (dc : Addr) : valV (dkN N dc) (Sum.inr (Str.ofString "growth")) = some (.int N.growth) := by unfold dkN; rw [valV_neS (by decide +kernel)]; exact valV_pos rfl
theorem nu_most (N : IceN) (dc : Addr) : valV (dkN N dc) (Sum.inr (Str.ofString "most")) = some (.int N.most) := by unfold dkN; rw [valV_neS (by decide +kernel), valV_neS (by decide +kernel)]; exact valV_pos rfl
theorem nu_begin (N : IceN) (dc : Addr) : valV (dkN N dc) (Sum.inr (Str.ofString "begin")) = some (.int N.b) := by unfold dkN; rw [valV_neS (by decide +kernel), valV_neS (by decide +kernel), valV_neS (by decide +kernel)]; exact valV_pos rfl
theorem nu_cuts (N : IceN) (dc : Addr) : valV (dkN N dc) (Sum.inr (Str.ofString "cuts")) = some (.ref dc) := by unfold dkN; rw [valV_neS (by decide +kernel), valV_neS (by decide +kernel), valV_neS (by decide +kernel), valV_neS (by decide +kernel)]; exact valV_pos rfl
section
variable {P : Program} {w : World} {K : PySem.W.Frag} {mg : Str → Option Value} {base : Heap}
def spIce (T : Top K mg) : Sp := fun vs H Q _ => ∃ (p dc : Addr) (N : IceN), vs = [.ref p] ∧ H p = some (.dK (dkN N dc)) ∧ N.ok ∧ ∀ (x lb lp : Addr) (H' : Hp), Same H H' → H x = none → H lb = none → H lp = none → IceL T H' x N [] lb lp → Q (.ref x) H'
theorem ok_ice (T : Top K mg) : FnG P w K mg base CX0 6 T.a_ice T.d_ice ["_law_numbers_here"] (spIce T) := by
  have G_Channel___init__ := ok_Channel___init__ (P := P) (w := w) (base := base) T
  have G_Ice___init__ := ok_Ice___init__ (P := P) (w := w) (base := base) T
  refine okG T.F_ice sc_ice (fun vs H Q E h => ?_) (fun cdv A outer s H vs Q E hr hgd h => ?_)
  · obtain ⟨p, dc, N, rfl, _⟩ := h
    rfl
  · obtain ⟨p, dc, N, rfl, hp, ok, q⟩ := h
    have hu : _ := un1 hr
    have g0 := ok.g0; have g3 := ok.g3; have f0 := ok.f0; have fm := ok.fm; have m6 := ok.m6
    refine ⟨_, (pss_cons (ps_set (i := 1) sc_ice.nd rfl (by first | exact Or.inl rfl | exact Or.inr rfl) (g_make T.mk_Channel G_Channel___init__ (hr.mono (by decide)) hgd (by rfl) T.c_Channel T.b_Channel___init__ .nil passL (pa_cons pe_str (pa_cons pe_str (pa_cons pe_str (pa_cons pe_int (pa_cons pe_int (pa_cons (pe_dget hu (pv 0) pe_str (fun _ _ => rfl)) (pa_cons (pe_dget hu (pv 0) pe_str (fun _ _ => rfl)) (pa_cons (pe_dget hu (pv 0) pe_str (fun _ _ => rfl)) pa_nil))))))))))
      (pss_one (ps_ret (g_make T.mk_Ice G_Ice___init__ (hr.mono (by decide)) hgd (by rfl) T.c_Ice T.b_Ice___init__ .nil passL (pa_cons (pv 1) (pa_cons (pe_dget hu (pv 0) pe_str (fun _ _ => rfl)) pa_nil)))))), ?_⟩
    walk_at "rd"
    refine ⟨p, _, rfl, dgetS hp (nu_first N dc), ?_⟩
    walk_at "rd"
    refine ⟨p, _, rfl, dgetS hp (nu_growth N dc), ?_⟩
    walk_at "rd"
    refine ⟨p, _, rfl, dgetS hp (nu_most N dc), ?_⟩
    walk_at "rd"
    intro x dx hx hd ne
    refine ⟨x, dx, _, _, _, _, _, _, _, _, rfl, upd_same, ?_, ?_⟩
    · intro v hv
      simp only [List.mem_cons, List.not_mem_nil, or_false] at hv
      rcases hv with rfl | rfl | rfl | rfl | rfl | rfl | rfl | rfl
      all_goals first | exact int_th _ _ | exact .inl ⟨_, rfl, by decide +kernel⟩
    · rw [res_made (n := Str.ofString "way") (o := Str.ofString "a") (t := Str.ofString "b") (h := 3) (d := 4) (f := N.first) (g := N.growth) (m := N.most) (by decide +kernel) (by decide +kernel) (by decide +kernel) (by decide +kernel) ⟨by omega, by omega⟩ ⟨by omega, by omega⟩ ⟨f0, by omega⟩ ⟨g0, g3⟩ ⟨fm, m6⟩]
      intro H1 e1 kx
      have s1 : Same H H1 := made_same hx hd e1
      refine ⟨rfl, ?_⟩
      walk_at "rd"
      refine ⟨p, _, rfl, dgetS (s1 _ _ hp) (nu_begin N dc), ?_⟩
      walk_at "rd"
      intro y dy hy hdy ney
      refine ⟨y, dy, x, N, rfl, upd_same, ⟨dx, .str (Str.ofString "way"), .str (Str.ofString "a"), .str (Str.ofString "b"), .int 3, .int 4, ?_⟩, ok, fun H2 lb lp e2 flb flp ia => ?_⟩
      · rw [upd_ne (ne_of_none kx hy), upd_ne (ne_of_none kx hdy)]; exact kx
      · have s2 : Same H1 H2 := made_same hy hdy e2
        have sm : Same H1 (upd (upd H1 dy (HO.own y)) y (HO.ins T.a_Ice dy [])) := fun a o h => by rw [upd_ne (ne_of_none h hy), upd_ne (ne_of_none h hdy)]; exact h
        refine ⟨rfl, q y lb lp H2 (s1.trans s2) ?_ (none_back s1 (none_back sm flb)) (none_back s1 (none_back sm flp)) ia⟩
        cases hz : H y with
        | none => rfl
        | some o => have := s1 _ _ hz; rw [hy] at this; cases this
def spCut (T : Top K mg) : Sp := fun vs H Q _ => ∃ (b p dc : Addr) (N : IceN) (n : Nat), vs = [.ref b, .ref p] ∧ H p = some (.dK (dkN N dc)) ∧ p ≠ b ∧ N.ok ∧ Box H b n ∧ n ≤ 90000 ∧ ∀ (c : Int) (H' : Hp), But b H H' → Box H' b (n + 3) → 1 ≤ c → c ≤ 1000000 → Q (.int c) H'
theorem ok_cut (T : Top K mg) : FnG P w K mg base CX0 2 T.a_cut T.d_cut ["_law_box_here", "_law_numbers_here"] (spCut T) := by
  have G_take := ok_take (P := P) (w := w) (base := base) T
  refine okG T.F_cut sc_cut (fun vs H Q E h => ?_) (fun cdv A outer s H vs Q E hr hgd h => ?_)
  · obtain ⟨b, p, dc, N, n, rfl, _⟩ := h
    rfl
  · obtain ⟨b, p, dc, N, n, rfl, hp, npb, ok, hB, hn, q⟩ := h
    have hu : _ := un1 hr
    have f0 := ok.f0; have fm := ok.fm; have m6 := ok.m6
    refine ⟨_, (pss_one (ps_ret (pe_op op_add pe_int (pe_ix ix_list (pe_lst (pa_cons (g_call G_take (hr.mono (by decide)) hgd (by rfl) T.m_take T.F_take.kp T.b_take .nil pass0 (pa_cons (pv 0) (pa_cons pe_int pa_nil))) (pa_cons (g_call G_take (hr.mono (by decide)) hgd (by rfl) T.m_take T.F_take.kp T.b_take .nil pass0 (pa_cons (pv 0) (pa_cons pe_int pa_nil))) (pa_cons (pe_op op_fdivN (pe_dget hu (pv 1) pe_str (fun _ _ => rfl)) pe_int) (pa_cons (pe_op op_sub (pe_op op_pow pe_int pe_int) pe_int) pa_nil))))) (g_call G_take (hr.mono (by decide)) hgd (by rfl) T.m_take T.F_take.kp T.b_take .nil pass0 (pa_cons (pv 0) (pa_cons pe_int pa_nil))) (fun _ _ => rfl))))), ?_⟩
    walk_at "rd"
    refine ⟨b, 3, n, rfl, hB, by omega, by decide, by decide, fun d1 H1 d10 d11 e1 B1 => ?_⟩
    walk_at "rd"
    refine ⟨b, 12, n + 1, rfl, B1, by omega, by decide, by decide, fun d2 H2 d20 d21 e2 B2 => ?_⟩
    walk_at "rd"
    refine ⟨p, _, rfl, dgetS (e2 _ _ npb (e1 _ _ npb hp)) (nu_most N dc), ?_⟩
    walk_at "rd"
    (intro l hl; generalize el : upd _ l _ = J1; have N1 := New.of el hl; clear el hl)
    walk_at "rd"
    refine ⟨b, 4, n + 2, rfl, B2.nw N1, by omega, by decide, by decide, fun d3 H3 d30 d31 e3 B3 => ?_⟩
    obtain ⟨c, hc, ac⟩ := pick (ns := [d1, d2, N.most / 2, 999999]) d30 (by simpa using d31)
    rw [show ∀ i : Int, i.fdiv 2 = i / 2 from fun i => Int.fdiv_eq_ediv_of_nonneg _ (by decide)] at N1
    refine i_ixL (SqL.lst (e3 l _ (box_ne B2 N1.free) N1.at_)) ac ?_
    walk_at "rd"
    have cb : 0 ≤ c ∧ c ≤ 999999 := by
      simp only [List.mem_cons, List.not_mem_nil, or_false] at hc
      omega
    exact q _ _ (e1.trans (e2.trans (N1.but.trans e3))) (B3.mono (by omega)) (by omega) (by omega)
end

end Ice

set_option Elab.async false
set_option linter.all false
set_option maxRecDepth 100000
set_option maxHeartbeats 4000000
namespace Ice
open PySem PySem.Spec PyProof.Rows L2 TL
/-! side conditions, heaps, one step of a reading, and many -/
local macro_rules | `(tactic| walk_at "hp") => `(tactic| first | assumption | exact upd_same | exact New.at_ (by assumption) | (refine keepU ?_ (by assumption); walk_at "hp") | (refine New.app (by assumption) ?_; walk_at "hp") | (refine Same.app (by assumption) ?_; walk_at "hp") | (refine But.app (by assumption) (by assumption) ?_; walk_at "hp"))
local macro_rules | `(tactic| walk_at "sq") => `(tactic| first | assumption | exact SqL.lst (by walk_at "hp") | exact L2.Same.seq (New.same (by assumption)) (by assumption) | exact L2.Same.seq (by assumption) (by assumption))
local macro_rules | `(tactic| walk_at "len") => `(tactic| first | assumption | (simp only [List.length_cons, List.length_nil, List.length_append, List.length_map]; decide) | (refine Ice.sz_of ?_; simp only [List.length_cons, List.length_nil, List.length_append, List.length_map]; omega))
local macro_rules | `(tactic| walk_at "fresh") => `(tactic| (simp only [List.map_append, List.map_cons, List.map_nil, List.nil_append, List.cons_append]; decide +kernel))
local macro_rules | `(tactic| walk_at "sd") => `(tactic| first | assumption | (show _ ≠ _; omega) | exact Or.inl ⟨by omega, by omega⟩ | exact Or.inr ⟨by omega, by omega⟩ | exact ⟨by decide, by decide⟩ | exact ⟨by decide, by decide, by decide⟩ | exact ⟨by omega, by omega, by omega⟩)
/-! one step of a reading, and many -/
local macro_rules | `(tactic| walk_at "st") => `(tactic| first
  | with_reducible refine i_seq ?_
  | with_reducible refine i_if ?_
  | with_reducible refine i_next ?_
  | with_reducible refine i_ret ?_
  | with_reducible refine i_retN ?_
  | with_reducible refine i_drop ?_
  | with_reducible refine i_asg ?_
  | with_reducible refine i_gname ?_
  | with_reducible refine i_gsub ?_
  | ((with_reducible refine i_var (v := ?vv) ?hv ?_); (case hv => exact rfl))
  | with_reducible refine i_c ?_
  | with_reducible refine i_op ?_
  | with_reducible refine i_un ?_
  | with_reducible refine i_test ?_
  | with_reducible refine i_tB ?_
  | with_reducible refine i_and ?_
  | with_reducible refine i_or ?_
  | with_reducible refine i_not ?_
  | with_reducible refine i_andV ?_
  | with_reducible refine i_orV ?_
  | with_reducible refine i_notV ?_
  | with_reducible refine i_ifE ?_
  | with_reducible refine i_chain ?_
  | with_reducible refine i_bl ?_
  | with_reducible refine i_nil ?_
  | with_reducible refine i_cons ?_
  | with_reducible refine i_call ?_
  | with_reducible refine i_cb ?_
  | with_reducible refine i_rI0 ?_
  | with_reducible refine i_rU ?_
  | ((with_reducible refine i_rEq ?hs ?_); (case hs => exact rfl))
  | ((with_reducible refine i_rNe ?hs ?_); (case hs => exact rfl))
  | ((with_reducible refine i_rI ?hc ?_); (case hc => walk_at "sd"))
  | ((with_reducible refine i_ixL (xs := ?xs) (v := ?vv) ?hS ?he ?_); (case hS => walk_at "sq"); (case he => exact rfl))
  | ((with_reducible refine i_setL (xs := ?xs) (j := ?jj) ?hS ?he ?_); (case hS => walk_at "hp"); (case he => exact rfl))
  | with_reducible refine i_tup ?_
  | with_reducible refine i_lst ?_
  | with_reducible refine i_bm ?_
  | with_reducible refine i_bm0 ?_
  | with_reducible refine i_m1 ?_
  | with_reducible refine i_sl ?_
  | with_reducible refine i_nopart ?_
  | with_reducible refine i_part ?_
  | with_reducible refine i_int ?_
  | with_reducible refine i_str ?_
  | with_reducible refine i_for ?_
  | with_reducible refine i_yes ?_
  | ((with_reducible refine i_lenL (xs := ?xs) ?hS ?_); (case hS => walk_at "sq"))
  | ((with_reducible refine i_room ?hz ?_); (case hz => walk_at "len"))
  | with_reducible refine i_leT ?_
  | with_reducible refine i_notInS ?_
  | with_reducible refine i_inS ?_
  | with_reducible refine i_find ?_
  | with_reducible refine i_isB ?_
  | with_reducible refine i_max2 ?_
  | with_reducible refine i_min2 ?_
  | with_reducible exact trivial
  | with_reducible refine iteT ?_
  | with_reducible refine iteF ?_
  | with_reducible refine i_isstr ?_
  | with_reducible refine i_lc ?_
  | ((with_reducible refine i_cat (xs := ?xs) (zs := ?zs) ?ha ?hb ?hz ?_); (case ha => walk_at "hp"); (case hb => walk_at "hp"); (case hz => walk_at "len"))
  | ((with_reducible refine i_tyL (xs := ?xs) ?ha ?_); (case ha => walk_at "hp"))
  | with_reducible refine i_list ?_
  | with_reducible refine i_disp ?_
  | with_reducible refine i_pairs0 ?_
  | with_reducible refine i_pairs ?_
  | with_reducible refine i_newK ?_
  | with_reducible refine i_gcons ?_
  | with_reducible refine i_gnil ?_
  | with_reducible refine i_revL ?_
  | with_reducible refine i_rng1 ?_
  | ((with_reducible refine i_wipe ?hw ?_); (case hw => exact rfl))
  | with_reducible refine iteNT ?_
  | with_reducible refine iteNF ?_)
local macro_rules | `(tactic| walk_at "sx") => `(tactic| first
  | walk_at "st"
  | with_reducible refine i_kinit ?_
  | with_reducible refine i_ost ?_
  | with_reducible refine i_mkO ?_
  | with_reducible refine i_callE ?_
  | with_reducible refine i_makeE ?_
  | with_reducible refine i_xf ?_
  | with_reducible refine i_sfld ?_
  | with_reducible refine i_fld ?_
  | ((with_reducible refine i_ixT (xs := ?xs) (v := ?vv) ?hS ?he ?_); (case hS => exact SqT.tup (by walk_at "hp")); (case he => exact rfl))
  | with_reducible refine i_intB ?_
  | with_reducible refine i_runS ?_
  | with_reducible refine i_runN ?_
  | ((with_reducible refine i_xf1 (fs := ?ff) (v := ?vv) ?hx ?hl ?_); (case hx => walk_at "hp"); (case hl => exact rfl))
  | with_reducible refine i_methE ?_
  | with_reducible refine i_meth ?_
  | with_reducible refine i_make ?_
  | ((with_reducible refine i_obj (dx := ?dd) (fs := ?ff) ?hx ?hl ?_); (case hx => walk_at "hp"); (case hl => exact rfl))
  | ((with_reducible refine i_fld1 (C := ?CC) (dx := ?dd) (fs := ?ff) (v := ?vv) ?hx ?cl ?na ?hl ?_); (case hx => walk_at "hp"); (case cl => assumption); (case na => assumption); (case hl => exact rfl)))
local macro_rules | `(tactic| walk_at "sy") => `(tactic| first
  | walk_at "sx"
  | with_reducible refine i_dget ?_
  | with_reducible refine i_dget2 ?_
  | with_reducible refine i_dput ?_
  | with_reducible refine i_din ?_
  | ((with_reducible refine i_aug (x := ?vv) ?hx ?_); (case hx => exact rfl)))
local macro_rules | `(tactic| walk_at "rd") => `(tactic| repeat (walk_at "sy"))

/-- the law's dict of cuts -/
abbrev Cuts := List (Int × Addr × List Int)
def dcv (C : Cuts) : List (Key × V) := C.map fun z => (Sum.inl z.1, V.ref z.2.1)
structure CutsAt (H : Hp) (b : Int) (dc : Addr) (C : Cuts) : Prop where
  dk : H dc = some (.dK (dcv C))
  at_ : ∀ z ∈ C, H z.2.1 = some (.lst (z.2.2.map V.int))
  keys : (C.map (·.1)).Nodup
  addrs : (C.map (·.2.1)).Nodup
  full : ∀ z ∈ C, z.2.2 ≠ []
  bnd : ∀ z ∈ C, (b ≤ z.1 ∧ z.1 ≤ 100000000) ∧ ∀ c ∈ z.2.2, 1 ≤ c ∧ c ≤ 1000000
def flat (C : Cuts) : Brk := C.flatMap fun z => z.2.2.map fun c => (z.1, c)
theorem small_le {n : Nat} (h : n ≤ 1000) : n ≤ sizeLine := Nat.le_of_lt (small1000 h)
def look (C : Cuts) (k : Int) : List Int := match C with
  | [] => []
  | z :: r => if z.1 = k then z.2.2 else look r k
def flatK (C : Cuts) (ks : List Int) : Brk := ks.flatMap fun k => (look C k).map fun c => (k, c)
theorem look_mem {C : Cuts} (n : (C.map (·.1)).Nodup) {z : Int × Addr × List Int} (h : z ∈ C) : look C z.1 = z.2.2 := by
  induction C with
  | nil => cases h
  | cons y r ih =>
    obtain ⟨n1, n2⟩ := List.nodup_cons.mp n
    show (if y.1 = z.1 then y.2.2 else look r z.1) = z.2.2
    rcases List.mem_cons.mp h with e | e
    · subst e; rw [if_pos rfl]
    · rw [if_neg (fun e2 => n1 (List.mem_map.mpr ⟨z, e, e2.symm⟩)), ih n2 e]
theorem flatK_keys {C : Cuts} (n : (C.map (·.1)).Nodup) : flatK C (C.map (·.1)) = flat C := by
  unfold flatK flat
  rw [List.flatMap_map]
  have : ∀ D : Cuts, (∀ z ∈ D, z ∈ C) → (D.flatMap fun z => (look C z.1).map fun c => (z.1, c)) = D.flatMap fun z => z.2.2.map fun c => (z.1, c) := by
    intro D
    induction D with
    | nil => intro _; rfl
    | cons y r ih =>
      intro h
      rw [List.flatMap_cons, List.flatMap_cons, ih (fun z hz => h z (by simp [hz])), look_mem n (h y (by simp))]
  exact this C (fun z hz => hz)
theorem flatK_perm {C : Cuts} {ks ls : List Int} (p : ks.Perm ls) : (flatK C ks).Perm (flatK C ls) := p.flatMap_right _
theorem flatK_snoc (C : Cuts) (ks : List Int) (k : Int) : flatK C (ks ++ [k]) = flatK C ks ++ (look C k).map fun c => (k, c) := by
  unfold flatK
  rw [List.flatMap_append]; simp
theorem flatK_len {C : Cuts} {ks ls : List Int} (h : ks.Sublist ls) : (flatK C ks).length ≤ (flatK C ls).length := by
  unfold flatK
  induction h with
  | slnil => simp
  | cons a _ ih => rw [List.flatMap_cons, List.length_append]; omega
  | cons_cons a _ ih => rw [List.flatMap_cons, List.flatMap_cons, List.length_append, List.length_append]; omega
theorem valV_dcv {C : Cuts} {z : Int × Addr × List Int} (n : (C.map (·.1)).Nodup) (h : z ∈ C) : valV (dcv C) (Sum.inl z.1) = some (.ref z.2.1) := by
  induction C with
  | nil => cases h
  | cons y r ih =>
    obtain ⟨n1, n2⟩ := List.nodup_cons.mp n
    show valV ((Sum.inl y.1, V.ref y.2.1) :: dcv r) _ = _
    rcases List.mem_cons.mp h with e | e
    · subst e; rw [valV_pos rfl]
    · rw [valV_neg (fun e2 => n1 (List.mem_map.mpr ⟨z, e, by injection e2 with e2; exact e2.symm⟩)), ih n2 e]
/-- one hour more -/
theorem srt_snoc {B D : Brk} {k : Int} {ms : List Int} (s : SrtB B) (hb : ∀ z ∈ B, z.1 < k) (hd : D = ms.map fun c => (k, c)) (hm : ms.Pairwise (· ≤ ·)) : SrtB (B ++ D) := by
  subst hd
  unfold SrtB
  rw [List.pairwise_append]
  refine ⟨s, ?_, fun x hx y hy => ?_⟩
  · rw [List.pairwise_map]
    exact hm.imp fun h => .inr ⟨rfl, h⟩
  · obtain ⟨c, _, rfl⟩ := List.mem_map.mp hy
    exact .inl (hb x hx)
theorem PairsAt.app {H : Hp} {bs cs : List Addr} {B D : Brk} (p : PairsAt H bs B) (q : PairsAt H cs D) : PairsAt H (bs ++ cs) (B ++ D) := by
  refine ⟨by simp [p.1, q.1], fun i a z h1 h2 => ?_⟩
  by_cases hi : i < bs.length
  · rw [List.getElem?_append_left hi] at h1
    rw [List.getElem?_append_left (by rw [← p.1]; exact hi)] at h2
    exact p.2 i a z h1 h2
  · rw [List.getElem?_append_right (by omega)] at h1
    rw [List.getElem?_append_right (by rw [← p.1]; omega), ← p.1] at h2
    exact q.2 _ a z h1 h2

end Ice

set_option Elab.async false
set_option linter.all false
set_option maxRecDepth 100000
set_option maxHeartbeats 4000000
namespace Ice
open PySem PySem.Spec PyProof.Rows L2 TL
/-! side conditions, heaps, one step of a reading, and many -/
local macro_rules | `(tactic| walk_at "hp") => `(tactic| first | assumption | exact upd_same | exact New.at_ (by assumption) | (refine keepU ?_ (by assumption); walk_at "hp") | (refine New.app (by assumption) ?_; walk_at "hp") | (refine Same.app (by assumption) ?_; walk_at "hp") | (refine But.app (by assumption) (by assumption) ?_; walk_at "hp"))
local macro_rules | `(tactic| walk_at "sq") => `(tactic| first | assumption | exact SqL.lst (by walk_at "hp") | exact L2.Same.seq (New.same (by assumption)) (by assumption) | exact L2.Same.seq (by assumption) (by assumption))
local macro_rules | `(tactic| walk_at "len") => `(tactic| first | assumption | (simp only [List.length_cons, List.length_nil, List.length_append, List.length_map]; decide) | (refine Ice.sz_of ?_; simp only [List.length_cons, List.length_nil, List.length_append, List.length_map]; omega))
local macro_rules | `(tactic| walk_at "fresh") => `(tactic| (simp only [List.map_append, List.map_cons, List.map_nil, List.nil_append, List.cons_append]; decide +kernel))
local macro_rules | `(tactic| walk_at "sd") => `(tactic| first | assumption | (show _ ≠ _; omega) | exact Or.inl ⟨by omega, by omega⟩ | exact Or.inr ⟨by omega, by omega⟩ | exact ⟨by decide, by decide⟩ | exact ⟨by decide, by decide, by decide⟩ | exact ⟨by omega, by omega, by omega⟩)
/-! one step of a reading, and many -/
local macro_rules | `(tactic| walk_at "st") => `(tactic| first
  | with_reducible refine i_seq ?_
  | with_reducible refine i_if ?_
  | with_reducible refine i_next ?_
  | with_reducible refine i_ret ?_
  | with_reducible refine i_retN ?_
  | with_reducible refine i_drop ?_
  | with_reducible refine i_asg ?_
  | with_reducible refine i_gname ?_
  | with_reducible refine i_gsub ?_
  | ((with_reducible refine i_var (v := ?vv) ?hv ?_); (case hv => exact rfl))
  | with_reducible refine i_c ?_
  | with_reducible refine i_op ?_
  | with_reducible refine i_un ?_
  | with_reducible refine i_test ?_
  | with_reducible refine i_tB ?_
  | with_reducible refine i_and ?_
  | with_reducible refine i_or ?_
  | with_reducible refine i_not ?_
  | with_reducible refine i_andV ?_
  | with_reducible refine i_orV ?_
  | with_reducible refine i_notV ?_
  | with_reducible refine i_ifE ?_
  | with_reducible refine i_chain ?_
  | with_reducible refine i_bl ?_
  | with_reducible refine i_nil ?_
  | with_reducible refine i_cons ?_
  | with_reducible refine i_call ?_
  | with_reducible refine i_cb ?_
  | with_reducible refine i_rI0 ?_
  | with_reducible refine i_rU ?_
  | ((with_reducible refine i_rEq ?hs ?_); (case hs => exact rfl))
  | ((with_reducible refine i_rNe ?hs ?_); (case hs => exact rfl))
  | ((with_reducible refine i_rI ?hc ?_); (case hc => walk_at "sd"))
  | ((with_reducible refine i_ixL (xs := ?xs) (v := ?vv) ?hS ?he ?_); (case hS => walk_at "sq"); (case he => exact rfl))
  | ((with_reducible refine i_setL (xs := ?xs) (j := ?jj) ?hS ?he ?_); (case hS => walk_at "hp"); (case he => exact rfl))
  | with_reducible refine i_tup ?_
  | with_reducible refine i_lst ?_
  | with_reducible refine i_bm ?_
  | with_reducible refine i_bm0 ?_
  | with_reducible refine i_m1 ?_
  | with_reducible refine i_sl ?_
  | with_reducible refine i_nopart ?_
  | with_reducible refine i_part ?_
  | with_reducible refine i_int ?_
  | with_reducible refine i_str ?_
  | with_reducible refine i_for ?_
  | with_reducible refine i_yes ?_
  | ((with_reducible refine i_lenL (xs := ?xs) ?hS ?_); (case hS => walk_at "sq"))
  | ((with_reducible refine i_room ?hz ?_); (case hz => walk_at "len"))
  | with_reducible refine i_leT ?_
  | with_reducible refine i_notInS ?_
  | with_reducible refine i_inS ?_
  | with_reducible refine i_find ?_
  | with_reducible refine i_isB ?_
  | with_reducible refine i_max2 ?_
  | with_reducible refine i_min2 ?_
  | with_reducible exact trivial
  | with_reducible refine iteT ?_
  | with_reducible refine iteF ?_
  | with_reducible refine i_isstr ?_
  | with_reducible refine i_lc ?_
  | ((with_reducible refine i_cat (xs := ?xs) (zs := ?zs) ?ha ?hb ?hz ?_); (case ha => walk_at "hp"); (case hb => walk_at "hp"); (case hz => walk_at "len"))
  | ((with_reducible refine i_tyL (xs := ?xs) ?ha ?_); (case ha => walk_at "hp"))
  | with_reducible refine i_list ?_
  | with_reducible refine i_disp ?_
  | with_reducible refine i_pairs0 ?_
  | with_reducible refine i_pairs ?_
  | with_reducible refine i_newK ?_
  | with_reducible refine i_gcons ?_
  | with_reducible refine i_gnil ?_
  | with_reducible refine i_revL ?_
  | with_reducible refine i_rng1 ?_
  | ((with_reducible refine i_wipe ?hw ?_); (case hw => exact rfl))
  | with_reducible refine iteNT ?_
  | with_reducible refine iteNF ?_)
local macro_rules | `(tactic| walk_at "sx") => `(tactic| first
  | walk_at "st"
  | with_reducible refine i_kinit ?_
  | with_reducible refine i_ost ?_
  | with_reducible refine i_mkO ?_
  | with_reducible refine i_callE ?_
  | with_reducible refine i_makeE ?_
  | with_reducible refine i_xf ?_
  | with_reducible refine i_sfld ?_
  | with_reducible refine i_fld ?_
  | ((with_reducible refine i_ixT (xs := ?xs) (v := ?vv) ?hS ?he ?_); (case hS => exact SqT.tup (by walk_at "hp")); (case he => exact rfl))
  | with_reducible refine i_intB ?_
  | with_reducible refine i_runS ?_
  | with_reducible refine i_runN ?_
  | ((with_reducible refine i_xf1 (fs := ?ff) (v := ?vv) ?hx ?hl ?_); (case hx => walk_at "hp"); (case hl => exact rfl))
  | with_reducible refine i_methE ?_
  | with_reducible refine i_meth ?_
  | with_reducible refine i_make ?_
  | ((with_reducible refine i_obj (dx := ?dd) (fs := ?ff) ?hx ?hl ?_); (case hx => walk_at "hp"); (case hl => exact rfl))
  | ((with_reducible refine i_fld1 (C := ?CC) (dx := ?dd) (fs := ?ff) (v := ?vv) ?hx ?cl ?na ?hl ?_); (case hx => walk_at "hp"); (case cl => assumption); (case na => assumption); (case hl => exact rfl)))
local macro_rules | `(tactic| walk_at "sy") => `(tactic| first
  | walk_at "sx"
  | with_reducible refine i_dget ?_
  | with_reducible refine i_dget2 ?_
  | with_reducible refine i_dput ?_
  | with_reducible refine i_din ?_
  | ((with_reducible refine i_aug (x := ?vv) ?hx ?_); (case hx => exact rfl)))
local macro_rules | `(tactic| walk_at "rd") => `(tactic| repeat (walk_at "sy"))

theorem lastOr_snoc (o : Option (Int × Int)) (P : Pcs) (z : Int × Int × Int) : lastOr o (P ++ [z]) = some (z.1, z.2.2) := by unfold lastOr; rw [List.getLast?_concat]
theorem i_par {i j : Nat} {ta : TA} {D : Ends} {σ : L2.St} {H : Hp} (h : ta σ H fun vs H1 => ∃ v w, vs = [v, w] ∧ D.nx ((σ.set i (some v)).set j (some w)) H1) : tPar i j ta D σ H := h
def sumsK (C : Cuts) (ks : List Int) : Brk := ks.map fun k => (k, (look C k).sum)
def stOf (P : Pcs) (st : Int × Int) (h : Int) : Int × Int := P.foldl (fun st z => if z.1 < h then (z.1, z.2.2) else st) st
def atOf (N : IceN) (P : Pcs) (st : Int × Int) (h : Int) : Int × Int := match P.find? (fun z => decide (z.1 = h)) with
  | some z => z.2
  | none => (grown N (stOf P st h).2 (h - (stOf P st h).1), grown N (stOf P st h).2 (h - (stOf P st h).1))
theorem find_snoc {P : Pcs} {i : Nat} {h : Int} {z : Int × Int × Int} (hz : P[i]? = some z) (f : (P.take i).find? (fun z => decide (z.1 = h)) = none) : (z.1 = h → P.find? (fun z => decide (z.1 = h)) = some z) ∧ (¬ z.1 = h → (P.take (i + 1)).find? (fun z => decide (z.1 = h)) = none) := by
  refine ⟨fun e => ?_, fun e => ?_⟩
  · have e2 : P = P.take i ++ z :: P.drop (i + 1) := by
      have hl := List.getElem?_eq_some_iff.mp hz
      rw [← hl.2, ← List.drop_eq_getElem_cons hl.1, List.take_append_drop]
    rw [e2, List.find?_append, f, List.find?_cons, decide_eq_true e]; rfl
  · rw [take_succ_of hz, List.find?_append, f, List.find?_cons, decide_eq_false e]; rfl
theorem st_snoc {P : Pcs} {i : Nat} {h : Int} {st : Int × Int} {z : Int × Int × Int} (hz : P[i]? = some z) : stOf (P.take (i + 1)) st h = if z.1 < h then (z.1, z.2.2) else stOf (P.take i) st h := by
  unfold stOf
  rw [take_succ_of hz, List.foldl_append]; rfl
theorem TripsAt.get' {H : Hp} {bs : List Addr} {B : Pcs} (p : TripsAt H bs B) {i : Nat} {v : V} (h : (rf bs)[i]? = some v) : ∃ a z, v = .ref a ∧ B[i]? = some z ∧ H a = some (.tup [.int z.1, .int z.2.1, .int z.2.2]) := by
  obtain ⟨a, ha, rfl⟩ := rf_get h
  have lt : i < B.length := by rw [← p.1]; exact (List.getElem?_eq_some_iff.mp ha).1
  exact ⟨a, B[i], rfl, List.getElem?_eq_getElem lt, p.2 i a _ ha (List.getElem?_eq_getElem lt)⟩
def putC : Cuts → Int → Addr → List Int → Cuts
  | [], h, l, ms => [(h, l, ms)]
  | z :: r, h, l, ms => if z.1 = h then (h, l, ms) :: r else z :: putC r h l ms
theorem putC_keys {C : Cuts} {h : Int} {l : Addr} {ms : List Int} : ∀ k, k ∈ (putC C h l ms).map (·.1) ↔ k = h ∨ k ∈ C.map (·.1) := by
  induction C with
  | nil => intro k; simp [putC]
  | cons z r ih =>
    intro k
    by_cases e : z.1 = h
    · rw [show putC (z :: r) h l ms = (h, l, ms) :: r from if_pos e]
      simp only [List.map_cons, List.mem_cons, e]
      constructor
      · rintro (h | h); exact .inl h; exact .inr (.inr h)
      · rintro (h | h | h); exact .inl h; exact .inl h; exact .inr h
    · rw [show putC (z :: r) h l ms = z :: putC r h l ms from if_neg e]
      simp only [List.map_cons, List.mem_cons, ih]
      constructor
      · rintro (h | h | h); exact .inr (.inl h); exact .inl h; exact .inr (.inr h)
      · rintro (h | h | h); exact .inr (.inl h); exact .inl h; exact .inr (.inr h)
theorem putC_nodup {C : Cuts} {h : Int} {l : Addr} {ms : List Int} (n : (C.map (·.1)).Nodup) : ((putC C h l ms).map (·.1)).Nodup := by
  induction C with
  | nil => simp [putC]
  | cons z r ih =>
    obtain ⟨n1, n2⟩ := List.nodup_cons.mp n
    by_cases e : z.1 = h
    · rw [show putC (z :: r) h l ms = (h, l, ms) :: r from if_pos e]
      exact List.nodup_cons.mpr ⟨by rw [← e]; exact n1, n2⟩
    · rw [show putC (z :: r) h l ms = z :: putC r h l ms from if_neg e]
      refine List.nodup_cons.mpr ⟨fun m => ?_, ih n2⟩
      rcases (putC_keys _).mp m with m | m
      · exact e m
      · exact n1 m
theorem putC_mem {C : Cuts} {h : Int} {l : Addr} {ms : List Int} : ∀ z ∈ putC C h l ms, z = (h, l, ms) ∨ z ∈ C := by
  induction C with
  | nil => intro z hz; exact .inl (by simpa [putC] using hz)
  | cons y r ih =>
    intro z hz
    by_cases e : y.1 = h
    · rw [show putC (y :: r) h l ms = (h, l, ms) :: r from if_pos e] at hz
      rcases List.mem_cons.mp hz with m | m
      · exact .inl m
      · exact .inr (by simp [m])
    · rw [show putC (y :: r) h l ms = y :: putC r h l ms from if_neg e] at hz
      rcases List.mem_cons.mp hz with m | m
      · exact .inr (by simp [m])
      · rcases ih z m with m | m
        · exact .inl m
        · exact .inr (by simp [m])
theorem putC_addrs {C : Cuts} {h : Int} {l : Addr} {ms : List Int} (n : (C.map (·.2.1)).Nodup) (f : ∀ z ∈ C, z.2.1 ≠ l) : ((putC C h l ms).map (·.2.1)).Nodup := by
  induction C with
  | nil => simp [putC]
  | cons z r ih =>
    obtain ⟨n1, n2⟩ := List.nodup_cons.mp n
    by_cases e : z.1 = h
    · rw [show putC (z :: r) h l ms = (h, l, ms) :: r from if_pos e]
      refine List.nodup_cons.mpr ⟨fun m => ?_, n2⟩
      obtain ⟨y, hy, e2⟩ := List.mem_map.mp m
      exact f y (by simp [hy]) e2
    · rw [show putC (z :: r) h l ms = z :: putC r h l ms from if_neg e]
      refine List.nodup_cons.mpr ⟨fun m => ?_, ih n2 (fun y hy => f y (by simp [hy]))⟩
      obtain ⟨y, hy, e2⟩ := List.mem_map.mp m
      rcases putC_mem y hy with rfl | hy
      · exact f z (by simp) e2.symm
      · exact n1 (List.mem_map.mpr ⟨y, hy, e2⟩)
theorem putK_dcv {C : Cuts} {h : Int} {l : Addr} {ms : List Int} (n : (C.map (·.1)).Nodup) : putK (dcv C) (Sum.inl h) (.ref l) = dcv (putC C h l ms) := by
  induction C with
  | nil => rfl
  | cons z r ih =>
    obtain ⟨n1, n2⟩ := List.nodup_cons.mp n
    show putK ((Sum.inl z.1, V.ref z.2.1) :: dcv r) (Sum.inl h) (.ref l) = _
    by_cases e : z.1 = h
    · rw [show putC (z :: r) h l ms = (h, l, ms) :: r from if_pos e, putK_eq (by rw [e])]
      · rfl
      · intro q hq hk
        obtain ⟨y, hy, rfl⟩ := List.mem_map.mp hq
        exact n1 (List.mem_map.mpr ⟨y, hy, by injection hk with hk; exact hk.trans e.symm⟩)
    · rw [show putC (z :: r) h l ms = z :: putC r h l ms from if_neg e, putK_ne (fun z => e (by injection z)), ih n2]
      rfl
theorem look_none {C : Cuts} {h : Int} (n : ¬ h ∈ C.map (·.1)) : look C h = [] := by
  induction C with
  | nil => rfl
  | cons z r ih =>
    show (if z.1 = h then z.2.2 else look r h) = []
    rw [if_neg (fun e => n (List.mem_map.mpr ⟨z, by simp, e⟩)), ih (fun m => n (by simp only [List.map_cons, List.mem_cons]; exact .inr m))]
theorem flat_put {C : Cuts} {h c : Int} {l : Addr} : (flat (putC C h l (look C h ++ [c]))).Perm ((h, c) :: flat C) := by
  induction C with
  | nil => exact .refl _
  | cons z r ih =>
    by_cases e : z.1 = h
    · rw [show putC (z :: r) h l (look (z :: r) h ++ [c]) = (h, l, look (z :: r) h ++ [c]) :: r from if_pos e, show look (z :: r) h = z.2.2 from if_pos e]
      unfold flat
      rw [List.flatMap_cons, List.flatMap_cons, List.map_append, ← e, List.append_assoc]
      exact List.perm_middle
    · rw [show putC (z :: r) h l (look (z :: r) h ++ [c]) = z :: putC r h l (look (z :: r) h ++ [c]) from if_neg e, show look (z :: r) h = look r h from if_neg e]
      unfold flat at ih ⊢
      rw [List.flatMap_cons, List.flatMap_cons]
      exact (ih.append_left _).trans List.perm_middle
theorem cuts_len {C : Cuts} (f : ∀ z ∈ C, z.2.2 ≠ []) : C.length ≤ (flat C).length := by
  induction C with
  | nil => simp
  | cons z r ih =>
    unfold flat at ih ⊢
    rw [List.flatMap_cons, List.length_append, List.length_map, List.length_cons]
    have h1 := ih (fun y hy => f y (by simp [hy]))
    have h2 : 0 < z.2.2.length := List.length_pos_iff.mpr (f z (by simp))
    omega
section
variable {P : Program} {w : World} {K : PySem.W.Frag} {mg : Str → Option Value} {base : Heap}
/-- an Ice and the law's numbers of it, alike -/
structure Alike (T : Top K mg) (H : Hp) (p x : Addr) (N : IceN) (dc : Addr) (C : Cuts) (B : Brk) : Prop where
  dn : H p = some (.dK (dkN N dc))
  ok : N.ok
  cuts : CutsAt H N.b dc C
  ice : IceA T H x N B
  good : BGood N.b B
  perm : B.Perm (flat C)
theorem CutsAt.same {H H' : Hp} {b : Int} {dc : Addr} {C : Cuts} (h : CutsAt H b dc C) (e : Same H H') : CutsAt H' b dc C := ⟨e _ _ h.dk, fun z hz => e _ _ (h.at_ z hz), h.keys, h.addrs, h.full, h.bnd⟩
/-- but b, x, the dict of cuts and its lists -/
def Keeps (b x dc : Addr) (C : Cuts) (H H' : Hp) : Prop := ∀ a o, a ≠ b → a ≠ x → a ≠ dc → (∀ z ∈ C, a ≠ z.2.1) → H a = some o → H' a = some o
theorem IceA.but {T : Top K mg} {H H' : Hp} {x y dy : Addr} {fy : List (Str × V)} {N : IceN} {B : Brk} (i : IceA T H x N B) (hy : H y = some (.ins T.a_Ice dy fy)) (ne : x ≠ y) (c : ∀ ch, ChA T H ch N → ChA T H' ch N) (e : But y H H') : IceA T H' x N B := by
  obtain ⟨dx, ch, lb, lp, bs, ps, hx, hc, hlb, pB, hlp, tP⟩ := i
  exact ⟨dx, ch, lb, lp, bs, ps, e _ _ ne hx, c ch hc, e _ _ (ne_of hlb hy (by intro z; cases z)) hlb, pB.keep (keepT_but hy (fun xs => nofun) e), e _ _ (ne_of hlp hy (by intro z; cases z)) hlp, tP.keep (keepT_but hy (fun xs => nofun) e)⟩
theorem IceA.same {T : Top K mg} {H H' : Hp} {x : Addr} {N : IceN} {B : Brk} (i : IceA T H x N B) (e : Same H H') : IceA T H' x N B := by
  obtain ⟨dx, ch, lb, lp, bs, ps, hx, hc, hlb, pB, hlp, tP⟩ := i
  exact ⟨dx, ch, lb, lp, bs, ps, e _ _ hx, hc.same e, e _ _ hlb, pB.keep (keepT_same e), e _ _ hlp, tP.keep (keepT_same e)⟩
/-- the box moves on -/
theorem box_off {H : Hp} {b : Addr} {n : Nat} (B : Box H b n) {a : Addr} {o : HO} (h : H a = some o) (ho : ∀ i j k : Int, o ≠ .lst [.int i, .int j, .int k]) : a ≠ b := by
  obtain ⟨i, j, k, hb, _⟩ := B
  exact ne_of h hb (ho i j k)
theorem rf_no3 {bs : List Addr} {i j k : Int} : HO.lst (rf bs) ≠ .lst [.int i, .int j, .int k] := by
  intro z
  injection z with z
  cases bs with
  | nil => cases z
  | cons b r => injection z with z _; cases z
theorem IceA.box {T : Top K mg} {H H' : Hp} {x b : Addr} {n : Nat} {N : IceN} {B : Brk} (i : IceA T H x N B) (hb : Box H b n) (e : But b H H') : IceA T H' x N B := by
  obtain ⟨dx, ch, lb, lp, bs, ps, hx, ⟨dch, n', o, t, h, d, hcc⟩, hlb, pB, hlp, tP⟩ := i
  have kt : ∀ a xs, H a = some (.tup xs) → H' a = some (.tup xs) := fun a xs h => e a _ (box_off hb h (fun _ _ _ z => by cases z)) h
  exact ⟨dx, ch, lb, lp, bs, ps, e _ _ (box_off hb hx (fun _ _ _ z => by cases z)) hx, ⟨dch, n', o, t, h, d, e _ _ (box_off hb hcc (fun _ _ _ z => by cases z)) hcc⟩, e _ _ (box_off hb hlb (fun _ _ _ => rf_no3)) hlb, pB.keep kt, e _ _ (box_off hb hlp (fun _ _ _ => rf_no3)) hlp, tP.keep kt⟩
theorem CutsAt.box {H H' : Hp} {b dc : Addr} {n : Nat} {lo : Int} {C : Cuts} (h : CutsAt H lo dc C) (hb : Box H b n) (off : ∀ z ∈ C, z.2.1 ≠ b) (e : But b H H') : CutsAt H' lo dc C := ⟨e _ _ (box_off hb h.dk (fun _ _ _ z => by cases z)) h.dk, fun z hz => e _ _ (off z hz) (h.at_ z hz), h.keys, h.addrs, h.full, h.bnd⟩
theorem Alike.box {T : Top K mg} {H H' : Hp} {p x b dc : Addr} {n : Nat} {N : IceN} {C : Cuts} {B : Brk} (a : Alike T H p x N dc C B) (hb : Box H b n) (off : ∀ z ∈ C, z.2.1 ≠ b) (e : But b H H') : Alike T H' p x N dc C B := ⟨e _ _ (box_off hb a.dn (fun _ _ _ z => by cases z)) a.dn, a.ok, a.cuts.box hb off e, a.ice.box hb e, a.good, a.perm⟩
theorem Alike.same {T : Top K mg} {H H' : Hp} {p x dc : Addr} {N : IceN} {C : Cuts} {B : Brk} (a : Alike T H p x N dc C B) (e : Same H H') : Alike T H' p x N dc C B := ⟨e _ _ a.dn, a.ok, a.cuts.same e, a.ice.same e, a.good, a.perm⟩
/-- a cut more -/
theorem CutsAt.put {H H' : Hp} {b h c : Int} {dc l : Addr} {C : Cuts} (k : CutsAt H b dc C) (hl : H l = none) (hb : b ≤ h ∧ h ≤ 100000000) (hc : 1 ≤ c ∧ c ≤ 1000000) (e : But dc H H') (kl : H' l = some (.lst ((look C h ++ [c]).map V.int))) (kd : H' dc = some (.dK (putK (dcv C) (Sum.inl h) (.ref l)))) (nd : ∀ z ∈ C, z.2.1 ≠ dc) : CutsAt H' b dc (putC C h l (look C h ++ [c])) := by
  have f : ∀ z ∈ C, z.2.1 ≠ l := fun z hz e2 => by have := k.at_ z hz; rw [e2, hl] at this; cases this
  have lk : ∀ y ∈ look C h, 1 ≤ y ∧ y ≤ 1000000 := by
    intro y hy
    by_cases m : h ∈ C.map (·.1)
    · obtain ⟨z, hz, rfl⟩ := List.mem_map.mp m
      rw [look_mem k.keys hz] at hy
      exact (k.bnd z hz).2 y hy
    · rw [look_none m] at hy; cases hy
  refine ⟨by rw [kd, putK_dcv k.keys], fun z hz => ?_, putC_nodup k.keys, putC_addrs k.addrs f, fun z hz => ?_, fun z hz => ?_⟩
  · rcases putC_mem z hz with rfl | m
    · exact kl
    · exact e _ _ (nd z m) (k.at_ z m)
  · rcases putC_mem z hz with rfl | m
    · simp
    · exact k.full z m
  · rcases putC_mem z hz with rfl | m
    · refine ⟨hb, fun y hy => ?_⟩
      rcases List.mem_append.mp hy with m | m
      · exact lk y m
      · have : y = c := by simpa using m
        subst this; exact hc
    · exact k.bnd z m
end
/-! the levels of an hour, read in rows and in pieces -/
theorem at_rise {P : Pcs} (r : (P.map (·.1)).Pairwise (· < ·)) {i : Nat} {z : Int × Int × Int} {h : Int} (a : AtP P h i) (hz : P[i]? = some z) : ∀ (N : IceN) (st : Int × Int), atOf N P st h = if z.1 = h then z.2 else (grown N z.2.2 (h - z.1), grown N z.2.2 (h - z.1)) := by
  intro N st
  have lz : z.1 ≤ h := by
    obtain ⟨⟨y, hy, ly⟩, _⟩ := a
    rw [hz] at hy; cases hy; exact ly
  have hlt : i < P.length := (List.getElem?_eq_some_iff.mp hz).1
  have split : P = P.take i ++ z :: P.drop (i + 1) := by
    have hl := List.getElem?_eq_some_iff.mp hz
    rw [← hl.2, ← List.drop_eq_getElem_cons hl.1, List.take_append_drop]
  have low : ∀ y ∈ P.take i, y.1 < z.1 := by
    intro y hy
    obtain ⟨m, hm, em⟩ := List.getElem_of_mem hy
    rw [List.length_take] at hm
    rw [List.getElem_take] at em
    exact rise_lt r (i := m) (j := i) (by omega) (by rw [← em]; exact List.getElem?_eq_getElem (by omega)) hz
  have high : ∀ y ∈ P.drop (i + 1), h < y.1 := by
    intro y hy
    obtain ⟨m, hm, em⟩ := List.getElem_of_mem hy
    rw [List.length_drop] at hm
    rw [List.getElem_drop] at em
    exact a.2 (i + 1 + m) y (by omega) (by rw [← em]; exact List.getElem?_eq_getElem (by omega))
  have f0 : (P.take i).find? (fun z => decide (z.1 = h)) = none := by
    rw [List.find?_eq_none]
    intro y hy
    have := low y hy
    simp; omega
  have f1 : (P.drop (i + 1)).find? (fun z => decide (z.1 = h)) = none := by
    rw [List.find?_eq_none]
    intro y hy
    have := high y hy
    simp; omega
  unfold atOf
  by_cases e : z.1 = h
  · rw [if_pos e]
    have : P.find? (fun z => decide (z.1 = h)) = some z := by rw [split, List.find?_append, f0, List.find?_cons, decide_eq_true e]; rfl
    rw [this]
  · rw [if_neg e]
    have : P.find? (fun z => decide (z.1 = h)) = none := by rw [split, List.find?_append, f0, List.find?_cons, decide_eq_false e]; exact f1
    rw [this]
    have s : stOf P st h = (z.1, z.2.2) := by
      have keep : ∀ (D : Pcs) (s : Int × Int), (∀ y ∈ D, h < y.1) → stOf D s h = s := by
        intro D
        induction D with
        | nil => intro s _; rfl
        | cons y q ih =>
          intro s hd
          show stOf q (if y.1 < h then (y.1, y.2.2) else s) h = s
          rw [if_neg (by have := hd y (by simp); omega)]
          exact ih s (fun u hu => hd u (by simp [hu]))
      rw [split]
      unfold stOf
      rw [List.foldl_append, List.foldl_cons, if_pos (by omega)]
      exact keep _ _ high
    rw [s]
theorem at_cons {N : IceN} {R : Pcs} {st : Int × Int} {h : Int} (hb : N.b ≤ h) (fm : N.first ≤ N.most) (r : ∀ y ∈ R, N.b < y.1) : atOf N ((N.b, N.first, N.first) :: R) st h = atOf N R (N.b, N.first) h := by
  by_cases e : N.b = h
  · have f : R.find? (fun z => decide (z.1 = h)) = none := by
      rw [List.find?_eq_none]
      intro y hy
      have := r y hy
      simp; omega
    have keep : ∀ (D : Pcs) (s : Int × Int), (∀ y ∈ D, N.b < y.1) → stOf D s h = s := by
      intro D
      induction D with
      | nil => intro s _; rfl
      | cons y q ih =>
        intro s hd
        show stOf q (if y.1 < h then (y.1, y.2.2) else s) h = s
        rw [if_neg (by have := hd y (by simp); omega)]
        exact ih s (fun u hu => hd u (by simp [hu]))
    unfold atOf
    rw [List.find?_cons, decide_eq_true e, f, keep R _ r]
    show (N.first, N.first) = (grown N N.first (h - N.b), grown N N.first (h - N.b))
    rw [show h - N.b = 0 by omega, grown_zero fm]
  · unfold atOf
    rw [List.find?_cons, decide_eq_false e]
    have : stOf ((N.b, N.first, N.first) :: R) st h = stOf R (N.b, N.first) h := by
      show stOf R (if N.b < h then (N.b, N.first) else st) h = _
      rw [if_pos (by omega)]
    rw [this]
/-- what stands in rows is small -/
structure RowBnd (N : IceN) (z : Int × Int × Int) : Prop where
  a0 : N.b ≤ z.1
  a1 : z.1 ≤ 100000000
  b0 : -(10 ^ 12) ≤ z.2.1
  b1 : z.2.1 ≤ N.most
  c0 : 0 ≤ z.2.2
  c1 : z.2.2 ≤ N.most
theorem pcs_bnd {N : IceN} (ok : N.ok) : ∀ (S : Brk) (s b : Int), N.b ≤ s → s ≤ 100000000 → 0 ≤ b → b ≤ N.most → (∀ y ∈ S, N.b ≤ y.1 ∧ y.1 ≤ 100000000 ∧ 0 ≤ y.2) → ∀ z ∈ pcs N (some (s, b)) S, RowBnd N z
  | [], _, _, _, _, _, _, _, z, hz => by cases hz
  | (h, c) :: r, s, b, s0, s1, b0, b1, hS, z, hz => by
    have m6 := ok.m6; have g0 := ok.g0; have g3 := ok.g3; have n0 := ok.b0; have f0 := ok.f0; have fm := ok.fm
    obtain ⟨h0, h1, c0⟩ := hS (h, c) (by simp)
    have a1 : grown N b (h - s) ≤ N.most := grown_le
    have a0 : -(10 ^ 12) ≤ grown N b (h - s) := by
      have m1 : -(100000000000) ≤ N.growth * (h - s) := by
        rcases Int.le_total 0 (h - s) with k | k
        · have := Int.mul_nonneg g0 k; omega
        · have k2 : N.growth * (s - h) ≤ 1000 * (s - h) := Int.mul_le_mul_of_nonneg_right g3 (by omega)
          have k3 : N.growth * (h - s) = -(N.growth * (s - h)) := by rw [← Int.mul_neg]; congr 1; omega
          have h0' : N.b ≤ h := h0
          omega
      unfold grown
      split <;> omega
    have e : pcs N (some (s, b)) ((h, c) :: r) = (h, grown N b (h - s), if grown N b (h - s) - c > 0 then grown N b (h - s) - c else 0) :: pcs N (some (h, if grown N b (h - s) - c > 0 then grown N b (h - s) - c else 0)) r := rfl
    rw [e] at hz
    have d0 : 0 ≤ (if grown N b (h - s) - c > 0 then grown N b (h - s) - c else 0) ∧ (if grown N b (h - s) - c > 0 then grown N b (h - s) - c else 0) ≤ N.most := by
      have c0' : 0 ≤ c := c0
      split <;> omega
    rcases List.mem_cons.mp hz with rfl | hz
    · exact ⟨h0, h1, a0, a1, d0.1, d0.2⟩
    · exact pcs_bnd ok r h _ h0 h1 d0.1 d0.2 (fun y hy => hS y (by simp [hy])) z hz
theorem lookC_addC (C : Brk) (h c k : Int) : lookC (addC C h c) k = if k = h then some ((lookC C h).getD 0 + c) else lookC C k := by
  induction C with
  | nil =>
    show (if h = k then some c else none) = _
    by_cases e : k = h
    · rw [if_pos e.symm, if_pos e]; show some c = some (0 + c); rw [Int.zero_add]
    · rw [if_neg (fun z => e z.symm), if_neg e]; rfl
  | cons z r ih =>
    obtain ⟨a, v⟩ := z
    show lookC (if a = h then (a, v + c) :: r else (a, v) :: addC r h c) k = if k = h then some ((if a = h then some v else lookC r h).getD 0 + c) else (if a = k then some v else lookC r k)
    by_cases e : a = h
    · rw [if_pos e, if_pos e]
      show (if a = k then some (v + c) else lookC r k) = _
      by_cases e2 : k = h
      · rw [if_pos (e.trans e2.symm), if_pos e2]; rfl
      · rw [if_neg (fun z => e2 (by rw [← z, e])), if_neg e2, if_neg (fun z => e2 (by rw [← z, e]))]
    · rw [if_neg e, if_neg e]
      show (if a = k then some v else lookC (addC r h c) k) = _
      rw [ih]
      by_cases e2 : k = h
      · rw [if_pos e2, if_pos e2, if_neg (fun z => e (z.trans e2))]
      · rw [if_neg e2, if_neg e2]
def sumAt (B : Brk) (k : Int) : Int := ((B.filter fun z => decide (z.1 = k)).map (·.2)).sum
theorem sumAt_cons (z : Int × Int) (B : Brk) (k : Int) : sumAt (z :: B) k = (if z.1 = k then z.2 else 0) + sumAt B k := by
  unfold sumAt
  rw [List.filter_cons]
  by_cases e : z.1 = k
  · rw [decide_eq_true e, if_pos rfl, if_pos e]; rfl
  · rw [decide_eq_false e, if_neg (by decide), if_neg e, Int.zero_add]
theorem sumAt_perm {B D : Brk} (p : B.Perm D) (k : Int) : sumAt B k = sumAt D k := by
  induction p with
  | nil => rfl
  | cons z _ ih => rw [sumAt_cons, sumAt_cons, ih]
  | swap y z r => rw [sumAt_cons, sumAt_cons, sumAt_cons, sumAt_cons]; omega
  | trans _ _ a b => exact a.trans b
theorem sumAt_append (B D : Brk) (k : Int) : sumAt (B ++ D) k = sumAt B k + sumAt D k := by
  induction B with
  | nil => show sumAt D k = 0 + sumAt D k; omega
  | cons z r ih => rw [List.cons_append, sumAt_cons, sumAt_cons, ih]; omega
theorem sumAt_row (h : Int) (ms : List Int) (k : Int) : sumAt (ms.map fun c => (h, c)) k = if h = k then ms.sum else 0 := by
  induction ms with
  | nil => show (0 : Int) = if h = k then 0 else 0; split <;> rfl
  | cons c r ih =>
    rw [List.map_cons, sumAt_cons, ih, List.sum_cons]
    show (if h = k then c else 0) + _ = _
    split <;> omega
theorem sumAt_flat {C : Cuts} (n : (C.map (·.1)).Nodup) (k : Int) : sumAt (flat C) k = (look C k).sum := by
  induction C with
  | nil => rfl
  | cons z r ih =>
    obtain ⟨n1, n2⟩ := List.nodup_cons.mp n
    have e : flat (z :: r) = (z.2.2.map fun c => (z.1, c)) ++ flat r := by unfold flat; rw [List.flatMap_cons]
    rw [e, sumAt_append, sumAt_row, ih n2]
    show _ = (if z.1 = k then z.2.2 else look r k).sum
    by_cases e : z.1 = k
    · rw [if_pos e, if_pos e, ← e, look_none n1]; simp
    · rw [if_neg e, if_neg e]; omega
theorem lookC_fold (B : Brk) : ∀ (acc : Brk) (k : Int), lookC (B.foldl (fun acc z => addC acc z.1 z.2) acc) k = if (∃ z ∈ B, z.1 = k) ∨ lookC acc k ≠ none then some ((lookC acc k).getD 0 + sumAt B k) else none := by
  induction B with
  | nil =>
    intro acc k
    show lookC acc k = if _ then some ((lookC acc k).getD 0 + 0) else none
    cases e : lookC acc k with
    | none => simp
    | some v => simp
  | cons z r ih =>
    intro acc k
    rw [List.foldl_cons, ih, lookC_addC, sumAt_cons]
    by_cases e : k = z.1
    · rw [if_pos e, if_pos (Or.inr (by simp)), if_pos (Or.inl ⟨z, by simp, e.symm⟩), if_pos e.symm]
      congr 1
      rw [e]
      show (lookC acc z.1).getD 0 + z.2 + _ = _
      omega
    · have ez : ¬ z.1 = k := fun x => e x.symm
      have : (∃ y ∈ z :: r, y.1 = k) ↔ ∃ y ∈ r, y.1 = k := by
        constructor
        · rintro ⟨y, hy, ey⟩
          rcases List.mem_cons.mp hy with rfl | hy
          · exact absurd ey.symm e
          · exact ⟨y, hy, ey⟩
        · rintro ⟨y, hy, ey⟩; exact ⟨y, by simp [hy], ey⟩
      simp only [if_neg e, if_neg ez, Int.zero_add, this]
theorem rise_uniq : ∀ {C D : Brk}, Rise C → Rise D → (∀ k, lookC C k = lookC D k) → C = D
  | [], [], _, _, _ => rfl
  | [], (k, v) :: r, _, _, h => by have := h k; rw [show lookC ((k, v) :: r) k = some v from if_pos rfl] at this; cases this
  | (k, v) :: r, [], _, _, h => by have := h k; rw [show lookC ((k, v) :: r) k = some v from if_pos rfl] at this; cases this
  | (k, v) :: r, (a, u) :: q, rC, rD, h => by
    obtain ⟨c1, c2⟩ := List.pairwise_cons.mp rC
    obtain ⟨d1, d2⟩ := List.pairwise_cons.mp rD
    have no : ∀ {E : Brk} {m : Int}, (∀ y ∈ E.map (·.1), m < y) → lookC E m = none := by
      intro E m
      induction E with
      | nil => intro _; rfl
      | cons z s ih =>
        intro hy
        show (if z.1 = m then some z.2 else lookC s m) = none
        rw [if_neg (by have := hy z.1 (by simp); omega)]
        exact ih (fun y hy' => hy y (by simp only [List.map_cons, List.mem_cons]; exact .inr hy'))
    have hk : lookC ((k, v) :: r) k = some v := if_pos rfl
    have ha : lookC ((a, u) :: q) a = some u := if_pos rfl
    have e : k = a := by
      rcases Int.lt_trichotomy k a with l | l | l
      · have h1 := h k
        rw [hk, no (E := (a, u) :: q) (m := k) (fun y hy => by
          rcases List.mem_cons.mp hy with rfl | hy
          · exact l
          · have : a < y := d1 y hy
            omega)] at h1
        cases h1
      · exact l
      · have h1 := h a
        rw [ha, no (E := (k, v) :: r) (m := a) (fun y hy => by
          rcases List.mem_cons.mp hy with rfl | hy
          · exact l
          · have : k < y := c1 y hy
            omega)] at h1
        cases h1
    subst e
    have ev : v = u := by have h1 := h k; rw [hk, ha] at h1; exact Option.some.inj h1
    subst ev
    rw [rise_uniq c2 d2 (fun m => ?_)]
    by_cases e : k = m
    · subst e; rw [no c1, no d1]
    · have h1 := h m
      rw [show lookC ((k, v) :: r) m = lookC r m from if_neg e, show lookC ((k, v) :: q) m = lookC q m from if_neg e] at h1
      exact h1
theorem lookC_sums {C : Cuts} : ∀ (ys : List Int) (k : Int), lookC (sumsK C ys) k = if k ∈ ys then some (look C k).sum else none
  | [], k => by simp [sumsK, lookC]
  | y :: r, k => by
    show (if y = k then some (look C y).sum else lookC (sumsK C r) k) = _
    rw [lookC_sums r k]
    by_cases e : y = k
    · subst e; simp
    · have : ¬ k = y := fun x => e x.symm
      simp [e, this]
theorem sums_hours (C : Cuts) (ys : List Int) : (sumsK C ys).map (·.1) = ys := by
  unfold sumsK
  rw [List.map_map]
  exact List.map_id ys
theorem mem_flat {C : Cuts} {k : Int} (f : ∀ z ∈ C, z.2.2 ≠ []) : (∃ z ∈ flat C, z.1 = k) ↔ k ∈ C.map (·.1) := by
  unfold flat
  constructor
  · rintro ⟨z, hz, rfl⟩
    obtain ⟨y, hy, hz⟩ := List.mem_flatMap.mp hz
    obtain ⟨c, _, rfl⟩ := List.mem_map.mp hz
    exact List.mem_map.mpr ⟨y, hy, rfl⟩
  · intro h
    obtain ⟨y, hy, rfl⟩ := List.mem_map.mp h
    obtain ⟨c, r, e⟩ := List.exists_cons_of_ne_nil (f y hy)
    exact ⟨(y.1, c), List.mem_flatMap.mpr ⟨y, hy, by rw [e]; simp⟩, rfl⟩
/-- the cuts by the hour, of the breakings and of the law's dict -/
theorem cbh_sums {b : Int} {B : Brk} {C : Cuts} {ys : List Int} (good : BGood b B) (perm : B.Perm (flat C)) (n : (C.map (·.1)).Nodup) (f : ∀ z ∈ C, z.2.2 ≠ []) (bd : ∀ z ∈ C, b ≤ z.1) (yp : ys.Perm (C.map (·.1))) (rise : ys.Pairwise (· ≤ ·)) :
    (∃ q, ys = b :: q ∧ cbh b B = sumsK C ys) ∨ ((∀ y ∈ ys, b < y) ∧ cbh b B = (b, 0) :: sumsK C ys) := by
  have ynd : ys.Nodup := yp.nodup_iff.mpr n
  have ylt : ys.Pairwise (· < ·) := by
    have := rise.and (List.nodup_iff_pairwise_ne.mp ynd)
    exact this.imp fun h => by omega
  have rS : Rise (sumsK C ys) := by unfold Rise; rw [sums_hours]; exact ylt
  have yb : ∀ y ∈ ys, b ≤ y := by
    intro y hy
    obtain ⟨z, hz, rfl⟩ := List.mem_map.mp (yp.mem_iff.mp hy)
    exact bd z hz
  have rc := (cbh_rise good.ok).1
  have lk : ∀ k, lookC (cbh b B) k = if k ∈ ys ∨ k = b then some (look C k).sum else none := by
    intro k
    unfold cbh
    rw [lookC_fold, sumAt_perm perm, sumAt_flat n]
    have m : (∃ z ∈ B, z.1 = k) ↔ k ∈ ys := by
      rw [yp.mem_iff, ← mem_flat f]
      constructor
      · rintro ⟨z, hz, e⟩; exact ⟨z, perm.mem_iff.mp hz, e⟩
      · rintro ⟨z, hz, e⟩; exact ⟨z, perm.mem_iff.mpr hz, e⟩
    have l0 : lookC [(b, 0)] k = if k = b then some 0 else none := by
      show (if b = k then some 0 else none) = _
      by_cases e : b = k
      · rw [if_pos e, if_pos e.symm]
      · rw [if_neg e, if_neg (fun x => e x.symm)]
    rw [l0]
    simp only [m]
    by_cases e : k = b
    · simp [e]
    · simp [e]
  by_cases hb : b ∈ ys
  · left
    have hd : ∃ q, ys = b :: q := by
      cases ys with
      | nil => cases hb
      | cons y q =>
        rcases List.mem_cons.mp hb with e | e
        · exact ⟨q, by rw [e]⟩
        · have h1 := (List.pairwise_cons.mp ylt).1 b e
          have h2 := yb y (by simp)
          omega
    obtain ⟨q, hq⟩ := hd
    refine ⟨q, hq, rise_uniq rc rS (fun k => ?_)⟩
    rw [lk, lookC_sums]
    have : (k ∈ ys ∨ k = b) ↔ k ∈ ys := ⟨fun h => h.elim id (fun e => by rw [e]; exact hb), .inl⟩
    simp only [this]
  · right
    have lt : ∀ y ∈ ys, b < y := fun y hy => by
      have := yb y hy
      have : y ≠ b := fun e => hb (by rw [← e]; exact hy)
      omega
    refine ⟨lt, rise_uniq rc ?_ (fun k => ?_)⟩
    · unfold Rise
      rw [List.map_cons, sums_hours]
      exact List.pairwise_cons.mpr ⟨lt, ylt⟩
    · rw [lk]
      show _ = if b = k then some 0 else lookC (sumsK C ys) k
      rw [lookC_sums]
      by_cases e : k = b
      · subst e
        rw [if_pos (.inr rfl), if_pos rfl]
        congr 1
        have : ¬ k ∈ C.map (·.1) := fun h => hb (yp.mem_iff.mpr h)
        rw [look_none this]; rfl
      · have e2 : ¬ b = k := fun x => e x.symm
        have : (k ∈ ys ∨ k = b) ↔ k ∈ ys := ⟨fun h => h.elim id (fun e2 => absurd e2 e), .inl⟩
        simp only [this, if_neg e2]
/-- the pieces are the law's rows, with one ahead where nothing breaks at the begin -/
theorem pieces_rows {N : IceN} {B : Brk} {C : Cuts} {ys : List Int} (ok : N.ok) (good : BGood N.b B) (perm : B.Perm (flat C)) (n : (C.map (·.1)).Nodup) (f : ∀ z ∈ C, z.2.2 ≠ []) (bd : ∀ z ∈ C, N.b ≤ z.1) (yp : ys.Perm (C.map (·.1))) (rise : ys.Pairwise (· ≤ ·)) :
    ((∃ q, ys = N.b :: q) ∧ pieces N B = pcs N (some (N.b, N.first)) (sumsK C ys)) ∨ ((∀ y ∈ pcs N (some (N.b, N.first)) (sumsK C ys), N.b < y.1) ∧ pieces N B = (N.b, N.first, N.first) :: pcs N (some (N.b, N.first)) (sumsK C ys)) := by
  have f0 := ok.f0; have fm := ok.fm
  rcases cbh_sums good perm n f bd yp rise with ⟨q, hq, e⟩ | ⟨lt, e⟩
  · left
    refine ⟨⟨q, hq⟩, ?_⟩
    unfold pieces
    rw [e, hq]
    have e2 : sumsK C (N.b :: q) = (N.b, (look C N.b).sum) :: sumsK C q := rfl
    rw [e2]
    have e3 : aheadOf N (some (N.b, N.first)) N.b = aheadOf N none N.b := by
      show grown N N.first (N.b - N.b) = N.first
      rw [Int.sub_self, grown_zero fm]
    show (N.b, aheadOf N none N.b, _) :: pcs N _ _ = (N.b, aheadOf N (some (N.b, N.first)) N.b, _) :: pcs N _ _
    rw [e3]
  · right
    refine ⟨fun y hy => ?_, ?_⟩
    · have h1 : y.1 ∈ (pcs N (some (N.b, N.first)) (sumsK C ys)).map (·.1) := List.mem_map.mpr ⟨y, hy, rfl⟩
      rw [pcs_hours, sums_hours] at h1
      exact lt _ h1
    · unfold pieces
      rw [e]
      have e3 : (if N.first - 0 > 0 then N.first - 0 else 0) = N.first := by split <;> omega
      show (N.b, N.first, if N.first - 0 > 0 then N.first - 0 else 0) :: pcs N (some (N.b, if N.first - 0 > 0 then N.first - 0 else 0)) _ = _
      rw [e3]
/-- an hour's levels -/
theorem level_at {N : IceN} {B : Brk} {C : Cuts} {ys : List Int} {h : Int} {i : Nat} {z : Int × Int × Int} (ok : N.ok) (good : BGood N.b B) (perm : B.Perm (flat C)) (n : (C.map (·.1)).Nodup) (f : ∀ z ∈ C, z.2.2 ≠ []) (bd : ∀ z ∈ C, N.b ≤ z.1) (yp : ys.Perm (C.map (·.1))) (rise : ys.Pairwise (· ≤ ·))
    (hb : N.b ≤ h) (a : AtP (pieces N B) h i) (hz : (pieces N B)[i]? = some z) : atOf N (pcs N (some (N.b, N.first)) (sumsK C ys)) (N.b, N.first) h = if z.1 = h then z.2 else (grown N z.2.2 (h - z.1), grown N z.2.2 (h - z.1)) := by
  have key := at_rise (pieces_rise good.ok) a hz N (N.b, N.first)
  rcases pieces_rows ok good perm n f bd yp rise with ⟨_, e⟩ | ⟨lt, e⟩
  · rw [← e]; exact key
  · rw [← key, e]; exact (at_cons hb ok.fm lt).symm

end Ice

set_option Elab.async false
set_option linter.all false
set_option maxRecDepth 100000
set_option maxHeartbeats 4000000
namespace Ice
open PySem PySem.Spec PyProof.Rows L2 TL
/-! side conditions, heaps, one step of a reading, and many -/
local macro_rules | `(tactic| walk_at "hp") => `(tactic| first | assumption | exact upd_same | exact New.at_ (by assumption) | (refine keepU ?_ (by assumption); walk_at "hp") | (refine New.app (by assumption) ?_; walk_at "hp") | (refine Same.app (by assumption) ?_; walk_at "hp") | (refine But.app (by assumption) (by assumption) ?_; walk_at "hp"))
local macro_rules | `(tactic| walk_at "sq") => `(tactic| first | assumption | exact SqL.lst (by walk_at "hp") | exact L2.Same.seq (New.same (by assumption)) (by assumption) | exact L2.Same.seq (by assumption) (by assumption))
local macro_rules | `(tactic| walk_at "len") => `(tactic| first | assumption | (simp only [List.length_cons, List.length_nil, List.length_append, List.length_map]; decide) | (refine Ice.sz_of ?_; simp only [List.length_cons, List.length_nil, List.length_append, List.length_map]; omega))
local macro_rules | `(tactic| walk_at "fresh") => `(tactic| (simp only [List.map_append, List.map_cons, List.map_nil, List.nil_append, List.cons_append]; decide +kernel))
local macro_rules | `(tactic| walk_at "sd") => `(tactic| first | assumption | (show _ ≠ _; omega) | exact Or.inl ⟨by omega, by omega⟩ | exact Or.inr ⟨by omega, by omega⟩ | exact ⟨by decide, by decide⟩ | exact ⟨by decide, by decide, by decide⟩ | exact ⟨by omega, by omega, by omega⟩)
/-! one step of a reading, and many -/
local macro_rules | `(tactic| walk_at "st") => `(tactic| first
  | with_reducible refine i_seq ?_
  | with_reducible refine i_if ?_
  | with_reducible refine i_next ?_
  | with_reducible refine i_ret ?_
  | with_reducible refine i_retN ?_
  | with_reducible refine i_drop ?_
  | with_reducible refine i_asg ?_
  | with_reducible refine i_gname ?_
  | with_reducible refine i_gsub ?_
  | ((with_reducible refine i_var (v := ?vv) ?hv ?_); (case hv => exact rfl))
  | with_reducible refine i_c ?_
  | with_reducible refine i_op ?_
  | with_reducible refine i_un ?_
  | with_reducible refine i_test ?_
  | with_reducible refine i_tB ?_
  | with_reducible refine i_and ?_
  | with_reducible refine i_or ?_
  | with_reducible refine i_not ?_
  | with_reducible refine i_andV ?_
  | with_reducible refine i_orV ?_
  | with_reducible refine i_notV ?_
  | with_reducible refine i_ifE ?_
  | with_reducible refine i_chain ?_
  | with_reducible refine i_bl ?_
  | with_reducible refine i_nil ?_
  | with_reducible refine i_cons ?_
  | with_reducible refine i_call ?_
  | with_reducible refine i_cb ?_
  | with_reducible refine i_rI0 ?_
  | with_reducible refine i_rU ?_
  | ((with_reducible refine i_rEq ?hs ?_); (case hs => exact rfl))
  | ((with_reducible refine i_rNe ?hs ?_); (case hs => exact rfl))
  | ((with_reducible refine i_rI ?hc ?_); (case hc => walk_at "sd"))
  | ((with_reducible refine i_ixL (xs := ?xs) (v := ?vv) ?hS ?he ?_); (case hS => walk_at "sq"); (case he => exact rfl))
  | ((with_reducible refine i_setL (xs := ?xs) (j := ?jj) ?hS ?he ?_); (case hS => walk_at "hp"); (case he => exact rfl))
  | with_reducible refine i_tup ?_
  | with_reducible refine i_lst ?_
  | with_reducible refine i_bm ?_
  | with_reducible refine i_bm0 ?_
  | with_reducible refine i_m1 ?_
  | with_reducible refine i_sl ?_
  | with_reducible refine i_nopart ?_
  | with_reducible refine i_part ?_
  | with_reducible refine i_int ?_
  | with_reducible refine i_str ?_
  | with_reducible refine i_for ?_
  | with_reducible refine i_yes ?_
  | ((with_reducible refine i_lenL (xs := ?xs) ?hS ?_); (case hS => walk_at "sq"))
  | ((with_reducible refine i_room ?hz ?_); (case hz => walk_at "len"))
  | with_reducible refine i_leT ?_
  | with_reducible refine i_notInS ?_
  | with_reducible refine i_inS ?_
  | with_reducible refine i_find ?_
  | with_reducible refine i_isB ?_
  | with_reducible refine i_max2 ?_
  | with_reducible refine i_min2 ?_
  | with_reducible exact trivial
  | with_reducible refine iteT ?_
  | with_reducible refine iteF ?_
  | with_reducible refine i_isstr ?_
  | with_reducible refine i_lc ?_
  | ((with_reducible refine i_cat (xs := ?xs) (zs := ?zs) ?ha ?hb ?hz ?_); (case ha => walk_at "hp"); (case hb => walk_at "hp"); (case hz => walk_at "len"))
  | ((with_reducible refine i_tyL (xs := ?xs) ?ha ?_); (case ha => walk_at "hp"))
  | with_reducible refine i_list ?_
  | with_reducible refine i_disp ?_
  | with_reducible refine i_pairs0 ?_
  | with_reducible refine i_pairs ?_
  | with_reducible refine i_newK ?_
  | with_reducible refine i_gcons ?_
  | with_reducible refine i_gnil ?_
  | with_reducible refine i_revL ?_
  | with_reducible refine i_rng1 ?_
  | ((with_reducible refine i_wipe ?hw ?_); (case hw => exact rfl))
  | with_reducible refine iteNT ?_
  | with_reducible refine iteNF ?_)
local macro_rules | `(tactic| walk_at "sx") => `(tactic| first
  | walk_at "st"
  | with_reducible refine i_kinit ?_
  | with_reducible refine i_ost ?_
  | with_reducible refine i_mkO ?_
  | with_reducible refine i_callE ?_
  | with_reducible refine i_makeE ?_
  | with_reducible refine i_xf ?_
  | with_reducible refine i_sfld ?_
  | with_reducible refine i_fld ?_
  | ((with_reducible refine i_ixT (xs := ?xs) (v := ?vv) ?hS ?he ?_); (case hS => exact SqT.tup (by walk_at "hp")); (case he => exact rfl))
  | with_reducible refine i_intB ?_
  | with_reducible refine i_runS ?_
  | with_reducible refine i_runN ?_
  | ((with_reducible refine i_xf1 (fs := ?ff) (v := ?vv) ?hx ?hl ?_); (case hx => walk_at "hp"); (case hl => exact rfl))
  | with_reducible refine i_methE ?_
  | with_reducible refine i_meth ?_
  | with_reducible refine i_make ?_
  | ((with_reducible refine i_obj (dx := ?dd) (fs := ?ff) ?hx ?hl ?_); (case hx => walk_at "hp"); (case hl => exact rfl))
  | ((with_reducible refine i_fld1 (C := ?CC) (dx := ?dd) (fs := ?ff) (v := ?vv) ?hx ?cl ?na ?hl ?_); (case hx => walk_at "hp"); (case cl => assumption); (case na => assumption); (case hl => exact rfl)))
local macro_rules | `(tactic| walk_at "sy") => `(tactic| first
  | walk_at "sx"
  | with_reducible refine i_dget ?_
  | with_reducible refine i_dget2 ?_
  | with_reducible refine i_dput ?_
  | with_reducible refine i_din ?_
  | ((with_reducible refine i_aug (x := ?vv) ?hx ?_); (case hx => exact rfl)))
local macro_rules | `(tactic| walk_at "rd") => `(tactic| repeat (walk_at "sy"))

/-- a cut less -/
def delC : Cuts → Int → Int → Cuts
  | [], _, _ => []
  | z :: r, h, c => if z.1 = h then (if z.2.2.erase c = [] then r else (z.1, z.2.1, z.2.2.erase c) :: r) else z :: delC r h c
theorem delC_mem {C : Cuts} {h c : Int} : ∀ z ∈ delC C h c, z.2.2 ≠ [] ∨ z ∈ C := by
  intro z hz
  induction C with
  | nil => cases hz
  | cons y r ih =>
    by_cases e : y.1 = h
    · by_cases e2 : y.2.2.erase c = []
      · rw [show delC (y :: r) h c = r by unfold delC; rw [if_pos e, if_pos e2]] at hz
        exact .inr (by simp [hz])
      · rw [show delC (y :: r) h c = (y.1, y.2.1, y.2.2.erase c) :: r by rw [delC, if_pos e, if_neg e2]] at hz
        rcases List.mem_cons.mp hz with rfl | hz
        · exact .inl e2
        · exact .inr (by simp [hz])
    · rw [show delC (y :: r) h c = y :: delC r h c by rw [delC, if_neg e]] at hz
      rcases List.mem_cons.mp hz with rfl | hz
      · exact .inr (by simp)
      · exact (ih hz).imp id (fun m => by simp [m])
theorem delC_old {C : Cuts} {h c : Int} : ∀ z ∈ delC C h c, z ∈ C ∧ z.1 ≠ h ∨ ∃ y ∈ C, y.1 = h ∧ z = (y.1, y.2.1, y.2.2.erase c) ∨ z ∈ C := by
  intro z hz
  induction C with
  | nil => cases hz
  | cons y r ih =>
    by_cases e : y.1 = h
    · by_cases e2 : y.2.2.erase c = []
      · rw [show delC (y :: r) h c = r by rw [delC, if_pos e, if_pos e2]] at hz
        exact .inr ⟨y, by simp, .inr (by simp [hz])⟩
      · rw [show delC (y :: r) h c = (y.1, y.2.1, y.2.2.erase c) :: r by rw [delC, if_pos e, if_neg e2]] at hz
        rcases List.mem_cons.mp hz with rfl | hz
        · exact .inr ⟨y, by simp, .inl ⟨e, rfl⟩⟩
        · exact .inr ⟨y, by simp, .inr (by simp [hz])⟩
    · rw [show delC (y :: r) h c = y :: delC r h c by rw [delC, if_neg e]] at hz
      rcases List.mem_cons.mp hz with rfl | hz
      · exact .inl ⟨by simp, e⟩
      · rcases ih hz with ⟨a, b⟩ | ⟨u, hu, a | a⟩
        · exact .inl ⟨by simp [a], b⟩
        · exact .inr ⟨u, by simp [hu], .inl a⟩
        · exact .inr ⟨u, by simp [hu], .inr (by simp [a])⟩
theorem delC_sub {C : Cuts} {h c : Int} : ((delC C h c).map fun z => (z.1, z.2.1)).Sublist (C.map fun z => (z.1, z.2.1)) := by
  induction C with
  | nil => exact .slnil
  | cons y r ih =>
    by_cases e : y.1 = h
    · by_cases e2 : y.2.2.erase c = []
      · rw [show delC (y :: r) h c = r by rw [delC, if_pos e, if_pos e2]]
        exact List.sublist_cons_self _ _
      · rw [show delC (y :: r) h c = (y.1, y.2.1, y.2.2.erase c) :: r by rw [delC, if_pos e, if_neg e2]]
        exact List.Sublist.refl _
    · rw [show delC (y :: r) h c = y :: delC r h c by rw [delC, if_neg e]]
      exact ih.cons_cons _
theorem flat_del {C : Cuts} {h c : Int} (hc : c ∈ look C h) : ((h, c) :: flat (delC C h c)).Perm (flat C) := by
  induction C with
  | nil => cases hc
  | cons y r ih =>
    have fc : ∀ (z : Int × Addr × List Int) (D : Cuts), flat (z :: D) = (z.2.2.map fun c => (z.1, c)) ++ flat D := fun z D => by unfold flat; rw [List.flatMap_cons]
    by_cases e : y.1 = h
    · rw [show look (y :: r) h = y.2.2 from if_pos e] at hc
      have p : (c :: y.2.2.erase c).Perm y.2.2 := (List.perm_cons_erase hc).symm
      have p2 := (p.map fun c => (y.1, c)).append_right (flat r)
      rw [List.map_cons, e] at p2
      rw [fc y r, e]
      by_cases e2 : y.2.2.erase c = []
      · rw [show delC (y :: r) h c = r by rw [delC, if_pos e, if_pos e2]]
        rw [e2] at p2
        exact p2
      · rw [show delC (y :: r) h c = (y.1, y.2.1, y.2.2.erase c) :: r by rw [delC, if_pos e, if_neg e2], fc]
        show ((h, c) :: ((y.2.2.erase c).map (fun c => (y.1, c)) ++ flat r)).Perm _
        rw [e]
        exact p2
    · rw [show look (y :: r) h = look r h from if_neg e] at hc
      rw [show delC (y :: r) h c = y :: delC r h c by rw [delC, if_neg e], fc, fc]
      exact List.perm_middle.symm.trans ((ih hc).append_left _)
theorem mem_look {C : Cuts} (n : (C.map (·.1)).Nodup) {h c : Int} : (h, c) ∈ flat C ↔ c ∈ look C h := by
  unfold flat
  rw [List.mem_flatMap]
  constructor
  · rintro ⟨z, hz, m⟩
    obtain ⟨d, hd, e⟩ := List.mem_map.mp m
    injection e with e1 e2
    subst e1 e2
    rw [look_mem n hz]; exact hd
  · intro hc
    by_cases m : h ∈ C.map (·.1)
    · obtain ⟨z, hz, rfl⟩ := List.mem_map.mp m
      rw [look_mem n hz] at hc
      exact ⟨z, hz, List.mem_map.mpr ⟨c, hc, rfl⟩⟩
    · rw [look_none m] at hc; cases hc
theorem del_perm {B : Brk} {C : Cuts} {h c : Int} (p : B.Perm (flat C)) (hc : c ∈ look C h) : (B.erase (h, c)).Perm (flat (delC C h c)) := by
  have h1 : (B.erase (h, c)).Perm ((flat C).erase (h, c)) := p.erase _
  have h2 : (((h, c) :: flat (delC C h c)).erase (h, c)).Perm ((flat C).erase (h, c)) := (flat_del hc).erase _
  rw [List.erase_cons_head] at h2
  exact h1.trans h2.symm
theorem grown_abs {N : IceN} (ok : N.ok) {s b h : Int} (s0 : 0 ≤ s) (s1 : s ≤ 1000000000) (h0 : 0 ≤ h) (h1 : h ≤ 1000000000) (b0 : 0 ≤ b) (b1 : b ≤ N.most) : (grown N b (h - s)).natAbs < 10 ^ 60 := by
  have m6 := ok.m6; have g0 := ok.g0; have g3 := ok.g3; have f0 := ok.f0; have fm := ok.fm
  have a1 : grown N b (h - s) ≤ N.most := grown_le
  have m1 : -(1000000000000) ≤ N.growth * (h - s) := by
    rcases Int.le_total 0 (h - s) with k | k
    · have := Int.mul_nonneg g0 k; omega
    · have k2 : N.growth * (s - h) ≤ 1000 * (s - h) := Int.mul_le_mul_of_nonneg_right g3 (by omega)
      have k3 : N.growth * (h - s) = -(N.growth * (s - h)) := by rw [← Int.mul_neg]; congr 1; omega
      omega
  have a0 : -(1000000000000) ≤ grown N b (h - s) := by unfold grown; split <;> omega
  have : (10 : Nat) ^ 60 = 1000000000000000000000000000000000000000000000000000000000000 := by decide +kernel
  omega
theorem at_bnd {N : IceN} (ok : N.ok) {R : Pcs} (hR : ∀ y ∈ R, RowBnd N y) {h : Int} (h0 : N.b ≤ h) (h1 : h ≤ 1000000000) : (atOf N R (N.b, N.first) h).1.natAbs < 10 ^ 60 ∧ (atOf N R (N.b, N.first) h).2.natAbs < 10 ^ 60 := by
  have m6 := ok.m6; have n0 := ok.b0; have n6 := ok.b6; have f0 := ok.f0; have fm := ok.fm
  have p60 : (10 : Nat) ^ 60 = 1000000000000000000000000000000000000000000000000000000000000 := by decide +kernel
  have st : ∀ (R : Pcs) (s : Int × Int), (∀ y ∈ R, RowBnd N y) → (0 ≤ s.1 ∧ s.1 ≤ 1000000000 ∧ 0 ≤ s.2 ∧ s.2 ≤ N.most) → 0 ≤ (stOf R s h).1 ∧ (stOf R s h).1 ≤ 1000000000 ∧ 0 ≤ (stOf R s h).2 ∧ (stOf R s h).2 ≤ N.most := by
    intro R
    induction R with
    | nil => intro s _ hs; exact hs
    | cons y q ih =>
      intro s hR hs
      have hy := hR y (by simp)
      show 0 ≤ (stOf q (if y.1 < h then (y.1, y.2.2) else s) h).1 ∧ _
      refine ih _ (fun u hu => hR u (by simp [hu])) ?_
      have a0 := hy.a0; have a1 := hy.a1; have c0 := hy.c0; have c1 := hy.c1
      split
      · exact ⟨by show 0 ≤ y.1; omega, by show y.1 ≤ 1000000000; omega, c0, c1⟩
      · exact hs
  unfold atOf
  cases e : R.find? (fun z => decide (z.1 = h)) with
  | some z =>
    have hz := hR z (List.mem_of_find?_eq_some e)
    have b0 := hz.b0; have b1 := hz.b1; have c0 := hz.c0; have c1 := hz.c1
    show z.2.1.natAbs < _ ∧ z.2.2.natAbs < _
    constructor <;> omega
  | none =>
    obtain ⟨s0, s1, s2, s3⟩ := st R (N.b, N.first) hR ⟨n0, by show N.b ≤ 1000000000; omega, f0, fm⟩
    have g := grown_abs ok s0 s1 (by omega) h1 s2 s3
    exact ⟨g, g⟩
theorem sum_nn {ms : List Int} (h : ∀ c ∈ ms, 0 ≤ c) : 0 ≤ ms.sum := by
  induction ms with
  | nil => simp
  | cons c r ih => rw [List.sum_cons]; have := h c (by simp); have := ih (fun y hy => h y (by simp [hy])); omega
theorem rows_bnd {H : Hp} {N : IceN} (ok : N.ok) {dc : Addr} {C : Cuts} (cu : CutsAt H N.b dc C) {ys : List Int} (yp : ys.Perm (C.map (·.1))) : ∀ y ∈ pcs N (some (N.b, N.first)) (sumsK C ys), RowBnd N y := by
  have n6 := ok.b6
  refine pcs_bnd ok _ _ _ (Int.le_refl _) (by omega) ok.f0 ok.fm (fun y hy => ?_)
  unfold sumsK at hy
  obtain ⟨k, hk, rfl⟩ := List.mem_map.mp hy
  obtain ⟨z, hz, rfl⟩ := List.mem_map.mp (yp.mem_iff.mp hk)
  have b := cu.bnd z hz
  refine ⟨b.1.1, b.1.2, ?_⟩
  show 0 ≤ (look C z.1).sum
  rw [look_mem cu.keys hz]
  exact sum_nn (fun c hc => by have := b.2 c hc; omega)
theorem pd2_empty (B : Brk) : (PyData.list (B.map pd2)).eqv (.list []) = B.isEmpty := by
  cases B with
  | nil => rfl
  | cons z r => rfl
theorem un64 {k : Nat} {A : Around} (hr : Room k A) : A.units + 64 < cLine := by have := hr.un; omega
section
variable {P : Program} {w : World} {K : PySem.W.Frag} {mg : Str → Option Value} {base : Heap}
theorem IceA.dict {T : Top K mg} {H H' : Hp} {x y : Addr} {kvs : List (Key × V)} {N : IceN} {B : Brk} (i : IceA T H x N B) (hy : H y = some (.dK kvs)) (e : But y H H') : IceA T H' x N B := by
  obtain ⟨dx, ch, lb, lp, bs, ps, hx, ⟨dch, n', o, t, h, d, hcc⟩, hlb, pB, hlp, tP⟩ := i
  have kt : ∀ a xs, H a = some (.tup xs) → H' a = some (.tup xs) := keepT_but hy (fun xs => nofun) e
  exact ⟨dx, ch, lb, lp, bs, ps, e _ _ (ne_of hx hy (by intro z; cases z)) hx, ⟨dch, n', o, t, h, d, e _ _ (ne_of hcc hy (by intro z; cases z)) hcc⟩, e _ _ (ne_of hlb hy (by intro z; cases z)) hlb, pB.keep kt, e _ _ (ne_of hlp hy (by intro z; cases z)) hlp, tP.keep kt⟩
theorem told_at {H : Hp} {N : IceN} (ok : N.ok) {dc : Addr} {C : Cuts} (cu : CutsAt H N.b dc C) {B : Brk} (good : BGood N.b B) (perm : B.Perm (flat C)) {ys : List Int} (yp : ys.Perm (C.map (·.1))) (rise : ys.Pairwise (· ≤ ·)) {h : Int} {i : Nat} {y : Int × Int × Int} {z : Int × Int} (hb : N.b ≤ h) (a : AtP (pieces N B) h i) (hy : (pieces N B)[i]? = some y)
    (ez : z = atOf N (pcs N (some (N.b, N.first)) (sumsK C ys)) (N.b, N.first) h) : (if y.1 = h then y.2.1 else grown N y.2.2 (h - y.1)) = z.1 ∧ grown N y.2.2 (h - y.1) = z.2 := by
  have lv := level_at ok good perm cu.keys cu.full (fun z hz => (cu.bnd z hz).1.1) yp rise hb a hy
  have le : y.2.2 ≤ N.most := by
    have rb := rows_bnd ok cu yp
    rcases pieces_rows ok good perm cu.keys cu.full (fun z hz => (cu.bnd z hz).1.1) yp rise with ⟨_, e⟩ | ⟨_, e⟩
    · rw [e] at hy
      exact (rb y (List.mem_of_getElem? hy)).c1
    · rw [e] at hy
      rcases List.mem_cons.mp (List.mem_of_getElem? hy) with rfl | m
      · exact ok.fm
      · exact (rb y m).c1
  rw [lv] at ez
  by_cases e : y.1 = h
  · rw [if_pos e] at ez ⊢
    rw [ez]
    refine ⟨rfl, ?_⟩
    rw [show h - y.1 = 0 by omega, grown_zero le]
  · rw [if_neg e] at ez ⊢
    rw [ez]
    exact ⟨rfl, rfl⟩
theorem inV_int (c : Int) (ms : List Int) : inV (V.int c) (ms.map V.int) = decide (c ∈ ms) := by
  induction ms with
  | nil => rfl
  | cons m r ih =>
    have ev : eqV (V.int m) (V.int c) = decide (m = c) := by first | rfl | simp [eqV]
    unfold inV at ih ⊢
    rw [List.map_cons, List.any_cons, ih]
    by_cases e : c = m
    · subst e; simp [ev]
    · have e2 : ¬ m = c := fun x => e x.symm
      simp [ev, e, e2]
theorem first_at {k : Int} : ∀ ns : List Int, k ∈ ns → ∃ j : Nat, ns[j]? = some k ∧ (∀ m : Nat, m < j → ns[m]? ≠ some k) ∧ ns.eraseIdx j = ns.erase k
  | [], h => by cases h
  | n :: r, h => by
    by_cases e : n = k
    · subst e
      exact ⟨0, rfl, (fun m hm => by omega), by rw [List.erase_cons_head]; rfl⟩
    · obtain ⟨j, h1, h2, h3⟩ := first_at r (by rcases List.mem_cons.mp h with h | h; exact absurd h.symm e; exact h)
      refine ⟨j + 1, h1, fun m hm => ?_, by rw [List.erase_cons_tail (by simpa using e), ← h3]; rfl⟩
      cases m with
      | zero => intro x; exact e (Option.some.inj x)
      | succ m => exact h2 m (by omega)
theorem valV_dcv_none {C : Cuts} {h : Int} (n : ¬ h ∈ C.map (·.1)) : valV (dcv C) (Sum.inl h) = none := by
  induction C with
  | nil => rfl
  | cons y q ih =>
    have n1 : ¬ y.1 = h := fun e => n (by simp [e])
    rw [show dcv (y :: q) = (Sum.inl y.1, V.ref y.2.1) :: dcv q from rfl, valV_neg (fun z => n1 (by injection z))]
    exact ih (fun m => n (by simp only [List.map_cons, List.mem_cons]; exact .inr m))
theorem intsDp {H : Hp} : ∀ ms : List Int, DpAll K H (ms.map V.int) (ms.map PyData.int)
  | [] => .nil
  | m :: r => .cons (.int m) (intsDp r)
theorem ints_lay : ∀ ms : List Int, PyData.canLayAll0 (ms.map PyData.int) = true ∧ PyData.depthAll (ms.map PyData.int) = 0
  | [] => ⟨rfl, rfl⟩
  | m :: r => by
    obtain ⟨a, b⟩ := ints_lay r
    refine ⟨?_, ?_⟩
    · show (PyData.canLay0 (.int m) && PyData.canLayAll0 (r.map PyData.int)) = true
      rw [a]; rfl
    · show max (PyData.int m).depth (PyData.depthAll (r.map PyData.int)) = 0
      rw [b]; rfl
theorem ints_shaped (ms : List Int) : SeqAt.shaped (.list (ms.map PyData.int)) = true := by
  obtain ⟨a, b⟩ := ints_lay ms
  have : (PyData.list (ms.map PyData.int)).depth ≤ 64 := by simp only [PyData.depth]; omega
  have c : (PyData.list (ms.map PyData.int)).canLay0 = true := by simp [PyData.canLay0, a]
  unfold SeqAt.shaped
  rw [c, decide_eq_true this]; rfl
theorem ints_ne {ms : List Int} (h : ms ≠ []) : (PyData.list (ms.map PyData.int)).eqv (.list []) = false := by
  cases ms with
  | nil => exact absurd rfl h
  | cons m r => rfl
theorem ints_eqv (ms : List Int) : (PyData.list (ms.map PyData.int)).eqv (.list []) = decide (ms = []) := by
  cases ms with
  | nil => rfl
  | cons m r => rfl
theorem rf_noI {bs : List Addr} {ms : List Int} (h : ms ≠ []) : HO.lst (rf bs) ≠ .lst (ms.map V.int) := by
  intro z
  injection z with z
  cases ms with
  | nil => exact h rfl
  | cons m r =>
    cases bs with
    | nil => cases z
    | cons b q => injection z with z _; cases z
theorem IceA.ints {T : Top K mg} {H H' : Hp} {x l : Addr} {ms : List Int} {N : IceN} {B : Brk} (i : IceA T H x N B) (hl : H l = some (.lst (ms.map V.int))) (ne : ms ≠ []) (e : But l H H') : IceA T H' x N B := by
  obtain ⟨dx, ch, lb, lp, bs, ps, hx, ⟨dch, n', o, t, h, d, hcc⟩, hlb, pB, hlp, tP⟩ := i
  have kt : ∀ a xs, H a = some (.tup xs) → H' a = some (.tup xs) := keepT_but hl (fun xs => nofun) e
  exact ⟨dx, ch, lb, lp, bs, ps, e _ _ (ne_of hx hl (by intro z; cases z)) hx, ⟨dch, n', o, t, h, d, e _ _ (ne_of hcc hl (by intro z; cases z)) hcc⟩, e _ _ (ne_of hlb hl (rf_noI ne)) hlb, pB.keep kt, e _ _ (ne_of hlp hl (rf_noI ne)) hlp, tP.keep kt⟩
theorem rp_none {H : Hp} {r t : Addr} {h c : Int} (hr : H r = some (.tup [.str (Str.ofString "none"), .ref t])) (ht : H t = some (.tup [.int h, .int c])) (bh : h.natAbs < 10 ^ 10) (bc : c.natAbs < 10 ^ 10) : Rp K H (.ref r) (.tuple [.str (Str.ofString "none"), .tuple [.int h, .int c]]) := by
  have s1 : Sm K H 1 2000 (.ref t) (.tuple [.int h, .int c]) := (Sm.tup (k := 0) ht (.cons (Ps.sm (.int (Nat.lt_trans bh (by decide)))) (.cons (Ps.sm (.int (Nat.lt_trans bc (by decide)))) .nil))).mono (Nat.le_refl _) (by simp)
  have s0 : Sm K H 1 2000 (.str (Str.ofString "none")) (.str (Str.ofString "none")) := (Ps.sm (k := 1) (.str (by decide +kernel) (by decide +kernel))).mono (Nat.le_refl _) (by omega)
  exact (Sm.tup (k := 1) hr (.cons s0 (.cons s1 .nil))).rp (by omega) (sz_of (by simp))
theorem dcv_del {C : Cuts} {z : Int × Addr × List Int} {c : Int} (n : (C.map (·.1)).Nodup) (hz : z ∈ C) : (z.2.2.erase c = [] → dropK (dcv C) (Sum.inl z.1) = dcv (delC C z.1 c)) ∧ (z.2.2.erase c ≠ [] → dcv (delC C z.1 c) = dcv C) := by
  induction C with
  | nil => cases hz
  | cons y r ih =>
    obtain ⟨n1, n2⟩ := List.nodup_cons.mp n
    have kp : ∀ D : Cuts, ¬ y.1 ∈ D.map (·.1) → (dcv D).filter (fun kv => decide (kv.1 ≠ (Sum.inl y.1 : Key))) = dcv D := by
      intro D hD
      rw [List.filter_eq_self]
      intro q hq
      obtain ⟨u, hu, rfl⟩ := List.mem_map.mp hq
      refine decide_eq_true fun e => hD ?_
      injection e with e
      exact List.mem_map.mpr ⟨u, hu, e⟩
    rcases List.mem_cons.mp hz with e | e
    · subst e
      refine ⟨fun he => ?_, fun he => ?_⟩
      · rw [show delC (z :: r) z.1 c = r by rw [delC, if_pos rfl, if_pos he]]
        unfold dropK
        rw [show dcv (z :: r) = (Sum.inl z.1, V.ref z.2.1) :: dcv r from rfl, List.filter_cons, if_neg (by simp)]
        exact kp r n1
      · rw [show delC (z :: r) z.1 c = (z.1, z.2.1, z.2.2.erase c) :: r by rw [delC, if_pos rfl, if_neg he]]
        rfl
    · have ne : ¬ y.1 = z.1 := fun x => n1 (List.mem_map.mpr ⟨z, e, x.symm⟩)
      obtain ⟨i1, i2⟩ := ih n2 e
      have dl : delC (y :: r) z.1 c = y :: delC r z.1 c := by rw [delC, if_neg ne]
      refine ⟨fun he => ?_, fun he => ?_⟩
      · rw [dl]
        have := i1 he
        unfold dropK at this ⊢
        rw [show dcv (y :: r) = (Sum.inl y.1, V.ref y.2.1) :: dcv r from rfl, List.filter_cons, if_pos (by
          refine decide_eq_true fun x => ne ?_
          injection x), this]
        rfl
      · rw [dl, show dcv (y :: delC r z.1 c) = (Sum.inl y.1, V.ref y.2.1) :: dcv (delC r z.1 c) from rfl, i2 he]
        rfl
theorem CutsAt.del {H J : Hp} {b c : Int} {dc : Addr} {C : Cuts} {z : Int × Addr × List Int} (k : CutsAt H b dc C) (hz : z ∈ C) (kd : J dc = some (.dK (dcv (delC C z.1 c)))) (kl : J z.2.1 = some (.lst ((z.2.2.erase c).map V.int))) (e : ∀ y ∈ C, y.1 ≠ z.1 → J y.2.1 = some (.lst (y.2.2.map V.int))) : CutsAt J b dc (delC C z.1 c) := by
  have cls : ∀ y ∈ delC C z.1 c, (y ∈ C ∧ y.1 ≠ z.1) ∨ (y = (z.1, z.2.1, z.2.2.erase c) ∧ z.2.2.erase c ≠ []) := by
    have key : ∀ D : Cuts, (D.map (·.1)).Nodup → (∀ u ∈ D, u ∈ C) → ∀ y ∈ delC D z.1 c, (y ∈ C ∧ y.1 ≠ z.1) ∨ (y = (z.1, z.2.1, z.2.2.erase c) ∧ z.2.2.erase c ≠ []) := by
      intro D
      induction D with
      | nil => intro _ _ y hy; cases hy
      | cons u r ih =>
        intro n s y hy
        obtain ⟨n1, n2⟩ := List.nodup_cons.mp n
        by_cases e1 : u.1 = z.1
        · have eu : u = z := by
            have hu := s u (by simp)
            have l1 := look_mem k.keys hu
            have v1 := valV_dcv k.keys hu
            have v2 := valV_dcv k.keys hz
            have l2 := look_mem k.keys hz
            rw [e1] at l1 v1
            rw [l1] at l2; rw [v1] at v2
            have : u.2.1 = z.2.1 := by injection (Option.some.inj v2)
            obtain ⟨u1, u2, u3⟩ := u
            obtain ⟨w1, w2, w3⟩ := z
            simp at e1 l2 this
            subst e1 l2 this
            rfl
          subst eu
          by_cases e2 : u.2.2.erase c = []
          · rw [show delC (u :: r) u.1 c = r by rw [delC, if_pos rfl, if_pos e2]] at hy
            exact .inl ⟨s y (by simp [hy]), fun x => n1 (List.mem_map.mpr ⟨y, hy, x⟩)⟩
          · rw [show delC (u :: r) u.1 c = (u.1, u.2.1, u.2.2.erase c) :: r by rw [delC, if_pos rfl, if_neg e2]] at hy
            rcases List.mem_cons.mp hy with rfl | hy
            · exact .inr ⟨rfl, e2⟩
            · exact .inl ⟨s y (by simp [hy]), fun x => n1 (List.mem_map.mpr ⟨y, hy, x⟩)⟩
        · rw [show delC (u :: r) z.1 c = u :: delC r z.1 c by rw [delC, if_neg e1]] at hy
          rcases List.mem_cons.mp hy with rfl | hy
          · exact .inl ⟨s y (by simp), e1⟩
          · exact ih n2 (fun v hv => s v (by simp [hv])) y hy
    exact key C k.keys (fun _ h => h)
  have sub := delC_sub (C := C) (h := z.1) (c := c)
  refine ⟨kd, fun y hy => ?_, ?_, ?_, fun y hy => ?_, fun y hy => ?_⟩
  · rcases cls y hy with ⟨a, b⟩ | ⟨rfl, _⟩
    · exact e y a b
    · exact kl
  · have := (sub.map (fun q => q.1)).nodup (by rw [List.map_map]; exact k.keys)
    rw [List.map_map] at this; exact this
  · have := (sub.map (fun q => q.2)).nodup (by rw [List.map_map]; exact k.addrs)
    rw [List.map_map] at this; exact this
  · rcases cls y hy with ⟨a, _⟩ | ⟨rfl, e2⟩
    · exact k.full y a
    · exact e2
  · rcases cls y hy with ⟨a, _⟩ | ⟨rfl, _⟩
    · exact k.bnd y a
    · exact ⟨(k.bnd z hz).1, fun v hv => (k.bnd z hz).2 v (List.mem_of_mem_erase hv)⟩
theorem i_dpop1 {td ty : TE} {σ : L2.St} {H : Hp} {Q : VK} (h : td σ H fun x H1 => ∃ a, x = .ref a ∧ IsD H1 a ∧ ty σ H1 fun y H2 => ∃ kvs k v, H2 a = some (.dK kvs) ∧ y = kV k ∧ valV kvs k = some v ∧ Q v (L2.upd H2 a (.dK (dropK kvs k)))) : tDPop1 td ty σ H Q := h
theorem addr_uniq {C : Cuts} (n : (C.map (·.2.1)).Nodup) {y z : Int × Addr × List Int} (hy : y ∈ C) (hz : z ∈ C) (e : y.2.1 = z.2.1) : y = z := by
  induction C with
  | nil => cases hy
  | cons u r ih =>
    obtain ⟨n1, n2⟩ := List.nodup_cons.mp n
    rcases List.mem_cons.mp hy with a | a
    · rcases List.mem_cons.mp hz with b | b
      · rw [a, b]
      · exact absurd (List.mem_map.mpr ⟨z, b, by rw [← e, a]⟩) n1
    · rcases List.mem_cons.mp hz with b | b
      · exact absurd (List.mem_map.mpr ⟨y, a, by rw [e, b]⟩) n1
      · exact ih n2 a b
theorem dk_ne {N : IceN} {dc : Addr} {C : Cuts} : HO.dK (dkN N dc) ≠ .dK (dcv C) := by
  intro z
  injection z with z
  cases C with
  | nil => cases z
  | cons y r =>
    injection z with z _
    injection z with z _
    cases z
theorem CutsAt.ins {H H' : Hp} {b : Int} {dc x D dx : Addr} {fs : List (Str × V)} {C : Cuts} (k : CutsAt H b dc C) (hx : H x = some (.ins D dx fs)) (e : But x H H') : CutsAt H' b dc C := ⟨e _ _ (ne_of k.dk hx (by intro z; cases z)) k.dk, fun z hz => e _ _ (ne_of (k.at_ z hz) hx (by intro z; cases z)) (k.at_ z hz), k.keys, k.addrs, k.full, k.bnd⟩
end
theorem get_look {H : Hp} {b : Int} {dc em : Addr} {C : Cuts} (k : CutsAt H b dc C) (he : H em = some (.lst [])) (h : Int) : ∃ l0, (valV (dcv C) (Sum.inl h)).getD (.ref em) = .ref l0 ∧ H l0 = some (.lst ((look C h).map V.int)) := by
  by_cases m : h ∈ C.map (·.1)
  · obtain ⟨z, hz, rfl⟩ := List.mem_map.mp m
    refine ⟨z.2.1, by rw [valV_dcv k.keys hz]; rfl, ?_⟩
    rw [look_mem k.keys hz]
    exact k.at_ z hz
  · refine ⟨em, by rw [valV_dcv_none m]; rfl, ?_⟩
    rw [look_none m]
    exact he
theorem PairsAt.sm {K : PySem.W.Frag} {H : Hp} : ∀ {bs : List Addr} {B : Brk}, PairsAt H bs B → (∀ z ∈ B, z.1.natAbs < 10 ^ 60 ∧ z.2.natAbs < 10 ^ 60) → SmAll K H 1 2000 (rf bs) (B.map pd2)
  | [], [], _, _ => .nil
  | [], _ :: _, p, _ => absurd p.1 (by simp)
  | _ :: _, [], p, _ => absurd p.1 (by simp)
  | a :: r, z :: q, p, b => .cons ((Sm.tup (k := 0) (p.2 0 a z rfl rfl) (.cons (Ps.sm (.int (b z (by simp)).1)) (.cons (Ps.sm (.int (b z (by simp)).2)) .nil))).mono (Nat.le_refl _) (by simp)) (PairsAt.sm ⟨by have := p.1; simpa using this, fun i b y h1 h2 => p.2 (i + 1) b y h1 h2⟩ (fun y hy => b y (by simp [hy])))
def pd3 (z : Int × Int × Int) : PyData := .tuple [.int z.1, .int z.2.1, .int z.2.2]
theorem TripsAt.sm {K : PySem.W.Frag} {H : Hp} : ∀ {bs : List Addr} {B : Pcs}, TripsAt H bs B → (∀ z ∈ B, z.1.natAbs < 10 ^ 60 ∧ z.2.1.natAbs < 10 ^ 60 ∧ z.2.2.natAbs < 10 ^ 60) → SmAll K H 1 2000 (rf bs) (B.map pd3)
  | [], [], _, _ => .nil
  | [], _ :: _, p, _ => absurd p.1 (by simp)
  | _ :: _, [], p, _ => absurd p.1 (by simp)
  | a :: r, z :: q, p, b => .cons ((Sm.tup (k := 0) (p.2 0 a z rfl rfl) (.cons (Ps.sm (.int (b z (by simp)).1)) (.cons (Ps.sm (.int (b z (by simp)).2.1)) (.cons (Ps.sm (.int (b z (by simp)).2.2)) .nil)))).mono (Nat.le_refl _) (by simp)) (TripsAt.sm ⟨by have := p.1; simpa using this, fun i b y h1 h2 => p.2 (i + 1) b y h1 h2⟩ (fun y hy => b y (by simp [hy])))
theorem big_le {n : Nat} (h : n ≤ 16000000) : n ≤ sizeLine := Nat.le_trans h (by decide)
theorem SmAll.rp {K : PySem.W.Frag} {H : Hp} {r : Addr} {rs : List Addr} {ds : List PyData} (h : H r = some (.lst (rf rs))) (s : SmAll K H 1 2000 (rf rs) ds) (l : rs.length ≤ 1000) : Rp K H (.ref r) (.list ds) := by
  have e : (rf rs).length = rs.length := by simp [rf]
  exact (Sm.lst h s).rp (by omega) (big_le (by rw [e]; omega))
theorem pairs_rp {K : PySem.W.Frag} {H : Hp} {b : Int} {r : Addr} {rs : List Addr} {B : Brk} (h : H r = some (.lst (rf rs))) (p : PairsAt H rs B) (g : BGood b B) (b0 : 0 ≤ b) (l : B.length ≤ 1000) : Rp K H (.ref r) (.list (B.map pd2)) := by
  refine SmAll.rp h (p.sm (fun z hz => ?_)) (by rw [p.1]; exact l)
  have := g.ge z hz
  have p60 : (10 : Nat) ^ 60 = 1000000000000000000000000000000000000000000000000000000000000 := by decide +kernel
  constructor <;> omega
theorem trips_rp {K : PySem.W.Frag} {H : Hp} {N : IceN} {r : Addr} {rs : List Addr} {R : Pcs} (ok : N.ok) (h : H r = some (.lst (rf rs))) (p : TripsAt H rs R) (g : ∀ y ∈ R, RowBnd N y) (l : R.length ≤ 1000) : Rp K H (.ref r) (.list (R.map pd3)) := by
  refine SmAll.rp h (p.sm (fun z hz => ?_)) (by rw [p.1]; exact l)
  have hz := g z hz
  have b0 := hz.b0; have b1 := hz.b1; have c0 := hz.c0; have c1 := hz.c1; have a0 := hz.a0; have a1 := hz.a1; have n0 := ok.b0; have m6 := ok.m6
  have p60 : (10 : Nat) ^ 60 = 1000000000000000000000000000000000000000000000000000000000000 := by decide +kernel
  refine ⟨?_, ?_, ?_⟩ <;> omega
/-- the rows of the Ice are the law's -/
theorem rows_eq {N : IceN} {B : Brk} {C : Cuts} {ys : List Int} (ok : N.ok) (good : BGood N.b B) (perm : B.Perm (flat C)) (n : (C.map (·.1)).Nodup) (f : ∀ z ∈ C, z.2.2 ≠ []) (bd : ∀ z ∈ C, N.b ≤ z.1) (yp : ys.Perm (C.map (·.1))) (rise : ys.Pairwise (· ≤ ·)) :
    ((∃ c r, B = (N.b, c) :: r) → pieces N B = pcs N (some (N.b, N.first)) (sumsK C ys)) ∧ ((¬ ∃ c r, B = (N.b, c) :: r) → (pieces N B).drop 1 = pcs N (some (N.b, N.first)) (sumsK C ys)) := by
  have mem : ∀ k, (∃ z ∈ B, z.1 = k) ↔ k ∈ ys := by
    intro k
    rw [yp.mem_iff, ← mem_flat f]
    constructor
    · rintro ⟨z, hz, e⟩; exact ⟨z, perm.mem_iff.mp hz, e⟩
    · rintro ⟨z, hz, e⟩; exact ⟨z, perm.mem_iff.mpr hz, e⟩
  rcases pieces_rows ok good perm n f bd yp rise with ⟨⟨q, hq⟩, e⟩ | ⟨lt, e⟩
  · refine ⟨fun _ => e, fun no => absurd ?_ no⟩
    obtain ⟨z, hz, ez⟩ := (mem N.b).mpr (by rw [hq]; simp)
    cases B with
    | nil => cases hz
    | cons y r =>
      have h0 : N.b ≤ y.1 := (good.ge y (by simp)).1
      have h1 : y.1 ≤ N.b := by
        rcases List.mem_cons.mp hz with e | e
        · rw [e] at ez; omega
        · rcases (List.pairwise_cons.mp good.srt).1 z e with h | ⟨h, _⟩ <;> omega
      exact ⟨y.2, r, by rw [show N.b = y.1 by omega]⟩
  · refine ⟨fun ⟨c, r, eB⟩ => ?_, fun _ => by rw [e]; rfl⟩
    have hb := (mem N.b).mp ⟨(N.b, c), by rw [eB]; simp, rfl⟩
    have h1 : N.b ∈ (pcs N (some (N.b, N.first)) (sumsK C ys)).map (·.1) := by rw [pcs_hours, sums_hours]; exact hb
    obtain ⟨y, hy, ey⟩ := List.mem_map.mp h1
    have := lt y hy
    omega
theorem i_rng2 {tA : TA} {σ : L2.St} {H : Hp} {R : It → Hp → Prop} (h : tA σ H fun vs H1 => ∃ i j : Int, vs = [.int i, .int j] ∧ (-(2 ^ 62) ≤ i ∧ i < 2 ^ 62 ∧ -(2 ^ 62) ≤ j ∧ j < 2 ^ 62) ∧ R (Itr i (j - i).toNat) H1) : iRng2 tA σ H R := h
section
variable {P : Program} {w : World} {K : PySem.W.Frag} {mg : Str → Option Value} {base : Heap}
/-- one of the two, of things made since -/
structure One (H0 : Hp) (T : Top K mg) (H : Hp) (p x : Addr) (N : IceN) (dc : Addr) (C : Cuts) (B : Brk) (i : Nat) : Prop where
  al : Alike T H p x N dc C B
  nx : H0 x = none
  nd : H0 dc = none
  nc : ∀ z ∈ C, H0 z.2.1 = none
  le : B.length ≤ i
structure Apart (x dc : Addr) (C : Cuts) (x' dc' : Addr) (C' : Cuts) : Prop where
  x : x ≠ x'
  d : dc ≠ dc'
  c : ∀ z ∈ C, ∀ y ∈ C', z.2.1 ≠ y.2.1
theorem Apart.symm {x dc : Addr} {C : Cuts} {x' dc' : Addr} {C' : Cuts} (a : Apart x dc C x' dc' C') : Apart x' dc' C' x dc C := ⟨a.x.symm, a.d.symm, fun z hz y hy => (a.c y hy z hz).symm⟩
theorem One.same {H0 H H' : Hp} {T : Top K mg} {p x dc : Addr} {N : IceN} {C : Cuts} {B : Brk} {i : Nat} (o : One H0 T H p x N dc C B i) (e : Same H H') : One H0 T H' p x N dc C B i := ⟨o.al.same e, o.nx, o.nd, o.nc, o.le⟩
theorem One.box {H0 H H' : Hp} {T : Top K mg} {p x dc b : Addr} {n : Nat} {N : IceN} {C : Cuts} {B : Brk} {i : Nat} (o : One H0 T H p x N dc C B i) (hb : Box H b n) (off : ∀ z ∈ C, z.2.1 ≠ b) (e : But b H H') : One H0 T H' p x N dc C B i := ⟨o.al.box hb off e, o.nx, o.nd, o.nc, o.le⟩
theorem Alike.keeps {T : Top K mg} {H H' : Hp} {b p x dc p' x' dc' : Addr} {n : Nat} {N N' : IceN} {C C' : Cuts} {B B' : Brk} (o : Alike T H p x N dc C B) (hb : Box H b n) (off : ∀ z ∈ C, z.2.1 ≠ b) (m : Alike T H p' x' N' dc' C' B') (ap : Apart x dc C x' dc' C') (k : Keeps b x' dc' C' H H') : Alike T H' p x N dc C B := by
  obtain ⟨hp, ok, cu, ice, good, perm⟩ := o
  obtain ⟨dx', ch', lb', lp', bs', ps', hx', hc', hlb', pB', hlp', tP'⟩ := m.ice
  obtain ⟨dx, ch, lb, lp, bs, ps, hx, ⟨dch, n', o, t, h, d, hcc⟩, hlb, pB, hlp, tP⟩ := ice
  have ni : ∀ {a : Addr} {o : HO}, H a = some o → (∀ c r, o ≠ .lst (.int c :: r)) → ∀ z ∈ C', a ≠ z.2.1 := fun h h4 z hz => by
    obtain ⟨c, r, ec⟩ := List.exists_cons_of_ne_nil (m.cuts.full z hz)
    exact ne_of h (m.cuts.at_ z hz) (by rw [ec]; exact h4 c (r.map V.int))
  have nb : ∀ {a : Addr} {o : HO}, H a = some o → (∀ c r, o ≠ .lst (.int c :: r)) → a ≠ b := fun h h4 => box_off hb h (fun i j k => h4 i _)
  have rn : ∀ (bs : List Addr) (c : Int) (r : List V), HO.lst (rf bs) ≠ .lst (.int c :: r) := fun bs c r z => by
    injection z with z
    cases bs with
    | nil => cases z
    | cons b q => injection z with z _; cases z
  have kt : ∀ a xs, H a = some (.tup xs) → H' a = some (.tup xs) := fun a xs h => k a _ (nb h nofun) (ne_of h hx' nofun) (ne_of h m.cuts.dk nofun) (ni h nofun) h
  have kr : ∀ a bs, H a = some (.lst (rf bs)) → H' a = some (.lst (rf bs)) := fun a bs h => k a _ (nb h (rn bs)) (ne_of h hx' nofun) (ne_of h m.cuts.dk nofun) (ni h (rn bs)) h
  refine ⟨k p _ (nb hp nofun) (ne_of hp hx' nofun) (ne_of hp m.cuts.dk dk_ne) (ni hp nofun) hp, ok, ⟨k dc _ (nb cu.dk nofun) (ne_of cu.dk hx' nofun) ap.d (ni cu.dk nofun) cu.dk, fun z hz => ?_, cu.keys, cu.addrs, cu.full, cu.bnd⟩, ⟨dx, ch, lb, lp, bs, ps, k x _ (nb hx nofun) ap.x (ne_of hx m.cuts.dk nofun) (ni hx nofun) hx, ⟨dch, n', o, t, h, d, k ch _ (nb hcc nofun) ?_ (ne_of hcc m.cuts.dk nofun) (ni hcc nofun) hcc⟩, kr _ _ hlb, pB.keep kt, kr _ _ hlp, tP.keep kt⟩, good, perm⟩
  · have hl := cu.at_ z hz
    exact k _ _ (off z hz) (ne_of hl hx' nofun) (ne_of hl m.cuts.dk nofun) (ap.c z hz) hl
  · refine ne_of hcc hx' ?_
    intro z
    injection z with _ _ z
    injection z with z _
    injection z with z _
    exact absurd z (by decide +kernel)
theorem refs_keep {T : Top K mg} {H H' : Hp} {b l q r p' x' dc' : Addr} {n : Nat} {N' : IceN} {C' : Cuts} {B' : Brk} (h : H l = some (.lst [.ref q, .ref r])) (hb : Box H b n) (m : Alike T H p' x' N' dc' C' B') (k : Keeps b x' dc' C' H H') : H' l = some (.lst [.ref q, .ref r]) := by
  obtain ⟨dx', ch', lb', lp', bs', ps', hx', hc', hlb', pB', hlp', tP'⟩ := m.ice
  refine k l _ (box_off hb h nofun) (ne_of h hx' nofun) (ne_of h m.cuts.dk nofun) (fun z hz => ?_) h
  obtain ⟨c, r, ec⟩ := List.exists_cons_of_ne_nil (m.cuts.full z hz)
  exact ne_of h (m.cuts.at_ z hz) (by rw [ec]; nofun)
/-- a deed at one of both -/
theorem deed_step {H0 H H' : Hp} {T : Top K mg} {b p x dc p' x' dc' : Addr} {n i : Nat} {N N' : IceN} {C C' C2 : Cuts} {B B' B2 : Brk} (s : Same H0 H) (o : One H0 T H p x N dc C B i) (m : One H0 T H p' x' N' dc' C' B' i) (ap : Apart x dc C x' dc' C') (hb : Box H b n) (nb : H0 b = none) (off' : ∀ z ∈ C', z.2.1 ≠ b)
    (k : Keeps b x dc C H H') (a2 : Alike T H' p x N dc C2 B2) (le : B2.length ≤ B.length + 1) (sub : ∀ z ∈ C2, z ∈ C ∨ H z.2.1 = none ∨ ∃ y ∈ C, z.2.1 = y.2.1) : Same H0 H' ∧ One H0 T H' p x N dc C2 B2 (i + 1) ∧ One H0 T H' p' x' N' dc' C' B' (i + 1) ∧ Apart x dc C2 x' dc' C' := by
  refine ⟨fun a v h => k a v (ne_of_none h nb) (ne_of_none h o.nx) (ne_of_none h o.nd) (fun z hz => ne_of_none h (o.nc z hz)) (s a v h), ⟨a2, o.nx, o.nd, fun z hz => ?_, by have := o.le; omega⟩, ⟨m.al.keeps hb off' o.al ap.symm k, m.nx, m.nd, m.nc, by have := m.le; omega⟩, ⟨ap.x, ap.d, fun z hz y hy => ?_⟩⟩
  · rcases sub z hz with h | h | ⟨y, hy, e⟩
    · exact o.nc z h
    · exact none_back s h
    · rw [e]; exact o.nc y hy
  · rcases sub z hz with h | h | ⟨u, hu, e⟩
    · exact ap.c z h y hy
    · exact (ne_of_none (m.al.cuts.at_ y hy) h).symm
    · rw [e]; exact ap.c u hu y hy
end

end Ice

set_option Elab.async false
set_option linter.all false
set_option maxRecDepth 100000
set_option maxHeartbeats 4000000
namespace Ice
open PySem PySem.Spec PyProof.Rows L2 TL
/-! side conditions, heaps, one step of a reading, and many -/
local macro_rules | `(tactic| walk_at "hp") => `(tactic| first | assumption | exact upd_same | exact New.at_ (by assumption) | (refine keepU ?_ (by assumption); walk_at "hp") | (refine New.app (by assumption) ?_; walk_at "hp") | (refine Same.app (by assumption) ?_; walk_at "hp") | (refine But.app (by assumption) (by assumption) ?_; walk_at "hp"))
local macro_rules | `(tactic| walk_at "sq") => `(tactic| first | assumption | exact SqL.lst (by walk_at "hp") | exact L2.Same.seq (New.same (by assumption)) (by assumption) | exact L2.Same.seq (by assumption) (by assumption))
local macro_rules | `(tactic| walk_at "len") => `(tactic| first | assumption | (simp only [List.length_cons, List.length_nil, List.length_append, List.length_map]; decide) | (refine Ice.sz_of ?_; simp only [List.length_cons, List.length_nil, List.length_append, List.length_map]; omega))
local macro_rules | `(tactic| walk_at "fresh") => `(tactic| (simp only [List.map_append, List.map_cons, List.map_nil, List.nil_append, List.cons_append]; decide +kernel))
local macro_rules | `(tactic| walk_at "sd") => `(tactic| first | assumption | (show _ ≠ _; omega) | exact Or.inl ⟨by omega, by omega⟩ | exact Or.inr ⟨by omega, by omega⟩ | exact ⟨by decide, by decide⟩ | exact ⟨by decide, by decide, by decide⟩ | exact ⟨by omega, by omega, by omega⟩)
/-! one step of a reading, and many -/
local macro_rules | `(tactic| walk_at "st") => `(tactic| first
  | with_reducible refine i_seq ?_
  | with_reducible refine i_if ?_
  | with_reducible refine i_next ?_
  | with_reducible refine i_ret ?_
  | with_reducible refine i_retN ?_
  | with_reducible refine i_drop ?_
  | with_reducible refine i_asg ?_
  | with_reducible refine i_gname ?_
  | with_reducible refine i_gsub ?_
  | ((with_reducible refine i_var (v := ?vv) ?hv ?_); (case hv => exact rfl))
  | with_reducible refine i_c ?_
  | with_reducible refine i_op ?_
  | with_reducible refine i_un ?_
  | with_reducible refine i_test ?_
  | with_reducible refine i_tB ?_
  | with_reducible refine i_and ?_
  | with_reducible refine i_or ?_
  | with_reducible refine i_not ?_
  | with_reducible refine i_andV ?_
  | with_reducible refine i_orV ?_
  | with_reducible refine i_notV ?_
  | with_reducible refine i_ifE ?_
  | with_reducible refine i_chain ?_
  | with_reducible refine i_bl ?_
  | with_reducible refine i_nil ?_
  | with_reducible refine i_cons ?_
  | with_reducible refine i_call ?_
  | with_reducible refine i_cb ?_
  | with_reducible refine i_rI0 ?_
  | with_reducible refine i_rU ?_
  | ((with_reducible refine i_rEq ?hs ?_); (case hs => exact rfl))
  | ((with_reducible refine i_rNe ?hs ?_); (case hs => exact rfl))
  | ((with_reducible refine i_rI ?hc ?_); (case hc => walk_at "sd"))
  | ((with_reducible refine i_ixL (xs := ?xs) (v := ?vv) ?hS ?he ?_); (case hS => walk_at "sq"); (case he => exact rfl))
  | ((with_reducible refine i_setL (xs := ?xs) (j := ?jj) ?hS ?he ?_); (case hS => walk_at "hp"); (case he => exact rfl))
  | with_reducible refine i_tup ?_
  | with_reducible refine i_lst ?_
  | with_reducible refine i_bm ?_
  | with_reducible refine i_bm0 ?_
  | with_reducible refine i_m1 ?_
  | with_reducible refine i_sl ?_
  | with_reducible refine i_nopart ?_
  | with_reducible refine i_part ?_
  | with_reducible refine i_int ?_
  | with_reducible refine i_str ?_
  | with_reducible refine i_for ?_
  | with_reducible refine i_yes ?_
  | ((with_reducible refine i_lenL (xs := ?xs) ?hS ?_); (case hS => walk_at "sq"))
  | ((with_reducible refine i_room ?hz ?_); (case hz => walk_at "len"))
  | with_reducible refine i_leT ?_
  | with_reducible refine i_notInS ?_
  | with_reducible refine i_inS ?_
  | with_reducible refine i_find ?_
  | with_reducible refine i_isB ?_
  | with_reducible refine i_max2 ?_
  | with_reducible refine i_min2 ?_
  | with_reducible exact trivial
  | with_reducible refine iteT ?_
  | with_reducible refine iteF ?_
  | with_reducible refine i_isstr ?_
  | with_reducible refine i_lc ?_
  | ((with_reducible refine i_cat (xs := ?xs) (zs := ?zs) ?ha ?hb ?hz ?_); (case ha => walk_at "hp"); (case hb => walk_at "hp"); (case hz => walk_at "len"))
  | ((with_reducible refine i_tyL (xs := ?xs) ?ha ?_); (case ha => walk_at "hp"))
  | with_reducible refine i_list ?_
  | with_reducible refine i_disp ?_
  | with_reducible refine i_pairs0 ?_
  | with_reducible refine i_pairs ?_
  | with_reducible refine i_newK ?_
  | with_reducible refine i_gcons ?_
  | with_reducible refine i_gnil ?_
  | with_reducible refine i_revL ?_
  | with_reducible refine i_rng1 ?_
  | ((with_reducible refine i_wipe ?hw ?_); (case hw => exact rfl))
  | with_reducible refine iteNT ?_
  | with_reducible refine iteNF ?_)
local macro_rules | `(tactic| walk_at "sx") => `(tactic| first
  | walk_at "st"
  | with_reducible refine i_kinit ?_
  | with_reducible refine i_ost ?_
  | with_reducible refine i_mkO ?_
  | with_reducible refine i_callE ?_
  | with_reducible refine i_makeE ?_
  | with_reducible refine i_xf ?_
  | with_reducible refine i_sfld ?_
  | with_reducible refine i_fld ?_
  | ((with_reducible refine i_ixT (xs := ?xs) (v := ?vv) ?hS ?he ?_); (case hS => exact SqT.tup (by walk_at "hp")); (case he => exact rfl))
  | with_reducible refine i_intB ?_
  | with_reducible refine i_runS ?_
  | with_reducible refine i_runN ?_
  | ((with_reducible refine i_xf1 (fs := ?ff) (v := ?vv) ?hx ?hl ?_); (case hx => walk_at "hp"); (case hl => exact rfl))
  | with_reducible refine i_methE ?_
  | with_reducible refine i_meth ?_
  | with_reducible refine i_make ?_
  | ((with_reducible refine i_obj (dx := ?dd) (fs := ?ff) ?hx ?hl ?_); (case hx => walk_at "hp"); (case hl => exact rfl))
  | ((with_reducible refine i_fld1 (C := ?CC) (dx := ?dd) (fs := ?ff) (v := ?vv) ?hx ?cl ?na ?hl ?_); (case hx => walk_at "hp"); (case cl => assumption); (case na => assumption); (case hl => exact rfl)))
local macro_rules | `(tactic| walk_at "sy") => `(tactic| first
  | walk_at "sx"
  | with_reducible refine i_dget ?_
  | with_reducible refine i_dget2 ?_
  | with_reducible refine i_dput ?_
  | with_reducible refine i_din ?_
  | ((with_reducible refine i_aug (x := ?vv) ?hx ?_); (case hx => exact rfl)))
local macro_rules | `(tactic| walk_at "rd") => `(tactic| repeat (walk_at "sy"))

/-! the ice hour by hour -/
def mx (x : Int) : Int := if x > 0 then x else 0
def wk (N : IceN) : Int × Int → Brk → Int → Int × Int
  | s, [], h => (grown N s.2 (h - s.1), grown N s.2 (h - s.1))
  | s, (k, c) :: r, h => if h < k then (grown N s.2 (h - s.1), grown N s.2 (h - s.1)) else if k = h then (grown N s.2 (h - s.1), mx (grown N s.2 (h - s.1) - c)) else wk N (k, mx (grown N s.2 (k - s.1) - c)) r h
theorem stOf_hi {P : Pcs} {s : Int × Int} {h : Int} (p : ∀ y ∈ P, h < y.1) : stOf P s h = s := by
  induction P generalizing s with
  | nil => rfl
  | cons y q ih =>
    show stOf q (if y.1 < h then (y.1, y.2.2) else s) h = s
    rw [if_neg (by have := p y (by simp); omega)]
    exact ih (fun u hu => p u (by simp [hu]))
theorem pcs_hi {N : IceN} {S : Brk} {o : Option (Int × Int)} {h : Int} (p : ∀ y ∈ S, h < y.1) : ∀ y ∈ pcs N o S, h < y.1 := by
  intro y hy
  have h1 : y.1 ∈ (pcs N o S).map (·.1) := List.mem_map.mpr ⟨y, hy, rfl⟩
  rw [pcs_hours] at h1
  obtain ⟨z, hz, e⟩ := List.mem_map.mp h1
  rw [← e]; exact p z hz
theorem at_hi {N : IceN} {P : Pcs} {s : Int × Int} {h : Int} (p : ∀ y ∈ P, h < y.1) : atOf N P s h = (grown N s.2 (h - s.1), grown N s.2 (h - s.1)) := by
  have f : P.find? (fun z => decide (z.1 = h)) = none := by
    rw [List.find?_eq_none]
    intro y hy
    have := p y hy
    simp; omega
  unfold atOf
  rw [f, stOf_hi p]
theorem rise_cons {k c : Int} {r : Brk} (q : Rise ((k, c) :: r)) : (∀ y ∈ r, k < y.1) ∧ Rise r := by
  obtain ⟨a, b⟩ := List.pairwise_cons.mp q
  exact ⟨fun y hy => a y.1 (List.mem_map.mpr ⟨y, hy, rfl⟩), b⟩
theorem wk_at {N : IceN} : ∀ (S : Brk) (s : Int × Int) (h : Int), Rise S → atOf N (pcs N (some s) S) s h = wk N s S h
  | [], s, h, _ => rfl
  | (k, c) :: r, s, h, q => by
    obtain ⟨q1, q2⟩ := rise_cons q
    show _ = if h < k then _ else if k = h then _ else _
    by_cases e1 : h < k
    · rw [if_pos e1]
      refine at_hi (pcs_hi (fun y hy => ?_))
      rcases List.mem_cons.mp hy with rfl | hy
      · exact e1
      · have := q1 y hy; omega
    · rw [if_neg e1]
      have ep : pcs N (some s) ((k, c) :: r) = (k, grown N s.2 (k - s.1), mx (grown N s.2 (k - s.1) - c)) :: pcs N (some (k, mx (grown N s.2 (k - s.1) - c))) r := rfl
      rw [ep]
      by_cases e2 : k = h
      · subst e2
        rw [if_pos rfl]
        unfold atOf
        rw [List.find?_cons, decide_eq_true rfl]
      · rw [if_neg e2, ← wk_at r _ h q2]
        unfold atOf
        rw [List.find?_cons, decide_eq_false e2]
        have : ∀ P : Pcs, stOf ((k, grown N s.2 (k - s.1), mx (grown N s.2 (k - s.1) - c)) :: P) s h = stOf P (k, mx (grown N s.2 (k - s.1) - c)) h := fun P => by
          show stOf P (if k < h then _ else s) h = _
          rw [if_pos (by omega)]
        rw [this]
def cutAt (S : Brk) (h : Int) : Int := (lookC S h).getD 0
theorem cutAt_hi {S : Brk} {h : Int} (p : ∀ y ∈ S, h < y.1) : cutAt S h = 0 := by
  induction S with
  | nil => rfl
  | cons y r ih =>
    have e : lookC (y :: r) h = lookC r h := if_neg (by have := p y (by simp); omega)
    unfold cutAt
    rw [e]
    exact ih (fun u hu => p u (by simp [hu]))
theorem grown_grown {N : IceN} (g : 0 ≤ N.growth) {v d e : Int} (d0 : 0 ≤ d) (e0 : 0 ≤ e) : grown N (grown N v d) e = grown N v (d + e) := by
  have m0 := Int.mul_nonneg g d0
  have m1 := Int.mul_nonneg g e0
  have m2 : N.growth * (d + e) = N.growth * d + N.growth * e := Int.mul_add _ _ _
  unfold grown
  split <;> split <;> split <;> omega
theorem grown_nn {N : IceN} (ok : N.ok) {v d : Int} (v0 : 0 ≤ v) (d0 : 0 ≤ d) : 0 ≤ grown N v d := by
  have m0 := Int.mul_nonneg ok.g0 d0
  have f0 := ok.f0; have fm := ok.fm
  unfold grown
  split <;> omega
theorem mx_nn (x : Int) : 0 ≤ mx x := by unfold mx; split <;> omega
theorem mx_id {x : Int} (h : 0 ≤ x) : mx (x - 0) = x := by unfold mx; split <;> omega
theorem mx_le {x c m : Int} (h : x ≤ m) (c0 : 0 ≤ c) (m0 : 0 ≤ m) : mx (x - c) ≤ m := by unfold mx; split <;> omega
theorem wk_step {N : IceN} (ok : N.ok) : ∀ (S : Brk) (s : Int × Int) (t h : Int), Rise S → s.1 ≤ t → t < h → 0 ≤ s.2 → s.2 ≤ N.most → (∀ y ∈ S, s.1 ≤ y.1 ∧ 0 ≤ y.2) → (∀ y ∈ S, ¬ (t < y.1 ∧ y.1 < h)) →
    wk N s S h = (grown N (wk N s S t).2 (h - t), mx (grown N (wk N s S t).2 (h - t) - cutAt S h))
  | [], s, t, h, _, st, th, s0, s1, _, _ => by
    have e : grown N s.2 (h - s.1) = grown N (grown N s.2 (t - s.1)) (h - t) := by rw [grown_grown ok.g0 (by omega) (by omega)]; congr 1; omega
    show (grown N s.2 (h - s.1), grown N s.2 (h - s.1)) = (grown N (grown N s.2 (t - s.1)) (h - t), mx (grown N (grown N s.2 (t - s.1)) (h - t) - 0))
    rw [← e, mx_id (grown_nn ok s0 (by omega))]
  | (k, c) :: r, s, t, h, q, st, th, s0, s1, ge, no => by
    obtain ⟨q1, q2⟩ := rise_cons q
    have e : grown N s.2 (h - s.1) = grown N (grown N s.2 (t - s.1)) (h - t) := by rw [grown_grown ok.g0 (by omega) (by omega)]; congr 1; omega
    have sk : s.1 ≤ k := (ge (k, c) (by simp)).1
    have c0 : 0 ≤ c := (ge (k, c) (by simp)).2
    have nk : ¬ (t < k ∧ k < h) := no (k, c) (by simp)
    have fm := ok.fm; have f0 := ok.f0
    have b1 : mx (grown N s.2 (k - s.1) - c) ≤ N.most := mx_le grown_le c0 (by omega)
    have b0 := mx_nn (grown N s.2 (k - s.1) - c)
    have u1 : ∀ x, x < k → wk N s ((k, c) :: r) x = (grown N s.2 (x - s.1), grown N s.2 (x - s.1)) := fun x hx => if_pos hx
    have u2 : wk N s ((k, c) :: r) k = (grown N s.2 (k - s.1), mx (grown N s.2 (k - s.1) - c)) := by
      show (if k < k then _ else if k = k then _ else _) = _
      rw [if_neg (by omega), if_pos rfl]
    have u3 : ∀ x, k < x → wk N s ((k, c) :: r) x = wk N (k, mx (grown N s.2 (k - s.1) - c)) r x := fun x hx => by
      show (if x < k then _ else if k = x then _ else _) = _
      rw [if_neg (by omega), if_neg (by omega)]
    have cu : ∀ x, k ≠ x → cutAt ((k, c) :: r) x = cutAt r x := fun x hx => by unfold cutAt; rw [show lookC ((k, c) :: r) x = lookC r x from if_neg hx]
    rcases Int.lt_trichotomy h k with l | l | l
    · rw [u1 h l, u1 t (by omega), ← e, cutAt_hi (fun y hy => by
        rcases List.mem_cons.mp hy with rfl | hy
        · exact l
        · have := q1 y hy; omega), mx_id (grown_nn ok s0 (by omega))]
    · subst l
      rw [u2, u1 t th, ← e, show cutAt ((h, c) :: r) h = c from by unfold cutAt; rw [show lookC ((h, c) :: r) h = some c from if_pos rfl]; rfl]
    · have kt : k ≤ t := by omega
      have ger : ∀ y ∈ r, k ≤ y.1 ∧ 0 ≤ y.2 := fun y hy => ⟨by have := q1 y hy; omega, (ge y (by simp [hy])).2⟩
      have nor : ∀ y ∈ r, ¬ (t < y.1 ∧ y.1 < h) := fun y hy => no y (by simp [hy])
      have ih := wk_step ok r (k, mx (grown N s.2 (k - s.1) - c)) t h q2 kt th b0 b1 ger nor
      rw [u3 h l, cu h (by omega), ih]
      have et : (wk N (k, mx (grown N s.2 (k - s.1) - c)) r t).2 = (wk N s ((k, c) :: r) t).2 := by
        rcases Int.lt_or_eq_of_le kt with l2 | l2
        · rw [u3 t l2]
        · subst l2
          rw [u2, ← wk_at r _ k q2, at_hi (pcs_hi q1)]
          show grown N _ (k - k) = _
          rw [Int.sub_self, grown_zero b1]
      rw [et]
/-- the ice of an hour: ahead, behind -/
def iceAt (N : IceN) (B : Brk) (h : Int) : Int × Int := wk N (N.b, N.first) (cbh N.b B) h
theorem pieces_some {N : IceN} {B : Brk} (ok : N.ok) (bo : BOk N.b B) : pieces N B = pcs N (some (N.b, N.first)) (cbh N.b B) := by
  obtain ⟨c, r, e⟩ := pieces_head bo
  unfold pieces
  rw [e]
  have e3 : aheadOf N (some (N.b, N.first)) N.b = aheadOf N none N.b := by
    show grown N N.first (N.b - N.b) = N.first
    rw [Int.sub_self, grown_zero ok.fm]
  show (N.b, aheadOf N none N.b, _) :: pcs N _ _ = (N.b, aheadOf N (some (N.b, N.first)) N.b, _) :: pcs N _ _
  rw [e3]
theorem cut_sum {b : Int} {B : Brk} (k : Int) : cutAt (cbh b B) k = sumAt B k := by
  unfold cutAt cbh
  rw [lookC_fold]
  have l0 : (lookC [(b, 0)] k).getD 0 = 0 := by
    show (if b = k then some (0 : Int) else none).getD 0 = 0
    split <;> rfl
  rw [l0]
  split
  · show 0 + sumAt B k = sumAt B k
    omega
  · rename_i n
    have : sumAt B k = 0 := by
      unfold sumAt
      rw [List.filter_eq_nil_iff.mpr (fun z hz => by
        have : ¬ z.1 = k := fun e => n (.inl ⟨z, hz, e⟩)
        simp [this])]
      rfl
    rw [this]; rfl
theorem cbh_mem {b : Int} {B : Brk} (h : ∀ z ∈ B, b ≤ z.1 ∧ 0 ≤ z.2) : ∀ z ∈ cbh b B, (z.1 = b ∨ ∃ y ∈ B, y.1 = z.1) ∧ b ≤ z.1 ∧ 0 ≤ z.2 := by
  have one : ∀ (acc : Brk) (h c : Int), 0 ≤ c → (∀ z ∈ acc, 0 ≤ z.2) → ∀ z ∈ addC acc h c, (z.1 = h ∨ ∃ y ∈ acc, y.1 = z.1) ∧ 0 ≤ z.2 := by
    intro acc h c c0
    induction acc with
    | nil => intro _ z hz; have : z = (h, c) := by simpa [addC] using hz
             subst this; exact ⟨.inl rfl, c0⟩
    | cons y r ih =>
      obtain ⟨k, v⟩ := y
      intro ha z hz
      have v0 : 0 ≤ v := ha (k, v) (by simp)
      by_cases e : k = h
      · rw [show addC ((k, v) :: r) h c = (k, v + c) :: r from if_pos e] at hz
        rcases List.mem_cons.mp hz with rfl | hz
        · exact ⟨.inl e, by show 0 ≤ v + c; omega⟩
        · exact ⟨.inr ⟨z, by simp [hz], rfl⟩, ha z (by simp [hz])⟩
      · rw [show addC ((k, v) :: r) h c = (k, v) :: addC r h c from if_neg e] at hz
        rcases List.mem_cons.mp hz with rfl | hz
        · exact ⟨.inr ⟨(k, v), by simp, rfl⟩, v0⟩
        · obtain ⟨a, b⟩ := ih (fun u hu => ha u (by simp [hu])) z hz
          exact ⟨a.imp id (fun ⟨y, hy, e⟩ => ⟨y, by simp [hy], e⟩), b⟩
  have all : ∀ (B acc : Brk), (∀ z ∈ B, 0 ≤ z.2) → (∀ z ∈ acc, 0 ≤ z.2) → ∀ z ∈ B.foldl (fun acc z => addC acc z.1 z.2) acc, ((∃ y ∈ acc, y.1 = z.1) ∨ ∃ y ∈ B, y.1 = z.1) ∧ 0 ≤ z.2 := by
    intro B
    induction B with
    | nil => intro acc _ ha z hz; exact ⟨.inl ⟨z, hz, rfl⟩, ha z hz⟩
    | cons u B ih =>
      intro acc hb ha z hz
      have o := one acc u.1 u.2 (hb u (by simp)) ha
      obtain ⟨a, b⟩ := ih (addC acc u.1 u.2) (fun y hy => hb y (by simp [hy])) (fun y hy => (o y hy).2) z hz
      refine ⟨?_, b⟩
      rcases a with ⟨y, hy, e⟩ | ⟨y, hy, e⟩
      · rcases (o y hy).1 with e2 | ⟨v, hv, e2⟩
        · exact .inr ⟨u, by simp, by rw [← e2, e]⟩
        · exact .inl ⟨v, hv, e2.trans e⟩
      · exact .inr ⟨y, by simp [hy], e⟩
  intro z hz
  obtain ⟨a, v0⟩ := all B [(b, 0)] (fun y hy => (h y hy).2) (fun y hy => by
    have : y = (b, 0) := by simpa using hy
    rw [this]; exact Int.le_refl _) z hz
  rcases a with ⟨y, hy, e⟩ | ⟨y, hy, e⟩
  · have : y = (b, 0) := by simpa using hy
    rw [this] at e
    have e' : b = z.1 := e
    exact ⟨.inl e'.symm, by rw [← e']; exact Int.le_refl _, v0⟩
  · exact ⟨.inr ⟨y, hy, e⟩, by rw [← e]; exact (h y hy).1, v0⟩
theorem ice_begin {N : IceN} {B : Brk} (ok : N.ok) (bo : BOk N.b B) : iceAt N B N.b = (N.first, mx (N.first - sumAt B N.b)) := by
  obtain ⟨c, r, e⟩ := pieces_head bo
  have e2 : c = sumAt B N.b := by rw [← cut_sum (b := N.b), e]; unfold cutAt; rw [show lookC ((N.b, c) :: r) N.b = some c from if_pos rfl]; rfl
  unfold iceAt
  rw [e]
  show (if N.b < N.b then _ else if N.b = N.b then _ else _) = _
  rw [if_neg (by omega), if_pos rfl]
  show (grown N N.first (N.b - N.b), mx (grown N N.first (N.b - N.b) - c)) = _
  rw [Int.sub_self, grown_zero ok.fm, e2]
theorem ice_step {N : IceN} {B : Brk} (ok : N.ok) (good : BGood N.b B) {t h : Int} (bt : N.b ≤ t) (th : t < h) (no : ∀ z ∈ B, ¬ (t < z.1 ∧ z.1 < h)) : iceAt N B h = (grown N (iceAt N B t).2 (h - t), mx (grown N (iceAt N B t).2 (h - t) - sumAt B h)) := by
  have m := cbh_mem (b := N.b) (B := B) (fun z hz => by have := good.ge z hz; omega)
  unfold iceAt
  rw [wk_step ok (cbh N.b B) (N.b, N.first) t h (cbh_rise good.ok).1 bt th ok.f0 ok.fm (fun y hy => (m y hy).2) (fun y hy => ?_), cut_sum]
  rcases (m y hy).1 with e | ⟨z, hz, e⟩
  · show ¬ (t < y.1 ∧ y.1 < h)
    rw [e]; omega
  · rw [← e]; exact no z hz
/-- what an Ice tells of an hour -/
theorem ice_told {N : IceN} {B : Brk} (ok : N.ok) (good : BGood N.b B) {h : Int} {i : Nat} {z : Int × Int × Int} (a : AtP (pieces N B) h i) (hz : (pieces N B)[i]? = some z) : (if z.1 = h then z.2.1 else grown N z.2.2 (h - z.1)) = (iceAt N B h).1 ∧ grown N z.2.2 (h - z.1) = (iceAt N B h).2 := by
  have k := at_rise (pieces_rise good.ok) a hz N (N.b, N.first)
  have e : atOf N (pieces N B) (N.b, N.first) h = iceAt N B h := by rw [pieces_some ok good.ok, wk_at _ _ _ (cbh_rise good.ok).1]; rfl
  rw [e] at k
  rw [k]
  by_cases e2 : z.1 = h
  · rw [if_pos e2, if_pos e2]
    refine ⟨rfl, ?_⟩
    have le : z.2.2 ≤ N.most := by
      have m6 := ok.m6; have b6 := ok.b6
      have hb := cbh_mem (b := N.b) (B := B) (fun z hz => by have := good.ge z hz; omega)
      have bd := pcs_bnd ok (cbh N.b B) N.b N.first (Int.le_refl _) (by omega) ok.f0 ok.fm (fun y hy => by
        obtain ⟨q1, q2, q3⟩ := hb y hy
        refine ⟨q2, ?_, q3⟩
        rcases q1 with e | ⟨u, hu, e⟩
        · rw [e]; omega
        · rw [← e]; exact (good.ge u hu).2.1)
      rw [← pieces_some ok good.ok] at bd
      exact (bd z (List.mem_of_getElem? hz)).c1
    rw [e2, Int.sub_self, grown_zero le]
  · rw [if_neg e2, if_neg e2]
    exact ⟨rfl, rfl⟩

end Ice

set_option Elab.async false
set_option linter.all false
set_option maxRecDepth 100000
set_option maxHeartbeats 4000000
namespace Ice
open PySem PySem.Spec PyProof.Rows L2 TL
/-! side conditions, heaps, one step of a reading, and many -/
local macro_rules | `(tactic| walk_at "hp") => `(tactic| first | assumption | exact upd_same | exact New.at_ (by assumption) | (refine keepU ?_ (by assumption); walk_at "hp") | (refine New.app (by assumption) ?_; walk_at "hp") | (refine Same.app (by assumption) ?_; walk_at "hp") | (refine But.app (by assumption) (by assumption) ?_; walk_at "hp"))
local macro_rules | `(tactic| walk_at "sq") => `(tactic| first | assumption | exact SqL.lst (by walk_at "hp") | exact L2.Same.seq (New.same (by assumption)) (by assumption) | exact L2.Same.seq (by assumption) (by assumption))
local macro_rules | `(tactic| walk_at "len") => `(tactic| first | assumption | (simp only [List.length_cons, List.length_nil, List.length_append, List.length_map]; decide) | (refine Ice.sz_of ?_; simp only [List.length_cons, List.length_nil, List.length_append, List.length_map]; omega))
local macro_rules | `(tactic| walk_at "fresh") => `(tactic| (simp only [List.map_append, List.map_cons, List.map_nil, List.nil_append, List.cons_append]; decide +kernel))
local macro_rules | `(tactic| walk_at "sd") => `(tactic| first | assumption | (show _ ≠ _; omega) | exact Or.inl ⟨by omega, by omega⟩ | exact Or.inr ⟨by omega, by omega⟩ | exact ⟨by decide, by decide⟩ | exact ⟨by decide, by decide, by decide⟩ | exact ⟨by omega, by omega, by omega⟩)
/-! one step of a reading, and many -/
local macro_rules | `(tactic| walk_at "st") => `(tactic| first
  | with_reducible refine i_seq ?_
  | with_reducible refine i_if ?_
  | with_reducible refine i_next ?_
  | with_reducible refine i_ret ?_
  | with_reducible refine i_retN ?_
  | with_reducible refine i_drop ?_
  | with_reducible refine i_asg ?_
  | with_reducible refine i_gname ?_
  | with_reducible refine i_gsub ?_
  | ((with_reducible refine i_var (v := ?vv) ?hv ?_); (case hv => exact rfl))
  | with_reducible refine i_c ?_
  | with_reducible refine i_op ?_
  | with_reducible refine i_un ?_
  | with_reducible refine i_test ?_
  | with_reducible refine i_tB ?_
  | with_reducible refine i_and ?_
  | with_reducible refine i_or ?_
  | with_reducible refine i_not ?_
  | with_reducible refine i_andV ?_
  | with_reducible refine i_orV ?_
  | with_reducible refine i_notV ?_
  | with_reducible refine i_ifE ?_
  | with_reducible refine i_chain ?_
  | with_reducible refine i_bl ?_
  | with_reducible refine i_nil ?_
  | with_reducible refine i_cons ?_
  | with_reducible refine i_call ?_
  | with_reducible refine i_cb ?_
  | with_reducible refine i_rI0 ?_
  | with_reducible refine i_rU ?_
  | ((with_reducible refine i_rEq ?hs ?_); (case hs => exact rfl))
  | ((with_reducible refine i_rNe ?hs ?_); (case hs => exact rfl))
  | ((with_reducible refine i_rI ?hc ?_); (case hc => walk_at "sd"))
  | ((with_reducible refine i_ixL (xs := ?xs) (v := ?vv) ?hS ?he ?_); (case hS => walk_at "sq"); (case he => exact rfl))
  | ((with_reducible refine i_setL (xs := ?xs) (j := ?jj) ?hS ?he ?_); (case hS => walk_at "hp"); (case he => exact rfl))
  | with_reducible refine i_tup ?_
  | with_reducible refine i_lst ?_
  | with_reducible refine i_bm ?_
  | with_reducible refine i_bm0 ?_
  | with_reducible refine i_m1 ?_
  | with_reducible refine i_sl ?_
  | with_reducible refine i_nopart ?_
  | with_reducible refine i_part ?_
  | with_reducible refine i_int ?_
  | with_reducible refine i_str ?_
  | with_reducible refine i_for ?_
  | with_reducible refine i_yes ?_
  | ((with_reducible refine i_lenL (xs := ?xs) ?hS ?_); (case hS => walk_at "sq"))
  | ((with_reducible refine i_room ?hz ?_); (case hz => walk_at "len"))
  | with_reducible refine i_leT ?_
  | with_reducible refine i_notInS ?_
  | with_reducible refine i_inS ?_
  | with_reducible refine i_find ?_
  | with_reducible refine i_isB ?_
  | with_reducible refine i_max2 ?_
  | with_reducible refine i_min2 ?_
  | with_reducible exact trivial
  | with_reducible refine iteT ?_
  | with_reducible refine iteF ?_
  | with_reducible refine i_isstr ?_
  | with_reducible refine i_lc ?_
  | ((with_reducible refine i_cat (xs := ?xs) (zs := ?zs) ?ha ?hb ?hz ?_); (case ha => walk_at "hp"); (case hb => walk_at "hp"); (case hz => walk_at "len"))
  | ((with_reducible refine i_tyL (xs := ?xs) ?ha ?_); (case ha => walk_at "hp"))
  | with_reducible refine i_list ?_
  | with_reducible refine i_disp ?_
  | with_reducible refine i_pairs0 ?_
  | with_reducible refine i_pairs ?_
  | with_reducible refine i_newK ?_
  | with_reducible refine i_gcons ?_
  | with_reducible refine i_gnil ?_
  | with_reducible refine i_revL ?_
  | with_reducible refine i_rng1 ?_
  | ((with_reducible refine i_wipe ?hw ?_); (case hw => exact rfl))
  | with_reducible refine iteNT ?_
  | with_reducible refine iteNF ?_)
local macro_rules | `(tactic| walk_at "sx") => `(tactic| first
  | walk_at "st"
  | with_reducible refine i_kinit ?_
  | with_reducible refine i_ost ?_
  | with_reducible refine i_mkO ?_
  | with_reducible refine i_callE ?_
  | with_reducible refine i_makeE ?_
  | with_reducible refine i_xf ?_
  | with_reducible refine i_sfld ?_
  | with_reducible refine i_fld ?_
  | ((with_reducible refine i_ixT (xs := ?xs) (v := ?vv) ?hS ?he ?_); (case hS => exact SqT.tup (by walk_at "hp")); (case he => exact rfl))
  | with_reducible refine i_intB ?_
  | with_reducible refine i_runS ?_
  | with_reducible refine i_runN ?_
  | ((with_reducible refine i_xf1 (fs := ?ff) (v := ?vv) ?hx ?hl ?_); (case hx => walk_at "hp"); (case hl => exact rfl))
  | with_reducible refine i_methE ?_
  | with_reducible refine i_meth ?_
  | with_reducible refine i_make ?_
  | ((with_reducible refine i_obj (dx := ?dd) (fs := ?ff) ?hx ?hl ?_); (case hx => walk_at "hp"); (case hl => exact rfl))
  | ((with_reducible refine i_fld1 (C := ?CC) (dx := ?dd) (fs := ?ff) (v := ?vv) ?hx ?cl ?na ?hl ?_); (case hx => walk_at "hp"); (case cl => assumption); (case na => assumption); (case hl => exact rfl)))
local macro_rules | `(tactic| walk_at "sy") => `(tactic| first
  | walk_at "sx"
  | with_reducible refine i_dget ?_
  | with_reducible refine i_dget2 ?_
  | with_reducible refine i_dput ?_
  | with_reducible refine i_din ?_
  | ((with_reducible refine i_aug (x := ?vv) ?hx ?_); (case hx => exact rfl)))
local macro_rules | `(tactic| walk_at "rd") => `(tactic| repeat (walk_at "sy"))

theorem wk_bnd {N : IceN} (ok : N.ok) : ∀ (S : Brk) (s : Int × Int) (h : Int), Rise S → s.1 ≤ h → 0 ≤ s.2 → s.2 ≤ N.most → (∀ y ∈ S, s.1 ≤ y.1 ∧ 0 ≤ y.2) → (0 ≤ (wk N s S h).1 ∧ (wk N s S h).1 ≤ N.most) ∧ 0 ≤ (wk N s S h).2 ∧ (wk N s S h).2 ≤ N.most
  | [], s, h, _, sh, s0, s1, _ => ⟨⟨grown_nn ok s0 (by omega), grown_le⟩, grown_nn ok s0 (by omega), grown_le⟩
  | (k, c) :: r, s, h, q, sh, s0, s1, ge => by
    obtain ⟨q1, q2⟩ := rise_cons q
    have sk : s.1 ≤ k := (ge (k, c) (by simp)).1
    have c0 : 0 ≤ c := (ge (k, c) (by simp)).2
    have fm := ok.fm; have f0 := ok.f0
    have g1 : grown N s.2 (h - s.1) ≤ N.most := grown_le
    have g0 : 0 ≤ grown N s.2 (h - s.1) := grown_nn ok s0 (by omega)
    have e : wk N s ((k, c) :: r) h = if h < k then (grown N s.2 (h - s.1), grown N s.2 (h - s.1)) else if k = h then (grown N s.2 (h - s.1), mx (grown N s.2 (h - s.1) - c)) else wk N (k, mx (grown N s.2 (k - s.1) - c)) r h := rfl
    rw [e]
    split
    · exact ⟨⟨g0, g1⟩, g0, g1⟩
    · split
      · exact ⟨⟨g0, g1⟩, mx_nn _, mx_le g1 c0 (by omega)⟩
      · exact wk_bnd ok r _ h q2 (by show k ≤ h; omega) (mx_nn _) (mx_le grown_le c0 (by omega)) (fun y hy => ⟨by have := q1 y hy; show k ≤ y.1; omega, (ge y (by simp [hy])).2⟩)
theorem ice_bnd {N : IceN} {B : Brk} (ok : N.ok) (good : BGood N.b B) {h : Int} (h0 : N.b ≤ h) : (0 ≤ (iceAt N B h).1 ∧ (iceAt N B h).1 ≤ N.most) ∧ 0 ≤ (iceAt N B h).2 ∧ (iceAt N B h).2 ≤ N.most := by
  have m := cbh_mem (b := N.b) (B := B) (fun z hz => by have := good.ge z hz; omega)
  exact wk_bnd ok _ _ h (cbh_rise good.ok).1 h0 ok.f0 ok.fm (fun y hy => (m y hy).2)
theorem sumAt_none {B : Brk} {k : Int} (n : ∀ z ∈ B, z.1 ≠ k) : sumAt B k = 0 := by
  unfold sumAt
  rw [List.filter_eq_nil_iff.mpr (fun z hz => by simp [n z hz])]
  rfl
theorem ice_same {N : IceN} {B : Brk} (ok : N.ok) (good : BGood N.b B) {t h : Int} (bt : N.b ≤ t) (th : t < h) (no : ∀ z ∈ B, ¬ (t < z.1 ∧ z.1 ≤ h)) : iceAt N B h = (grown N (iceAt N B t).2 (h - t), grown N (iceAt N B t).2 (h - t)) := by
  rw [ice_step ok good bt th (fun z hz => by have := no z hz; omega), sumAt_none (fun z hz => by have := no z hz; omega), mx_id (grown_nn ok (ice_bnd ok good bt).2.1 (by omega))]
theorem ice_cut {N : IceN} {B : Brk} (ok : N.ok) (good : BGood N.b B) {h : Int} (h0 : N.b ≤ h) : (iceAt N B h).2 = mx ((iceAt N B h).1 - sumAt B h) := by
  rcases Int.lt_or_eq_of_le h0 with l | l
  · have e := ice_step ok good (t := h - 1) (h := h) (by omega) (by omega) (fun z hz => by omega)
    rw [e]
  · subst l
    rw [ice_begin ok good.ok]
theorem ice_next {N : IceN} {B : Brk} (ok : N.ok) (good : BGood N.b B) {h : Int} (h0 : N.b ≤ h) : (iceAt N B (h + 1)).1 = grown N (iceAt N B h).2 1 := by
  rw [ice_step ok good h0 (h := h + 1) (by omega) (fun z hz => by omega)]
  show grown N _ (h + 1 - h) = _
  rw [show h + 1 - h = 1 by omega]
/-- the ice of the first hours -/
def levs (N : IceN) (B : Brk) (m : Nat) : Brk := (List.range m).map fun (k : Nat) => iceAt N B (N.b + (k : Int))
theorem levs_succ {N : IceN} {B : Brk} {m : Nat} : levs N B (m + 1) = levs N B m ++ [iceAt N B (N.b + m)] := by
  unfold levs
  rw [List.range_succ, List.map_append]; rfl
theorem levs_len {N : IceN} {B : Brk} {m : Nat} : (levs N B m).length = m := by unfold levs; simp
theorem levs_get {N : IceN} {B : Brk} {m k : Nat} (h : k < m) : (levs N B m)[k]? = some (iceAt N B (N.b + k)) := by
  unfold levs
  rw [List.getElem?_map, List.getElem?_range h]; rfl

theorem piece_at {N : IceN} {B : Brk} (ok : N.ok) (good : BGood N.b B) {z : Int × Int × Int} (hp : z ∈ pieces N B) : z.2 = iceAt N B z.1 := by
  obtain ⟨i, hi, ei⟩ := List.getElem_of_mem hp
  have hz' : (pieces N B)[i]? = some z := by rw [List.getElem?_eq_getElem hi, ei]
  have rs := pieces_rise (N := N) good.ok
  have at_ : AtP (pieces N B) z.1 i := ⟨⟨z, hz', Int.le_refl _⟩, fun j y hj hy => rise_lt rs hj hz' hy⟩
  have k := at_rise rs at_ hz' N (N.b, N.first)
  rw [if_pos rfl] at k
  rw [← k, pieces_some ok good.ok, wk_at _ _ _ (cbh_rise good.ok).1]; rfl
theorem lookC_key {C : Brk} {k : Int} (h : lookC C k ≠ none) : ∃ y ∈ C, y.1 = k := by
  induction C with
  | nil => exact absurd rfl h
  | cons z r ih =>
    by_cases e : z.1 = k
    · exact ⟨z, by simp, e⟩
    · have e2 : lookC (z :: r) k = lookC r k := if_neg e
      rw [e2] at h
      obtain ⟨y, hy, ey⟩ := ih h
      exact ⟨y, by simp [hy], ey⟩
/-- each hour with breakings has its piece -/
theorem hour_piece {N : IceN} {B : Brk} {z : Int × Int} (hz : z ∈ B) : ∃ y ∈ pieces N B, y.1 = z.1 := by
  have h : lookC (cbh N.b B) z.1 ≠ none := by
    unfold cbh
    rw [lookC_fold, if_pos (.inl ⟨z, hz, rfl⟩)]
    exact fun e => by cases e
  obtain ⟨y, hy, ey⟩ := lookC_key h
  have : y.1 ∈ (pieces N B).map (·.1) := by unfold pieces; rw [pcs_hours]; exact List.mem_map.mpr ⟨y, hy, rfl⟩
  obtain ⟨u, hu, eu⟩ := List.mem_map.mp this
  exact ⟨u, hu, eu.trans ey⟩
theorem ice_mono {N : IceN} {B : Brk} (ok : N.ok) (good : BGood N.b B) {t k : Int} (bt : N.b ≤ t) (tk : t ≤ k) (no : ∀ z ∈ B, ¬ (t < z.1 ∧ z.1 ≤ k)) : (iceAt N B t).2 ≤ (iceAt N B k).2 := by
  rcases Int.lt_or_eq_of_le tk with l | l
  · rw [ice_same ok good bt l no]
    have h1 := (ice_bnd ok good bt).2.2
    have h2 := Int.mul_nonneg ok.g0 (show 0 ≤ k - t by omega)
    show _ ≤ grown N _ (k - t)
    unfold grown
    split <;> omega
  · rw [l]; exact Int.le_refl _
/-- behind a place no piece but from there on -/
theorem behind_no {N : IceN} {B : Brk} (good : BGood N.b B) {i : Nat} {z : Int × Int × Int} (hz : (pieces N B)[i]? = some z) {t k : Int} (zt : z.1 ≤ t) (hk : ∀ y ∈ (pieces N B).drop (i + 1), k < y.1) : ∀ u ∈ B, ¬ (t < u.1 ∧ u.1 ≤ k) := by
  rintro u hu ⟨h1, h2⟩
  obtain ⟨y, hy, ey⟩ := hour_piece (N := N) hu
  obtain ⟨m, hm, em⟩ := List.getElem_of_mem hy
  have hm' : (pieces N B)[m]? = some y := by rw [List.getElem?_eq_getElem hm, em]
  have rs := pieces_rise (N := N) good.ok
  have mi : i < m := by
    rcases Nat.lt_trichotomy i m with l | l | l
    · exact l
    · subst l; rw [hz] at hm'; cases hm'; omega
    · have := rise_lt rs l hm' hz; omega
  have hd : y ∈ (pieces N B).drop (i + 1) := List.mem_iff_getElem?.mpr ⟨m - (i + 1), by rw [List.getElem?_drop, show i + 1 + (m - (i + 1)) = m by omega]; exact hm'⟩
  have := hk y hd
  omega

end Ice

set_option Elab.async false
set_option linter.all false
set_option maxRecDepth 100000
set_option maxHeartbeats 4000000
namespace Ice
open PySem PySem.Spec PyProof.Rows L2 TL
/-! side conditions, heaps, one step of a reading, and many -/
local macro_rules | `(tactic| walk_at "hp") => `(tactic| first | assumption | exact upd_same | exact New.at_ (by assumption) | (refine keepU ?_ (by assumption); walk_at "hp") | (refine New.app (by assumption) ?_; walk_at "hp") | (refine Same.app (by assumption) ?_; walk_at "hp") | (refine But.app (by assumption) (by assumption) ?_; walk_at "hp"))
local macro_rules | `(tactic| walk_at "sq") => `(tactic| first | assumption | exact SqL.lst (by walk_at "hp") | exact L2.Same.seq (New.same (by assumption)) (by assumption) | exact L2.Same.seq (by assumption) (by assumption))
local macro_rules | `(tactic| walk_at "len") => `(tactic| first | assumption | (simp only [List.length_cons, List.length_nil, List.length_append, List.length_map]; decide) | (refine Ice.sz_of ?_; simp only [List.length_cons, List.length_nil, List.length_append, List.length_map]; omega))
local macro_rules | `(tactic| walk_at "fresh") => `(tactic| (simp only [List.map_append, List.map_cons, List.map_nil, List.nil_append, List.cons_append]; decide +kernel))
local macro_rules | `(tactic| walk_at "sd") => `(tactic| first | assumption | (show _ ≠ _; omega) | exact Or.inl ⟨by omega, by omega⟩ | exact Or.inr ⟨by omega, by omega⟩ | exact ⟨by decide, by decide⟩ | exact ⟨by decide, by decide, by decide⟩ | exact ⟨by omega, by omega, by omega⟩)
/-! one step of a reading, and many -/
local macro_rules | `(tactic| walk_at "st") => `(tactic| first
  | with_reducible refine i_seq ?_
  | with_reducible refine i_if ?_
  | with_reducible refine i_next ?_
  | with_reducible refine i_ret ?_
  | with_reducible refine i_retN ?_
  | with_reducible refine i_drop ?_
  | with_reducible refine i_asg ?_
  | with_reducible refine i_gname ?_
  | with_reducible refine i_gsub ?_
  | ((with_reducible refine i_var (v := ?vv) ?hv ?_); (case hv => exact rfl))
  | with_reducible refine i_c ?_
  | with_reducible refine i_op ?_
  | with_reducible refine i_un ?_
  | with_reducible refine i_test ?_
  | with_reducible refine i_tB ?_
  | with_reducible refine i_and ?_
  | with_reducible refine i_or ?_
  | with_reducible refine i_not ?_
  | with_reducible refine i_andV ?_
  | with_reducible refine i_orV ?_
  | with_reducible refine i_notV ?_
  | with_reducible refine i_ifE ?_
  | with_reducible refine i_chain ?_
  | with_reducible refine i_bl ?_
  | with_reducible refine i_nil ?_
  | with_reducible refine i_cons ?_
  | with_reducible refine i_call ?_
  | with_reducible refine i_cb ?_
  | with_reducible refine i_rI0 ?_
  | with_reducible refine i_rU ?_
  | ((with_reducible refine i_rEq ?hs ?_); (case hs => exact rfl))
  | ((with_reducible refine i_rNe ?hs ?_); (case hs => exact rfl))
  | ((with_reducible refine i_rI ?hc ?_); (case hc => walk_at "sd"))
  | ((with_reducible refine i_ixL (xs := ?xs) (v := ?vv) ?hS ?he ?_); (case hS => walk_at "sq"); (case he => exact rfl))
  | ((with_reducible refine i_setL (xs := ?xs) (j := ?jj) ?hS ?he ?_); (case hS => walk_at "hp"); (case he => exact rfl))
  | with_reducible refine i_tup ?_
  | with_reducible refine i_lst ?_
  | with_reducible refine i_bm ?_
  | with_reducible refine i_bm0 ?_
  | with_reducible refine i_m1 ?_
  | with_reducible refine i_sl ?_
  | with_reducible refine i_nopart ?_
  | with_reducible refine i_part ?_
  | with_reducible refine i_int ?_
  | with_reducible refine i_str ?_
  | with_reducible refine i_for ?_
  | with_reducible refine i_yes ?_
  | ((with_reducible refine i_lenL (xs := ?xs) ?hS ?_); (case hS => walk_at "sq"))
  | ((with_reducible refine i_room ?hz ?_); (case hz => walk_at "len"))
  | with_reducible refine i_leT ?_
  | with_reducible refine i_notInS ?_
  | with_reducible refine i_inS ?_
  | with_reducible refine i_find ?_
  | with_reducible refine i_isB ?_
  | with_reducible refine i_max2 ?_
  | with_reducible refine i_min2 ?_
  | with_reducible exact trivial
  | with_reducible refine iteT ?_
  | with_reducible refine iteF ?_
  | with_reducible refine i_isstr ?_
  | with_reducible refine i_lc ?_
  | ((with_reducible refine i_cat (xs := ?xs) (zs := ?zs) ?ha ?hb ?hz ?_); (case ha => walk_at "hp"); (case hb => walk_at "hp"); (case hz => walk_at "len"))
  | ((with_reducible refine i_tyL (xs := ?xs) ?ha ?_); (case ha => walk_at "hp"))
  | with_reducible refine i_list ?_
  | with_reducible refine i_disp ?_
  | with_reducible refine i_pairs0 ?_
  | with_reducible refine i_pairs ?_
  | with_reducible refine i_newK ?_
  | with_reducible refine i_gcons ?_
  | with_reducible refine i_gnil ?_
  | with_reducible refine i_revL ?_
  | with_reducible refine i_rng1 ?_
  | ((with_reducible refine i_wipe ?hw ?_); (case hw => exact rfl))
  | with_reducible refine iteNT ?_
  | with_reducible refine iteNF ?_)
local macro_rules | `(tactic| walk_at "sx") => `(tactic| first
  | walk_at "st"
  | with_reducible refine i_kinit ?_
  | with_reducible refine i_ost ?_
  | with_reducible refine i_mkO ?_
  | with_reducible refine i_callE ?_
  | with_reducible refine i_makeE ?_
  | with_reducible refine i_xf ?_
  | with_reducible refine i_sfld ?_
  | with_reducible refine i_fld ?_
  | ((with_reducible refine i_ixT (xs := ?xs) (v := ?vv) ?hS ?he ?_); (case hS => exact SqT.tup (by walk_at "hp")); (case he => exact rfl))
  | with_reducible refine i_intB ?_
  | with_reducible refine i_runS ?_
  | with_reducible refine i_runN ?_
  | ((with_reducible refine i_xf1 (fs := ?ff) (v := ?vv) ?hx ?hl ?_); (case hx => walk_at "hp"); (case hl => exact rfl))
  | with_reducible refine i_methE ?_
  | with_reducible refine i_meth ?_
  | with_reducible refine i_make ?_
  | ((with_reducible refine i_obj (dx := ?dd) (fs := ?ff) ?hx ?hl ?_); (case hx => walk_at "hp"); (case hl => exact rfl))
  | ((with_reducible refine i_fld1 (C := ?CC) (dx := ?dd) (fs := ?ff) (v := ?vv) ?hx ?cl ?na ?hl ?_); (case hx => walk_at "hp"); (case cl => assumption); (case na => assumption); (case hl => exact rfl)))
local macro_rules | `(tactic| walk_at "sy") => `(tactic| first
  | walk_at "sx"
  | with_reducible refine i_dget ?_
  | with_reducible refine i_dget2 ?_
  | with_reducible refine i_dput ?_
  | with_reducible refine i_din ?_
  | ((with_reducible refine i_aug (x := ?vv) ?hx ?_); (case hx => exact rfl)))
local macro_rules | `(tactic| walk_at "rd") => `(tactic| repeat (walk_at "sy"))

section
variable {P : Program} {w : World} {K : PySem.W.Frag} {mg : Str → Option Value} {base : Heap}
/-- the least hour that lets -/
def spNext (T : Top K mg) : Sp := fun vs H Q _ => ∃ (x : Addr) (N : IceN) (B : Brk) (h st : Int), vs = [.ref x, .int h, .int st] ∧ IceA T H x N B ∧ N.ok ∧ BGood N.b B ∧ B.length ≤ 300 ∧ N.b ≤ h ∧ h ≤ 1000000000 ∧ 0 ≤ st ∧ st ≤ 1000000000 ∧
  (∀ (r : Int) (H' : Hp), Same H H' → h ≤ r → (iceAt N B r).2 ≤ st → (∀ k, h ≤ k → k < r → st < (iceAt N B k).2) → (r = h ∨ r ≤ 100000000) → Q (.int r) H') ∧ (∀ H', Same H H' → (∀ k, h ≤ k → st < (iceAt N B k).2) → Q .non H')
theorem cutV_from' (ps : List Addr) (n : Nat) : cutV (rf ps) (some (n : Int)) none = rf (ps.drop n) := by
  unfold cutV rf
  rw [HT.sIx_none, HT.sIx_nat, ← List.map_drop, ← List.map_take, List.take_of_length_le (by simp)]
  congr 1
  by_cases h : n ≤ ps.length
  · rw [List.length_map, Nat.min_eq_left h]
  · rw [List.length_map, Nat.min_eq_right (by omega), List.drop_length, List.drop_of_length_le (by omega)]
theorem ok_Ice_next_hour (T : Top K mg) : FnG P w K mg base CX0 6 T.a_Ice_next_hour T.d_Ice_next_hour ["self", "hour", "strength"] (spNext T) := by
  have G_check_number := ok_check_number (P := P) (w := w) (base := base) T
  have G_Ice__check_hour := ok_Ice__check_hour (P := P) (w := w) (base := base) T
  have G_Ice_thick := ok_Ice_thick (P := P) (w := w) (base := base) T
  have G_Ice__piece_of := ok_Ice__piece_of (P := P) (w := w) (base := base) T
  refine okG T.F_Ice_next_hour sc_Ice_next_hour (fun vs H Q E h => ?_) (fun cdv A outer s H vs Q E hr hgd h => ?_)
  · obtain ⟨x, N, B, h, st, rfl, _⟩ := h
    rfl
  · obtain ⟨x, N, B, h, st, rfl, ia, ok, good, l3, h0, h1, st0, st1, q0, q1⟩ := h
    obtain ⟨dx, ch, lb, lp, bs, ps, hx, hc, hlb, pB, hlp, tP⟩ := id ia
    (have cl_Ice := T.cl_Ice; have na_Ice__channel := T.na_Ice__channel; have na_Ice__begin := T.na_Ice__begin; have na_Ice__breakings := T.na_Ice__breakings; have na_Ice__pieces := T.na_Ice__pieces)
    refine ⟨_, (pss_cons (ps_expr (g_meth (pv 0) T.cl_Ice T.me_Ice__check_hour G_Ice__check_hour (hr.mono (by decide)) hgd T.b_Ice__check_hour .nil pass0 (pa_cons (pv 1) pa_nil)))
      (pss_cons (ps_expr (g_callE (E := WE _) G_check_number (hr.mono (by decide)) hgd (by rfl) T.m_check_number T.F_check_number.kp T.b_check_number .nil (passAt takes0) (pa_cons (pv 2) (pa_cons pe_int (pa_cons (pe_glob (v := .int 1000000000) (by rfl) T.c_STRENGTH_MOST ⟨_, rfl⟩) pa_nil)))))
      (pss_cons (ps_if (pt_cmpR op_le (g_meth (pv 0) T.cl_Ice T.me_Ice_thick G_Ice_thick (hr.mono (by decide)) hgd T.b_Ice_thick .nil pass0 (pa_cons (pv 1) pa_nil)) (pv 2) (nomark _))
        (pss_one (ps_ret (pv 1)))
        pss_nil)
      (pss_cons (ps_for PassesOwn.never rfl (pi_list (pe_slice sl_list (pe_fld (pv 0) rfl) (po_some (pe_op op_add (g_meth (pv 0) T.cl_Ice T.me_Ice__piece_of G_Ice__piece_of (hr.mono (by decide)) hgd T.b_Ice__piece_of .nil pass0 (pa_cons (pv 1) pa_nil)) pe_int)) po_none)) (pg_tup rfl (pgs_cons (pg_name (i := 3) sc_Ice_next_hour.nd rfl (by first | exact Or.inl rfl | exact Or.inr rfl)) (pgs_cons (pg_name (i := 4) sc_Ice_next_hour.nd rfl (by first | exact Or.inl rfl | exact Or.inr rfl)) (pgs_cons (pg_name (i := 5) sc_Ice_next_hour.nd rfl (by first | exact Or.inl rfl | exact Or.inr rfl)) pgs_nil))))
        (pss_one (ps_if (pt_cmpR op_le (pv 5) (pv 2) (nomark _))
        (pss_one (ps_ret (pv 3)))
        pss_nil)))
      (pss_one (ps_ret pe_non)))))), ?_⟩
    walk_at "rd"
    refine ⟨x, dx, _, N.b, h, rfl, hx, rfl, h0, h1, ?_⟩
    walk_at "rd"
    refine ⟨.int st, _, _, rfl, int_th _ _, fun _ => ?_, fun z => absurd (inB_of st0 st1) (by rw [show inB 0 1000000000 (.int st) = false from z]; decide)⟩
    walk_at "rd"
    refine ⟨x, N, B, h, rfl, ia, ok, good.ok, l3, h0, h1, fun i0 z0 at0 hz0 => ?_⟩
    rw [(ice_told ok good at0 hz0).2]
    walk_at "rd"
    refine ifs (fun hl => ?_) (fun hl => ?_)
    · walk_at "rd"
      exact q0 h H (Same.refl _) (Int.le_refl _) (of_decide_eq_true hl) (fun k k0 k1 => by omega) (.inl rfl)
    · have hgt : st < (iceAt N B h).2 := by have := of_decide_eq_false hl; omega
      walk_at "rd"
      obtain ⟨c, r, e⟩ := piece_ok ok good.ok
      refine ⟨x, dx, lp, _, ps, pieces N B, h, rfl, hx, rfl, hlp, tP, by have := pieces_len (N := N) (B := B); omega, pieces_rise good.ok, ⟨_, by rw [e]; rfl, h0⟩, fun i ai li => ?_⟩
      have hz : (pieces N B)[i]? = some (pieces N B)[i] := List.getElem?_eq_getElem li
      have zh : ((pieces N B)[i]).1 ≤ h := by
        obtain ⟨⟨y, hy, ly⟩, _⟩ := ai
        rw [hz] at hy; cases hy; exact ly
      generalize (pieces N B)[i] = z at hz zh
      clear e c r
      walk_at "rd"
      refine i_slLs hlp (fun sl J1 N1 => ?_)
      rw [show (i : Int) + 1 = ((i + 1 : Nat) : Int) by omega, cutV_from'] at N1
      walk_at "rd"
      have tD : TripsAt J1 (ps.drop (i + 1)) ((pieces N B).drop (i + 1)) := (tP.drop (i + 1)).keep (keepT_same N1.same)
      have rs := pieces_rise (N := N) good.ok
      refine ⟨sl, rfl, ⟨_, SqL.lst N1.at_⟩, ?_⟩
      refine for_list (K := K) (a := sl) (xs := rf (ps.drop (i + 1))) (fun j σ H' => H' = J1 ∧ (∀ k, h ≤ k → (∀ y ∈ (pieces N B).drop (i + 1 + j), k < y.1) → st < (iceAt N B k).2) ∧ ∃ z3 z4 z5, σ = [some (.ref x), some (.int h), some (.int st), z3, z4, z5])
        ⟨rfl, fun k hk hy => ?_, _, _, _, rfl⟩ (fun j σ H' _ h => by rw [h.1]; exact SqL.lst N1.at_) ?_ ?_
      · have := ice_mono ok good h0 hk (behind_no good hz zh hy)
        omega
      · rintro j v σ H1 hj ⟨rfl, inv, z3, z4, z5, rfl⟩
        obtain ⟨a, y, rfl, hy, ha⟩ := tD.get' hj
        rw [List.getElem?_drop] at hy
        have hyd : (pieces N B).drop (i + 1 + j) = y :: (pieces N B).drop (i + 1 + j + 1) := by
          have hl := List.getElem?_eq_some_iff.mp hy
          rw [← hl.2]; exact List.drop_eq_getElem_cons hl.1
        have hym : y ∈ pieces N B := List.mem_of_getElem? hy
        have hyi := piece_at ok good hym
        have hyh : h < y.1 := ai.2 _ _ (by omega) hy
        have hyb : y.1 ≤ 100000000 := by
          have hm := cbh_mem (b := N.b) (B := B) (fun z hz => by have := good.ge z hz; omega)
          have h1 : y.1 ∈ (pieces N B).map (·.1) := List.mem_map.mpr ⟨y, hym, rfl⟩
          unfold pieces at h1
          rw [pcs_hours] at h1
          obtain ⟨u, hu, e⟩ := List.mem_map.mp h1
          rcases (hm u hu).1 with e2 | ⟨v, hv, e2⟩
          · have := ok.b6; omega
          · have := (good.ge v hv).2.1; omega
        refine i_gtup (xs := [.int y.1, .int y.2.1, .int y.2.2]) (SqT.tup ha) rfl ?_
        walk_at "rd"
        refine ifs (fun hl => ?_) (fun hl => ?_)
        · have hl' : y.2.2 ≤ st := of_decide_eq_true hl
          walk_at "rd"
          refine q0 y.1 H1 N1.same (by omega) (by rw [← hyi]; exact hl') (fun k k0 k1 => inv k k0 (fun u hu => ?_)) (.inr hyb)
          rw [hyd] at hu
          rcases List.mem_cons.mp hu with rfl | hu
          · exact k1
          · obtain ⟨m, hm⟩ := List.mem_iff_getElem?.mp hu
            rw [List.getElem?_drop] at hm
            have := rise_lt rs (by omega : i + 1 + j < i + 1 + j + 1 + m) hy hm
            omega
        · have hl' : ¬ y.2.2 ≤ st := of_decide_eq_false hl
          walk_at "rd"
          refine ⟨rfl, fun k hk hd => ?_, _, _, _, rfl⟩
          by_cases hky : k < y.1
          · refine inv k hk (fun u hu => ?_)
            rw [hyd] at hu
            rcases List.mem_cons.mp hu with rfl | hu
            · exact hky
            · exact hd u hu
          · have := ice_mono ok good (t := y.1) (k := k) (by omega) (by omega) (behind_no good hy (Int.le_refl _) hd)
            rw [← hyi] at this
            have : y.2.2 ≤ (iceAt N B k).2 := this
            omega
      · rintro σ H1 ⟨rfl, inv, z3, z4, z5, rfl⟩
        walk_at "rd"
        refine q1 H1 N1.same (fun k hk => inv k hk (fun y hy => ?_))
        rw [show (rf (ps.drop (i + 1))).length = ps.length - (i + 1) by simp [rf], tP.1] at hy
        rw [List.drop_of_length_le (by omega)] at hy
        cases hy
/-- a copy -/
def spCopied (T : Top K mg) : Sp := fun vs H Q _ => ∃ (x : Addr) (N : IceN) (B : Brk), vs = [.ref x] ∧ IceA T H x N B ∧ N.ok ∧ BOk N.b B ∧ B.length ≤ 300 ∧ ∀ (y lb lp : Addr) (H' : Hp), Same H H' → H y = none → H lb = none → H lp = none → IceL T H' y N B lb lp → Q (.ref y) H'
theorem ok_Ice_copied (T : Top K mg) : FnG P w K mg base CX0 6 T.a_Ice_copied T.d_Ice_copied ["self"] (spCopied T) := by
  have G_Ice___init__ := ok_Ice___init__ (P := P) (w := w) (base := base) T
  have G_Ice__keep := ok_Ice__keep (P := P) (w := w) (base := base) T
  refine okG T.F_Ice_copied sc_Ice_copied (fun vs H Q E h => ?_) (fun cdv A outer s H vs Q E hr hgd h => ?_)
  · obtain ⟨x, N, B, rfl, _⟩ := h
    rfl
  · obtain ⟨x, N, B, rfl, ia, ok, bo, l3, q⟩ := h
    obtain ⟨dx, ch, lb, lp, bs, ps, hx, hc, hlb, pB, hlp, tP⟩ := id ia
    (have cl_Ice := T.cl_Ice; have na_Ice__channel := T.na_Ice__channel; have na_Ice__begin := T.na_Ice__begin; have na_Ice__breakings := T.na_Ice__breakings; have na_Ice__pieces := T.na_Ice__pieces)
    refine ⟨_, (pss_cons (ps_set (i := 1) sc_Ice_copied.nd rfl (by first | exact Or.inl rfl | exact Or.inr rfl) (g_make T.mk_Ice G_Ice___init__ (hr.mono (by decide)) hgd (by rfl) T.c_Ice T.b_Ice___init__ .nil passL (pa_cons (pe_fld (pv 0) rfl) (pa_cons (pe_fld (pv 0) rfl) pa_nil))))
      (pss_cons (ps_expr (g_meth (pv 1) T.cl_Ice T.me_Ice__keep G_Ice__keep (hr.mono (by decide)) hgd T.b_Ice__keep .nil pass0 (pa_cons (pe_callTy call_list_of (by rfl) T.n_list (by decide +kernel) (pa_cons (pe_fld (pv 0) rfl) pa_nil)) pa_nil)))
      (pss_one (ps_ret (pv 1))))), ?_⟩
    walk_at "rd"
    intro y dy hy hdy ney
    have sm : Same H (upd (upd H dy (HO.own y)) y (HO.ins T.a_Ice dy [])) := fun a o h => by rw [upd_ne (ne_of_none h hy), upd_ne (ne_of_none h hdy)]; exact h
    refine ⟨y, dy, ch, N, rfl, upd_same, hc.same sm, ok, fun H2 lb2 lp2 e2 flb flp il => ?_⟩
    have s2 : Same H H2 := made_same hy hdy e2
    obtain ⟨dx2, ch2, bs2, ps2, hx2, hc2, _⟩ := id il
    refine ⟨rfl, ?_⟩
    have hx' := s2 _ _ hx
    have hlb' := s2 _ _ hlb
    walk_at "rd"
    refine ⟨lb, rf bs, rfl, .inl (SqL.lst hlb'), ?_⟩
    (intro nl hnl; generalize enl : upd _ nl _ = J3; have N3 := New.of enl hnl; clear enl hnl)
    walk_at "rd"
    have s23 : Same H J3 := s2.trans N3.same
    refine ⟨y, dx2, ch2, nl, _, bs, N, B, rfl, N3.app hx2, .inr ⟨_, _, rfl⟩, hc2.same N3.same, ok, N3.at_, pB.keep (keepT_same s23), l3, bo, fun H' lp' e' flp' il' => ?_⟩
    walk_at "rd"
    exact q y nl lp' H' (fun a o h => e' a o (ne_of_none h hy) (s23 _ _ h)) hy (none_back s2 N3.free) (none_back s23 flp') il'
end

end Ice

set_option Elab.async false
set_option linter.all false
set_option maxRecDepth 100000
set_option maxHeartbeats 4000000
namespace Ice
open PySem PySem.Spec PyProof.Rows L2 TL
/-! side conditions, heaps, one step of a reading, and many -/
local macro_rules | `(tactic| walk_at "hp") => `(tactic| first | assumption | exact upd_same | exact New.at_ (by assumption) | (refine keepU ?_ (by assumption); walk_at "hp") | (refine New.app (by assumption) ?_; walk_at "hp") | (refine Same.app (by assumption) ?_; walk_at "hp") | (refine But.app (by assumption) (by assumption) ?_; walk_at "hp"))
local macro_rules | `(tactic| walk_at "sq") => `(tactic| first | assumption | exact SqL.lst (by walk_at "hp") | exact L2.Same.seq (New.same (by assumption)) (by assumption) | exact L2.Same.seq (by assumption) (by assumption))
local macro_rules | `(tactic| walk_at "len") => `(tactic| first | assumption | (simp only [List.length_cons, List.length_nil, List.length_append, List.length_map]; decide) | (refine Ice.sz_of ?_; simp only [List.length_cons, List.length_nil, List.length_append, List.length_map]; omega))
local macro_rules | `(tactic| walk_at "fresh") => `(tactic| (simp only [List.map_append, List.map_cons, List.map_nil, List.nil_append, List.cons_append]; decide +kernel))
local macro_rules | `(tactic| walk_at "sd") => `(tactic| first | assumption | (show _ ≠ _; omega) | exact Or.inl ⟨by omega, by omega⟩ | exact Or.inr ⟨by omega, by omega⟩ | exact ⟨by decide, by decide⟩ | exact ⟨by decide, by decide, by decide⟩ | exact ⟨by omega, by omega, by omega⟩)
/-! one step of a reading, and many -/
local macro_rules | `(tactic| walk_at "st") => `(tactic| first
  | with_reducible refine i_seq ?_
  | with_reducible refine i_if ?_
  | with_reducible refine i_next ?_
  | with_reducible refine i_ret ?_
  | with_reducible refine i_retN ?_
  | with_reducible refine i_drop ?_
  | with_reducible refine i_asg ?_
  | with_reducible refine i_gname ?_
  | with_reducible refine i_gsub ?_
  | ((with_reducible refine i_var (v := ?vv) ?hv ?_); (case hv => exact rfl))
  | with_reducible refine i_c ?_
  | with_reducible refine i_op ?_
  | with_reducible refine i_un ?_
  | with_reducible refine i_test ?_
  | with_reducible refine i_tB ?_
  | with_reducible refine i_and ?_
  | with_reducible refine i_or ?_
  | with_reducible refine i_not ?_
  | with_reducible refine i_andV ?_
  | with_reducible refine i_orV ?_
  | with_reducible refine i_notV ?_
  | with_reducible refine i_ifE ?_
  | with_reducible refine i_chain ?_
  | with_reducible refine i_bl ?_
  | with_reducible refine i_nil ?_
  | with_reducible refine i_cons ?_
  | with_reducible refine i_call ?_
  | with_reducible refine i_cb ?_
  | with_reducible refine i_rI0 ?_
  | with_reducible refine i_rU ?_
  | ((with_reducible refine i_rEq ?hs ?_); (case hs => exact rfl))
  | ((with_reducible refine i_rNe ?hs ?_); (case hs => exact rfl))
  | ((with_reducible refine i_rI ?hc ?_); (case hc => walk_at "sd"))
  | ((with_reducible refine i_ixL (xs := ?xs) (v := ?vv) ?hS ?he ?_); (case hS => walk_at "sq"); (case he => exact rfl))
  | ((with_reducible refine i_setL (xs := ?xs) (j := ?jj) ?hS ?he ?_); (case hS => walk_at "hp"); (case he => exact rfl))
  | with_reducible refine i_tup ?_
  | with_reducible refine i_lst ?_
  | with_reducible refine i_bm ?_
  | with_reducible refine i_bm0 ?_
  | with_reducible refine i_m1 ?_
  | with_reducible refine i_sl ?_
  | with_reducible refine i_nopart ?_
  | with_reducible refine i_part ?_
  | with_reducible refine i_int ?_
  | with_reducible refine i_str ?_
  | with_reducible refine i_for ?_
  | with_reducible refine i_yes ?_
  | ((with_reducible refine i_lenL (xs := ?xs) ?hS ?_); (case hS => walk_at "sq"))
  | ((with_reducible refine i_room ?hz ?_); (case hz => walk_at "len"))
  | with_reducible refine i_leT ?_
  | with_reducible refine i_notInS ?_
  | with_reducible refine i_inS ?_
  | with_reducible refine i_find ?_
  | with_reducible refine i_isB ?_
  | with_reducible refine i_max2 ?_
  | with_reducible refine i_min2 ?_
  | with_reducible exact trivial
  | with_reducible refine iteT ?_
  | with_reducible refine iteF ?_
  | with_reducible refine i_isstr ?_
  | with_reducible refine i_lc ?_
  | ((with_reducible refine i_cat (xs := ?xs) (zs := ?zs) ?ha ?hb ?hz ?_); (case ha => walk_at "hp"); (case hb => walk_at "hp"); (case hz => walk_at "len"))
  | ((with_reducible refine i_tyL (xs := ?xs) ?ha ?_); (case ha => walk_at "hp"))
  | with_reducible refine i_list ?_
  | with_reducible refine i_disp ?_
  | with_reducible refine i_pairs0 ?_
  | with_reducible refine i_pairs ?_
  | with_reducible refine i_newK ?_
  | with_reducible refine i_gcons ?_
  | with_reducible refine i_gnil ?_
  | with_reducible refine i_revL ?_
  | with_reducible refine i_rng1 ?_
  | ((with_reducible refine i_wipe ?hw ?_); (case hw => exact rfl))
  | with_reducible refine iteNT ?_
  | with_reducible refine iteNF ?_)
local macro_rules | `(tactic| walk_at "sx") => `(tactic| first
  | walk_at "st"
  | with_reducible refine i_kinit ?_
  | with_reducible refine i_ost ?_
  | with_reducible refine i_mkO ?_
  | with_reducible refine i_callE ?_
  | with_reducible refine i_makeE ?_
  | with_reducible refine i_xf ?_
  | with_reducible refine i_sfld ?_
  | with_reducible refine i_fld ?_
  | ((with_reducible refine i_ixT (xs := ?xs) (v := ?vv) ?hS ?he ?_); (case hS => exact SqT.tup (by walk_at "hp")); (case he => exact rfl))
  | with_reducible refine i_intB ?_
  | with_reducible refine i_runS ?_
  | with_reducible refine i_runN ?_
  | ((with_reducible refine i_xf1 (fs := ?ff) (v := ?vv) ?hx ?hl ?_); (case hx => walk_at "hp"); (case hl => exact rfl))
  | with_reducible refine i_methE ?_
  | with_reducible refine i_meth ?_
  | with_reducible refine i_make ?_
  | ((with_reducible refine i_obj (dx := ?dd) (fs := ?ff) ?hx ?hl ?_); (case hx => walk_at "hp"); (case hl => exact rfl))
  | ((with_reducible refine i_fld1 (C := ?CC) (dx := ?dd) (fs := ?ff) (v := ?vv) ?hx ?cl ?na ?hl ?_); (case hx => walk_at "hp"); (case cl => assumption); (case na => assumption); (case hl => exact rfl)))
local macro_rules | `(tactic| walk_at "sy") => `(tactic| first
  | walk_at "sx"
  | with_reducible refine i_dget ?_
  | with_reducible refine i_dget2 ?_
  | with_reducible refine i_dput ?_
  | with_reducible refine i_din ?_
  | ((with_reducible refine i_aug (x := ?vv) ?hx ?_); (case hx => exact rfl)))
local macro_rules | `(tactic| walk_at "rd") => `(tactic| repeat (walk_at "sy"))

/-- the last hour as far as h -/
def AnsL (N : IceN) (B : Brk) (h st : Int) : Option Int → Prop
  | some r => N.b ≤ r ∧ r ≤ h ∧ (iceAt N B r).2 ≤ st ∧ ∀ k, r < k → k ≤ h → st < (iceAt N B k).2
  | none => ∀ k, N.b ≤ k → k ≤ h → st < (iceAt N B k).2
theorem AnsL.uniq {N : IceN} {B : Brk} {h st : Int} {o p : Option Int} (a : AnsL N B h st o) (b : AnsL N B h st p) : o = p := by
  match o, p, a, b with
  | none, none, _, _ => rfl
  | some r, none, ⟨a0, a1, a2, _⟩, b => exact absurd (b r a0 a1) (by omega)
  | none, some r, a, ⟨b0, b1, b2, _⟩ => exact absurd (a r b0 b1) (by omega)
  | some r, some q, ⟨a0, a1, a2, a3⟩, ⟨b0, b1, b2, b3⟩ =>
    have : r = q := by
      rcases Int.lt_trichotomy r q with l | l | l
      · have := a3 q l b1; omega
      · exact l
      · have := b3 r l a1; omega
    rw [this]
/-- the end of a growth -/
def endO (N : IceN) (s v st : Int) (last : Option Int) : Option Int := if N.growth = 0 ∨ N.most ≤ st then last else match last with
  | none => some (s + (st - v) / N.growth)
  | some l => some (if l < s + (st - v) / N.growth then l else s + (st - v) / N.growth)
theorem div_bnd {d g : Int} (g0 : 0 < g) (d0 : 0 ≤ d) : 0 ≤ d / g ∧ g * (d / g) ≤ d ∧ d < g * (d / g + 1) := by
  have h1 := Int.ediv_nonneg d0 (Int.le_of_lt g0)
  have h2 := Int.emod_add_mul_ediv d g
  have h3 := Int.emod_nonneg d (show g ≠ 0 by omega)
  have h4 := Int.emod_lt_of_pos d g0
  refine ⟨h1, by omega, ?_⟩
  rw [Int.mul_add, Int.mul_one]
  omega
/-- from an hour t on that lets, as far as lim without breakings, and no hour behind it that lets -/
theorem end_ans {N : IceN} {B : Brk} (ok : N.ok) (good : BGood N.b B) {t h st lim : Int} (bt : N.b ≤ t) (tl : t ≤ lim) (lh : lim ≤ h) (hv : (iceAt N B t).2 ≤ st) (no : ∀ z ∈ B, ¬ (t < z.1 ∧ z.1 ≤ lim)) (hi : ∀ k, lim < k → k ≤ h → st < (iceAt N B k).2)
    (nx : lim < h → N.growth ≠ 0 ∧ st < N.most ∧ st < (iceAt N B t).2 + N.growth * (lim + 1 - t)) : AnsL N B h st (endO N t (iceAt N B t).2 st (some h)) := by
  have g0 := ok.g0
  have vb := ice_bnd ok good bt
  have at_ : ∀ k, t ≤ k → k ≤ lim → (iceAt N B k).2 = grown N (iceAt N B t).2 (k - t) := fun k k0 k1 => by
    rcases Int.lt_or_eq_of_le k0 with l | l
    · rw [ice_same ok good bt l (fun z hz => by have := no z hz; omega)]
    · subst l; rw [Int.sub_self, grown_zero vb.2.2]
  generalize (iceAt N B t).2 = v at hv nx vb at_
  unfold endO
  by_cases c : N.growth = 0 ∨ N.most ≤ st
  · rw [if_pos c]
    have el : lim = h := by
      rcases Int.lt_or_eq_of_le lh with l | l
      · have := nx l; omega
      · exact l
    subst el
    refine ⟨by omega, Int.le_refl _, ?_, fun k k0 k1 => by omega⟩
    rw [at_ lim tl (Int.le_refl _)]
    rcases c with c | c
    · unfold grown
      rw [c, Int.zero_mul]
      split <;> omega
    · have : grown N v (lim - t) ≤ N.most := grown_le
      omega
  · rw [if_neg c]
    have gp : 0 < N.growth := by omega
    have ms : st < N.most := by omega
    obtain ⟨q0, q1, q2⟩ := div_bnd gp (show 0 ≤ st - v by omega)
    generalize (st - v) / N.growth = e at q0 q1 q2
    have big : ∀ k, t + e < k → k ≤ lim → st < (iceAt N B k).2 := fun k k0 k1 => by
      rw [at_ k (by omega) k1]
      have h1 : N.growth * (e + 1) ≤ N.growth * (k - t) := Int.mul_le_mul_of_nonneg_left (by omega) g0
      unfold grown
      split <;> omega
    have sm : ∀ k, t ≤ k → k ≤ t + e → k ≤ lim → (iceAt N B k).2 ≤ st := fun k k0 k1 k2 => by
      rw [at_ k k0 k2]
      have h1 : N.growth * (k - t) ≤ N.growth * e := Int.mul_le_mul_of_nonneg_left (by omega) g0
      unfold grown
      split <;> omega
    have fin : lim < h → t + e ≤ lim := fun l => by
      obtain ⟨_, _, n3⟩ := nx l
      by_cases x : t + e ≤ lim
      · exact x
      · have h1 : N.growth * (lim + 1 - t) ≤ N.growth * e := Int.mul_le_mul_of_nonneg_left (by omega) g0
        omega
    show AnsL N B h st (some (if h < t + e then h else t + e))
    by_cases x : h < t + e
    · rw [if_pos x]
      have el : lim = h := by
        rcases Int.lt_or_eq_of_le lh with l | l
        · have := fin l; omega
        · exact l
      subst el
      exact ⟨by omega, Int.le_refl _, sm lim tl (by omega) (Int.le_refl _), fun k k0 k1 => by omega⟩
    · rw [if_neg x]
      have tel : t + e ≤ lim := by
        rcases Int.lt_or_eq_of_le lh with l | l
        · exact fin l
        · omega
      refine ⟨by omega, by omega, sm _ (by omega) (Int.le_refl _) tel, fun k k0 k1 => ?_⟩
      by_cases kl : k ≤ lim
      · exact big k k0 kl
      · exact hi k (by omega) k1

section
variable {P : Program} {w : World} {K : PySem.W.Frag} {mg : Str → Option Value} {base : Heap}
theorem i_rev {K : PySem.W.Frag} {ta : TA} {σ : L2.St} {H : Hp} {R : It → Hp → Prop} (h : ta σ H fun vs H1 => ∃ (a : Addr) (xs : List V), vs = [.ref a] ∧ SqL K H1 a xs ∧ R (Itv K a xs.length) H1) : iRev K ta σ H R := h
def valE : Option Int → V
  | some r => .int r
  | none => .non
def spEnd (T : Top K mg) : Sp := fun vs H Q _ => ∃ (x dx ch : Addr) (fs : List (Str × V)) (N : IceN) (s v st : Int) (last : Option Int), vs = [.ref x, .int s, .int v, .int st, valE last] ∧ H x = some (.ins T.a_Ice dx fs) ∧ fs.lookup (Str.ofString "_channel") = some (.ref ch) ∧ ChA T H ch N ∧ N.ok ∧ 0 ≤ v ∧ v ≤ st ∧ st ≤ 1000000000 ∧ Q (valE (endO N s v st last)) H
theorem ok_Ice__end_of (T : Top K mg) : FnG P w K mg base CX0 1 T.a_Ice__end_of T.d_Ice__end_of ["self", "start", "behind", "strength", "last"] (spEnd T) := by
  refine okG T.F_Ice__end_of sc_Ice__end_of (fun vs H Q E h => ?_) (fun cdv A outer s H vs Q E hr hgd h => ?_)
  · obtain ⟨x, dx, ch, fs, N, s', v, st, last, rfl, _⟩ := h
    rfl
  · obtain ⟨x, dx, ch, fs, N, sv, v, st, last, rfl, hx, hl, ⟨dch, n, o, t', h', d, hc⟩, ok, v0, vs, st1, q⟩ := h
    have g0 := ok.g0; have g3 := ok.g3
    refine ⟨_, (pss_cons (ps_if (PW.pt (pw_or (pt_cmpR op_eq (pe_fld (pe_fld (pv 0) rfl) rfl) pe_int (nomark _)) (pw_or1 (pt_cmpR op_le (pe_fld (pe_fld (pv 0) rfl) rfl) (pv 3) (nomark _)))))
        (pss_one (ps_ret (pv 4)))
        pss_nil)
      (pss_cons (ps_set (i := 5) sc_Ice__end_of.nd rfl (by first | exact Or.inl rfl | exact Or.inr rfl) (pe_op op_add (pv 1) (pe_op op_fdivW (pe_op op_sub (pv 3) (pv 2)) (pe_fld (pe_fld (pv 0) rfl) rfl))))
      (pss_cons (ps_if (pt_cmpR op_isN1 (pv 4) pe_non (nomark _))
        (pss_one (ps_ret (pv 5)))
        pss_nil)
      (pss_one (ps_ret (pe_callB (c_min2) (by rfl) T.n_min (by decide +kernel) (pa_cons (pv 5) (pa_cons (pv 4) pa_nil)))))))), ?_⟩
    walk_at "rd"
    refine ⟨x, _, dx, fs, _, rfl, hx, T.cl_Ice, T.na_Ice__channel, hl, ?_⟩
    refine ⟨ch, _, dch, _, _, rfl, hc, T.cl_Channel, T.na_Channel_growth, rfl, ?_⟩
    walk_at "rd"
    by_cases g : N.growth = 0
    · rw [show decide (V.int N.growth = V.int 0) = true from decide_eq_true (by rw [g])]
      walk_at "rd"
      rw [show endO N sv v st last = last from if_pos (.inl g)] at q
      exact q
    · rw [show decide (V.int N.growth = V.int 0) = false from decide_eq_false (fun z => g (by injection z))]
      walk_at "rd"
      refine ⟨x, _, dx, fs, _, rfl, hx, T.cl_Ice, T.na_Ice__channel, hl, ?_⟩
      refine ⟨ch, _, dch, _, _, rfl, hc, T.cl_Channel, T.na_Channel_most, rfl, ?_⟩
      walk_at "rd"
      refine ifs (fun c => ?_) (fun c => ?_)
      · walk_at "rd"
        rw [show endO N sv v st last = last from if_pos (.inr (of_decide_eq_true c))] at q
        exact q
      · have c' := of_decide_eq_false c
        walk_at "rd"
        refine ⟨x, _, dx, fs, _, rfl, hx, T.cl_Ice, T.na_Ice__channel, hl, ?_⟩
        refine ⟨ch, _, dch, _, _, rfl, hc, T.cl_Channel, T.na_Channel_growth, rfl, ?_⟩
        walk_at "rd"
        refine i_rI (wide_div (b := 100) (by omega) (by omega) (by decide) (by decide)) ?_
        walk_at "rd"
        rw [show endO N sv v st last = _ from if_neg (by omega)] at q
        cases last with
        | none =>
          simp only [valE] at q ⊢
          walk_at "rd"
          refine ⟨rfl, ?_⟩
          rw [decide_eq_true rfl]
          walk_at "rd"
          exact q
        | some l =>
          simp only [valE] at q ⊢
          walk_at "rd"
          refine ⟨rfl, ?_⟩
          rw [show decide (V.int l = V.non) = false from rfl]
          walk_at "rd"
          exact q
end
theorem cutV_take (ps : List Addr) (n : Nat) (h : n ≤ ps.length) : cutV (rf ps) none (some (n : Int)) = rf (ps.take n) := by
  unfold cutV rf
  rw [HT.sIx_none, HT.sIx_nat, List.length_map, Nat.min_eq_left h, List.drop_zero, Nat.sub_zero, ← List.map_take]
section
variable {P : Program} {w : World} {K : PySem.W.Frag} {mg : Str → Option Value} {base : Heap}
/-- the last hour that lets -/
def spLast (T : Top K mg) : Sp := fun vs H Q _ => ∃ (x : Addr) (N : IceN) (B : Brk) (h st : Int), vs = [.ref x, .int h, .int st] ∧ IceA T H x N B ∧ N.ok ∧ BGood N.b B ∧ B.length ≤ 300 ∧ N.b ≤ h ∧ h ≤ 1000000000 ∧ 0 ≤ st ∧ st ≤ 1000000000 ∧ ∀ (o : Option Int) (H' : Hp), Same H H' → AnsL N B h st o → Q (valE o) H'
theorem ok_Ice_last_hour (T : Top K mg) : FnG P w K mg base CX0 5 T.a_Ice_last_hour T.d_Ice_last_hour ["self", "hour", "strength"] (spLast T) := by
  have G_check_number := ok_check_number (P := P) (w := w) (base := base) T
  have G_Ice__check_hour := ok_Ice__check_hour (P := P) (w := w) (base := base) T
  have G_Ice__end_of := ok_Ice__end_of (P := P) (w := w) (base := base) T
  have G_Ice__piece_of := ok_Ice__piece_of (P := P) (w := w) (base := base) T
  refine okG T.F_Ice_last_hour sc_Ice_last_hour (fun vs H Q E h => ?_) (fun cdv A outer s H vs Q E hr hgd h => ?_)
  · obtain ⟨x, N, B, h, st, rfl, _⟩ := h
    rfl
  · obtain ⟨x, N, B, h, st, rfl, ia, ok, good, l3, h0, h1, st0, st1, q⟩ := h
    obtain ⟨dx, ch, lb, lp, bs, ps, hx, hc, hlb, pB, hlp, tP⟩ := id ia
    (have cl_Ice := T.cl_Ice; have na_Ice__channel := T.na_Ice__channel; have na_Ice__begin := T.na_Ice__begin; have na_Ice__breakings := T.na_Ice__breakings; have na_Ice__pieces := T.na_Ice__pieces)
    refine ⟨_, (pss_cons (ps_expr (g_meth (pv 0) T.cl_Ice T.me_Ice__check_hour G_Ice__check_hour (hr.mono (by decide)) hgd T.b_Ice__check_hour .nil pass0 (pa_cons (pv 1) pa_nil)))
      (pss_cons (ps_expr (g_callE (E := WE _) G_check_number (hr.mono (by decide)) hgd (by rfl) T.m_check_number T.F_check_number.kp T.b_check_number .nil (passAt takes0) (pa_cons (pv 2) (pa_cons pe_int (pa_cons (pe_glob (v := .int 1000000000) (by rfl) T.c_STRENGTH_MOST ⟨_, rfl⟩) pa_nil)))))
      (pss_cons (ps_for PassesOwn.never rfl (pi_reversed (by rfl) T.n_reversed (pa_cons (pe_slice sl_list (pe_fld (pv 0) rfl) po_none (po_some (pe_op op_add (g_meth (pv 0) T.cl_Ice T.me_Ice__piece_of G_Ice__piece_of (hr.mono (by decide)) hgd T.b_Ice__piece_of .nil pass0 (pa_cons (pv 1) pa_nil)) pe_int))) pa_nil)) (pg_tup rfl (pgs_cons (pg_name (i := 3) sc_Ice_last_hour.nd rfl (by first | exact Or.inl rfl | exact Or.inr rfl)) (pgs_cons (pg_name (i := 4) sc_Ice_last_hour.nd rfl (by first | exact Or.inl rfl | exact Or.inr rfl)) (pgs_cons (pg_name (i := 5) sc_Ice_last_hour.nd rfl (by first | exact Or.inl rfl | exact Or.inr rfl)) pgs_nil))))
        (pss_one (ps_if (pt_cmpR op_le (pv 5) (pv 2) (nomark _))
        (pss_one (ps_ret (g_meth (pv 0) T.cl_Ice T.me_Ice__end_of G_Ice__end_of (hr.mono (by decide)) hgd T.b_Ice__end_of .nil pass0 (pa_cons (pv 3) (pa_cons (pv 5) (pa_cons (pv 2) (pa_cons (pv 1) pa_nil)))))))
        pss_nil)))
      (pss_one (ps_ret pe_non))))), ?_⟩
    walk_at "rd"
    refine ⟨x, dx, _, N.b, h, rfl, hx, rfl, h0, h1, ?_⟩
    walk_at "rd"
    refine ⟨.int st, _, _, rfl, int_th _ _, fun _ => ?_, fun z => absurd (inB_of st0 st1) (by rw [show inB 0 1000000000 (.int st) = false from z]; decide)⟩
    walk_at "rd"
    obtain ⟨c, r, e⟩ := piece_ok ok good.ok
    have rs := pieces_rise (N := N) good.ok
    refine i_rev ?_
    walk_at "rd"
    refine ⟨x, dx, lp, _, ps, pieces N B, h, rfl, hx, rfl, hlp, tP, by have := pieces_len (N := N) (B := B); omega, rs, ⟨_, by rw [e]; rfl, h0⟩, fun i ai li => ?_⟩
    have hp0 : (pieces N B)[0]? = some (N.b, N.first, c) := by rw [e]; rfl
    clear e
    walk_at "rd"
    refine i_slLs hlp (fun sl J1 N1 => ?_)
    rw [show (i : Int) + 1 = ((i + 1 : Nat) : Int) by omega, cutV_take _ _ (by rw [tP.1]; omega)] at N1
    walk_at "rd"
    have lsl : (rf (ps.take (i + 1))).length = i + 1 := by simp [rf]; rw [tP.1]; omega
    have t1 := tP.keep (keepT_same N1.same)
    refine ⟨sl, _, rfl, SqL.lst N1.at_, ?_⟩
    refine RT.for_Itv (K := K) (a := sl) (xs := rf (ps.take (i + 1))) (fun j σ H' => H' = J1 ∧ (∀ m y, i + 1 - j ≤ m → m ≤ i → (pieces N B)[m]? = some y → ∀ k, y.1 ≤ k → k ≤ h → st < (iceAt N B k).2) ∧ ∃ z3 z4 z5, σ = [some (.ref x), some (.int h), some (.int st), z3, z4, z5])
      ⟨rfl, fun m y h1 h2 => by omega, _, _, _, rfl⟩ (fun j σ H' h => by rw [h.1]; exact SqL.lst N1.at_) ?_ ?_
    · rintro j v σ H1 hj hv ⟨rfl, inv, z3, z4, z5, rfl⟩
      rw [lsl] at hj hv
      obtain ⟨z, hz⟩ : ∃ z, (pieces N B)[i - j]? = some z := ⟨_, List.getElem?_eq_getElem (by omega)⟩
      obtain ⟨a, ha, hta⟩ := t1.get hz
      have ea : v = .ref a := by
        have h2 : (rf (ps.take (i + 1)))[i - j]? = (rf ps)[i - j]? := by
          unfold rf
          rw [List.map_take, List.getElem?_take_of_lt (by omega)]
        rw [show i + 1 - 1 - j = i - j by omega, h2, ha] at hv
        exact (Option.some.inj hv).symm
      subst ea
      have hzm : z ∈ pieces N B := List.mem_of_getElem? hz
      have hzi := piece_at ok good hzm
      have zb : N.b ≤ z.1 := by
        rcases Nat.eq_zero_or_pos (i - j) with e0 | e0
        · rw [e0, hp0] at hz; injection hz with hz; rw [← hz]; exact Int.le_refl _
        · have := rise_lt rs e0 hp0 hz
          have : N.b < z.1 := this
          omega
      have zh : z.1 ≤ h := by
        obtain ⟨⟨y, hy, ly⟩, _⟩ := ai
        rcases Nat.eq_zero_or_pos j with e0 | e0
        · subst e0; rw [show i - 0 = i by omega, hy] at hz; injection hz with hz; rw [← hz]; exact ly
        · have := rise_lt rs (show i - j < i by omega) hz hy; omega
      have lo : ∀ k, z.1 ≤ k → k ≤ h → (∀ y, (pieces N B)[i - j + 1]? = some y → j ≠ 0 → k < y.1) → ∀ u ∈ B, ¬ (z.1 < u.1 ∧ u.1 ≤ k) := fun k k0 k1 hy => by
        refine behind_no good hz (Int.le_refl _) (fun y hyd => ?_)
        obtain ⟨m, hm⟩ := List.mem_iff_getElem?.mp hyd
        rw [List.getElem?_drop] at hm
        rcases Nat.eq_zero_or_pos j with e0 | e0
        · have := ai.2 _ _ (show i < i - j + 1 + m by omega) hm; omega
        · obtain ⟨y', hy'⟩ : ∃ y', (pieces N B)[i - j + 1]? = some y' := ⟨_, List.getElem?_eq_getElem (by omega)⟩
          have h1 := hy y' hy' (by omega)
          rcases Nat.eq_zero_or_pos m with e1 | e1
          · rw [e1, show i - j + 1 + 0 = i - j + 1 by omega, hy'] at hm; injection hm with hm; rw [← hm]; exact h1
          · have := rise_lt rs (show i - j + 1 < i - j + 1 + m by omega) hy' hm; omega
      refine i_gtup (xs := [.int z.1, .int z.2.1, .int z.2.2]) (SqT.tup hta) rfl ?_
      walk_at "rd"
      refine ifs (fun hl => ?_) (fun hl => ?_)
      · have hl' : z.2.2 ≤ st := of_decide_eq_true hl
        have v0 : 0 ≤ z.2.2 := by rw [hzi]; exact (ice_bnd ok good zb).2.1
        walk_at "rd"
        have hx1 := N1.app hx
        refine ⟨x, dx, ch, _, N, z.1, z.2.2, st, some h, rfl, hx1, rfl, hc.same N1.same, ok, v0, hl', st1, ?_⟩
        have hzi2 : z.2.2 = (iceAt N B z.1).2 := by rw [← hzi]
        rw [hzi2] at hl' ⊢
        walk_at "rd"
        refine q _ H1 N1.same ?_
        rcases Nat.eq_zero_or_pos j with e0 | e0
        · exact end_ans ok good zb zh (Int.le_refl _) hl' (lo h zh (Int.le_refl _) (fun y _ n => absurd e0 n)) (fun k k0 k1 => by omega) (fun l => by omega)
        · obtain ⟨y', hy'⟩ : ∃ y', (pieces N B)[i - j + 1]? = some y' := ⟨_, List.getElem?_eq_getElem (by omega)⟩
          have hzy := rise_lt rs (show i - j < i - j + 1 by omega) hz hy'
          have hyh : y'.1 ≤ h := by
            obtain ⟨⟨y, hy, ly⟩, _⟩ := ai
            rcases Nat.lt_or_eq_of_le (show i - j + 1 ≤ i by omega) with e1 | e1
            · have := rise_lt rs e1 hy' hy; omega
            · rw [e1, hy] at hy'; injection hy' with hy'; rw [← hy']; exact ly
          have no := lo (y'.1 - 1) (by omega) (by omega) (fun y hy _ => by rw [hy'] at hy; injection hy with hy; rw [← hy]; omega)
          have gt := inv (i - j + 1) y' (by omega) (by omega) hy'
          have stp := ice_step ok good zb hzy (fun u hu => by have := no u hu; omega)
          have g1 := gt y'.1 (Int.le_refl _) hyh
          have cc := ice_cut ok good (h := y'.1) (by omega)
          have sn : 0 ≤ sumAt B y'.1 := by
            unfold sumAt
            refine sum_nn (fun c hc => ?_)
            obtain ⟨u, hu, eu⟩ := List.mem_map.mp hc
            have := (good.ge u (List.mem_filter.mp hu).1).2.2.1
            omega
          have a1 : (iceAt N B y'.1).1 = grown N (iceAt N B z.1).2 (y'.1 - z.1) := by rw [stp]
          have a2 : (iceAt N B y'.1).2 ≤ (iceAt N B y'.1).1 := by
            have b0 := (ice_bnd ok good (h := y'.1) (by omega)).1.1
            rw [cc]; unfold mx; split <;> omega
          have a3 : st < grown N (iceAt N B z.1).2 (y'.1 - z.1) := by omega
          have a4 : st < N.most ∧ st < (iceAt N B z.1).2 + N.growth * (y'.1 - z.1) := by
            unfold grown at a3
            constructor <;> (split at a3 <;> omega)
          refine end_ans ok good zb (lim := y'.1 - 1) (by omega) (by omega) hl' no (fun k k0 k1 => gt k (by omega) k1) (fun _ => ⟨fun g => ?_, a4.1, by rw [show y'.1 - 1 + 1 - z.1 = y'.1 - z.1 by omega]; exact a4.2⟩)
          rw [g, Int.zero_mul] at a4
          omega
      · have hl' : ¬ z.2.2 ≤ st := of_decide_eq_false hl
        walk_at "rd"
        refine ⟨rfl, fun m y m0 m1 hy k k0 k1 => ?_, _, _, _, rfl⟩
        rcases Nat.lt_or_eq_of_le (show i - j ≤ m by omega) with e0 | e0
        · exact inv m y (by omega) m1 hy k k0 k1
        · subst e0
          rw [hz] at hy
          obtain rfl := Option.some.inj hy
          by_cases c : ∃ y', (pieces N B)[i - j + 1]? = some y' ∧ j ≠ 0 ∧ y'.1 ≤ k
          · obtain ⟨y', hy', jn, yk⟩ := c
            exact inv (i - j + 1) y' (by omega) (by omega) hy' k yk k1
          · have := ice_mono ok good zb k0 (lo k k0 k1 (fun y' hy' jn => by
              by_cases l : k < y'.1
              · exact l
              · exact absurd ⟨y', hy', jn, by omega⟩ c))
            rw [← hzi] at this
            have : z.2.2 ≤ (iceAt N B k).2 := this
            omega
    · rintro σ H1 ⟨rfl, inv, z3, z4, z5, rfl⟩
      walk_at "rd"
      refine q none H1 N1.same (fun k k0 k1 => ?_)
      rw [lsl] at inv
      exact inv 0 _ (by omega) (by omega) hp0 k k0 k1
end

end Ice

set_option Elab.async false
set_option linter.all false
set_option maxRecDepth 100000
set_option maxHeartbeats 4000000
namespace Ice
open PySem PySem.Spec PyProof.Rows L2 TL
/-! side conditions, heaps, one step of a reading, and many -/
local macro_rules | `(tactic| walk_at "hp") => `(tactic| first | assumption | exact upd_same | exact New.at_ (by assumption) | (refine keepU ?_ (by assumption); walk_at "hp") | (refine New.app (by assumption) ?_; walk_at "hp") | (refine Same.app (by assumption) ?_; walk_at "hp") | (refine But.app (by assumption) (by assumption) ?_; walk_at "hp"))
local macro_rules | `(tactic| walk_at "sq") => `(tactic| first | assumption | exact SqL.lst (by walk_at "hp") | exact L2.Same.seq (New.same (by assumption)) (by assumption) | exact L2.Same.seq (by assumption) (by assumption))
local macro_rules | `(tactic| walk_at "len") => `(tactic| first | assumption | (simp only [List.length_cons, List.length_nil, List.length_append, List.length_map]; decide) | (refine Ice.sz_of ?_; simp only [List.length_cons, List.length_nil, List.length_append, List.length_map]; omega))
local macro_rules | `(tactic| walk_at "fresh") => `(tactic| (simp only [List.map_append, List.map_cons, List.map_nil, List.nil_append, List.cons_append]; decide +kernel))
local macro_rules | `(tactic| walk_at "sd") => `(tactic| first | assumption | (show _ ≠ _; omega) | exact Or.inl ⟨by omega, by omega⟩ | exact Or.inr ⟨by omega, by omega⟩ | exact ⟨by decide, by decide⟩ | exact ⟨by decide, by decide, by decide⟩ | exact ⟨by omega, by omega, by omega⟩)
/-! one step of a reading, and many -/
local macro_rules | `(tactic| walk_at "st") => `(tactic| first
  | with_reducible refine i_seq ?_
  | with_reducible refine i_if ?_
  | with_reducible refine i_next ?_
  | with_reducible refine i_ret ?_
  | with_reducible refine i_retN ?_
  | with_reducible refine i_drop ?_
  | with_reducible refine i_asg ?_
  | with_reducible refine i_gname ?_
  | with_reducible refine i_gsub ?_
  | ((with_reducible refine i_var (v := ?vv) ?hv ?_); (case hv => exact rfl))
  | with_reducible refine i_c ?_
  | with_reducible refine i_op ?_
  | with_reducible refine i_un ?_
  | with_reducible refine i_test ?_
  | with_reducible refine i_tB ?_
  | with_reducible refine i_and ?_
  | with_reducible refine i_or ?_
  | with_reducible refine i_not ?_
  | with_reducible refine i_andV ?_
  | with_reducible refine i_orV ?_
  | with_reducible refine i_notV ?_
  | with_reducible refine i_ifE ?_
  | with_reducible refine i_chain ?_
  | with_reducible refine i_bl ?_
  | with_reducible refine i_nil ?_
  | with_reducible refine i_cons ?_
  | with_reducible refine i_call ?_
  | with_reducible refine i_cb ?_
  | with_reducible refine i_rI0 ?_
  | with_reducible refine i_rU ?_
  | ((with_reducible refine i_rEq ?hs ?_); (case hs => exact rfl))
  | ((with_reducible refine i_rNe ?hs ?_); (case hs => exact rfl))
  | ((with_reducible refine i_rI ?hc ?_); (case hc => walk_at "sd"))
  | ((with_reducible refine i_ixL (xs := ?xs) (v := ?vv) ?hS ?he ?_); (case hS => walk_at "sq"); (case he => exact rfl))
  | ((with_reducible refine i_setL (xs := ?xs) (j := ?jj) ?hS ?he ?_); (case hS => walk_at "hp"); (case he => exact rfl))
  | with_reducible refine i_tup ?_
  | with_reducible refine i_lst ?_
  | with_reducible refine i_bm ?_
  | with_reducible refine i_bm0 ?_
  | with_reducible refine i_m1 ?_
  | with_reducible refine i_sl ?_
  | with_reducible refine i_nopart ?_
  | with_reducible refine i_part ?_
  | with_reducible refine i_int ?_
  | with_reducible refine i_str ?_
  | with_reducible refine i_for ?_
  | with_reducible refine i_yes ?_
  | ((with_reducible refine i_lenL (xs := ?xs) ?hS ?_); (case hS => walk_at "sq"))
  | ((with_reducible refine i_room ?hz ?_); (case hz => walk_at "len"))
  | with_reducible refine i_leT ?_
  | with_reducible refine i_notInS ?_
  | with_reducible refine i_inS ?_
  | with_reducible refine i_find ?_
  | with_reducible refine i_isB ?_
  | with_reducible refine i_max2 ?_
  | with_reducible refine i_min2 ?_
  | with_reducible exact trivial
  | with_reducible refine iteT ?_
  | with_reducible refine iteF ?_
  | with_reducible refine i_isstr ?_
  | with_reducible refine i_lc ?_
  | ((with_reducible refine i_cat (xs := ?xs) (zs := ?zs) ?ha ?hb ?hz ?_); (case ha => walk_at "hp"); (case hb => walk_at "hp"); (case hz => walk_at "len"))
  | ((with_reducible refine i_tyL (xs := ?xs) ?ha ?_); (case ha => walk_at "hp"))
  | with_reducible refine i_list ?_
  | with_reducible refine i_disp ?_
  | with_reducible refine i_pairs0 ?_
  | with_reducible refine i_pairs ?_
  | with_reducible refine i_newK ?_
  | with_reducible refine i_gcons ?_
  | with_reducible refine i_gnil ?_
  | with_reducible refine i_revL ?_
  | with_reducible refine i_rng1 ?_
  | ((with_reducible refine i_wipe ?hw ?_); (case hw => exact rfl))
  | with_reducible refine iteNT ?_
  | with_reducible refine iteNF ?_)
local macro_rules | `(tactic| walk_at "sx") => `(tactic| first
  | walk_at "st"
  | with_reducible refine i_kinit ?_
  | with_reducible refine i_ost ?_
  | with_reducible refine i_mkO ?_
  | with_reducible refine i_callE ?_
  | with_reducible refine i_makeE ?_
  | with_reducible refine i_xf ?_
  | with_reducible refine i_sfld ?_
  | with_reducible refine i_fld ?_
  | ((with_reducible refine i_ixT (xs := ?xs) (v := ?vv) ?hS ?he ?_); (case hS => exact SqT.tup (by walk_at "hp")); (case he => exact rfl))
  | with_reducible refine i_intB ?_
  | with_reducible refine i_runS ?_
  | with_reducible refine i_runN ?_
  | ((with_reducible refine i_xf1 (fs := ?ff) (v := ?vv) ?hx ?hl ?_); (case hx => walk_at "hp"); (case hl => exact rfl))
  | with_reducible refine i_methE ?_
  | with_reducible refine i_meth ?_
  | with_reducible refine i_make ?_
  | ((with_reducible refine i_obj (dx := ?dd) (fs := ?ff) ?hx ?hl ?_); (case hx => walk_at "hp"); (case hl => exact rfl))
  | ((with_reducible refine i_fld1 (C := ?CC) (dx := ?dd) (fs := ?ff) (v := ?vv) ?hx ?cl ?na ?hl ?_); (case hx => walk_at "hp"); (case cl => assumption); (case na => assumption); (case hl => exact rfl)))
local macro_rules | `(tactic| walk_at "sy") => `(tactic| first
  | walk_at "sx"
  | with_reducible refine i_dget ?_
  | with_reducible refine i_dget2 ?_
  | with_reducible refine i_dput ?_
  | with_reducible refine i_din ?_
  | ((with_reducible refine i_aug (x := ?vv) ?hx ?_); (case hx => exact rfl)))
local macro_rules | `(tactic| walk_at "rd") => `(tactic| repeat (walk_at "sy"))

/-! the stretches, hour by hour -/
abbrev Fin2 := List (Int × Option Int)
def segR (R : Brk) (s e : Int) : Brk := match R.getLast? with
  | some z => if z.2 = s - 1 then R.dropLast ++ [(z.1, e)] else R ++ [(s, e)]
  | none => [(s, e)]
def addR (N : IceN) (B : Brk) (st : Int) (R : Brk) (k : Int) : Brk := if (iceAt N B k).2 ≤ st then segR R k k else R
def runs (N : IceN) (B : Brk) (st : Int) : Nat → Brk
  | 0 => []
  | m + 1 => addR N B st (runs N B st m) (N.b + (m : Int))
def fin (R : Brk) : Fin2 := R.map fun z => (z.1, some z.2)
def finE (R : Brk) (s : Int) (E : Option Int) : Fin2 := match R.getLast? with
  | some z => if z.2 = s - 1 then fin R.dropLast ++ [(z.1, E)] else fin R ++ [(s, E)]
  | none => [(s, E)]
theorem segR_nil (s e : Int) : segR [] s e = [(s, e)] := rfl
theorem segR_snoc (R : Brk) (z : Int × Int) (s e : Int) : segR (R ++ [z]) s e = if z.2 = s - 1 then R ++ [(z.1, e)] else R ++ [z] ++ [(s, e)] := by
  unfold segR
  rw [List.getLast?_concat]
  show (if z.2 = s - 1 then (R ++ [z]).dropLast ++ [(z.1, e)] else R ++ [z] ++ [(s, e)]) = _
  rw [List.dropLast_concat]
theorem finE_nil (s : Int) (E : Option Int) : finE [] s E = [(s, E)] := rfl
theorem finE_snoc (R : Brk) (z : Int × Int) (s : Int) (E : Option Int) : finE (R ++ [z]) s E = if z.2 = s - 1 then fin R ++ [(z.1, E)] else fin (R ++ [z]) ++ [(s, E)] := by
  unfold finE
  rw [List.getLast?_concat]
  show (if z.2 = s - 1 then fin (R ++ [z]).dropLast ++ [(z.1, E)] else fin (R ++ [z]) ++ [(s, E)]) = _
  rw [List.dropLast_concat]
theorem snoc_or (R : Brk) : R = [] ∨ ∃ Q z, R = Q ++ [z] := by
  rcases List.eq_nil_or_concat R with e | ⟨Q, z, e⟩
  · exact .inl e
  · exact .inr ⟨Q, z, by rw [e, List.concat_eq_append]⟩
theorem fin_seg (R : Brk) (s e : Int) : fin (segR R s e) = finE R s (some e) := by
  rcases snoc_or R with rfl | ⟨Q, z, rfl⟩
  · rfl
  · rw [segR_snoc, finE_snoc]
    split
    · unfold fin; rw [List.map_append]; rfl
    · unfold fin; rw [List.map_append]; rfl
/-- what stands last behind a run -/
theorem segR_last (R : Brk) (s e : Int) : ∃ Q a, segR R s e = Q ++ [(a, e)] ∧ (∀ e', segR R s e' = Q ++ [(a, e')]) ∧ ∀ E, finE R s E = fin Q ++ [(a, E)] := by
  rcases snoc_or R with rfl | ⟨Q, z, rfl⟩
  · exact ⟨[], s, rfl, fun _ => rfl, fun _ => rfl⟩
  · by_cases c : z.2 = s - 1
    · exact ⟨Q, z.1, by rw [segR_snoc, if_pos c], fun e' => by rw [segR_snoc, if_pos c], fun E => by rw [finE_snoc, if_pos c]⟩
    · exact ⟨Q ++ [z], s, by rw [segR_snoc, if_neg c], fun e' => by rw [segR_snoc, if_neg c], fun E => by rw [finE_snoc, if_neg c]⟩
theorem runs_no {N : IceN} {B : Brk} {st : Int} {m : Nat} : ∀ d : Nat, (∀ k : Nat, m ≤ k → k < m + d → st < (iceAt N B (N.b + (k : Int))).2) → runs N B st (m + d) = runs N B st m
  | 0, _ => rfl
  | d + 1, h => by
    show addR N B st (runs N B st (m + d)) (N.b + ((m + d : Nat) : Int)) = _
    rw [runs_no d (fun k h1 h2 => h k h1 (by omega))]
    unfold addR
    have := h (m + d) (by omega) (by omega)
    rw [if_neg (by omega)]
theorem runs_seg {N : IceN} {B : Brk} {st : Int} {m : Nat} : ∀ d : Nat, (∀ k : Nat, m ≤ k → k ≤ m + d → (iceAt N B (N.b + (k : Int))).2 ≤ st) → runs N B st (m + d + 1) = segR (runs N B st m) (N.b + (m : Int)) (N.b + ((m + d : Nat) : Int))
  | 0, h => by
    show addR N B st (runs N B st m) (N.b + (m : Int)) = _
    unfold addR
    rw [if_pos (h m (by omega) (by omega))]; rfl
  | d + 1, h => by
    show addR N B st (runs N B st (m + d + 1)) (N.b + ((m + d + 1 : Nat) : Int)) = _
    rw [runs_seg d (fun k h1 h2 => h k h1 (by omega))]
    obtain ⟨Q, a, e1, e2, _⟩ := segR_last (runs N B st m) (N.b + (m : Int)) (N.b + ((m + d : Nat) : Int))
    unfold addR
    rw [if_pos (h (m + d + 1) (by omega) (by omega)), e1, segR_snoc, if_pos (show N.b + ((m + d : Nat) : Int) = N.b + ((m + d + 1 : Nat) : Int) - 1 by omega), e2]; rfl
theorem runs_bnd {N : IceN} {B : Brk} {st : Int} : ∀ m : Nat, (∀ z ∈ runs N B st m, N.b ≤ z.1 ∧ z.1 ≤ z.2 ∧ z.2 < N.b + (m : Int)) ∧ (runs N B st m).length ≤ m
  | 0 => ⟨fun z hz => (by cases hz), Nat.le_refl _⟩
  | m + 1 => by
    obtain ⟨h1, h2⟩ := runs_bnd (N := N) (B := B) (st := st) m
    have up : ∀ z ∈ runs N B st m, N.b ≤ z.1 ∧ z.1 ≤ z.2 ∧ z.2 < N.b + ((m + 1 : Nat) : Int) := fun z hz => by have := h1 z hz; omega
    show (∀ z ∈ addR N B st (runs N B st m) (N.b + (m : Int)), _) ∧ (addR N B st (runs N B st m) (N.b + (m : Int))).length ≤ _
    unfold addR
    split
    · rcases snoc_or (runs N B st m) with e | ⟨Q, y, e⟩
      · rw [e, segR_nil]
        refine ⟨fun z hz => ?_, by simp⟩
        have : z = (N.b + (m : Int), N.b + (m : Int)) := by simpa using hz
        rw [this]
        refine ⟨by show N.b ≤ N.b + (m : Int); omega, Int.le_refl _, by show N.b + (m : Int) < _; omega⟩
      · rw [e] at up h2 ⊢
        rw [List.length_append] at h2
        rw [segR_snoc]
        have hy := up y (by simp)
        split
        · refine ⟨fun z hz => ?_, by rw [List.length_append]; simp at h2 ⊢; omega⟩
          rcases List.mem_append.mp hz with hz | hz
          · exact up z (by simp [hz])
          · have : z = (y.1, N.b + (m : Int)) := by simpa using hz
            rw [this]
            rename_i c
            refine ⟨by show N.b ≤ y.1; omega, by show y.1 ≤ N.b + (m : Int); omega, by show N.b + (m : Int) < _; omega⟩
        · refine ⟨fun z hz => ?_, by rw [List.length_append, List.length_append]; simp at h2 ⊢; omega⟩
          rcases List.mem_append.mp hz with hz | hz
          · exact up z hz
          · have : z = (N.b + (m : Int), N.b + (m : Int)) := by simpa using hz
            rw [this]
            refine ⟨by show N.b ≤ N.b + (m : Int); omega, Int.le_refl _, by show N.b + (m : Int) < _; omega⟩
    · exact ⟨up, by omega⟩
theorem runs_last {N : IceN} {B : Brk} {st : Int} {m : Nat} : ((iceAt N B (N.b + (m : Int))).2 ≤ st → ∃ Q a, runs N B st (m + 1) = Q ++ [(a, N.b + (m : Int))]) ∧ (¬ (iceAt N B (N.b + (m : Int))).2 ≤ st → ∀ Q z, runs N B st (m + 1) = Q ++ [z] → z.2 ≠ N.b + (m : Int)) := by
  refine ⟨fun h => ?_, fun h Q z e => ?_⟩
  · obtain ⟨Q, a, e1, _⟩ := segR_last (runs N B st m) (N.b + (m : Int)) (N.b + (m : Int))
    exact ⟨Q, a, by show addR N B st (runs N B st m) (N.b + (m : Int)) = _; unfold addR; rw [if_pos h, e1]⟩
  · have e' : addR N B st (runs N B st m) (N.b + (m : Int)) = Q ++ [z] := e
    unfold addR at e'
    rw [if_neg h] at e'
    have := (runs_bnd (N := N) (B := B) (st := st) m).1 z (by rw [e']; simp)
    omega
/-- a piece with one behind it -/
theorem piece_end {N : IceN} {B : Brk} (ok : N.ok) (good : BGood N.b B) {s l st : Int} (bs : N.b ≤ s) (sl : s ≤ l) (hv : (iceAt N B s).2 ≤ st) (no : ∀ z ∈ B, ¬ (s < z.1 ∧ z.1 ≤ l)) : ∃ e, endO N s (iceAt N B s).2 st (some l) = some e ∧ s ≤ e ∧ e ≤ l ∧ (∀ k, s ≤ k → k ≤ e → (iceAt N B k).2 ≤ st) ∧ ∀ k, e < k → k ≤ l → st < (iceAt N B k).2 := by
  have an := end_ans ok good bs sl (Int.le_refl l) hv no (fun k k0 k1 => by omega) (fun h => by omega)
  cases he : endO N s (iceAt N B s).2 st (some l) with
  | none => rw [he] at an; exact absurd (an s bs sl) (by omega)
  | some e =>
    rw [he] at an
    obtain ⟨a0, a1, a2, a3⟩ := an
    have se : s ≤ e := by
      by_cases c : s ≤ e
      · exact c
      · have := a3 s (by omega) sl; omega
    exact ⟨e, rfl, se, a1, fun k k0 k1 => Int.le_trans (ice_mono ok good (by omega) k1 (fun z hz => by have := no z hz; omega)) a2, a3⟩
theorem runs_piece {N : IceN} {B : Brk} {st s e l : Int} (bs : N.b ≤ s) (se : s ≤ e) (el : e ≤ l) (h1 : ∀ k, s ≤ k → k ≤ e → (iceAt N B k).2 ≤ st) (h2 : ∀ k, e < k → k ≤ l → st < (iceAt N B k).2) : runs N B st (l + 1 - N.b).toNat = segR (runs N B st (s - N.b).toNat) s e := by
  have a := runs_seg (N := N) (B := B) (st := st) (m := (s - N.b).toNat) (e - s).toNat (fun k k0 k1 => h1 _ (by omega) (by omega))
  have c := runs_no (N := N) (B := B) (st := st) (m := (e + 1 - N.b).toNat) (l - e).toNat (fun k k0 k1 => h2 _ (by omega) (by omega))
  rw [show (s - N.b).toNat + (e - s).toNat + 1 = (e + 1 - N.b).toNat by omega, show N.b + (((s - N.b).toNat : Nat) : Int) = s by omega, show N.b + (((s - N.b).toNat + (e - s).toNat : Nat) : Int) = e by omega] at a
  rw [show (l + 1 - N.b).toNat = (e + 1 - N.b).toNat + (l - e).toNat by omega, c, a]
theorem runs_none {N : IceN} {B : Brk} {st s l : Int} (bs : N.b ≤ s) (sl : s ≤ l) (h2 : ∀ k, s ≤ k → k ≤ l → st < (iceAt N B k).2) : runs N B st (l + 1 - N.b).toNat = runs N B st (s - N.b).toNat := by
  have c := runs_no (N := N) (B := B) (st := st) (m := (s - N.b).toNat) (l + 1 - s).toNat (fun k k0 k1 => h2 _ (by omega) (by omega))
  rw [show (l + 1 - N.b).toNat = (s - N.b).toNat + (l + 1 - s).toNat by omega, c]
/-- the last piece -/
def lastF (N : IceN) (st : Int) (R : Brk) (s v : Int) : Fin2 := if v ≤ st then finE R s (endO N s v st none) else fin R
def endL (N : IceN) (st v : Int) : Option Int := if N.growth > 0 ∧ N.most > st then some (N.b + 59 + (st - v) / N.growth) else none
theorem endL_eq {N : IceN} (ok : N.ok) {s v st : Int} : endO N s v st none = if N.growth > 0 ∧ N.most > st then some (s + (st - v) / N.growth) else none := by
  have g0 := ok.g0
  unfold endO
  by_cases c : N.growth = 0 ∨ N.most ≤ st
  · rw [if_pos c, if_neg (by omega)]
  · rw [if_neg c, if_pos (by omega)]
theorem last_eq {N : IceN} {B : Brk} (ok : N.ok) (good : BGood N.b B) {s st : Int} (bs : N.b ≤ s) (s9 : s ≤ N.b + 59) (no : ∀ z ∈ B, ¬ s < z.1) :
    ((iceAt N B (N.b + 59)).2 ≤ st → ∃ Q a, runs N B st 60 = Q ++ [(a, N.b + 59)] ∧ lastF N st (runs N B st (s - N.b).toNat) s (iceAt N B s).2 = fin Q ++ [(a, endL N st (iceAt N B (N.b + 59)).2)]) ∧
    (¬ (iceAt N B (N.b + 59)).2 ≤ st → lastF N st (runs N B st (s - N.b).toNat) s (iceAt N B s).2 = fin (runs N B st 60)) := by
  have g0 := ok.g0
  have vb := ice_bnd ok good bs
  have at_ : ∀ k, s ≤ k → (iceAt N B k).2 = grown N (iceAt N B s).2 (k - s) := fun k k0 => by
    rcases Int.lt_or_eq_of_le k0 with l | l
    · rw [ice_same ok good bs l (fun z hz => by have := no z hz; omega)]
    · subst l; rw [Int.sub_self, grown_zero vb.2.2]
  have e60 : (60 : Nat) = (N.b + 59 + 1 - N.b).toNat := by omega
  by_cases hv : (iceAt N B s).2 ≤ st
  · have lf : lastF N st (runs N B st (s - N.b).toNat) s (iceAt N B s).2 = finE (runs N B st (s - N.b).toNat) s (endO N s (iceAt N B s).2 st none) := if_pos hv
    rw [lf, endL_eq ok]
    by_cases c : N.growth > 0 ∧ N.most > st
    · rw [if_pos c]
      obtain ⟨q0, q1, q2⟩ := div_bnd c.1 (show 0 ≤ st - (iceAt N B s).2 by omega)
      generalize hd : (st - (iceAt N B s).2) / N.growth = d at q0 q1 q2
      have lo : ∀ k, s ≤ k → k ≤ s + d → (iceAt N B k).2 ≤ st := fun k k0 k1 => by
        rw [at_ k k0]
        have h1 : N.growth * (k - s) ≤ N.growth * d := Int.mul_le_mul_of_nonneg_left (by omega) g0
        unfold grown
        split <;> omega
      have hi : ∀ k, s + d < k → st < (iceAt N B k).2 := fun k k0 => by
        rw [at_ k (by omega)]
        have h1 : N.growth * (d + 1) ≤ N.growth * (k - s) := Int.mul_le_mul_of_nonneg_left (by omega) g0
        unfold grown
        split <;> omega
      by_cases x : N.b + 59 ≤ s + d
      · have hr := runs_piece (N := N) (B := B) (st := st) (e := N.b + 59) (l := N.b + 59) bs s9 (Int.le_refl _) (fun k k0 k1 => lo k k0 (by omega)) (fun k k0 k1 => by omega)
        rw [← e60] at hr
        obtain ⟨Q, a, e1, _, e3⟩ := segR_last (runs N B st (s - N.b).toNat) s (N.b + 59)
        refine ⟨fun _ => ⟨Q, a, by rw [hr, e1], ?_⟩, fun h => absurd (lo _ s9 x) h⟩
        rw [e3]
        unfold endL
        rw [if_pos c, at_ _ s9]
        have h1 : N.growth * (N.b + 59 - s) ≤ N.growth * d := Int.mul_le_mul_of_nonneg_left (by omega) g0
        have gv : grown N (iceAt N B s).2 (N.b + 59 - s) = (iceAt N B s).2 + N.growth * (N.b + 59 - s) := by
          unfold grown
          rw [if_pos (by omega)]
        have dv : (st - ((iceAt N B s).2 + N.growth * (N.b + 59 - s))) / N.growth = d - (N.b + 59 - s) := by
          rw [show st - ((iceAt N B s).2 + N.growth * (N.b + 59 - s)) = (st - (iceAt N B s).2) + N.growth * (-(N.b + 59 - s)) by rw [Int.mul_neg]; omega, Int.add_mul_ediv_left _ _ (by omega), hd]
          omega
        rw [gv, dv, show N.b + 59 + (d - (N.b + 59 - s)) = s + d by omega]
      · have hr := runs_piece (N := N) (B := B) (st := st) (e := s + d) (l := N.b + 59) bs (by omega) (by omega) lo (fun k k0 _ => hi k k0)
        rw [← e60] at hr
        have := hi (N.b + 59) (by omega)
        exact ⟨fun h => by omega, fun _ => by rw [hr, fin_seg]⟩
    · rw [if_neg c]
      have all : ∀ k, s ≤ k → (iceAt N B k).2 ≤ st := fun k k0 => by
        rw [at_ k k0]
        by_cases gz : N.growth = 0
        · unfold grown; rw [gz, Int.zero_mul]; split <;> omega
        · have : grown N (iceAt N B s).2 (k - s) ≤ N.most := grown_le
          omega
      have hr := runs_piece (N := N) (B := B) (st := st) (e := N.b + 59) (l := N.b + 59) bs s9 (Int.le_refl _) (fun k k0 _ => all k k0) (fun k k0 k1 => by omega)
      rw [← e60] at hr
      obtain ⟨Q, a, e1, _, e3⟩ := segR_last (runs N B st (s - N.b).toNat) s (N.b + 59)
      refine ⟨fun _ => ⟨Q, a, by rw [hr, e1], ?_⟩, fun h => absurd (all _ s9) h⟩
      rw [e3]
      unfold endL
      rw [if_neg c]
  · have lf : lastF N st (runs N B st (s - N.b).toNat) s (iceAt N B s).2 = fin (runs N B st (s - N.b).toNat) := if_neg hv
    have up : ∀ k, s ≤ k → st < (iceAt N B k).2 := fun k k0 => by
      have := ice_mono ok good bs k0 (fun z hz => by have := no z hz; omega)
      omega
    have hr := runs_none (N := N) (B := B) (st := st) (l := N.b + 59) bs s9 (fun k k0 _ => up k k0)
    rw [← e60] at hr
    have := up (N.b + 59) s9
    exact ⟨fun h => by omega, fun _ => by rw [lf, hr]⟩

def SegAt (H : Hp) (rs : List Addr) (F : Fin2) : Prop := rs.length = F.length ∧ ∀ (i : Nat) (a : Addr) (z : Int × Option Int), rs[i]? = some a → F[i]? = some z → H a = some (.tup [.int z.1, valE z.2])
theorem SegAt.keep {H H' : Hp} {bs : List Addr} {F : Fin2} (p : SegAt H bs F) (e : ∀ a xs, H a = some (.tup xs) → H' a = some (.tup xs)) : SegAt H' bs F := ⟨p.1, fun i a z h1 h2 => e a _ (p.2 i a z h1 h2)⟩
theorem SegAt.snoc {H H' : Hp} {bs : List Addr} {F : Fin2} {z : Int × Option Int} {r : Addr} (p : SegAt H bs F) (e : ∀ a xs, H a = some (.tup xs) → H' a = some (.tup xs)) (hr : H' r = some (.tup [.int z.1, valE z.2])) : SegAt H' (bs ++ [r]) (F ++ [z]) := by
  refine ⟨by rw [List.length_append, List.length_append, p.1]; rfl, fun i a y h1 h2 => ?_⟩
  by_cases hi : i < bs.length
  · rw [List.getElem?_append_left hi] at h1
    rw [List.getElem?_append_left (by rw [← p.1]; exact hi)] at h2
    exact e a _ (p.2 i a y h1 h2)
  · rw [List.getElem?_append_right (by omega)] at h1
    rw [List.getElem?_append_right (by rw [← p.1]; omega), ← p.1] at h2
    have e0 : i - bs.length = 0 := by
      have := (List.getElem?_eq_some_iff.mp h1).1
      simp at this; omega
    rw [e0] at h1 h2
    have : r = a := by simpa using h1
    have e2 : z = y := by simpa using h2
    rw [← this, ← e2]; exact hr
theorem SegAt.init {H : Hp} {bs : List Addr} {a : Addr} {F : Fin2} {z : Int × Option Int} (p : SegAt H (bs ++ [a]) (F ++ [z])) : SegAt H bs F ∧ H a = some (.tup [.int z.1, valE z.2]) := by
  have l : bs.length = F.length := by have := p.1; simpa using this
  refine ⟨⟨l, fun i b y h1 h2 => ?_⟩, ?_⟩
  · have hi := (List.getElem?_eq_some_iff.mp h1).1
    exact p.2 i b y (by rw [List.getElem?_append_left hi]; exact h1) (by rw [List.getElem?_append_left (by omega)]; exact h2)
  · exact p.2 bs.length a z (by simp) (by rw [l]; simp)
/-- what the stretches are -/
def FinOf (N : IceN) (B : Brk) (st : Int) (F : Fin2) : Prop := ∃ s, N.b ≤ s ∧ (∀ z ∈ B, ¬ s < z.1) ∧ (s = N.b ∨ ∃ z ∈ B, z.1 = s) ∧ F = lastF N st (runs N B st (s - N.b).toNat) s (iceAt N B s).2
def stepF (N : IceN) (B : Brk) (st : Int) (j : Nat) (F : Fin2) : Prop := (∀ z, (pieces N B)[j]? = some z → F = fin (runs N B st (z.1 - N.b).toNat)) ∧ ((pieces N B).length ≤ j → FinOf N B st F)
def lastOf (N : IceN) (B : Brk) (j : Nat) : Option Int := match (pieces N B)[j + 1]? with
  | some z => some (z.1 - 1)
  | none => none
theorem last_some {N : IceN} {B : Brk} {j : Nat} {z : Int × Int × Int} (h : (pieces N B)[j + 1]? = some z) : lastOf N B j = some (z.1 - 1) := by unfold lastOf; rw [h]
theorem last_none {N : IceN} {B : Brk} {j : Nat} (h : (pieces N B).length ≤ j + 1) : lastOf N B j = none := by unfold lastOf; rw [List.getElem?_eq_none h]
theorem piece_hour {N : IceN} {B : Brk} (good : BGood N.b B) {z : Int × Int × Int} (h : z ∈ pieces N B) : N.b ≤ z.1 ∧ (z.1 = N.b ∨ ∃ u ∈ B, u.1 = z.1) := by
  have hm := cbh_mem (b := N.b) (B := B) (fun z hz => by have := good.ge z hz; omega)
  have h1 : z.1 ∈ (pieces N B).map (·.1) := List.mem_map.mpr ⟨z, h, rfl⟩
  unfold pieces at h1
  rw [pcs_hours] at h1
  obtain ⟨u, hu, e⟩ := List.mem_map.mp h1
  obtain ⟨a, b, _⟩ := hm u hu
  rw [e] at a b
  exact ⟨b, a⟩
/-- what is found behind a piece -/
theorem step_all {N : IceN} {B : Brk} {st : Int} (ok : N.ok) (good : BGood N.b B) {j : Nat} {z : Int × Int × Int} (hz : (pieces N B)[j]? = some z) : (¬ z.2.2 ≤ st → stepF N B st (j + 1) (fin (runs N B st (z.1 - N.b).toNat))) ∧ (z.2.2 ≤ st → stepF N B st (j + 1) (finE (runs N B st (z.1 - N.b).toNat) z.1 (endO N z.1 z.2.2 st (lastOf N B j)))) := by
  have rs := pieces_rise (N := N) good.ok
  have hzm : z ∈ pieces N B := List.mem_of_getElem? hz
  have hzi : z.2.2 = (iceAt N B z.1).2 := by rw [← piece_at ok good hzm]
  obtain ⟨zb, zh⟩ := piece_hour good hzm
  have nx : ∀ z', (pieces N B)[j + 1]? = some z' → z.1 ≤ z'.1 - 1 ∧ ∀ u ∈ B, ¬ (z.1 < u.1 ∧ u.1 ≤ z'.1 - 1) := fun z' hz' => by
    have h1 := rise_lt rs (show j < j + 1 by omega) hz hz'
    refine ⟨by omega, behind_no good hz (Int.le_refl _) (fun y hy => ?_)⟩
    obtain ⟨m, hm⟩ := List.mem_iff_getElem?.mp hy
    rw [List.getElem?_drop] at hm
    rcases Nat.eq_zero_or_pos m with e | e
    · rw [e, show j + 1 + 0 = j + 1 by omega, hz'] at hm; injection hm with hm; rw [← hm]; omega
    · have := rise_lt rs (show j + 1 < j + 1 + m by omega) hz' hm; omega
  have nl : (pieces N B).length ≤ j + 1 → ∀ u ∈ B, ¬ z.1 < u.1 := fun h u hu l => behind_no good hz (Int.le_refl _) (k := u.1) (fun y hy => by rw [List.drop_of_length_le h] at hy; cases hy) u hu ⟨l, Int.le_refl _⟩
  refine ⟨fun hv => ⟨fun z' hz' => ?_, fun h => ⟨z.1, zb, nl h, zh, ?_⟩⟩, fun hv => ⟨fun z' hz' => ?_, fun h => ⟨z.1, zb, nl h, zh, ?_⟩⟩⟩
  · obtain ⟨h1, h2⟩ := nx z' hz'
    have := runs_none (N := N) (B := B) (st := st) zb h1 (fun k k0 k1 => by
      have := ice_mono ok good zb k0 (fun u hu => by have := h2 u hu; omega)
      omega)
    rw [show z'.1 - 1 + 1 - N.b = z'.1 - N.b by omega] at this
    rw [this]
  · unfold lastF
    rw [← hzi, if_neg hv]
  · obtain ⟨h1, h2⟩ := nx z' hz'
    rw [hzi] at hv ⊢
    obtain ⟨e, he, e0, e1, e2, e3⟩ := piece_end ok good zb h1 hv h2
    rw [last_some hz', he, ← fin_seg, ← runs_piece zb e0 e1 e2 e3, show z'.1 - 1 + 1 - N.b = z'.1 - N.b by omega]
  · rw [last_none h]
    unfold lastF
    rw [← hzi, if_pos hv]
theorem fin_len (R : Brk) : (fin R).length = R.length := by unfold fin; simp
theorem i_zipL {K : PySem.W.Frag} {ta : TA} {σ : L2.St} {H : Hp} {R : It → Hp → Prop} (h : ta σ H fun vs H1 => ∃ a b xs ys, vs = [.ref a, .ref b] ∧ SqL K H1 a xs ∧ SqL K H1 b ys ∧ R (Itz K a b) H1) : iZip K ta σ H R := h
section
variable {P : Program} {w : World} {K : PySem.W.Frag} {mg : Str → Option Value} {base : Heap}
def spStretch (T : Top K mg) : Sp := fun vs H Q _ => ∃ (x : Addr) (N : IceN) (B : Brk) (st : Int), vs = [.ref x, .int st] ∧ IceA T H x N B ∧ N.ok ∧ BGood N.b B ∧ B.length ≤ 300 ∧ 0 ≤ st ∧ st ≤ 1000000000 ∧ ∀ (F : Fin2) (r : Addr) (rs : List Addr) (H' : Hp), Same H H' → H r = none → H' r = some (.lst (rf rs)) → rs.length ≤ B.length + 1 → SegAt H' rs F → FinOf N B st F → Q (.ref r) H'
theorem ok_Ice_stretches (T : Top K mg) : FnG P w K mg base CX0 4 T.a_Ice_stretches T.d_Ice_stretches ["self", "strength"] (spStretch T) := by
  have G_check_number := ok_check_number (P := P) (w := w) (base := base) T
  have G_Ice__end_of := ok_Ice__end_of (P := P) (w := w) (base := base) T
  refine okG T.F_Ice_stretches sc_Ice_stretches (fun vs H Q E h => ?_) (fun cdv A outer s H vs Q E hr hgd h => ?_)
  · obtain ⟨x, N, B, st, rfl, _⟩ := h
    rfl
  · obtain ⟨x, N, B, st, rfl, ia, ok, good, l3, st0, st1, q⟩ := h
    have hu : _ := un1 hr
    obtain ⟨dx, ch, lb, lp, bs, ps, hx, hc, hlb, pB, hlp, tP⟩ := id ia
    (have cl_Ice := T.cl_Ice; have na_Ice__channel := T.na_Ice__channel; have na_Ice__begin := T.na_Ice__begin; have na_Ice__breakings := T.na_Ice__breakings; have na_Ice__pieces := T.na_Ice__pieces)
    obtain ⟨c0, r0, e0⟩ := piece_ok ok good.ok
    have rs := pieces_rise (N := N) good.ok
    have lP := pieces_len (N := N) (B := B)
    refine ⟨_, (pss_cons (ps_expr (g_callE (E := WE _) G_check_number (hr.mono (by decide)) hgd (by rfl) T.m_check_number T.F_check_number.kp T.b_check_number .nil (passAt takes0) (pa_cons (pv 1) (pa_cons pe_int (pa_cons (pe_glob (v := .int 1000000000) (by rfl) T.c_STRENGTH_MOST ⟨_, rfl⟩) pa_nil)))))
      (pss_cons (ps_set (i := 2) sc_Ice_stretches.nd rfl (by first | exact Or.inl rfl | exact Or.inr rfl) (pe_lst pa_nil))
      (pss_cons (ps_set (i := 3) sc_Ice_stretches.nd rfl (by first | exact Or.inl rfl | exact Or.inr rfl) (pe_op op_cat (pe_lc (own := [("piece", 9)]) (g := gName 9) rfl sc_Ice_stretches.nd (pi_list (pe_slice sl_list (pe_fld (pv 0) rfl) (po_some pe_int) po_none)) (blkOk_by (own := [("piece", 9)]) (N := ["self", "strength", "found", "ends", "start", "_", "behind", "last", "end", "piece"]) (sc := defScope s_Ice_stretches) (by decide +kernel)) (fun _ _ _ _ _ => (pg_name (i := 9) sc_Ice_stretches.nd rfl (by first | exact Or.inl rfl | exact Or.inr rfl))) (fun _ _ _ _ _ => pts_nil) (fun _ _ _ _ _ => (pe_op op_sub (pe_ix (show IxR _ (rIxT K) from ix_tup) (pv 9) pe_int (fun _ _ => rfl)) pe_int))) (pe_lst (pa_cons pe_non pa_nil))))
      (pss_cons (ps_for PassesOwn.never rfl (pi_zip (by rfl) T.n_zip (pa_cons (pe_fld (pv 0) rfl) (pa_cons (pv 3) pa_nil))) (pg_tup rfl (pgs_cons (pg_tup rfl (pgs_cons (pg_name (i := 4) sc_Ice_stretches.nd rfl (by first | exact Or.inl rfl | exact Or.inr rfl)) (pgs_cons (pg_name (i := 5) sc_Ice_stretches.nd rfl (by first | exact Or.inl rfl | exact Or.inr rfl)) (pgs_cons (pg_name (i := 6) sc_Ice_stretches.nd rfl (by first | exact Or.inl rfl | exact Or.inr rfl)) pgs_nil)))) (pgs_cons (pg_name (i := 7) sc_Ice_stretches.nd rfl (by first | exact Or.inl rfl | exact Or.inr rfl)) pgs_nil)))
        (pss_cons (ps_if (pt_cmpR op_gt (pv 6) (pv 1) (nomark _))
        (pss_one ps_continue)
        pss_nil)
      (pss_cons (ps_set (i := 8) sc_Ice_stretches.nd rfl (by first | exact Or.inl rfl | exact Or.inr rfl) (g_meth (pv 0) T.cl_Ice T.me_Ice__end_of G_Ice__end_of (hr.mono (by decide)) hgd T.b_Ice__end_of .nil pass0 (pa_cons (pv 4) (pa_cons (pv 6) (pa_cons (pv 1) (pa_cons (pv 7) pa_nil))))))
      (pss_one (ps_if (PW.pt (pw_and (pt_truth (pv 2) (by intro _; rfl)) (pw_and1 (pt_cmpR op_eq (pe_ix ix_tup (pe_ix ix_list (pv 2) (pe_un un_neg pe_int) (fun _ _ => rfl)) pe_int (fun _ _ => rfl)) (pe_op op_sub (pv 4) pe_int) (nomark _)))))
        (pss_one (ps_asg (pe_tup (pa_cons (pe_ix ix_tup (pe_ix ix_list (pv 2) (pe_un un_neg pe_int) (fun _ _ => rfl)) pe_int (fun _ _ => rfl)) (pa_cons (pv 8) pa_nil))) (pg_sub (pv 2) (pe_un un_neg pe_int) set_list)))
        (pss_one (ps_expr (pe_bm PySem.F.plainAttrs_list PySem.F.slot_list_append PySem.F.type_list_append mt_append (pv 2) (pa_cons (pe_tup (pa_cons (pv 4) (pa_cons (pv 8) pa_nil))) pa_nil)))))))))
      (pss_one (ps_ret (pv 2))))))), ?_⟩
    walk_at "rd"
    refine ⟨.int st, _, _, rfl, int_th _ _, fun _ => ?_, fun z => absurd (inB_of st0 st1) (by rw [show inB 0 1000000000 (.int st) = false from z]; decide)⟩
    walk_at "rd"
    (intro r hr; generalize er : upd _ r _ = J1; have N1 := New.of er hr; clear er hr)
    have hx1 := N1.app hx
    have hlp1 := N1.app hlp
    have t1 := tP.keep (keepT_same N1.same)
    walk_at "rd"
    refine i_slLs hlp1 (fun sl J2 N2 => ?_)
    rw [cutV_drop1] at N2
    walk_at "rd"
    have tD : TripsAt J2 (ps.drop 1) ((pieces N B).drop 1) := (t1.drop 1).keep (keepT_same N2.same)
    refine ⟨sl, rfl, ⟨_, SqL.lst N2.at_⟩, fun Ed hE => ?_⟩
    refine lc_list (K := K) (a := sl) (xs := rf (ps.drop 1)) (fun j H' => Same J2 H' ∧ H' Ed = some (.lst ((((pieces N B).drop 1).take j).map fun z => V.int (z.1 - 1)))) ⟨Same.new _ hE, upd_same⟩ (fun j H' _ h => SqL.lst (h.1 _ _ N2.at_)) ?_ ?_
    · rintro j v H3 hj ⟨s3, kE⟩
      obtain ⟨a, z, rfl, hz, ha⟩ := tD.get' hj
      have ha3 := s3 _ _ ha
      walk_at "rd"
      exact ⟨_, kE, small1000 (by rw [List.length_map, List.length_take, List.length_drop]; omega), Same.upd s3 hE, by rw [upd_same, take_succ_of hz, List.map_append]; rfl⟩
    · rintro H3 ⟨s3, kE⟩
      rw [show (rf (ps.drop 1)).length = ((pieces N B).drop 1).length by simp [rf, tP.1], List.take_length] at kE
      walk_at "rd"
      (intro ln hln; generalize eln : upd _ ln _ = J4; have N4 := New.of eln hln; clear eln hln)
      refine i_cat (N4.app kE) N4.at_ (small_le (by rw [List.length_map, List.length_drop]; simp; omega)) ?_
      (intro le hle; generalize ele : upd _ le _ = J5; have N5 := New.of ele hle; clear ele hle)
      have s15 : Same J1 J5 := N2.same.trans (s3.trans (N4.same.trans N5.same))
      have hx5 := s15 _ _ hx1
      have hlp5 := s15 _ _ hlp1
      have t5 := t1.keep (keepT_same s15)
      have kr5 := s15 _ _ N1.at_
      have hc5 := (hc.same N1.same).same s15
      have rle : r ≠ le := ne_of_none (N4.app (s3 _ _ (N2.app N1.at_))) N5.free
      have rlp : lp ≠ r := ne_of_none hlp N1.free
      have rx : x ≠ r := ne_of_none hx N1.free
      walk_at "rd"
      refine i_zipL ?_
      walk_at "rd"
      refine ⟨lp, le, _, _, rfl, SqL.lst hlp5, SqL.lst N5.at_, ?_⟩
      have lps : ps.length = (pieces N B).length := tP.1
      have pos : 0 < (pieces N B).length := by rw [e0]; simp
      refine RZ.for_zipL (K := K) (a := lp) (b := le) (xs := rf ps) (ys := (((pieces N B).drop 1).map fun z => V.int (z.1 - 1)) ++ [V.non]) (by simp [rf]; omega) (fun j σ H' => But r J5 H' ∧ (∃ us F, H' r = some (.lst (rf us)) ∧ SegAt H' us F ∧ us.length ≤ j ∧ stepF N B st j F) ∧ ∃ z4 z5 z6 z7 z8 z9, σ = [some (.ref x), some (.int st), some (.ref r), some (.ref le), z4, z5, z6, z7, z8, z9])
        ⟨fun a o _ h => h, ⟨[], [], kr5, ⟨rfl, fun i a z h1 h2 => by simp at h1⟩, Nat.le_refl _, fun z hz => ?_, fun h => by omega⟩, _, _, _, _, _, _, rfl⟩ (fun j σ H' h => ⟨SqL.lst (h.1 _ _ rlp hlp5), SqL.lst (h.1 _ _ rle.symm N5.at_)⟩) ?_ ?_
      · rw [e0] at hz
        have : (N.b, N.first, c0) = z := Option.some.inj hz
        rw [← this]
        show [] = fin (runs N B st (N.b - N.b).toNat)
        rw [show (N.b - N.b).toNat = 0 by omega]; rfl
      · rintro j xv yv Tt σ H6 hxj hyj ⟨e6, ⟨us, F, kr, sg, lu, sf⟩, z4, z5, z6, z7, z8, z9, rfl⟩ hT
        obtain ⟨a, z, rfl, hz, ha⟩ := t5.get' hxj
        have hjP : j < (pieces N B).length := (List.getElem?_eq_some_iff.mp hz).1
        have hyv : yv = valE (lastOf N B j) := by
          by_cases c : j < ((pieces N B).drop 1).length
          · rw [List.getElem?_append_left (by simpa using c), List.getElem?_map] at hyj
            obtain ⟨y, hy⟩ : ∃ y, ((pieces N B).drop 1)[j]? = some y := ⟨_, List.getElem?_eq_getElem c⟩
            rw [hy] at hyj
            rw [List.getElem?_drop, show 1 + j = j + 1 by omega] at hy
            rw [last_some hy]
            exact (Option.some.inj hyj).symm
          · rw [List.length_drop] at c
            rw [last_none (by omega)]
            rw [List.getElem?_append_right (by simp; omega), show j - (((pieces N B).drop 1).map fun z => V.int (z.1 - 1)).length = 0 by simp; omega] at hyj
            exact (Option.some.inj hyj).symm
        subst hyv
        refine i_gtup (xs := [.ref a, valE (lastOf N B j)]) (SqT.tup upd_same) rfl ?_
        generalize eT : upd H6 Tt (HO.tup [.ref a, valE (lastOf N B j)]) = H7
        have nT := New.of eT hT
        clear eT
        have ha7 := nT.app (e6 a _ (ne_of ha kr5 nofun) ha)
        have hx7 := nT.app (e6 _ _ rx hx5)
        have kr7 := nT.app kr
        have sg7 := sg.keep (keepT_same nT.same)
        have e7 : But r J5 H7 := fun a o na h => nT.app (e6 a o na h)
        have hF := sf.1 z hz
        have stp := step_all (st := st) ok good hz
        have lu300 : us.length ≤ 300 := by omega
        walk_at "rd"
        refine i_gtup (xs := [.int z.1, .int z.2.1, .int z.2.2]) (SqT.tup ha7) rfl ?_
        walk_at "rd"
        refine ifs (fun hl => ?_) (fun hl => ?_)
        · have hl' : ¬ z.2.2 ≤ st := by have := of_decide_eq_true hl; omega
          walk_at "rd"
          exact ⟨e7, ⟨us, F, kr7, sg7, by omega, by rw [hF]; exact stp.1 hl'⟩, _, _, _, _, _, _, rfl⟩
        · have hl' : z.2.2 ≤ st := by have := of_decide_eq_false hl; omega
          walk_at "rd"
          have v0 : 0 ≤ z.2.2 := by
            have hzm : z ∈ pieces N B := List.mem_of_getElem? hz
            rw [show z.2.2 = (iceAt N B z.1).2 by rw [← piece_at ok good hzm]]
            exact (ice_bnd ok good (piece_hour good hzm).1).2.1
          have hc7 := ((hc.same N1.same).same s15)
          have hc7' : ChA T H7 ch N := by
            obtain ⟨dch, n, o, t, h, d, hcc⟩ := hc7
            exact ⟨dch, n, o, t, h, d, e7 _ _ (ne_of hcc kr5 nofun) hcc⟩
          refine ⟨x, dx, ch, _, N, z.1, z.2.2, st, lastOf N B j, rfl, hx7, rfl, hc7', ok, v0, hl', st1, ?_⟩
          have fin2 := stp.2 hl'
          subst hF
          generalize endO N z.1 z.2.2 st (lastOf N B j) = Eo at fin2 ⊢
          generalize runs N B st (z.1 - N.b).toNat = R at *
          walk_at "rd"
          refine ⟨!(rf us).isEmpty, .inl ⟨rf us, SqL.lst kr7, rfl⟩, ?_⟩
          rcases snoc_or R with rfl | ⟨R', y, rfl⟩
          · have eu : us = [] := List.eq_nil_of_length_eq_zero (by rw [sg7.1]; rfl)
            subst eu
            rw [show (!(rf ([] : List Addr)).isEmpty) = false from rfl]
            walk_at "rd"
            (intro t ht; generalize et : upd _ t _ = J8; have N8 := New.of et ht; clear et ht)
            walk_at "rd"
            have kr8 := N8.app kr7
            refine i_append kr8 (by simp [rf]) ?_
            refine ⟨fun a o na h => by rw [upd_ne na]; exact N8.app (e7 a o na h), ⟨[t], _, by rw [upd_same]; rfl, ?_, by simp, fin2⟩, _, _, _, _, _, _, rfl⟩
            exact ((sg7.keep (keepT_same N8.same)).snoc (z := (z.1, Eo)) (keepT_same (Same.refl _)) N8.at_).keep (keepT_upd kr8 (fun xs => nofun))
          · obtain ⟨us', a', rfl⟩ : ∃ us' a', us = us' ++ [a'] := by
              rcases List.eq_nil_or_concat us with e | ⟨q, w, e⟩
              · have := sg7.1; rw [e, fin_len] at this; simp at this
              · exact ⟨q, w, by rw [e, List.concat_eq_append]⟩
            have ef : fin (R' ++ [y]) = fin R' ++ [(y.1, some y.2)] := by unfold fin; rw [List.map_append]; rfl
            rw [ef] at sg7
            obtain ⟨sgi, ka'⟩ := sg7.init
            simp only [valE] at ka'
            rw [show (!(rf (us' ++ [a'])).isEmpty) = true by simp [rf]]
            have at1 : atI (rf (us' ++ [a'])) (-1) = some (.ref a') := by unfold rf; rw [List.map_append]; exact atI_last
            have lu' : us'.length + 1 ≤ j := by simpa using lu
            walk_at "rd"
            refine i_ixL (SqL.lst kr7) at1 ?_
            walk_at "rd"
            by_cases c : y.2 = z.1 - 1
            · rw [show decide (V.int y.2 = V.int (z.1 - 1)) = true from decide_eq_true (by rw [c])]
              walk_at "rd"
              refine i_ixL (SqL.lst kr7) at1 ?_
              walk_at "rd"
              (intro t ht; generalize et : upd _ t _ = J8; have N8 := New.of et ht; clear et ht)
              walk_at "rd"
              have kr8 := N8.app kr7
              refine i_setL (j := us'.length) kr8 (by simp [rf, L2.ixN]; omega) ?_
              rw [show (rf (us' ++ [a'])).set us'.length (.ref t) = rf (us' ++ [t]) by unfold rf; rw [List.map_append, List.map_append, List.set_append_right _ _ (by simp)]; simp]
              refine ⟨fun a o na h => by rw [upd_ne na]; exact N8.app (e7 a o na h), ⟨us' ++ [t], _, upd_same, ?_, by simp; omega, fin2⟩, _, _, _, _, _, _, rfl⟩
              rw [finE_snoc, if_pos c]
              exact ((sgi.keep (keepT_same N8.same)).snoc (z := (y.1, Eo)) (keepT_same (Same.refl _)) N8.at_).keep (keepT_upd kr8 (fun xs => nofun))
            · rw [show decide (V.int y.2 = V.int (z.1 - 1)) = false from decide_eq_false (fun h => c (by injection h))]
              walk_at "rd"
              (intro t ht; generalize et : upd _ t _ = J8; have N8 := New.of et ht; clear et ht)
              walk_at "rd"
              have kr8 := N8.app kr7
              refine i_append kr8 (by simp [rf]; omega) ?_
              refine ⟨fun a o na h => by rw [upd_ne na]; exact N8.app (e7 a o na h), ⟨us' ++ [a'] ++ [t], _, by rw [upd_same]; simp [rf], ?_, by simp; omega, fin2⟩, _, _, _, _, _, _, rfl⟩
              rw [finE_snoc, if_neg c, ef]
              exact ((sg7.keep (keepT_same N8.same)).snoc (z := (z.1, Eo)) (keepT_same (Same.refl _)) N8.at_).keep (keepT_upd kr8 (fun xs => nofun))
      · rintro σ H6 ⟨e6, ⟨us, F, kr, sg, lu, sf⟩, z4, z5, z6, z7, z8, z9, rfl⟩
        walk_at "rd"
        refine q F r us H6 (fun a o h => e6 a o (ne_of_none h N1.free) (s15 _ _ (N1.app h))) N1.free kr (by have h9 := lu; simp [rf] at h9; omega) sg (sf.2 (by simp [rf]; omega))
end

end Ice

set_option Elab.async false
set_option linter.all false
set_option maxRecDepth 100000
set_option maxHeartbeats 4000000
namespace Ice
open PySem PySem.Spec PyProof.Rows L2 TL
/-! side conditions, heaps, one step of a reading, and many -/
local macro_rules | `(tactic| walk_at "hp") => `(tactic| first | assumption | exact upd_same | exact New.at_ (by assumption) | (refine keepU ?_ (by assumption); walk_at "hp") | (refine New.app (by assumption) ?_; walk_at "hp") | (refine Same.app (by assumption) ?_; walk_at "hp") | (refine But.app (by assumption) (by assumption) ?_; walk_at "hp"))
local macro_rules | `(tactic| walk_at "sq") => `(tactic| first | assumption | exact SqL.lst (by walk_at "hp") | exact L2.Same.seq (New.same (by assumption)) (by assumption) | exact L2.Same.seq (by assumption) (by assumption))
local macro_rules | `(tactic| walk_at "len") => `(tactic| first | assumption | (simp only [List.length_cons, List.length_nil, List.length_append, List.length_map]; decide) | (refine Ice.sz_of ?_; simp only [List.length_cons, List.length_nil, List.length_append, List.length_map]; omega))
local macro_rules | `(tactic| walk_at "fresh") => `(tactic| (simp only [List.map_append, List.map_cons, List.map_nil, List.nil_append, List.cons_append]; decide +kernel))
local macro_rules | `(tactic| walk_at "sd") => `(tactic| first | assumption | (show _ ≠ _; omega) | exact Or.inl ⟨by omega, by omega⟩ | exact Or.inr ⟨by omega, by omega⟩ | exact ⟨by decide, by decide⟩ | exact ⟨by decide, by decide, by decide⟩ | exact ⟨by omega, by omega, by omega⟩)
/-! one step of a reading, and many -/
local macro_rules | `(tactic| walk_at "st") => `(tactic| first
  | with_reducible refine i_seq ?_
  | with_reducible refine i_if ?_
  | with_reducible refine i_next ?_
  | with_reducible refine i_ret ?_
  | with_reducible refine i_retN ?_
  | with_reducible refine i_drop ?_
  | with_reducible refine i_asg ?_
  | with_reducible refine i_gname ?_
  | with_reducible refine i_gsub ?_
  | ((with_reducible refine i_var (v := ?vv) ?hv ?_); (case hv => exact rfl))
  | with_reducible refine i_c ?_
  | with_reducible refine i_op ?_
  | with_reducible refine i_un ?_
  | with_reducible refine i_test ?_
  | with_reducible refine i_tB ?_
  | with_reducible refine i_and ?_
  | with_reducible refine i_or ?_
  | with_reducible refine i_not ?_
  | with_reducible refine i_andV ?_
  | with_reducible refine i_orV ?_
  | with_reducible refine i_notV ?_
  | with_reducible refine i_ifE ?_
  | with_reducible refine i_chain ?_
  | with_reducible refine i_bl ?_
  | with_reducible refine i_nil ?_
  | with_reducible refine i_cons ?_
  | with_reducible refine i_call ?_
  | with_reducible refine i_cb ?_
  | with_reducible refine i_rI0 ?_
  | with_reducible refine i_rU ?_
  | ((with_reducible refine i_rEq ?hs ?_); (case hs => exact rfl))
  | ((with_reducible refine i_rNe ?hs ?_); (case hs => exact rfl))
  | ((with_reducible refine i_rI ?hc ?_); (case hc => walk_at "sd"))
  | ((with_reducible refine i_ixL (xs := ?xs) (v := ?vv) ?hS ?he ?_); (case hS => walk_at "sq"); (case he => exact rfl))
  | ((with_reducible refine i_setL (xs := ?xs) (j := ?jj) ?hS ?he ?_); (case hS => walk_at "hp"); (case he => exact rfl))
  | with_reducible refine i_tup ?_
  | with_reducible refine i_lst ?_
  | with_reducible refine i_bm ?_
  | with_reducible refine i_bm0 ?_
  | with_reducible refine i_m1 ?_
  | with_reducible refine i_sl ?_
  | with_reducible refine i_nopart ?_
  | with_reducible refine i_part ?_
  | with_reducible refine i_int ?_
  | with_reducible refine i_str ?_
  | with_reducible refine i_for ?_
  | with_reducible refine i_yes ?_
  | ((with_reducible refine i_lenL (xs := ?xs) ?hS ?_); (case hS => walk_at "sq"))
  | ((with_reducible refine i_room ?hz ?_); (case hz => walk_at "len"))
  | with_reducible refine i_leT ?_
  | with_reducible refine i_notInS ?_
  | with_reducible refine i_inS ?_
  | with_reducible refine i_find ?_
  | with_reducible refine i_isB ?_
  | with_reducible refine i_max2 ?_
  | with_reducible refine i_min2 ?_
  | with_reducible exact trivial
  | with_reducible refine iteT ?_
  | with_reducible refine iteF ?_
  | with_reducible refine i_isstr ?_
  | with_reducible refine i_lc ?_
  | ((with_reducible refine i_cat (xs := ?xs) (zs := ?zs) ?ha ?hb ?hz ?_); (case ha => walk_at "hp"); (case hb => walk_at "hp"); (case hz => walk_at "len"))
  | ((with_reducible refine i_tyL (xs := ?xs) ?ha ?_); (case ha => walk_at "hp"))
  | with_reducible refine i_list ?_
  | with_reducible refine i_disp ?_
  | with_reducible refine i_pairs0 ?_
  | with_reducible refine i_pairs ?_
  | with_reducible refine i_newK ?_
  | with_reducible refine i_gcons ?_
  | with_reducible refine i_gnil ?_
  | with_reducible refine i_revL ?_
  | with_reducible refine i_rng1 ?_
  | ((with_reducible refine i_wipe ?hw ?_); (case hw => exact rfl))
  | with_reducible refine iteNT ?_
  | with_reducible refine iteNF ?_)
local macro_rules | `(tactic| walk_at "sx") => `(tactic| first
  | walk_at "st"
  | with_reducible refine i_kinit ?_
  | with_reducible refine i_ost ?_
  | with_reducible refine i_mkO ?_
  | with_reducible refine i_callE ?_
  | with_reducible refine i_makeE ?_
  | with_reducible refine i_xf ?_
  | with_reducible refine i_sfld ?_
  | with_reducible refine i_fld ?_
  | ((with_reducible refine i_ixT (xs := ?xs) (v := ?vv) ?hS ?he ?_); (case hS => exact SqT.tup (by walk_at "hp")); (case he => exact rfl))
  | with_reducible refine i_intB ?_
  | with_reducible refine i_runS ?_
  | with_reducible refine i_runN ?_
  | ((with_reducible refine i_xf1 (fs := ?ff) (v := ?vv) ?hx ?hl ?_); (case hx => walk_at "hp"); (case hl => exact rfl))
  | with_reducible refine i_methE ?_
  | with_reducible refine i_meth ?_
  | with_reducible refine i_make ?_
  | ((with_reducible refine i_obj (dx := ?dd) (fs := ?ff) ?hx ?hl ?_); (case hx => walk_at "hp"); (case hl => exact rfl))
  | ((with_reducible refine i_fld1 (C := ?CC) (dx := ?dd) (fs := ?ff) (v := ?vv) ?hx ?cl ?na ?hl ?_); (case hx => walk_at "hp"); (case cl => assumption); (case na => assumption); (case hl => exact rfl)))
local macro_rules | `(tactic| walk_at "sy") => `(tactic| first
  | walk_at "sx"
  | with_reducible refine i_dget ?_
  | with_reducible refine i_dget2 ?_
  | with_reducible refine i_dput ?_
  | with_reducible refine i_din ?_
  | ((with_reducible refine i_aug (x := ?vv) ?hx ?_); (case hx => exact rfl)))
local macro_rules | `(tactic| walk_at "rd") => `(tactic| repeat (walk_at "sy"))

theorem pairs_any {H : Hp} {rs : List Addr} {L : Brk} (p : PairsAt H rs L) {k : Nat} (h : k < L.length) : ∃ a z, (rf rs)[k]? = some (.ref a) ∧ L[k]? = some z ∧ H a = some (.tup [.int z.1, .int z.2]) := by
  have hk : k < (rf rs).length := by simp [rf]; rw [p.1]; exact h
  obtain ⟨a, z, ea, hz, ha⟩ := p.get (List.getElem?_eq_getElem hk)
  exact ⟨a, z, by rw [List.getElem?_eq_getElem hk, ea], hz, ha⟩
theorem rf_erase' (bs : List Addr) (k : Nat) : (rf bs).eraseIdx k = rf (bs.eraseIdx k) := rf_erase bs k
section
variable {P : Program} {w : World} {K : PySem.W.Frag} {mg : Str → Option Value} {base : Heap}
def spHour9 : Sp := fun vs H Q _ => ∃ (b : Addr) (g : Int) (n : Nat), vs = [.ref b, .int g] ∧ 0 ≤ g ∧ g ≤ 1000000 ∧ Box H b n ∧ n ≤ 90000 ∧ ∀ (h : Int) (H' : Hp), But b H H' → Box H' b (n + 5) → g ≤ h → h ≤ 100000000 → Q (.int h) H'
theorem ok_hour (T : Top K mg) : FnG P w K mg base CX0 2 T.a_hour T.d_hour ["_law_box_here", "_law_begin"] spHour9 := by
  have G_take := ok_take (P := P) (w := w) (base := base) T
  refine okG T.F_hour sc_hour (fun vs H Q E h => ?_) (fun cdv A outer s H vs Q E hr hgd h => ?_)
  · obtain ⟨b, g, n, rfl, _⟩ := h
    rfl
  · obtain ⟨b, g, n, rfl, g0, g6, hB, hn, q⟩ := h
    refine ⟨_, (pss_cons (ps_set (i := 2) sc_hour.nd rfl (by first | exact Or.inl rfl | exact Or.inr rfl) (pe_lst (pa_cons (pv 1) (pa_cons (pe_op op_add (pv 1) (g_call G_take (hr.mono (by decide)) hgd (by rfl) T.m_take T.F_take.kp T.b_take .nil pass0 (pa_cons (pv 0) (pa_cons pe_int pa_nil)))) (pa_cons (pe_op op_add (pv 1) (g_call G_take (hr.mono (by decide)) hgd (by rfl) T.m_take T.F_take.kp T.b_take .nil pass0 (pa_cons (pv 0) (pa_cons pe_int pa_nil)))) (pa_cons (pe_op op_add (pv 1) (g_call G_take (hr.mono (by decide)) hgd (by rfl) T.m_take T.F_take.kp T.b_take .nil pass0 (pa_cons (pv 0) (pa_cons (pe_op op_pow pe_int pe_int) pa_nil)))) pa_nil))))))
      (pss_one (ps_ret (pe_ix ix_list (pe_op op_cat (pv 2) (pe_lst (pa_cons (pe_op op_sub (pe_op op_pow pe_int pe_int) (g_call G_take (hr.mono (by decide)) hgd (by rfl) T.m_take T.F_take.kp T.b_take .nil pass0 (pa_cons (pv 0) (pa_cons pe_int pa_nil)))) pa_nil))) (g_call G_take (hr.mono (by decide)) hgd (by rfl) T.m_take T.F_take.kp T.b_take .nil pass0 (pa_cons (pv 0) (pa_cons pe_int pa_nil))) (fun _ _ => rfl))))), ?_⟩
    walk_at "rd"
    refine ⟨b, 9, n, rfl, hB, by omega, by decide, by decide, fun d1 H1 d10 d11 e1 B1 => ?_⟩
    walk_at "rd"
    refine ⟨b, 300, n + 1, rfl, B1, by omega, by decide, by decide, fun d2 H2 d20 d21 e2 B2 => ?_⟩
    walk_at "rd"
    refine ⟨b, 1000000, n + 2, rfl, B2, by omega, by decide, by decide, fun d3 H3 d30 d31 e3 B3 => ?_⟩
    walk_at "rd"
    (intro l4 hl4; generalize el4 : upd _ l4 _ = J4; have N4 := New.of el4 hl4; clear el4 hl4)
    have B4 := B3.nw N4
    walk_at "rd"
    refine ⟨b, 3, n + 3, rfl, B4, by omega, by decide, by decide, fun d5 H5 d50 d51 e5 B5 => ?_⟩
    have k5 := e5 _ _ (box_ne B3 N4.free) N4.at_
    walk_at "rd"
    (intro l6 hl6; generalize el6 : upd _ l6 _ = J6; have N6 := New.of el6 hl6; clear el6 hl6)
    refine i_cat (N6.app k5) N6.at_ (by simp [sizeLine]) ?_
    (intro l7 hl7; generalize el7 : upd _ l7 _ = J7; have N7 := New.of el7 hl7; clear el7 hl7)
    walk_at "rd"
    refine ⟨b, 5, n + 4, rfl, (B5.nw N6).nw N7, by omega, by decide, by decide, fun d8 H8 d80 d81 e8 B8 => ?_⟩
    obtain ⟨h, hh, ah⟩ := pick (ns := [g, g + d1, g + d2, g + d3, 100000000 - d5]) d80 (by simpa using d81)
    refine i_ixL (SqL.lst (e8 _ _ (box_ne (B5.nw N6) N7.free) N7.at_)) ah ?_
    have hb : g ≤ h ∧ h ≤ 100000000 := by
      simp only [List.mem_cons, List.not_mem_nil, or_false] at hh
      omega
    exact q h H8 (fun a o nb ha => e8 a o nb (N7.app (N6.app (e5 a o nb (N4.app (e3 a o nb (e2 a o nb (e1 a o nb ha)))))))) B8 hb.1 hb.2
def spTurned : Sp := fun vs H Q _ => ∃ (b l : Addr) (bs : List Addr) (B : Brk) (n : Nat), vs = [.ref b, .ref l] ∧ H l = some (.lst (rf bs)) ∧ PairsAt H bs B ∧ B.length ≤ 200 ∧ (∀ z ∈ B, z.1.natAbs < 10 ^ 10 ∧ z.2.natAbs < 10 ^ 10) ∧ Box H b n ∧ n ≤ 80000 ∧ ∀ (r : Addr) (cs : List Addr) (D : Brk) (H' : Hp), But b H H' → H r = none → Box H' b (n + 200) → H' r = some (.lst (rf cs)) → PairsAt H' cs D → D.Perm B → Q (.ref r) H'
theorem ok_turned (T : Top K mg) : FnG P w K mg base CX0 2 T.a_turned T.d_turned ["_law_box_here", "_law_rows"] spTurned := by
  have G_take := ok_take (P := P) (w := w) (base := base) T
  refine okG T.F_turned sc_turned (fun vs H Q E h => ?_) (fun cdv A outer s H vs Q E hr hgd h => ?_)
  · obtain ⟨b, l, bs, B, n, rfl, _⟩ := h
    rfl
  · obtain ⟨b, l, bs, B, n, rfl, kl, pB, l2, bd, hB, hn, q⟩ := h
    have hu64 := un64 hr
    refine ⟨_, (pss_cons (ps_set (i := 2) sc_turned.nd rfl (by first | exact Or.inl rfl | exact Or.inr rfl) (pe_callTy call_list_of (by rfl) T.n_list (by decide +kernel) (pa_cons (pv 1) pa_nil)))
      (pss_cons (ps_set (i := 3) sc_turned.nd rfl (by first | exact Or.inl rfl | exact Or.inr rfl) (pe_lst pa_nil))
      (pss_cons (ps_while PassesOwn.never (pt_cmpR (op_neD hu64) (pv 2) (pe_lst pa_nil) (nomark _))
        (pss_one (ps_expr (pe_bm PySem.F.plainAttrs_list PySem.F.slot_list_append PySem.F.type_list_append mt_append (pv 3) (pa_cons (pe_bm PySem.F.plainAttrs_list PySem.F.slot_list_pop PySem.F.type_list_pop mt_popAt (pv 2) (pa_cons (g_call G_take (hr.mono (by decide)) hgd (by rfl) T.m_take T.F_take.kp T.b_take .nil pass0 (pa_cons (pv 0) (pa_cons (pe_callB c_len (by rfl) T.n_len (by decide +kernel) (pa_cons (pv 2) pa_nil)) pa_nil))) pa_nil)) pa_nil)))))
      (pss_one (ps_ret (pv 3)))))), ?_⟩
    walk_at "rd"
    refine ⟨l, rf bs, rfl, .inl (SqL.lst kl), ?_⟩
    (intro le hle; generalize ele : upd _ le _ = J1; have N1 := New.of ele hle; clear ele hle)
    walk_at "rd"
    (intro r hr; generalize er : upd _ r _ = J2; have N2 := New.of er hr; clear er hr)
    walk_at "rd"
    have leb : le ≠ b := box_ne hB N1.free
    have rb : r ≠ b := box_ne (hB.nw N1) N2.free
    have rle : r ≠ le := (ne_of_none N1.at_ N2.free).symm
    have hle : H le = none := N1.free
    have hr0 : H r = none := none_back N1.same N2.free
    refine i_while ⟨fun m σ H' => (∀ a o, a ≠ b → H a = some o → H' a = some o) ∧ ∃ (ls cs : List Addr) (L D : Brk), m = L.length ∧ H' le = some (.lst (rf ls)) ∧ H' r = some (.lst (rf cs)) ∧ PairsAt H' ls L ∧ PairsAt H' cs D ∧ (L ++ D).Perm B ∧ Box H' b (n + (B.length - L.length)) ∧ σ = [some (.ref b), some (.ref l), some (.ref le), some (.ref r)], ⟨_, fun a o _ h => N2.app (N1.app h), bs, [], B, [], rfl, N2.app N1.at_, N2.at_, (pB.keep (keepT_same N1.same)).keep (keepT_same N2.same), ⟨rfl, fun i a z h1 h2 => by simp at h1⟩, by rw [List.append_nil], ((hB.nw N1).nw N2).mono (by omega), rfl⟩, ?_⟩
    rintro m σ H1 ⟨e1, ls, cs, L, D, rfl, kle, kr, pL, pD, pm, Bx, rfl⟩
    have ll : ls.length = L.length := pL.1
    have lLD : L.length + D.length = B.length := by have := pm.length_eq; rwa [List.length_append] at this
    walk_at "rd"
    (intro em hem; generalize eem : upd _ em _ = J3; have N3 := New.of eem hem; clear eem hem)
    walk_at "rd"
    have p3 := pL.keep (keepT_same N3.same)
    refine ⟨.list (L.map pd2), .list [], .lst (SqL.lst (N3.app kle)) p3.all, .lst (SqL.lst N3.at_) .nil, pd2_shapedL L, rfl, ?_⟩
    rw [pd2_empty]
    by_cases he : L = []
    · subst he
      rw [show (!([] : Brk).isEmpty) = false from rfl]
      walk_at "rd"
      exact q r cs D J3 (fun a o nb h => N3.app (e1 a o nb h)) hr0 ((Bx.nw N3).mono (by omega)) (N3.app kr) (pD.keep (keepT_same N3.same)) (by simpa using pm)
    · rw [show (!L.isEmpty) = true by cases L with | nil => exact absurd rfl he | cons _ _ => rfl]
      have pos : 0 < L.length := List.length_pos_iff.mpr he
      refine ⟨true, rfl, ?_⟩
      rw [if_pos rfl]
      refine ⟨fun σ' H' => ∃ m', m' < L.length ∧ ((∀ a o, a ≠ b → H a = some o → H' a = some o) ∧ ∃ (ls cs : List Addr) (L D : Brk), m' = L.length ∧ H' le = some (.lst (rf ls)) ∧ H' r = some (.lst (rf cs)) ∧ PairsAt H' ls L ∧ PairsAt H' cs D ∧ (L ++ D).Perm B ∧ Box H' b (n + (B.length - L.length)) ∧ σ' = [some (.ref b), some (.ref l), some (.ref le), some (.ref r)]), fun σ' H' z => z, ?_⟩
      have kle3 := N3.app kle
      have kr3 := N3.app kr
      walk_at "rd"
      have lrf : ((rf ls).length : Int) = L.length := by simp [rf, ll]
      rw [lrf]
      refine ⟨b, (L.length : Int), n + (B.length - L.length), rfl, Bx.nw N3, by omega, by omega, by omega, fun d H4 d0 d1 e4 B4 => ?_⟩
      obtain ⟨k, rfl⟩ := Int.eq_ofNat_of_zero_le d0
      have hk : k < L.length := by omega
      have kle4 := e4 _ _ leb kle3
      have kr4 := e4 _ _ rb kr3
      have offP : ∀ a xs, J3 a = some (.tup xs) → H4 a = some (.tup xs) := fun a xs h => e4 a _ (box_off (Bx.nw N3) h (fun _ _ _ z => by cases z)) h
      have p4 := p3.keep offP
      have d4 := (pD.keep (keepT_same N3.same)).keep offP
      walk_at "rd"
      obtain ⟨a, z, ea, hz, ha⟩ := pairs_any p4 hk
      refine ⟨le, rf ls, (k : Int), k, .ref a, rfl, rfl, kle4, by omega, by omega, (L2.ixN_seq (j := k) (by unfold L2.ixN; rw [if_pos (by omega), if_pos (by simp [rf]; omega)]; rfl)).1, ea, ?_⟩
      rw [rf_erase]
      generalize e5 : upd H4 le (HO.lst (rf (ls.eraseIdx k))) = H5
      have kle5 : H5 le = some (.lst (rf (ls.eraseIdx k))) := by rw [← e5]; exact upd_same
      have be5 : But le H4 H5 := fun a o na h => by rw [← e5, upd_ne na]; exact h
      clear e5
      have kr5 := be5 _ _ rle kr4
      have kt5 := keepT_but kle4 (fun xs => nofun) be5
      have p5 : PairsAt H5 (ls.eraseIdx k) (L.eraseIdx k) := p4.erase.keep kt5
      have d5 := d4.keep kt5
      walk_at "rd"
      refine i_append kr5 (by simp [rf]; rw [pD.1]; omega) ?_
      have le1 : (L.eraseIdx k).length = L.length - 1 := by rw [List.length_eraseIdx, if_pos hk]
      generalize e6 : upd H5 r (HO.lst (rf cs ++ [V.ref a])) = H6
      have kr6 : H6 r = some (.lst (rf (cs ++ [a]))) := by rw [← e6, upd_same]; simp [rf]
      have be6 : But r H5 H6 := fun a o na h => by rw [← e6, upd_ne na]; exact h
      clear e6
      have kt6 := keepT_but kr5 (fun xs => nofun) be6
      have hz' : L[k] = z := (List.getElem?_eq_some_iff.mp hz).2
      refine ⟨(L.eraseIdx k).length, by omega, fun a o nb h => ?_, ls.eraseIdx k, cs ++ [a], L.eraseIdx k, D ++ [z], rfl, be6 _ _ rle.symm kle5, kr6, p5.keep kt6, (d5.keep kt6).snoc (z := z) (fun a xs h => h) (kt6 _ _ (kt5 _ _ ha)), ?_, ?_, rfl⟩
      · have nr : a ≠ r := ne_of_none h hr0
        have nl : a ≠ le := ne_of_none h hle
        exact be6 a o nr (be5 a o nl (e4 a o nb (N3.app (e1 a o nb h))))
      · refine List.Perm.trans ?_ pm
        have h1 : (L.eraseIdx k ++ [z]).Perm L := by
          have e : L = L.take k ++ z :: L.drop (k + 1) := by rw [← hz', ← List.drop_eq_getElem_cons hk, List.take_append_drop]
          rw [List.eraseIdx_eq_take_drop_succ]
          conv => rhs; rw [e]
          refine (List.perm_append_comm (l₁ := L.take k ++ L.drop (k + 1)) (l₂ := [z])).trans ?_
          show (z :: (L.take k ++ L.drop (k + 1))).Perm _
          exact List.perm_middle.symm
        rw [← List.append_assoc]
        have h2 : (L.eraseIdx k ++ D ++ [z]).Perm (L.eraseIdx k ++ [z] ++ D) := by
          rw [List.append_assoc, List.append_assoc]
          exact List.perm_append_comm.append_left _
        exact h2.trans (h1.append_right D)
      · obtain ⟨b1, b2, b3, hb, brest⟩ := B4
        refine (show Box H6 b (n + (B.length - L.length) + 1) from ⟨b1, b2, b3, be6 _ _ rb.symm (be5 _ _ leb.symm hb), brest⟩).mono (by rw [le1]; omega)
end

end Ice

set_option Elab.async false
set_option linter.all false
set_option maxRecDepth 100000
set_option maxHeartbeats 4000000
namespace Ice
open PySem PySem.Spec PyProof.Rows L2 TL
/-! side conditions, heaps, one step of a reading, and many -/
local macro_rules | `(tactic| walk_at "hp") => `(tactic| first | assumption | exact upd_same | exact New.at_ (by assumption) | (refine keepU ?_ (by assumption); walk_at "hp") | (refine New.app (by assumption) ?_; walk_at "hp") | (refine Same.app (by assumption) ?_; walk_at "hp") | (refine But.app (by assumption) (by assumption) ?_; walk_at "hp"))
local macro_rules | `(tactic| walk_at "sq") => `(tactic| first | assumption | exact SqL.lst (by walk_at "hp") | exact L2.Same.seq (New.same (by assumption)) (by assumption) | exact L2.Same.seq (by assumption) (by assumption))
local macro_rules | `(tactic| walk_at "len") => `(tactic| first | assumption | (simp only [List.length_cons, List.length_nil, List.length_append, List.length_map]; decide) | (refine Ice.sz_of ?_; simp only [List.length_cons, List.length_nil, List.length_append, List.length_map]; omega))
local macro_rules | `(tactic| walk_at "fresh") => `(tactic| (simp only [List.map_append, List.map_cons, List.map_nil, List.nil_append, List.cons_append]; decide +kernel))
local macro_rules | `(tactic| walk_at "sd") => `(tactic| first | assumption | (show _ ≠ _; omega) | exact Or.inl ⟨by omega, by omega⟩ | exact Or.inr ⟨by omega, by omega⟩ | exact ⟨by decide, by decide⟩ | exact ⟨by decide, by decide, by decide⟩ | exact ⟨by omega, by omega, by omega⟩)
/-! one step of a reading, and many -/
local macro_rules | `(tactic| walk_at "st") => `(tactic| first
  | with_reducible refine i_seq ?_
  | with_reducible refine i_if ?_
  | with_reducible refine i_next ?_
  | with_reducible refine i_ret ?_
  | with_reducible refine i_retN ?_
  | with_reducible refine i_drop ?_
  | with_reducible refine i_asg ?_
  | with_reducible refine i_gname ?_
  | with_reducible refine i_gsub ?_
  | ((with_reducible refine i_var (v := ?vv) ?hv ?_); (case hv => exact rfl))
  | with_reducible refine i_c ?_
  | with_reducible refine i_op ?_
  | with_reducible refine i_un ?_
  | with_reducible refine i_test ?_
  | with_reducible refine i_tB ?_
  | with_reducible refine i_and ?_
  | with_reducible refine i_or ?_
  | with_reducible refine i_not ?_
  | with_reducible refine i_andV ?_
  | with_reducible refine i_orV ?_
  | with_reducible refine i_notV ?_
  | with_reducible refine i_ifE ?_
  | with_reducible refine i_chain ?_
  | with_reducible refine i_bl ?_
  | with_reducible refine i_nil ?_
  | with_reducible refine i_cons ?_
  | with_reducible refine i_call ?_
  | with_reducible refine i_cb ?_
  | with_reducible refine i_rI0 ?_
  | with_reducible refine i_rU ?_
  | ((with_reducible refine i_rEq ?hs ?_); (case hs => exact rfl))
  | ((with_reducible refine i_rNe ?hs ?_); (case hs => exact rfl))
  | ((with_reducible refine i_rI ?hc ?_); (case hc => walk_at "sd"))
  | ((with_reducible refine i_ixL (xs := ?xs) (v := ?vv) ?hS ?he ?_); (case hS => walk_at "sq"); (case he => exact rfl))
  | ((with_reducible refine i_setL (xs := ?xs) (j := ?jj) ?hS ?he ?_); (case hS => walk_at "hp"); (case he => exact rfl))
  | with_reducible refine i_tup ?_
  | with_reducible refine i_lst ?_
  | with_reducible refine i_bm ?_
  | with_reducible refine i_bm0 ?_
  | with_reducible refine i_m1 ?_
  | with_reducible refine i_sl ?_
  | with_reducible refine i_nopart ?_
  | with_reducible refine i_part ?_
  | with_reducible refine i_int ?_
  | with_reducible refine i_str ?_
  | with_reducible refine i_for ?_
  | with_reducible refine i_yes ?_
  | ((with_reducible refine i_lenL (xs := ?xs) ?hS ?_); (case hS => walk_at "sq"))
  | ((with_reducible refine i_room ?hz ?_); (case hz => walk_at "len"))
  | with_reducible refine i_leT ?_
  | with_reducible refine i_notInS ?_
  | with_reducible refine i_inS ?_
  | with_reducible refine i_find ?_
  | with_reducible refine i_isB ?_
  | with_reducible refine i_max2 ?_
  | with_reducible refine i_min2 ?_
  | with_reducible exact trivial
  | with_reducible refine iteT ?_
  | with_reducible refine iteF ?_
  | with_reducible refine i_isstr ?_
  | with_reducible refine i_lc ?_
  | ((with_reducible refine i_cat (xs := ?xs) (zs := ?zs) ?ha ?hb ?hz ?_); (case ha => walk_at "hp"); (case hb => walk_at "hp"); (case hz => walk_at "len"))
  | ((with_reducible refine i_tyL (xs := ?xs) ?ha ?_); (case ha => walk_at "hp"))
  | with_reducible refine i_list ?_
  | with_reducible refine i_disp ?_
  | with_reducible refine i_pairs0 ?_
  | with_reducible refine i_pairs ?_
  | with_reducible refine i_newK ?_
  | with_reducible refine i_gcons ?_
  | with_reducible refine i_gnil ?_
  | with_reducible refine i_revL ?_
  | with_reducible refine i_rng1 ?_
  | ((with_reducible refine i_wipe ?hw ?_); (case hw => exact rfl))
  | with_reducible refine iteNT ?_
  | with_reducible refine iteNF ?_)
local macro_rules | `(tactic| walk_at "sx") => `(tactic| first
  | walk_at "st"
  | with_reducible refine i_kinit ?_
  | with_reducible refine i_ost ?_
  | with_reducible refine i_mkO ?_
  | with_reducible refine i_callE ?_
  | with_reducible refine i_makeE ?_
  | with_reducible refine i_xf ?_
  | with_reducible refine i_sfld ?_
  | with_reducible refine i_fld ?_
  | ((with_reducible refine i_ixT (xs := ?xs) (v := ?vv) ?hS ?he ?_); (case hS => exact SqT.tup (by walk_at "hp")); (case he => exact rfl))
  | with_reducible refine i_intB ?_
  | with_reducible refine i_runS ?_
  | with_reducible refine i_runN ?_
  | ((with_reducible refine i_xf1 (fs := ?ff) (v := ?vv) ?hx ?hl ?_); (case hx => walk_at "hp"); (case hl => exact rfl))
  | with_reducible refine i_methE ?_
  | with_reducible refine i_meth ?_
  | with_reducible refine i_make ?_
  | ((with_reducible refine i_obj (dx := ?dd) (fs := ?ff) ?hx ?hl ?_); (case hx => walk_at "hp"); (case hl => exact rfl))
  | ((with_reducible refine i_fld1 (C := ?CC) (dx := ?dd) (fs := ?ff) (v := ?vv) ?hx ?cl ?na ?hl ?_); (case hx => walk_at "hp"); (case cl => assumption); (case na => assumption); (case hl => exact rfl)))
local macro_rules | `(tactic| walk_at "sy") => `(tactic| first
  | walk_at "sx"
  | with_reducible refine i_dget ?_
  | with_reducible refine i_dget2 ?_
  | with_reducible refine i_dput ?_
  | with_reducible refine i_din ?_
  | ((with_reducible refine i_aug (x := ?vv) ?hx ?_); (case hx => exact rfl)))
local macro_rules | `(tactic| walk_at "rd") => `(tactic| repeat (walk_at "sy"))

/-- what sorted tells of pairs in any order -/
theorem PairsAt.sortAll {H : Hp} {bs : List Addr} {B : Brk} {ys : List V} (p : PairsAt H bs B) (h1 : SrtO.Srtd (ltP (hk2 H)) ys) (h2 : SrtO.Stb (ltP (hk2 H)) ys (rf bs)) : ∃ cs D, ys = rf cs ∧ PairsAt H cs D ∧ SrtB D ∧ D.Perm B := by
  obtain ⟨cs, rfl⟩ := rf_of (xs := ys) (fun x hx => by
    obtain ⟨a, _, e, _⟩ := p.mem (h2.perm.mem_iff.mp hx)
    exact ⟨a, e⟩)
  have e1 : ((rf cs).map (hk2 H)).Perm B := by rw [← p.map]; exact h2.perm.map _
  have e2 : SrtB ((rf cs).map (hk2 H)) := by
    unfold SrtB
    rw [List.pairwise_map]
    refine h1.imp fun {x y} h => ?_
    have h : SrtO.lexB (hk2 H y) (hk2 H x) = false := h
    unfold SrtO.lexB at h
    unfold lexLe
    by_cases e : (hk2 H y).1 = (hk2 H x).1
    · rw [if_pos e] at h
      have := of_decide_eq_false h
      omega
    · rw [if_neg e] at h
      have := of_decide_eq_false h
      omega
  refine ⟨cs, (rf cs).map (hk2 H), rfl, ⟨by simp [rf], fun i a y ha hy => ?_⟩, e2, e1⟩
  have hv : (rf cs)[i]? = some (.ref a) := by unfold rf; rw [List.getElem?_map, ha]; rfl
  obtain ⟨a', u, e, hu, hH⟩ := p.mem (h2.perm.mem_iff.mp (List.mem_of_getElem? hv))
  injection e with e; subst e
  rw [List.getElem?_map, hv] at hy
  have hy : hk2 H (.ref a) = y := Option.some.inj hy
  rw [hk2_at hH] at hy
  rw [hH, ← hy]
theorem ice_agree {N : IceN} {B D : Brk} (ok : N.ok) (gB : BGood N.b B) (gD : BGood N.b D) {t : Int} (bt : N.b ≤ t) (h : ∀ k, k ≤ t → sumAt B k = sumAt D k) : iceAt N B t = iceAt N D t := by
  have key : ∀ d : Nat, N.b + (d : Int) ≤ t → iceAt N B (N.b + (d : Int)) = iceAt N D (N.b + (d : Int)) := by
    intro d
    induction d with
    | zero =>
      intro hd
      rw [show N.b + ((0 : Nat) : Int) = N.b by omega, ice_begin ok gB.ok, ice_begin ok gD.ok, h _ bt]
    | succ d ih =>
      intro hd
      have e := ih (by omega)
      have a1 := ice_step ok gB (t := N.b + (d : Int)) (h := N.b + ((d + 1 : Nat) : Int)) (by omega) (by omega) (fun z hz => by omega)
      have a2 := ice_step ok gD (t := N.b + (d : Int)) (h := N.b + ((d + 1 : Nat) : Int)) (by omega) (by omega) (fun z hz => by omega)
      rw [a1, a2, e, h _ hd]
  have := key (t - N.b).toNat (by omega)
  rw [show N.b + (((t - N.b).toNat : Nat) : Int) = t by omega] at this
  exact this
/-- what stands ahead hangs on what is earlier alone -/
theorem ahead_agree {N : IceN} {B D : Brk} (ok : N.ok) (gB : BGood N.b B) (gD : BGood N.b D) {t : Int} (bt : N.b ≤ t) (h : ∀ k, k < t → sumAt B k = sumAt D k) : (iceAt N B t).1 = (iceAt N D t).1 := by
  rcases Int.lt_or_eq_of_le bt with l | l
  · rw [ice_step ok gB (t := t - 1) (h := t) (by omega) (by omega) (fun z hz => by omega), ice_step ok gD (t := t - 1) (h := t) (by omega) (by omega) (fun z hz => by omega), ice_agree ok gB gD (t := t - 1) (by omega) (fun k hk => h k (by omega))]
  · subst l; rw [ice_begin ok gB.ok, ice_begin ok gD.ok]
theorem mx_mx {x s c : Int} (c0 : 0 ≤ c) : mx (mx (x - s) - c) = mx (x - (s + c)) := by unfold mx; split <;> split <;> split <;> omega
def stpT (N : IceN) (h : Int) (s z : Int × Int) : Int × Int := if z.1 ≤ h then (z.1, mx (grown N s.2 (z.1 - s.1) - z.2)) else s
theorem BGood.sub {b : Int} {A B : Brk} (g : BGood b B) (s : A.Sublist B) : BGood b A := ⟨g.srt.sublist s, fun z hz => g.ge z (s.subset hz)⟩
theorem fold_all {N : IceN} (ok : N.ok) {h : Int} (bh : N.b ≤ h) : ∀ (n : Nat) (A : Brk), A.length = n → BGood N.b A → (∀ z ∈ A, z.1 ≤ h) → (N.b ≤ (A.foldl (stpT N h) (N.b, N.first)).1 ∧ (A.foldl (stpT N h) (N.b, N.first)).1 ≤ h) ∧ (∀ z ∈ A, z.1 ≤ (A.foldl (stpT N h) (N.b, N.first)).1) ∧ ((A.foldl (stpT N h) (N.b, N.first)).1 = N.b ∨ ∃ z ∈ A, z.1 = (A.foldl (stpT N h) (N.b, N.first)).1) ∧ (A.foldl (stpT N h) (N.b, N.first)).2 = (iceAt N A (A.foldl (stpT N h) (N.b, N.first)).1).2
  | 0, A, hn, g, _ => by
    have : A = [] := List.eq_nil_of_length_eq_zero hn
    subst this
    refine ⟨⟨Int.le_refl _, bh⟩, fun z hz => (by cases hz), .inl rfl, ?_⟩
    show N.first = (iceAt N [] N.b).2
    rw [ice_begin ok g.ok]
    show N.first = mx (N.first - 0)
    rw [mx_id ok.f0]
  | n + 1, A, hn, g, hA => by
    obtain ⟨Q, z, rfl⟩ : ∃ Q z, A = Q ++ [z] := by
      rcases List.eq_nil_or_concat A with e | ⟨Q, z, e⟩
      · rw [e] at hn; cases hn
      · exact ⟨Q, z, by rw [e, List.concat_eq_append]⟩
    have gQ : BGood N.b Q := g.sub (List.sublist_append_left _ _)
    obtain ⟨⟨i0, i1⟩, i2, i3, i4⟩ := fold_all ok bh n Q (by simpa using hn) gQ (fun y hy => hA y (by simp [hy]))
    rw [List.foldl_append]
    generalize Q.foldl (stpT N h) (N.b, N.first) = S at i0 i1 i2 i3 i4
    have zh := hA z (by simp)
    have gz := g.ge z (by simp)
    have e : List.foldl (stpT N h) S [z] = (z.1, mx (grown N S.2 (z.1 - S.1) - z.2)) := by show stpT N h S z = _; unfold stpT; rw [if_pos zh]
    rw [e]
    have qz : ∀ y ∈ Q, y.1 ≤ z.1 := fun y hy => by
      have := (List.pairwise_append.mp g.srt).2.2 y hy z (by simp)
      rcases this with h | ⟨h, _⟩ <;> omega
    have tz : S.1 ≤ z.1 := by
      rcases i3 with e | ⟨y, hy, e⟩
      · omega
      · have := qz y hy; omega
    have sA : ∀ k, sumAt (Q ++ [z]) k = sumAt Q k + (if z.1 = k then z.2 else 0) := fun k => by
      rw [sumAt_append, sumAt_cons]
      show sumAt Q k + ((if z.1 = k then z.2 else 0) + 0) = _
      omega
    refine ⟨⟨gz.1, zh⟩, fun y hy => ?_, .inr ⟨z, by simp, rfl⟩, ?_⟩
    · rcases List.mem_append.mp hy with hy | hy
      · exact qz y hy
      · have : y = z := by simpa using hy
        rw [this]; exact Int.le_refl _
    · show mx (grown N S.2 (z.1 - S.1) - z.2) = (iceAt N (Q ++ [z]) z.1).2
      rcases Int.lt_or_eq_of_le tz with l | l
      · have st := ice_step ok g (t := S.1) (h := z.1) i0 l (fun y hy => by
          rcases List.mem_append.mp hy with hy | hy
          · have := i2 y hy; omega
          · have : y = z := by simpa using hy
            rw [this]; omega)
        rw [st, ice_agree ok g gQ (t := S.1) i0 (fun k hk => by rw [sA, if_neg (by omega)]; omega), ← i4, sA, if_pos rfl, sumAt_none (fun y hy => by have := i2 y hy; omega)]
        show _ = mx (_ - (0 + z.2))
        rw [Int.zero_add]
      · have vb := ice_bnd ok gQ (h := S.1) i0
        rw [← l, Int.sub_self, i4, grown_zero vb.2.2, ice_cut ok g i0, ice_cut ok gQ i0, sA, if_pos l.symm, mx_mx (by omega), ahead_agree ok g gQ i0 (fun k hk => by rw [sA, if_neg (by omega)]; omega)]
theorem fold_skip {N : IceN} {h : Int} : ∀ (A : Brk) (s : Int × Int), A.foldl (stpT N h) s = (A.filter fun z => decide (z.1 ≤ h)).foldl (stpT N h) s
  | [], s => rfl
  | z :: r, s => by
    rw [List.filter_cons]
    by_cases c : z.1 ≤ h
    · rw [if_pos (decide_eq_true c)]
      exact fold_skip r _
    · rw [if_neg (by simpa using c)]
      show r.foldl (stpT N h) (stpT N h s z) = _
      rw [show stpT N h s z = s from if_neg c]
      exact fold_skip r s
theorem sumAt_filter (B : Brk) {h k : Int} (hk : k ≤ h) : sumAt (B.filter fun z => decide (z.1 ≤ h)) k = sumAt B k := by
  induction B with
  | nil => rfl
  | cons z r ih =>
    rw [List.filter_cons]
    by_cases c : z.1 ≤ h
    · rw [if_pos (decide_eq_true c), sumAt_cons, sumAt_cons, ih]
    · rw [if_neg (by simpa using c), ih, sumAt_cons, if_neg (by omega)]; omega
/-- the law's own growth from breaking to breaking -/
theorem fold_thick {N : IceN} {B : Brk} (ok : N.ok) (good : BGood N.b B) {h : Int} (bh : N.b ≤ h) : (N.b ≤ (B.foldl (stpT N h) (N.b, N.first)).1 ∧ (B.foldl (stpT N h) (N.b, N.first)).1 ≤ h) ∧ grown N (B.foldl (stpT N h) (N.b, N.first)).2 (h - (B.foldl (stpT N h) (N.b, N.first)).1) = (iceAt N B h).2 := by
  have gF : BGood N.b (B.filter fun z => decide (z.1 ≤ h)) := good.sub List.filter_sublist
  have fh : ∀ z ∈ (B.filter fun z => decide (z.1 ≤ h)), z.1 ≤ h := fun z hz => of_decide_eq_true (List.mem_filter.mp hz).2
  obtain ⟨⟨i0, i1⟩, i2, i3, i4⟩ := fold_all ok bh _ _ rfl gF fh
  rw [fold_skip, ice_agree ok good gF bh (fun k hk => (sumAt_filter B hk).symm)]
  generalize List.foldl (stpT N h) (N.b, N.first) (B.filter fun z => decide (z.1 ≤ h)) = S at i0 i1 i2 i3 i4
  refine ⟨⟨i0, i1⟩, ?_⟩
  rw [i4]
  rcases Int.lt_or_eq_of_le i1 with l | l
  · rw [ice_same ok gF i0 l (fun z hz => by have := i2 z hz; omega)]
  · rw [l, Int.sub_self, grown_zero (ice_bnd ok gF bh).2.2]

section
variable {P : Program} {w : World} {K : PySem.W.Frag} {mg : Str → Option Value} {base : Heap}
def spThick9 : Sp := fun vs H Q _ => ∃ (p dc l : Addr) (N : IceN) (bs : List Addr) (B0 B : Brk) (h : Int), vs = [.ref p, .ref l, .int h] ∧ H p = some (.dK (dkN N dc)) ∧ N.ok ∧ H l = some (.lst (rf bs)) ∧ PairsAt H bs B0 ∧ B.Perm B0 ∧ BGood N.b B ∧ B.length ≤ 300 ∧ N.b ≤ h ∧ h ≤ 1000000000 ∧ ∀ H', Same H H' → Q (.int (iceAt N B h).2) H'
theorem ok_thick (T : Top K mg) : FnG P w K mg base CX0 1 T.a_thick T.d_thick ["_law_numbers_here", "_law_rows", "_law_hour_here"] spThick9 := by
  refine okG T.F_thick sc_thick (fun vs H Q E h => ?_) (fun cdv A outer s H vs Q E hr hgd h => ?_)
  · obtain ⟨p, dc, l, N, bs, B0, B, h, rfl, _⟩ := h
    rfl
  · obtain ⟨p, dc, l, N, bs, B0, B, h, rfl, hp, ok, kl, pB, pm, good, l3, h0, h1, q⟩ := h
    have hu : _ := un1 hr
    have g0 := ok.g0; have g3 := ok.g3; have b6 := ok.b6
    refine ⟨_, (pss_cons (ps_par (i := 3) (j := 4) (by rfl) sc_thick.nd rfl rfl (by decide) rfl rfl (pa_cons (pe_dget hu (pv 0) pe_str (fun _ _ => rfl)) (pa_cons (pe_dget hu (pv 0) pe_str (fun _ _ => rfl)) pa_nil)) (by rfl))
      (pss_cons (ps_for PassesOwn.never rfl (pi_list (pe_callB cr_sortedPO (by rfl) T.n_sorted (by decide +kernel) (pa_cons (pv 1) pa_nil))) (pg_tup rfl (pgs_cons (pg_name (i := 5) sc_thick.nd rfl (by first | exact Or.inl rfl | exact Or.inr rfl)) (pgs_cons (pg_name (i := 6) sc_thick.nd rfl (by first | exact Or.inl rfl | exact Or.inr rfl)) pgs_nil)))
        (pss_one (ps_if (pt_cmpR op_le (pv 5) (pv 2) (nomark _))
        (pss_cons (ps_set (i := 4) sc_thick.nd rfl (by first | exact Or.inl rfl | exact Or.inr rfl) (pe_callB (c_max2) (by rfl) T.n_max (by decide +kernel) (pa_cons pe_int (pa_cons (pe_op op_sub (pe_callB (c_min2) (by rfl) T.n_min (by decide +kernel) (pa_cons (pe_dget hu (pv 0) pe_str (fun _ _ => rfl)) (pa_cons (pe_op op_add (pv 4) (pe_op op_mul (pe_dget hu (pv 0) pe_str (fun _ _ => rfl)) (pe_op op_sub (pv 5) (pv 3)))) pa_nil))) (pv 6)) pa_nil))))
      (pss_one (ps_set (i := 3) sc_thick.nd rfl (by first | exact Or.inl rfl | exact Or.inr rfl) (pv 5))))
        pss_nil)))
      (pss_one (ps_ret (pe_callB (c_min2) (by rfl) T.n_min (by decide +kernel) (pa_cons (pe_dget hu (pv 0) pe_str (fun _ _ => rfl)) (pa_cons (pe_op op_add (pv 4) (pe_op op_mul (pe_dget hu (pv 0) pe_str (fun _ _ => rfl)) (pe_op op_sub (pv 2) (pv 3)))) pa_nil))))))), ?_⟩
    walk_at "rd"
    refine i_par ?_
    walk_at "rd"
    refine ⟨p, _, rfl, dgetS hp (nu_begin N dc), ?_⟩
    walk_at "rd"
    refine ⟨p, _, rfl, dgetS hp (nu_first N dc), ?_⟩
    walk_at "rd"
    refine ⟨_, _, rfl, ?_⟩
    walk_at "rd"
    refine ⟨l, rf bs, hk2 H, rfl, SqL.of kl, fun v hv => ?_, fun ys r sr st hr => ?_⟩
    · obtain ⟨a, z, rfl, _, ha⟩ := pB.mem hv
      exact ⟨a, rfl, by rw [hk2_at ha]; exact ha⟩
    · obtain ⟨cs, D, rfl, pD, sD, pmD⟩ := pB.sortAll sr st
      obtain rfl : D = B := srt_uniq sD good.srt (pmD.trans pm.symm)
      generalize eR : upd H r (HO.lst (rf cs)) = J1
      have N1 := New.of eR hr
      clear eR
      have p1 := pD.keep (keepT_same N1.same)
      have hp1 := N1.app hp
      refine ⟨r, rfl, ⟨_, SqL.lst N1.at_⟩, ?_⟩
      refine for_list (K := K) (a := r) (xs := rf cs) (fun i σ H' => H' = J1 ∧ ∃ z5 z6, σ = [some (.ref p), some (.ref l), some (.int h), some (.int ((D.take i).foldl (stpT N h) (N.b, N.first)).1), some (.int ((D.take i).foldl (stpT N h) (N.b, N.first)).2), z5, z6])
        ⟨rfl, _, _, rfl⟩ (fun i σ H' _ h => by rw [h.1]; exact SqL.lst N1.at_) ?_ ?_
      · rintro i v σ H1 hi ⟨rfl, z5, z6, rfl⟩
        obtain ⟨a, z, rfl, hz, ha⟩ := p1.get hi
        have e : (D.take (i + 1)).foldl (stpT N h) (N.b, N.first) = stpT N h ((D.take i).foldl (stpT N h) (N.b, N.first)) z := by rw [take_succ_of hz, List.foldl_append]; rfl
        rw [e]
        generalize (D.take i).foldl (stpT N h) (N.b, N.first) = S
        refine i_gtup (xs := [.int z.1, .int z.2]) (SqT.tup ha) rfl ?_
        walk_at "rd"
        refine ifs (fun c => ?_) (fun c => ?_)
        · have c' := of_decide_eq_true c
          walk_at "rd"
          refine ⟨p, _, rfl, dgetS hp1 (nu_most N dc), ?_⟩
          walk_at "rd"
          refine ⟨p, _, rfl, dgetS hp1 (nu_growth N dc), ?_⟩
          walk_at "rd"
          exact ⟨rfl, by unfold stpT; rw [if_pos c']; exact ⟨_, _, rfl⟩⟩
        · have c' := of_decide_eq_false c
          walk_at "rd"
          exact ⟨rfl, by unfold stpT; rw [if_neg c']; exact ⟨_, _, rfl⟩⟩
      · rintro σ H1 ⟨rfl, z5, z6, rfl⟩
        rw [show (rf cs).length = D.length by simp [rf, pD.1], List.take_length]
        obtain ⟨⟨f0, f1⟩, ft⟩ := fold_thick ok good h0
        generalize D.foldl (stpT N h) (N.b, N.first) = S at f0 f1 ft
        walk_at "rd"
        refine ⟨p, _, rfl, dgetS hp1 (nu_most N dc), ?_⟩
        walk_at "rd"
        refine ⟨p, _, rfl, dgetS hp1 (nu_growth N dc), ?_⟩
        walk_at "rd"
        have := q H1 N1.same
        rw [← ft] at this
        exact this
end

end Ice

set_option Elab.async false
set_option linter.all false
set_option maxRecDepth 100000
set_option maxHeartbeats 4000000
namespace Ice
open PySem PySem.Spec PyProof.Rows L2 TL
/-! side conditions, heaps, one step of a reading, and many -/
local macro_rules | `(tactic| walk_at "hp") => `(tactic| first | assumption | exact upd_same | exact New.at_ (by assumption) | (refine keepU ?_ (by assumption); walk_at "hp") | (refine New.app (by assumption) ?_; walk_at "hp") | (refine Same.app (by assumption) ?_; walk_at "hp") | (refine But.app (by assumption) (by assumption) ?_; walk_at "hp"))
local macro_rules | `(tactic| walk_at "sq") => `(tactic| first | assumption | exact SqL.lst (by walk_at "hp") | exact L2.Same.seq (New.same (by assumption)) (by assumption) | exact L2.Same.seq (by assumption) (by assumption))
local macro_rules | `(tactic| walk_at "len") => `(tactic| first | assumption | (simp only [List.length_cons, List.length_nil, List.length_append, List.length_map]; decide) | (refine Ice.sz_of ?_; simp only [List.length_cons, List.length_nil, List.length_append, List.length_map]; omega))
local macro_rules | `(tactic| walk_at "fresh") => `(tactic| (simp only [List.map_append, List.map_cons, List.map_nil, List.nil_append, List.cons_append]; decide +kernel))
local macro_rules | `(tactic| walk_at "sd") => `(tactic| first | assumption | (show _ ≠ _; omega) | exact Or.inl ⟨by omega, by omega⟩ | exact Or.inr ⟨by omega, by omega⟩ | exact ⟨by decide, by decide⟩ | exact ⟨by decide, by decide, by decide⟩ | exact ⟨by omega, by omega, by omega⟩)
/-! one step of a reading, and many -/
local macro_rules | `(tactic| walk_at "st") => `(tactic| first
  | with_reducible refine i_seq ?_
  | with_reducible refine i_if ?_
  | with_reducible refine i_next ?_
  | with_reducible refine i_ret ?_
  | with_reducible refine i_retN ?_
  | with_reducible refine i_drop ?_
  | with_reducible refine i_asg ?_
  | with_reducible refine i_gname ?_
  | with_reducible refine i_gsub ?_
  | ((with_reducible refine i_var (v := ?vv) ?hv ?_); (case hv => exact rfl))
  | with_reducible refine i_c ?_
  | with_reducible refine i_op ?_
  | with_reducible refine i_un ?_
  | with_reducible refine i_test ?_
  | with_reducible refine i_tB ?_
  | with_reducible refine i_and ?_
  | with_reducible refine i_or ?_
  | with_reducible refine i_not ?_
  | with_reducible refine i_andV ?_
  | with_reducible refine i_orV ?_
  | with_reducible refine i_notV ?_
  | with_reducible refine i_ifE ?_
  | with_reducible refine i_chain ?_
  | with_reducible refine i_bl ?_
  | with_reducible refine i_nil ?_
  | with_reducible refine i_cons ?_
  | with_reducible refine i_call ?_
  | with_reducible refine i_cb ?_
  | with_reducible refine i_rI0 ?_
  | with_reducible refine i_rU ?_
  | ((with_reducible refine i_rEq ?hs ?_); (case hs => exact rfl))
  | ((with_reducible refine i_rNe ?hs ?_); (case hs => exact rfl))
  | ((with_reducible refine i_rI ?hc ?_); (case hc => walk_at "sd"))
  | ((with_reducible refine i_ixL (xs := ?xs) (v := ?vv) ?hS ?he ?_); (case hS => walk_at "sq"); (case he => exact rfl))
  | ((with_reducible refine i_setL (xs := ?xs) (j := ?jj) ?hS ?he ?_); (case hS => walk_at "hp"); (case he => exact rfl))
  | with_reducible refine i_tup ?_
  | with_reducible refine i_lst ?_
  | with_reducible refine i_bm ?_
  | with_reducible refine i_bm0 ?_
  | with_reducible refine i_m1 ?_
  | with_reducible refine i_sl ?_
  | with_reducible refine i_nopart ?_
  | with_reducible refine i_part ?_
  | with_reducible refine i_int ?_
  | with_reducible refine i_str ?_
  | with_reducible refine i_for ?_
  | with_reducible refine i_yes ?_
  | ((with_reducible refine i_lenL (xs := ?xs) ?hS ?_); (case hS => walk_at "sq"))
  | ((with_reducible refine i_room ?hz ?_); (case hz => walk_at "len"))
  | with_reducible refine i_leT ?_
  | with_reducible refine i_notInS ?_
  | with_reducible refine i_inS ?_
  | with_reducible refine i_find ?_
  | with_reducible refine i_isB ?_
  | with_reducible refine i_max2 ?_
  | with_reducible refine i_min2 ?_
  | with_reducible exact trivial
  | with_reducible refine iteT ?_
  | with_reducible refine iteF ?_
  | with_reducible refine i_isstr ?_
  | with_reducible refine i_lc ?_
  | ((with_reducible refine i_cat (xs := ?xs) (zs := ?zs) ?ha ?hb ?hz ?_); (case ha => walk_at "hp"); (case hb => walk_at "hp"); (case hz => walk_at "len"))
  | ((with_reducible refine i_tyL (xs := ?xs) ?ha ?_); (case ha => walk_at "hp"))
  | with_reducible refine i_list ?_
  | with_reducible refine i_disp ?_
  | with_reducible refine i_pairs0 ?_
  | with_reducible refine i_pairs ?_
  | with_reducible refine i_newK ?_
  | with_reducible refine i_gcons ?_
  | with_reducible refine i_gnil ?_
  | with_reducible refine i_revL ?_
  | with_reducible refine i_rng1 ?_
  | ((with_reducible refine i_wipe ?hw ?_); (case hw => exact rfl))
  | with_reducible refine iteNT ?_
  | with_reducible refine iteNF ?_)
local macro_rules | `(tactic| walk_at "sx") => `(tactic| first
  | walk_at "st"
  | with_reducible refine i_kinit ?_
  | with_reducible refine i_ost ?_
  | with_reducible refine i_mkO ?_
  | with_reducible refine i_callE ?_
  | with_reducible refine i_makeE ?_
  | with_reducible refine i_xf ?_
  | with_reducible refine i_sfld ?_
  | with_reducible refine i_fld ?_
  | ((with_reducible refine i_ixT (xs := ?xs) (v := ?vv) ?hS ?he ?_); (case hS => exact SqT.tup (by walk_at "hp")); (case he => exact rfl))
  | with_reducible refine i_intB ?_
  | with_reducible refine i_runS ?_
  | with_reducible refine i_runN ?_
  | ((with_reducible refine i_xf1 (fs := ?ff) (v := ?vv) ?hx ?hl ?_); (case hx => walk_at "hp"); (case hl => exact rfl))
  | with_reducible refine i_methE ?_
  | with_reducible refine i_meth ?_
  | with_reducible refine i_make ?_
  | ((with_reducible refine i_obj (dx := ?dd) (fs := ?ff) ?hx ?hl ?_); (case hx => walk_at "hp"); (case hl => exact rfl))
  | ((with_reducible refine i_fld1 (C := ?CC) (dx := ?dd) (fs := ?ff) (v := ?vv) ?hx ?cl ?na ?hl ?_); (case hx => walk_at "hp"); (case cl => assumption); (case na => assumption); (case hl => exact rfl)))
local macro_rules | `(tactic| walk_at "sy") => `(tactic| first
  | walk_at "sx"
  | with_reducible refine i_dget ?_
  | with_reducible refine i_dget2 ?_
  | with_reducible refine i_dput ?_
  | with_reducible refine i_din ?_
  | ((with_reducible refine i_aug (x := ?vv) ?hx ?_); (case hx => exact rfl)))
local macro_rules | `(tactic| walk_at "rd") => `(tactic| repeat (walk_at "sy"))

theorem erase_ins {z : Int × Int} {A B : Brk} (p : A.Perm (z :: B)) : (A.erase z).Perm B := by
  have := p.erase z
  rwa [List.erase_cons_head] at this
section
variable {P : Program} {w : World} {K : PySem.W.Frag} {mg : Str → Option Value} {base : Heap}
/-- but b and x -/
def But2 (b x : Addr) (H H' : Hp) : Prop := ∀ a o, a ≠ b → a ≠ x → H a = some o → H' a = some o
theorem Alike.but2 {T : Top K mg} {H H' : Hp} {p x b dc : Addr} {n : Nat} {N : IceN} {C : Cuts} {B D : Brk} (a : Alike T H p x N dc C B) (hb : Box H b n) (off : ∀ z ∈ C, z.2.1 ≠ b) (e : But2 b x H H') (i : IceA T H' x N D) (g : BGood N.b D) (pm : D.Perm B) : Alike T H' p x N dc C D := by
  obtain ⟨dx, ch, lb, lp, bs, ps, hx, _⟩ := id a.ice
  refine ⟨e _ _ (box_off hb a.dn (fun _ _ _ z => by cases z)) (ne_of a.dn hx nofun) a.dn, a.ok, ⟨e _ _ (box_off hb a.cuts.dk (fun _ _ _ z => by cases z)) (ne_of a.cuts.dk hx nofun) a.cuts.dk, fun z hz => e _ _ (off z hz) (ne_of (a.cuts.at_ z hz) hx nofun) (a.cuts.at_ z hz), a.cuts.keys, a.cuts.addrs, a.cuts.full, a.cuts.bnd⟩, i, g, pm.trans a.perm⟩
end

section
variable {P : Program} {w : World} {K : PySem.W.Frag} {mg : Str → Option Value} {base : Heap}
def spTold (T : Top K mg) : Sp := fun vs H Q _ => ∃ (b x l p dc : Addr) (N : IceN) (bt : Bool) (bs : List Addr) (B0 B : Brk) (n : Nat), vs = [.ref b, .ref x, .ref l, .ref p, .bl bt] ∧ H p = some (.dK (dkN N dc)) ∧ N.ok ∧ H l = some (.lst (rf bs)) ∧ PairsAt H bs B0 ∧ (∀ z ∈ B0, N.b ≤ z.1 ∧ z.1 ≤ 100000000 ∧ 1 ≤ z.2 ∧ z.2 ≤ 1000000) ∧ IceA T H x N B ∧ BGood N.b B ∧ B0.length + B.length ≤ 198 ∧ Box H b n ∧ n ≤ 60000 ∧
  ∀ (D : Brk) (H' : Hp), But2 b x H H' → Box H' b (n + 12 * B0.length) → IceA T H' x N D → BGood N.b D → D.Perm (B0 ++ B) → Q .non H'
theorem ok_told (T : Top K mg) : FnG P w K mg base CX0 6 T.a_told T.d_told ["_law_box_here", "_law_ice_here", "_law_rows", "_law_numbers_here", "_law_between"] (spTold T) := by
  have G_take := ok_take (P := P) (w := w) (base := base) T
  have G_hour := ok_hour (P := P) (w := w) (base := base) T
  have G_cut := ok_cut (P := P) (w := w) (base := base) T
  have G_Ice_break_at := ok_Ice_break_at (P := P) (w := w) (base := base) T
  have G_Ice_mend_at := ok_Ice_mend_at (P := P) (w := w) (base := base) T
  refine okG T.F_told sc_told (fun vs H Q E h => ?_) (fun cdv A outer s H vs Q E hr hgd h => ?_)
  · obtain ⟨b, x, l, p, dc, N, bt, bs, B0, B, n, rfl, _⟩ := h
    rfl
  · obtain ⟨b, x, l, p, dc, N, bt, bs, B0, B, n, rfl, hp, ok, kl, pB, bd, ia, good, l198, hB, hn, q⟩ := h
    have hu : _ := un1 hr
    have n0 := ok.b0; have b6 := ok.b6
    obtain ⟨dx, _, _, _, _, _, hx, _⟩ := id ia
    have pb : p ≠ b := box_off hB hp (fun _ _ _ z => by cases z)
    have px : p ≠ x := ne_of hp hx nofun
    have lb : l ≠ b := box_off hB kl (fun _ _ _ => rf_no3)
    have lx : l ≠ x := ne_of kl hx nofun
    refine ⟨_, (pss_one (ps_for PassesOwn.never rfl (pi_list (pv 2)) (pg_tup rfl (pgs_cons (pg_name (i := 5) sc_told.nd rfl (by first | exact Or.inl rfl | exact Or.inr rfl)) (pgs_cons (pg_name (i := 6) sc_told.nd rfl (by first | exact Or.inl rfl | exact Or.inr rfl)) pgs_nil)))
        (pss_cons (ps_expr (g_meth (pv 1) T.cl_Ice T.me_Ice_break_at G_Ice_break_at (hr.mono (by decide)) hgd T.b_Ice_break_at .nil passL (pa_cons (pv 5) (pa_cons (pv 6) pa_nil))))
      (pss_one (ps_if (PW.pt (pw_and (pt_val (pv 4)) (pw_and1 (pt_cmpR op_eq (g_call G_take (hr.mono (by decide)) hgd (by rfl) T.m_take T.F_take.kp T.b_take .nil pass0 (pa_cons (pv 0) (pa_cons pe_int pa_nil))) pe_int (nomark _)))))
        (pss_cons (ps_par (i := 5) (j := 6) (by rfl) sc_told.nd rfl rfl (by decide) rfl rfl (pa_cons (g_call G_hour (hr.mono (by decide)) hgd (by rfl) T.m_hour T.F_hour.kp T.b_hour .nil pass0 (pa_cons (pv 0) (pa_cons (pe_dget hu (pv 3) pe_str (fun _ _ => rfl)) pa_nil))) (pa_cons (g_call G_cut (hr.mono (by decide)) hgd (by rfl) T.m_cut T.F_cut.kp T.b_cut .nil pass0 (pa_cons (pv 0) (pa_cons (pv 3) pa_nil))) pa_nil)) (by rfl))
      (pss_cons (ps_expr (g_meth (pv 1) T.cl_Ice T.me_Ice_break_at G_Ice_break_at (hr.mono (by decide)) hgd T.b_Ice_break_at .nil passL (pa_cons (pv 5) (pa_cons (pv 6) pa_nil))))
      (pss_one (ps_expr (g_meth (pv 1) T.cl_Ice T.me_Ice_mend_at G_Ice_mend_at (hr.mono (by decide)) hgd T.b_Ice_mend_at .nil passL (pa_cons (pv 5) (pa_cons (pv 6) pa_nil)))))))
        pss_nil))))), ?_⟩
    walk_at "rd"
    refine ⟨l, rfl, ⟨_, SqL.lst kl⟩, ?_⟩
    refine for_list (K := K) (a := l) (xs := rf bs) (fun i σ H' => But2 b x H H' ∧ Box H' b (n + 12 * i) ∧ (∃ D, IceA T H' x N D ∧ BGood N.b D ∧ D.Perm (B0.take i ++ B)) ∧ ∃ z5 z6, σ = [some (.ref b), some (.ref x), some (.ref l), some (.ref p), some (.bl bt), z5, z6])
      ⟨fun a o _ _ h => h, hB, ⟨B, ia, good, .refl _⟩, _, _, rfl⟩ (fun i σ H' _ h => SqL.lst (h.1 _ _ lb lx kl)) ?_ ?_
    · rintro i v σ H1 hi ⟨e1, B1, ⟨D, iD, gD, pm⟩, z5, z6, rfl⟩
      obtain ⟨a, z, rfl, hz, ha⟩ := pB.get hi
      have hiB : i < B0.length := (List.getElem?_eq_some_iff.mp hz).1
      have ha1 := e1 a _ (box_off hB ha (fun _ _ _ z => by cases z)) (ne_of ha hx nofun) ha
      have bz := bd z (List.mem_of_getElem? hz)
      have lD : D.length ≤ i + B.length := by have := pm.length_eq; rw [List.length_append, List.length_take] at this; omega
      obtain ⟨dx1, _, _, _, _, _, hx1, _⟩ := id iD
      refine i_gtup (xs := [.int z.1, .int z.2]) (SqT.tup ha1) rfl ?_
      walk_at "rd"
      refine ⟨x, N, D, z.1, z.2, rfl, iD, ok, gD, by omega, bz.1, bz.2.1, bz.2.2.1, bz.2.2.2, fun H2 e2 i2 => ?_⟩
      have g2 := gD.ins (z := (z.1, z.2)) bz
      have pm2 : (insB (z.1, z.2) D).Perm (B0.take (i + 1) ++ B) := by
        rw [take_succ_of hz, List.append_assoc]
        exact (insB_perm _ _).trans ((pm.cons _).trans (List.perm_middle (l₁ := B0.take i) (l₂ := B)).symm)
      have e12 : But2 b x H H2 := fun a o na nx h => e2 a o nx (e1 a o na nx h)
      have B2 : Box H2 b (n + 12 * i) := by
        obtain ⟨b1, b2, b3, hb, brest⟩ := B1
        exact ⟨b1, b2, b3, e2 b _ (ne_of hb hx1 nofun) hb, brest⟩
      have lD2 : (insB (z.1, z.2) D).length = D.length + 1 := (insB_perm _ _).length_eq
      obtain ⟨dx2, _, _, _, _, _, hx2, _⟩ := id i2
      walk_at "rd"
      cases bt with
      | false =>
        walk_at "rd"
        exact ⟨e12, B2.mono (by omega), ⟨_, i2, g2, pm2⟩, _, _, rfl⟩
      | true =>
        walk_at "rd"
        refine ⟨b, 4, n + 12 * i, rfl, B2, by omega, by decide, by decide, fun d H3 d0 d1 e3 B3 => ?_⟩
        have i3 := i2.box B2 e3
        have dn3 := e3 _ _ pb (e12 _ _ pb px hp)
        walk_at "rd"
        refine ifs (fun hd => ?_) (fun hd => ?_)
        · walk_at "rd"
          refine i_par ?_
          walk_at "rd"
          refine ⟨p, _, rfl, dgetS dn3 (nu_begin N dc), ?_⟩
          walk_at "rd"
          refine ⟨b, N.b, n + 12 * i + 1, rfl, n0, b6, B3, by omega, fun h H4 e4 B4 h0 h8 => ?_⟩
          walk_at "rd"
          have dn4 := e4 _ _ pb dn3
          refine ⟨b, p, dc, N, n + 12 * i + 1 + 5, rfl, dn4, pb, ok, B4, by omega, fun c H5 e5 B5 c0 c1 => ?_⟩
          have i5 := (i3.box B3 e4).box B4 e5
          walk_at "rd"
          refine ⟨_, _, rfl, ?_⟩
          obtain ⟨dx5, _, _, _, _, _, hx5, _⟩ := id i5
          walk_at "rd"
          refine ⟨x, N, insB (z.1, z.2) D, h, c, rfl, i5, ok, g2, by omega, h0, h8, c0, c1, fun H6 e6 i6 => ?_⟩
          have g6 := g2.ins (z := (h, c)) ⟨h0, h8, c0, c1⟩
          have hm : (h, c) ∈ insB (h, c) (insB (z.1, z.2) D) := (insB_perm _ _).mem_iff.mpr (by simp)
          have l6 : (insB (h, c) (insB (z.1, z.2) D)).length = (insB (z.1, z.2) D).length + 1 := (insB_perm _ _).length_eq
          obtain ⟨dx6, _, _, _, _, _, hx6, _⟩ := id i6
          walk_at "rd"
          refine ⟨x, N, _, h, c, rfl, i6, ok, g6, by omega, h0, h8, c0, c1, fun _ H7 e7 i7 => ?_, fun nm => absurd hm nm⟩
          walk_at "rd"
          refine ⟨fun a o na nx h => e7 a o nx (e6 a o nx (e5 a o na (e4 a o na (e3 a o na (e12 a o na nx h))))), ?_, ⟨_, i7, g6.del, (erase_ins (insB_perm _ _)).trans pm2⟩, _, _, rfl⟩
          obtain ⟨b1, b2, b3, hb, brest⟩ := B5.mono (show _ ≤ n + 12 * (i + 1) by omega)
          have hb6 := e6 b _ (ne_of hb hx5 nofun) hb
          exact ⟨b1, b2, b3, e7 b _ (ne_of hb6 hx6 nofun) hb6, brest⟩
        · walk_at "rd"
          exact ⟨fun a o na nx h => e3 a o na (e12 a o na nx h), B3.mono (by omega), ⟨_, i3, g2, pm2⟩, _, _, rfl⟩
    · rintro σ H1 ⟨e1, B1, ⟨D, iD, gD, pm⟩, z5, z6, rfl⟩
      rw [show (rf bs).length = B0.length by simp [rf, pB.1]] at B1 pm
      rw [List.take_length] at pm
      exact q D H1 e1 B1 iD gD pm
end

end Ice

set_option Elab.async false
set_option linter.all false
set_option maxRecDepth 100000
set_option maxHeartbeats 4000000
namespace Ice
open PySem PySem.Spec PyProof.Rows L2 TL
/-! side conditions, heaps, one step of a reading, and many -/
local macro_rules | `(tactic| walk_at "hp") => `(tactic| first | assumption | exact upd_same | exact New.at_ (by assumption) | (refine keepU ?_ (by assumption); walk_at "hp") | (refine New.app (by assumption) ?_; walk_at "hp") | (refine Same.app (by assumption) ?_; walk_at "hp") | (refine But.app (by assumption) (by assumption) ?_; walk_at "hp"))
local macro_rules | `(tactic| walk_at "sq") => `(tactic| first | assumption | exact SqL.lst (by walk_at "hp") | exact L2.Same.seq (New.same (by assumption)) (by assumption) | exact L2.Same.seq (by assumption) (by assumption))
local macro_rules | `(tactic| walk_at "len") => `(tactic| first | assumption | (simp only [List.length_cons, List.length_nil, List.length_append, List.length_map]; decide) | (refine Ice.sz_of ?_; simp only [List.length_cons, List.length_nil, List.length_append, List.length_map]; omega))
local macro_rules | `(tactic| walk_at "fresh") => `(tactic| (simp only [List.map_append, List.map_cons, List.map_nil, List.nil_append, List.cons_append]; decide +kernel))
local macro_rules | `(tactic| walk_at "sd") => `(tactic| first | assumption | (show _ ≠ _; omega) | exact Or.inl ⟨by omega, by omega⟩ | exact Or.inr ⟨by omega, by omega⟩ | exact ⟨by decide, by decide⟩ | exact ⟨by decide, by decide, by decide⟩ | exact ⟨by omega, by omega, by omega⟩)
/-! one step of a reading, and many -/
local macro_rules | `(tactic| walk_at "st") => `(tactic| first
  | with_reducible refine i_seq ?_
  | with_reducible refine i_if ?_
  | with_reducible refine i_next ?_
  | with_reducible refine i_ret ?_
  | with_reducible refine i_retN ?_
  | with_reducible refine i_drop ?_
  | with_reducible refine i_asg ?_
  | with_reducible refine i_gname ?_
  | with_reducible refine i_gsub ?_
  | ((with_reducible refine i_var (v := ?vv) ?hv ?_); (case hv => exact rfl))
  | with_reducible refine i_c ?_
  | with_reducible refine i_op ?_
  | with_reducible refine i_un ?_
  | with_reducible refine i_test ?_
  | with_reducible refine i_tB ?_
  | with_reducible refine i_and ?_
  | with_reducible refine i_or ?_
  | with_reducible refine i_not ?_
  | with_reducible refine i_andV ?_
  | with_reducible refine i_orV ?_
  | with_reducible refine i_notV ?_
  | with_reducible refine i_ifE ?_
  | with_reducible refine i_chain ?_
  | with_reducible refine i_bl ?_
  | with_reducible refine i_nil ?_
  | with_reducible refine i_cons ?_
  | with_reducible refine i_call ?_
  | with_reducible refine i_cb ?_
  | with_reducible refine i_rI0 ?_
  | with_reducible refine i_rU ?_
  | ((with_reducible refine i_rEq ?hs ?_); (case hs => exact rfl))
  | ((with_reducible refine i_rNe ?hs ?_); (case hs => exact rfl))
  | ((with_reducible refine i_rI ?hc ?_); (case hc => walk_at "sd"))
  | ((with_reducible refine i_ixL (xs := ?xs) (v := ?vv) ?hS ?he ?_); (case hS => walk_at "sq"); (case he => exact rfl))
  | ((with_reducible refine i_setL (xs := ?xs) (j := ?jj) ?hS ?he ?_); (case hS => walk_at "hp"); (case he => exact rfl))
  | with_reducible refine i_tup ?_
  | with_reducible refine i_lst ?_
  | with_reducible refine i_bm ?_
  | with_reducible refine i_bm0 ?_
  | with_reducible refine i_m1 ?_
  | with_reducible refine i_sl ?_
  | with_reducible refine i_nopart ?_
  | with_reducible refine i_part ?_
  | with_reducible refine i_int ?_
  | with_reducible refine i_str ?_
  | with_reducible refine i_for ?_
  | with_reducible refine i_yes ?_
  | ((with_reducible refine i_lenL (xs := ?xs) ?hS ?_); (case hS => walk_at "sq"))
  | ((with_reducible refine i_room ?hz ?_); (case hz => walk_at "len"))
  | with_reducible refine i_leT ?_
  | with_reducible refine i_notInS ?_
  | with_reducible refine i_inS ?_
  | with_reducible refine i_find ?_
  | with_reducible refine i_isB ?_
  | with_reducible refine i_max2 ?_
  | with_reducible refine i_min2 ?_
  | with_reducible exact trivial
  | with_reducible refine iteT ?_
  | with_reducible refine iteF ?_
  | with_reducible refine i_isstr ?_
  | with_reducible refine i_lc ?_
  | ((with_reducible refine i_cat (xs := ?xs) (zs := ?zs) ?ha ?hb ?hz ?_); (case ha => walk_at "hp"); (case hb => walk_at "hp"); (case hz => walk_at "len"))
  | ((with_reducible refine i_tyL (xs := ?xs) ?ha ?_); (case ha => walk_at "hp"))
  | with_reducible refine i_list ?_
  | with_reducible refine i_disp ?_
  | with_reducible refine i_pairs0 ?_
  | with_reducible refine i_pairs ?_
  | with_reducible refine i_newK ?_
  | with_reducible refine i_gcons ?_
  | with_reducible refine i_gnil ?_
  | with_reducible refine i_revL ?_
  | with_reducible refine i_rng1 ?_
  | ((with_reducible refine i_wipe ?hw ?_); (case hw => exact rfl))
  | with_reducible refine iteNT ?_
  | with_reducible refine iteNF ?_)
local macro_rules | `(tactic| walk_at "sx") => `(tactic| first
  | walk_at "st"
  | with_reducible refine i_kinit ?_
  | with_reducible refine i_ost ?_
  | with_reducible refine i_mkO ?_
  | with_reducible refine i_callE ?_
  | with_reducible refine i_makeE ?_
  | with_reducible refine i_xf ?_
  | with_reducible refine i_sfld ?_
  | with_reducible refine i_fld ?_
  | ((with_reducible refine i_ixT (xs := ?xs) (v := ?vv) ?hS ?he ?_); (case hS => exact SqT.tup (by walk_at "hp")); (case he => exact rfl))
  | with_reducible refine i_intB ?_
  | with_reducible refine i_runS ?_
  | with_reducible refine i_runN ?_
  | ((with_reducible refine i_xf1 (fs := ?ff) (v := ?vv) ?hx ?hl ?_); (case hx => walk_at "hp"); (case hl => exact rfl))
  | with_reducible refine i_methE ?_
  | with_reducible refine i_meth ?_
  | with_reducible refine i_make ?_
  | ((with_reducible refine i_obj (dx := ?dd) (fs := ?ff) ?hx ?hl ?_); (case hx => walk_at "hp"); (case hl => exact rfl))
  | ((with_reducible refine i_fld1 (C := ?CC) (dx := ?dd) (fs := ?ff) (v := ?vv) ?hx ?cl ?na ?hl ?_); (case hx => walk_at "hp"); (case cl => assumption); (case na => assumption); (case hl => exact rfl)))
local macro_rules | `(tactic| walk_at "sy") => `(tactic| first
  | walk_at "sx"
  | with_reducible refine i_dget ?_
  | with_reducible refine i_dget2 ?_
  | with_reducible refine i_dput ?_
  | with_reducible refine i_din ?_
  | ((with_reducible refine i_aug (x := ?vv) ?hx ?_); (case hx => exact rfl)))
local macro_rules | `(tactic| walk_at "rd") => `(tactic| repeat (walk_at "sy"))

/-- the least hour, or none -/
def Ans (N : IceN) (B : Brk) (h st : Int) : Option Int → Prop
  | some r => h ≤ r ∧ (iceAt N B r).2 ≤ st ∧ ∀ k, h ≤ k → k < r → st < (iceAt N B k).2
  | none => ∀ k, h ≤ k → st < (iceAt N B k).2
theorem Ans.uniq {N : IceN} {B : Brk} {h st : Int} {o p : Option Int} (a : Ans N B h st o) (b : Ans N B h st p) : o = p := by
  match o, p, a, b with
  | none, none, _, _ => rfl
  | some r, none, ⟨a1, a2, _⟩, b => exact absurd (b r a1) (by omega)
  | none, some r, a, ⟨b1, b2, _⟩ => exact absurd (a r b1) (by omega)
  | some r, some q, ⟨a1, a2, a3⟩, ⟨b1, b2, b3⟩ =>
    have : r = q := by
      rcases Int.lt_trichotomy r q with l | l | l
      · have := b3 r a1 l; omega
      · exact l
      · have := a3 q b1 l; omega
    rw [this]
section
variable {P : Program} {w : World} {K : PySem.W.Frag} {mg : Str → Option Value} {base : Heap}
theorem next_e {T : Top K mg} {H : Hp} {Q : VK} {E : XK} {x : Addr} {N : IceN} {B : Brk} {h st : Int} (ia : IceA T H x N B) (ok : N.ok) (good : BGood N.b B) (l3 : B.length ≤ 300) (h0 : N.b ≤ h) (h1 : h ≤ 1000000000) (s0 : 0 ≤ st) (s1 : st ≤ 1000000000) (q : ∀ (o : Option Int) (H' : Hp), Same H H' → Ans N B h st o → (∀ r, o = some r → r ≤ 1000000000) → Q (valE o) H') : spNext T [.ref x, .int h, .int st] H Q E :=
  ⟨x, N, B, h, st, rfl, ia, ok, good, l3, h0, h1, s0, s1, fun r H' s a b c d => q (some r) H' s ⟨a, b, c⟩ (fun r' e => by injection e with e; omega), fun H' s a => q none H' s a (fun r' e => by cases e)⟩
theorem last_l {T : Top K mg} {H : Hp} {Q : VK} {E : XK} {x : Addr} {N : IceN} {B : Brk} {h st : Int} (ia : IceA T H x N B) (ok : N.ok) (good : BGood N.b B) (l3 : B.length ≤ 300) (h0 : N.b ≤ h) (h1 : h ≤ 1000000000) (s0 : 0 ≤ st) (s1 : st ≤ 1000000000) (q : ∀ (o : Option Int) (H' : Hp), Same H H' → AnsL N B h st o → Q (valE o) H') : spLast T [.ref x, .int h, .int st] H Q E :=
  ⟨x, N, B, h, st, rfl, ia, ok, good, l3, h0, h1, s0, s1, q⟩
theorem thick_e {T : Top K mg} {H : Hp} {Q : VK} {E : XK} {x : Addr} {N : IceN} {B : Brk} {h : Int} (ia : IceA T H x N B) (ok : N.ok) (good : BGood N.b B) (l3 : B.length ≤ 300) (h0 : N.b ≤ h) (h1 : h ≤ 1000000000) (q : Q (.int (iceAt N B h).2) H) : spThick T [.ref x, .int h] H Q E :=
  ⟨x, N, B, h, rfl, ia, ok, good.ok, l3, h0, h1, fun j z aj hz => by rw [(ice_told ok good aj hz).2]; exact q⟩
def spNextR (T : Top K mg) : Sp := fun vs H Q _ => ∃ (x hl : Addr) (N : IceN) (B : Brk) (hs : List Int) (h st : Int), vs = [.ref x, .ref hl, .int h, .int st] ∧ IceA T H x N B ∧ N.ok ∧ BGood N.b B ∧ B.length ≤ 300 ∧ H hl = some (.lst (hs.map V.int)) ∧ (∀ k ∈ hs, N.b ≤ k ∧ k ≤ 1000000000) ∧ N.b ≤ h ∧ h ≤ 1000000000 ∧ 0 ≤ st ∧ st ≤ 1000000000 ∧ ∀ H', Same H H' → Q (.bl true) H'
theorem ok_next_right (T : Top K mg) : FnG P w K mg base CX0 7 T.a_next_right T.d_next_right ["_law_ice_here", "_law_hours", "_law_hour_here", "_law_strength"] (spNextR T) := by
  have G_Ice_next_hour := ok_Ice_next_hour (P := P) (w := w) (base := base) T
  have G_Ice_thick := ok_Ice_thick (P := P) (w := w) (base := base) T
  refine okG T.F_next_right sc_next_right (fun vs H Q E h => ?_) (fun cdv A outer s H vs Q E hr hgd h => ?_)
  · obtain ⟨x, hl, N, B, hs, h, st, rfl, _⟩ := h
    rfl
  · obtain ⟨x, hl, N, B, hs, h, st, rfl, ia, ok, good, l3, kh, bh, h0, h1, st0, st1, q⟩ := h
    have hu64 := un64 hr
    obtain ⟨dx, _, _, _, _, _, hx, _⟩ := id ia
    refine ⟨_, (pss_cons (ps_set (i := 4) sc_next_right.nd rfl (by first | exact Or.inl rfl | exact Or.inr rfl) (g_meth (pv 0) T.cl_Ice T.me_Ice_next_hour G_Ice_next_hour (hr.mono (by decide)) hgd T.b_Ice_next_hour .nil pass0 (pa_cons (pv 2) (pa_cons (pv 3) pa_nil))))
      (pss_cons (ps_if (pt_cmpR op_isN1 (pv 4) pe_non (nomark _))
        (pss_one (ps_ret (pe_cmpR (op_eqD hu64) (pe_lc (own := [("_law_one", 5)]) (g := gName 5) rfl sc_next_right.nd (pi_list (pv 1)) (blkOk_by (own := [("_law_one", 5)]) (N := ["_law_ice_here", "_law_hours", "_law_hour_here", "_law_strength", "_law_found", "_law_one"]) (sc := defScope s_next_right) (by decide +kernel)) (fun _ _ _ _ _ => (pg_name (i := 5) sc_next_right.nd rfl (by first | exact Or.inl rfl | exact Or.inr rfl))) (fun _ _ _ _ _ => (pts_one (PW.pt (pw_and (pt_cmpR op_ge (pv 5) (pv 2) (nomark _)) (pw_and1 (pt_cmpR op_le (g_meth (pv 0) T.cl_Ice T.me_Ice_thick G_Ice_thick (hr.mono (by decide)) hgd T.b_Ice_thick .nil pass0 (pa_cons (pv 5) pa_nil)) (pv 3) (nomark _))))))) (fun _ _ _ _ _ => (pv 5))) (pe_lst pa_nil) (nomark _))))
        pss_nil)
      (C8.pss_cut (ps_if (PW.pt (pw_or (pt_cmpR op_lt (pv 4) (pv 2) (nomark _)) (pw_or (pt_cmpR op_gt (g_meth (pv 0) T.cl_Ice T.me_Ice_thick G_Ice_thick (hr.mono (by decide)) hgd T.b_Ice_thick .nil pass0 (pa_cons (pv 4) pa_nil)) (pv 3) (nomark _)) (pw_or1 (PW.pt (pw_and (pt_cmpR op_gt (pv 4) (pv 2) (nomark _)) (pw_and1 (pt_cmpR op_le (g_meth (pv 0) T.cl_Ice T.me_Ice_thick G_Ice_thick (hr.mono (by decide)) hgd T.b_Ice_thick .nil pass0 (pa_cons (pe_op op_sub (pv 4) pe_int) pa_nil)) (pv 3) (nomark _)))))))))
        (pss_one (ps_ret pe_bl))
        pss_nil)
      (pss_one (ps_ret (pe_cmpR (op_eqD hu64) (pe_lc (own := [("_law_one", 5)]) (g := gName 5) rfl sc_next_right.nd (pi_list (pv 1)) (blkOk_by (own := [("_law_one", 5)]) (N := ["_law_ice_here", "_law_hours", "_law_hour_here", "_law_strength", "_law_found", "_law_one"]) (sc := defScope s_next_right) (by decide +kernel)) (fun _ _ _ _ _ => (pg_name (i := 5) sc_next_right.nd rfl (by first | exact Or.inl rfl | exact Or.inr rfl))) (fun _ _ _ _ _ => (pts_one (PW.pt (pw_and (pt_chain op_le op_lt (pv 2) (pv 5) (pv 4)) (pw_and1 (pt_cmpR op_le (g_meth (pv 0) T.cl_Ice T.me_Ice_thick G_Ice_thick (hr.mono (by decide)) hgd T.b_Ice_thick .nil pass0 (pa_cons (pv 5) pa_nil)) (pv 3) (nomark _))))))) (fun _ _ _ _ _ => (pv 5))) (pe_lst pa_nil) (nomark _))))))), ?_⟩
    walk_at "rd"
    refine next_e ia ok good l3 h0 h1 st0 st1 (fun o J s an bo => ?_)
    have i1 := ia.same s
    have kh1 := s _ _ kh
    have hx1 := s _ _ hx
    cases o with
    | none =>
      simp only [valE]
      walk_at "rd"
      refine ⟨rfl, ?_⟩
      rw [decide_eq_true rfl]
      walk_at "rd"
      refine ⟨hl, rfl, ⟨_, SqL.lst kh1⟩, fun D hD => ?_⟩
      refine lc_list (K := K) (a := hl) (xs := hs.map V.int) (fun j H' => Same J H' ∧ H' D = some (.lst [])) ⟨Same.new _ hD, upd_same⟩ (fun j H' _ h => SqL.lst (h.1 _ _ kh1)) ?_ ?_
      · rintro j v H1 hj ⟨s1, kD⟩
        obtain ⟨k, hk, rfl⟩ : ∃ k, k ∈ hs ∧ v = .int k := by
          obtain ⟨k, hk, e⟩ := List.mem_map.mp (List.mem_of_getElem? hj)
          exact ⟨k, hk, e.symm⟩
        have bk := bh k hk
        have hx2 := s1 _ _ hx1
        walk_at "rd"
        refine ifs (fun c1 => ?_) (fun c1 => ?_)
        · have c1' := of_decide_eq_true c1
          walk_at "rd"
          refine thick_e (i1.same s1) ok good l3 bk.1 bk.2 ?_
          walk_at "rd"
          refine ifs (fun c2 => ?_) (fun c2 => ?_)
          · have c2' := of_decide_eq_true c2
            have := an k c1'
            omega
          · exact ⟨s1, kD⟩
        · exact ⟨s1, kD⟩
      · rintro H1 ⟨s1, kD⟩
        walk_at "rd"
        (intro em hem; generalize eem : upd _ em _ = J9; have N9 := New.of eem hem; clear eem hem)
        walk_at "rd"
        refine ⟨.list [], .list [], .lst (SqL.lst (N9.app kD)) .nil, .lst (SqL.lst N9.at_) .nil, rfl, rfl, ?_⟩
        rw [show (PyData.list []).eqv (.list []) = true from rfl]
        exact q J9 (s.trans (s1.trans N9.same))
    | some r =>
      have br := bo r rfl
      obtain ⟨a0, a1, a2⟩ := an
      simp only [valE]
      walk_at "rd"
      refine ⟨rfl, ?_⟩
      rw [show decide (V.int r = V.non) = false from rfl]
      walk_at "rd"
      refine i_cut (fun σ H' => H' = J ∧ ∃ z5, σ = [some (.ref x), some (.ref hl), some (.int h), some (.int st), some (.int r), z5]) ?_ ?_
      · walk_at "rd"
        rw [decide_eq_false (show ¬ r < h by omega)]
        walk_at "rd"
        refine thick_e i1 ok good l3 (by omega) br ?_
        walk_at "rd"
        rw [decide_eq_false (show ¬ st < (iceAt N B r).2 by omega)]
        walk_at "rd"
        refine ifs (fun c => ?_) (fun c => ?_)
        · have c' := of_decide_eq_true c
          walk_at "rd"
          refine thick_e i1 ok good l3 (by omega) (by omega) ?_
          walk_at "rd"
          have := a2 (r - 1) (by omega) (by omega)
          rw [decide_eq_false (show ¬ (iceAt N B (r - 1)).2 ≤ st by omega)]
          walk_at "rd"
          exact ⟨rfl, _, rfl⟩
        · walk_at "rd"
          exact ⟨rfl, _, rfl⟩
      · rintro σ H5 ⟨rfl, z5, rfl⟩
        walk_at "rd"
        refine ⟨hl, rfl, ⟨_, SqL.lst kh1⟩, fun D hD => ?_⟩
        refine lc_list (K := K) (a := hl) (xs := hs.map V.int) (fun j H' => Same H5 H' ∧ H' D = some (.lst [])) ⟨Same.new _ hD, upd_same⟩ (fun j H' _ h => SqL.lst (h.1 _ _ kh1)) ?_ ?_
        · rintro j v H1 hj ⟨s1, kD⟩
          obtain ⟨k, hk, rfl⟩ : ∃ k, k ∈ hs ∧ v = .int k := by
            obtain ⟨k, hk, e⟩ := List.mem_map.mp (List.mem_of_getElem? hj)
            exact ⟨k, hk, e.symm⟩
          have bk := bh k hk
          have hx2 := s1 _ _ hx1
          walk_at "rd"
          refine ifs (fun c1 => ?_) (fun c1 => ?_)
          · have c1' := of_decide_eq_true c1
            walk_at "rd"
            refine ifs (fun c3 => ?_) (fun c3 => ?_)
            · have c3' := of_decide_eq_true c3
              walk_at "rd"
              refine thick_e (i1.same s1) ok good l3 bk.1 bk.2 ?_
              walk_at "rd"
              refine ifs (fun c2 => ?_) (fun c2 => ?_)
              · have c2' := of_decide_eq_true c2
                have := a2 k c1' c3'
                omega
              · walk_at "rd"
                exact ⟨s1, kD⟩
            · walk_at "rd"
              exact ⟨s1, kD⟩
          · walk_at "rd"
            exact ⟨s1, kD⟩
        · rintro H1 ⟨s1, kD⟩
          walk_at "rd"
          (intro em hem; generalize eem : upd _ em _ = J9; have N9 := New.of eem hem; clear eem hem)
          walk_at "rd"
          refine ⟨.list [], .list [], .lst (SqL.lst (N9.app kD)) .nil, .lst (SqL.lst N9.at_) .nil, rfl, rfl, ?_⟩
          rw [show (PyData.list []).eqv (.list []) = true from rfl]
          exact q J9 (s.trans (s1.trans N9.same))
end

end Ice

set_option Elab.async false
set_option linter.all false
set_option maxRecDepth 100000
set_option maxHeartbeats 4000000
namespace Ice
open PySem PySem.Spec PyProof.Rows L2 TL
/-! side conditions, heaps, one step of a reading, and many -/
local macro_rules | `(tactic| walk_at "hp") => `(tactic| first | assumption | exact upd_same | exact New.at_ (by assumption) | (refine keepU ?_ (by assumption); walk_at "hp") | (refine New.app (by assumption) ?_; walk_at "hp") | (refine Same.app (by assumption) ?_; walk_at "hp") | (refine But.app (by assumption) (by assumption) ?_; walk_at "hp"))
local macro_rules | `(tactic| walk_at "sq") => `(tactic| first | assumption | exact SqL.lst (by walk_at "hp") | exact L2.Same.seq (New.same (by assumption)) (by assumption) | exact L2.Same.seq (by assumption) (by assumption))
local macro_rules | `(tactic| walk_at "len") => `(tactic| first | assumption | (simp only [List.length_cons, List.length_nil, List.length_append, List.length_map]; decide) | (refine Ice.sz_of ?_; simp only [List.length_cons, List.length_nil, List.length_append, List.length_map]; omega))
local macro_rules | `(tactic| walk_at "fresh") => `(tactic| (simp only [List.map_append, List.map_cons, List.map_nil, List.nil_append, List.cons_append]; decide +kernel))
local macro_rules | `(tactic| walk_at "sd") => `(tactic| first | assumption | (show _ ≠ _; omega) | exact Or.inl ⟨by omega, by omega⟩ | exact Or.inr ⟨by omega, by omega⟩ | exact ⟨by decide, by decide⟩ | exact ⟨by decide, by decide, by decide⟩ | exact ⟨by omega, by omega, by omega⟩)
/-! one step of a reading, and many -/
local macro_rules | `(tactic| walk_at "st") => `(tactic| first
  | with_reducible refine i_seq ?_
  | with_reducible refine i_if ?_
  | with_reducible refine i_next ?_
  | with_reducible refine i_ret ?_
  | with_reducible refine i_retN ?_
  | with_reducible refine i_drop ?_
  | with_reducible refine i_asg ?_
  | with_reducible refine i_gname ?_
  | with_reducible refine i_gsub ?_
  | ((with_reducible refine i_var (v := ?vv) ?hv ?_); (case hv => exact rfl))
  | with_reducible refine i_c ?_
  | with_reducible refine i_op ?_
  | with_reducible refine i_un ?_
  | with_reducible refine i_test ?_
  | with_reducible refine i_tB ?_
  | with_reducible refine i_and ?_
  | with_reducible refine i_or ?_
  | with_reducible refine i_not ?_
  | with_reducible refine i_andV ?_
  | with_reducible refine i_orV ?_
  | with_reducible refine i_notV ?_
  | with_reducible refine i_ifE ?_
  | with_reducible refine i_chain ?_
  | with_reducible refine i_bl ?_
  | with_reducible refine i_nil ?_
  | with_reducible refine i_cons ?_
  | with_reducible refine i_call ?_
  | with_reducible refine i_cb ?_
  | with_reducible refine i_rI0 ?_
  | with_reducible refine i_rU ?_
  | ((with_reducible refine i_rEq ?hs ?_); (case hs => exact rfl))
  | ((with_reducible refine i_rNe ?hs ?_); (case hs => exact rfl))
  | ((with_reducible refine i_rI ?hc ?_); (case hc => walk_at "sd"))
  | ((with_reducible refine i_ixL (xs := ?xs) (v := ?vv) ?hS ?he ?_); (case hS => walk_at "sq"); (case he => exact rfl))
  | ((with_reducible refine i_setL (xs := ?xs) (j := ?jj) ?hS ?he ?_); (case hS => walk_at "hp"); (case he => exact rfl))
  | with_reducible refine i_tup ?_
  | with_reducible refine i_lst ?_
  | with_reducible refine i_bm ?_
  | with_reducible refine i_bm0 ?_
  | with_reducible refine i_m1 ?_
  | with_reducible refine i_sl ?_
  | with_reducible refine i_nopart ?_
  | with_reducible refine i_part ?_
  | with_reducible refine i_int ?_
  | with_reducible refine i_str ?_
  | with_reducible refine i_for ?_
  | with_reducible refine i_yes ?_
  | ((with_reducible refine i_lenL (xs := ?xs) ?hS ?_); (case hS => walk_at "sq"))
  | ((with_reducible refine i_room ?hz ?_); (case hz => walk_at "len"))
  | with_reducible refine i_leT ?_
  | with_reducible refine i_notInS ?_
  | with_reducible refine i_inS ?_
  | with_reducible refine i_find ?_
  | with_reducible refine i_isB ?_
  | with_reducible refine i_max2 ?_
  | with_reducible refine i_min2 ?_
  | with_reducible exact trivial
  | with_reducible refine iteT ?_
  | with_reducible refine iteF ?_
  | with_reducible refine i_isstr ?_
  | with_reducible refine i_lc ?_
  | ((with_reducible refine i_cat (xs := ?xs) (zs := ?zs) ?ha ?hb ?hz ?_); (case ha => walk_at "hp"); (case hb => walk_at "hp"); (case hz => walk_at "len"))
  | ((with_reducible refine i_tyL (xs := ?xs) ?ha ?_); (case ha => walk_at "hp"))
  | with_reducible refine i_list ?_
  | with_reducible refine i_disp ?_
  | with_reducible refine i_pairs0 ?_
  | with_reducible refine i_pairs ?_
  | with_reducible refine i_newK ?_
  | with_reducible refine i_gcons ?_
  | with_reducible refine i_gnil ?_
  | with_reducible refine i_revL ?_
  | with_reducible refine i_rng1 ?_
  | ((with_reducible refine i_wipe ?hw ?_); (case hw => exact rfl))
  | with_reducible refine iteNT ?_
  | with_reducible refine iteNF ?_)
local macro_rules | `(tactic| walk_at "sx") => `(tactic| first
  | walk_at "st"
  | with_reducible refine i_kinit ?_
  | with_reducible refine i_ost ?_
  | with_reducible refine i_mkO ?_
  | with_reducible refine i_callE ?_
  | with_reducible refine i_makeE ?_
  | with_reducible refine i_xf ?_
  | with_reducible refine i_sfld ?_
  | with_reducible refine i_fld ?_
  | ((with_reducible refine i_ixT (xs := ?xs) (v := ?vv) ?hS ?he ?_); (case hS => exact SqT.tup (by walk_at "hp")); (case he => exact rfl))
  | with_reducible refine i_intB ?_
  | with_reducible refine i_runS ?_
  | with_reducible refine i_runN ?_
  | ((with_reducible refine i_xf1 (fs := ?ff) (v := ?vv) ?hx ?hl ?_); (case hx => walk_at "hp"); (case hl => exact rfl))
  | with_reducible refine i_methE ?_
  | with_reducible refine i_meth ?_
  | with_reducible refine i_make ?_
  | ((with_reducible refine i_obj (dx := ?dd) (fs := ?ff) ?hx ?hl ?_); (case hx => walk_at "hp"); (case hl => exact rfl))
  | ((with_reducible refine i_fld1 (C := ?CC) (dx := ?dd) (fs := ?ff) (v := ?vv) ?hx ?cl ?na ?hl ?_); (case hx => walk_at "hp"); (case cl => assumption); (case na => assumption); (case hl => exact rfl)))
local macro_rules | `(tactic| walk_at "sy") => `(tactic| first
  | walk_at "sx"
  | with_reducible refine i_dget ?_
  | with_reducible refine i_dget2 ?_
  | with_reducible refine i_dput ?_
  | with_reducible refine i_din ?_
  | ((with_reducible refine i_aug (x := ?vv) ?hx ?_); (case hx => exact rfl)))
local macro_rules | `(tactic| walk_at "rd") => `(tactic| repeat (walk_at "sy"))

section
variable {P : Program} {w : World} {K : PySem.W.Frag} {mg : Str → Option Value} {base : Heap}
def spLastR (T : Top K mg) : Sp := fun vs H Q _ => ∃ (x hl : Addr) (N : IceN) (B : Brk) (hs : List Int) (h st : Int), vs = [.ref x, .ref hl, .int h, .int st] ∧ IceA T H x N B ∧ N.ok ∧ BGood N.b B ∧ B.length ≤ 300 ∧ H hl = some (.lst (hs.map V.int)) ∧ (∀ k ∈ hs, N.b ≤ k ∧ k ≤ 1000000000) ∧ N.b ≤ h ∧ h ≤ 1000000000 ∧ 0 ≤ st ∧ st ≤ 1000000000 ∧ ∀ H', Same H H' → Q (.bl true) H'
theorem ok_last_right (T : Top K mg) : FnG P w K mg base CX0 6 T.a_last_right T.d_last_right ["_law_ice_here", "_law_hours", "_law_hour_here", "_law_strength"] (spLastR T) := by
  have G_Ice_last_hour := ok_Ice_last_hour (P := P) (w := w) (base := base) T
  have G_Ice_thick := ok_Ice_thick (P := P) (w := w) (base := base) T
  refine okG T.F_last_right sc_last_right (fun vs H Q E h => ?_) (fun cdv A outer s H vs Q E hr hgd h => ?_)
  · obtain ⟨x, hl, N, B, hs, h, st, rfl, _⟩ := h
    rfl
  · obtain ⟨x, hl, N, B, hs, h, st, rfl, ia, ok, good, l3, kh, bh, h0, h1, st0, st1, q⟩ := h
    have hu64 := un64 hr
    obtain ⟨dx, _, _, _, _, _, hx, _⟩ := id ia
    refine ⟨_, (pss_cons (ps_set (i := 4) sc_last_right.nd rfl (by first | exact Or.inl rfl | exact Or.inr rfl) (g_meth (pv 0) T.cl_Ice T.me_Ice_last_hour G_Ice_last_hour (hr.mono (by decide)) hgd T.b_Ice_last_hour .nil pass0 (pa_cons (pv 2) (pa_cons (pv 3) pa_nil))))
      (pss_cons (ps_if (pt_cmpR op_isN1 (pv 4) pe_non (nomark _))
        (pss_one (ps_ret (pe_cmpR (op_eqD hu64) (pe_lc (own := [("_law_one", 5)]) (g := gName 5) rfl sc_last_right.nd (pi_list (pv 1)) (blkOk_by (own := [("_law_one", 5)]) (N := ["_law_ice_here", "_law_hours", "_law_hour_here", "_law_strength", "_law_found", "_law_one"]) (sc := defScope s_last_right) (by decide +kernel)) (fun _ _ _ _ _ => (pg_name (i := 5) sc_last_right.nd rfl (by first | exact Or.inl rfl | exact Or.inr rfl))) (fun _ _ _ _ _ => (pts_one (PW.pt (pw_and (pt_cmpR op_le (pv 5) (pv 2) (nomark _)) (pw_and1 (pt_cmpR op_le (g_meth (pv 0) T.cl_Ice T.me_Ice_thick G_Ice_thick (hr.mono (by decide)) hgd T.b_Ice_thick .nil pass0 (pa_cons (pv 5) pa_nil)) (pv 3) (nomark _))))))) (fun _ _ _ _ _ => (pv 5))) (pe_lst pa_nil) (nomark _))))
        pss_nil)
      (C8.pss_cut (ps_if (PW.pt (pw_or (pt_cmpR op_gt (pv 4) (pv 2) (nomark _)) (pw_or (pt_cmpR op_gt (g_meth (pv 0) T.cl_Ice T.me_Ice_thick G_Ice_thick (hr.mono (by decide)) hgd T.b_Ice_thick .nil pass0 (pa_cons (pv 4) pa_nil)) (pv 3) (nomark _)) (pw_or1 (PW.pt (pw_and (pt_cmpR op_lt (pv 4) (pv 2) (nomark _)) (pw_and1 (pt_cmpR op_le (g_meth (pv 0) T.cl_Ice T.me_Ice_thick G_Ice_thick (hr.mono (by decide)) hgd T.b_Ice_thick .nil pass0 (pa_cons (pe_op op_add (pv 4) pe_int) pa_nil)) (pv 3) (nomark _)))))))))
        (pss_one (ps_ret pe_bl))
        pss_nil)
      (pss_one (ps_ret (pe_cmpR (op_eqD hu64) (pe_lc (own := [("_law_one", 5)]) (g := gName 5) rfl sc_last_right.nd (pi_list (pv 1)) (blkOk_by (own := [("_law_one", 5)]) (N := ["_law_ice_here", "_law_hours", "_law_hour_here", "_law_strength", "_law_found", "_law_one"]) (sc := defScope s_last_right) (by decide +kernel)) (fun _ _ _ _ _ => (pg_name (i := 5) sc_last_right.nd rfl (by first | exact Or.inl rfl | exact Or.inr rfl))) (fun _ _ _ _ _ => (pts_one (PW.pt (pw_and (pt_chain op_lt op_le (pv 4) (pv 5) (pv 2)) (pw_and1 (pt_cmpR op_le (g_meth (pv 0) T.cl_Ice T.me_Ice_thick G_Ice_thick (hr.mono (by decide)) hgd T.b_Ice_thick .nil pass0 (pa_cons (pv 5) pa_nil)) (pv 3) (nomark _))))))) (fun _ _ _ _ _ => (pv 5))) (pe_lst pa_nil) (nomark _))))))), ?_⟩
    walk_at "rd"
    refine last_l ia ok good l3 h0 h1 st0 st1 (fun o J s an => ?_)
    have i1 := ia.same s
    have kh1 := s _ _ kh
    have hx1 := s _ _ hx
    cases o with
    | none =>
      simp only [valE]
      walk_at "rd"
      refine ⟨rfl, ?_⟩
      rw [decide_eq_true rfl]
      walk_at "rd"
      refine ⟨hl, rfl, ⟨_, SqL.lst kh1⟩, fun D hD => ?_⟩
      refine lc_list (K := K) (a := hl) (xs := hs.map V.int) (fun j H' => Same J H' ∧ H' D = some (.lst [])) ⟨Same.new _ hD, upd_same⟩ (fun j H' _ h => SqL.lst (h.1 _ _ kh1)) ?_ ?_
      · rintro j v H1 hj ⟨s1, kD⟩
        obtain ⟨k, hk, rfl⟩ : ∃ k, k ∈ hs ∧ v = .int k := by
          obtain ⟨k, hk, e⟩ := List.mem_map.mp (List.mem_of_getElem? hj)
          exact ⟨k, hk, e.symm⟩
        have bk := bh k hk
        have hx2 := s1 _ _ hx1
        walk_at "rd"
        refine ifs (fun c1 => ?_) (fun c1 => ?_)
        · have c1' := of_decide_eq_true c1
          walk_at "rd"
          refine thick_e (i1.same s1) ok good l3 bk.1 bk.2 ?_
          walk_at "rd"
          refine ifs (fun c2 => ?_) (fun c2 => ?_)
          · have c2' := of_decide_eq_true c2
            have := an k bk.1 c1'
            omega
          · exact ⟨s1, kD⟩
        · exact ⟨s1, kD⟩
      · rintro H1 ⟨s1, kD⟩
        walk_at "rd"
        (intro em hem; generalize eem : upd _ em _ = J9; have N9 := New.of eem hem; clear eem hem)
        walk_at "rd"
        refine ⟨.list [], .list [], .lst (SqL.lst (N9.app kD)) .nil, .lst (SqL.lst N9.at_) .nil, rfl, rfl, ?_⟩
        rw [show (PyData.list []).eqv (.list []) = true from rfl]
        exact q J9 (s.trans (s1.trans N9.same))
    | some r =>
      obtain ⟨a0, a1, a2, a3⟩ := an
      simp only [valE]
      walk_at "rd"
      refine ⟨rfl, ?_⟩
      rw [show decide (V.int r = V.non) = false from rfl]
      walk_at "rd"
      refine i_cut (fun σ H' => H' = J ∧ ∃ z5, σ = [some (.ref x), some (.ref hl), some (.int h), some (.int st), some (.int r), z5]) ?_ ?_
      · walk_at "rd"
        rw [decide_eq_false (show ¬ h < r by omega)]
        walk_at "rd"
        refine thick_e i1 ok good l3 (by omega) (by omega) ?_
        walk_at "rd"
        rw [decide_eq_false (show ¬ st < (iceAt N B r).2 by omega)]
        walk_at "rd"
        refine ifs (fun c => ?_) (fun c => ?_)
        · have c' := of_decide_eq_true c
          walk_at "rd"
          refine thick_e i1 ok good l3 (by omega) (by omega) ?_
          walk_at "rd"
          have := a3 (r + 1) (by omega) (by omega)
          rw [decide_eq_false (show ¬ (iceAt N B (r + 1)).2 ≤ st by omega)]
          walk_at "rd"
          exact ⟨rfl, _, rfl⟩
        · walk_at "rd"
          exact ⟨rfl, _, rfl⟩
      · rintro σ H5 ⟨rfl, z5, rfl⟩
        walk_at "rd"
        refine ⟨hl, rfl, ⟨_, SqL.lst kh1⟩, fun D hD => ?_⟩
        refine lc_list (K := K) (a := hl) (xs := hs.map V.int) (fun j H' => Same H5 H' ∧ H' D = some (.lst [])) ⟨Same.new _ hD, upd_same⟩ (fun j H' _ h => SqL.lst (h.1 _ _ kh1)) ?_ ?_
        · rintro j v H1 hj ⟨s1, kD⟩
          obtain ⟨k, hk, rfl⟩ : ∃ k, k ∈ hs ∧ v = .int k := by
            obtain ⟨k, hk, e⟩ := List.mem_map.mp (List.mem_of_getElem? hj)
            exact ⟨k, hk, e.symm⟩
          have bk := bh k hk
          have hx2 := s1 _ _ hx1
          walk_at "rd"
          refine ifs (fun c1 => ?_) (fun c1 => ?_)
          · have c1' := of_decide_eq_true c1
            walk_at "rd"
            refine ifs (fun c3 => ?_) (fun c3 => ?_)
            · have c3' := of_decide_eq_true c3
              walk_at "rd"
              refine thick_e (i1.same s1) ok good l3 bk.1 bk.2 ?_
              walk_at "rd"
              refine ifs (fun c2 => ?_) (fun c2 => ?_)
              · have c2' := of_decide_eq_true c2
                have := a3 k c1' c3'
                omega
              · walk_at "rd"
                exact ⟨s1, kD⟩
            · walk_at "rd"
              exact ⟨s1, kD⟩
          · walk_at "rd"
            exact ⟨s1, kD⟩
        · rintro H1 ⟨s1, kD⟩
          walk_at "rd"
          (intro em hem; generalize eem : upd _ em _ = J9; have N9 := New.of eem hem; clear eem hem)
          walk_at "rd"
          refine ⟨.list [], .list [], .lst (SqL.lst (N9.app kD)) .nil, .lst (SqL.lst N9.at_) .nil, rfl, rfl, ?_⟩
          rw [show (PyData.list []).eqv (.list []) = true from rfl]
          exact q J9 (s.trans (s1.trans N9.same))
end

end Ice

set_option Elab.async false
set_option linter.all false
set_option maxRecDepth 100000
set_option maxHeartbeats 4000000
namespace Ice
open PySem PySem.Spec PyProof.Rows L2 TL
/-! side conditions, heaps, one step of a reading, and many -/
local macro_rules | `(tactic| walk_at "hp") => `(tactic| first | assumption | exact upd_same | exact New.at_ (by assumption) | (refine keepU ?_ (by assumption); walk_at "hp") | (refine New.app (by assumption) ?_; walk_at "hp") | (refine Same.app (by assumption) ?_; walk_at "hp") | (refine But.app (by assumption) (by assumption) ?_; walk_at "hp"))
local macro_rules | `(tactic| walk_at "sq") => `(tactic| first | assumption | exact SqL.lst (by walk_at "hp") | exact L2.Same.seq (New.same (by assumption)) (by assumption) | exact L2.Same.seq (by assumption) (by assumption))
local macro_rules | `(tactic| walk_at "len") => `(tactic| first | assumption | (simp only [List.length_cons, List.length_nil, List.length_append, List.length_map]; decide) | (refine Ice.sz_of ?_; simp only [List.length_cons, List.length_nil, List.length_append, List.length_map]; omega))
local macro_rules | `(tactic| walk_at "fresh") => `(tactic| (simp only [List.map_append, List.map_cons, List.map_nil, List.nil_append, List.cons_append]; decide +kernel))
local macro_rules | `(tactic| walk_at "sd") => `(tactic| first | assumption | (show _ ≠ _; omega) | exact Or.inl ⟨by omega, by omega⟩ | exact Or.inr ⟨by omega, by omega⟩ | exact ⟨by decide, by decide⟩ | exact ⟨by decide, by decide, by decide⟩ | exact ⟨by omega, by omega, by omega⟩)
/-! one step of a reading, and many -/
local macro_rules | `(tactic| walk_at "st") => `(tactic| first
  | with_reducible refine i_seq ?_
  | with_reducible refine i_if ?_
  | with_reducible refine i_next ?_
  | with_reducible refine i_ret ?_
  | with_reducible refine i_retN ?_
  | with_reducible refine i_drop ?_
  | with_reducible refine i_asg ?_
  | with_reducible refine i_gname ?_
  | with_reducible refine i_gsub ?_
  | ((with_reducible refine i_var (v := ?vv) ?hv ?_); (case hv => exact rfl))
  | with_reducible refine i_c ?_
  | with_reducible refine i_op ?_
  | with_reducible refine i_un ?_
  | with_reducible refine i_test ?_
  | with_reducible refine i_tB ?_
  | with_reducible refine i_and ?_
  | with_reducible refine i_or ?_
  | with_reducible refine i_not ?_
  | with_reducible refine i_andV ?_
  | with_reducible refine i_orV ?_
  | with_reducible refine i_notV ?_
  | with_reducible refine i_ifE ?_
  | with_reducible refine i_chain ?_
  | with_reducible refine i_bl ?_
  | with_reducible refine i_nil ?_
  | with_reducible refine i_cons ?_
  | with_reducible refine i_call ?_
  | with_reducible refine i_cb ?_
  | with_reducible refine i_rI0 ?_
  | with_reducible refine i_rU ?_
  | ((with_reducible refine i_rEq ?hs ?_); (case hs => exact rfl))
  | ((with_reducible refine i_rNe ?hs ?_); (case hs => exact rfl))
  | ((with_reducible refine i_rI ?hc ?_); (case hc => walk_at "sd"))
  | ((with_reducible refine i_ixL (xs := ?xs) (v := ?vv) ?hS ?he ?_); (case hS => walk_at "sq"); (case he => exact rfl))
  | ((with_reducible refine i_setL (xs := ?xs) (j := ?jj) ?hS ?he ?_); (case hS => walk_at "hp"); (case he => exact rfl))
  | with_reducible refine i_tup ?_
  | with_reducible refine i_lst ?_
  | with_reducible refine i_bm ?_
  | with_reducible refine i_bm0 ?_
  | with_reducible refine i_m1 ?_
  | with_reducible refine i_sl ?_
  | with_reducible refine i_nopart ?_
  | with_reducible refine i_part ?_
  | with_reducible refine i_int ?_
  | with_reducible refine i_str ?_
  | with_reducible refine i_for ?_
  | with_reducible refine i_yes ?_
  | ((with_reducible refine i_lenL (xs := ?xs) ?hS ?_); (case hS => walk_at "sq"))
  | ((with_reducible refine i_room ?hz ?_); (case hz => walk_at "len"))
  | with_reducible refine i_leT ?_
  | with_reducible refine i_notInS ?_
  | with_reducible refine i_inS ?_
  | with_reducible refine i_find ?_
  | with_reducible refine i_isB ?_
  | with_reducible refine i_max2 ?_
  | with_reducible refine i_min2 ?_
  | with_reducible exact trivial
  | with_reducible refine iteT ?_
  | with_reducible refine iteF ?_
  | with_reducible refine i_isstr ?_
  | with_reducible refine i_lc ?_
  | ((with_reducible refine i_cat (xs := ?xs) (zs := ?zs) ?ha ?hb ?hz ?_); (case ha => walk_at "hp"); (case hb => walk_at "hp"); (case hz => walk_at "len"))
  | ((with_reducible refine i_tyL (xs := ?xs) ?ha ?_); (case ha => walk_at "hp"))
  | with_reducible refine i_list ?_
  | with_reducible refine i_disp ?_
  | with_reducible refine i_pairs0 ?_
  | with_reducible refine i_pairs ?_
  | with_reducible refine i_newK ?_
  | with_reducible refine i_gcons ?_
  | with_reducible refine i_gnil ?_
  | with_reducible refine i_revL ?_
  | with_reducible refine i_rng1 ?_
  | ((with_reducible refine i_wipe ?hw ?_); (case hw => exact rfl))
  | with_reducible refine iteNT ?_
  | with_reducible refine iteNF ?_)
local macro_rules | `(tactic| walk_at "sx") => `(tactic| first
  | walk_at "st"
  | with_reducible refine i_kinit ?_
  | with_reducible refine i_ost ?_
  | with_reducible refine i_mkO ?_
  | with_reducible refine i_callE ?_
  | with_reducible refine i_makeE ?_
  | with_reducible refine i_xf ?_
  | with_reducible refine i_sfld ?_
  | with_reducible refine i_fld ?_
  | ((with_reducible refine i_ixT (xs := ?xs) (v := ?vv) ?hS ?he ?_); (case hS => exact SqT.tup (by walk_at "hp")); (case he => exact rfl))
  | with_reducible refine i_intB ?_
  | with_reducible refine i_runS ?_
  | with_reducible refine i_runN ?_
  | ((with_reducible refine i_xf1 (fs := ?ff) (v := ?vv) ?hx ?hl ?_); (case hx => walk_at "hp"); (case hl => exact rfl))
  | with_reducible refine i_methE ?_
  | with_reducible refine i_meth ?_
  | with_reducible refine i_make ?_
  | ((with_reducible refine i_obj (dx := ?dd) (fs := ?ff) ?hx ?hl ?_); (case hx => walk_at "hp"); (case hl => exact rfl))
  | ((with_reducible refine i_fld1 (C := ?CC) (dx := ?dd) (fs := ?ff) (v := ?vv) ?hx ?cl ?na ?hl ?_); (case hx => walk_at "hp"); (case cl => assumption); (case na => assumption); (case hl => exact rfl)))
local macro_rules | `(tactic| walk_at "sy") => `(tactic| first
  | walk_at "sx"
  | with_reducible refine i_dget ?_
  | with_reducible refine i_dget2 ?_
  | with_reducible refine i_dput ?_
  | with_reducible refine i_din ?_
  | ((with_reducible refine i_aug (x := ?vv) ?hx ?_); (case hx => exact rfl)))
local macro_rules | `(tactic| walk_at "rd") => `(tactic| repeat (walk_at "sy"))

theorem grown_mono {N : IceN} {v w d : Int} (h : v ≤ w) : grown N v d ≤ grown N w d := by
  unfold grown
  split <;> split <;> omega
theorem mx_mono {a b c d : Int} (h : a ≤ b) (h2 : d ≤ c) : mx (a - c) ≤ mx (b - d) := by
  unfold mx
  split <;> split <;> omega
/-- more breakings, no thicker ice -/
theorem ice_more {N : IceN} {B D : Brk} (ok : N.ok) (gB : BGood N.b B) (gD : BGood N.b D) (sub : ∀ k, sumAt B k ≤ sumAt D k) {h : Int} (bh : N.b ≤ h) : (iceAt N D h).1 ≤ (iceAt N B h).1 ∧ (iceAt N D h).2 ≤ (iceAt N B h).2 := by
  have key : ∀ d : Nat, (iceAt N D (N.b + (d : Int))).1 ≤ (iceAt N B (N.b + (d : Int))).1 ∧ (iceAt N D (N.b + (d : Int))).2 ≤ (iceAt N B (N.b + (d : Int))).2 := by
    intro d
    induction d with
    | zero =>
      rw [show N.b + ((0 : Nat) : Int) = N.b by omega, ice_begin ok gB.ok, ice_begin ok gD.ok]
      exact ⟨Int.le_refl _, mx_mono (Int.le_refl _) (sub _)⟩
    | succ d ih =>
      have a1 := ice_step ok gB (t := N.b + (d : Int)) (h := N.b + ((d + 1 : Nat) : Int)) (by omega) (by omega) (fun z hz => by omega)
      have a2 := ice_step ok gD (t := N.b + (d : Int)) (h := N.b + ((d + 1 : Nat) : Int)) (by omega) (by omega) (fun z hz => by omega)
      rw [a1, a2]
      have g := grown_mono (N := N) (d := N.b + ((d + 1 : Nat) : Int) - (N.b + (d : Int))) ih.2
      exact ⟨g, mx_mono g (sub _)⟩
  have := key (h - N.b).toNat
  rw [show N.b + (((h - N.b).toNat : Nat) : Int) = h by omega] at this
  exact this
theorem sumAt_sub {b : Int} {B D E : Brk} (g : BGood b D) (p : D.Perm (E ++ B)) (k : Int) : sumAt B k ≤ sumAt D k := by
  rw [sumAt_perm p, sumAt_append]
  have : 0 ≤ sumAt E k := by
    unfold sumAt
    refine sum_nn (fun c hc => ?_)
    obtain ⟨u, hu, eu⟩ := List.mem_map.mp hc
    have := (g.ge u (p.mem_iff.mpr (List.mem_append.mpr (.inl (List.mem_filter.mp hu).1)))).2.2.1
    omega
  omega
def Le2 (N : IceN) (B D : Brk) : Prop := ∀ h, N.b ≤ h → (iceAt N D h).1 ≤ (iceAt N B h).1 ∧ (iceAt N D h).2 ≤ (iceAt N B h).2
theorem Ans.more {N : IceN} {B D : Brk} {h st r : Int} {o : Option Int} (le : Le2 N B D) (h0 : N.b ≤ h) (a : Ans N B h st (some r)) (b : Ans N D h st o) : ∃ q, o = some q ∧ q ≤ r := by
  obtain ⟨a0, a1, a2⟩ := a
  have l := (le r (by omega)).2
  match o, b with
  | none, b => have := b r a0; omega
  | some q, ⟨b0, b1, b2⟩ =>
    refine ⟨q, rfl, ?_⟩
    by_cases c : q ≤ r
    · exact c
    · have := b2 r a0 (by omega); omega
theorem AnsL.more {N : IceN} {B D : Brk} {h st r : Int} {o : Option Int} (le : Le2 N B D) (a : AnsL N B h st (some r)) (b : AnsL N D h st o) : ∃ q, o = some q ∧ r ≤ q := by
  obtain ⟨a0, a1, a2, a3⟩ := a
  have l := (le r a0).2
  match o, b with
  | none, b => have := b r a0 a1; omega
  | some q, ⟨b0, b1, b2, b3⟩ =>
    refine ⟨q, rfl, ?_⟩
    by_cases c : r ≤ q
    · exact c
    · have := b3 r (by omega) a1; omega
section
variable {P : Program} {w : World} {K : PySem.W.Frag} {mg : Str → Option Value} {base : Heap}
theorem ahead_e {T : Top K mg} {H : Hp} {Q : VK} {E : XK} {x : Addr} {N : IceN} {B : Brk} {h : Int} (ia : IceA T H x N B) (ok : N.ok) (good : BGood N.b B) (l3 : B.length ≤ 300) (h0 : N.b ≤ h) (h1 : h ≤ 1000000000) (q : Q (.int (iceAt N B h).1) H) : spAhead T [.ref x, .int h] H Q E :=
  ⟨x, N, B, h, rfl, ia, ok, good.ok, l3, h0, h1, fun j z aj hz => by rw [(ice_told ok good aj hz).1]; exact q⟩
def spMoreR (T : Top K mg) : Sp := fun vs H Q _ => ∃ (x y sl hl : Addr) (N : IceN) (B D : Brk) (ss hs : List Int), vs = [.ref x, .ref y, .ref sl, .ref hl] ∧ IceA T H x N B ∧ IceA T H y N D ∧ N.ok ∧ BGood N.b B ∧ BGood N.b D ∧ B.length ≤ 300 ∧ D.length ≤ 300 ∧ Le2 N B D ∧ H sl = some (.lst (ss.map V.int)) ∧ (∀ k ∈ ss, 0 ≤ k ∧ k ≤ 1000000000) ∧ H hl = some (.lst (hs.map V.int)) ∧ (∀ k ∈ hs, N.b ≤ k ∧ k ≤ 1000000000) ∧ ∀ H', Same H H' → Q (.bl true) H'
theorem ok_more_right (T : Top K mg) : FnG P w K mg base CX0 7 T.a_more_right T.d_more_right ["_law_ice_here", "_law_more", "_law_strengths", "_law_hours"] (spMoreR T) := by
  have G_Ice_thick := ok_Ice_thick (P := P) (w := w) (base := base) T
  have G_Ice_ahead := ok_Ice_ahead (P := P) (w := w) (base := base) T
  have G_Ice_next_hour := ok_Ice_next_hour (P := P) (w := w) (base := base) T
  have G_Ice_last_hour := ok_Ice_last_hour (P := P) (w := w) (base := base) T
  refine okG T.F_more_right sc_more_right (fun vs H Q E h => ?_) (fun cdv A outer s H vs Q E hr hgd h => ?_)
  · obtain ⟨x, y, sl, hl, N, B, D, ss, hs, rfl, _⟩ := h
    rfl
  · obtain ⟨x, y, sl, hl, N, B, D, ss, hs, rfl, ia, ib, ok, good, gD, l3, lD, le, ks, bs, kh, bh, q⟩ := h
    obtain ⟨dx, _, _, _, _, _, hx, _⟩ := id ia
    obtain ⟨dy, _, _, _, _, _, hy, _⟩ := id ib
    refine ⟨_, (pss_cons (ps_for PassesOwn.never rfl (pi_list (pv 3)) (pg_name (i := 4) sc_more_right.nd rfl (by first | exact Or.inl rfl | exact Or.inr rfl))
        (pss_cons (ps_if (PW.pt (pw_or (pt_cmpR op_gt (g_meth (pv 1) T.cl_Ice T.me_Ice_thick G_Ice_thick (hr.mono (by decide)) hgd T.b_Ice_thick .nil pass0 (pa_cons (pv 4) pa_nil)) (g_meth (pv 0) T.cl_Ice T.me_Ice_thick G_Ice_thick (hr.mono (by decide)) hgd T.b_Ice_thick .nil pass0 (pa_cons (pv 4) pa_nil)) (nomark _)) (pw_or1 (pt_cmpR op_gt (g_meth (pv 1) T.cl_Ice T.me_Ice_ahead G_Ice_ahead (hr.mono (by decide)) hgd T.b_Ice_ahead .nil pass0 (pa_cons (pv 4) pa_nil)) (g_meth (pv 0) T.cl_Ice T.me_Ice_ahead G_Ice_ahead (hr.mono (by decide)) hgd T.b_Ice_ahead .nil pass0 (pa_cons (pv 4) pa_nil)) (nomark _)))))
        (pss_one (ps_ret pe_bl))
        pss_nil)
      (pss_one (ps_for PassesOwn.never rfl (pi_list (pv 2)) (pg_name (i := 5) sc_more_right.nd rfl (by first | exact Or.inl rfl | exact Or.inr rfl))
        (pss_cons (ps_par (i := 6) (j := 7) (by rfl) sc_more_right.nd rfl rfl (by decide) rfl rfl (pa_cons (g_meth (pv 0) T.cl_Ice T.me_Ice_next_hour G_Ice_next_hour (hr.mono (by decide)) hgd T.b_Ice_next_hour .nil pass0 (pa_cons (pv 4) (pa_cons (pv 5) pa_nil))) (pa_cons (g_meth (pv 1) T.cl_Ice T.me_Ice_next_hour G_Ice_next_hour (hr.mono (by decide)) hgd T.b_Ice_next_hour .nil pass0 (pa_cons (pv 4) (pa_cons (pv 5) pa_nil))) pa_nil)) (by rfl))
      (C8.pss_cut (ps_if (PW.pt (pw_and (pt_cmpR op_notN1 (pv 6) pe_non (nomark _)) (pw_and1 (PW.pt (pw_or (pt_cmpR op_isN1 (pv 7) pe_non (nomark _)) (pw_or1 (pt_cmpR op_gt (pv 7) (pv 6) (nomark _))))))))
        (pss_one (ps_ret pe_bl))
        pss_nil)
      (pss_cons (ps_par (i := 6) (j := 7) (by rfl) sc_more_right.nd rfl rfl (by decide) rfl rfl (pa_cons (g_meth (pv 0) T.cl_Ice T.me_Ice_last_hour G_Ice_last_hour (hr.mono (by decide)) hgd T.b_Ice_last_hour .nil pass0 (pa_cons (pv 4) (pa_cons (pv 5) pa_nil))) (pa_cons (g_meth (pv 1) T.cl_Ice T.me_Ice_last_hour G_Ice_last_hour (hr.mono (by decide)) hgd T.b_Ice_last_hour .nil pass0 (pa_cons (pv 4) (pa_cons (pv 5) pa_nil))) pa_nil)) (by rfl))
      (pss_one (ps_if (PW.pt (pw_and (pt_cmpR op_notN1 (pv 6) pe_non (nomark _)) (pw_and1 (PW.pt (pw_or (pt_cmpR op_isN1 (pv 7) pe_non (nomark _)) (pw_or1 (pt_cmpR op_lt (pv 7) (pv 6) (nomark _))))))))
        (pss_one (ps_ret pe_bl))
        pss_nil)))))))))
      (pss_one (ps_ret pe_bl))), ?_⟩
    walk_at "rd"
    refine ⟨hl, rfl, ⟨_, SqL.lst kh⟩, ?_⟩
    refine for_list (K := K) (a := hl) (xs := hs.map V.int) (fun i σ H' => Same H H' ∧ ∃ z4 z5 z6 z7, σ = [some (.ref x), some (.ref y), some (.ref sl), some (.ref hl), z4, z5, z6, z7])
      ⟨Same.refl _, _, _, _, _, rfl⟩ (fun i σ H' _ h => SqL.lst (h.1 _ _ kh)) ?_ ?_
    · rintro i v σ H1 hi ⟨s1, z4, z5, z6, z7, rfl⟩
      obtain ⟨h, hh, rfl⟩ : ∃ k, k ∈ hs ∧ v = .int k := by
        obtain ⟨k, hk, e⟩ := List.mem_map.mp (List.mem_of_getElem? hi)
        exact ⟨k, hk, e.symm⟩
      have b1 := bh h hh
      have lh := le h b1.1
      have i1 := ia.same s1
      have j1 := ib.same s1
      have hx1 := s1 _ _ hx
      have hy1 := s1 _ _ hy
      walk_at "rd"
      refine thick_e j1 ok gD lD b1.1 b1.2 ?_
      walk_at "rd"
      refine thick_e i1 ok good l3 b1.1 b1.2 ?_
      walk_at "rd"
      rw [decide_eq_false (show ¬ (iceAt N B h).2 < (iceAt N D h).2 by omega)]
      walk_at "rd"
      refine ahead_e j1 ok gD lD b1.1 b1.2 ?_
      walk_at "rd"
      refine ahead_e i1 ok good l3 b1.1 b1.2 ?_
      walk_at "rd"
      rw [decide_eq_false (show ¬ (iceAt N B h).1 < (iceAt N D h).1 by omega)]
      walk_at "rd"
      refine ⟨sl, rfl, ⟨_, SqL.lst (s1 _ _ ks)⟩, ?_⟩
      refine for_list (K := K) (a := sl) (xs := ss.map V.int) (fun i σ H' => Same H H' ∧ ∃ z5 z6 z7, σ = [some (.ref x), some (.ref y), some (.ref sl), some (.ref hl), some (.int h), z5, z6, z7])
        ⟨s1, _, _, _, rfl⟩ (fun i σ H' _ h => SqL.lst (h.1 _ _ ks)) ?_ ?_
      · rintro i v σ H2 hi ⟨s2, z5, z6, z7, rfl⟩
        obtain ⟨st, hst, rfl⟩ : ∃ k, k ∈ ss ∧ v = .int k := by
          obtain ⟨k, hk, e⟩ := List.mem_map.mp (List.mem_of_getElem? hi)
          exact ⟨k, hk, e.symm⟩
        have b2 := bs st hst
        have i2 := ia.same s2
        have hx2 := s2 _ _ hx
        walk_at "rd"
        refine i_par ?_
        walk_at "rd"
        refine next_e i2 ok good l3 b1.1 b1.2 b2.1 b2.2 (fun o J3 s3 an _ => ?_)
        have j3 := (ib.same s2).same s3
        have hy3 := s3 _ _ (s2 _ _ hy)
        walk_at "rd"
        refine next_e j3 ok gD lD b1.1 b1.2 b2.1 b2.2 (fun o' J4 s4 an' _ => ?_)
        walk_at "rd"
        refine ⟨_, _, rfl, ?_⟩
        walk_at "rd"
        refine i_cut (fun σ H' => H' = J4 ∧ ∃ z6 z7, σ = [some (.ref x), some (.ref y), some (.ref sl), some (.ref hl), some (.int h), some (.int st), z6, z7]) ?_ ?_
        · cases o with
          | none =>
            simp only [valE]
            walk_at "rd"
            refine ⟨rfl, ?_⟩
            rw [show (!decide (V.non = V.non)) = false from rfl]
            walk_at "rd"
            exact ⟨rfl, _, _, rfl⟩
          | some r =>
            obtain ⟨q', rfl, ql⟩ := an.more le b1.1 an'
            simp only [valE]
            walk_at "rd"
            refine ⟨rfl, ?_⟩
            rw [show (!decide (V.int r = V.non)) = true from rfl]
            walk_at "rd"
            refine ⟨rfl, ?_⟩
            rw [show decide (V.int q' = V.non) = false from rfl]
            walk_at "rd"
            rw [decide_eq_false (show ¬ r < q' by omega)]
            walk_at "rd"
            exact ⟨rfl, _, _, rfl⟩
        · rintro σ H5 ⟨rfl, z6, z7, rfl⟩
          have i5 := (i2.same s3).same s4
          have hx5 := s4 _ _ (s3 _ _ hx2)
          have s25 := s3.trans s4
          walk_at "rd"
          refine i_par ?_
          walk_at "rd"
          refine last_l i5 ok good l3 b1.1 b1.2 b2.1 b2.2 (fun o2 J6 s6 an2 => ?_)
          have j6 := (j3.same s4).same s6
          have hy6 := s6 _ _ (s4 _ _ hy3)
          walk_at "rd"
          refine last_l j6 ok gD lD b1.1 b1.2 b2.1 b2.2 (fun o3 J7 s7 an3 => ?_)
          walk_at "rd"
          refine ⟨_, _, rfl, ?_⟩
          have sH7 : Same H J7 := s2.trans (s25.trans (s6.trans s7))
          walk_at "rd"
          · cases o2 with
            | none =>
              simp only [valE]
              walk_at "rd"
              refine ⟨rfl, ?_⟩
              rw [show (!decide (V.non = V.non)) = false from rfl]
              walk_at "rd"
              exact ⟨sH7, _, _, _, rfl⟩
            | some r =>
              obtain ⟨q', rfl, ql⟩ := an2.more le an3
              simp only [valE]
              walk_at "rd"
              refine ⟨rfl, ?_⟩
              rw [show (!decide (V.int r = V.non)) = true from rfl]
              walk_at "rd"
              refine ⟨rfl, ?_⟩
              rw [show decide (V.int q' = V.non) = false from rfl]
              walk_at "rd"
              rw [decide_eq_false (show ¬ q' < r by omega)]
              walk_at "rd"
              exact ⟨sH7, _, _, _, rfl⟩
      · rintro σ H2 ⟨s2, z5, z6, z7, rfl⟩
        exact ⟨s2, _, _, _, _, rfl⟩
    · rintro σ H1 ⟨s1, z4, z5, z6, z7, rfl⟩
      walk_at "rd"
      exact q H1 s1
end

end Ice

set_option Elab.async false
set_option linter.all false
set_option maxRecDepth 100000
set_option maxHeartbeats 4000000
namespace Ice
open PySem PySem.Spec PyProof.Rows L2 TL
/-! side conditions, heaps, one step of a reading, and many -/
local macro_rules | `(tactic| walk_at "hp") => `(tactic| first | assumption | exact upd_same | exact New.at_ (by assumption) | (refine keepU ?_ (by assumption); walk_at "hp") | (refine New.app (by assumption) ?_; walk_at "hp") | (refine Same.app (by assumption) ?_; walk_at "hp") | (refine But.app (by assumption) (by assumption) ?_; walk_at "hp"))
local macro_rules | `(tactic| walk_at "sq") => `(tactic| first | assumption | exact SqL.lst (by walk_at "hp") | exact L2.Same.seq (New.same (by assumption)) (by assumption) | exact L2.Same.seq (by assumption) (by assumption))
local macro_rules | `(tactic| walk_at "len") => `(tactic| first | assumption | (simp only [List.length_cons, List.length_nil, List.length_append, List.length_map]; decide) | (refine Ice.sz_of ?_; simp only [List.length_cons, List.length_nil, List.length_append, List.length_map]; omega))
local macro_rules | `(tactic| walk_at "fresh") => `(tactic| (simp only [List.map_append, List.map_cons, List.map_nil, List.nil_append, List.cons_append]; decide +kernel))
local macro_rules | `(tactic| walk_at "sd") => `(tactic| first | assumption | (show _ ≠ _; omega) | exact Or.inl ⟨by omega, by omega⟩ | exact Or.inr ⟨by omega, by omega⟩ | exact ⟨by decide, by decide⟩ | exact ⟨by decide, by decide, by decide⟩ | exact ⟨by omega, by omega, by omega⟩)
/-! one step of a reading, and many -/
local macro_rules | `(tactic| walk_at "st") => `(tactic| first
  | with_reducible refine i_seq ?_
  | with_reducible refine i_if ?_
  | with_reducible refine i_next ?_
  | with_reducible refine i_ret ?_
  | with_reducible refine i_retN ?_
  | with_reducible refine i_drop ?_
  | with_reducible refine i_asg ?_
  | with_reducible refine i_gname ?_
  | with_reducible refine i_gsub ?_
  | ((with_reducible refine i_var (v := ?vv) ?hv ?_); (case hv => exact rfl))
  | with_reducible refine i_c ?_
  | with_reducible refine i_op ?_
  | with_reducible refine i_un ?_
  | with_reducible refine i_test ?_
  | with_reducible refine i_tB ?_
  | with_reducible refine i_and ?_
  | with_reducible refine i_or ?_
  | with_reducible refine i_not ?_
  | with_reducible refine i_andV ?_
  | with_reducible refine i_orV ?_
  | with_reducible refine i_notV ?_
  | with_reducible refine i_ifE ?_
  | with_reducible refine i_chain ?_
  | with_reducible refine i_bl ?_
  | with_reducible refine i_nil ?_
  | with_reducible refine i_cons ?_
  | with_reducible refine i_call ?_
  | with_reducible refine i_cb ?_
  | with_reducible refine i_rI0 ?_
  | with_reducible refine i_rU ?_
  | ((with_reducible refine i_rEq ?hs ?_); (case hs => exact rfl))
  | ((with_reducible refine i_rNe ?hs ?_); (case hs => exact rfl))
  | ((with_reducible refine i_rI ?hc ?_); (case hc => walk_at "sd"))
  | ((with_reducible refine i_ixL (xs := ?xs) (v := ?vv) ?hS ?he ?_); (case hS => walk_at "sq"); (case he => exact rfl))
  | ((with_reducible refine i_setL (xs := ?xs) (j := ?jj) ?hS ?he ?_); (case hS => walk_at "hp"); (case he => exact rfl))
  | with_reducible refine i_tup ?_
  | with_reducible refine i_lst ?_
  | with_reducible refine i_bm ?_
  | with_reducible refine i_bm0 ?_
  | with_reducible refine i_m1 ?_
  | with_reducible refine i_sl ?_
  | with_reducible refine i_nopart ?_
  | with_reducible refine i_part ?_
  | with_reducible refine i_int ?_
  | with_reducible refine i_str ?_
  | with_reducible refine i_for ?_
  | with_reducible refine i_yes ?_
  | ((with_reducible refine i_lenL (xs := ?xs) ?hS ?_); (case hS => walk_at "sq"))
  | ((with_reducible refine i_room ?hz ?_); (case hz => walk_at "len"))
  | with_reducible refine i_leT ?_
  | with_reducible refine i_notInS ?_
  | with_reducible refine i_inS ?_
  | with_reducible refine i_find ?_
  | with_reducible refine i_isB ?_
  | with_reducible refine i_max2 ?_
  | with_reducible refine i_min2 ?_
  | with_reducible exact trivial
  | with_reducible refine iteT ?_
  | with_reducible refine iteF ?_
  | with_reducible refine i_isstr ?_
  | with_reducible refine i_lc ?_
  | ((with_reducible refine i_cat (xs := ?xs) (zs := ?zs) ?ha ?hb ?hz ?_); (case ha => walk_at "hp"); (case hb => walk_at "hp"); (case hz => walk_at "len"))
  | ((with_reducible refine i_tyL (xs := ?xs) ?ha ?_); (case ha => walk_at "hp"))
  | with_reducible refine i_list ?_
  | with_reducible refine i_disp ?_
  | with_reducible refine i_pairs0 ?_
  | with_reducible refine i_pairs ?_
  | with_reducible refine i_newK ?_
  | with_reducible refine i_gcons ?_
  | with_reducible refine i_gnil ?_
  | with_reducible refine i_revL ?_
  | with_reducible refine i_rng1 ?_
  | ((with_reducible refine i_wipe ?hw ?_); (case hw => exact rfl))
  | with_reducible refine iteNT ?_
  | with_reducible refine iteNF ?_)
local macro_rules | `(tactic| walk_at "sx") => `(tactic| first
  | walk_at "st"
  | with_reducible refine i_kinit ?_
  | with_reducible refine i_ost ?_
  | with_reducible refine i_mkO ?_
  | with_reducible refine i_callE ?_
  | with_reducible refine i_makeE ?_
  | with_reducible refine i_xf ?_
  | with_reducible refine i_sfld ?_
  | with_reducible refine i_fld ?_
  | ((with_reducible refine i_ixT (xs := ?xs) (v := ?vv) ?hS ?he ?_); (case hS => exact SqT.tup (by walk_at "hp")); (case he => exact rfl))
  | with_reducible refine i_intB ?_
  | with_reducible refine i_runS ?_
  | with_reducible refine i_runN ?_
  | ((with_reducible refine i_xf1 (fs := ?ff) (v := ?vv) ?hx ?hl ?_); (case hx => walk_at "hp"); (case hl => exact rfl))
  | with_reducible refine i_methE ?_
  | with_reducible refine i_meth ?_
  | with_reducible refine i_make ?_
  | ((with_reducible refine i_obj (dx := ?dd) (fs := ?ff) ?hx ?hl ?_); (case hx => walk_at "hp"); (case hl => exact rfl))
  | ((with_reducible refine i_fld1 (C := ?CC) (dx := ?dd) (fs := ?ff) (v := ?vv) ?hx ?cl ?na ?hl ?_); (case hx => walk_at "hp"); (case cl => assumption); (case na => assumption); (case hl => exact rfl)))
local macro_rules | `(tactic| walk_at "sy") => `(tactic| first
  | walk_at "sx"
  | with_reducible refine i_dget ?_
  | with_reducible refine i_dget2 ?_
  | with_reducible refine i_dput ?_
  | with_reducible refine i_din ?_
  | ((with_reducible refine i_aug (x := ?vv) ?hx ?_); (case hx => exact rfl)))
local macro_rules | `(tactic| walk_at "rd") => `(tactic| repeat (walk_at "sy"))

theorem runs_new {N : IceN} {B : Brk} {st : Int} {k : Nat} (h : (iceAt N B (N.b + (k : Int))).2 ≤ st) (n : ∀ Q z, runs N B st k = Q ++ [z] → z.2 ≠ N.b + (k : Int) - 1) : runs N B st (k + 1) = runs N B st k ++ [(N.b + (k : Int), N.b + (k : Int))] := by
  show addR N B st (runs N B st k) (N.b + (k : Int)) = _
  unfold addR
  rw [if_pos h]
  rcases snoc_or (runs N B st k) with e | ⟨Q, z, e⟩
  · rw [e]; rfl
  · have := n Q z e
    rw [e, segR_snoc, if_neg this]
theorem runs_ext {N : IceN} {B : Brk} {st : Int} {k : Nat} {Q : Brk} {a : Int} (h : (iceAt N B (N.b + (k : Int))).2 ≤ st) (e : runs N B st k = Q ++ [(a, N.b + (k : Int) - 1)]) : runs N B st (k + 1) = Q ++ [(a, N.b + (k : Int))] := by
  show addR N B st (runs N B st k) (N.b + (k : Int)) = _
  unfold addR
  rw [if_pos h, e, segR_snoc, if_pos rfl]
theorem runs_skip {N : IceN} {B : Brk} {st : Int} {k : Nat} (h : ¬ (iceAt N B (N.b + (k : Int))).2 ≤ st) : runs N B st (k + 1) = runs N B st k := by
  show addR N B st (runs N B st k) (N.b + (k : Int)) = _
  unfold addR
  rw [if_neg h]

/-! what stretches are -/
structure RunsOK (N : IceN) (B : Brk) (st : Int) (m : Nat) (R : Brk) : Prop where
  bnd : ∀ z ∈ R, N.b ≤ z.1 ∧ z.1 ≤ z.2 ∧ z.2 < N.b + (m : Int)
  ins : ∀ z ∈ R, ∀ k, z.1 ≤ k → k ≤ z.2 → (iceAt N B k).2 ≤ st
  ahead : ∀ z ∈ R, z.1 = N.b ∨ st < (iceAt N B (z.1 - 1)).2
  behind : ∀ z ∈ R, z.2 = N.b + (m : Int) - 1 ∨ st < (iceAt N B (z.2 + 1)).2
  apart : R.Pairwise fun u v => u.2 + 2 ≤ v.1
  all : ∀ k, N.b ≤ k → k < N.b + (m : Int) → (iceAt N B k).2 ≤ st → ∃ z ∈ R, z.1 ≤ k ∧ k ≤ z.2
theorem runs_ok {N : IceN} {B : Brk} {st : Int} : ∀ m : Nat, RunsOK N B st m (runs N B st m)
  | 0 => ⟨fun z hz => (by cases hz), fun z hz => (by cases hz), fun z hz => (by cases hz), fun z hz => (by cases hz), .nil, fun k h0 h1 => by omega⟩
  | m + 1 => by
    have ih := runs_ok (N := N) (B := B) (st := st) m
    by_cases h : (iceAt N B (N.b + (m : Int))).2 ≤ st
    · by_cases c : 0 < m ∧ (iceAt N B (N.b + (m : Int) - 1)).2 ≤ st
      · have rl := (runs_last (N := N) (B := B) (st := st) (m := m - 1)).1 (by rw [show N.b + ((m - 1 : Nat) : Int) = N.b + (m : Int) - 1 by omega]; exact c.2)
        rw [show m - 1 + 1 = m by omega, show N.b + ((m - 1 : Nat) : Int) = N.b + (m : Int) - 1 by omega] at rl
        obtain ⟨Q, a, e⟩ := rl
        rw [runs_ext h e]
        rw [e] at ih
        have ba := ih.bnd (a, N.b + (m : Int) - 1) (by simp)
        have qa : ∀ z ∈ Q, z.2 + 2 ≤ a := fun z hz => (List.pairwise_append.mp ih.apart).2.2 z hz (a, N.b + (m : Int) - 1) (by simp)
        refine ⟨fun z hz => ?_, fun z hz k k0 k1 => ?_, fun z hz => ?_, fun z hz => ?_, ?_, fun k k0 k1 hk => ?_⟩
        · rcases List.mem_append.mp hz with hz | hz
          · have := ih.bnd z (by simp [hz]); omega
          · have : z = (a, N.b + (m : Int)) := by simpa using hz
            rw [this]
            refine ⟨ba.1, ?_, ?_⟩
            · show a ≤ N.b + (m : Int)
              have : a ≤ N.b + (m : Int) - 1 := ba.2.1
              omega
            · show N.b + (m : Int) < _
              omega
        · rcases List.mem_append.mp hz with hz | hz
          · exact ih.ins z (by simp [hz]) k k0 k1
          · have e2 : z = (a, N.b + (m : Int)) := by simpa using hz
            rw [e2] at k0 k1
            have k1' : k ≤ N.b + (m : Int) := k1
            rcases Int.lt_or_eq_of_le k1' with l | l
            · exact ih.ins (a, N.b + (m : Int) - 1) (by simp) k k0 (by show k ≤ N.b + (m : Int) - 1; omega)
            · rw [l]; exact h
        · rcases List.mem_append.mp hz with hz | hz
          · exact ih.ahead z (by simp [hz])
          · have e2 : z = (a, N.b + (m : Int)) := by simpa using hz
            rw [e2]
            exact ih.ahead (a, N.b + (m : Int) - 1) (by simp)
        · rcases List.mem_append.mp hz with hz | hz
          · rcases ih.behind z (by simp [hz]) with e2 | e2
            · have := qa z hz
              have : a ≤ N.b + (m : Int) - 1 := ba.2.1
              omega
            · exact .inr e2
          · have e2 : z = (a, N.b + (m : Int)) := by simpa using hz
            rw [e2]
            left
            show N.b + (m : Int) = _
            omega
        · obtain ⟨p1, _, p3⟩ := List.pairwise_append.mp ih.apart
          refine List.pairwise_append.mpr ⟨p1, by simp, fun u hu v hv => ?_⟩
          have e2 : v = (a, N.b + (m : Int)) := by simpa using hv
          rw [e2]
          exact qa u hu
        · by_cases l : k < N.b + (m : Int)
          · obtain ⟨z, hz, z0, z1⟩ := ih.all k k0 l hk
            rcases List.mem_append.mp hz with hz | hz
            · exact ⟨z, by simp [hz], z0, z1⟩
            · have e2 : z = (a, N.b + (m : Int) - 1) := by simpa using hz
              rw [e2] at z0 z1
              exact ⟨(a, N.b + (m : Int)), by simp, z0, by show k ≤ N.b + (m : Int); omega⟩
          · refine ⟨(a, N.b + (m : Int)), by simp, ?_, by show k ≤ N.b + (m : Int); omega⟩
            show a ≤ k
            have : a ≤ N.b + (m : Int) - 1 := ba.2.1
            omega
      · have nl : ∀ z ∈ runs N B st m, z.2 ≠ N.b + (m : Int) - 1 := fun z hz e => by
          have b := ih.bnd z hz
          have := ih.ins z hz (N.b + (m : Int) - 1) (by omega) (by omega)
          omega
        rw [runs_new h (fun Q z e => nl z (by rw [e]; simp))]
        refine ⟨fun z hz => ?_, fun z hz k k0 k1 => ?_, fun z hz => ?_, fun z hz => ?_, ?_, fun k k0 k1 hk => ?_⟩
        · rcases List.mem_append.mp hz with hz | hz
          · have := ih.bnd z hz; omega
          · have : z = (N.b + (m : Int), N.b + (m : Int)) := by simpa using hz
            rw [this]
            exact ⟨by show N.b ≤ N.b + (m : Int); omega, Int.le_refl _, by show N.b + (m : Int) < _; omega⟩
        · rcases List.mem_append.mp hz with hz | hz
          · exact ih.ins z hz k k0 k1
          · have e2 : z = (N.b + (m : Int), N.b + (m : Int)) := by simpa using hz
            rw [e2] at k0 k1
            have h0 : N.b + (m : Int) ≤ k := k0
            have h1 : k ≤ N.b + (m : Int) := k1
            rw [show k = N.b + (m : Int) by omega]; exact h
        · rcases List.mem_append.mp hz with hz | hz
          · exact ih.ahead z hz
          · have e2 : z = (N.b + (m : Int), N.b + (m : Int)) := by simpa using hz
            rw [e2]
            show N.b + (m : Int) = N.b ∨ st < (iceAt N B (N.b + (m : Int) - 1)).2
            by_cases m0 : m = 0
            · left; omega
            · right; omega
        · rcases List.mem_append.mp hz with hz | hz
          · exact .inr ((ih.behind z hz).resolve_left (nl z hz))
          · have e2 : z = (N.b + (m : Int), N.b + (m : Int)) := by simpa using hz
            rw [e2]
            left
            show N.b + (m : Int) = _
            omega
        · refine List.pairwise_append.mpr ⟨ih.apart, by simp, fun u hu v hv => ?_⟩
          have e2 : v = (N.b + (m : Int), N.b + (m : Int)) := by simpa using hv
          rw [e2]
          have := ih.bnd u hu
          have := nl u hu
          show u.2 + 2 ≤ N.b + (m : Int)
          omega
        · by_cases l : k < N.b + (m : Int)
          · obtain ⟨z, hz, z0, z1⟩ := ih.all k k0 l hk
            exact ⟨z, by simp [hz], z0, z1⟩
          · exact ⟨(N.b + (m : Int), N.b + (m : Int)), by simp, by show N.b + (m : Int) ≤ k; omega, by show k ≤ N.b + (m : Int); omega⟩
    · rw [runs_skip h]
      refine ⟨fun z hz => by have := ih.bnd z hz; omega, ih.ins, ih.ahead, fun z hz => .inr ?_, ih.apart, fun k k0 k1 hk => ?_⟩
      · rcases ih.behind z hz with e | e
        · rw [e, show N.b + (m : Int) - 1 + 1 = N.b + (m : Int) by omega]; omega
        · exact e
      · by_cases l : k < N.b + (m : Int)
        · exact ih.all k k0 l hk
        · rw [show k = N.b + (m : Int) by omega] at hk
          exact absurd hk h
/-- the hour is in the stretch -/
def inS (z : Int × Option Int) (k : Int) : Prop := z.1 ≤ k ∧ ∀ e, z.2 = some e → k ≤ e
structure FinOK (N : IceN) (B : Brk) (st : Int) (F : Fin2) : Prop where
  bnd : ∀ z ∈ F, N.b ≤ z.1 ∧ z.1 ≤ 1000000000
  ins : ∀ z ∈ F, ∀ k, inS z k → (iceAt N B k).2 ≤ st
  ahead : ∀ z ∈ F, z.1 = N.b ∨ st < (iceAt N B (z.1 - 1)).2
  ends : ∀ z ∈ F, ∀ e, z.2 = some e → z.1 ≤ e ∧ st < (iceAt N B (e + 1)).2 ∧ e ≤ 3000000000
  apart : F.Pairwise fun u v => ∃ e, u.2 = some e ∧ e + 2 ≤ v.1
  all : ∀ k, N.b ≤ k → (iceAt N B k).2 ≤ st → ∃ z ∈ F, inS z k
theorem fin_ok {N : IceN} {B : Brk} {st : Int} {m : Nat} (r : RunsOK N B st m (runs N B st m)) (up : ∀ k, N.b + (m : Int) - 1 ≤ k → st < (iceAt N B k).2) (m1 : N.b + (m : Int) ≤ 3000000000) (low : ∀ z ∈ runs N B st m, z.1 ≤ 1000000000) : FinOK N B st (fin (runs N B st m)) := by
  have key : ∀ z ∈ fin (runs N B st m), ∃ y ∈ runs N B st m, z = (y.1, some y.2) := fun z hz => by
    unfold fin at hz
    obtain ⟨y, hy, e⟩ := List.mem_map.mp hz
    exact ⟨y, hy, e.symm⟩
  refine ⟨fun z hz => ?_, fun z hz k hk => ?_, fun z hz => ?_, fun z hz e he => ?_, ?_, fun k k0 hk => ?_⟩
  · obtain ⟨y, hy, rfl⟩ := key z hz
    exact ⟨(r.bnd y hy).1, low y hy⟩
  · obtain ⟨y, hy, rfl⟩ := key z hz
    exact r.ins y hy k hk.1 (hk.2 y.2 rfl)
  · obtain ⟨y, hy, rfl⟩ := key z hz
    exact r.ahead y hy
  · obtain ⟨y, hy, rfl⟩ := key z hz
    injection he with he
    subst he
    refine ⟨(r.bnd y hy).2.1, ?_, by have := (r.bnd y hy).2.2; omega⟩
    rcases r.behind y hy with e | e
    · have := r.ins y hy y.2 (r.bnd y hy).2.1 (Int.le_refl _)
      have := up y.2 (by omega)
      omega
    · exact e
  · unfold fin
    rw [List.pairwise_map]
    exact r.apart.imp fun h => ⟨_, rfl, h⟩
  · by_cases l : k < N.b + (m : Int)
    · obtain ⟨z, hz, z0, z1⟩ := r.all k k0 l hk
      exact ⟨(z.1, some z.2), by unfold fin; exact List.mem_map.mpr ⟨z, hz, rfl⟩, z0, fun e he => by injection he with he; omega⟩
    · have := up k (by omega); omega
theorem fin_of {N : IceN} {B : Brk} {st : Int} {F : Fin2} (ok : N.ok) (good : BGood N.b B) (st1 : st ≤ 1000000000) (h : FinOf N B st F) : FinOK N B st F := by
  obtain ⟨s, s0, s1, s2, rfl⟩ := h
  have g0 := ok.g0
  have vb := ice_bnd ok good s0
  have s8 : s ≤ 100000000 := by
    rcases s2 with e | ⟨u, hu, e⟩
    · have := ok.b6; omega
    · have := (good.ge u hu).2.1; omega
  have at_ : ∀ k, s ≤ k → (iceAt N B k).2 = grown N (iceAt N B s).2 (k - s) := fun k k0 => by
    rcases Int.lt_or_eq_of_le k0 with l | l
    · rw [ice_same ok good s0 l (fun z hz => by have := s1 z hz; omega)]
    · subst l; rw [Int.sub_self, grown_zero vb.2.2]
  by_cases hv : (iceAt N B s).2 ≤ st
  · have lf : lastF N st (runs N B st (s - N.b).toNat) s (iceAt N B s).2 = finE (runs N B st (s - N.b).toNat) s (endO N s (iceAt N B s).2 st none) := if_pos hv
    rw [lf, endL_eq ok]
    by_cases c : N.growth > 0 ∧ N.most > st
    · rw [if_pos c]
      obtain ⟨q0, q1, q2⟩ := div_bnd c.1 (show 0 ≤ st - (iceAt N B s).2 by omega)
      have q3 : (st - (iceAt N B s).2) / N.growth ≤ st - (iceAt N B s).2 := Int.ediv_le_self _ (by omega)
      generalize (st - (iceAt N B s).2) / N.growth = d at q0 q1 q2 q3
      have lo : ∀ k, s ≤ k → k ≤ s + d → (iceAt N B k).2 ≤ st := fun k k0 k1 => by
        rw [at_ k k0]
        have h1 : N.growth * (k - s) ≤ N.growth * d := Int.mul_le_mul_of_nonneg_left (by omega) g0
        unfold grown
        split <;> omega
      have hi : ∀ k, s + d < k → st < (iceAt N B k).2 := fun k k0 => by
        rw [at_ k (by omega)]
        have h1 : N.growth * (d + 1) ≤ N.growth * (k - s) := Int.mul_le_mul_of_nonneg_left (by omega) g0
        unfold grown
        split <;> omega
      have hr := runs_piece (N := N) (B := B) (st := st) (e := s + d) (l := s + d + 1) s0 (by omega) (by omega) lo (fun k k0 _ => hi k k0)
      rw [← fin_seg, ← hr]
      have ro := runs_ok (N := N) (B := B) (st := st) (s + d + 1 + 1 - N.b).toNat
      refine fin_ok ro (fun k hk => hi k (by omega)) (by omega) (fun z hz => ?_)
      have b := ro.bnd z hz
      by_cases l : z.1 ≤ s
      · omega
      · rcases ro.ahead z hz with e | e
        · omega
        · have p := ro.ins z hz z.1 (Int.le_refl _) b.2.1
          by_cases l2 : z.1 ≤ s + d
          · have := lo (z.1 - 1) (by omega) (by omega); omega
          · have := hi z.1 (by omega); omega
    · rw [if_neg c]
      have up : ∀ k, s ≤ k → (iceAt N B k).2 ≤ st := fun k k0 => by
        rw [at_ k k0]
        by_cases gz : N.growth = 0
        · unfold grown; rw [gz, Int.zero_mul]; split <;> omega
        · have : grown N (iceAt N B s).2 (k - s) ≤ N.most := grown_le
          omega
      have hr := runs_piece (N := N) (B := B) (st := st) (e := s) (l := s) s0 (Int.le_refl _) (Int.le_refl _) (fun k k0 _ => up k k0) (fun k k0 k1 => by omega)
      obtain ⟨Q, a, e1, _, e3⟩ := segR_last (runs N B st (s - N.b).toNat) s s
      rw [e3]
      have ro := runs_ok (N := N) (B := B) (st := st) (s + 1 - N.b).toNat
      rw [hr, e1] at ro
      have ba := ro.bnd (a, s) (by simp)
      have as : a ≤ s := ba.2.1
      have qa : ∀ z ∈ Q, z.2 + 2 ≤ a := fun z hz => (List.pairwise_append.mp ro.apart).2.2 z hz (a, s) (by simp)
      have key : ∀ z ∈ fin Q ++ [(a, (none : Option Int))], (∃ y ∈ Q, z = (y.1, some y.2)) ∨ z = (a, none) := fun z hz => by
        rcases List.mem_append.mp hz with hz | hz
        · unfold fin at hz
          obtain ⟨y, hy, e⟩ := List.mem_map.mp hz
          exact .inl ⟨y, hy, e.symm⟩
        · exact .inr (by simpa using hz)
      refine ⟨fun z hz => ?_, fun z hz k hk => ?_, fun z hz => ?_, fun z hz e he => ?_, ?_, fun k k0 hk => ?_⟩
      · rcases key z hz with ⟨y, hy, rfl⟩ | rfl
        · have b := ro.bnd y (by simp [hy])
          have := qa y hy
          exact ⟨b.1, by show y.1 ≤ 1000000000; omega⟩
        · exact ⟨ba.1, by show a ≤ 1000000000; omega⟩
      · rcases key z hz with ⟨y, hy, rfl⟩ | rfl
        · exact ro.ins y (by simp [hy]) k hk.1 (hk.2 y.2 rfl)
        · by_cases l : k ≤ s
          · exact ro.ins (a, s) (by simp) k hk.1 l
          · exact up k (by omega)
      · rcases key z hz with ⟨y, hy, rfl⟩ | rfl
        · exact ro.ahead y (by simp [hy])
        · exact ro.ahead (a, s) (by simp)
      · rcases key z hz with ⟨y, hy, rfl⟩ | rfl
        · injection he with he
          subst he
          refine ⟨(ro.bnd y (by simp [hy])).2.1, ?_, by have := qa y hy; omega⟩
          rcases ro.behind y (by simp [hy]) with e | e
          · have := qa y hy; omega
          · exact e
        · cases he
      · obtain ⟨p1, _, p3⟩ := List.pairwise_append.mp ro.apart
        refine List.pairwise_append.mpr ⟨?_, by simp, fun u hu v hv => ?_⟩
        · unfold fin
          rw [List.pairwise_map]
          exact p1.imp fun h => ⟨_, rfl, h⟩
        · unfold fin at hu
          obtain ⟨y, hy, rfl⟩ := List.mem_map.mp hu
          have e : v = (a, none) := by simpa using hv
          rw [e]
          exact ⟨y.2, rfl, qa y hy⟩
      · by_cases l : k ≤ s
        · obtain ⟨z, hz, z0, z1⟩ := ro.all k k0 (by omega) hk
          rcases List.mem_append.mp hz with hz | hz
          · exact ⟨(z.1, some z.2), List.mem_append.mpr (.inl (by unfold fin; exact List.mem_map.mpr ⟨z, hz, rfl⟩)), z0, fun e he => by injection he with he; omega⟩
          · have e : z = (a, s) := by simpa using hz
            rw [e] at z0
            exact ⟨(a, none), by simp, z0, fun e he => by cases he⟩
        · exact ⟨(a, none), by simp, by show a ≤ k; omega, fun e he => by cases he⟩
  · have lf : lastF N st (runs N B st (s - N.b).toNat) s (iceAt N B s).2 = fin (runs N B st (s - N.b).toNat) := if_neg hv
    have up : ∀ k, s ≤ k → st < (iceAt N B k).2 := fun k k0 => by
      have := ice_mono ok good s0 k0 (fun z hz => by have := s1 z hz; omega)
      omega
    have hr := runs_none (N := N) (B := B) (st := st) (l := s) s0 (Int.le_refl _) (fun k k0 _ => up k k0)
    rw [lf, ← hr]
    have ro := runs_ok (N := N) (B := B) (st := st) (s + 1 - N.b).toNat
    exact fin_ok ro (fun k hk => up k (by omega)) (by omega) (fun z hz => by have := ro.bnd z hz; omega)
/-- an hour is in one stretch, or in none -/
theorem fin_count {N : IceN} {B : Brk} {st k : Int} (k0 : N.b ≤ k) {F : Fin2} (f : FinOK N B st F) (dec : ∀ z : Int × Option Int, Decidable (inS z k)) : ((F.filter fun z => @decide (inS z k) (dec z)).length = 1 ↔ (iceAt N B k).2 ≤ st) ∧ ((F.filter fun z => @decide (inS z k) (dec z)).length ≤ 1) := by
  have le1 : ∀ G : Fin2, (G.Pairwise fun u v => ∃ e, u.2 = some e ∧ e + 2 ≤ v.1) → (G.filter fun z => @decide (inS z k) (dec z)).length ≤ 1 := by
    intro G
    induction G with
    | nil => intro _; simp
    | cons u r ih =>
      intro p
      obtain ⟨p1, p2⟩ := List.pairwise_cons.mp p
      rw [List.filter_cons]
      by_cases c : inS u k
      · rw [if_pos (@decide_eq_true _ (dec u) c)]
        have : (r.filter fun z => @decide (inS z k) (dec z)) = [] := by
          rw [List.filter_eq_nil_iff]
          intro v hv hk
          have hk' := @of_decide_eq_true _ (dec v) hk
          obtain ⟨e, he, le⟩ := p1 v hv
          have := c.2 e he
          have := hk'.1
          omega
        rw [this]
        simp
      · rw [if_neg (fun h => c (@of_decide_eq_true _ (dec u) h))]
        exact ih p2
  refine ⟨⟨fun h => ?_, fun h => ?_⟩, le1 F f.apart⟩
  · obtain ⟨z, hz⟩ := List.exists_mem_of_length_pos (l := F.filter fun z => @decide (inS z k) (dec z)) (by omega)
    have hm := List.mem_filter.mp hz
    exact f.ins z hm.1 k (@of_decide_eq_true _ (dec z) hm.2)
  · obtain ⟨z, hz, hk⟩ := f.all k k0 h
    have : z ∈ F.filter fun z => @decide (inS z k) (dec z) := List.mem_filter.mpr ⟨hz, @decide_eq_true _ (dec z) hk⟩
    have := List.length_pos_of_mem this
    have := le1 F f.apart
    omega

theorem SegAt.get {H : Hp} {bs : List Addr} {F : Fin2} (p : SegAt H bs F) {i : Nat} {v : V} (h : (rf bs)[i]? = some v) : ∃ a z, v = .ref a ∧ F[i]? = some z ∧ H a = some (.tup [.int z.1, valE z.2]) := by
  obtain ⟨a, ha, rfl⟩ := rf_get h
  have lt : i < F.length := by rw [← p.1]; exact (List.getElem?_eq_some_iff.mp ha).1
  exact ⟨a, F[i], rfl, List.getElem?_eq_getElem lt, p.2 i a _ ha (List.getElem?_eq_getElem lt)⟩
def inF (z : Int × Option Int) (k : Int) : Bool := decide (z.1 ≤ k) && (match z.2 with | none => true | some e => decide (k ≤ e))
theorem inF_iff (z : Int × Option Int) (k : Int) : inF z k = true ↔ inS z k := by
  obtain ⟨s, e⟩ := z
  unfold inF inS
  cases e with
  | none => simp
  | some e => simp
theorem fin_countB {N : IceN} {B : Brk} {st k : Int} (k0 : N.b ≤ k) {F : Fin2} (f : FinOK N B st F) : (F.filter fun z => inF z k).length = 1 ↔ (iceAt N B k).2 ≤ st := by
  have dec : ∀ z : Int × Option Int, Decidable (inS z k) := fun z => decidable_of_iff _ (inF_iff z k)
  have h := (fin_count k0 f dec).1
  have e : (F.filter fun z => inF z k) = F.filter fun z => @decide (inS z k) (dec z) := by
    refine List.filter_congr fun z _ => ?_
    by_cases c : inS z k
    · rw [(inF_iff z k).mpr c, @decide_eq_true _ (dec z) c]
    · rw [@decide_eq_false _ (dec z) c]
      cases hb : inF z k with
      | false => rfl
      | true => exact absurd ((inF_iff z k).mp hb) c
  rw [e]; exact h
theorem apart_next {F : Fin2} (p : F.Pairwise fun u v => ∃ e, u.2 = some e ∧ e + 2 ≤ v.1) {i : Nat} {z z' : Int × Option Int} (h : F[i]? = some z) (h' : F[i + 1]? = some z') : ∃ e, z.2 = some e ∧ e + 2 ≤ z'.1 := by
  obtain ⟨a1, a2⟩ := List.getElem?_eq_some_iff.mp h
  obtain ⟨b1, b2⟩ := List.getElem?_eq_some_iff.mp h'
  have := (List.pairwise_iff_getElem.mp p) i (i + 1) a1 b1 (by omega)
  rw [a2, b2] at this
  exact this
theorem cutV_init (ps : List Addr) : cutV (rf ps) none (some (-1)) = rf ps.dropLast := by
  unfold cutV rf
  rw [HT.sIx_none, List.drop_zero]
  show (ps.map V.ref).take (((-1 : Int) + ((ps.map V.ref).length : Int)).toNat - 0) = _
  rw [List.length_map, show ((-1 : Int) + (ps.length : Int)).toNat - 0 = ps.length - 1 by omega, ← List.map_take, List.dropLast_eq_take]
section
variable {P : Program} {w : World} {K : PySem.W.Frag} {mg : Str → Option Value} {base : Heap}
theorem str_e {T : Top K mg} {H : Hp} {Q : VK} {E : XK} {x : Addr} {N : IceN} {B : Brk} {st : Int} (ia : IceA T H x N B) (ok : N.ok) (good : BGood N.b B) (l3 : B.length ≤ 300) (s0 : 0 ≤ st) (s1 : st ≤ 1000000000) (q : ∀ (F : Fin2) (r : Addr) (rs : List Addr) (H' : Hp), Same H H' → H r = none → H' r = some (.lst (rf rs)) → rs.length ≤ B.length + 1 → SegAt H' rs F → FinOf N B st F → Q (.ref r) H') : spStretch T [.ref x, .int st] H Q E :=
  ⟨x, N, B, st, rfl, ia, ok, good, l3, s0, s1, q⟩
def spStrR (T : Top K mg) : Sp := fun vs H Q _ => ∃ (x hl : Addr) (N : IceN) (B : Brk) (hs : List Int) (st : Int), vs = [.ref x, .int N.b, .ref hl, .int st] ∧ IceA T H x N B ∧ N.ok ∧ BGood N.b B ∧ B.length ≤ 300 ∧ H hl = some (.lst (hs.map V.int)) ∧ (∀ k ∈ hs, N.b ≤ k ∧ k ≤ 1000000000) ∧ 0 ≤ st ∧ st ≤ 1000000000 ∧ ∀ H', Same H H' → Q (.bl true) H'
theorem ok_stretches_right (T : Top K mg) : FnG P w K mg base CX0 6 T.a_stretches_right T.d_stretches_right ["_law_ice_here", "_law_begin", "_law_hours", "_law_strength"] (spStrR T) := by
  have G_Ice_stretches := ok_Ice_stretches (P := P) (w := w) (base := base) T
  have G_Ice_thick := ok_Ice_thick (P := P) (w := w) (base := base) T
  refine okG T.F_stretches_right sc_stretches_right (fun vs H Q E h => ?_) (fun cdv A outer s H vs Q E hr hgd h => ?_)
  · obtain ⟨x, hl, N, B, hs, st, rfl, _⟩ := h
    rfl
  · obtain ⟨x, hl, N, B, hs, st, rfl, ia, ok, good, l3, kh, bh, st0, st1, q⟩ := h
    have hu64 := un64 hr
    have b0 := ok.b0; have b6 := ok.b6
    obtain ⟨dx, _, _, _, _, _, hx, _⟩ := id ia
    refine ⟨_, (pss_cons (ps_set (i := 4) sc_stretches_right.nd rfl (by first | exact Or.inl rfl | exact Or.inr rfl) (g_meth (pv 0) T.cl_Ice T.me_Ice_stretches G_Ice_stretches (hr.mono (by decide)) hgd T.b_Ice_stretches .nil pass0 (pa_cons (pv 3) pa_nil)))
      (pss_cons (ps_set (i := 5) sc_stretches_right.nd rfl (by first | exact Or.inl rfl | exact Or.inr rfl) (pe_op op_sub (pv 1) pe_int))
      (pss_cons (ps_for PassesOwn.never rfl (pi_list (pv 4)) (pg_tup rfl (pgs_cons (pg_name (i := 6) sc_stretches_right.nd rfl (by first | exact Or.inl rfl | exact Or.inr rfl)) (pgs_cons (pg_name (i := 7) sc_stretches_right.nd rfl (by first | exact Or.inl rfl | exact Or.inr rfl)) pgs_nil)))
        (C8.pss_cut (ps_if (PW.pt (pw_or (pt_cmpR op_lt (pv 6) (pe_op op_add (pv 5) pe_int) (nomark _)) (pw_or (pt_cmpR op_gt (g_meth (pv 0) T.cl_Ice T.me_Ice_thick G_Ice_thick (hr.mono (by decide)) hgd T.b_Ice_thick .nil pass0 (pa_cons (pv 6) pa_nil)) (pv 3) (nomark _)) (pw_or1 (PW.pt (pw_and (pt_cmpR op_gt (pv 6) (pv 1) (nomark _)) (pw_and1 (pt_cmpR op_le (g_meth (pv 0) T.cl_Ice T.me_Ice_thick G_Ice_thick (hr.mono (by decide)) hgd T.b_Ice_thick .nil pass0 (pa_cons (pe_op op_sub (pv 6) pe_int) pa_nil)) (pv 3) (nomark _)))))))))
        (pss_one (ps_ret pe_bl))
        pss_nil)
      (C8.pss_cut (ps_set (i := 5) sc_stretches_right.nd rfl (by first | exact Or.inl rfl | exact Or.inr rfl) (pe_ifExp (pt_cmpR op_isN1 (pv 7) pe_non (nomark _)) (pe_op op_pow pe_int pe_int) (pv 7)))
      (C8.pss_cut (ps_if (PW.pt (pw_or (PW.pt (pw_and (pt_cmpR op_notN1 (pv 7) pe_non (nomark _)) (pw_and1 (pt_cmpR op_lt (pv 7) (pv 6) (nomark _))))) (pw_or1 (pt_cmpR op_gt (g_meth (pv 0) T.cl_Ice T.me_Ice_thick G_Ice_thick (hr.mono (by decide)) hgd T.b_Ice_thick .nil pass0 (pa_cons (pe_callB (c_min2) (by rfl) T.n_min (by decide +kernel) (pa_cons (pv 5) (pa_cons (pe_op op_pow pe_int pe_int) pa_nil))) pa_nil)) (pv 3) (nomark _)))))
        (pss_one (ps_ret pe_bl))
        pss_nil)
      (pss_one (ps_if (PW.pt (pw_and (pt_cmpR op_notN1 (pv 7) pe_non (nomark _)) (pw_and (pt_cmpR op_lt (pv 7) (pe_op op_pow pe_int pe_int) (nomark _)) (pw_and1 (pt_cmpR op_le (g_meth (pv 0) T.cl_Ice T.me_Ice_thick G_Ice_thick (hr.mono (by decide)) hgd T.b_Ice_thick .nil pass0 (pa_cons (pe_op op_add (pv 7) pe_int) pa_nil)) (pv 3) (nomark _))))))
        (pss_one (ps_ret pe_bl))
        pss_nil))))))
      (pss_cons (ps_for PassesOwn.never rfl (pi_list (pv 2)) (pg_name (i := 8) sc_stretches_right.nd rfl (by first | exact Or.inl rfl | exact Or.inr rfl))
        (pss_cons (ps_setLc (i := 9) (own := [("_law_start", 6), ("_law_end", 7)]) rfl sc_stretches_right.nd rfl rfl (sw_true rfl rfl rfl (by decide +kernel)) (pi_list (pv 4)) (blkOk_by (own := [("_law_start", 6), ("_law_end", 7)]) (N := ["_law_ice_here", "_law_begin", "_law_hours", "_law_strength", "_law_told_here", "_law_behind", "_law_start", "_law_end", "_law_hour_here", "_law_some"]) (sc := defScope s_stretches_right) (by decide +kernel)) (fun _ _ _ _ _ => (show PG _ _ (gTup K 2 _) from (pg_tup rfl (pgs_cons (pg_name (i := 6) sc_stretches_right.nd rfl (by first | exact Or.inl rfl | exact Or.inr rfl)) (pgs_cons (pg_name (i := 7) sc_stretches_right.nd rfl (by first | exact Or.inl rfl | exact Or.inr rfl)) pgs_nil))))) (fun _ _ _ _ _ => (pts_one (PW.pt (pw_and (pt_cmpR op_le (pv 6) (pv 8) (nomark _)) (pw_and1 (PW.pt (pw_or (pt_cmpR op_isN1 (pv 7) pe_non (nomark _)) (pw_or1 (pt_cmpR op_le (pv 8) (pv 7) (nomark _)))))))))) (fun _ _ _ _ _ => (pv 6)))
      (pss_one (ps_if (pt_cmpR op_ne (pe_cmpR op_le (g_meth (pv 0) T.cl_Ice T.me_Ice_thick G_Ice_thick (hr.mono (by decide)) hgd T.b_Ice_thick .nil pass0 (pa_cons (pv 8) pa_nil)) (pv 3) (nomark _)) (pe_cmpR op_eq (pe_callB c_len (by rfl) T.n_len (by decide +kernel) (pa_cons (pv 9) pa_nil)) pe_int (nomark _)) (nomark _))
        (pss_one (ps_ret pe_bl))
        pss_nil))))
      (pss_one (ps_ret (pe_cmpR (op_eqD hu64) (pe_lc (own := [("_law_start", 6), ("_law_end", 7)]) rfl sc_stretches_right.nd (pi_list (pe_slice sl_list (pv 4) po_none (po_some (pe_un un_neg pe_int)))) (blkOk_by (own := [("_law_start", 6), ("_law_end", 7)]) (N := ["_law_ice_here", "_law_begin", "_law_hours", "_law_strength", "_law_told_here", "_law_behind", "_law_start", "_law_end", "_law_hour_here", "_law_some"]) (sc := defScope s_stretches_right) (by decide +kernel)) (fun _ _ _ _ _ => (show PG _ _ (gTup K 2 _) from (pg_tup rfl (pgs_cons (pg_name (i := 6) sc_stretches_right.nd rfl (by first | exact Or.inl rfl | exact Or.inr rfl)) (pgs_cons (pg_name (i := 7) sc_stretches_right.nd rfl (by first | exact Or.inl rfl | exact Or.inr rfl)) pgs_nil))))) (fun _ _ _ _ _ => (pts_one (pt_cmpR op_isN1 (pv 7) pe_non (nomark _)))) (fun _ _ _ _ _ => (pv 7))) (pe_lst pa_nil) (nomark _)))))))), ?_⟩
    walk_at "rd"
    refine str_e ia ok good l3 st0 st1 (fun F r rs J s fr kr lr sg fo => ?_)
    have lF : F.length ≤ 301 := by rw [← sg.1]; omega
    have f := fin_of ok good st1 fo
    have i1 := ia.same s
    have hx1 := s _ _ hx
    walk_at "rd"
    refine ⟨r, rfl, ⟨_, SqL.lst kr⟩, ?_⟩
    refine for_list (K := K) (a := r) (xs := rf rs) (fun i σ H' => H' = J ∧ ∃ (bh : Int) (z6 z7 z8 z9 : Option V), (∀ z, F[i]? = some z → bh + 2 ≤ z.1) ∧ σ = [some (.ref x), some (.int N.b), some (.ref hl), some (.int st), some (.ref r), some (.int bh), z6, z7, z8, z9])
      ⟨rfl, N.b - 2, _, _, _, _, fun z hz => by have := (f.bnd z (List.mem_of_getElem? hz)).1; omega, rfl⟩ (fun i σ H' _ h => by rw [h.1]; exact SqL.lst kr) ?_ ?_
    · rintro i v σ H1 hi ⟨rfl, be, z6, z7, z8, z9, hbe, rfl⟩
      obtain ⟨a, z, rfl, hz, ha⟩ := sg.get hi
      have hm := List.mem_of_getElem? hz
      have bz := f.bnd z hm
      refine i_gtup (xs := [.int z.1, valE z.2]) (SqT.tup ha) rfl ?_
      walk_at "rd"
      have b2 := hbe z hz
      have ze : ∀ e, z.2 = some e → z.1 ≤ e := fun e he => (f.ends z hm e he).1
      have pz := f.ins z hm z.1 ⟨Int.le_refl _, ze⟩
      refine i_cut (fun σ H' => H' = H1 ∧ ∃ z8 z9, σ = [some (.ref x), some (.int N.b), some (.ref hl), some (.int st), some (.ref r), some (.int be), some (.int z.1), some (valE z.2), z8, z9]) ?_ ?_
      · walk_at "rd"
        rw [decide_eq_false (show ¬ z.1 < be + 2 by omega)]
        walk_at "rd"
        refine thick_e i1 ok good l3 bz.1 bz.2 ?_
        walk_at "rd"
        rw [decide_eq_false (show ¬ st < (iceAt N B z.1).2 by omega)]
        walk_at "rd"
        refine ifs (fun c => ?_) (fun c => ?_)
        · have c' := of_decide_eq_true c
          walk_at "rd"
          refine thick_e i1 ok good l3 (by omega) (by omega) ?_
          walk_at "rd"
          have := (f.ahead z hm).resolve_left (by omega)
          rw [decide_eq_false (show ¬ (iceAt N B (z.1 - 1)).2 ≤ st by omega)]
          walk_at "rd"
          exact ⟨rfl, _, _, rfl⟩
        · walk_at "rd"
          exact ⟨rfl, _, _, rfl⟩
      · rintro σ H5 ⟨rfl, z8, z9, rfl⟩
        cases hE : z.2 with
        | none =>
          have nx : ∀ z', F[i + 1]? = some z' → (1000000000 : Int) + 2 ≤ z'.1 := fun z' hz' => by
                  obtain ⟨e2, he2, l2⟩ := apart_next f.apart hz hz'
                  rw [hE] at he2
                  cases he2
          simp only [hE, valE]
          walk_at "rd"
          refine i_cut (fun σ H' => H' = H5 ∧ σ = [some (.ref x), some (.int N.b), some (.ref hl), some (.int st), some (.ref r), some (.int 1000000000), some (.int z.1), some (.non), z8, z9]) ?_ ?_
          · walk_at "rd"
            refine ⟨rfl, ?_⟩
            rw [show decide (V.non = V.non) = true from rfl]
            walk_at "rd"
            exact ⟨rfl, rfl⟩
          · rintro σ H6 ⟨rfl, rfl⟩
            walk_at "rd"
            refine i_cut (fun σ H' => H' = H6 ∧ σ = [some (.ref x), some (.int N.b), some (.ref hl), some (.int st), some (.ref r), some (.int 1000000000), some (.int z.1), some (.non), z8, z9]) ?_ ?_
            · walk_at "rd"
              refine ⟨rfl, ?_⟩
              rw [show (!decide (V.non = V.non)) = false from rfl]
              walk_at "rd"
              have pm := f.ins z hm 1000000000 ⟨bz.2, fun e h2 => by rw [hE] at h2; cases h2⟩
              refine thick_e i1 ok good l3 (h := 1000000000) (by omega) (by omega) ?_
              walk_at "rd"
              rw [decide_eq_false (show ¬ st < (iceAt N B 1000000000).2 by omega)]
              walk_at "rd"
              exact ⟨rfl, rfl⟩
            · rintro σ H7 ⟨rfl, rfl⟩
              walk_at "rd"
              refine ⟨rfl, ?_⟩
              rw [show (!decide (V.non = V.non)) = false from rfl]
              walk_at "rd"
              refine ⟨rfl, 1000000000, _, _, _, _, nx, rfl⟩
        | some e =>
          have nx : ∀ z', F[i + 1]? = some z' → e + 2 ≤ z'.1 := fun z' hz' => by
                  obtain ⟨e2, he2, l2⟩ := apart_next f.apart hz hz'
                  rw [hE] at he2
                  injection he2 with he2; omega
          simp only [hE, valE]
          walk_at "rd"
          refine i_cut (fun σ H' => H' = H5 ∧ σ = [some (.ref x), some (.int N.b), some (.ref hl), some (.int st), some (.ref r), some (.int e), some (.int z.1), some (.int e), z8, z9]) ?_ ?_
          · walk_at "rd"
            refine ⟨rfl, ?_⟩
            rw [show decide (V.int e = V.non) = false from rfl]
            walk_at "rd"
            exact ⟨rfl, rfl⟩
          · rintro σ H6 ⟨rfl, rfl⟩
            walk_at "rd"
            refine i_cut (fun σ H' => H' = H6 ∧ σ = [some (.ref x), some (.int N.b), some (.ref hl), some (.int st), some (.ref r), some (.int e), some (.int z.1), some (.int e), z8, z9]) ?_ ?_
            · walk_at "rd"
              refine ⟨rfl, ?_⟩
              rw [show (!decide (V.int e = V.non)) = true from rfl]
              walk_at "rd"
              rw [decide_eq_false (show ¬ e < z.1 by have := ze e hE; omega)]
              walk_at "rd"
              have mb : z.1 ≤ (if 1000000000 < e then 1000000000 else e) ∧ (if 1000000000 < e then 1000000000 else e) ≤ 1000000000 ∧ (if 1000000000 < e then 1000000000 else e) ≤ e := by have := ze e hE; split <;> omega
              have pm := f.ins z hm (if 1000000000 < e then 1000000000 else e) ⟨mb.1, fun e2 h2 => by rw [hE] at h2; injection h2 with h2; omega⟩
              refine thick_e i1 ok good l3 (h := if 1000000000 < e then 1000000000 else e) (by omega) mb.2.1 ?_
              walk_at "rd"
              rw [decide_eq_false (show ¬ st < (iceAt N B (if 1000000000 < e then 1000000000 else e)).2 by omega)]
              walk_at "rd"
              exact ⟨rfl, rfl⟩
            · rintro σ H7 ⟨rfl, rfl⟩
              walk_at "rd"
              refine ⟨rfl, ?_⟩
              rw [show (!decide (V.int e = V.non)) = true from rfl]
              walk_at "rd"
              refine ifs (fun c => ?_) (fun c => ?_)
              · have c' := of_decide_eq_true c
                have c2 : e < 1000000000 := c'
                have le := ze e hE
                walk_at "rd"
                refine thick_e i1 ok good l3 (h := e + 1) (by omega) (by omega) ?_
                walk_at "rd"
                have := (f.ends z hm e hE).2.1
                rw [decide_eq_false (show ¬ (iceAt N B (e + 1)).2 ≤ st by omega)]
                walk_at "rd"
                refine ⟨rfl, e, _, _, _, _, nx, rfl⟩
              · walk_at "rd"
                refine ⟨rfl, e, _, _, _, _, nx, rfl⟩
    · rintro σ H1 ⟨rfl, be, z6, z7, z8, z9, hbe, rfl⟩
      walk_at "rd"
      have kh1 := s _ _ kh
      have kr1 := kr
      clear hbe
      refine ⟨hl, rfl, ⟨_, SqL.lst kh1⟩, ?_⟩
      refine for_list (K := K) (a := hl) (xs := hs.map V.int) (fun i σ H' => Same H1 H' ∧ ∃ z5 z6 z7 z8 z9, σ = [some (.ref x), some (.int N.b), some (.ref hl), some (.int st), some (.ref r), z5, z6, z7, z8, z9])
        ⟨Same.refl _, _, _, _, _, _, rfl⟩ (fun i σ H' _ h => SqL.lst (h.1 _ _ kh1)) ?_ ?_
      · rintro i v σ H2 hi ⟨s2, z5, z6, z7, z8, z9, rfl⟩
        obtain ⟨k, hk, rfl⟩ : ∃ k, k ∈ hs ∧ v = .int k := by
          obtain ⟨k, hk, e⟩ := List.mem_map.mp (List.mem_of_getElem? hi)
          exact ⟨k, hk, e.symm⟩
        have bk := bh k hk
        have kr2 := s2 _ _ kr
        have sg2 := sg.keep (keepT_same s2)
        walk_at "rd"
        refine ⟨r, rfl, ⟨_, SqL.lst kr2⟩, fun D hD => ?_⟩
        refine lc_list (K := K) (a := r) (xs := rf rs) (fun j H' => Same H2 H' ∧ H' D = some (.lst (((F.take j).filter fun z => inF z k).map fun z => V.int z.1))) ⟨Same.new _ hD, upd_same⟩ (fun j H' _ h => SqL.lst (h.1 _ _ kr2)) ?_ ?_
        · rintro j v H3 hj ⟨s3, kD⟩
          obtain ⟨a, z, rfl, hz, ha⟩ := sg2.get hj
          have ha3 := s3 _ _ ha
          refine i_gtup (xs := [.int z.1, valE z.2]) (SqT.tup ha3) rfl ?_
          walk_at "rd"
          have nxt : inF z k = true → Same H2 (upd H3 D (.lst ((((F.take j).filter fun z => inF z k).map fun z => V.int z.1) ++ [V.int z.1]))) ∧ upd H3 D (.lst ((((F.take j).filter fun z => inF z k).map fun z => V.int z.1) ++ [V.int z.1])) D = some (.lst (((F.take (j + 1)).filter fun z => inF z k).map fun z => V.int z.1)) := fun h => ⟨Same.upd s3 hD, by rw [upd_same, take_succ_of hz, List.filter_append, List.filter_cons, if_pos h, List.map_append]; rfl⟩
          have ln : (((F.take j).filter fun z => inF z k).map fun z => V.int z.1).length < sizeLine := small1000 (by
            rw [List.length_map]
            have := List.length_filter_le (fun z => inF z k) (F.take j)
            rw [List.length_take] at this
            have := lF
            omega)
          have skp : inF z k = false → H3 D = some (.lst (((F.take (j + 1)).filter fun z => inF z k).map fun z => V.int z.1)) := fun h => by rw [take_succ_of hz, List.filter_append, List.filter_cons, if_neg (by rw [h]; decide), List.filter_nil, List.append_nil]; exact kD
          refine ifs (fun c => ?_) (fun c => ?_)
          · have c1 := of_decide_eq_true c
            cases hE : z.2 with
            | none =>
              have hi : inF z k = true := (inF_iff z k).mpr ⟨c1, fun e he => by rw [hE] at he; cases he⟩
              simp only [hE, valE]
              walk_at "rd"
              refine ⟨rfl, ?_⟩
              rw [show decide (V.non = V.non) = true from rfl]
              walk_at "rd"
              exact ⟨_, kD, ln, nxt hi⟩
            | some e =>
              simp only [hE, valE]
              walk_at "rd"
              refine ⟨rfl, ?_⟩
              rw [show decide (V.int e = V.non) = false from rfl]
              walk_at "rd"
              refine ifs (fun c => ?_) (fun c => ?_)
              · have c2 := of_decide_eq_true c
                have hi : inF z k = true := (inF_iff z k).mpr ⟨c1, fun e' he => by rw [hE] at he; injection he with he; omega⟩
                walk_at "rd"
                exact ⟨_, kD, ln, nxt hi⟩
              · have c2 := of_decide_eq_false c
                have hi : inF z k = false := by
                  cases hb : inF z k with
                  | false => rfl
                  | true => exact absurd (((inF_iff z k).mp hb).2 e hE) c2
                walk_at "rd"
                exact ⟨s3, skp hi⟩
          · have c1 := of_decide_eq_false c
            have hi : inF z k = false := by
              cases hb : inF z k with
              | false => rfl
              | true => exact absurd (((inF_iff z k).mp hb).1) c1
            walk_at "rd"
            exact ⟨s3, skp hi⟩
        · rintro H3 ⟨s3, kD⟩
          rw [show (rf rs).length = F.length by simp [rf, sg.1], List.take_length] at kD
          walk_at "rd"
          have s13 := s2.trans s3
          refine thick_e (i1.same s13) ok good l3 bk.1 bk.2 ?_
          walk_at "rd"
          have cn := fin_countB bk.1 f
          have hb : (!decide (V.bl (decide ((iceAt N B k).2 ≤ st)) = V.bl (decide (V.int (List.map (fun z => V.int z.fst) (List.filter (fun z => inF z k) F)).length = V.int 1)))) = false := by
            rw [List.length_map]
            by_cases c : (iceAt N B k).2 ≤ st
            · rw [decide_eq_true c, cn.mpr c]; rfl
            · have c2 : ¬ (List.filter (fun z => inF z k) F).length = 1 := fun h => c (cn.mp h)
              rw [decide_eq_false c, decide_eq_false (fun h : V.int _ = V.int _ => c2 (by injection h with h; omega))]; rfl
          rw [hb]
          walk_at "rd"
          exact ⟨s13, _, _, _, _, _, rfl⟩
      · rintro σ H2 ⟨s2, z5, z6, z7, z8, z9, rfl⟩
        walk_at "rd"
        refine i_slLs (s2 _ _ kr1) (fun sl J3 N3 => ?_)
        rw [cutV_init] at N3
        have sg3 := (sg.keep (keepT_same s2)).keep (keepT_same N3.same)
        walk_at "rd"
        refine ⟨sl, rfl, ⟨_, SqL.lst N3.at_⟩, fun D hD => ?_⟩
        refine lc_list (K := K) (a := sl) (xs := rf rs.dropLast) (fun j H' => Same J3 H' ∧ H' D = some (.lst [])) ⟨Same.new _ hD, upd_same⟩ (fun j H' _ h => SqL.lst (h.1 _ _ N3.at_)) ?_ ?_
        · rintro j v H3 hj ⟨s3, kD⟩
          obtain ⟨a, ha, rfl⟩ := rf_get hj
          have lt : j < rs.length - 1 := by rw [← List.length_dropLast]; exact (List.getElem?_eq_some_iff.mp ha).1
          rw [List.dropLast_eq_take, List.getElem?_take_of_lt lt] at ha
          have l1 : j + 1 < F.length := by rw [← sg.1]; omega
          have hz : F[j]? = some F[j] := List.getElem?_eq_getElem (by omega)
          have hz' : F[j + 1]? = some F[j + 1] := List.getElem?_eq_getElem l1
          obtain ⟨e, he, _⟩ := apart_next f.apart hz hz'
          have ha3 := s3 _ _ (sg3.2 j a _ ha hz)
          refine i_gtup (xs := [.int F[j].1, valE F[j].2]) (SqT.tup ha3) rfl ?_
          rw [he]
          simp only [valE]
          walk_at "rd"
          refine ⟨rfl, ?_⟩
          rw [show decide (V.int e = V.non) = false from rfl]
          walk_at "rd"
          exact ⟨s3, kD⟩
        · rintro H3 ⟨s3, kD⟩
          walk_at "rd"
          (intro em hem; generalize eem : upd _ em _ = J9; have N9 := New.of eem hem; clear eem hem)
          walk_at "rd"
          refine ⟨.list [], .list [], .lst (SqL.lst (N9.app kD)) .nil, .lst (SqL.lst N9.at_) .nil, rfl, rfl, ?_⟩
          rw [show (PyData.list []).eqv (.list []) = true from rfl]
          exact q J9 (s.trans (s2.trans (N3.same.trans (s3.trans N9.same))))
end

end Ice

set_option Elab.async false
set_option linter.all false
set_option maxRecDepth 100000
set_option maxHeartbeats 4000000
namespace Ice
open PySem PySem.Spec PyProof.Rows L2 TL
/-! side conditions, heaps, one step of a reading, and many -/
local macro_rules | `(tactic| walk_at "hp") => `(tactic| first | assumption | exact upd_same | exact New.at_ (by assumption) | (refine keepU ?_ (by assumption); walk_at "hp") | (refine New.app (by assumption) ?_; walk_at "hp") | (refine Same.app (by assumption) ?_; walk_at "hp") | (refine But.app (by assumption) (by assumption) ?_; walk_at "hp"))
local macro_rules | `(tactic| walk_at "sq") => `(tactic| first | assumption | exact SqL.lst (by walk_at "hp") | exact L2.Same.seq (New.same (by assumption)) (by assumption) | exact L2.Same.seq (by assumption) (by assumption))
local macro_rules | `(tactic| walk_at "len") => `(tactic| first | assumption | (simp only [List.length_cons, List.length_nil, List.length_append, List.length_map]; decide) | (refine Ice.sz_of ?_; simp only [List.length_cons, List.length_nil, List.length_append, List.length_map]; omega))
local macro_rules | `(tactic| walk_at "fresh") => `(tactic| (simp only [List.map_append, List.map_cons, List.map_nil, List.nil_append, List.cons_append]; decide +kernel))
local macro_rules | `(tactic| walk_at "sd") => `(tactic| first | assumption | (show _ ≠ _; omega) | exact Or.inl ⟨by omega, by omega⟩ | exact Or.inr ⟨by omega, by omega⟩ | exact ⟨by decide, by decide⟩ | exact ⟨by decide, by decide, by decide⟩ | exact ⟨by omega, by omega, by omega⟩)
/-! one step of a reading, and many -/
local macro_rules | `(tactic| walk_at "st") => `(tactic| first
  | with_reducible refine i_seq ?_
  | with_reducible refine i_if ?_
  | with_reducible refine i_next ?_
  | with_reducible refine i_ret ?_
  | with_reducible refine i_retN ?_
  | with_reducible refine i_drop ?_
  | with_reducible refine i_asg ?_
  | with_reducible refine i_gname ?_
  | with_reducible refine i_gsub ?_
  | ((with_reducible refine i_var (v := ?vv) ?hv ?_); (case hv => exact rfl))
  | with_reducible refine i_c ?_
  | with_reducible refine i_op ?_
  | with_reducible refine i_un ?_
  | with_reducible refine i_test ?_
  | with_reducible refine i_tB ?_
  | with_reducible refine i_and ?_
  | with_reducible refine i_or ?_
  | with_reducible refine i_not ?_
  | with_reducible refine i_andV ?_
  | with_reducible refine i_orV ?_
  | with_reducible refine i_notV ?_
  | with_reducible refine i_ifE ?_
  | with_reducible refine i_chain ?_
  | with_reducible refine i_bl ?_
  | with_reducible refine i_nil ?_
  | with_reducible refine i_cons ?_
  | with_reducible refine i_call ?_
  | with_reducible refine i_cb ?_
  | with_reducible refine i_rI0 ?_
  | with_reducible refine i_rU ?_
  | ((with_reducible refine i_rEq ?hs ?_); (case hs => exact rfl))
  | ((with_reducible refine i_rNe ?hs ?_); (case hs => exact rfl))
  | ((with_reducible refine i_rI ?hc ?_); (case hc => walk_at "sd"))
  | ((with_reducible refine i_ixL (xs := ?xs) (v := ?vv) ?hS ?he ?_); (case hS => walk_at "sq"); (case he => exact rfl))
  | ((with_reducible refine i_setL (xs := ?xs) (j := ?jj) ?hS ?he ?_); (case hS => walk_at "hp"); (case he => exact rfl))
  | with_reducible refine i_tup ?_
  | with_reducible refine i_lst ?_
  | with_reducible refine i_bm ?_
  | with_reducible refine i_bm0 ?_
  | with_reducible refine i_m1 ?_
  | with_reducible refine i_sl ?_
  | with_reducible refine i_nopart ?_
  | with_reducible refine i_part ?_
  | with_reducible refine i_int ?_
  | with_reducible refine i_str ?_
  | with_reducible refine i_for ?_
  | with_reducible refine i_yes ?_
  | ((with_reducible refine i_lenL (xs := ?xs) ?hS ?_); (case hS => walk_at "sq"))
  | ((with_reducible refine i_room ?hz ?_); (case hz => walk_at "len"))
  | with_reducible refine i_leT ?_
  | with_reducible refine i_notInS ?_
  | with_reducible refine i_inS ?_
  | with_reducible refine i_find ?_
  | with_reducible refine i_isB ?_
  | with_reducible refine i_max2 ?_
  | with_reducible refine i_min2 ?_
  | with_reducible exact trivial
  | with_reducible refine iteT ?_
  | with_reducible refine iteF ?_
  | with_reducible refine i_isstr ?_
  | with_reducible refine i_lc ?_
  | ((with_reducible refine i_cat (xs := ?xs) (zs := ?zs) ?ha ?hb ?hz ?_); (case ha => walk_at "hp"); (case hb => walk_at "hp"); (case hz => walk_at "len"))
  | ((with_reducible refine i_tyL (xs := ?xs) ?ha ?_); (case ha => walk_at "hp"))
  | with_reducible refine i_list ?_
  | with_reducible refine i_disp ?_
  | with_reducible refine i_pairs0 ?_
  | with_reducible refine i_pairs ?_
  | with_reducible refine i_newK ?_
  | with_reducible refine i_gcons ?_
  | with_reducible refine i_gnil ?_
  | with_reducible refine i_revL ?_
  | with_reducible refine i_rng1 ?_
  | ((with_reducible refine i_wipe ?hw ?_); (case hw => exact rfl))
  | with_reducible refine iteNT ?_
  | with_reducible refine iteNF ?_)
local macro_rules | `(tactic| walk_at "sx") => `(tactic| first
  | walk_at "st"
  | with_reducible refine i_kinit ?_
  | with_reducible refine i_ost ?_
  | with_reducible refine i_mkO ?_
  | with_reducible refine i_callE ?_
  | with_reducible refine i_makeE ?_
  | with_reducible refine i_xf ?_
  | with_reducible refine i_sfld ?_
  | with_reducible refine i_fld ?_
  | ((with_reducible refine i_ixT (xs := ?xs) (v := ?vv) ?hS ?he ?_); (case hS => exact SqT.tup (by walk_at "hp")); (case he => exact rfl))
  | with_reducible refine i_intB ?_
  | with_reducible refine i_runS ?_
  | with_reducible refine i_runN ?_
  | ((with_reducible refine i_xf1 (fs := ?ff) (v := ?vv) ?hx ?hl ?_); (case hx => walk_at "hp"); (case hl => exact rfl))
  | with_reducible refine i_methE ?_
  | with_reducible refine i_meth ?_
  | with_reducible refine i_make ?_
  | ((with_reducible refine i_obj (dx := ?dd) (fs := ?ff) ?hx ?hl ?_); (case hx => walk_at "hp"); (case hl => exact rfl))
  | ((with_reducible refine i_fld1 (C := ?CC) (dx := ?dd) (fs := ?ff) (v := ?vv) ?hx ?cl ?na ?hl ?_); (case hx => walk_at "hp"); (case cl => assumption); (case na => assumption); (case hl => exact rfl)))
local macro_rules | `(tactic| walk_at "sy") => `(tactic| first
  | walk_at "sx"
  | with_reducible refine i_dget ?_
  | with_reducible refine i_dget2 ?_
  | with_reducible refine i_dput ?_
  | with_reducible refine i_din ?_
  | ((with_reducible refine i_aug (x := ?vv) ?hx ?_); (case hx => exact rfl)))
local macro_rules | `(tactic| walk_at "rd") => `(tactic| repeat (walk_at "sy"))

section
variable {P : Program} {w : World} {K : PySem.W.Frag} {mg : Str → Option Value} {base : Heap}
def spWalked (T : Top K mg) : Sp := fun vs H Q _ => ∃ (x sl hl : Addr) (N : IceN) (B : Brk) (ss hs : List Int), vs = [.ref x, .int N.b, .ref sl, .ref hl] ∧ IceA T H x N B ∧ N.ok ∧ BGood N.b B ∧ B.length ≤ 300 ∧ H sl = some (.lst (ss.map V.int)) ∧ (∀ k ∈ ss, 0 ≤ k ∧ k ≤ 1000000000) ∧ H hl = some (.lst (hs.map V.int)) ∧ (∀ k ∈ hs, N.b ≤ k ∧ k ≤ 1000000000) ∧ ∀ H', Same H H' → Q (.bl true) H'
theorem ok_walked (T : Top K mg) : FnG P w K mg base CX0 8 T.a_walked T.d_walked ["_law_ice_here", "_law_begin", "_law_strengths", "_law_hours"] (spWalked T) := by
  have G_stretches_right := ok_stretches_right (P := P) (w := w) (base := base) T
  have G_next_right := ok_next_right (P := P) (w := w) (base := base) T
  have G_last_right := ok_last_right (P := P) (w := w) (base := base) T
  refine okG T.F_walked sc_walked (fun vs H Q E h => ?_) (fun cdv A outer s H vs Q E hr hgd h => ?_)
  · obtain ⟨x, sl, hl, N, B, ss, hs, rfl, _⟩ := h
    rfl
  · obtain ⟨x, sl, hl, N, B, ss, hs, rfl, ia, ok, good, l3, ks, bs, kh, bh, q⟩ := h
    have hu64 := un64 hr
    refine ⟨_, (pss_cons (ps_for PassesOwn.never rfl (pi_list (pv 2)) (pg_name (i := 4) sc_walked.nd rfl (by first | exact Or.inl rfl | exact Or.inr rfl))
        (pss_cons (ps_if (pt_not (pt_val (g_call G_stretches_right (hr.mono (by decide)) hgd (by rfl) T.m_stretches_right T.F_stretches_right.kp T.b_stretches_right .nil pass0 (pa_cons (pv 0) (pa_cons (pv 1) (pa_cons (pv 3) (pa_cons (pv 4) pa_nil)))))))
        (pss_one (ps_ret pe_bl))
        pss_nil)
      (pss_one (ps_for PassesOwn.never rfl (pi_list (pv 3)) (pg_name (i := 5) sc_walked.nd rfl (by first | exact Or.inl rfl | exact Or.inr rfl))
        (pss_one (ps_if (PW.pt (pw_or (pt_not (pt_val (g_call G_next_right (hr.mono (by decide)) hgd (by rfl) T.m_next_right T.F_next_right.kp T.b_next_right .nil pass0 (pa_cons (pv 0) (pa_cons (pv 3) (pa_cons (pv 5) (pa_cons (pv 4) pa_nil))))))) (pw_or1 (pt_not (pt_val (g_call G_last_right (hr.mono (by decide)) hgd (by rfl) T.m_last_right T.F_last_right.kp T.b_last_right .nil pass0 (pa_cons (pv 0) (pa_cons (pv 3) (pa_cons (pv 5) (pa_cons (pv 4) pa_nil))))))))))
        (pss_one (ps_ret pe_bl))
        pss_nil))))))
      (pss_one (ps_ret pe_bl))), ?_⟩
    walk_at "rd"
    refine ⟨sl, rfl, ⟨_, SqL.lst ks⟩, ?_⟩
    refine for_list (K := K) (a := sl) (xs := ss.map V.int) (fun i σ H' => Same H H' ∧ ∃ z4 z5, σ = [some (.ref x), some (.int N.b), some (.ref sl), some (.ref hl), z4, z5])
      ⟨Same.refl _, _, _, rfl⟩ (fun i σ H' _ h => SqL.lst (h.1 _ _ ks)) ?_ ?_
    · rintro i v σ H1 hi ⟨s1, z4, z5, rfl⟩
      obtain ⟨st, hst, rfl⟩ : ∃ k, k ∈ ss ∧ v = .int k := by
        obtain ⟨k, hk, e⟩ := List.mem_map.mp (List.mem_of_getElem? hi)
        exact ⟨k, hk, e.symm⟩
      have b1 := bs st hst
      have kh1 := s1 _ _ kh
      walk_at "rd"
      refine ⟨x, hl, N, B, hs, st, rfl, ia.same s1, ok, good, l3, kh1, bh, b1.1, b1.2, fun H2 s2 => ?_⟩
      walk_at "rd"
      have kh2 := s2 _ _ kh1
      refine ⟨hl, rfl, ⟨_, SqL.lst kh2⟩, ?_⟩
      refine for_list (K := K) (a := hl) (xs := hs.map V.int) (fun i σ H' => Same H2 H' ∧ ∃ z5, σ = [some (.ref x), some (.int N.b), some (.ref sl), some (.ref hl), some (.int st), z5])
        ⟨Same.refl _, _, rfl⟩ (fun i σ H' _ h => SqL.lst (h.1 _ _ kh2)) ?_ ?_
      · rintro i v σ H3 hi ⟨s3, z5, rfl⟩
        obtain ⟨k, hk, rfl⟩ : ∃ k, k ∈ hs ∧ v = .int k := by
          obtain ⟨k, hk, e⟩ := List.mem_map.mp (List.mem_of_getElem? hi)
          exact ⟨k, hk, e.symm⟩
        have bk := bh k hk
        have s13 := s1.trans (s2.trans s3)
        walk_at "rd"
        refine ⟨x, hl, N, B, hs, k, st, rfl, ia.same s13, ok, good, l3, s3 _ _ kh2, bh, bk.1, bk.2, b1.1, b1.2, fun H4 s4 => ?_⟩
        walk_at "rd"
        refine ⟨x, hl, N, B, hs, k, st, rfl, ia.same (s13.trans s4), ok, good, l3, s4 _ _ (s3 _ _ kh2), bh, bk.1, bk.2, b1.1, b1.2, fun H5 s5 => ?_⟩
        walk_at "rd"
        exact ⟨s3.trans (s4.trans s5), _, rfl⟩
      · rintro σ H3 ⟨s3, z5, rfl⟩
        walk_at "rd"
        exact ⟨s1.trans (s2.trans s3), _, _, rfl⟩
    · rintro σ H1 ⟨s1, z4, z5, rfl⟩
      walk_at "rd"
      exact q H1 s1
end

end Ice

set_option Elab.async false
set_option linter.all false
set_option maxRecDepth 100000
set_option maxHeartbeats 4000000
namespace Ice
open PySem PySem.Spec PyProof.Rows L2 TL
/-! side conditions, heaps, one step of a reading, and many -/
local macro_rules | `(tactic| walk_at "hp") => `(tactic| first | assumption | exact upd_same | exact New.at_ (by assumption) | (refine keepU ?_ (by assumption); walk_at "hp") | (refine New.app (by assumption) ?_; walk_at "hp") | (refine Same.app (by assumption) ?_; walk_at "hp") | (refine But.app (by assumption) (by assumption) ?_; walk_at "hp"))
local macro_rules | `(tactic| walk_at "sq") => `(tactic| first | assumption | exact SqL.lst (by walk_at "hp") | exact L2.Same.seq (New.same (by assumption)) (by assumption) | exact L2.Same.seq (by assumption) (by assumption))
local macro_rules | `(tactic| walk_at "len") => `(tactic| first | assumption | (simp only [List.length_cons, List.length_nil, List.length_append, List.length_map]; decide) | (refine Ice.sz_of ?_; simp only [List.length_cons, List.length_nil, List.length_append, List.length_map]; omega))
local macro_rules | `(tactic| walk_at "fresh") => `(tactic| (simp only [List.map_append, List.map_cons, List.map_nil, List.nil_append, List.cons_append]; decide +kernel))
local macro_rules | `(tactic| walk_at "sd") => `(tactic| first | assumption | (show _ ≠ _; omega) | exact Or.inl ⟨by omega, by omega⟩ | exact Or.inr ⟨by omega, by omega⟩ | exact ⟨by decide, by decide⟩ | exact ⟨by decide, by decide, by decide⟩ | exact ⟨by omega, by omega, by omega⟩)
/-! one step of a reading, and many -/
local macro_rules | `(tactic| walk_at "st") => `(tactic| first
  | with_reducible refine i_seq ?_
  | with_reducible refine i_if ?_
  | with_reducible refine i_next ?_
  | with_reducible refine i_ret ?_
  | with_reducible refine i_retN ?_
  | with_reducible refine i_drop ?_
  | with_reducible refine i_asg ?_
  | with_reducible refine i_gname ?_
  | with_reducible refine i_gsub ?_
  | ((with_reducible refine i_var (v := ?vv) ?hv ?_); (case hv => exact rfl))
  | with_reducible refine i_c ?_
  | with_reducible refine i_op ?_
  | with_reducible refine i_un ?_
  | with_reducible refine i_test ?_
  | with_reducible refine i_tB ?_
  | with_reducible refine i_and ?_
  | with_reducible refine i_or ?_
  | with_reducible refine i_not ?_
  | with_reducible refine i_andV ?_
  | with_reducible refine i_orV ?_
  | with_reducible refine i_notV ?_
  | with_reducible refine i_ifE ?_
  | with_reducible refine i_chain ?_
  | with_reducible refine i_bl ?_
  | with_reducible refine i_nil ?_
  | with_reducible refine i_cons ?_
  | with_reducible refine i_call ?_
  | with_reducible refine i_cb ?_
  | with_reducible refine i_rI0 ?_
  | with_reducible refine i_rU ?_
  | ((with_reducible refine i_rEq ?hs ?_); (case hs => exact rfl))
  | ((with_reducible refine i_rNe ?hs ?_); (case hs => exact rfl))
  | ((with_reducible refine i_rI ?hc ?_); (case hc => walk_at "sd"))
  | ((with_reducible refine i_ixL (xs := ?xs) (v := ?vv) ?hS ?he ?_); (case hS => walk_at "sq"); (case he => exact rfl))
  | ((with_reducible refine i_setL (xs := ?xs) (j := ?jj) ?hS ?he ?_); (case hS => walk_at "hp"); (case he => exact rfl))
  | with_reducible refine i_tup ?_
  | with_reducible refine i_lst ?_
  | with_reducible refine i_bm ?_
  | with_reducible refine i_bm0 ?_
  | with_reducible refine i_m1 ?_
  | with_reducible refine i_sl ?_
  | with_reducible refine i_nopart ?_
  | with_reducible refine i_part ?_
  | with_reducible refine i_int ?_
  | with_reducible refine i_str ?_
  | with_reducible refine i_for ?_
  | with_reducible refine i_yes ?_
  | ((with_reducible refine i_lenL (xs := ?xs) ?hS ?_); (case hS => walk_at "sq"))
  | ((with_reducible refine i_room ?hz ?_); (case hz => walk_at "len"))
  | with_reducible refine i_leT ?_
  | with_reducible refine i_notInS ?_
  | with_reducible refine i_inS ?_
  | with_reducible refine i_find ?_
  | with_reducible refine i_isB ?_
  | with_reducible refine i_max2 ?_
  | with_reducible refine i_min2 ?_
  | with_reducible exact trivial
  | with_reducible refine iteT ?_
  | with_reducible refine iteF ?_
  | with_reducible refine i_isstr ?_
  | with_reducible refine i_lc ?_
  | ((with_reducible refine i_cat (xs := ?xs) (zs := ?zs) ?ha ?hb ?hz ?_); (case ha => walk_at "hp"); (case hb => walk_at "hp"); (case hz => walk_at "len"))
  | ((with_reducible refine i_tyL (xs := ?xs) ?ha ?_); (case ha => walk_at "hp"))
  | with_reducible refine i_list ?_
  | with_reducible refine i_disp ?_
  | with_reducible refine i_pairs0 ?_
  | with_reducible refine i_pairs ?_
  | with_reducible refine i_newK ?_
  | with_reducible refine i_gcons ?_
  | with_reducible refine i_gnil ?_
  | with_reducible refine i_revL ?_
  | with_reducible refine i_rng1 ?_
  | ((with_reducible refine i_wipe ?hw ?_); (case hw => exact rfl))
  | with_reducible refine iteNT ?_
  | with_reducible refine iteNF ?_)
local macro_rules | `(tactic| walk_at "sx") => `(tactic| first
  | walk_at "st"
  | with_reducible refine i_kinit ?_
  | with_reducible refine i_ost ?_
  | with_reducible refine i_mkO ?_
  | with_reducible refine i_callE ?_
  | with_reducible refine i_makeE ?_
  | with_reducible refine i_xf ?_
  | with_reducible refine i_sfld ?_
  | with_reducible refine i_fld ?_
  | ((with_reducible refine i_ixT (xs := ?xs) (v := ?vv) ?hS ?he ?_); (case hS => exact SqT.tup (by walk_at "hp")); (case he => exact rfl))
  | with_reducible refine i_intB ?_
  | with_reducible refine i_runS ?_
  | with_reducible refine i_runN ?_
  | ((with_reducible refine i_xf1 (fs := ?ff) (v := ?vv) ?hx ?hl ?_); (case hx => walk_at "hp"); (case hl => exact rfl))
  | with_reducible refine i_methE ?_
  | with_reducible refine i_meth ?_
  | with_reducible refine i_make ?_
  | ((with_reducible refine i_obj (dx := ?dd) (fs := ?ff) ?hx ?hl ?_); (case hx => walk_at "hp"); (case hl => exact rfl))
  | ((with_reducible refine i_fld1 (C := ?CC) (dx := ?dd) (fs := ?ff) (v := ?vv) ?hx ?cl ?na ?hl ?_); (case hx => walk_at "hp"); (case cl => assumption); (case na => assumption); (case hl => exact rfl)))
local macro_rules | `(tactic| walk_at "sy") => `(tactic| first
  | walk_at "sx"
  | with_reducible refine i_dget ?_
  | with_reducible refine i_dget2 ?_
  | with_reducible refine i_dput ?_
  | with_reducible refine i_din ?_
  | ((with_reducible refine i_aug (x := ?vv) ?hx ?_); (case hx => exact rfl)))
local macro_rules | `(tactic| walk_at "rd") => `(tactic| repeat (walk_at "sy"))

/-! what is told of all -/
def optD : Option Int → PyData
  | none => .none
  | some i => .int i
def pdF (z : Int × Option Int) : PyData := .tuple [.int z.1, optD z.2]
def segD (F : Fin2) : PyData := .list (F.map pdF)
theorem FinOf.uniq {N : IceN} {B : Brk} {st : Int} {F G : Fin2} (f : FinOf N B st F) (g : FinOf N B st G) : F = G := by
  obtain ⟨s, s0, s1, s2, rfl⟩ := f
  obtain ⟨t, t0, t1, t2, rfl⟩ := g
  have : s = t := by
    rcases s2 with e | ⟨z, hz, e⟩ <;> rcases t2 with e2 | ⟨y, hy, e2⟩
    · omega
    · have := s1 y hy; omega
    · have := t1 z hz; omega
    · have := s1 y hy; have := t1 z hz; omega
  rw [this]
open Classical in
noncomputable def nextO (N : IceN) (B : Brk) (h st : Int) : Option Int := if e : ∃ o, Ans N B h st o then e.choose else none
open Classical in
noncomputable def lastO (N : IceN) (B : Brk) (h st : Int) : Option Int := if e : ∃ o, AnsL N B h st o then e.choose else none
open Classical in
noncomputable def finO (N : IceN) (B : Brk) (st : Int) : Fin2 := if e : ∃ F, FinOf N B st F then e.choose else []
theorem nextO_eq {N : IceN} {B : Brk} {h st : Int} {o : Option Int} (a : Ans N B h st o) : nextO N B h st = o := by
  unfold nextO
  rw [dif_pos ⟨o, a⟩]
  exact Ans.uniq (Exists.choose_spec (⟨o, a⟩ : ∃ o, Ans N B h st o)) a
theorem lastO_eq {N : IceN} {B : Brk} {h st : Int} {o : Option Int} (a : AnsL N B h st o) : lastO N B h st = o := by
  unfold lastO
  rw [dif_pos ⟨o, a⟩]
  exact AnsL.uniq (Exists.choose_spec (⟨o, a⟩ : ∃ o, AnsL N B h st o)) a
theorem finO_eq {N : IceN} {B : Brk} {st : Int} {F : Fin2} (a : FinOf N B st F) : finO N B st = F := by
  unfold finO
  rw [dif_pos ⟨F, a⟩]
  exact FinOf.uniq (Exists.choose_spec (⟨F, a⟩ : ∃ F, FinOf N B st F)) a
open Classical in
noncomputable def rowsO (N : IceN) (B : Brk) : Pcs := if ∃ c r, B = (N.b, c) :: r then pieces N B else (pieces N B).drop 1
noncomputable def allH (N : IceN) (B : Brk) (ss : List Int) (h : Int) : List PyData := [.int (iceAt N B h).2, .int (iceAt N B h).1] ++ ss.map fun st => .tuple [optD (nextO N B h st), optD (lastO N B h st)]
noncomputable def allD (N : IceN) (B : Brk) (ss hs : List Int) : List PyData := [.list (B.map pd2), .list ((rowsO N B).map pd3)] ++ (ss.map fun st => segD (finO N B st)) ++ hs.flatMap (allH N B ss)
theorem allH_len (N : IceN) (B : Brk) (ss : List Int) (h : Int) : (allH N B ss h).length = 2 + ss.length := by unfold allH; simp; omega
theorem allHs_len (N : IceN) (B : Brk) (ss : List Int) : ∀ hs : List Int, (hs.flatMap (allH N B ss)).length = hs.length * (2 + ss.length)
  | [] => by simp
  | h :: r => by rw [List.flatMap_cons, List.length_append, allH_len, allHs_len N B ss r, List.length_cons, Nat.add_mul]; omega
theorem allD_len (N : IceN) (B : Brk) (ss hs : List Int) : (allD N B ss hs).length = 2 + ss.length + hs.length * (2 + ss.length) := by
  unfold allD
  rw [List.length_append, List.length_append, allHs_len]; simp
/-! a heap without one of its things -/
def hide (r : Addr) (H : Hp) : Hp := fun a => if a = r then none else H a
theorem hide_same {r : Addr} {H : Hp} : Same (hide r H) H := fun a o h => by
  unfold hide at h
  by_cases e : a = r
  · rw [if_pos e] at h; cases h
  · rw [if_neg e] at h; exact h
theorem hide_mono {r : Addr} {H H' : Hp} (s : Same H H') : Same (hide r H) (hide r H') := fun a o h => by
  unfold hide at *
  by_cases e : a = r
  · rw [if_pos e] at h; cases h
  · rw [if_neg e] at h ⊢; exact s a o h
theorem hide_upd {r : Addr} {H : Hp} {o : HO} : hide r (upd H r o) = hide r H := by
  funext a
  unfold hide
  by_cases e : a = r
  · rw [if_pos e, if_pos e]
  · rw [if_neg e, if_neg e, upd_ne e]
theorem hide_at {r a : Addr} {H : Hp} {o : HO} (n : a ≠ r) (h : H a = some o) : hide r H a = some o := by
  unfold hide; rw [if_neg n]; exact h
theorem Sm.same {K : PySem.W.Frag} {H H' : Hp} (s : Same H H') {k L : Nat} {v : V} {d : PyData} (h : Sm K H k L v d) : Sm K H' k L v d := ⟨Dp.same s d v h.dp, h.sh, h.de, h.ln⟩
theorem SmAll.same {K : PySem.W.Frag} {H H' : Hp} (s : Same H H') {k L : Nat} {vs : List V} {ds : List PyData} (h : SmAll K H k L vs ds) : SmAll K H' k L vs ds := by
  induction h with
  | nil => exact .nil
  | cons h _ ih => exact .cons (h.same s) ih
theorem SmAll.app {K : PySem.W.Frag} {H : Hp} {k L : Nat} {vs ws : List V} {ds es : List PyData} (h : SmAll K H k L vs ds) (g : SmAll K H k L ws es) : SmAll K H k L (vs ++ ws) (ds ++ es) := by
  induction h with
  | nil => exact g
  | cons h _ ih => exact .cons h ih
theorem SmAll.len {K : PySem.W.Frag} {H : Hp} {k L : Nat} {vs : List V} {ds : List PyData} (h : SmAll K H k L vs ds) : vs.length = ds.length := by
  induction h with
  | nil => rfl
  | cons _ _ ih => rw [List.length_cons, List.length_cons, ih]
theorem Ps.opt {o : Option Int} (b : ∀ i, o = some i → i.natAbs < 10 ^ 60) : Ps (valE o) (optD o) := by
  cases o with
  | none => exact .non
  | some i => exact .int (b i rfl)
theorem SegAt.sm {K : PySem.W.Frag} {H : Hp} : ∀ {bs : List Addr} {F : Fin2}, SegAt H bs F → (∀ z ∈ F, z.1.natAbs < 10 ^ 60 ∧ ∀ i, z.2 = some i → i.natAbs < 10 ^ 60) → SmAll K H 1 2000 (rf bs) (F.map pdF)
  | [], [], _, _ => .nil
  | [], _ :: _, p, _ => absurd p.1 (by simp)
  | _ :: _, [], p, _ => absurd p.1 (by simp)
  | a :: r, z :: q, p, b => .cons ((Sm.tup (k := 0) (p.2 0 a z rfl rfl) (.cons (Ps.sm (.int (b z (by simp)).1)) (.cons (Ps.sm (Ps.opt (b z (by simp)).2)) .nil))).mono (Nat.le_refl _) (by simp)) (SegAt.sm ⟨by have := p.1; simpa using this, fun i b y h1 h2 => p.2 (i + 1) b y h1 h2⟩ (fun y hy => b y (by simp [hy])))
theorem FinOK.bnds {N : IceN} {B : Brk} {st : Int} {F : Fin2} (ok : N.ok) (f : FinOK N B st F) : ∀ z ∈ F, z.1.natAbs < 10 ^ 60 ∧ ∀ i, z.2 = some i → i.natAbs < 10 ^ 60 := fun z hz => by
  have p60 : (10 : Nat) ^ 60 = 1000000000000000000000000000000000000000000000000000000000000 := by decide +kernel
  have b := f.bnd z hz
  have n0 := ok.b0
  exact ⟨by omega, fun i hi => by have := f.ends z hz i hi; omega⟩
theorem pieces_bnds {N : IceN} {B : Brk} (ok : N.ok) (good : BGood N.b B) : ∀ z ∈ pieces N B, z.1.natAbs < 10 ^ 60 ∧ z.2.1.natAbs < 10 ^ 60 ∧ z.2.2.natAbs < 10 ^ 60 := fun z hz => by
  have p60 : (10 : Nat) ^ 60 = 1000000000000000000000000000000000000000000000000000000000000 := by decide +kernel
  obtain ⟨zb, zh⟩ := piece_hour good hz
  have i := ice_bnd ok good zb
  have m6 := ok.m6; have n0 := ok.b0; have b6 := ok.b6
  rw [← piece_at ok good hz] at i
  have : z.1 ≤ 100000000 := by
    rcases zh with e | ⟨u, hu, e⟩
    · omega
    · have := good.ge u hu; omega
  exact ⟨by omega, by omega, by omega⟩

end Ice

set_option Elab.async false
set_option linter.all false
set_option maxRecDepth 100000
set_option maxHeartbeats 4000000
namespace Ice
open PySem PySem.Spec PyProof.Rows L2 TL
/-! side conditions, heaps, one step of a reading, and many -/
local macro_rules | `(tactic| walk_at "hp") => `(tactic| first | assumption | exact upd_same | exact New.at_ (by assumption) | (refine keepU ?_ (by assumption); walk_at "hp") | (refine New.app (by assumption) ?_; walk_at "hp") | (refine Same.app (by assumption) ?_; walk_at "hp") | (refine But.app (by assumption) (by assumption) ?_; walk_at "hp"))
local macro_rules | `(tactic| walk_at "sq") => `(tactic| first | assumption | exact SqL.lst (by walk_at "hp") | exact L2.Same.seq (New.same (by assumption)) (by assumption) | exact L2.Same.seq (by assumption) (by assumption))
local macro_rules | `(tactic| walk_at "len") => `(tactic| first | assumption | (simp only [List.length_cons, List.length_nil, List.length_append, List.length_map]; decide) | (refine Ice.sz_of ?_; simp only [List.length_cons, List.length_nil, List.length_append, List.length_map]; omega))
local macro_rules | `(tactic| walk_at "fresh") => `(tactic| (simp only [List.map_append, List.map_cons, List.map_nil, List.nil_append, List.cons_append]; decide +kernel))
local macro_rules | `(tactic| walk_at "sd") => `(tactic| first | assumption | (show _ ≠ _; omega) | exact Or.inl ⟨by omega, by omega⟩ | exact Or.inr ⟨by omega, by omega⟩ | exact ⟨by decide, by decide⟩ | exact ⟨by decide, by decide, by decide⟩ | exact ⟨by omega, by omega, by omega⟩)
/-! one step of a reading, and many -/
local macro_rules | `(tactic| walk_at "st") => `(tactic| first
  | with_reducible refine i_seq ?_
  | with_reducible refine i_if ?_
  | with_reducible refine i_next ?_
  | with_reducible refine i_ret ?_
  | with_reducible refine i_retN ?_
  | with_reducible refine i_drop ?_
  | with_reducible refine i_asg ?_
  | with_reducible refine i_gname ?_
  | with_reducible refine i_gsub ?_
  | ((with_reducible refine i_var (v := ?vv) ?hv ?_); (case hv => exact rfl))
  | with_reducible refine i_c ?_
  | with_reducible refine i_op ?_
  | with_reducible refine i_un ?_
  | with_reducible refine i_test ?_
  | with_reducible refine i_tB ?_
  | with_reducible refine i_and ?_
  | with_reducible refine i_or ?_
  | with_reducible refine i_not ?_
  | with_reducible refine i_andV ?_
  | with_reducible refine i_orV ?_
  | with_reducible refine i_notV ?_
  | with_reducible refine i_ifE ?_
  | with_reducible refine i_chain ?_
  | with_reducible refine i_bl ?_
  | with_reducible refine i_nil ?_
  | with_reducible refine i_cons ?_
  | with_reducible refine i_call ?_
  | with_reducible refine i_cb ?_
  | with_reducible refine i_rI0 ?_
  | with_reducible refine i_rU ?_
  | ((with_reducible refine i_rEq ?hs ?_); (case hs => exact rfl))
  | ((with_reducible refine i_rNe ?hs ?_); (case hs => exact rfl))
  | ((with_reducible refine i_rI ?hc ?_); (case hc => walk_at "sd"))
  | ((with_reducible refine i_ixL (xs := ?xs) (v := ?vv) ?hS ?he ?_); (case hS => walk_at "sq"); (case he => exact rfl))
  | ((with_reducible refine i_setL (xs := ?xs) (j := ?jj) ?hS ?he ?_); (case hS => walk_at "hp"); (case he => exact rfl))
  | with_reducible refine i_tup ?_
  | with_reducible refine i_lst ?_
  | with_reducible refine i_bm ?_
  | with_reducible refine i_bm0 ?_
  | with_reducible refine i_m1 ?_
  | with_reducible refine i_sl ?_
  | with_reducible refine i_nopart ?_
  | with_reducible refine i_part ?_
  | with_reducible refine i_int ?_
  | with_reducible refine i_str ?_
  | with_reducible refine i_for ?_
  | with_reducible refine i_yes ?_
  | ((with_reducible refine i_lenL (xs := ?xs) ?hS ?_); (case hS => walk_at "sq"))
  | ((with_reducible refine i_room ?hz ?_); (case hz => walk_at "len"))
  | with_reducible refine i_leT ?_
  | with_reducible refine i_notInS ?_
  | with_reducible refine i_inS ?_
  | with_reducible refine i_find ?_
  | with_reducible refine i_isB ?_
  | with_reducible refine i_max2 ?_
  | with_reducible refine i_min2 ?_
  | with_reducible exact trivial
  | with_reducible refine iteT ?_
  | with_reducible refine iteF ?_
  | with_reducible refine i_isstr ?_
  | with_reducible refine i_lc ?_
  | ((with_reducible refine i_cat (xs := ?xs) (zs := ?zs) ?ha ?hb ?hz ?_); (case ha => walk_at "hp"); (case hb => walk_at "hp"); (case hz => walk_at "len"))
  | ((with_reducible refine i_tyL (xs := ?xs) ?ha ?_); (case ha => walk_at "hp"))
  | with_reducible refine i_list ?_
  | with_reducible refine i_disp ?_
  | with_reducible refine i_pairs0 ?_
  | with_reducible refine i_pairs ?_
  | with_reducible refine i_newK ?_
  | with_reducible refine i_gcons ?_
  | with_reducible refine i_gnil ?_
  | with_reducible refine i_revL ?_
  | with_reducible refine i_rng1 ?_
  | ((with_reducible refine i_wipe ?hw ?_); (case hw => exact rfl))
  | with_reducible refine iteNT ?_
  | with_reducible refine iteNF ?_)
local macro_rules | `(tactic| walk_at "sx") => `(tactic| first
  | walk_at "st"
  | with_reducible refine i_kinit ?_
  | with_reducible refine i_ost ?_
  | with_reducible refine i_mkO ?_
  | with_reducible refine i_callE ?_
  | with_reducible refine i_makeE ?_
  | with_reducible refine i_xf ?_
  | with_reducible refine i_sfld ?_
  | with_reducible refine i_fld ?_
  | ((with_reducible refine i_ixT (xs := ?xs) (v := ?vv) ?hS ?he ?_); (case hS => exact SqT.tup (by walk_at "hp")); (case he => exact rfl))
  | with_reducible refine i_intB ?_
  | with_reducible refine i_runS ?_
  | with_reducible refine i_runN ?_
  | ((with_reducible refine i_xf1 (fs := ?ff) (v := ?vv) ?hx ?hl ?_); (case hx => walk_at "hp"); (case hl => exact rfl))
  | with_reducible refine i_methE ?_
  | with_reducible refine i_meth ?_
  | with_reducible refine i_make ?_
  | ((with_reducible refine i_obj (dx := ?dd) (fs := ?ff) ?hx ?hl ?_); (case hx => walk_at "hp"); (case hl => exact rfl))
  | ((with_reducible refine i_fld1 (C := ?CC) (dx := ?dd) (fs := ?ff) (v := ?vv) ?hx ?cl ?na ?hl ?_); (case hx => walk_at "hp"); (case cl => assumption); (case na => assumption); (case hl => exact rfl)))
local macro_rules | `(tactic| walk_at "sy") => `(tactic| first
  | walk_at "sx"
  | with_reducible refine i_dget ?_
  | with_reducible refine i_dget2 ?_
  | with_reducible refine i_dput ?_
  | with_reducible refine i_din ?_
  | ((with_reducible refine i_aug (x := ?vv) ?hx ?_); (case hx => exact rfl)))
local macro_rules | `(tactic| walk_at "rd") => `(tactic| repeat (walk_at "sy"))

section
variable {P : Program} {w : World} {K : PySem.W.Frag} {mg : Str → Option Value} {base : Heap}
def spAll (T : Top K mg) : Sp := fun vs H Q _ => ∃ (x sl hl : Addr) (N : IceN) (B : Brk) (ss hs : List Int), vs = [.ref x, .ref sl, .ref hl] ∧ IceA T H x N B ∧ N.ok ∧ BGood N.b B ∧ B.length ≤ 300 ∧ H sl = some (.lst (ss.map V.int)) ∧ (∀ k ∈ ss, 0 ≤ k ∧ k ≤ 1000000000) ∧ H hl = some (.lst (hs.map V.int)) ∧ (∀ k ∈ hs, N.b ≤ k ∧ k ≤ 1000000000) ∧ ss.length ≤ 4 ∧ hs.length ≤ 20 ∧ (2002 * (B.length + 1) + 3 + 2) * (2 + ss.length + hs.length * (2 + ss.length)) + 3 ≤ sizeLine ∧ ∀ H', Same H H' → Q (.str (PyData.list (allD N B ss hs)).shown) H'
theorem ok_all (T : Top K mg) : FnG P w K mg base CX0 7 T.a_all T.d_all ["_law_ice_here", "_law_strengths", "_law_hours"] (spAll T) := by
  have G_Ice_breakings := ok_Ice_breakings (P := P) (w := w) (base := base) T
  have G_Ice_rows := ok_Ice_rows (P := P) (w := w) (base := base) T
  have G_Ice_stretches := ok_Ice_stretches (P := P) (w := w) (base := base) T
  have G_Ice_thick := ok_Ice_thick (P := P) (w := w) (base := base) T
  have G_Ice_ahead := ok_Ice_ahead (P := P) (w := w) (base := base) T
  have G_Ice_next_hour := ok_Ice_next_hour (P := P) (w := w) (base := base) T
  have G_Ice_last_hour := ok_Ice_last_hour (P := P) (w := w) (base := base) T
  refine okG T.F_all sc_all (fun vs H Q E h => ?_) (fun cdv A outer s H vs Q E hr hgd h => ?_)
  · obtain ⟨x, sl, hl, N, B, ss, hs, rfl, _⟩ := h
    rfl
  · obtain ⟨x, sl, hl, N, B, ss, hs, rfl, ia, ok, good, l3, ks, bs, kh, bh, ls, lh, lim, q⟩ := h
    have hu64 := un64 hr
    have hu110 := un110 hr
    have p60 : (10 : Nat) ^ 60 = 1000000000000000000000000000000000000000000000000000000000000 := by decide +kernel
    have n0 := ok.b0; have b6 := ok.b6; have m6 := ok.m6
    obtain ⟨dx, _, _, _, _, _, hx, _⟩ := id ia
    refine ⟨_, (pss_cons (ps_set (i := 3) sc_all.nd rfl (by first | exact Or.inl rfl | exact Or.inr rfl) (pe_lst (pa_cons (g_meth0 (pv 0) T.cl_Ice T.me_Ice_breakings G_Ice_breakings (hr.mono (by decide)) hgd T.b_Ice_breakings .nil pass0) (pa_cons (g_meth0 (pv 0) T.cl_Ice T.me_Ice_rows G_Ice_rows (hr.mono (by decide)) hgd T.b_Ice_rows .nil pass0) pa_nil))))
      (pss_cons (ps_expr (pe_bm PySem.F.plainAttrs_list PySem.F.slot_list_extend PySem.F.type_list_extend mt_extend (pv 3) (pa_cons (pe_lc (own := [("_law_strength", 5)]) (g := gName 5) rfl sc_all.nd (pi_list (pv 1)) (blkOk_by (own := [("_law_strength", 5)]) (N := ["_law_ice_here", "_law_strengths", "_law_hours", "_law_found", "_law_hour_here", "_law_strength", "_law_one"]) (sc := defScope s_all) (by decide +kernel)) (fun _ _ _ _ _ => (pg_name (i := 5) sc_all.nd rfl (by first | exact Or.inl rfl | exact Or.inr rfl))) (fun _ _ _ _ _ => pts_nil) (fun _ _ _ _ _ => (g_meth (pv 0) T.cl_Ice T.me_Ice_stretches G_Ice_stretches (hr.mono (by decide)) hgd T.b_Ice_stretches .nil pass0 (pa_cons (pv 5) pa_nil)))) pa_nil)))
      (pss_cons (ps_for PassesOwn.never rfl (pi_list (pv 2)) (pg_name (i := 4) sc_all.nd rfl (by first | exact Or.inl rfl | exact Or.inr rfl))
        (pss_cons (ps_expr (pe_bm PySem.F.plainAttrs_list PySem.F.slot_list_extend PySem.F.type_list_extend mt_extend (pv 3) (pa_cons (pe_lst (pa_cons (g_meth (pv 0) T.cl_Ice T.me_Ice_thick G_Ice_thick (hr.mono (by decide)) hgd T.b_Ice_thick .nil pass0 (pa_cons (pv 4) pa_nil)) (pa_cons (g_meth (pv 0) T.cl_Ice T.me_Ice_ahead G_Ice_ahead (hr.mono (by decide)) hgd T.b_Ice_ahead .nil pass0 (pa_cons (pv 4) pa_nil)) pa_nil))) pa_nil)))
      (pss_one (ps_expr (pe_bm PySem.F.plainAttrs_list PySem.F.slot_list_extend PySem.F.type_list_extend mt_extend (pv 3) (pa_cons (pe_lc (own := [("_law_one", 6)]) (g := gName 6) rfl sc_all.nd (pi_list (pv 1)) (blkOk_by (own := [("_law_one", 6)]) (N := ["_law_ice_here", "_law_strengths", "_law_hours", "_law_found", "_law_hour_here", "_law_strength", "_law_one"]) (sc := defScope s_all) (by decide +kernel)) (fun _ _ _ _ _ => (pg_name (i := 6) sc_all.nd rfl (by first | exact Or.inl rfl | exact Or.inr rfl))) (fun _ _ _ _ _ => pts_nil) (fun _ _ _ _ _ => (pe_tup (pa_cons (g_meth (pv 0) T.cl_Ice T.me_Ice_next_hour G_Ice_next_hour (hr.mono (by decide)) hgd T.b_Ice_next_hour .nil pass0 (pa_cons (pv 4) (pa_cons (pv 6) pa_nil))) (pa_cons (g_meth (pv 0) T.cl_Ice T.me_Ice_last_hour G_Ice_last_hour (hr.mono (by decide)) hgd T.b_Ice_last_hour .nil pass0 (pa_cons (pv 4) (pa_cons (pv 6) pa_nil))) pa_nil))))) pa_nil))))))
      (pss_one (ps_ret (pe_callB (c_repr hgd hu110) (by rfl) T.n_repr (by decide +kernel) (pa_cons (pv 3) pa_nil))))))), ?_⟩
    walk_at "rd"
    refine ⟨x, N, B, rfl, ia, fun r1 cs J1 N1 p1 => ?_⟩
    have i1 := ia.same N1.same
    walk_at "rd"
    refine ⟨x, N, B, rfl, i1, l3, fun r2 ds J2 N2 t1 t2 => ?_⟩
    have tr : TripsAt J2 ds (rowsO N B) := by
      unfold rowsO
      split
      · rename_i h; exact t1 h
      · rename_i h; exact t2 h
    clear t1 t2
    walk_at "rd"
    (intro r hr; generalize er : upd _ r _ = J3; have N3 := New.of er hr; clear er hr)
    have L0 : 0 < B.length + 1 := by omega
    generalize hL : 2002 * (B.length + 1) + 3 = L at lim
    have k1 := N3.app (N2.app N1.at_)
    have k2 := N3.app N2.at_
    have n1 : r1 ≠ r := ne_of_none (N2.app N1.at_) N3.free
    have n2 : r2 ≠ r := ne_of_none N2.at_ N3.free
    have pB3 : PairsAt (hide r J3) cs B := p1.keep (fun a xs h => hide_at (ne_of_none (N2.app h) N3.free) (N3.app (N2.app h)))
    have tR3 : TripsAt (hide r J3) ds (rowsO N B) := tr.keep (fun a xs h => hide_at (ne_of_none h N3.free) (N3.app h))
    have lR : (rowsO N B).length ≤ B.length + 1 := by
      have lP := pieces_len (N := N) (B := B)
      unfold rowsO
      split
      · omega
      · rw [List.length_drop]; omega
    have mR : ∀ z ∈ rowsO N B, z ∈ pieces N B := by
      intro z hz
      unfold rowsO at hz
      split at hz
      · exact hz
      · exact List.mem_of_mem_drop hz
    have S0 : SmAll K (hide r J3) 2 L [.ref r1, .ref r2] [.list (B.map pd2), .list ((rowsO N B).map pd3)] := by
      refine .cons ?_ (.cons ?_ .nil)
      · refine (Sm.lst (k := 1) (L := 2000) (hide_at n1 k1) (pB3.sm (fun z hz => ?_))).mono (Nat.le_refl _) ?_
        · have := good.ge z hz
          constructor <;> omega
        · have : (rf cs).length = B.length := by simp [rf, p1.1]
          omega
      · refine (Sm.lst (k := 1) (L := 2000) (hide_at n2 k2) (tR3.sm (fun z hz => pieces_bnds ok good z (mR z hz)))).mono (Nat.le_refl _) ?_
        have : (rf ds).length = (rowsO N B).length := by simp [rf, tr.1]
        omega
    walk_at "rd"
    have s3 : Same H J3 := N1.same.trans (N2.same.trans N3.same)
    have i3 := ia.same s3
    have ks3 := s3 _ _ ks
    have hx3 := s3 _ _ hx
    refine ⟨sl, rfl, ⟨_, SqL.lst ks3⟩, fun D hD => ?_⟩
    have rD : r ≠ D := ne_of_none N3.at_ hD
    refine lc_list (K := K) (a := sl) (xs := ss.map V.int) (fun j H' => Same J3 H' ∧ ∃ vs, H' D = some (.lst vs) ∧ SmAll K (hide r (hide D H')) 2 L vs ((ss.take j).map fun st => segD (finO N B st))) ⟨Same.new _ hD, [], upd_same, .nil⟩ (fun j H' _ h => SqL.lst (h.1 _ _ ks3)) ?_ ?_
    · rintro j v H4 hj ⟨s4, vs, kD, S4⟩
      obtain ⟨st, hst, rfl⟩ : ∃ k, ss[j]? = some k ∧ v = .int k := by
        rw [List.getElem?_map] at hj
        cases e : ss[j]? with
        | none => rw [e] at hj; cases hj
        | some k => rw [e] at hj; exact ⟨k, rfl, (Option.some.inj hj).symm⟩
      have b1 := bs st (List.mem_of_getElem? hst)
      have hr4 := s4 _ _ N3.at_
      have lv := S4.len
      rw [List.length_map, List.length_take] at lv
      walk_at "rd"
      refine str_e (i3.same s4) ok good l3 b1.1 b1.2 (fun F a rs J5 s5 fa ka la sg fo => ?_)
      have f := fin_of ok good b1.2 fo
      have aD : a ≠ D := (ne_of_none kD fa).symm
      have ar : a ≠ r := (ne_of_none hr4 fa).symm
      have kD5 := s5 _ _ kD
      have hr5 := s5 _ _ hr4
      refine ⟨vs, kD5, small1000 (by omega), Same.upd (s4.trans s5) hD, vs ++ [.ref a], upd_same, ?_⟩
      rw [hide_upd, take_succ_of hst, List.map_append]
      refine (S4.same (hide_mono (hide_mono s5))).app (.cons ?_ .nil)
      have sg5 : SegAt (hide r (hide D J5)) rs F := sg.keep (fun a xs h => hide_at (ne_of h hr5 nofun) (hide_at (ne_of h kD5 nofun) h))
      show Sm K _ 2 L (.ref a) (segD (finO N B st))
      rw [finO_eq fo]
      refine (Sm.lst (k := 1) (L := 2000) (hide_at ar (hide_at aD ka)) (sg5.sm (f.bnds ok))).mono (Nat.le_refl _) ?_
      have : (rf rs).length = rs.length := by simp [rf]
      omega
    · rintro H4 ⟨s4, vs, kD, S4⟩
      rw [List.length_map, List.take_length] at S4
      have hr4 := s4 _ _ N3.at_
      have lv := S4.len
      rw [List.length_map] at lv
      walk_at "rd"
      refine ⟨r, D, _, vs, rfl, rfl, hr4, kD, small_le (by simp; omega), ?_⟩
      have S5 : SmAll K (hide r (upd H4 r (.lst ([.ref r1, .ref r2] ++ vs)))) 2 L ([.ref r1, .ref r2] ++ vs) ([.list (B.map pd2), .list ((rowsO N B).map pd3)] ++ ss.map fun st => segD (finO N B st)) := by
        rw [hide_upd]
        exact (S0.same (hide_mono s4)).app (S4.same (hide_mono hide_same))
      have r0 : H r = none := by
        cases e : H r with
        | none => rfl
        | some o => have := N2.same _ _ (N1.same _ _ e); rw [N3.free] at this; cases this
      have sH : Same H (upd H4 r (.lst ([.ref r1, .ref r2] ++ vs))) := Same.upd (s3.trans s4) r0
      have kr0 : upd H4 r (.lst ([.ref r1, .ref r2] ++ vs)) r = some (.lst ([.ref r1, .ref r2] ++ vs)) := upd_same
      generalize upd H4 r (.lst ([.ref r1, .ref r2] ++ vs)) = J6 at sH S5 kr0
      generalize [.ref r1, .ref r2] ++ vs = vs0 at S5 kr0
      have S6 : SmAll K (hide r J6) 2 L vs0 ([.list (B.map pd2), .list ((rowsO N B).map pd3)] ++ (ss.map fun st => segD (finO N B st)) ++ (hs.take 0).flatMap (allH N B ss)) := by simpa using S5
      have kh6 := sH _ _ kh
      walk_at "rd"
      clear S5 S4 kD lv hr4 S0 pB3 tR3 k1 k2 n1 n2 p1 tr i1
      refine ⟨hl, rfl, ⟨_, SqL.lst kh6⟩, ?_⟩
      refine for_list (K := K) (a := hl) (xs := hs.map V.int) (fun i σ H' => Same H H' ∧ (∃ vs, H' r = some (.lst vs) ∧ SmAll K (hide r H') 2 L vs ([.list (B.map pd2), .list ((rowsO N B).map pd3)] ++ (ss.map fun st => segD (finO N B st)) ++ (hs.take i).flatMap (allH N B ss))) ∧ ∃ z4 z5 z6, σ = [some (.ref x), some (.ref sl), some (.ref hl), some (.ref r), z4, z5, z6])
        ⟨sH, ⟨vs0, kr0, S6⟩, _, _, _, rfl⟩ (fun i σ H' _ h => SqL.lst (h.1 _ _ kh)) ?_ ?_
      · rintro i v σ J hi ⟨sJ, ⟨ws, kr, Sw⟩, z4, z5, z6, rfl⟩
        obtain ⟨h, hh, rfl⟩ : ∃ k, hs[i]? = some k ∧ v = .int k := by
          rw [List.getElem?_map] at hi
          cases e : hs[i]? with
          | none => rw [e] at hi; cases hi
          | some k => rw [e] at hi; exact ⟨k, rfl, (Option.some.inj hi).symm⟩
        have ih : i < hs.length := (List.getElem?_eq_some_iff.mp hh).1
        have bk := bh h (List.mem_of_getElem? hh)
        have lw := Sw.len
        rw [List.length_append, List.length_append, allHs_len, List.length_map, List.length_take, Nat.min_eq_left (by omega)] at lw
        have lw2 : i * (2 + ss.length) ≤ 20 * 6 := Nat.mul_le_mul (by omega) (by omega)
        have lw3 : ws.length ≤ 200 := by rw [lw]; simp; omega
        have hx1 := sJ _ _ hx
        have iJ := ia.same sJ
        have bi := ice_bnd ok good bk.1
        walk_at "rd"
        refine thick_e iJ ok good l3 bk.1 bk.2 ?_
        walk_at "rd"
        refine ahead_e iJ ok good l3 bk.1 bk.2 ?_
        walk_at "rd"
        (intro t ht; generalize et : upd _ t _ = J7; have N7 := New.of et ht; clear et ht)
        have kr7 := N7.app kr
        walk_at "rd"
        refine ⟨r, t, ws, _, rfl, rfl, kr7, N7.at_, small_le (by simp; omega), ?_⟩
        have S8 : SmAll K (hide r (upd J7 r (.lst (ws ++ [.int (iceAt N B h).2, .int (iceAt N B h).1])))) 2 L (ws ++ [.int (iceAt N B h).2, .int (iceAt N B h).1]) ([.list (B.map pd2), .list ((rowsO N B).map pd3)] ++ (ss.map fun st => segD (finO N B st)) ++ (hs.take i).flatMap (allH N B ss) ++ [.int (iceAt N B h).2, .int (iceAt N B h).1]) := by
          rw [hide_upd]
          refine (Sw.same (hide_mono N7.same)).app (.cons ((Ps.sm (.int ?_)).mono (Nat.le_refl _) (by omega)) (.cons ((Ps.sm (.int ?_)).mono (Nat.le_refl _) (by omega)) .nil))
          · omega
          · omega
        have sH8 : Same H (upd J7 r (.lst (ws ++ [.int (iceAt N B h).2, .int (iceAt N B h).1]))) := Same.upd (sJ.trans N7.same) r0
        have kr8 : upd J7 r (.lst (ws ++ [.int (iceAt N B h).2, .int (iceAt N B h).1])) r = _ := upd_same
        generalize upd J7 r (.lst (ws ++ [.int (iceAt N B h).2, .int (iceAt N B h).1])) = J8 at sH8 S8 kr8
        have ks8 := sH8 _ _ ks
        have i8 := ia.same sH8
        walk_at "rd"
        refine ⟨sl, rfl, ⟨_, SqL.lst ks8⟩, fun D hD => ?_⟩
        have rD : r ≠ D := ne_of_none kr8 hD
        refine lc_list (K := K) (a := sl) (xs := ss.map V.int) (fun j H' => Same J8 H' ∧ ∃ vs, H' D = some (.lst vs) ∧ SmAll K (hide r (hide D H')) 2 L vs ((ss.take j).map fun st => .tuple [optD (nextO N B h st), optD (lastO N B h st)])) ⟨Same.new _ hD, [], upd_same, .nil⟩ (fun j H' _ h => SqL.lst (h.1 _ _ ks8)) ?_ ?_
        · rintro j v H4 hj ⟨s4, vs, kD, S4⟩
          obtain ⟨st, hst, rfl⟩ : ∃ k, ss[j]? = some k ∧ v = .int k := by
            rw [List.getElem?_map] at hj
            cases e : ss[j]? with
            | none => rw [e] at hj; cases hj
            | some k => rw [e] at hj; exact ⟨k, rfl, (Option.some.inj hj).symm⟩
          have b1 := bs st (List.mem_of_getElem? hst)
          have lv := S4.len
          rw [List.length_map, List.length_take] at lv
          have hx4 := s4 _ _ (sH8 _ _ hx)
          walk_at "rd"
          refine next_e (i8.same s4) ok good l3 bk.1 bk.2 b1.1 b1.2 (fun o J5 s5 an bo => ?_)
          have hx5 := s5 _ _ hx4
          walk_at "rd"
          refine last_l (i8.same (s4.trans s5)) ok good l3 bk.1 bk.2 b1.1 b1.2 (fun p J9 s9 al => ?_)
          walk_at "rd"
          (intro a ha; generalize ea : upd _ a _ = J10; have N10 := New.of ea ha; clear ea ha)
          have s410 : Same H4 J10 := s5.trans (s9.trans N10.same)
          have kD10 := s410 _ _ kD
          have kr10 := s410 _ _ (s4 _ _ kr8)
          have aD : a ≠ D := ne_of N10.at_ kD10 nofun
          have ar : a ≠ r := ne_of N10.at_ kr10 nofun
          refine ⟨vs, kD10, small1000 (by omega), Same.upd (s4.trans s410) hD, vs ++ [.ref a], upd_same, ?_⟩
          rw [hide_upd, take_succ_of hst, List.map_append]
          refine (S4.same (hide_mono (hide_mono s410))).app (.cons ?_ .nil)
          show Sm K _ 2 L (.ref a) (.tuple [optD (nextO N B h st), optD (lastO N B h st)])
          rw [nextO_eq an, lastO_eq al]
          refine (Sm.tup (k := 0) (L := 650) (hide_at ar (hide_at aD N10.at_)) (.cons (Ps.sm (Ps.opt fun i hi => ?_)) (.cons (Ps.sm (Ps.opt fun i hi => ?_)) .nil))).mono (by omega) (by simp; omega)
          · have := bo i hi
            rw [hi] at an
            have := an.1
            omega
          · rw [hi] at al
            have := al.1; have := al.2.1
            omega
        · rintro H4 ⟨s4, vs, kD, S4⟩
          rw [List.length_map, List.take_length] at S4
          have hr4 := s4 _ _ kr8
          have lv := S4.len
          rw [List.length_map] at lv
          walk_at "rd"
          refine ⟨r, D, _, vs, rfl, rfl, hr4, kD, small_le (by simp; omega), ?_⟩
          refine ⟨Same.upd (sH8.trans s4) r0, ⟨_, upd_same, ?_⟩, _, _, _, rfl⟩
          rw [hide_upd, take_succ_of hh, List.flatMap_append, ← List.append_assoc]
          have := (S8.same (hide_mono s4)).app (S4.same (hide_mono hide_same))
          rw [List.append_assoc (_ ++ _)] at this
          simpa [allH] using this
      · rintro σ J ⟨sJ, ⟨ws, kr, Sw⟩, z4, z5, z6, rfl⟩
        rw [List.length_map, List.take_length] at Sw
        walk_at "rd"
        have e : [.list (B.map pd2), .list ((rowsO N B).map pd3)] ++ (ss.map fun st => segD (finO N B st)) ++ hs.flatMap (allH N B ss) = allD N B ss hs := rfl
        rw [e] at Sw
        have lw := Sw.len
        rw [allD_len] at lw
        have fin := Sm.lst kr (Sw.same hide_same)
        refine ⟨.ref r, _, rfl, fin.rp (by omega) ?_, ?_⟩
        · rw [lw, ← Nat.add_mul]; exact lim
        · exact q J sJ
end

end Ice

set_option Elab.async false
set_option linter.all false
set_option maxRecDepth 100000
set_option maxHeartbeats 4000000
namespace Ice
open PySem PySem.Spec PyProof.Rows L2 TL
/-! side conditions, heaps, one step of a reading, and many -/
local macro_rules | `(tactic| walk_at "hp") => `(tactic| first | assumption | exact upd_same | exact New.at_ (by assumption) | (refine keepU ?_ (by assumption); walk_at "hp") | (refine New.app (by assumption) ?_; walk_at "hp") | (refine Same.app (by assumption) ?_; walk_at "hp") | (refine But.app (by assumption) (by assumption) ?_; walk_at "hp"))
local macro_rules | `(tactic| walk_at "sq") => `(tactic| first | assumption | exact SqL.lst (by walk_at "hp") | exact L2.Same.seq (New.same (by assumption)) (by assumption) | exact L2.Same.seq (by assumption) (by assumption))
local macro_rules | `(tactic| walk_at "len") => `(tactic| first | assumption | (simp only [List.length_cons, List.length_nil, List.length_append, List.length_map]; decide) | (refine Ice.sz_of ?_; simp only [List.length_cons, List.length_nil, List.length_append, List.length_map]; omega))
local macro_rules | `(tactic| walk_at "fresh") => `(tactic| (simp only [List.map_append, List.map_cons, List.map_nil, List.nil_append, List.cons_append]; decide +kernel))
local macro_rules | `(tactic| walk_at "sd") => `(tactic| first | assumption | (show _ ≠ _; omega) | exact Or.inl ⟨by omega, by omega⟩ | exact Or.inr ⟨by omega, by omega⟩ | exact ⟨by decide, by decide⟩ | exact ⟨by decide, by decide, by decide⟩ | exact ⟨by omega, by omega, by omega⟩)
/-! one step of a reading, and many -/
local macro_rules | `(tactic| walk_at "st") => `(tactic| first
  | with_reducible refine i_seq ?_
  | with_reducible refine i_if ?_
  | with_reducible refine i_next ?_
  | with_reducible refine i_ret ?_
  | with_reducible refine i_retN ?_
  | with_reducible refine i_drop ?_
  | with_reducible refine i_asg ?_
  | with_reducible refine i_gname ?_
  | with_reducible refine i_gsub ?_
  | ((with_reducible refine i_var (v := ?vv) ?hv ?_); (case hv => exact rfl))
  | with_reducible refine i_c ?_
  | with_reducible refine i_op ?_
  | with_reducible refine i_un ?_
  | with_reducible refine i_test ?_
  | with_reducible refine i_tB ?_
  | with_reducible refine i_and ?_
  | with_reducible refine i_or ?_
  | with_reducible refine i_not ?_
  | with_reducible refine i_andV ?_
  | with_reducible refine i_orV ?_
  | with_reducible refine i_notV ?_
  | with_reducible refine i_ifE ?_
  | with_reducible refine i_chain ?_
  | with_reducible refine i_bl ?_
  | with_reducible refine i_nil ?_
  | with_reducible refine i_cons ?_
  | with_reducible refine i_call ?_
  | with_reducible refine i_cb ?_
  | with_reducible refine i_rI0 ?_
  | with_reducible refine i_rU ?_
  | ((with_reducible refine i_rEq ?hs ?_); (case hs => exact rfl))
  | ((with_reducible refine i_rNe ?hs ?_); (case hs => exact rfl))
  | ((with_reducible refine i_rI ?hc ?_); (case hc => walk_at "sd"))
  | ((with_reducible refine i_ixL (xs := ?xs) (v := ?vv) ?hS ?he ?_); (case hS => walk_at "sq"); (case he => exact rfl))
  | ((with_reducible refine i_setL (xs := ?xs) (j := ?jj) ?hS ?he ?_); (case hS => walk_at "hp"); (case he => exact rfl))
  | with_reducible refine i_tup ?_
  | with_reducible refine i_lst ?_
  | with_reducible refine i_bm ?_
  | with_reducible refine i_bm0 ?_
  | with_reducible refine i_m1 ?_
  | with_reducible refine i_sl ?_
  | with_reducible refine i_nopart ?_
  | with_reducible refine i_part ?_
  | with_reducible refine i_int ?_
  | with_reducible refine i_str ?_
  | with_reducible refine i_for ?_
  | with_reducible refine i_yes ?_
  | ((with_reducible refine i_lenL (xs := ?xs) ?hS ?_); (case hS => walk_at "sq"))
  | ((with_reducible refine i_room ?hz ?_); (case hz => walk_at "len"))
  | with_reducible refine i_leT ?_
  | with_reducible refine i_notInS ?_
  | with_reducible refine i_inS ?_
  | with_reducible refine i_find ?_
  | with_reducible refine i_isB ?_
  | with_reducible refine i_max2 ?_
  | with_reducible refine i_min2 ?_
  | with_reducible exact trivial
  | with_reducible refine iteT ?_
  | with_reducible refine iteF ?_
  | with_reducible refine i_isstr ?_
  | with_reducible refine i_lc ?_
  | ((with_reducible refine i_cat (xs := ?xs) (zs := ?zs) ?ha ?hb ?hz ?_); (case ha => walk_at "hp"); (case hb => walk_at "hp"); (case hz => walk_at "len"))
  | ((with_reducible refine i_tyL (xs := ?xs) ?ha ?_); (case ha => walk_at "hp"))
  | with_reducible refine i_list ?_
  | with_reducible refine i_disp ?_
  | with_reducible refine i_pairs0 ?_
  | with_reducible refine i_pairs ?_
  | with_reducible refine i_newK ?_
  | with_reducible refine i_gcons ?_
  | with_reducible refine i_gnil ?_
  | with_reducible refine i_revL ?_
  | with_reducible refine i_rng1 ?_
  | ((with_reducible refine i_wipe ?hw ?_); (case hw => exact rfl))
  | with_reducible refine iteNT ?_
  | with_reducible refine iteNF ?_)
local macro_rules | `(tactic| walk_at "sx") => `(tactic| first
  | walk_at "st"
  | with_reducible refine i_kinit ?_
  | with_reducible refine i_ost ?_
  | with_reducible refine i_mkO ?_
  | with_reducible refine i_callE ?_
  | with_reducible refine i_makeE ?_
  | with_reducible refine i_xf ?_
  | with_reducible refine i_sfld ?_
  | with_reducible refine i_fld ?_
  | ((with_reducible refine i_ixT (xs := ?xs) (v := ?vv) ?hS ?he ?_); (case hS => exact SqT.tup (by walk_at "hp")); (case he => exact rfl))
  | with_reducible refine i_intB ?_
  | with_reducible refine i_runS ?_
  | with_reducible refine i_runN ?_
  | ((with_reducible refine i_xf1 (fs := ?ff) (v := ?vv) ?hx ?hl ?_); (case hx => walk_at "hp"); (case hl => exact rfl))
  | with_reducible refine i_methE ?_
  | with_reducible refine i_meth ?_
  | with_reducible refine i_make ?_
  | ((with_reducible refine i_obj (dx := ?dd) (fs := ?ff) ?hx ?hl ?_); (case hx => walk_at "hp"); (case hl => exact rfl))
  | ((with_reducible refine i_fld1 (C := ?CC) (dx := ?dd) (fs := ?ff) (v := ?vv) ?hx ?cl ?na ?hl ?_); (case hx => walk_at "hp"); (case cl => assumption); (case na => assumption); (case hl => exact rfl)))
local macro_rules | `(tactic| walk_at "sy") => `(tactic| first
  | walk_at "sx"
  | with_reducible refine i_dget ?_
  | with_reducible refine i_dget2 ?_
  | with_reducible refine i_dput ?_
  | with_reducible refine i_din ?_
  | ((with_reducible refine i_aug (x := ?vv) ?hx ?_); (case hx => exact rfl)))
local macro_rules | `(tactic| walk_at "rd") => `(tactic| repeat (walk_at "sy"))

theorem lim_of {l s h : Nat} (c : (l ≤ 48 ∧ s ≤ 4 ∧ h ≤ 11) ∨ (l ≤ 193 ∧ s ≤ 2 ∧ h ≤ 6)) : (2002 * (l + 1) + 3 + 2) * (2 + s + h * (2 + s)) + 3 ≤ sizeLine := by
  refine big_le ?_
  rcases c with ⟨c1, c2, c3⟩ | ⟨c1, c2, c3⟩
  · have h1 : h * (2 + s) ≤ 11 * 6 := Nat.mul_le_mul c3 (by omega)
    have h2 : (2002 * (l + 1) + 3 + 2) * (2 + s + h * (2 + s)) ≤ 98103 * 72 := Nat.mul_le_mul (by omega) (by omega)
    omega
  · have h1 : h * (2 + s) ≤ 6 * 4 := Nat.mul_le_mul c3 (by omega)
    have h2 : (2002 * (l + 1) + 3 + 2) * (2 + s + h * (2 + s)) ≤ 388393 * 28 := Nat.mul_le_mul (by omega) (by omega)
    omega
section
variable {P : Program} {w : World} {K : PySem.W.Frag} {mg : Str → Option Value} {base : Heap}
theorem IceA.but2 {T : Top K mg} {H H' : Hp} {b x y : Addr} {n : Nat} {N M : IceN} {B D : Brk} (i : IceA T H x N B) (hb : Box H b n) (m : IceA T H y M D) (nx : x ≠ y) (e : But2 b y H H') : IceA T H' x N B := by
  obtain ⟨dx', ch', lb', lp', bs', ps', hx', hc', hlb', pB', hlp', tP'⟩ := m
  obtain ⟨dx, ch, lb, lp, bs, ps, hx, ⟨dch, n', o, t, h, d, hcc⟩, hlb, pB, hlp, tP⟩ := i
  have kt : ∀ a xs, H a = some (.tup xs) → H' a = some (.tup xs) := fun a xs h => e a _ (box_off hb h (fun _ _ _ z => by cases z)) (ne_of h hx' nofun) h
  have kr : ∀ a bs, H a = some (.lst (rf bs)) → H' a = some (.lst (rf bs)) := fun a bs h => e a _ (box_off hb h (fun _ _ _ => rf_no3)) (ne_of h hx' nofun) h
  refine ⟨dx, ch, lb, lp, bs, ps, e x _ (box_off hb hx (fun _ _ _ z => by cases z)) nx hx, ⟨dch, n', o, t, h, d, e ch _ (box_off hb hcc (fun _ _ _ z => by cases z)) ?_ hcc⟩, kr _ _ hlb, pB.keep kt, kr _ _ hlp, tP.keep kt⟩
  refine ne_of hcc hx' ?_
  intro z
  injection z with _ _ z
  injection z with z _
  injection z with z _
  exact absurd z (by decide +kernel)
theorem cutV_first (ps : List Addr) (k : Nat) : cutV (rf ps) none (some (k : Int)) = rf (ps.take k) := by
  unfold cutV rf
  rw [HT.sIx_none, List.drop_zero, HT.sIx_nat, List.length_map, Nat.sub_zero, ← List.map_take]
  congr 1
  by_cases h : k ≤ ps.length
  · rw [Nat.min_eq_left h]
  · rw [Nat.min_eq_right (by omega), List.take_length, List.take_of_length_le (by omega)]
theorem PairsAt.tk {H : Hp} {bs : List Addr} {B : Brk} (p : PairsAt H bs B) (k : Nat) : PairsAt H (bs.take k) (B.take k) := by
  refine ⟨by rw [List.length_take, List.length_take, p.1], fun i a z h1 h2 => ?_⟩
  have c : i < k := by
    have := (List.getElem?_eq_some_iff.mp h1).1
    rw [List.length_take] at this; omega
  rw [List.getElem?_take_of_lt c] at h1 h2
  exact p.2 i a z h1 h2
theorem cutI (xs : List Int) (lo hi : Option Int) : ∃ ys : List Int, cutV (xs.map V.int) lo hi = ys.map V.int ∧ (∀ k ∈ ys, k ∈ xs) ∧ ys.length ≤ HT.sIx xs.length xs.length hi - HT.sIx xs.length 0 lo := by
  refine ⟨(xs.drop (HT.sIx xs.length 0 lo)).take (HT.sIx xs.length xs.length hi - HT.sIx xs.length 0 lo), ?_, fun k hk => List.mem_of_mem_drop (List.mem_of_mem_take hk), by rw [List.length_take]; omega⟩
  unfold cutV
  rw [List.length_map, ← List.map_drop, ← List.map_take]
theorem sIx_m2 (n d : Nat) : HT.sIx n d (some (-2)) = n - 2 := by
  show ((-2 : Int) + (n : Int)).toNat = _
  omega
theorem ints_sm9 {K : PySem.W.Frag} {H : Hp} : ∀ {ys : List Int}, (∀ y ∈ ys, y.natAbs < 10 ^ 60) → SmAll K H 0 650 (ys.map V.int) (ys.map PyData.int)
  | [], _ => .nil
  | y :: r, b => .cons (Ps.sm (.int (b y (by simp)))) (ints_sm9 fun z hz => b z (by simp [hz]))
/-- all that the law holds at once -/
structure Bag (T : Top K mg) (H J : Hp) (b p dc r x y w : Addr) (N : IceN) (rs : List Addr) (R B D : Brk) (n : Nat) : Prop where
  hH : Same H J
  kp : J p = some (.dK (dkN N dc))
  kR : J r = some (.lst (rf rs))
  pR : PairsAt J rs R
  ix : IceA T J x N B
  iy : IceA T J y N B
  iw : IceA T J w N D
  bx : Box J b n
theorem Bag.same {T : Top K mg} {H J J' : Hp} {b p dc r x y w : Addr} {N : IceN} {rs : List Addr} {R B D : Brk} {n : Nat} (g : Bag T H J b p dc r x y w N rs R B D n) (s : Same J J') : Bag T H J' b p dc r x y w N rs R B D n :=
  ⟨g.hH.trans s, s _ _ g.kp, s _ _ g.kR, g.pR.keep (keepT_same s), g.ix.same s, g.iy.same s, g.iw.same s, g.bx.same s⟩
theorem Bag.pb {T : Top K mg} {H J : Hp} {b p dc r x y w : Addr} {N : IceN} {rs : List Addr} {R B D : Brk} {n : Nat} (g : Bag T H J b p dc r x y w N rs R B D n) : p ≠ b := box_off g.bx g.kp (fun _ _ _ z => by cases z)
theorem Bag.but {T : Top K mg} {H J J' : Hp} {b p dc r x y w : Addr} {N : IceN} {rs : List Addr} {R B D : Brk} {n m : Nat} (g : Bag T H J b p dc r x y w N rs R B D n) (fb : H b = none) (e : But b J J') (B' : Box J' b m) : Bag T H J' b p dc r x y w N rs R B D m :=
  ⟨fun c o h => e _ _ (ne_of_none h fb) (g.hH _ _ h), e _ _ g.pb g.kp, e _ _ (box_off g.bx g.kR (fun _ _ _ => rf_no3)) g.kR, g.pR.keep (fun a xs h => e _ _ (box_off g.bx h (fun _ _ _ z => by cases z)) h), g.ix.box g.bx e, g.iy.box g.bx e, g.iw.box g.bx e, B'⟩
theorem Bag.told {T : Top K mg} {H J J' : Hp} {b p dc r x y w : Addr} {N : IceN} {rs : List Addr} {R B D D' : Brk} {n : Nat} (g : Bag T H J b p dc r x y w N rs R B D n) (fw : H w = none) (xw : x ≠ w) (yw : y ≠ w) (e : But w J J') (i : IceA T J' w N D') : Bag T H J' b p dc r x y w N rs R B D' n := by
  obtain ⟨dw, _, _, _, _, _, hw, _⟩ := id g.iw
  obtain ⟨b1, b2, b3, hb, brest⟩ := id g.bx
  have e2 : But2 b w J J' := fun a o _ nw h => e a o nw h
  exact ⟨fun c o h => e _ _ (ne_of_none h fw) (g.hH _ _ h), e _ _ (ne_of g.kp hw nofun) g.kp, e _ _ (ne_of g.kR hw nofun) g.kR, g.pR.keep (fun a xs h => e _ _ (ne_of h hw nofun) h), g.ix.but2 g.bx g.iw xw e2, g.iy.but2 g.bx g.iw yw e2, i, ⟨b1, b2, b3, e _ _ (ne_of hb hw nofun) hb, brest⟩⟩
theorem ok_law (T : Top K mg) : FnG P w K mg base CX0 9 T.a_law T.d_law ["_law_script"] (spLaw K) := by
  have G_box := ok_box (P := P) (w := w) (base := base) T
  have G_numbers := ok_numbers (P := P) (w := w) (base := base) T
  have G_told := ok_told (P := P) (w := w) (base := base) T
  have G_all := ok_all (P := P) (w := w) (base := base) T
  have G_cell := ok_cell (P := P) (w := w) (base := base) T
  have G_take := ok_take (P := P) (w := w) (base := base) T
  have G_ice := ok_ice (P := P) (w := w) (base := base) T
  have G_turned := ok_turned (P := P) (w := w) (base := base) T
  have G_more_right := ok_more_right (P := P) (w := w) (base := base) T
  have G_hour := ok_hour (P := P) (w := w) (base := base) T
  have G_cut := ok_cut (P := P) (w := w) (base := base) T
  have G_walked := ok_walked (P := P) (w := w) (base := base) T
  have G_thick := ok_thick (P := P) (w := w) (base := base) T
  have G_Ice_copied := ok_Ice_copied (P := P) (w := w) (base := base) T
  have G_Ice_break_at := ok_Ice_break_at (P := P) (w := w) (base := base) T
  have G_Ice_thick := ok_Ice_thick (P := P) (w := w) (base := base) T
  refine okG T.F_law sc_law (fun vs H Q E h => ?_) (fun cdv A outer s H vs Q E hr hgd h => ?_)
  · obtain ⟨a, ns, rfl, _⟩ := h
    rfl
  · obtain ⟨a, ns, rfl, hS, hlen, _, hO, q⟩ := h
    have hu : _ := un1 hr
    have hu64 := un64 hr
    have hu110 := un110 hr
    refine ⟨_, (pss_cons (ps_for PassesOwn.never rfl (pi_range1 (by rfl) T.n_range (pa_cons (pe_callB (c_max2) (by rfl) T.n_max (by decide +kernel) (pa_cons pe_int (pa_cons (pe_callB (c_min2) (by rfl) T.n_min (by decide +kernel) (pa_cons (pe_callB c_len (by rfl) T.n_len (by decide +kernel) (pa_cons (pv 0) pa_nil)) (pa_cons pe_int pa_nil))) pa_nil))) pa_nil)) (pg_name (i := 1) sc_law.nd rfl (by first | exact Or.inl rfl | exact Or.inr rfl))
        (pss_cons (ps_set (i := 2) sc_law.nd rfl (by first | exact Or.inl rfl | exact Or.inr rfl) (g_call G_box (hr.mono (by decide)) hgd (by rfl) T.m_box T.F_box.kp T.b_box .nil pass0 (pa_cons (g_call G_cell (hr.mono (by decide)) hgd (by rfl) T.m_cell T.F_cell.kp T.b_cell .nil pass0 (pa_cons (pv 0) (pa_cons (pv 1) pa_nil))) pa_nil)))
      (pss_cons (ps_set (i := 3) sc_law.nd rfl (by first | exact Or.inl rfl | exact Or.inr rfl) (g_call G_numbers (hr.mono (by decide)) hgd (by rfl) T.m_numbers T.F_numbers.kp T.b_numbers .nil pass0 (pa_cons (pv 2) pa_nil)))
      (pss_cons (ps_set (i := 4) sc_law.nd rfl (by first | exact Or.inl rfl | exact Or.inr rfl) (pe_dget hu (pv 3) pe_str (fun _ _ => rfl)))
      (pss_cons (ps_set (i := 5) sc_law.nd rfl (by first | exact Or.inl rfl | exact Or.inr rfl) (pe_lst (pa_cons (g_call G_take (hr.mono (by decide)) hgd (by rfl) T.m_take T.F_take.kp T.b_take .nil pass0 (pa_cons (pv 2) (pa_cons pe_int pa_nil))) (pa_cons (g_call G_take (hr.mono (by decide)) hgd (by rfl) T.m_take T.F_take.kp T.b_take .nil pass0 (pa_cons (pv 2) (pa_cons pe_int pa_nil))) (pa_cons (pe_op op_add pe_int (g_call G_take (hr.mono (by decide)) hgd (by rfl) T.m_take T.F_take.kp T.b_take .nil pass0 (pa_cons (pv 2) (pa_cons pe_int pa_nil)))) (pa_cons pe_int pa_nil))))))
      (pss_cons (ps_set (i := 6) sc_law.nd rfl (by first | exact Or.inl rfl | exact Or.inr rfl) (pe_ix ix_list (pe_op op_cat (pe_op op_cat (pv 5) (pe_slice sl_list (pv 5) po_none (po_some pe_int))) (pe_lst (pa_cons pe_int pa_nil))) (g_call G_take (hr.mono (by decide)) hgd (by rfl) T.m_take T.F_take.kp T.b_take .nil pass0 (pa_cons (pv 2) (pa_cons pe_int pa_nil))) (fun _ _ => rfl)))
      (pss_cons (ps_set (i := 7) sc_law.nd rfl (by first | exact Or.inl rfl | exact Or.inr rfl) (pe_lc (own := [("_law_turn", 11)]) (g := gName 11) rfl sc_law.nd (pi_range1 (by rfl) T.n_range (pa_cons (pv 6) pa_nil)) (blkOk_by (own := [("_law_turn", 11)]) (N := ["_law_script", "_law_k", "_law_box_here", "_law_numbers_here", "_law_begin", "_law_some", "_law_many", "_law_rows", "_law_one", "_law_other", "_law_more", "_law_turn", "_law_hours", "_law_strengths", "_law_due", "_law_hour_here", "_law_cut_here"]) (sc := defScope s_law) (by decide +kernel)) (fun _ _ _ _ _ => (pg_name (i := 11) sc_law.nd rfl (by first | exact Or.inl rfl | exact Or.inr rfl))) (fun _ _ _ _ _ => pts_nil) (fun _ _ _ _ _ => (pe_tup (pa_cons (g_call G_hour (hr.mono (by decide)) hgd (by rfl) T.m_hour T.F_hour.kp T.b_hour .nil pass0 (pa_cons (pv 2) (pa_cons (pv 4) pa_nil))) (pa_cons (g_call G_cut (hr.mono (by decide)) hgd (by rfl) T.m_cut T.F_cut.kp T.b_cut .nil pass0 (pa_cons (pv 2) (pa_cons (pv 3) pa_nil))) pa_nil))))))
      (pss_cons (ps_set (i := 7) sc_law.nd rfl (by first | exact Or.inl rfl | exact Or.inr rfl) (pe_op op_cat (pv 7) (pe_slice sl_list (pv 7) po_none (po_some (g_call G_take (hr.mono (by decide)) hgd (by rfl) T.m_take T.F_take.kp T.b_take .nil pass0 (pa_cons (pv 2) (pa_cons pe_int pa_nil)))))))
      (pss_cons (ps_asg (pe_tup (pa_cons (g_call G_ice (hr.mono (by decide)) hgd (by rfl) T.m_ice T.F_ice.kp T.b_ice .nil pass0 (pa_cons (pv 3) pa_nil)) (pa_cons (g_call G_ice (hr.mono (by decide)) hgd (by rfl) T.m_ice T.F_ice.kp T.b_ice .nil pass0 (pa_cons (pv 3) pa_nil)) pa_nil))) (pg_tup rfl (pgs_cons (pg_name (i := 8) sc_law.nd rfl (by first | exact Or.inl rfl | exact Or.inr rfl)) (pgs_cons (pg_name (i := 9) sc_law.nd rfl (by first | exact Or.inl rfl | exact Or.inr rfl)) pgs_nil))))
      (pss_cons (ps_expr (g_call G_told (hr.mono (by decide)) hgd (by rfl) T.m_told T.F_told.kp T.b_told .nil pass0 (pa_cons (pv 2) (pa_cons (pv 8) (pa_cons (pv 7) (pa_cons (pv 3) (pa_cons pe_bl pa_nil)))))))
      (pss_cons (ps_expr (g_call G_told (hr.mono (by decide)) hgd (by rfl) T.m_told T.F_told.kp T.b_told .nil pass0 (pa_cons (pv 2) (pa_cons (pv 9) (pa_cons (g_call G_turned (hr.mono (by decide)) hgd (by rfl) T.m_turned T.F_turned.kp T.b_turned .nil pass0 (pa_cons (pv 2) (pa_cons (pv 7) pa_nil))) (pa_cons (pv 3) (pa_cons pe_bl pa_nil)))))))
      (pss_cons (ps_set (i := 10) sc_law.nd rfl (by first | exact Or.inl rfl | exact Or.inr rfl) (g_meth0 (pv 8) T.cl_Ice T.me_Ice_copied G_Ice_copied (hr.mono (by decide)) hgd T.b_Ice_copied .nil pass0))
      (pss_cons (ps_for PassesOwn.never rfl (pi_range1 (by rfl) T.n_range (pa_cons (pe_op op_add pe_int (g_call G_take (hr.mono (by decide)) hgd (by rfl) T.m_take T.F_take.kp T.b_take .nil pass0 (pa_cons (pv 2) (pa_cons pe_int pa_nil)))) pa_nil)) (pg_name (i := 11) sc_law.nd rfl (by first | exact Or.inl rfl | exact Or.inr rfl))
        (pss_one (ps_expr (g_meth (pv 10) T.cl_Ice T.me_Ice_break_at G_Ice_break_at (hr.mono (by decide)) hgd T.b_Ice_break_at .nil passL (pa_cons (g_call G_hour (hr.mono (by decide)) hgd (by rfl) T.m_hour T.F_hour.kp T.b_hour .nil pass0 (pa_cons (pv 2) (pa_cons (pv 4) pa_nil))) (pa_cons (g_call G_cut (hr.mono (by decide)) hgd (by rfl) T.m_cut T.F_cut.kp T.b_cut .nil pass0 (pa_cons (pv 2) (pa_cons (pv 3) pa_nil))) pa_nil))))))
      (pss_cons (ps_set (i := 12) sc_law.nd rfl (by first | exact Or.inl rfl | exact Or.inr rfl) (pe_op op_cat (pe_lst (pa_cons (pv 4) (pa_cons (pe_op op_add (pv 4) pe_int) (pa_cons (pe_op op_pow pe_int pe_int) pa_nil)))) (pe_lc (own := [("_law_turn", 11)]) (g := gName 11) rfl sc_law.nd (pi_range1 (by rfl) T.n_range (pa_cons pe_int pa_nil)) (blkOk_by (own := [("_law_turn", 11)]) (N := ["_law_script", "_law_k", "_law_box_here", "_law_numbers_here", "_law_begin", "_law_some", "_law_many", "_law_rows", "_law_one", "_law_other", "_law_more", "_law_turn", "_law_hours", "_law_strengths", "_law_due", "_law_hour_here", "_law_cut_here"]) (sc := defScope s_law) (by decide +kernel)) (fun _ _ _ _ _ => (pg_name (i := 11) sc_law.nd rfl (by first | exact Or.inl rfl | exact Or.inr rfl))) (fun _ _ _ _ _ => pts_nil) (fun _ _ _ _ _ => (g_call G_hour (hr.mono (by decide)) hgd (by rfl) T.m_hour T.F_hour.kp T.b_hour .nil pass0 (pa_cons (pv 2) (pa_cons (pv 4) pa_nil)))))))
      (pss_cons (ps_set (i := 12) sc_law.nd rfl (by first | exact Or.inl rfl | exact Or.inr rfl) (pe_op op_cat (pv 12) (pe_lc (own := [("_law_hour_here", 15), ("_law_cut_here", 16)]) rfl sc_law.nd (pi_list (pe_slice sl_list (pv 7) po_none (po_some pe_int))) (blkOk_by (own := [("_law_hour_here", 15), ("_law_cut_here", 16)]) (N := ["_law_script", "_law_k", "_law_box_here", "_law_numbers_here", "_law_begin", "_law_some", "_law_many", "_law_rows", "_law_one", "_law_other", "_law_more", "_law_turn", "_law_hours", "_law_strengths", "_law_due", "_law_hour_here", "_law_cut_here"]) (sc := defScope s_law) (by decide +kernel)) (fun _ _ _ _ _ => (show PG _ _ (gTup K 2 _) from (pg_tup rfl (pgs_cons (pg_name (i := 15) sc_law.nd rfl (by first | exact Or.inl rfl | exact Or.inr rfl)) (pgs_cons (pg_name (i := 16) sc_law.nd rfl (by first | exact Or.inl rfl | exact Or.inr rfl)) pgs_nil))))) (fun _ _ _ _ _ => pts_nil) (fun _ _ _ _ _ => (pe_op op_add (pv 15) pe_int)))))
      (pss_cons (ps_set (i := 13) sc_law.nd rfl (by first | exact Or.inl rfl | exact Or.inr rfl) (pe_lst (pa_cons pe_int (pa_cons (g_call G_take (hr.mono (by decide)) hgd (by rfl) T.m_take T.F_take.kp T.b_take .nil pass0 (pa_cons (pv 2) (pa_cons pe_int pa_nil))) (pa_cons (pe_op op_fdivN (pe_dget hu (pv 3) pe_str (fun _ _ => rfl)) pe_int) (pa_cons (g_meth (pv 8) T.cl_Ice T.me_Ice_thick G_Ice_thick (hr.mono (by decide)) hgd T.b_Ice_thick .nil pass0 (pa_cons (pe_ix ix_list (pv 12) pe_int (fun _ _ => rfl)) pa_nil)) pa_nil))))))
      (C8.pss_cut (ps_if (pt_cmpR op_gt (pv 6) pe_int (nomark _))
        (pss_one (ps_par (i := 12) (j := 13) (by rfl) sc_law.nd rfl rfl (by decide) rfl rfl (pa_cons (pe_op op_cat (pe_slice sl_list (pv 12) (po_some pe_int) (po_some pe_int)) (pe_slice sl_list (pv 12) (po_some (pe_un un_neg pe_int)) po_none)) (pa_cons (pe_slice sl_list (pv 13) (po_some pe_int) po_none) pa_nil)) (by rfl)))
        pss_nil)
      (pss_cons (ps_set (i := 14) sc_law.nd rfl (by first | exact Or.inl rfl | exact Or.inr rfl) (g_call G_all (hr.mono (by decide)) hgd (by rfl) T.m_all T.F_all.kp T.b_all .nil pass0 (pa_cons (pv 8) (pa_cons (pv 13) (pa_cons (pv 12) pa_nil)))))
      (pss_cons (ps_if (PW.pt (pw_or (pt_cmpR op_ne (g_call G_all (hr.mono (by decide)) hgd (by rfl) T.m_all T.F_all.kp T.b_all .nil pass0 (pa_cons (pv 9) (pa_cons (pv 13) (pa_cons (pv 12) pa_nil)))) (pv 14) (nomark _)) (pw_or1 (pt_cmpR op_ne (g_call G_all (hr.mono (by decide)) hgd (by rfl) T.m_all T.F_all.kp T.b_all .nil pass0 (pa_cons (g_meth0 (pv 9) T.cl_Ice T.me_Ice_copied G_Ice_copied (hr.mono (by decide)) hgd T.b_Ice_copied .nil pass0) (pa_cons (pv 13) (pa_cons (pv 12) pa_nil)))) (pv 14) (nomark _)))))
        (pss_one (ps_ret pe_bl))
        pss_nil)
      (pss_cons (ps_if (pt_cmpR op_ne (pe_callB (c_repr hgd hu110) (by rfl) T.n_repr (by decide +kernel) (pa_cons (pe_lc (own := [("_law_hour_here", 15)]) (g := gName 15) rfl sc_law.nd (pi_list (pv 12)) (blkOk_by (own := [("_law_hour_here", 15)]) (N := ["_law_script", "_law_k", "_law_box_here", "_law_numbers_here", "_law_begin", "_law_some", "_law_many", "_law_rows", "_law_one", "_law_other", "_law_more", "_law_turn", "_law_hours", "_law_strengths", "_law_due", "_law_hour_here", "_law_cut_here"]) (sc := defScope s_law) (by decide +kernel)) (fun _ _ _ _ _ => (pg_name (i := 15) sc_law.nd rfl (by first | exact Or.inl rfl | exact Or.inr rfl))) (fun _ _ _ _ _ => pts_nil) (fun _ _ _ _ _ => (g_meth (pv 8) T.cl_Ice T.me_Ice_thick G_Ice_thick (hr.mono (by decide)) hgd T.b_Ice_thick .nil pass0 (pa_cons (pv 15) pa_nil)))) pa_nil)) (pe_callB (c_repr hgd hu110) (by rfl) T.n_repr (by decide +kernel) (pa_cons (pe_lc (own := [("_law_hour_here", 15)]) (g := gName 15) rfl sc_law.nd (pi_list (pv 12)) (blkOk_by (own := [("_law_hour_here", 15)]) (N := ["_law_script", "_law_k", "_law_box_here", "_law_numbers_here", "_law_begin", "_law_some", "_law_many", "_law_rows", "_law_one", "_law_other", "_law_more", "_law_turn", "_law_hours", "_law_strengths", "_law_due", "_law_hour_here", "_law_cut_here"]) (sc := defScope s_law) (by decide +kernel)) (fun _ _ _ _ _ => (pg_name (i := 15) sc_law.nd rfl (by first | exact Or.inl rfl | exact Or.inr rfl))) (fun _ _ _ _ _ => pts_nil) (fun _ _ _ _ _ => (g_call G_thick (hr.mono (by decide)) hgd (by rfl) T.m_thick T.F_thick.kp T.b_thick .nil pass0 (pa_cons (pv 3) (pa_cons (pv 7) (pa_cons (pv 15) pa_nil)))))) pa_nil)) (nomark _))
        (pss_one (ps_ret pe_bl))
        pss_nil)
      (pss_cons (ps_if (PW.pt (pw_or (pt_not (pt_val (g_call G_walked (hr.mono (by decide)) hgd (by rfl) T.m_walked T.F_walked.kp T.b_walked .nil pass0 (pa_cons (pv 8) (pa_cons (pv 4) (pa_cons (pv 13) (pa_cons (pv 12) pa_nil))))))) (pw_or1 (pt_not (pt_val (g_call G_walked (hr.mono (by decide)) hgd (by rfl) T.m_walked T.F_walked.kp T.b_walked .nil pass0 (pa_cons (pv 10) (pa_cons (pv 4) (pa_cons (pv 13) (pa_cons (pv 12) pa_nil))))))))))
        (pss_one (ps_ret pe_bl))
        pss_nil)
      (pss_one (ps_if (pt_not (pt_val (g_call G_more_right (hr.mono (by decide)) hgd (by rfl) T.m_more_right T.F_more_right.kp T.b_more_right .nil pass0 (pa_cons (pv 8) (pa_cons (pv 10) (pa_cons (pv 13) (pa_cons (pv 12) pa_nil)))))))
        (pss_one (ps_ret pe_bl))
        pss_nil)))))))))))))))))))))))
      (pss_one (ps_ret pe_bl))), ?_⟩
    walk_at "rd"
    generalize hN : (if (if 4 < ((ns.map V.int).length : Int) then 4 else ((ns.map V.int).length : Int)) > 2 then (if 4 < ((ns.map V.int).length : Int) then 4 else ((ns.map V.int).length : Int)) else 2) = M
    have hN2 : 2 ≤ M ∧ M ≤ 4 := by rw [← hN]; split <;> split <;> omega
    refine ⟨M, rfl, by omega, by omega, ?_⟩
    refine for_range (lo := 0) (n := M.toNat) (fun i σ H' => Same H H' ∧ ∃ z1 z2 z3 z4 z5 z6 z7 z8 z9 z10 z11 z12 z13 z14 z15 z16, σ = [some (.ref a), z1, z2, z3, z4, z5, z6, z7, z8, z9, z10, z11, z12, z13, z14, z15, z16])
      ⟨Same.refl _, _, _, _, _, _, _, _, _, _, _, _, _, _, _, _, _, rfl⟩ ?_ ?_
    · rintro i0 σ H0 hi0 ⟨sH0, z1, z2, z3, z4, z5, z6, z7, z8, z9, z10, z11, z12, z13, z14, z15, z16, rfl⟩
      walk_at "rd"
      refine ⟨a, ns, _, rfl, sH0.seq hS, by omega, by omega, fun z => ?_⟩
      walk_at "rd"
      refine ⟨z, rfl, fun b H1 fb0 s1 B1 => ?_⟩
      walk_at "rd"
      refine ⟨b, 0, rfl, B1, by omega, fun N p dc H2 ok e2 B2 kp kd fp fd nd => ?_⟩
      have fb : H b = none := none_back sH0 fb0
      have pb : p ≠ b := box_off B2 kp (fun _ _ _ z => by cases z)
      have b6 := ok.b6; have n0 := ok.b0; have m6 := ok.m6
      have sH2 : Same H H2 := fun c o h => e2 _ _ (ne_of_none h fb) (s1 _ _ (sH0 _ _ h))
      walk_at "rd"
      refine ⟨p, _, rfl, dgetS kp (nu_begin N dc), ?_⟩
      walk_at "rd"
      refine ⟨b, 41, _, rfl, B2, by omega, by decide, by decide, fun m0 H3 m00 m01 e3 B3 => ?_⟩
      walk_at "rd"
      refine ⟨b, 6, _, rfl, B3, by omega, by decide, by decide, fun m1 H4 m10 m11 e4 B4 => ?_⟩
      walk_at "rd"
      refine ⟨b, 12, _, rfl, B4, by omega, by decide, by decide, fun m2 H5 m20 m21 e5 B5 => ?_⟩
      walk_at "rd"
      (intro so hso; generalize eso : upd _ so _ = J6; have N6 := New.of eso hso; clear eso hso)
      have kp6 := N6.app (e5 _ _ pb (e4 _ _ pb (e3 _ _ pb kp)))
      have sH6 : Same H J6 := fun c o h => by
        have nb := ne_of_none h fb
        exact N6.app (e5 _ _ nb (e4 _ _ nb (e3 _ _ nb (sH2 _ _ h))))
      have B6 := B5.nw N6
      walk_at "rd"
      refine i_slLs N6.at_ (fun sl J7 N7 => ?_)
      walk_at "rd"
      refine i_cat (N7.app N6.at_) N7.at_ (small_le (by simp [cutV]; omega)) ?_
      (intro c1 hc1; generalize ec1 : upd _ c1 _ = J8; have N8 := New.of ec1 hc1; clear ec1 hc1)
      walk_at "rd"
      (intro l1 hl1; generalize el1 : upd _ l1 _ = J9; have N9 := New.of el1 hl1; clear el1 hl1)
      walk_at "rd"
      refine i_cat (N9.app N8.at_) N9.at_ (small_le (by simp [cutV]; omega)) ?_
      (intro c2 hc2; generalize ec2 : upd _ c2 _ = J10; have N10 := New.of ec2 hc2; clear ec2 hc2)
      have s610 : Same J6 J10 := N7.same.trans (N8.same.trans (N9.same.trans N10.same))
      have kp10 := s610 _ _ kp6
      walk_at "rd"
      refine ⟨b, 8, _, rfl, B6.same s610, by omega, by decide, by decide, fun d H11 d0 d8 e11 B11 => ?_⟩
      have kc2 := e11 _ _ (box_ne (B6.same (N7.same.trans (N8.same.trans N9.same))) N10.free) N10.at_
      obtain ⟨m, hm, mb⟩ : ∃ m : Int, atI (([.int m0, .int m1, .int (1 + m2), .int 46] ++ cutV [.int m0, .int m1, .int (1 + m2), .int 46] none (some 3)) ++ [V.int 191]) d = some (.int m) ∧ (0 ≤ m ∧ m ≤ 46 ∨ m = 191) := by
        obtain rfl | rfl | rfl | rfl | rfl | rfl | rfl | rfl : d = 0 ∨ d = 1 ∨ d = 2 ∨ d = 3 ∨ d = 4 ∨ d = 5 ∨ d = 6 ∨ d = 7 := by omega
        · exact ⟨_, rfl, by omega⟩
        · exact ⟨_, rfl, by omega⟩
        · exact ⟨_, rfl, by omega⟩
        · exact ⟨_, rfl, by omega⟩
        · exact ⟨_, rfl, by omega⟩
        · exact ⟨_, rfl, by omega⟩
        · exact ⟨_, rfl, by omega⟩
        · exact ⟨_, rfl, by omega⟩
      refine i_ixL (SqL.lst kc2) hm ?_
      have kp11 := e11 _ _ pb kp10
      have sH11 : Same H H11 := fun c o h => e11 _ _ (ne_of_none h fb) (s610 _ _ (sH6 _ _ h))
      clear e11 kc2 s610 kp10 N10 N9 N8 N7 hm sH6 kp6 B6 e2 s1 B1 B2 B3 B4 B5 e3 e4 e5 N6 kp fp kd fd sH2
      walk_at "rd"
      refine ⟨m, rfl, by omega, by omega, fun D hD => ?_⟩
      have bD : b ≠ D := (box_ne B11 hD).symm
      refine lc_range (lo := 0) (n := m.toNat) (fun j H' => But b H11 H' ∧ Box H' b (24 + 8 * j) ∧ ∃ us B0, H' D = some (.lst (rf us)) ∧ PairsAt H' us B0 ∧ B0.length = j ∧ ∀ z ∈ B0, N.b ≤ z.1 ∧ z.1 ≤ 100000000 ∧ 1 ≤ z.2 ∧ z.2 ≤ 1000000)
        ⟨fun a o _ h => Same.new _ hD a o h, B11.new hD, [], [], upd_same, ⟨rfl, fun i a z h1 h2 => by simp at h1⟩, rfl, fun z hz => (by cases hz)⟩ ?_ ?_
      · rintro j H3 hj ⟨e3, B3, us, B0, kD, pB, lB, bd⟩
        have hj2 : j < 191 := by omega
        have kp3 := e3 _ _ pb kp11
        walk_at "rd"
        refine ⟨b, N.b, _, rfl, n0, b6, B3, by omega, fun h H4 e4 B4 h0 h8 => ?_⟩
        have kp4 := e4 _ _ pb kp3
        walk_at "rd"
        refine ⟨b, p, dc, N, _, rfl, kp4, pb, ok, B4, by omega, fun c H5 e5 B5 c1 c6 => ?_⟩
        walk_at "rd"
        (intro t ht; generalize et : upd _ t _ = J6; have N6 := New.of et ht; clear et ht)
        have kD6 := N6.app (e5 _ _ bD.symm (e4 _ _ bD.symm kD))
        have kt : ∀ a xs, H3 a = some (.tup xs) → J6 a = some (.tup xs) := fun a xs h => by
          have nb := box_off B3 h (fun _ _ _ z => by cases z)
          exact N6.app (e5 _ _ nb (e4 _ _ nb h))
        refine ⟨rf us, kD6, small1000 (by have := pB.1; simp [rf]; omega), fun a o nb h => ?_, ((B5.nw N6).upd bD.symm).mono (by omega), us ++ [t], B0 ++ [(h, c)], by rw [upd_same]; simp [rf], ?_, by simp [lB], ?_⟩
        · rw [upd_ne (ne_of_none h hD)]
          exact N6.app (e5 _ _ nb (e4 _ _ nb (e3 _ _ nb h)))
        · rw [show rf us ++ [V.ref t] = rf (us ++ [t]) by simp [rf]]
          exact (pB.snoc (z := (h, c)) kt N6.at_).keep (keepT_upd kD6 (fun xs => nofun))
        · intro z hz
          rcases List.mem_append.mp hz with hz | hz
          · exact bd z hz
          · have : z = (h, c) := by simpa using hz
            rw [this]; exact ⟨h0, h8, c1, c6⟩
      · rintro H3 ⟨e3, B3, us, B0, kD, pB, lB, bd⟩
        have kp3 := e3 _ _ pb kp11
        have sH3 : Same H H3 := fun c o h => e3 _ _ (ne_of_none h fb) (sH11 _ _ h)
        have lB3 : B0.length ≤ 191 := by omega
        walk_at "rd"
        refine ⟨b, 3, _, rfl, B3, by omega, by decide, by decide, fun k H4 k0 k3 e4 B4 => ?_⟩
        obtain ⟨kn, rfl⟩ : ∃ n : Nat, k = (n : Int) := ⟨k.toNat, by omega⟩
        have kD4 := e4 _ _ bD.symm kD
        have p4 : PairsAt H4 us B0 := pB.keep (fun a xs h => e4 _ _ (box_off B3 h (fun _ _ _ z => by cases z)) h)
        walk_at "rd"
        refine i_slLs kD4 (fun sl J5 N5 => ?_)
        rw [cutV_first] at N5
        have lu := p4.1
        walk_at "rd"
        refine i_cat (N5.app kD4) N5.at_ (small_le (by simp [rf]; omega)) ?_
        (intro r hr; generalize er : upd _ r _ = J6; have N6 := New.of er hr; clear er hr)
        have s46 : Same H4 J6 := N5.same.trans N6.same
        have pR : PairsAt J6 (us ++ us.take kn) (B0 ++ B0.take kn) := (p4.app (p4.tk kn)).keep (keepT_same s46)
        have kR : J6 r = some (.lst (rf (us ++ us.take kn))) := by rw [N6.at_]; simp [rf]
        have bR : ∀ z ∈ B0 ++ B0.take kn, N.b ≤ z.1 ∧ z.1 ≤ 100000000 ∧ 1 ≤ z.2 ∧ z.2 ≤ 1000000 := fun z hz => by
          rcases List.mem_append.mp hz with hz | hz
          · exact bd z hz
          · exact bd z (List.mem_of_mem_take hz)
        have lR : (B0 ++ B0.take kn).length ≤ 48 ∧ m ≤ 46 ∨ (B0 ++ B0.take kn).length ≤ 193 ∧ m = 191 := by
          rw [List.length_append, List.length_take]; omega
        have kp6 := s46 _ _ (e4 _ _ pb kp3)
        have B6 : Box J6 b 1600 := (B4.same s46).mono (by omega)
        have sH6 : Same H J6 := fun c o h => s46 _ _ (e4 _ _ (ne_of_none h fb) (sH3 _ _ h))
        clear N5 N6 s46 kD4 p4 lu e4 B4 B3 kp3 sH3 lB3 pB kD e3 bd hD bD B11 kp11 sH11
        generalize us ++ us.take kn = rs at pR kR
        generalize B0 ++ B0.take kn = R at pR bR lR
        have lR2 : R.length ≤ 193 := by omega
        have g0 : BGood N.b [] := ⟨.nil, fun z hz => (by cases hz)⟩
        walk_at "rd"
        refine ⟨p, dc, N, rfl, kp6, ok, fun x lx1 lx2 J7 s7 fx _ _ ix => ?_⟩
        walk_at "rd"
        refine ⟨p, dc, N, rfl, s7 _ _ kp6, ok, fun y ly1 ly2 J8 s8 fy _ _ iy => ?_⟩
        have xy : x ≠ y := by
          obtain ⟨_, _, _, _, hx, _⟩ := id ix
          exact ne_of_none hx fy
        have ix := ix.a.same s8
        have iy := iy.a
        walk_at "rd"
        (intro tu htu; generalize etu : upd _ tu _ = J9; have N9 := New.of etu htu; clear etu htu)
        have s69 : Same J6 J9 := s7.trans (s8.trans N9.same)
        have ix := ix.same N9.same
        have iy := iy.same N9.same
        obtain ⟨dx, _, _, _, _, _, hx, _⟩ := id ix
        obtain ⟨dy, _, _, _, _, _, hy, _⟩ := id iy
        have fx0 : H x = none := none_back sH6 fx
        have fy0 : H y = none := none_back (sH6.trans s7) fy
        have kp9 := s69 _ _ kp6
        have kR9 := s69 _ _ kR
        have pR9 := pR.keep (keepT_same s69)
        have B9 := B6.same s69
        have sH9 := sH6.trans s69
        refine i_gtup (xs := [.ref x, .ref y]) (SqT.tup N9.at_) rfl ?_
        clear N9 s69 s8 s7 sH6 B6 pR kR kp6 fx fy
        walk_at "rd"
        have px : p ≠ x := ne_of kp9 hx nofun
        have py : p ≠ y := ne_of kp9 hy nofun
        refine ⟨b, x, r, p, dc, N, false, rs, R, [], _, rfl, kp9, ok, kR9, pR9, bR, ix, g0, by simp; omega, B9, by omega, fun D1 J10 e10 B10 ix gD1 pm1 => ?_⟩
        have keep2 : ∀ {v : Addr} {o : HO}, (∀ i j k : Int, o ≠ .lst [.int i, .int j, .int k]) → (∀ c d f, o ≠ .ins c d f) → J9 v = some o → J10 v = some o := fun h1 h2 h => e10 _ _ (box_off B9 h h1) (ne_of h hx (h2 _ _ _)) h
        have kp10 := keep2 (fun _ _ _ z => by cases z) (fun _ _ _ z => by cases z) kp9
        have kR10 := keep2 (fun _ _ _ => rf_no3) (fun _ _ _ z => by cases z) kR9
        have pR10 := pR9.keep (fun a xs h => keep2 (fun _ _ _ z => by cases z) (fun _ _ _ z => by cases z) h)
        have iy := iy.but2 B9 (by assumption) xy.symm e10
        have B10 : Box J10 b 4000 := B10.mono (by omega)
        have sH10 : Same H J10 := fun c o h => e10 _ _ (ne_of_none h fb) (ne_of_none h fx0) (sH9 _ _ h)
        clear keep2 e10
        obtain ⟨dx, _, _, _, _, _, hx, _⟩ := id ix
        obtain ⟨dy, _, _, _, _, _, hy, _⟩ := id iy
        walk_at "rd"
        refine ⟨b, r, rs, R, _, rfl, kR10, pR10, by omega, fun z hz => ?_, B10, by omega, fun r2 cs D2 J11 e11 _ B11 kr2 p2 pm2 => ?_⟩
        · have := bR z hz
          constructor <;> omega
        have kp11 := e11 _ _ pb kp10
        have kR11 := e11 _ _ (box_off B10 kR10 (fun _ _ _ => rf_no3)) kR10
        have pR11 := pR10.keep (fun a xs h => e11 _ _ (box_off B10 h (fun _ _ _ z => by cases z)) h)
        have ix := ix.box B10 e11
        have iy := iy.box B10 e11
        have sH11 : Same H J11 := fun c o h => e11 _ _ (ne_of_none h fb) (sH10 _ _ h)
        have l2 : D2.length = R.length := pm2.length_eq
        clear e11
        obtain ⟨dx, _, _, _, _, _, hx, _⟩ := id ix
        obtain ⟨dy, _, _, _, _, _, hy, _⟩ := id iy
        walk_at "rd"
        refine ⟨b, y, r2, p, dc, N, true, cs, D2, [], _, rfl, kp11, ok, kr2, p2, fun z hz => bR z (pm2.mem_iff.mp hz), iy, g0, by simp; omega, B11, by omega, fun D3 J12 e12 B12 iy gD3 pm3 => ?_⟩
        have keep2 : ∀ {v : Addr} {o : HO}, (∀ i j k : Int, o ≠ .lst [.int i, .int j, .int k]) → (∀ c d f, o ≠ .ins c d f) → J11 v = some o → J12 v = some o := fun h1 h2 h => e12 _ _ (box_off B11 h h1) (ne_of h hy (h2 _ _ _)) h
        have kp12 := keep2 (fun _ _ _ z => by cases z) (fun _ _ _ z => by cases z) kp11
        have kR12 := keep2 (fun _ _ _ => rf_no3) (fun _ _ _ z => by cases z) kR11
        have pR12 := pR11.keep (fun a xs h => keep2 (fun _ _ _ z => by cases z) (fun _ _ _ z => by cases z) h)
        have ix := ix.but2 B11 (by assumption) xy e12
        have B12 : Box J12 b 8000 := B12.mono (by omega)
        have sH12 : Same H J12 := fun c o h => e12 _ _ (ne_of_none h fb) (ne_of_none h fy0) (sH11 _ _ h)
        rw [List.append_nil] at pm1 pm3
        obtain rfl : D1 = D3 := srt_uniq gD1.srt gD3.srt (pm1.trans (pm3.trans pm2).symm)
        have lD : D1.length = R.length := pm1.length_eq
        clear keep2 e12 kp11 kR11 pR11 kp10 kR10 pR10 kp9 kR9 pR9 B11 B10 B9 p2 kr2 hx hy pm2 pm3 gD3 sH9 sH10 sH11
        obtain ⟨dx, _, _, _, _, _, hx, _⟩ := id ix
        obtain ⟨dy, _, _, _, _, _, hy, _⟩ := id iy
        walk_at "rd"
        refine ⟨x, N, D1, rfl, ix, ok, gD1.ok, by omega, fun w lw1 lw2 J13 s13 fw _ _ iw => ?_⟩
        have iw := iw.a
        have kp13 := s13 _ _ kp12
        have kR13 := s13 _ _ kR12
        have pR13 := pR12.keep (keepT_same s13)
        have wx : x ≠ w := ne_of_none hx fw
        have wy : y ≠ w := ne_of_none hy fw
        have ix := ix.same s13
        have iy := iy.same s13
        have B13 := B12.same s13
        have fw0 : H w = none := none_back sH12 fw
        have sH13 := sH12.trans s13
        have g13 : Bag T H J13 b p dc r x y w N rs R D1 D1 8000 := ⟨sH13, kp13, kR13, pR13, ix, iy, iw, B13⟩
        clear kp12 kR12 pR12 B12 s13 sH12 hx hy fw kp13 kR13 pR13 ix iy iw B13 sH13
        walk_at "rd"
        refine ⟨b, 6, _, rfl, g13.bx, by omega, by decide, by decide, fun t J14 t0 t6 e14 B14 => ?_⟩
        have g14 := g13.but fb e14 B14
        clear e14 B14 g13
        walk_at "rd"
        refine ⟨1 + t, rfl, by omega, by omega, ?_⟩
        refine for_range (lo := 0) (n := (1 + t).toNat) (fun i σ H' => (∃ D2 E, Bag T H H' b p dc r x y w N rs R D1 D2 (8001 + 8 * i) ∧ BGood N.b D2 ∧ D2.Perm (E ++ D1) ∧ E.length ≤ i) ∧ ∃ z11, σ = [some (.ref a), some (.int (0 + (i0 : Int))), some (.ref b), some (.ref p), some (.int N.b), some (.ref so), some (.int m), some (.ref r), some (.ref x), some (.ref y), some (.ref w), z11, z12, z13, z14, z15, z16])
          ⟨⟨D1, [], g14, gD1, .refl _, Nat.le_refl _⟩, z11, rfl⟩ ?_ ?_
        · clear g14
          rintro i σ J hi ⟨⟨D2, E, g, gD2, pm, lE⟩, z11, rfl⟩
          have hi6 : i < 6 := by omega
          have l2 : D2.length = E.length + D1.length := by rw [pm.length_eq, List.length_append]
          obtain ⟨dw, _, _, _, _, _, hw, _⟩ := id g.iw
          walk_at "rd"
          refine ⟨b, N.b, _, rfl, n0, b6, g.bx, by omega, fun h J1 e1 B1 h0 h8 => ?_⟩
          have g1 := g.but fb e1 B1
          walk_at "rd"
          refine ⟨b, p, dc, N, _, rfl, g1.kp, pb, ok, g1.bx, by omega, fun c J2 e2 B2 c1 c6 => ?_⟩
          have g2 := g1.but fb e2 B2
          walk_at "rd"
          refine ⟨w, N, D2, h, c, rfl, g2.iw, ok, gD2, by omega, h0, h8, c1, c6, fun J3 e3 i3 => ?_⟩
          have g3 := (g2.told fw0 wx wy e3 i3)
          walk_at "rd"
          refine ⟨⟨_, (h, c) :: E, ⟨g3.hH, g3.kp, g3.kR, g3.pR, g3.ix, g3.iy, g3.iw, g3.bx.mono (by omega)⟩, gD2.ins ⟨h0, h8, c1, c6⟩, (insB_perm _ _).trans (pm.cons _), by simp; omega⟩, _, rfl⟩
        · clear g14
          rintro σ J ⟨⟨D2, E, g, gD2, pm, lE⟩, z11, rfl⟩
          have l2 : D2.length = E.length + D1.length := by rw [pm.length_eq, List.length_append]
          have g : Bag T H J b p dc r x y w N rs R D1 D2 8100 := ⟨g.hH, g.kp, g.kR, g.pR, g.ix, g.iy, g.iw, g.bx.mono (by omega)⟩
          have lD2 : D2.length ≤ 199 := by omega
          have le2 : Le2 N D1 D2 := fun h bh => ice_more ok gD1 gD2 (sumAt_sub gD2 pm) bh
          clear pm lE l2
          walk_at "rd"
          (intro h1 hh1; generalize eh1 : upd _ h1 _ = J1; have N1 := New.of eh1 hh1; clear eh1 hh1)
          have g1 := g.same N1.same
          have k1 : J1 h1 = some (.lst ([N.b, N.b + 1, 1000000000].map V.int)) := N1.at_
          have h1b : h1 ≠ b := box_ne g.bx N1.free
          clear N1 g
          walk_at "rd"
          refine ⟨6, rfl, by omega, by omega, fun D4 hD => ?_⟩
          have nD : h1 ≠ D4 := ne_of_none k1 hD
          have bD4 : b ≠ D4 := (box_ne g1.bx hD).symm
          refine lc_range (lo := 0) (n := (6 : Int).toNat) (fun j H' => But b J1 H' ∧ Box H' b (8100 + 5 * j) ∧ ∃ hs : List Int, H' D4 = some (.lst (hs.map V.int)) ∧ hs.length = j ∧ ∀ k ∈ hs, N.b ≤ k ∧ k ≤ 100000000)
            ⟨fun a o _ h => Same.new _ hD a o h, g1.bx.new hD, [], upd_same, rfl, fun z hz => (by cases hz)⟩ ?_ ?_
          · rintro j H3 hj ⟨e3, B3, hs, kD, lh, bd⟩
            have hj6 : j < 6 := hj
            walk_at "rd"
            refine ⟨b, N.b, _, rfl, n0, b6, B3, by omega, fun h H4 e4 B4 h0 h8 => ?_⟩
            have kD4 := e4 _ _ bD4.symm kD
            refine ⟨hs.map V.int, kD4, small1000 (by simp; omega), fun a o nb h => ?_, (B4.upd bD4.symm).mono (by omega), hs ++ [h], by rw [upd_same]; simp, by simp [lh], fun k hk => ?_⟩
            · rw [upd_ne (ne_of_none h hD)]
              exact e4 _ _ nb (e3 _ _ nb h)
            · rcases List.mem_append.mp hk with hk | hk
              · exact bd k hk
              · have : k = h := by simpa using hk
                omega
          · rintro H3 ⟨e3, B3, hs, kD, lh, bd⟩
            have g3 := g1.but fb e3 B3
            have k3 := e3 _ _ h1b k1
            walk_at "rd"
            (intro h2 hh2; generalize eh2 : upd _ h2 _ = J4; have N4 := New.of eh2 hh2; clear eh2 hh2)
            have g4 := g3.same N4.same
            have k4 : J4 h2 = some (.lst (([N.b, N.b + 1, 1000000000] ++ hs).map V.int)) := by rw [N4.at_, List.map_append]
            have bh : ∀ k ∈ [N.b, N.b + 1, 1000000000] ++ hs, N.b ≤ k ∧ k ≤ 1000000000 := fun k hk => by
              rcases List.mem_append.mp hk with hk | hk
              · simp at hk; omega
              · have := bd k hk; omega
            have lhs : hs.length = 6 := lh
            obtain ⟨q0, hs5, rfl⟩ : ∃ q0 hs5, hs = q0 :: hs5 := List.exists_cons_of_length_pos (by omega) |>.imp fun _ h => h
            clear N4 g3 k3 kD e3 B3 g1 k1 nD bD4 hD bd lh h1b
            walk_at "rd"
            refine i_slLs g4.kR (fun sl J5 N5 => ?_)
            have e2 := cutV_first rs 2
            rw [show cutV (rf rs) none (some 2) = rf (rs.take 2) from e2] at N5
            have g5 := g4.same N5.same
            have k5 := N5.app k4
            have pS := g5.pR.tk 2
            walk_at "rd"
            refine ⟨sl, rfl, ⟨_, SqL.lst N5.at_⟩, fun D5 hD => ?_⟩
            refine lc_list (K := K) (a := sl) (xs := rf (rs.take 2)) (fun j H' => Same J5 H' ∧ H' D5 = some (.lst ((((R.take 2).take j).map fun z => z.1 + 1).map V.int))) ⟨Same.new _ hD, upd_same⟩ (fun j H' _ h => SqL.lst (h.1 _ _ N5.at_)) ?_ ?_
            · rintro j v H3 hj ⟨s3, kD⟩
              obtain ⟨a, z, rfl, hz, ha⟩ := pS.get hj
              have ha3 := s3 _ _ ha
              refine i_gtup (xs := [.int z.1, .int z.2]) (SqT.tup ha3) rfl ?_
              walk_at "rd"
              refine ⟨_, kD, small1000 (by simp; omega), Same.upd s3 hD, ?_⟩
              rw [upd_same, take_succ_of hz, List.map_append, List.map_append]; rfl
            · rintro H3 ⟨s3, kD⟩
              rw [show (rf (rs.take 2)).length = (R.take 2).length by simp [rf, g5.pR.1], List.take_length] at kD
              have g6 := g5.same s3
              have k6 := s3 _ _ k5
              walk_at "rd"
              have lh5 : hs5.length = 5 := by simpa using lhs
              refine i_cat k6 kD (small_le (by simp; omega)) ?_
              (intro h3 hh3; generalize eh3 : upd _ h3 _ = J6; have N6 := New.of eh3 hh3; clear eh3 hh3)
              obtain ⟨HS, hHS⟩ : ∃ HS : List Int, HS = ([N.b, N.b + 1, 1000000000] ++ q0 :: hs5) ++ (R.take 2).map fun z => z.1 + 1 := ⟨_, rfl⟩
              have k7 : J6 h3 = some (.lst (HS.map V.int)) := by rw [N6.at_, hHS]; simp only [List.map_append]
              have g7 := g6.same N6.same
              have l4 : 4 ≤ HS.length ∧ HS.length ≤ 11 := by rw [hHS]; simp; omega
              have a4 : HS[3]? = some q0 := by rw [hHS]; rfl
              have bH : ∀ k ∈ HS, N.b ≤ k ∧ k ≤ 1000000000 := fun k hk => by
                rw [hHS] at hk
                rcases List.mem_append.mp hk with hk | hk
                · exact bh k hk
                · obtain ⟨z, hz, e⟩ := List.mem_map.mp hk
                  have := bR z (List.mem_of_mem_take hz)
                  omega
              have bq := bH q0 (List.mem_of_getElem? a4)
              clear N6 k6 g6 kD s3 hD pS k5 g5 N5 e2 k4 g4 hHS bh lhs lh5
              obtain ⟨dx, _, _, _, _, _, hx, _⟩ := id g7.ix
              walk_at "rd"
              refine ⟨b, 20, _, rfl, g7.bx, by omega, by decide, by decide, fun st J8 st0 st20 e8 B8 => ?_⟩
              have k8 := e8 _ _ (box_off g7.bx k7 (fun i j k z => by
                injection z with z
                have := congrArg List.length z
                rw [List.length_map] at this
                simp at this; omega)) k7
              have g8 := g7.but fb e8 B8
              clear e8 B8 k7 g7
              walk_at "rd"
              refine ⟨p, _, rfl, dgetS g8.kp (nu_most N dc), ?_⟩
              obtain ⟨dx, _, _, _, _, _, hx, _⟩ := id g8.ix
              walk_at "rd"
              refine i_ixL (SqL.lst k8) (show atI (HS.map V.int) ((3 : Nat) : Int) = some (.int q0) from atI_nat (by rw [List.getElem?_map, a4]; rfl)) ?_
              walk_at "rd"
              refine thick_e g8.ix ok gD1 (by omega) bq.1 bq.2 ?_
              walk_at "rd"
              (intro s1 hs1; generalize es1 : upd _ s1 _ = J9; have N9 := New.of es1 hs1; clear es1 hs1)
              have g9 := g8.same N9.same
              have k9 := N9.app k8
              have bi := (ice_bnd ok gD1 bq.1).2
              have m0' : 0 ≤ N.most := Int.le_trans ok.f0 ok.fm
              have hm2 : 0 ≤ N.most.fdiv 2 ∧ N.most.fdiv 2 ≤ 1000000 := by
                rw [Int.fdiv_eq_ediv_of_nonneg _ (by decide)]; omega
              obtain ⟨SS, hSS⟩ : ∃ SS : List Int, SS = [0, st, N.most.fdiv 2, (iceAt N D1 q0).2] := ⟨_, rfl⟩
              have s9 : J9 s1 = some (.lst (SS.map V.int)) := by rw [N9.at_, hSS]; rfl
              have bS : ∀ k ∈ SS, 0 ≤ k ∧ k ≤ 1000000000 := fun k hk => by
                rw [hSS] at hk; simp at hk; omega
              have lS : SS.length = 4 := by rw [hSS]; rfl
              clear N9 k8 g8 hx hSS
              walk_at "rd"
              refine i_cut (fun σ H' => ∃ (h4 s2 : Addr) (HS SS : List Int), Bag T H H' b p dc r x y w N rs R D1 D2 9000 ∧ H' h4 = some (.lst (HS.map V.int)) ∧ H' s2 = some (.lst (SS.map V.int)) ∧ (∀ k ∈ HS, N.b ≤ k ∧ k ≤ 1000000000) ∧ (∀ k ∈ SS, 0 ≤ k ∧ k ≤ 1000000000) ∧ ((R.length ≤ 48 ∧ SS.length ≤ 4 ∧ HS.length ≤ 11) ∨ (R.length ≤ 193 ∧ SS.length ≤ 2 ∧ HS.length ≤ 6)) ∧ ∃ z11 z15 z16, σ = [some (.ref a), some (.int (0 + (i0 : Int))), some (.ref b), some (.ref p), some (.int N.b), some (.ref so), some (.int m), some (.ref r), some (.ref x), some (.ref y), some (.ref w), z11, some (.ref h4), some (.ref s2), z14, z15, z16]) ?_ ?_
              · walk_at "rd"
                have g10 : Bag T H J9 b p dc r x y w N rs R D1 D2 9000 := ⟨g9.hH, g9.kp, g9.kR, g9.pR, g9.ix, g9.iy, g9.iw, g9.bx.mono (by omega)⟩
                refine ifs (fun c => ?_) (fun c => ?_)
                · have c' := of_decide_eq_true c
                  walk_at "rd"
                  refine i_par ?_
                  walk_at "rd"
                  refine i_slLs k9 (fun sl1 J1 N1 => ?_)
                  walk_at "rd"
                  refine i_slLs (N1.app k9) (fun sl2 J2 N2 => ?_)
                  obtain ⟨ys, ey, my, ly⟩ := cutI HS (some 1) (some 5)
                  obtain ⟨zs, ez, mz, lz⟩ := cutI HS (some (-2)) none
                  obtain ⟨ts, et, mt, lt⟩ := cutI SS (some 2) none
                  rw [show (some (5 : Int)) = some ((5 : Nat) : Int) from rfl, show (some (1 : Int)) = some ((1 : Nat) : Int) from rfl, HT.sIx_nat, HT.sIx_nat] at ly
                  rw [HT.sIx_none, sIx_m2] at lz
                  rw [HT.sIx_none, show (some (2 : Int)) = some ((2 : Nat) : Int) from rfl, HT.sIx_nat] at lt
                  rw [ey] at N1
                  rw [ez] at N2
                  walk_at "rd"
                  (intro h4 hh4; generalize eh4 : upd _ h4 _ = J3; have N3 := New.of eh4 hh4; clear eh4 hh4)
                  have s3 : Same J9 J3 := N1.same.trans (N2.same.trans N3.same)
                  walk_at "rd"
                  refine i_slLs (s3 _ _ s9) (fun s2 J4 N4 => ?_)
                  rw [et] at N4
                  have kh4 := N4.app N3.at_
                  rw [← List.map_append] at kh4
                  walk_at "rd"
                  refine ⟨_, _, rfl, ?_⟩
                  walk_at "rd"
                  refine ⟨h4, s2, ys ++ zs, ts, g10.same (s3.trans N4.same), kh4, N4.at_, fun k hk => ?_, fun k hk => bS k (mt k hk), .inr (by simp; omega), _, _, _, rfl⟩
                  rcases List.mem_append.mp hk with hk | hk
                  · exact bH k (my k hk)
                  · exact bH k (mz k hk)
                · have c' := of_decide_eq_false c
                  walk_at "rd"
                  exact ⟨h3, s1, HS, SS, g10, k9, s9, bH, bS, .inl (by omega), _, _, _, rfl⟩
              · clear g9 k9 s9 bH bS lS l4 a4 bq hm2 bi HS SS
                rintro σ J ⟨h4, s2, HS, SS, g, kh, ks, bH, bS, lm, z11, z15, z16, rfl⟩
                have lim : (2002 * (D1.length + 1) + 3 + 2) * (2 + SS.length + HS.length * (2 + SS.length)) + 3 ≤ sizeLine := lim_of (by omega)
                have lS4 : SS.length ≤ 4 := by omega
                have lH20 : HS.length ≤ 20 := by omega
                clear lm
                walk_at "rd"
                refine ⟨x, s2, h4, N, D1, SS, HS, rfl, g.ix, ok, gD1, by omega, ks, bS, kh, bH, lS4, lH20, lim, fun J1 s1 => ?_⟩
                generalize hT : (PyData.list (allD N D1 SS HS)).shown = tx
                have g1 := g.same s1
                have kh1 := s1 _ _ kh
                have ks1 := s1 _ _ ks
                clear g kh ks s1
                walk_at "rd"
                refine ⟨y, s2, h4, N, D1, SS, HS, rfl, g1.iy, ok, gD1, by omega, ks1, bS, kh1, bH, lS4, lH20, lim, fun J2 s2' => ?_⟩
                rw [hT]
                have g2 := g1.same s2'
                have kh2 := s2' _ _ kh1
                have ks2 := s2' _ _ ks1
                clear g1 kh1 ks1 s2'
                obtain ⟨dy, _, _, _, _, _, hy, _⟩ := id g2.iy
                walk_at "rd"
                have nT : (!decide (V.str tx = V.str tx)) = false := by rw [decide_eq_true rfl]; rfl
                rw [nT]
                walk_at "rd"
                refine ⟨y, N, D1, rfl, g2.iy, ok, gD1.ok, by omega, fun y2 ly3 ly4 J3 s3 _ _ _ iy2 => ?_⟩
                have iy2 := iy2.a
                have g3 := g2.same s3
                have kh3 := s3 _ _ kh2
                have ks3 := s3 _ _ ks2
                clear g2 kh2 ks2 s3 hy
                walk_at "rd"
                refine ⟨y2, s2, h4, N, D1, SS, HS, rfl, iy2, ok, gD1, by omega, ks3, bS, kh3, bH, lS4, lH20, lim, fun J4 s4 => ?_⟩
                rw [hT]
                have g4 := g3.same s4
                have kh4 := s4 _ _ kh3
                have ks4 := s4 _ _ ks3
                clear g3 kh3 ks3 s4 iy2
                walk_at "rd"
                rw [nT]
                walk_at "rd"
                obtain ⟨dx, _, _, _, _, _, hx, _⟩ := id g4.ix
                refine ⟨h4, rfl, ⟨_, SqL.lst kh4⟩, fun D6 hD => ?_⟩
                have p60 : (10 : Nat) ^ 60 = 1000000000000000000000000000000000000000000000000000000000000 := by decide +kernel
                have bT : ∀ y ∈ HS.map fun k => (iceAt N D1 k).2, y.natAbs < 10 ^ 60 := fun y hy => by
                  obtain ⟨k, hk, rfl⟩ := List.mem_map.mp hy
                  have := (ice_bnd ok gD1 (bH k hk).1).2
                  omega
                refine lc_list (K := K) (a := h4) (xs := HS.map V.int) (fun j H' => Same J4 H' ∧ H' D6 = some (.lst (((HS.take j).map fun k => (iceAt N D1 k).2).map V.int))) ⟨Same.new _ hD, upd_same⟩ (fun j H' _ h => SqL.lst (h.1 _ _ kh4)) ?_ ?_
                · rintro j v H3 hj ⟨s3, kD⟩
                  obtain ⟨k, hk, rfl⟩ : ∃ k, HS[j]? = some k ∧ v = .int k := by
                    rw [List.getElem?_map] at hj
                    cases e : HS[j]? with
                    | none => rw [e] at hj; cases hj
                    | some k => rw [e] at hj; exact ⟨k, rfl, (Option.some.inj hj).symm⟩
                  have bk := bH k (List.mem_of_getElem? hk)
                  have hx3 := s3 _ _ hx
                  walk_at "rd"
                  refine thick_e (g4.ix.same s3) ok gD1 (by omega) bk.1 bk.2 ?_
                  refine ⟨_, kD, small1000 (by simp; omega), Same.upd s3 hD, ?_⟩
                  rw [upd_same, take_succ_of hk, List.map_append, List.map_append]; rfl
                · rintro H3 ⟨s3, kD⟩
                  rw [List.length_map, List.take_length] at kD
                  have g5 := g4.same s3
                  have kh5 := s3 _ _ kh4
                  have ks5 := s3 _ _ ks4
                  clear g4 kh4 ks4 s3 hx hD
                  walk_at "rd"
                  refine i_repr ((Sm.lst (k := 0) (L := 650) kD (ints_sm9 bT)).rp (by omega) (big_le (by simp; omega))) ?_
                  clear kD
                  walk_at "rd"
                  refine ⟨h4, rfl, ⟨_, SqL.lst kh5⟩, fun D7 hD => ?_⟩
                  refine lc_list (K := K) (a := h4) (xs := HS.map V.int) (fun j H' => Same H3 H' ∧ H' D7 = some (.lst (((HS.take j).map fun k => (iceAt N D1 k).2).map V.int))) ⟨Same.new _ hD, upd_same⟩ (fun j H' _ h => SqL.lst (h.1 _ _ kh5)) ?_ ?_
                  · rintro j v H4 hj ⟨s3, kD⟩
                    obtain ⟨k, hk, rfl⟩ : ∃ k, HS[j]? = some k ∧ v = .int k := by
                      rw [List.getElem?_map] at hj
                      cases e : HS[j]? with
                      | none => rw [e] at hj; cases hj
                      | some k => rw [e] at hj; exact ⟨k, rfl, (Option.some.inj hj).symm⟩
                    have bk := bH k (List.mem_of_getElem? hk)
                    have g6 := g5.same s3
                    walk_at "rd"
                    refine ⟨p, dc, r, N, rs, R, D1, k, rfl, g6.kp, ok, g6.kR, g6.pR, pm1, gD1, by omega, bk.1, bk.2, fun H5 s5 => ?_⟩
                    refine ⟨_, s5 _ _ kD, small1000 (by simp; omega), Same.upd (s3.trans s5) hD, ?_⟩
                    rw [upd_same, take_succ_of hk, List.map_append, List.map_append]; rfl
                  · rintro H4 ⟨s3, kD⟩
                    rw [List.length_map, List.take_length] at kD
                    have g6 := g5.same s3
                    have kh6 := s3 _ _ kh5
                    have ks6 := s3 _ _ ks5
                    clear g5 kh5 ks5 s3 hD
                    walk_at "rd"
                    refine i_repr ((Sm.lst (k := 0) (L := 650) kD (ints_sm9 bT)).rp (by omega) (big_le (by simp; omega))) ?_
                    clear kD
                    walk_at "rd"
                    rw [decide_eq_true rfl]
                    walk_at "rd"
                    refine ⟨x, s2, h4, N, D1, SS, HS, rfl, g6.ix, ok, gD1, by omega, ks6, bS, kh6, bH, fun H5 s5 => ?_⟩
                    have g7 := g6.same s5
                    have kh7 := s5 _ _ kh6
                    have ks7 := s5 _ _ ks6
                    walk_at "rd"
                    refine ⟨w, s2, h4, N, D2, SS, HS, rfl, g7.iw, ok, gD2, by omega, ks7, bS, kh7, bH, fun H6 s6 => ?_⟩
                    have g8 := g7.same s6
                    have kh8 := s6 _ _ kh7
                    have ks8 := s6 _ _ ks7
                    walk_at "rd"
                    refine ⟨x, w, s2, h4, N, D1, D2, SS, HS, rfl, g8.ix, g8.iw, ok, gD1, gD2, by omega, by omega, le2, ks8, bS, kh8, bH, fun H7 s7 => ?_⟩
                    walk_at "rd"
                    exact ⟨g8.hH.trans s7, _, _, _, _, _, _, _, _, _, _, _, _, _, _, _, _, rfl⟩
    · rintro σ H0 ⟨sH0, z1, z2, z3, z4, z5, z6, z7, z8, z9, z10, z11, z12, z13, z14, z15, z16, rfl⟩
      walk_at "rd"
      exact q _
end

end Ice

set_option Elab.async false
set_option linter.all false
set_option maxRecDepth 100000
set_option maxHeartbeats 4000000
namespace Ice
open PySem PySem.Spec PyProof.Rows L2 TL
/-! side conditions, heaps, one step of a reading, and many -/
local macro_rules | `(tactic| walk_at "hp") => `(tactic| first | assumption | exact upd_same | exact New.at_ (by assumption) | (refine keepU ?_ (by assumption); walk_at "hp") | (refine New.app (by assumption) ?_; walk_at "hp") | (refine Same.app (by assumption) ?_; walk_at "hp") | (refine But.app (by assumption) (by assumption) ?_; walk_at "hp"))
local macro_rules | `(tactic| walk_at "sq") => `(tactic| first | assumption | exact SqL.lst (by walk_at "hp") | exact L2.Same.seq (New.same (by assumption)) (by assumption) | exact L2.Same.seq (by assumption) (by assumption))
local macro_rules | `(tactic| walk_at "len") => `(tactic| first | assumption | (simp only [List.length_cons, List.length_nil, List.length_append, List.length_map]; decide) | (refine Ice.sz_of ?_; simp only [List.length_cons, List.length_nil, List.length_append, List.length_map]; omega))
local macro_rules | `(tactic| walk_at "fresh") => `(tactic| (simp only [List.map_append, List.map_cons, List.map_nil, List.nil_append, List.cons_append]; decide +kernel))
local macro_rules | `(tactic| walk_at "sd") => `(tactic| first | assumption | (show _ ≠ _; omega) | exact Or.inl ⟨by omega, by omega⟩ | exact Or.inr ⟨by omega, by omega⟩ | exact ⟨by decide, by decide⟩ | exact ⟨by decide, by decide, by decide⟩ | exact ⟨by omega, by omega, by omega⟩)
/-! one step of a reading, and many -/
local macro_rules | `(tactic| walk_at "st") => `(tactic| first
  | with_reducible refine i_seq ?_
  | with_reducible refine i_if ?_
  | with_reducible refine i_next ?_
  | with_reducible refine i_ret ?_
  | with_reducible refine i_retN ?_
  | with_reducible refine i_drop ?_
  | with_reducible refine i_asg ?_
  | with_reducible refine i_gname ?_
  | with_reducible refine i_gsub ?_
  | ((with_reducible refine i_var (v := ?vv) ?hv ?_); (case hv => exact rfl))
  | with_reducible refine i_c ?_
  | with_reducible refine i_op ?_
  | with_reducible refine i_un ?_
  | with_reducible refine i_test ?_
  | with_reducible refine i_tB ?_
  | with_reducible refine i_and ?_
  | with_reducible refine i_or ?_
  | with_reducible refine i_not ?_
  | with_reducible refine i_andV ?_
  | with_reducible refine i_orV ?_
  | with_reducible refine i_notV ?_
  | with_reducible refine i_ifE ?_
  | with_reducible refine i_chain ?_
  | with_reducible refine i_bl ?_
  | with_reducible refine i_nil ?_
  | with_reducible refine i_cons ?_
  | with_reducible refine i_call ?_
  | with_reducible refine i_cb ?_
  | with_reducible refine i_rI0 ?_
  | with_reducible refine i_rU ?_
  | ((with_reducible refine i_rEq ?hs ?_); (case hs => exact rfl))
  | ((with_reducible refine i_rNe ?hs ?_); (case hs => exact rfl))
  | ((with_reducible refine i_rI ?hc ?_); (case hc => walk_at "sd"))
  | ((with_reducible refine i_ixL (xs := ?xs) (v := ?vv) ?hS ?he ?_); (case hS => walk_at "sq"); (case he => exact rfl))
  | ((with_reducible refine i_setL (xs := ?xs) (j := ?jj) ?hS ?he ?_); (case hS => walk_at "hp"); (case he => exact rfl))
  | with_reducible refine i_tup ?_
  | with_reducible refine i_lst ?_
  | with_reducible refine i_bm ?_
  | with_reducible refine i_bm0 ?_
  | with_reducible refine i_m1 ?_
  | with_reducible refine i_sl ?_
  | with_reducible refine i_nopart ?_
  | with_reducible refine i_part ?_
  | with_reducible refine i_int ?_
  | with_reducible refine i_str ?_
  | with_reducible refine i_for ?_
  | with_reducible refine i_yes ?_
  | ((with_reducible refine i_lenL (xs := ?xs) ?hS ?_); (case hS => walk_at "sq"))
  | ((with_reducible refine i_room ?hz ?_); (case hz => walk_at "len"))
  | with_reducible refine i_leT ?_
  | with_reducible refine i_notInS ?_
  | with_reducible refine i_inS ?_
  | with_reducible refine i_find ?_
  | with_reducible refine i_isB ?_
  | with_reducible refine i_max2 ?_
  | with_reducible refine i_min2 ?_
  | with_reducible exact trivial
  | with_reducible refine iteT ?_
  | with_reducible refine iteF ?_
  | with_reducible refine i_isstr ?_
  | with_reducible refine i_lc ?_
  | ((with_reducible refine i_cat (xs := ?xs) (zs := ?zs) ?ha ?hb ?hz ?_); (case ha => walk_at "hp"); (case hb => walk_at "hp"); (case hz => walk_at "len"))
  | ((with_reducible refine i_tyL (xs := ?xs) ?ha ?_); (case ha => walk_at "hp"))
  | with_reducible refine i_list ?_
  | with_reducible refine i_disp ?_
  | with_reducible refine i_pairs0 ?_
  | with_reducible refine i_pairs ?_
  | with_reducible refine i_newK ?_
  | with_reducible refine i_gcons ?_
  | with_reducible refine i_gnil ?_
  | with_reducible refine i_revL ?_
  | with_reducible refine i_rng1 ?_
  | ((with_reducible refine i_wipe ?hw ?_); (case hw => exact rfl))
  | with_reducible refine iteNT ?_
  | with_reducible refine iteNF ?_)
local macro_rules | `(tactic| walk_at "rd") => `(tactic| repeat (walk_at "st"))

theorem all_mk {l : PySem.W.OpenLaw} {w : World} {K : PySem.W.Frag} {h : Heap} {mg : Str → Option Value} {fa : Addr} (X : K.In h) (G : h.Ns mainGlobals mg) (hfa : mg "law" = some (.ref fa))
    {f0 : Addr} {od0 an0 : Option Addr} {sl0 : Array (Option Value)} {oc0 kV0 dc0 pm0 cd0 ct0 : Value}
    {f1 : Addr} {od1 an1 : Option Addr} {sl1 : Array (Option Value)} {oc1 kV1 dc1 pm1 cd1 ct1 : Value}
    {f2 : Addr} {od2 an2 : Option Addr} {sl2 : Array (Option Value)} {oc2 kV2 dc2 pm2 cd2 ct2 : Value}
    {f3 : Addr} {od3 an3 : Option Addr} {sl3 : Array (Option Value)} {oc3 kV3 dc3 pm3 cd3 ct3 : Value}
    {f4 : Addr} {od4 an4 : Option Addr} {sl4 : Array (Option Value)} {oc4 kV4 dc4 pm4 cd4 ct4 : Value}
    {f5 : Addr} {od5 an5 : Option Addr} {sl5 : Array (Option Value)} {oc5 kV5 dc5 pm5 cd5 ct5 : Value}
    {f6 : Addr} {od6 an6 : Option Addr} {sl6 : Array (Option Value)} {oc6 kV6 dc6 pm6 cd6 ct6 : Value}
    {f7 : Addr} {od7 an7 : Option Addr} {sl7 : Array (Option Value)} {oc7 kV7 dc7 pm7 cd7 ct7 : Value}
    {f8 : Addr} {od8 an8 : Option Addr} {sl8 : Array (Option Value)} {oc8 kV8 dc8 pm8 cd8 ct8 : Value}
    {f9 : Addr} {od9 an9 : Option Addr} {sl9 : Array (Option Value)} {oc9 kV9 dc9 pm9 cd9 ct9 : Value}
    {f10 : Addr} {od10 an10 : Option Addr} {sl10 : Array (Option Value)} {oc10 kV10 dc10 pm10 cd10 ct10 : Value}
    {f11 : Addr} {od11 an11 : Option Addr} {sl11 : Array (Option Value)} {oc11 kV11 dc11 pm11 cd11 ct11 : Value}
    {f12 : Addr} {od12 an12 : Option Addr} {sl12 : Array (Option Value)} {oc12 kV12 dc12 pm12 cd12 ct12 : Value}
    {f13 : Addr} {od13 an13 : Option Addr} {sl13 : Array (Option Value)} {oc13 kV13 dc13 pm13 cd13 ct13 : Value}
    {f14 : Addr} {od14 an14 : Option Addr} {sl14 : Array (Option Value)} {oc14 kV14 dc14 pm14 cd14 ct14 : Value}
    {f15 : Addr} {od15 an15 : Option Addr} {sl15 : Array (Option Value)} {oc15 kV15 dc15 pm15 cd15 ct15 : Value}
    {f16 : Addr} {od16 an16 : Option Addr} {sl16 : Array (Option Value)} {oc16 kV16 dc16 pm16 cd16 ct16 : Value}
    {f17 : Addr} {od17 an17 : Option Addr} {sl17 : Array (Option Value)} {oc17 kV17 dc17 pm17 cd17 ct17 : Value}
    {f18 : Addr} {od18 an18 : Option Addr} {sl18 : Array (Option Value)} {oc18 kV18 dc18 pm18 cd18 ct18 : Value}
    {f19 : Addr} {od19 an19 : Option Addr} {sl19 : Array (Option Value)} {oc19 kV19 dc19 pm19 cd19 ct19 : Value}
    {f20 : Addr} {od20 an20 : Option Addr} {sl20 : Array (Option Value)} {oc20 kV20 dc20 pm20 cd20 ct20 : Value}
    {f21 : Addr} {od21 an21 : Option Addr} {sl21 : Array (Option Value)} {oc21 kV21 dc21 pm21 cd21 ct21 : Value}
    {f22 : Addr} {od22 an22 : Option Addr} {sl22 : Array (Option Value)} {oc22 kV22 dc22 pm22 cd22 ct22 : Value}
    {f23 : Addr} {od23 an23 : Option Addr} {sl23 : Array (Option Value)} {oc23 kV23 dc23 pm23 cd23 ct23 : Value}
    {f24 : Addr} {od24 an24 : Option Addr} {sl24 : Array (Option Value)} {oc24 kV24 dc24 pm24 cd24 ct24 : Value}
    {f25 : Addr} {od25 an25 : Option Addr} {sl25 : Array (Option Value)} {oc25 kV25 dc25 pm25 cd25 ct25 : Value}
    {f26 : Addr} {od26 an26 : Option Addr} {sl26 : Array (Option Value)} {oc26 kV26 dc26 pm26 cd26 ct26 : Value}
    {f27 : Addr} {od27 an27 : Option Addr} {sl27 : Array (Option Value)} {oc27 kV27 dc27 pm27 cd27 ct27 : Value}
    {f28 : Addr} {od28 an28 : Option Addr} {sl28 : Array (Option Value)} {oc28 kV28 dc28 pm28 cd28 ct28 : Value}
    {f29 : Addr} {od29 an29 : Option Addr} {sl29 : Array (Option Value)} {oc29 kV29 dc29 pm29 cd29 ct29 : Value}
    {f30 : Addr} {od30 an30 : Option Addr} {sl30 : Array (Option Value)} {oc30 kV30 dc30 pm30 cd30 ct30 : Value}
    {f31 : Addr} {od31 an31 : Option Addr} {sl31 : Array (Option Value)} {oc31 kV31 dc31 pm31 cd31 ct31 : Value}
    {f32 : Addr} {od32 an32 : Option Addr} {sl32 : Array (Option Value)} {oc32 kV32 dc32 pm32 cd32 ct32 : Value}
    {f33 : Addr} {od33 an33 : Option Addr} {sl33 : Array (Option Value)} {oc33 kV33 dc33 pm33 cd33 ct33 : Value}
    {f34 : Addr} {od34 an34 : Option Addr} {sl34 : Array (Option Value)} {oc34 kV34 dc34 pm34 cd34 ct34 : Value}
    {f35 : Addr} {od35 an35 : Option Addr} {sl35 : Array (Option Value)} {oc35 kV35 dc35 pm35 cd35 ct35 : Value}
    {f36 : Addr} {od36 an36 : Option Addr} {sl36 : Array (Option Value)} {oc36 kV36 dc36 pm36 cd36 ct36 : Value}
    {f37 : Addr} {od37 an37 : Option Addr} {sl37 : Array (Option Value)} {oc37 kV37 dc37 pm37 cd37 ct37 : Value}
    {f38 : Addr} {od38 an38 : Option Addr} {sl38 : Array (Option Value)} {oc38 kV38 dc38 pm38 cd38 ct38 : Value}
    {f39 : Addr} {od39 an39 : Option Addr} {sl39 : Array (Option Value)} {oc39 kV39 dc39 pm39 cd39 ct39 : Value}
    {f40 : Addr} {od40 an40 : Option Addr} {sl40 : Array (Option Value)} {oc40 kV40 dc40 pm40 cd40 ct40 : Value}
    {f41 : Addr} {od41 an41 : Option Addr} {sl41 : Array (Option Value)} {oc41 kV41 dc41 pm41 cd41 ct41 : Value}
    {f42 : Addr} {od42 an42 : Option Addr} {sl42 : Array (Option Value)} {oc42 kV42 dc42 pm42 cd42 ct42 : Value}
    {f43 : Addr} {od43 an43 : Option Addr} {sl43 : Array (Option Value)} {oc43 kV43 dc43 pm43 cd43 ct43 : Value}
    {f44 : Addr} {od44 an44 : Option Addr} {sl44 : Array (Option Value)} {oc44 kV44 dc44 pm44 cd44 ct44 : Value}
    {f45 : Addr} {od45 an45 : Option Addr} {sl45 : Array (Option Value)} {oc45 kV45 dc45 pm45 cd45 ct45 : Value}
    {f46 : Addr} {od46 an46 : Option Addr} {sl46 : Array (Option Value)} {oc46 kV46 dc46 pm46 cd46 ct46 : Value}
    {f47 : Addr} {od47 an47 : Option Addr} {sl47 : Array (Option Value)} {oc47 kV47 dc47 pm47 cd47 ct47 : Value}
    {f48 : Addr} {od48 an48 : Option Addr} {sl48 : Array (Option Value)} {oc48 kV48 dc48 pm48 cd48 ct48 : Value}
    {f49 : Addr} {od49 an49 : Option Addr} {sl49 : Array (Option Value)} {oc49 kV49 dc49 pm49 cd49 ct49 : Value}
    {f50 : Addr} {od50 an50 : Option Addr} {sl50 : Array (Option Value)} {oc50 kV50 dc50 pm50 cd50 ct50 : Value}
    {t_NAME_MOST : Tok}
    {t_HOURS_MOST : Tok}
    {t_DEPTH_MOST : Tok}
    {t_GROWTH_MOST : Tok}
    {t_THICK_MOST : Tok}
    {t_BEGIN_MOST : Tok}
    {t_ASKED_HOUR_MOST : Tok}
    {t_BREAKING_HOUR_MOST : Tok}
    {t_CUT_MOST : Tok}
    {t_STRENGTH_MOST : Tok}
    {t_BREAKINGS_MOST : Tok}
    {C_IceError : Addr}
    {C_NoName : Addr}
    {nm_NoName q_NoName : Str} {N_NoName : Addr} {bs_NoName bm_NoName : List Value} {sn_NoName : List Str} {su_NoName : List Value} {ab_NoName : Bool} {co_NoName : Option Bool} {dd_NoName : Option Addr} {m0_NoName m1_NoName m2_NoName m3_NoName m5_NoName : Option Value}
    {C_NoNumber : Addr}
    {nm_NoNumber q_NoNumber : Str} {N_NoNumber : Addr} {bs_NoNumber bm_NoNumber : List Value} {sn_NoNumber : List Str} {su_NoNumber : List Value} {ab_NoNumber : Bool} {co_NoNumber : Option Bool} {dd_NoNumber : Option Addr} {m0_NoNumber m1_NoNumber m2_NoNumber m3_NoNumber m5_NoNumber : Option Value}
    {C_Doubled : Addr}
    {nm_Doubled q_Doubled : Str} {N_Doubled : Addr} {bs_Doubled bm_Doubled : List Value} {sn_Doubled : List Str} {su_Doubled : List Value} {ab_Doubled : Bool} {co_Doubled : Option Bool} {dd_Doubled : Option Addr} {m0_Doubled m1_Doubled m2_Doubled m3_Doubled m5_Doubled : Option Value}
    {C_NoChannel : Addr}
    {nm_NoChannel q_NoChannel : Str} {N_NoChannel : Addr} {bs_NoChannel bm_NoChannel : List Value} {sn_NoChannel : List Str} {su_NoChannel : List Value} {ab_NoChannel : Bool} {co_NoChannel : Option Bool} {dd_NoChannel : Option Addr} {m0_NoChannel m1_NoChannel m2_NoChannel m3_NoChannel m5_NoChannel : Option Value}
    {C_NoHour : Addr}
    {nm_NoHour q_NoHour : Str} {N_NoHour : Addr} {bs_NoHour bm_NoHour : List Value} {sn_NoHour : List Str} {su_NoHour : List Value} {ab_NoHour : Bool} {co_NoHour : Option Bool} {dd_NoHour : Option Addr} {m0_NoHour m1_NoHour m2_NoHour m3_NoHour m5_NoHour : Option Value}
    {C_TooMany : Addr}
    {nm_TooMany q_TooMany : Str} {N_TooMany : Addr} {bs_TooMany bm_TooMany : List Value} {sn_TooMany : List Str} {su_TooMany : List Value} {ab_TooMany : Bool} {co_TooMany : Option Bool} {dd_TooMany : Option Addr} {m0_TooMany m1_TooMany m2_TooMany m3_TooMany m5_TooMany : Option Value}
    {C_NoEntry : Addr}
    {nm_NoEntry q_NoEntry : Str} {N_NoEntry : Addr} {bs_NoEntry bm_NoEntry : List Value} {sn_NoEntry : List Str} {su_NoEntry : List Value} {ab_NoEntry : Bool} {co_NoEntry : Option Bool} {dd_NoEntry : Option Addr} {m0_NoEntry m1_NoEntry m2_NoEntry m3_NoEntry m5_NoEntry : Option Value}
    {C_Channel : Addr}
    {C_Ice : Addr}
    (g_IceError : PySem.W.nsIn K mainGlobals "IceError" = some (some (.ref C_IceError)))
    (sp_IceError : PySem.W.specialIn K (.ref C_IceError) "__getattribute__" = some (some (.builtin "type.__getattribute__")))
    (ty_IceError : PySem.W.typeIn K (.ref C_IceError) = some (.type "type"))
    (rd_IceError : PySem.W.readsIn K C_IceError (.type "type") = true)
    (fc_IceError : PySem.W.findCls K (.ref C_IceError) (.type "type") "__init__" = some (.val (.builtin "ValueError.__init__")))
    (g_NoName : PySem.W.nsIn K mainGlobals "NoName" = some (some (.ref C_NoName)))
    (xl_NoName : K.lookup C_NoName = some (excClassObj nm_NoName q_NoName C_NoName N_NoName bs_NoName bm_NoName true sn_NoName su_NoName ab_NoName co_NoName dd_NoName m0_NoName m1_NoName m2_NoName m3_NoName m5_NoName "ValueError.__new__"))
    (hb_NoName : PySem.HandSPX.refsVE bm_NoName = true)
    (sa_NoName : PySem.W.findIn K (.ref C_NoName) "__setattr__" = some (some (.builtin "object.__setattr__")))
    (ec_NoName : PySem.W.subIn K (.ref C_NoName) (.type "BaseException") = some true)
    (tc_NoName : PySem.W.typeIn K (.ref C_NoName) = some (.type "type"))
    (kc_NoName : PySem.W.keepIn K (.ref C_NoName) = true)
    (ga_NoName : PySem.W.findIn K (.ref C_NoName) "__getattribute__" = some (some (.builtin "BaseException.__getattribute__")))
    (gg_NoName : PySem.W.findIn K (.ref C_NoName) "__getattr__" = some none)
    (hd_NoName : PySem.W.hasDictIn K C_NoName = true)
    (in_NoName : PySem.W.findIn K (.ref C_NoName) "__init__" = some (some (.ref f25)))
    (tf_NoName : PySem.W.typeIn K (.ref f25) = some (.type "function"))
    (nf_NoName_found : PySem.W.findIn K (.ref C_NoName) "found" = some none)
    (g_NoNumber : PySem.W.nsIn K mainGlobals "NoNumber" = some (some (.ref C_NoNumber)))
    (xl_NoNumber : K.lookup C_NoNumber = some (excClassObj nm_NoNumber q_NoNumber C_NoNumber N_NoNumber bs_NoNumber bm_NoNumber true sn_NoNumber su_NoNumber ab_NoNumber co_NoNumber dd_NoNumber m0_NoNumber m1_NoNumber m2_NoNumber m3_NoNumber m5_NoNumber "ValueError.__new__"))
    (hb_NoNumber : PySem.HandSPX.refsVE bm_NoNumber = true)
    (sa_NoNumber : PySem.W.findIn K (.ref C_NoNumber) "__setattr__" = some (some (.builtin "object.__setattr__")))
    (ec_NoNumber : PySem.W.subIn K (.ref C_NoNumber) (.type "BaseException") = some true)
    (tc_NoNumber : PySem.W.typeIn K (.ref C_NoNumber) = some (.type "type"))
    (kc_NoNumber : PySem.W.keepIn K (.ref C_NoNumber) = true)
    (ga_NoNumber : PySem.W.findIn K (.ref C_NoNumber) "__getattribute__" = some (some (.builtin "BaseException.__getattribute__")))
    (gg_NoNumber : PySem.W.findIn K (.ref C_NoNumber) "__getattr__" = some none)
    (hd_NoNumber : PySem.W.hasDictIn K C_NoNumber = true)
    (in_NoNumber : PySem.W.findIn K (.ref C_NoNumber) "__init__" = some (some (.ref f26)))
    (tf_NoNumber : PySem.W.typeIn K (.ref f26) = some (.type "function"))
    (nf_NoNumber_found : PySem.W.findIn K (.ref C_NoNumber) "found" = some none)
    (g_Doubled : PySem.W.nsIn K mainGlobals "Doubled" = some (some (.ref C_Doubled)))
    (xl_Doubled : K.lookup C_Doubled = some (excClassObj nm_Doubled q_Doubled C_Doubled N_Doubled bs_Doubled bm_Doubled true sn_Doubled su_Doubled ab_Doubled co_Doubled dd_Doubled m0_Doubled m1_Doubled m2_Doubled m3_Doubled m5_Doubled "ValueError.__new__"))
    (hb_Doubled : PySem.HandSPX.refsVE bm_Doubled = true)
    (sa_Doubled : PySem.W.findIn K (.ref C_Doubled) "__setattr__" = some (some (.builtin "object.__setattr__")))
    (ec_Doubled : PySem.W.subIn K (.ref C_Doubled) (.type "BaseException") = some true)
    (tc_Doubled : PySem.W.typeIn K (.ref C_Doubled) = some (.type "type"))
    (kc_Doubled : PySem.W.keepIn K (.ref C_Doubled) = true)
    (ga_Doubled : PySem.W.findIn K (.ref C_Doubled) "__getattribute__" = some (some (.builtin "BaseException.__getattribute__")))
    (gg_Doubled : PySem.W.findIn K (.ref C_Doubled) "__getattr__" = some none)
    (hd_Doubled : PySem.W.hasDictIn K C_Doubled = true)
    (in_Doubled : PySem.W.findIn K (.ref C_Doubled) "__init__" = some (some (.ref f27)))
    (tf_Doubled : PySem.W.typeIn K (.ref f27) = some (.type "function"))
    (nf_Doubled_name : PySem.W.findIn K (.ref C_Doubled) "name" = some none)
    (g_NoChannel : PySem.W.nsIn K mainGlobals "NoChannel" = some (some (.ref C_NoChannel)))
    (xl_NoChannel : K.lookup C_NoChannel = some (excClassObj nm_NoChannel q_NoChannel C_NoChannel N_NoChannel bs_NoChannel bm_NoChannel true sn_NoChannel su_NoChannel ab_NoChannel co_NoChannel dd_NoChannel m0_NoChannel m1_NoChannel m2_NoChannel m3_NoChannel m5_NoChannel "ValueError.__new__"))
    (hb_NoChannel : PySem.HandSPX.refsVE bm_NoChannel = true)
    (sa_NoChannel : PySem.W.findIn K (.ref C_NoChannel) "__setattr__" = some (some (.builtin "object.__setattr__")))
    (ec_NoChannel : PySem.W.subIn K (.ref C_NoChannel) (.type "BaseException") = some true)
    (tc_NoChannel : PySem.W.typeIn K (.ref C_NoChannel) = some (.type "type"))
    (kc_NoChannel : PySem.W.keepIn K (.ref C_NoChannel) = true)
    (ga_NoChannel : PySem.W.findIn K (.ref C_NoChannel) "__getattribute__" = some (some (.builtin "BaseException.__getattribute__")))
    (gg_NoChannel : PySem.W.findIn K (.ref C_NoChannel) "__getattr__" = some none)
    (hd_NoChannel : PySem.W.hasDictIn K C_NoChannel = true)
    (in_NoChannel : PySem.W.findIn K (.ref C_NoChannel) "__init__" = some (some (.ref f28)))
    (tf_NoChannel : PySem.W.typeIn K (.ref f28) = some (.type "function"))
    (nf_NoChannel_found : PySem.W.findIn K (.ref C_NoChannel) "found" = some none)
    (g_NoHour : PySem.W.nsIn K mainGlobals "NoHour" = some (some (.ref C_NoHour)))
    (xl_NoHour : K.lookup C_NoHour = some (excClassObj nm_NoHour q_NoHour C_NoHour N_NoHour bs_NoHour bm_NoHour true sn_NoHour su_NoHour ab_NoHour co_NoHour dd_NoHour m0_NoHour m1_NoHour m2_NoHour m3_NoHour m5_NoHour "ValueError.__new__"))
    (hb_NoHour : PySem.HandSPX.refsVE bm_NoHour = true)
    (sa_NoHour : PySem.W.findIn K (.ref C_NoHour) "__setattr__" = some (some (.builtin "object.__setattr__")))
    (ec_NoHour : PySem.W.subIn K (.ref C_NoHour) (.type "BaseException") = some true)
    (tc_NoHour : PySem.W.typeIn K (.ref C_NoHour) = some (.type "type"))
    (kc_NoHour : PySem.W.keepIn K (.ref C_NoHour) = true)
    (ga_NoHour : PySem.W.findIn K (.ref C_NoHour) "__getattribute__" = some (some (.builtin "BaseException.__getattribute__")))
    (gg_NoHour : PySem.W.findIn K (.ref C_NoHour) "__getattr__" = some none)
    (hd_NoHour : PySem.W.hasDictIn K C_NoHour = true)
    (in_NoHour : PySem.W.findIn K (.ref C_NoHour) "__init__" = some (some (.ref f29)))
    (tf_NoHour : PySem.W.typeIn K (.ref f29) = some (.type "function"))
    (nf_NoHour_found : PySem.W.findIn K (.ref C_NoHour) "found" = some none)
    (g_TooMany : PySem.W.nsIn K mainGlobals "TooMany" = some (some (.ref C_TooMany)))
    (xl_TooMany : K.lookup C_TooMany = some (excClassObj nm_TooMany q_TooMany C_TooMany N_TooMany bs_TooMany bm_TooMany true sn_TooMany su_TooMany ab_TooMany co_TooMany dd_TooMany m0_TooMany m1_TooMany m2_TooMany m3_TooMany m5_TooMany "ValueError.__new__"))
    (hb_TooMany : PySem.HandSPX.refsVE bm_TooMany = true)
    (sa_TooMany : PySem.W.findIn K (.ref C_TooMany) "__setattr__" = some (some (.builtin "object.__setattr__")))
    (ec_TooMany : PySem.W.subIn K (.ref C_TooMany) (.type "BaseException") = some true)
    (tc_TooMany : PySem.W.typeIn K (.ref C_TooMany) = some (.type "type"))
    (kc_TooMany : PySem.W.keepIn K (.ref C_TooMany) = true)
    (ga_TooMany : PySem.W.findIn K (.ref C_TooMany) "__getattribute__" = some (some (.builtin "BaseException.__getattribute__")))
    (gg_TooMany : PySem.W.findIn K (.ref C_TooMany) "__getattr__" = some none)
    (hd_TooMany : PySem.W.hasDictIn K C_TooMany = true)
    (in_TooMany : PySem.W.findIn K (.ref C_TooMany) "__init__" = some (some (.ref f30)))
    (tf_TooMany : PySem.W.typeIn K (.ref f30) = some (.type "function"))
    (nf_TooMany_many : PySem.W.findIn K (.ref C_TooMany) "many" = some none)
    (g_NoEntry : PySem.W.nsIn K mainGlobals "NoEntry" = some (some (.ref C_NoEntry)))
    (xl_NoEntry : K.lookup C_NoEntry = some (excClassObj nm_NoEntry q_NoEntry C_NoEntry N_NoEntry bs_NoEntry bm_NoEntry true sn_NoEntry su_NoEntry ab_NoEntry co_NoEntry dd_NoEntry m0_NoEntry m1_NoEntry m2_NoEntry m3_NoEntry m5_NoEntry "ValueError.__new__"))
    (hb_NoEntry : PySem.HandSPX.refsVE bm_NoEntry = true)
    (sa_NoEntry : PySem.W.findIn K (.ref C_NoEntry) "__setattr__" = some (some (.builtin "object.__setattr__")))
    (ec_NoEntry : PySem.W.subIn K (.ref C_NoEntry) (.type "BaseException") = some true)
    (tc_NoEntry : PySem.W.typeIn K (.ref C_NoEntry) = some (.type "type"))
    (kc_NoEntry : PySem.W.keepIn K (.ref C_NoEntry) = true)
    (ga_NoEntry : PySem.W.findIn K (.ref C_NoEntry) "__getattribute__" = some (some (.builtin "BaseException.__getattribute__")))
    (gg_NoEntry : PySem.W.findIn K (.ref C_NoEntry) "__getattr__" = some none)
    (hd_NoEntry : PySem.W.hasDictIn K C_NoEntry = true)
    (in_NoEntry : PySem.W.findIn K (.ref C_NoEntry) "__init__" = some (some (.ref f31)))
    (tf_NoEntry : PySem.W.typeIn K (.ref f31) = some (.type "function"))
    (nf_NoEntry_found : PySem.W.findIn K (.ref C_NoEntry) "found" = some none)
    (g_Channel : PySem.W.nsIn K mainGlobals "Channel" = some (some (.ref C_Channel)))
    (pg_Channel : PySem.W.plainGet K C_Channel Str.empty = true)
    (hd_Channel : PySem.W.hasDictIn K C_Channel = true)
    (po_Channel : PySem.W.plainOver K C_Channel = true)
    (sa_Channel : PySem.W.findIn K (.ref C_Channel) "__setattr__" = some (some (.builtin "object.__setattr__")))
    (mk_Channel : PySem.W.makesIn K C_Channel = true)
    (in_Channel : PySem.W.findIn K (.ref C_Channel) "__init__" = some (some (.ref f32)))
    (if_Channel : PySem.W.isFn K (.ref f32) = true)
    (kc_Channel : PySem.W.keepIn K (.ref C_Channel) = true)
    (na_Channel_name : PySem.W.findIn K (.ref C_Channel) "name" = some none)
    (na_Channel_one : PySem.W.findIn K (.ref C_Channel) "one" = some none)
    (na_Channel_other : PySem.W.findIn K (.ref C_Channel) "other" = some none)
    (na_Channel_hours : PySem.W.findIn K (.ref C_Channel) "hours" = some none)
    (na_Channel_depth : PySem.W.findIn K (.ref C_Channel) "depth" = some none)
    (na_Channel_first : PySem.W.findIn K (.ref C_Channel) "first" = some none)
    (na_Channel_growth : PySem.W.findIn K (.ref C_Channel) "growth" = some none)
    (na_Channel_most : PySem.W.findIn K (.ref C_Channel) "most" = some none)
    (me_Channel_ends : PySem.W.findIn K (.ref C_Channel) "ends" = some (some (.ref f33)))
    (mi_Channel_ends : PySem.W.isFn K (.ref f33) = true)
    (g_Ice : PySem.W.nsIn K mainGlobals "Ice" = some (some (.ref C_Ice)))
    (pg_Ice : PySem.W.plainGet K C_Ice Str.empty = true)
    (hd_Ice : PySem.W.hasDictIn K C_Ice = true)
    (po_Ice : PySem.W.plainOver K C_Ice = true)
    (sa_Ice : PySem.W.findIn K (.ref C_Ice) "__setattr__" = some (some (.builtin "object.__setattr__")))
    (mk_Ice : PySem.W.makesIn K C_Ice = true)
    (in_Ice : PySem.W.findIn K (.ref C_Ice) "__init__" = some (some (.ref f34)))
    (if_Ice : PySem.W.isFn K (.ref f34) = true)
    (kc_Ice : PySem.W.keepIn K (.ref C_Ice) = true)
    (na_Ice__channel : PySem.W.findIn K (.ref C_Ice) "_channel" = some none)
    (na_Ice__begin : PySem.W.findIn K (.ref C_Ice) "_begin" = some none)
    (na_Ice__breakings : PySem.W.findIn K (.ref C_Ice) "_breakings" = some none)
    (na_Ice__pieces : PySem.W.findIn K (.ref C_Ice) "_pieces" = some none)
    (me_Ice_break_at : PySem.W.findIn K (.ref C_Ice) "break_at" = some (some (.ref f35)))
    (mi_Ice_break_at : PySem.W.isFn K (.ref f35) = true)
    (me_Ice_mend_at : PySem.W.findIn K (.ref C_Ice) "mend_at" = some (some (.ref f36)))
    (mi_Ice_mend_at : PySem.W.isFn K (.ref f36) = true)
    (me_Ice_thick : PySem.W.findIn K (.ref C_Ice) "thick" = some (some (.ref f37)))
    (mi_Ice_thick : PySem.W.isFn K (.ref f37) = true)
    (me_Ice_ahead : PySem.W.findIn K (.ref C_Ice) "ahead" = some (some (.ref f38)))
    (mi_Ice_ahead : PySem.W.isFn K (.ref f38) = true)
    (me_Ice_breakings : PySem.W.findIn K (.ref C_Ice) "breakings" = some (some (.ref f39)))
    (mi_Ice_breakings : PySem.W.isFn K (.ref f39) = true)
    (me_Ice_rows : PySem.W.findIn K (.ref C_Ice) "rows" = some (some (.ref f40)))
    (mi_Ice_rows : PySem.W.isFn K (.ref f40) = true)
    (me_Ice_next_hour : PySem.W.findIn K (.ref C_Ice) "next_hour" = some (some (.ref f41)))
    (mi_Ice_next_hour : PySem.W.isFn K (.ref f41) = true)
    (me_Ice_last_hour : PySem.W.findIn K (.ref C_Ice) "last_hour" = some (some (.ref f42)))
    (mi_Ice_last_hour : PySem.W.isFn K (.ref f42) = true)
    (me_Ice_stretches : PySem.W.findIn K (.ref C_Ice) "stretches" = some (some (.ref f43)))
    (mi_Ice_stretches : PySem.W.isFn K (.ref f43) = true)
    (me_Ice_copied : PySem.W.findIn K (.ref C_Ice) "copied" = some (some (.ref f44)))
    (mi_Ice_copied : PySem.W.isFn K (.ref f44) = true)
    (me_Ice__keep : PySem.W.findIn K (.ref C_Ice) "_keep" = some (some (.ref f45)))
    (mi_Ice__keep : PySem.W.isFn K (.ref f45) = true)
    (me_Ice__grown : PySem.W.findIn K (.ref C_Ice) "_grown" = some (some (.ref f46)))
    (mi_Ice__grown : PySem.W.isFn K (.ref f46) = true)
    (me_Ice__piece_of : PySem.W.findIn K (.ref C_Ice) "_piece_of" = some (some (.ref f47)))
    (mi_Ice__piece_of : PySem.W.isFn K (.ref f47) = true)
    (me_Ice__end_of : PySem.W.findIn K (.ref C_Ice) "_end_of" = some (some (.ref f48)))
    (mi_Ice__end_of : PySem.W.isFn K (.ref f48) = true)
    (me_Ice__check_hour : PySem.W.findIn K (.ref C_Ice) "_check_hour" = some (some (.ref f49)))
    (mi_Ice__check_hour : PySem.W.isFn K (.ref f49) = true)
    (me_Ice__check_breaking : PySem.W.findIn K (.ref C_Ice) "_check_breaking" = some (some (.ref f50)))
    (mi_Ice__check_breaking : PySem.W.isFn K (.ref f50) = true)
    (sgc : PySem.W.specialIn K (.builtin "object.__class__") "__get__" = some (some (.builtin "getset_descriptor.__get__")))
    (tkc : PySem.W.takesIn K (.builtin "object.__class__") = some true)
    (ca_Channel : PySem.W.findIn K (.ref C_Channel) "__class__" = some (some (.builtin "object.__class__")))
    (mo_Channel : PySem.W.mroIn K C_Channel (.type "object") = some true)
    (io_Channel_Channel : PySem.W.kitOne K (.ref C_Channel) (.ref C_Channel) = some true)
    (ca_Ice : PySem.W.findIn K (.ref C_Ice) "__class__" = some (some (.builtin "object.__class__")))
    (mo_Ice : PySem.W.mroIn K C_Ice (.type "object") = some true)
    (io_Ice_Channel : PySem.W.kitOne K (.ref C_Ice) (.ref C_Channel) = some false)
    (a0 : PySem.W.nsIn K mainGlobals "is_whole" = some (some (.ref f0)))
    (l0 : K.lookup f0 = some ⟨oc0, od0, .func (PySem.W.fnOf "is_whole" "is_whole" (defArgs s_is_whole) (defBody s_is_whole) (defScope s_is_whole) .none kV0 dc0 pm0 an0 cd0 ct0), sl0⟩)
    (p0 : PySem.W.codeIn K cd0 "is_whole" = true)
    (k0 : PySem.W.keepIn K (.ref f0) = true)
    (a1 : PySem.W.nsIn K mainGlobals "is_within" = some (some (.ref f1)))
    (l1 : K.lookup f1 = some ⟨oc1, od1, .func (PySem.W.fnOf "is_within" "is_within" (defArgs s_is_within) (defBody s_is_within) (defScope s_is_within) .none kV1 dc1 pm1 an1 cd1 ct1), sl1⟩)
    (p1 : PySem.W.codeIn K cd1 "is_within" = true)
    (k1 : PySem.W.keepIn K (.ref f1) = true)
    (a2 : PySem.W.nsIn K mainGlobals "is_name" = some (some (.ref f2)))
    (l2 : K.lookup f2 = some ⟨oc2, od2, .func (PySem.W.fnOf "is_name" "is_name" (defArgs s_is_name) (defBody s_is_name) (defScope s_is_name) .none kV2 dc2 pm2 an2 cd2 ct2), sl2⟩)
    (p2 : PySem.W.codeIn K cd2 "is_name" = true)
    (k2 : PySem.W.keepIn K (.ref f2) = true)
    (a3 : PySem.W.nsIn K mainGlobals "_all_between" = some (some (.ref f3)))
    (l3 : K.lookup f3 = some ⟨oc3, od3, .func (PySem.W.fnOf "_all_between" "_all_between" (defArgs s_all_between) (defBody s_all_between) (defScope s_all_between) .none kV3 dc3 pm3 an3 cd3 ct3), sl3⟩)
    (p3 : PySem.W.codeIn K cd3 "_all_between" = true)
    (k3 : PySem.W.keepIn K (.ref f3) = true)
    (a4 : PySem.W.nsIn K mainGlobals "check_number" = some (some (.ref f4)))
    (l4 : K.lookup f4 = some ⟨oc4, od4, .func (PySem.W.fnOf "check_number" "check_number" (defArgs s_check_number) (defBody s_check_number) (defScope s_check_number) .none kV4 dc4 pm4 an4 cd4 ct4), sl4⟩)
    (p4 : PySem.W.codeIn K cd4 "check_number" = true)
    (k4 : PySem.W.keepIn K (.ref f4) = true)
    (a5 : PySem.W.nsIn K mainGlobals "check_hour" = some (some (.ref f5)))
    (l5 : K.lookup f5 = some ⟨oc5, od5, .func (PySem.W.fnOf "check_hour" "check_hour" (defArgs s_check_hour) (defBody s_check_hour) (defScope s_check_hour) .none kV5 dc5 pm5 an5 cd5 ct5), sl5⟩)
    (p5 : PySem.W.codeIn K cd5 "check_hour" = true)
    (k5 : PySem.W.keepIn K (.ref f5) = true)
    (a6 : PySem.W.nsIn K mainGlobals "_check_names" = some (some (.ref f6)))
    (l6 : K.lookup f6 = some ⟨oc6, od6, .func (PySem.W.fnOf "_check_names" "_check_names" (defArgs s_check_names) (defBody s_check_names) (defScope s_check_names) .none kV6 dc6 pm6 an6 cd6 ct6), sl6⟩)
    (p6 : PySem.W.codeIn K cd6 "_check_names" = true)
    (k6 : PySem.W.keepIn K (.ref f6) = true)
    (a7 : PySem.W.nsIn K mainGlobals "_cuts_by_hour" = some (some (.ref f7)))
    (l7 : K.lookup f7 = some ⟨oc7, od7, .func (PySem.W.fnOf "_cuts_by_hour" "_cuts_by_hour" (defArgs s_cuts_by_hour) (defBody s_cuts_by_hour) (defScope s_cuts_by_hour) .none kV7 dc7 pm7 an7 cd7 ct7), sl7⟩)
    (p7 : PySem.W.codeIn K cd7 "_cuts_by_hour" = true)
    (k7 : PySem.W.keepIn K (.ref f7) = true)
    (a8 : PySem.W.nsIn K mainGlobals "_law_cell" = some (some (.ref f8)))
    (l8 : K.lookup f8 = some ⟨oc8, od8, .func (PySem.W.fnOf "_law_cell" "_law_cell" (defArgs s_cell) (defBody s_cell) (defScope s_cell) .none kV8 dc8 pm8 an8 cd8 ct8), sl8⟩)
    (p8 : PySem.W.codeIn K cd8 "_law_cell" = true)
    (k8 : PySem.W.keepIn K (.ref f8) = true)
    (a9 : PySem.W.nsIn K mainGlobals "_law_box" = some (some (.ref f9)))
    (l9 : K.lookup f9 = some ⟨oc9, od9, .func (PySem.W.fnOf "_law_box" "_law_box" (defArgs s_box) (defBody s_box) (defScope s_box) .none kV9 dc9 pm9 an9 cd9 ct9), sl9⟩)
    (p9 : PySem.W.codeIn K cd9 "_law_box" = true)
    (k9 : PySem.W.keepIn K (.ref f9) = true)
    (a10 : PySem.W.nsIn K mainGlobals "_law_take" = some (some (.ref f10)))
    (l10 : K.lookup f10 = some ⟨oc10, od10, .func (PySem.W.fnOf "_law_take" "_law_take" (defArgs s_take) (defBody s_take) (defScope s_take) .none kV10 dc10 pm10 an10 cd10 ct10), sl10⟩)
    (p10 : PySem.W.codeIn K cd10 "_law_take" = true)
    (k10 : PySem.W.keepIn K (.ref f10) = true)
    (a11 : PySem.W.nsIn K mainGlobals "_law_numbers" = some (some (.ref f11)))
    (l11 : K.lookup f11 = some ⟨oc11, od11, .func (PySem.W.fnOf "_law_numbers" "_law_numbers" (defArgs s_numbers) (defBody s_numbers) (defScope s_numbers) .none kV11 dc11 pm11 an11 cd11 ct11), sl11⟩)
    (p11 : PySem.W.codeIn K cd11 "_law_numbers" = true)
    (k11 : PySem.W.keepIn K (.ref f11) = true)
    (a12 : PySem.W.nsIn K mainGlobals "_law_ice" = some (some (.ref f12)))
    (l12 : K.lookup f12 = some ⟨oc12, od12, .func (PySem.W.fnOf "_law_ice" "_law_ice" (defArgs s_ice) (defBody s_ice) (defScope s_ice) .none kV12 dc12 pm12 an12 cd12 ct12), sl12⟩)
    (p12 : PySem.W.codeIn K cd12 "_law_ice" = true)
    (k12 : PySem.W.keepIn K (.ref f12) = true)
    (a13 : PySem.W.nsIn K mainGlobals "_law_cut" = some (some (.ref f13)))
    (l13 : K.lookup f13 = some ⟨oc13, od13, .func (PySem.W.fnOf "_law_cut" "_law_cut" (defArgs s_cut) (defBody s_cut) (defScope s_cut) .none kV13 dc13 pm13 an13 cd13 ct13), sl13⟩)
    (p13 : PySem.W.codeIn K cd13 "_law_cut" = true)
    (k13 : PySem.W.keepIn K (.ref f13) = true)
    (a14 : PySem.W.nsIn K mainGlobals "_law_hour" = some (some (.ref f14)))
    (l14 : K.lookup f14 = some ⟨oc14, od14, .func (PySem.W.fnOf "_law_hour" "_law_hour" (defArgs s_hour) (defBody s_hour) (defScope s_hour) .none kV14 dc14 pm14 an14 cd14 ct14), sl14⟩)
    (p14 : PySem.W.codeIn K cd14 "_law_hour" = true)
    (k14 : PySem.W.keepIn K (.ref f14) = true)
    (a15 : PySem.W.nsIn K mainGlobals "_law_turned" = some (some (.ref f15)))
    (l15 : K.lookup f15 = some ⟨oc15, od15, .func (PySem.W.fnOf "_law_turned" "_law_turned" (defArgs s_turned) (defBody s_turned) (defScope s_turned) .none kV15 dc15 pm15 an15 cd15 ct15), sl15⟩)
    (p15 : PySem.W.codeIn K cd15 "_law_turned" = true)
    (k15 : PySem.W.keepIn K (.ref f15) = true)
    (a16 : PySem.W.nsIn K mainGlobals "_law_thick" = some (some (.ref f16)))
    (l16 : K.lookup f16 = some ⟨oc16, od16, .func (PySem.W.fnOf "_law_thick" "_law_thick" (defArgs s_thick) (defBody s_thick) (defScope s_thick) .none kV16 dc16 pm16 an16 cd16 ct16), sl16⟩)
    (p16 : PySem.W.codeIn K cd16 "_law_thick" = true)
    (k16 : PySem.W.keepIn K (.ref f16) = true)
    (a17 : PySem.W.nsIn K mainGlobals "_law_all" = some (some (.ref f17)))
    (l17 : K.lookup f17 = some ⟨oc17, od17, .func (PySem.W.fnOf "_law_all" "_law_all" (defArgs s_all) (defBody s_all) (defScope s_all) .none kV17 dc17 pm17 an17 cd17 ct17), sl17⟩)
    (p17 : PySem.W.codeIn K cd17 "_law_all" = true)
    (k17 : PySem.W.keepIn K (.ref f17) = true)
    (a18 : PySem.W.nsIn K mainGlobals "_law_next_right" = some (some (.ref f18)))
    (l18 : K.lookup f18 = some ⟨oc18, od18, .func (PySem.W.fnOf "_law_next_right" "_law_next_right" (defArgs s_next_right) (defBody s_next_right) (defScope s_next_right) .none kV18 dc18 pm18 an18 cd18 ct18), sl18⟩)
    (p18 : PySem.W.codeIn K cd18 "_law_next_right" = true)
    (k18 : PySem.W.keepIn K (.ref f18) = true)
    (a19 : PySem.W.nsIn K mainGlobals "_law_last_right" = some (some (.ref f19)))
    (l19 : K.lookup f19 = some ⟨oc19, od19, .func (PySem.W.fnOf "_law_last_right" "_law_last_right" (defArgs s_last_right) (defBody s_last_right) (defScope s_last_right) .none kV19 dc19 pm19 an19 cd19 ct19), sl19⟩)
    (p19 : PySem.W.codeIn K cd19 "_law_last_right" = true)
    (k19 : PySem.W.keepIn K (.ref f19) = true)
    (a20 : PySem.W.nsIn K mainGlobals "_law_stretches_right" = some (some (.ref f20)))
    (l20 : K.lookup f20 = some ⟨oc20, od20, .func (PySem.W.fnOf "_law_stretches_right" "_law_stretches_right" (defArgs s_stretches_right) (defBody s_stretches_right) (defScope s_stretches_right) .none kV20 dc20 pm20 an20 cd20 ct20), sl20⟩)
    (p20 : PySem.W.codeIn K cd20 "_law_stretches_right" = true)
    (k20 : PySem.W.keepIn K (.ref f20) = true)
    (a21 : PySem.W.nsIn K mainGlobals "_law_more_right" = some (some (.ref f21)))
    (l21 : K.lookup f21 = some ⟨oc21, od21, .func (PySem.W.fnOf "_law_more_right" "_law_more_right" (defArgs s_more_right) (defBody s_more_right) (defScope s_more_right) .none kV21 dc21 pm21 an21 cd21 ct21), sl21⟩)
    (p21 : PySem.W.codeIn K cd21 "_law_more_right" = true)
    (k21 : PySem.W.keepIn K (.ref f21) = true)
    (a22 : PySem.W.nsIn K mainGlobals "_law_told" = some (some (.ref f22)))
    (l22 : K.lookup f22 = some ⟨oc22, od22, .func (PySem.W.fnOf "_law_told" "_law_told" (defArgs s_told) (defBody s_told) (defScope s_told) .none kV22 dc22 pm22 an22 cd22 ct22), sl22⟩)
    (p22 : PySem.W.codeIn K cd22 "_law_told" = true)
    (k22 : PySem.W.keepIn K (.ref f22) = true)
    (a23 : PySem.W.nsIn K mainGlobals "_law_walked" = some (some (.ref f23)))
    (l23 : K.lookup f23 = some ⟨oc23, od23, .func (PySem.W.fnOf "_law_walked" "_law_walked" (defArgs s_walked) (defBody s_walked) (defScope s_walked) .none kV23 dc23 pm23 an23 cd23 ct23), sl23⟩)
    (p23 : PySem.W.codeIn K cd23 "_law_walked" = true)
    (k23 : PySem.W.keepIn K (.ref f23) = true)
    (a24 : PySem.W.nsIn K mainGlobals "law" = some (some (.ref f24)))
    (l24 : K.lookup f24 = some ⟨oc24, od24, .func (PySem.W.fnOf "law" "law" (defArgs s_law) (defBody s_law) (defScope s_law) .none kV24 dc24 pm24 an24 cd24 ct24), sl24⟩)
    (p24 : PySem.W.codeIn K cd24 "law" = true)
    (k24 : PySem.W.keepIn K (.ref f24) = true)
    (l25 : K.lookup f25 = some ⟨oc25, od25, .func (PySem.W.fnOf "__init__" "NoName.__init__" (defArgs s_NoName___init__) (defBody s_NoName___init__) (defScope s_NoName___init__) .none kV25 dc25 pm25 an25 cd25 ct25), sl25⟩)
    (p25 : PySem.W.codeIn K cd25 "NoName.__init__" = true)
    (k25 : PySem.W.keepIn K (.ref f25) = true)
    (l26 : K.lookup f26 = some ⟨oc26, od26, .func (PySem.W.fnOf "__init__" "NoNumber.__init__" (defArgs s_NoNumber___init__) (defBody s_NoNumber___init__) (defScope s_NoNumber___init__) .none kV26 dc26 pm26 an26 cd26 ct26), sl26⟩)
    (p26 : PySem.W.codeIn K cd26 "NoNumber.__init__" = true)
    (k26 : PySem.W.keepIn K (.ref f26) = true)
    (l27 : K.lookup f27 = some ⟨oc27, od27, .func (PySem.W.fnOf "__init__" "Doubled.__init__" (defArgs s_Doubled___init__) (defBody s_Doubled___init__) (defScope s_Doubled___init__) .none kV27 dc27 pm27 an27 cd27 ct27), sl27⟩)
    (p27 : PySem.W.codeIn K cd27 "Doubled.__init__" = true)
    (k27 : PySem.W.keepIn K (.ref f27) = true)
    (l28 : K.lookup f28 = some ⟨oc28, od28, .func (PySem.W.fnOf "__init__" "NoChannel.__init__" (defArgs s_NoChannel___init__) (defBody s_NoChannel___init__) (defScope s_NoChannel___init__) .none kV28 dc28 pm28 an28 cd28 ct28), sl28⟩)
    (p28 : PySem.W.codeIn K cd28 "NoChannel.__init__" = true)
    (k28 : PySem.W.keepIn K (.ref f28) = true)
    (l29 : K.lookup f29 = some ⟨oc29, od29, .func (PySem.W.fnOf "__init__" "NoHour.__init__" (defArgs s_NoHour___init__) (defBody s_NoHour___init__) (defScope s_NoHour___init__) .none kV29 dc29 pm29 an29 cd29 ct29), sl29⟩)
    (p29 : PySem.W.codeIn K cd29 "NoHour.__init__" = true)
    (k29 : PySem.W.keepIn K (.ref f29) = true)
    (l30 : K.lookup f30 = some ⟨oc30, od30, .func (PySem.W.fnOf "__init__" "TooMany.__init__" (defArgs s_TooMany___init__) (defBody s_TooMany___init__) (defScope s_TooMany___init__) .none kV30 dc30 pm30 an30 cd30 ct30), sl30⟩)
    (p30 : PySem.W.codeIn K cd30 "TooMany.__init__" = true)
    (k30 : PySem.W.keepIn K (.ref f30) = true)
    (l31 : K.lookup f31 = some ⟨oc31, od31, .func (PySem.W.fnOf "__init__" "NoEntry.__init__" (defArgs s_NoEntry___init__) (defBody s_NoEntry___init__) (defScope s_NoEntry___init__) .none kV31 dc31 pm31 an31 cd31 ct31), sl31⟩)
    (p31 : PySem.W.codeIn K cd31 "NoEntry.__init__" = true)
    (k31 : PySem.W.keepIn K (.ref f31) = true)
    (l32 : K.lookup f32 = some ⟨oc32, od32, .func (PySem.W.fnOf "__init__" "Channel.__init__" (defArgs s_Channel___init__) (defBody s_Channel___init__) (defScope s_Channel___init__) .none kV32 dc32 pm32 an32 cd32 ct32), sl32⟩)
    (p32 : PySem.W.codeIn K cd32 "Channel.__init__" = true)
    (k32 : PySem.W.keepIn K (.ref f32) = true)
    (l33 : K.lookup f33 = some ⟨oc33, od33, .func (PySem.W.fnOf "ends" "Channel.ends" (defArgs s_Channel_ends) (defBody s_Channel_ends) (defScope s_Channel_ends) .none kV33 dc33 pm33 an33 cd33 ct33), sl33⟩)
    (p33 : PySem.W.codeIn K cd33 "Channel.ends" = true)
    (k33 : PySem.W.keepIn K (.ref f33) = true)
    (l34 : K.lookup f34 = some ⟨oc34, od34, .func (PySem.W.fnOf "__init__" "Ice.__init__" (defArgs s_Ice___init__) (defBody s_Ice___init__) (defScope s_Ice___init__) .none kV34 dc34 pm34 an34 cd34 ct34), sl34⟩)
    (p34 : PySem.W.codeIn K cd34 "Ice.__init__" = true)
    (k34 : PySem.W.keepIn K (.ref f34) = true)
    (l35 : K.lookup f35 = some ⟨oc35, od35, .func (PySem.W.fnOf "break_at" "Ice.break_at" (defArgs s_Ice_break_at) (defBody s_Ice_break_at) (defScope s_Ice_break_at) .none kV35 dc35 pm35 an35 cd35 ct35), sl35⟩)
    (p35 : PySem.W.codeIn K cd35 "Ice.break_at" = true)
    (k35 : PySem.W.keepIn K (.ref f35) = true)
    (l36 : K.lookup f36 = some ⟨oc36, od36, .func (PySem.W.fnOf "mend_at" "Ice.mend_at" (defArgs s_Ice_mend_at) (defBody s_Ice_mend_at) (defScope s_Ice_mend_at) .none kV36 dc36 pm36 an36 cd36 ct36), sl36⟩)
    (p36 : PySem.W.codeIn K cd36 "Ice.mend_at" = true)
    (k36 : PySem.W.keepIn K (.ref f36) = true)
    (l37 : K.lookup f37 = some ⟨oc37, od37, .func (PySem.W.fnOf "thick" "Ice.thick" (defArgs s_Ice_thick) (defBody s_Ice_thick) (defScope s_Ice_thick) .none kV37 dc37 pm37 an37 cd37 ct37), sl37⟩)
    (p37 : PySem.W.codeIn K cd37 "Ice.thick" = true)
    (k37 : PySem.W.keepIn K (.ref f37) = true)
    (l38 : K.lookup f38 = some ⟨oc38, od38, .func (PySem.W.fnOf "ahead" "Ice.ahead" (defArgs s_Ice_ahead) (defBody s_Ice_ahead) (defScope s_Ice_ahead) .none kV38 dc38 pm38 an38 cd38 ct38), sl38⟩)
    (p38 : PySem.W.codeIn K cd38 "Ice.ahead" = true)
    (k38 : PySem.W.keepIn K (.ref f38) = true)
    (l39 : K.lookup f39 = some ⟨oc39, od39, .func (PySem.W.fnOf "breakings" "Ice.breakings" (defArgs s_Ice_breakings) (defBody s_Ice_breakings) (defScope s_Ice_breakings) .none kV39 dc39 pm39 an39 cd39 ct39), sl39⟩)
    (p39 : PySem.W.codeIn K cd39 "Ice.breakings" = true)
    (k39 : PySem.W.keepIn K (.ref f39) = true)
    (l40 : K.lookup f40 = some ⟨oc40, od40, .func (PySem.W.fnOf "rows" "Ice.rows" (defArgs s_Ice_rows) (defBody s_Ice_rows) (defScope s_Ice_rows) .none kV40 dc40 pm40 an40 cd40 ct40), sl40⟩)
    (p40 : PySem.W.codeIn K cd40 "Ice.rows" = true)
    (k40 : PySem.W.keepIn K (.ref f40) = true)
    (l41 : K.lookup f41 = some ⟨oc41, od41, .func (PySem.W.fnOf "next_hour" "Ice.next_hour" (defArgs s_Ice_next_hour) (defBody s_Ice_next_hour) (defScope s_Ice_next_hour) .none kV41 dc41 pm41 an41 cd41 ct41), sl41⟩)
    (p41 : PySem.W.codeIn K cd41 "Ice.next_hour" = true)
    (k41 : PySem.W.keepIn K (.ref f41) = true)
    (l42 : K.lookup f42 = some ⟨oc42, od42, .func (PySem.W.fnOf "last_hour" "Ice.last_hour" (defArgs s_Ice_last_hour) (defBody s_Ice_last_hour) (defScope s_Ice_last_hour) .none kV42 dc42 pm42 an42 cd42 ct42), sl42⟩)
    (p42 : PySem.W.codeIn K cd42 "Ice.last_hour" = true)
    (k42 : PySem.W.keepIn K (.ref f42) = true)
    (l43 : K.lookup f43 = some ⟨oc43, od43, .func (PySem.W.fnOf "stretches" "Ice.stretches" (defArgs s_Ice_stretches) (defBody s_Ice_stretches) (defScope s_Ice_stretches) .none kV43 dc43 pm43 an43 cd43 ct43), sl43⟩)
    (p43 : PySem.W.codeIn K cd43 "Ice.stretches" = true)
    (k43 : PySem.W.keepIn K (.ref f43) = true)
    (l44 : K.lookup f44 = some ⟨oc44, od44, .func (PySem.W.fnOf "copied" "Ice.copied" (defArgs s_Ice_copied) (defBody s_Ice_copied) (defScope s_Ice_copied) .none kV44 dc44 pm44 an44 cd44 ct44), sl44⟩)
    (p44 : PySem.W.codeIn K cd44 "Ice.copied" = true)
    (k44 : PySem.W.keepIn K (.ref f44) = true)
    (l45 : K.lookup f45 = some ⟨oc45, od45, .func (PySem.W.fnOf "_keep" "Ice._keep" (defArgs s_Ice__keep) (defBody s_Ice__keep) (defScope s_Ice__keep) .none kV45 dc45 pm45 an45 cd45 ct45), sl45⟩)
    (p45 : PySem.W.codeIn K cd45 "Ice._keep" = true)
    (k45 : PySem.W.keepIn K (.ref f45) = true)
    (l46 : K.lookup f46 = some ⟨oc46, od46, .func (PySem.W.fnOf "_grown" "Ice._grown" (defArgs s_Ice__grown) (defBody s_Ice__grown) (defScope s_Ice__grown) .none kV46 dc46 pm46 an46 cd46 ct46), sl46⟩)
    (p46 : PySem.W.codeIn K cd46 "Ice._grown" = true)
    (k46 : PySem.W.keepIn K (.ref f46) = true)
    (l47 : K.lookup f47 = some ⟨oc47, od47, .func (PySem.W.fnOf "_piece_of" "Ice._piece_of" (defArgs s_Ice__piece_of) (defBody s_Ice__piece_of) (defScope s_Ice__piece_of) .none kV47 dc47 pm47 an47 cd47 ct47), sl47⟩)
    (p47 : PySem.W.codeIn K cd47 "Ice._piece_of" = true)
    (k47 : PySem.W.keepIn K (.ref f47) = true)
    (l48 : K.lookup f48 = some ⟨oc48, od48, .func (PySem.W.fnOf "_end_of" "Ice._end_of" (defArgs s_Ice__end_of) (defBody s_Ice__end_of) (defScope s_Ice__end_of) .none kV48 dc48 pm48 an48 cd48 ct48), sl48⟩)
    (p48 : PySem.W.codeIn K cd48 "Ice._end_of" = true)
    (k48 : PySem.W.keepIn K (.ref f48) = true)
    (l49 : K.lookup f49 = some ⟨oc49, od49, .func (PySem.W.fnOf "_check_hour" "Ice._check_hour" (defArgs s_Ice__check_hour) (defBody s_Ice__check_hour) (defScope s_Ice__check_hour) .none kV49 dc49 pm49 an49 cd49 ct49), sl49⟩)
    (p49 : PySem.W.codeIn K cd49 "Ice._check_hour" = true)
    (k49 : PySem.W.keepIn K (.ref f49) = true)
    (l50 : K.lookup f50 = some ⟨oc50, od50, .func (PySem.W.fnOf "_check_breaking" "Ice._check_breaking" (defArgs s_Ice__check_breaking) (defBody s_Ice__check_breaking) (defScope s_Ice__check_breaking) .none kV50 dc50 pm50 an50 cd50 ct50), sl50⟩)
    (p50 : PySem.W.codeIn K cd50 "Ice._check_breaking" = true)
    (k50 : PySem.W.keepIn K (.ref f50) = true)
    (c_NAME_MOST : PySem.W.nsIn K mainGlobals "NAME_MOST" = some (some (.int 8 t_NAME_MOST)))
    (c_HOURS_MOST : PySem.W.nsIn K mainGlobals "HOURS_MOST" = some (some (.int 1000 t_HOURS_MOST)))
    (c_DEPTH_MOST : PySem.W.nsIn K mainGlobals "DEPTH_MOST" = some (some (.int 1000 t_DEPTH_MOST)))
    (c_GROWTH_MOST : PySem.W.nsIn K mainGlobals "GROWTH_MOST" = some (some (.int 1000 t_GROWTH_MOST)))
    (c_THICK_MOST : PySem.W.nsIn K mainGlobals "THICK_MOST" = some (some (.int 1000000 t_THICK_MOST)))
    (c_BEGIN_MOST : PySem.W.nsIn K mainGlobals "BEGIN_MOST" = some (some (.int 1000000 t_BEGIN_MOST)))
    (c_ASKED_HOUR_MOST : PySem.W.nsIn K mainGlobals "ASKED_HOUR_MOST" = some (some (.int 1000000000 t_ASKED_HOUR_MOST)))
    (c_BREAKING_HOUR_MOST : PySem.W.nsIn K mainGlobals "BREAKING_HOUR_MOST" = some (some (.int 100000000 t_BREAKING_HOUR_MOST)))
    (c_CUT_MOST : PySem.W.nsIn K mainGlobals "CUT_MOST" = some (some (.int 1000000 t_CUT_MOST)))
    (c_STRENGTH_MOST : PySem.W.nsIn K mainGlobals "STRENGTH_MOST" = some (some (.int 1000000000 t_STRENGTH_MOST)))
    (c_BREAKINGS_MOST : PySem.W.nsIn K mainGlobals "BREAKINGS_MOST" = some (some (.int 200 t_BREAKINGS_MOST)))
    (n_isinstance : PySem.W.nsIn K mainGlobals "isinstance" = some none)
    (n_int : PySem.W.nsIn K mainGlobals "int" = some none)
    (n_bool : PySem.W.nsIn K mainGlobals "bool" = some none)
    (n_str : PySem.W.nsIn K mainGlobals "str" = some none)
    (n_len : PySem.W.nsIn K mainGlobals "len" = some none)
    (n_max : PySem.W.nsIn K mainGlobals "max" = some none)
    (n_list : PySem.W.nsIn K mainGlobals "list" = some none)
    (n_sorted : PySem.W.nsIn K mainGlobals "sorted" = some none)
    (n_min : PySem.W.nsIn K mainGlobals "min" = some none)
    (n_repr : PySem.W.nsIn K mainGlobals "repr" = some none)
    (n_range : PySem.W.nsIn K mainGlobals "range" = some none)
    (n_reversed : PySem.W.nsIn K mainGlobals "reversed" = some none)
    (n_zip : PySem.W.nsIn K mainGlobals "zip" = some none)
    : ∃ fd : FuncData, (∀ (s : Shared) (v : Value), BindsTo s fd ⟨[v], []⟩ [("_law_script", v)]) ∧ ∀ base : Heap, K.In base → base.Ns mainGlobals mg → FnG l.prog w K mg base CX0 9 fa fd ["_law_script"] (spLaw K) := by
  cases hfa.symm.trans (PySem.W.mg_of X G a24)
  have F0 := fun_mk (st := s_is_whole) l0 p0 k0
  have b0 := F0.binds (ps := ["thing"]) fun _ _ _ _ _ _ us hl => match us, hl with | [_], _ => rfl
  have F1 := fun_mk (st := s_is_within) l1 p1 k1
  have b1 := F1.binds (ps := ["thing", "low", "high"]) fun _ _ _ _ _ _ us hl => match us, hl with | [_, _, _], _ => rfl
  have F2 := fun_mk (st := s_is_name) l2 p2 k2
  have b2 := F2.binds (ps := ["thing"]) fun _ _ _ _ _ _ us hl => match us, hl with | [_], _ => rfl
  have F3 := fun_mk (st := s_all_between) l3 p3 k3
  have b3 := F3.binds (ps := ["text", "low", "high"]) fun _ _ _ _ _ _ us hl => match us, hl with | [_, _, _], _ => rfl
  have F4 := fun_mk (st := s_check_number) l4 p4 k4
  have b4 := F4.binds (ps := ["thing", "low", "high"]) fun _ _ _ _ _ _ us hl => match us, hl with | [_, _, _], _ => rfl
  have F5 := fun_mk (st := s_check_hour) l5 p5 k5
  have b5 := F5.binds (ps := ["thing", "low", "high"]) fun _ _ _ _ _ _ us hl => match us, hl with | [_, _, _], _ => rfl
  have F6 := fun_mk (st := s_check_names) l6 p6 k6
  have b6 := F6.binds (ps := ["things"]) fun _ _ _ _ _ _ us hl => match us, hl with | [_], _ => rfl
  have F7 := fun_mk (st := s_cuts_by_hour) l7 p7 k7
  have b7 := F7.binds (ps := ["begin", "breakings"]) fun _ _ _ _ _ _ us hl => match us, hl with | [_, _], _ => rfl
  have F8 := fun_mk (st := s_cell) l8 p8 k8
  have b8 := F8.binds (ps := ["_law_script", "_law_k"]) fun _ _ _ _ _ _ us hl => match us, hl with | [_, _], _ => rfl
  have F9 := fun_mk (st := s_box) l9 p9 k9
  have b9 := F9.binds (ps := ["_law_cell_here"]) fun _ _ _ _ _ _ us hl => match us, hl with | [_], _ => rfl
  have F10 := fun_mk (st := s_take) l10 p10 k10
  have b10 := F10.binds (ps := ["_law_box_here", "_law_many"]) fun _ _ _ _ _ _ us hl => match us, hl with | [_, _], _ => rfl
  have F11 := fun_mk (st := s_numbers) l11 p11 k11
  have b11 := F11.binds (ps := ["_law_box_here"]) fun _ _ _ _ _ _ us hl => match us, hl with | [_], _ => rfl
  have F12 := fun_mk (st := s_ice) l12 p12 k12
  have b12 := F12.binds (ps := ["_law_numbers_here"]) fun _ _ _ _ _ _ us hl => match us, hl with | [_], _ => rfl
  have F13 := fun_mk (st := s_cut) l13 p13 k13
  have b13 := F13.binds (ps := ["_law_box_here", "_law_numbers_here"]) fun _ _ _ _ _ _ us hl => match us, hl with | [_, _], _ => rfl
  have F14 := fun_mk (st := s_hour) l14 p14 k14
  have b14 := F14.binds (ps := ["_law_box_here", "_law_begin"]) fun _ _ _ _ _ _ us hl => match us, hl with | [_, _], _ => rfl
  have F15 := fun_mk (st := s_turned) l15 p15 k15
  have b15 := F15.binds (ps := ["_law_box_here", "_law_rows"]) fun _ _ _ _ _ _ us hl => match us, hl with | [_, _], _ => rfl
  have F16 := fun_mk (st := s_thick) l16 p16 k16
  have b16 := F16.binds (ps := ["_law_numbers_here", "_law_rows", "_law_hour_here"]) fun _ _ _ _ _ _ us hl => match us, hl with | [_, _, _], _ => rfl
  have F17 := fun_mk (st := s_all) l17 p17 k17
  have b17 := F17.binds (ps := ["_law_ice_here", "_law_strengths", "_law_hours"]) fun _ _ _ _ _ _ us hl => match us, hl with | [_, _, _], _ => rfl
  have F18 := fun_mk (st := s_next_right) l18 p18 k18
  have b18 := F18.binds (ps := ["_law_ice_here", "_law_hours", "_law_hour_here", "_law_strength"]) fun _ _ _ _ _ _ us hl => match us, hl with | [_, _, _, _], _ => rfl
  have F19 := fun_mk (st := s_last_right) l19 p19 k19
  have b19 := F19.binds (ps := ["_law_ice_here", "_law_hours", "_law_hour_here", "_law_strength"]) fun _ _ _ _ _ _ us hl => match us, hl with | [_, _, _, _], _ => rfl
  have F20 := fun_mk (st := s_stretches_right) l20 p20 k20
  have b20 := F20.binds (ps := ["_law_ice_here", "_law_begin", "_law_hours", "_law_strength"]) fun _ _ _ _ _ _ us hl => match us, hl with | [_, _, _, _], _ => rfl
  have F21 := fun_mk (st := s_more_right) l21 p21 k21
  have b21 := F21.binds (ps := ["_law_ice_here", "_law_more", "_law_strengths", "_law_hours"]) fun _ _ _ _ _ _ us hl => match us, hl with | [_, _, _, _], _ => rfl
  have F22 := fun_mk (st := s_told) l22 p22 k22
  have b22 := F22.binds (ps := ["_law_box_here", "_law_ice_here", "_law_rows", "_law_numbers_here", "_law_between"]) fun _ _ _ _ _ _ us hl => match us, hl with | [_, _, _, _, _], _ => rfl
  have F23 := fun_mk (st := s_walked) l23 p23 k23
  have b23 := F23.binds (ps := ["_law_ice_here", "_law_begin", "_law_strengths", "_law_hours"]) fun _ _ _ _ _ _ us hl => match us, hl with | [_, _, _, _], _ => rfl
  have F24 := fun_mk (st := s_law) l24 p24 k24
  have b24 := F24.binds (ps := ["_law_script"]) fun _ _ _ _ _ _ us hl => match us, hl with | [_], _ => rfl
  have F25 := fun_mk (st := s_NoName___init__) l25 p25 k25
  have b25 := F25.binds (ps := ["self", "found"]) fun _ _ _ _ _ _ us hl => match us, hl with | [_, _], _ => rfl
  have F26 := fun_mk (st := s_NoNumber___init__) l26 p26 k26
  have b26 := F26.binds (ps := ["self", "found"]) fun _ _ _ _ _ _ us hl => match us, hl with | [_, _], _ => rfl
  have F27 := fun_mk (st := s_Doubled___init__) l27 p27 k27
  have b27 := F27.binds (ps := ["self", "name"]) fun _ _ _ _ _ _ us hl => match us, hl with | [_, _], _ => rfl
  have F28 := fun_mk (st := s_NoChannel___init__) l28 p28 k28
  have b28 := F28.binds (ps := ["self", "found"]) fun _ _ _ _ _ _ us hl => match us, hl with | [_, _], _ => rfl
  have F29 := fun_mk (st := s_NoHour___init__) l29 p29 k29
  have b29 := F29.binds (ps := ["self", "found"]) fun _ _ _ _ _ _ us hl => match us, hl with | [_, _], _ => rfl
  have F30 := fun_mk (st := s_TooMany___init__) l30 p30 k30
  have b30 := F30.binds (ps := ["self", "many"]) fun _ _ _ _ _ _ us hl => match us, hl with | [_, _], _ => rfl
  have F31 := fun_mk (st := s_NoEntry___init__) l31 p31 k31
  have b31 := F31.binds (ps := ["self", "found"]) fun _ _ _ _ _ _ us hl => match us, hl with | [_, _], _ => rfl
  have F32 := fun_mk (st := s_Channel___init__) l32 p32 k32
  have b32 := F32.binds (ps := ["self", "name", "one", "other", "hours", "depth", "first", "growth", "most"]) fun _ _ _ _ _ _ us hl => match us, hl with | [_, _, _, _, _, _, _, _, _], _ => rfl
  have F33 := fun_mk (st := s_Channel_ends) l33 p33 k33
  have b33 := F33.binds (ps := ["self"]) fun _ _ _ _ _ _ us hl => match us, hl with | [_], _ => rfl
  have F34 := fun_mk (st := s_Ice___init__) l34 p34 k34
  have b34 := F34.binds (ps := ["self", "channel", "begin"]) fun _ _ _ _ _ _ us hl => match us, hl with | [_, _, _], _ => rfl
  have F35 := fun_mk (st := s_Ice_break_at) l35 p35 k35
  have b35 := F35.binds (ps := ["self", "hour", "cut"]) fun _ _ _ _ _ _ us hl => match us, hl with | [_, _, _], _ => rfl
  have F36 := fun_mk (st := s_Ice_mend_at) l36 p36 k36
  have b36 := F36.binds (ps := ["self", "hour", "cut"]) fun _ _ _ _ _ _ us hl => match us, hl with | [_, _, _], _ => rfl
  have F37 := fun_mk (st := s_Ice_thick) l37 p37 k37
  have b37 := F37.binds (ps := ["self", "hour"]) fun _ _ _ _ _ _ us hl => match us, hl with | [_, _], _ => rfl
  have F38 := fun_mk (st := s_Ice_ahead) l38 p38 k38
  have b38 := F38.binds (ps := ["self", "hour"]) fun _ _ _ _ _ _ us hl => match us, hl with | [_, _], _ => rfl
  have F39 := fun_mk (st := s_Ice_breakings) l39 p39 k39
  have b39 := F39.binds (ps := ["self"]) fun _ _ _ _ _ _ us hl => match us, hl with | [_], _ => rfl
  have F40 := fun_mk (st := s_Ice_rows) l40 p40 k40
  have b40 := F40.binds (ps := ["self"]) fun _ _ _ _ _ _ us hl => match us, hl with | [_], _ => rfl
  have F41 := fun_mk (st := s_Ice_next_hour) l41 p41 k41
  have b41 := F41.binds (ps := ["self", "hour", "strength"]) fun _ _ _ _ _ _ us hl => match us, hl with | [_, _, _], _ => rfl
  have F42 := fun_mk (st := s_Ice_last_hour) l42 p42 k42
  have b42 := F42.binds (ps := ["self", "hour", "strength"]) fun _ _ _ _ _ _ us hl => match us, hl with | [_, _, _], _ => rfl
  have F43 := fun_mk (st := s_Ice_stretches) l43 p43 k43
  have b43 := F43.binds (ps := ["self", "strength"]) fun _ _ _ _ _ _ us hl => match us, hl with | [_, _], _ => rfl
  have F44 := fun_mk (st := s_Ice_copied) l44 p44 k44
  have b44 := F44.binds (ps := ["self"]) fun _ _ _ _ _ _ us hl => match us, hl with | [_], _ => rfl
  have F45 := fun_mk (st := s_Ice__keep) l45 p45 k45
  have b45 := F45.binds (ps := ["self", "breakings"]) fun _ _ _ _ _ _ us hl => match us, hl with | [_, _], _ => rfl
  have F46 := fun_mk (st := s_Ice__grown) l46 p46 k46
  have b46 := F46.binds (ps := ["self", "thick", "hours"]) fun _ _ _ _ _ _ us hl => match us, hl with | [_, _, _], _ => rfl
  have F47 := fun_mk (st := s_Ice__piece_of) l47 p47 k47
  have b47 := F47.binds (ps := ["self", "hour"]) fun _ _ _ _ _ _ us hl => match us, hl with | [_, _], _ => rfl
  have F48 := fun_mk (st := s_Ice__end_of) l48 p48 k48
  have b48 := F48.binds (ps := ["self", "start", "behind", "strength", "last"]) fun _ _ _ _ _ _ us hl => match us, hl with | [_, _, _, _, _], _ => rfl
  have F49 := fun_mk (st := s_Ice__check_hour) l49 p49 k49
  have b49 := F49.binds (ps := ["self", "hour"]) fun _ _ _ _ _ _ us hl => match us, hl with | [_, _], _ => rfl
  have F50 := fun_mk (st := s_Ice__check_breaking) l50 p50 k50
  have b50 := F50.binds (ps := ["self", "hour", "cut"]) fun _ _ _ _ _ _ us hl => match us, hl with | [_, _, _], _ => rfl
  let T : Top K mg := { a_IceError := C_IceError, c_IceError := PySem.W.mg_of X G g_IceError, sp_IceError := sp_IceError, ty_IceError := ty_IceError, rd_IceError := rd_IceError, fc_IceError := fc_IceError, a_NoName := C_NoName, c_NoName := PySem.W.mg_of X G g_NoName, ox_NoName := ⟨⟨nm_NoName, q_NoName, N_NoName, bs_NoName, bm_NoName, sn_NoName, su_NoName, ab_NoName, co_NoName, dd_NoName, m0_NoName, m1_NoName, m2_NoName, m3_NoName, m5_NoName, xl_NoName, hb_NoName⟩, sa_NoName, ec_NoName, tc_NoName, kc_NoName⟩, xf_NoName := ⟨ga_NoName, gg_NoName, ec_NoName, hd_NoName⟩, in_NoName := in_NoName, tf_NoName := tf_NoName, nf_NoName_found := nf_NoName_found, a_NoNumber := C_NoNumber, c_NoNumber := PySem.W.mg_of X G g_NoNumber, ox_NoNumber := ⟨⟨nm_NoNumber, q_NoNumber, N_NoNumber, bs_NoNumber, bm_NoNumber, sn_NoNumber, su_NoNumber, ab_NoNumber, co_NoNumber, dd_NoNumber, m0_NoNumber, m1_NoNumber, m2_NoNumber, m3_NoNumber, m5_NoNumber, xl_NoNumber, hb_NoNumber⟩, sa_NoNumber, ec_NoNumber, tc_NoNumber, kc_NoNumber⟩, xf_NoNumber := ⟨ga_NoNumber, gg_NoNumber, ec_NoNumber, hd_NoNumber⟩, in_NoNumber := in_NoNumber, tf_NoNumber := tf_NoNumber, nf_NoNumber_found := nf_NoNumber_found, a_Doubled := C_Doubled, c_Doubled := PySem.W.mg_of X G g_Doubled, ox_Doubled := ⟨⟨nm_Doubled, q_Doubled, N_Doubled, bs_Doubled, bm_Doubled, sn_Doubled, su_Doubled, ab_Doubled, co_Doubled, dd_Doubled, m0_Doubled, m1_Doubled, m2_Doubled, m3_Doubled, m5_Doubled, xl_Doubled, hb_Doubled⟩, sa_Doubled, ec_Doubled, tc_Doubled, kc_Doubled⟩, xf_Doubled := ⟨ga_Doubled, gg_Doubled, ec_Doubled, hd_Doubled⟩, in_Doubled := in_Doubled, tf_Doubled := tf_Doubled, nf_Doubled_name := nf_Doubled_name, a_NoChannel := C_NoChannel, c_NoChannel := PySem.W.mg_of X G g_NoChannel, ox_NoChannel := ⟨⟨nm_NoChannel, q_NoChannel, N_NoChannel, bs_NoChannel, bm_NoChannel, sn_NoChannel, su_NoChannel, ab_NoChannel, co_NoChannel, dd_NoChannel, m0_NoChannel, m1_NoChannel, m2_NoChannel, m3_NoChannel, m5_NoChannel, xl_NoChannel, hb_NoChannel⟩, sa_NoChannel, ec_NoChannel, tc_NoChannel, kc_NoChannel⟩, xf_NoChannel := ⟨ga_NoChannel, gg_NoChannel, ec_NoChannel, hd_NoChannel⟩, in_NoChannel := in_NoChannel, tf_NoChannel := tf_NoChannel, nf_NoChannel_found := nf_NoChannel_found, a_NoHour := C_NoHour, c_NoHour := PySem.W.mg_of X G g_NoHour, ox_NoHour := ⟨⟨nm_NoHour, q_NoHour, N_NoHour, bs_NoHour, bm_NoHour, sn_NoHour, su_NoHour, ab_NoHour, co_NoHour, dd_NoHour, m0_NoHour, m1_NoHour, m2_NoHour, m3_NoHour, m5_NoHour, xl_NoHour, hb_NoHour⟩, sa_NoHour, ec_NoHour, tc_NoHour, kc_NoHour⟩, xf_NoHour := ⟨ga_NoHour, gg_NoHour, ec_NoHour, hd_NoHour⟩, in_NoHour := in_NoHour, tf_NoHour := tf_NoHour, nf_NoHour_found := nf_NoHour_found, a_TooMany := C_TooMany, c_TooMany := PySem.W.mg_of X G g_TooMany, ox_TooMany := ⟨⟨nm_TooMany, q_TooMany, N_TooMany, bs_TooMany, bm_TooMany, sn_TooMany, su_TooMany, ab_TooMany, co_TooMany, dd_TooMany, m0_TooMany, m1_TooMany, m2_TooMany, m3_TooMany, m5_TooMany, xl_TooMany, hb_TooMany⟩, sa_TooMany, ec_TooMany, tc_TooMany, kc_TooMany⟩, xf_TooMany := ⟨ga_TooMany, gg_TooMany, ec_TooMany, hd_TooMany⟩, in_TooMany := in_TooMany, tf_TooMany := tf_TooMany, nf_TooMany_many := nf_TooMany_many, a_NoEntry := C_NoEntry, c_NoEntry := PySem.W.mg_of X G g_NoEntry, ox_NoEntry := ⟨⟨nm_NoEntry, q_NoEntry, N_NoEntry, bs_NoEntry, bm_NoEntry, sn_NoEntry, su_NoEntry, ab_NoEntry, co_NoEntry, dd_NoEntry, m0_NoEntry, m1_NoEntry, m2_NoEntry, m3_NoEntry, m5_NoEntry, xl_NoEntry, hb_NoEntry⟩, sa_NoEntry, ec_NoEntry, tc_NoEntry, kc_NoEntry⟩, xf_NoEntry := ⟨ga_NoEntry, gg_NoEntry, ec_NoEntry, hd_NoEntry⟩, in_NoEntry := in_NoEntry, tf_NoEntry := tf_NoEntry, nf_NoEntry_found := nf_NoEntry_found, a_Channel := C_Channel, c_Channel := PySem.W.mg_of X G g_Channel, cl_Channel := ⟨pg_Channel, hd_Channel, po_Channel, sa_Channel⟩, mk_Channel := ⟨mk_Channel, in_Channel, if_Channel, kc_Channel⟩, na_Channel_name := na_Channel_name, na_Channel_one := na_Channel_one, na_Channel_other := na_Channel_other, na_Channel_hours := na_Channel_hours, na_Channel_depth := na_Channel_depth, na_Channel_first := na_Channel_first, na_Channel_growth := na_Channel_growth, na_Channel_most := na_Channel_most, me_Channel_ends := ⟨me_Channel_ends, mi_Channel_ends, k33⟩, a_Ice := C_Ice, c_Ice := PySem.W.mg_of X G g_Ice, cl_Ice := ⟨pg_Ice, hd_Ice, po_Ice, sa_Ice⟩, mk_Ice := ⟨mk_Ice, in_Ice, if_Ice, kc_Ice⟩, na_Ice__channel := na_Ice__channel, na_Ice__begin := na_Ice__begin, na_Ice__breakings := na_Ice__breakings, na_Ice__pieces := na_Ice__pieces, me_Ice_break_at := ⟨me_Ice_break_at, mi_Ice_break_at, k35⟩, me_Ice_mend_at := ⟨me_Ice_mend_at, mi_Ice_mend_at, k36⟩, me_Ice_thick := ⟨me_Ice_thick, mi_Ice_thick, k37⟩, me_Ice_ahead := ⟨me_Ice_ahead, mi_Ice_ahead, k38⟩, me_Ice_breakings := ⟨me_Ice_breakings, mi_Ice_breakings, k39⟩, me_Ice_rows := ⟨me_Ice_rows, mi_Ice_rows, k40⟩, me_Ice_next_hour := ⟨me_Ice_next_hour, mi_Ice_next_hour, k41⟩, me_Ice_last_hour := ⟨me_Ice_last_hour, mi_Ice_last_hour, k42⟩, me_Ice_stretches := ⟨me_Ice_stretches, mi_Ice_stretches, k43⟩, me_Ice_copied := ⟨me_Ice_copied, mi_Ice_copied, k44⟩, me_Ice__keep := ⟨me_Ice__keep, mi_Ice__keep, k45⟩, me_Ice__grown := ⟨me_Ice__grown, mi_Ice__grown, k46⟩, me_Ice__piece_of := ⟨me_Ice__piece_of, mi_Ice__piece_of, k47⟩, me_Ice__end_of := ⟨me_Ice__end_of, mi_Ice__end_of, k48⟩, me_Ice__check_hour := ⟨me_Ice__check_hour, mi_Ice__check_hour, k49⟩, me_Ice__check_breaking := ⟨me_Ice__check_breaking, mi_Ice__check_breaking, k50⟩, sgc := sgc, tkc := tkc, ca_Channel := ca_Channel, mo_Channel := mo_Channel, io_Channel_Channel := io_Channel_Channel, ca_Ice := ca_Ice, mo_Ice := mo_Ice, io_Ice_Channel := io_Ice_Channel, a_is_whole := f0, d_is_whole := _, F_is_whole := F0, b_is_whole := b0, m_is_whole := PySem.W.mg_of X G a0, a_is_within := f1, d_is_within := _, F_is_within := F1, b_is_within := b1, m_is_within := PySem.W.mg_of X G a1, a_is_name := f2, d_is_name := _, F_is_name := F2, b_is_name := b2, m_is_name := PySem.W.mg_of X G a2, a_all_between := f3, d_all_between := _, F_all_between := F3, b_all_between := b3, m_all_between := PySem.W.mg_of X G a3, a_check_number := f4, d_check_number := _, F_check_number := F4, b_check_number := b4, m_check_number := PySem.W.mg_of X G a4, a_check_hour := f5, d_check_hour := _, F_check_hour := F5, b_check_hour := b5, m_check_hour := PySem.W.mg_of X G a5, a_check_names := f6, d_check_names := _, F_check_names := F6, b_check_names := b6, m_check_names := PySem.W.mg_of X G a6, a_cuts_by_hour := f7, d_cuts_by_hour := _, F_cuts_by_hour := F7, b_cuts_by_hour := b7, m_cuts_by_hour := PySem.W.mg_of X G a7, a_cell := f8, d_cell := _, F_cell := F8, b_cell := b8, m_cell := PySem.W.mg_of X G a8, a_box := f9, d_box := _, F_box := F9, b_box := b9, m_box := PySem.W.mg_of X G a9, a_take := f10, d_take := _, F_take := F10, b_take := b10, m_take := PySem.W.mg_of X G a10, a_numbers := f11, d_numbers := _, F_numbers := F11, b_numbers := b11, m_numbers := PySem.W.mg_of X G a11, a_ice := f12, d_ice := _, F_ice := F12, b_ice := b12, m_ice := PySem.W.mg_of X G a12, a_cut := f13, d_cut := _, F_cut := F13, b_cut := b13, m_cut := PySem.W.mg_of X G a13, a_hour := f14, d_hour := _, F_hour := F14, b_hour := b14, m_hour := PySem.W.mg_of X G a14, a_turned := f15, d_turned := _, F_turned := F15, b_turned := b15, m_turned := PySem.W.mg_of X G a15, a_thick := f16, d_thick := _, F_thick := F16, b_thick := b16, m_thick := PySem.W.mg_of X G a16, a_all := f17, d_all := _, F_all := F17, b_all := b17, m_all := PySem.W.mg_of X G a17, a_next_right := f18, d_next_right := _, F_next_right := F18, b_next_right := b18, m_next_right := PySem.W.mg_of X G a18, a_last_right := f19, d_last_right := _, F_last_right := F19, b_last_right := b19, m_last_right := PySem.W.mg_of X G a19, a_stretches_right := f20, d_stretches_right := _, F_stretches_right := F20, b_stretches_right := b20, m_stretches_right := PySem.W.mg_of X G a20, a_more_right := f21, d_more_right := _, F_more_right := F21, b_more_right := b21, m_more_right := PySem.W.mg_of X G a21, a_told := f22, d_told := _, F_told := F22, b_told := b22, m_told := PySem.W.mg_of X G a22, a_walked := f23, d_walked := _, F_walked := F23, b_walked := b23, m_walked := PySem.W.mg_of X G a23, a_law := fa, d_law := _, F_law := F24, b_law := b24, m_law := PySem.W.mg_of X G a24, a_NoName___init__ := f25, d_NoName___init__ := _, F_NoName___init__ := F25, b_NoName___init__ := b25, a_NoNumber___init__ := f26, d_NoNumber___init__ := _, F_NoNumber___init__ := F26, b_NoNumber___init__ := b26, a_Doubled___init__ := f27, d_Doubled___init__ := _, F_Doubled___init__ := F27, b_Doubled___init__ := b27, a_NoChannel___init__ := f28, d_NoChannel___init__ := _, F_NoChannel___init__ := F28, b_NoChannel___init__ := b28, a_NoHour___init__ := f29, d_NoHour___init__ := _, F_NoHour___init__ := F29, b_NoHour___init__ := b29, a_TooMany___init__ := f30, d_TooMany___init__ := _, F_TooMany___init__ := F30, b_TooMany___init__ := b30, a_NoEntry___init__ := f31, d_NoEntry___init__ := _, F_NoEntry___init__ := F31, b_NoEntry___init__ := b31, a_Channel___init__ := f32, d_Channel___init__ := _, F_Channel___init__ := F32, b_Channel___init__ := b32, a_Channel_ends := f33, d_Channel_ends := _, F_Channel_ends := F33, b_Channel_ends := b33, a_Ice___init__ := f34, d_Ice___init__ := _, F_Ice___init__ := F34, b_Ice___init__ := b34, a_Ice_break_at := f35, d_Ice_break_at := _, F_Ice_break_at := F35, b_Ice_break_at := b35, a_Ice_mend_at := f36, d_Ice_mend_at := _, F_Ice_mend_at := F36, b_Ice_mend_at := b36, a_Ice_thick := f37, d_Ice_thick := _, F_Ice_thick := F37, b_Ice_thick := b37, a_Ice_ahead := f38, d_Ice_ahead := _, F_Ice_ahead := F38, b_Ice_ahead := b38, a_Ice_breakings := f39, d_Ice_breakings := _, F_Ice_breakings := F39, b_Ice_breakings := b39, a_Ice_rows := f40, d_Ice_rows := _, F_Ice_rows := F40, b_Ice_rows := b40, a_Ice_next_hour := f41, d_Ice_next_hour := _, F_Ice_next_hour := F41, b_Ice_next_hour := b41, a_Ice_last_hour := f42, d_Ice_last_hour := _, F_Ice_last_hour := F42, b_Ice_last_hour := b42, a_Ice_stretches := f43, d_Ice_stretches := _, F_Ice_stretches := F43, b_Ice_stretches := b43, a_Ice_copied := f44, d_Ice_copied := _, F_Ice_copied := F44, b_Ice_copied := b44, a_Ice__keep := f45, d_Ice__keep := _, F_Ice__keep := F45, b_Ice__keep := b45, a_Ice__grown := f46, d_Ice__grown := _, F_Ice__grown := F46, b_Ice__grown := b46, a_Ice__piece_of := f47, d_Ice__piece_of := _, F_Ice__piece_of := F47, b_Ice__piece_of := b47, a_Ice__end_of := f48, d_Ice__end_of := _, F_Ice__end_of := F48, b_Ice__end_of := b48, a_Ice__check_hour := f49, d_Ice__check_hour := _, F_Ice__check_hour := F49, b_Ice__check_hour := b49, a_Ice__check_breaking := f50, d_Ice__check_breaking := _, F_Ice__check_breaking := F50, b_Ice__check_breaking := b50, t_NAME_MOST := t_NAME_MOST, c_NAME_MOST := PySem.W.mg_of X G c_NAME_MOST, t_HOURS_MOST := t_HOURS_MOST, c_HOURS_MOST := PySem.W.mg_of X G c_HOURS_MOST, t_DEPTH_MOST := t_DEPTH_MOST, c_DEPTH_MOST := PySem.W.mg_of X G c_DEPTH_MOST, t_GROWTH_MOST := t_GROWTH_MOST, c_GROWTH_MOST := PySem.W.mg_of X G c_GROWTH_MOST, t_THICK_MOST := t_THICK_MOST, c_THICK_MOST := PySem.W.mg_of X G c_THICK_MOST, t_BEGIN_MOST := t_BEGIN_MOST, c_BEGIN_MOST := PySem.W.mg_of X G c_BEGIN_MOST, t_ASKED_HOUR_MOST := t_ASKED_HOUR_MOST, c_ASKED_HOUR_MOST := PySem.W.mg_of X G c_ASKED_HOUR_MOST, t_BREAKING_HOUR_MOST := t_BREAKING_HOUR_MOST, c_BREAKING_HOUR_MOST := PySem.W.mg_of X G c_BREAKING_HOUR_MOST, t_CUT_MOST := t_CUT_MOST, c_CUT_MOST := PySem.W.mg_of X G c_CUT_MOST, t_STRENGTH_MOST := t_STRENGTH_MOST, c_STRENGTH_MOST := PySem.W.mg_of X G c_STRENGTH_MOST, t_BREAKINGS_MOST := t_BREAKINGS_MOST, c_BREAKINGS_MOST := PySem.W.mg_of X G c_BREAKINGS_MOST, n_isinstance := PySem.W.mg_none_of X G n_isinstance, n_int := PySem.W.mg_none_of X G n_int, n_bool := PySem.W.mg_none_of X G n_bool, n_str := PySem.W.mg_none_of X G n_str, n_len := PySem.W.mg_none_of X G n_len, n_max := PySem.W.mg_none_of X G n_max, n_list := PySem.W.mg_none_of X G n_list, n_sorted := PySem.W.mg_none_of X G n_sorted, n_min := PySem.W.mg_none_of X G n_min, n_repr := PySem.W.mg_none_of X G n_repr, n_range := PySem.W.mg_none_of X G n_range, n_reversed := PySem.W.mg_none_of X G n_reversed, n_zip := PySem.W.mg_none_of X G n_zip }
  exact ⟨_, fun s v => .of_eq rfl, fun base _ _ => ok_law (P := l.prog) (w := w) (base := base) T⟩
end Ice
open PySem PySem.W PyProof.Rows
set_option maxRecDepth 100000 in
set_option maxHeartbeats 0 in
theorem PySem.Challenge.cw_iceopened_k29_whole_breakings_alone_holds : PySem.Challenge.rw_iceopened_k29_whole_breakings_alone.Holds := by
  w_on; o_law; k_head; (case hw => w_witness2)
  k_fill
  refine Ice.walkG (l := PySem.Challenge.rw_iceopened_k29_whole_breakings_alone) (n := 63) (k := 9) (x := "_law_script") (sp := Ice.spLaw) rfl (by decide) rfl ⟨rfl, by decide, by decide⟩ (fun w h Y => PySem.W.kIn_of Y) ?F Ice.law_sp
  case F =>
    intro w mg fa h KX G hmg
    refine' Ice.all_mk KX G hmg ?g_IceError ?sp_IceError ?ty_IceError ?rd_IceError ?fc_IceError ?g_NoName ?xl_NoName ?hb_NoName ?sa_NoName ?ec_NoName ?tc_NoName ?kc_NoName ?ga_NoName ?gg_NoName ?hd_NoName ?in_NoName ?tf_NoName ?nf_NoName_found ?g_NoNumber ?xl_NoNumber ?hb_NoNumber ?sa_NoNumber ?ec_NoNumber ?tc_NoNumber ?kc_NoNumber ?ga_NoNumber ?gg_NoNumber ?hd_NoNumber ?in_NoNumber ?tf_NoNumber ?nf_NoNumber_found ?g_Doubled ?xl_Doubled ?hb_Doubled ?sa_Doubled ?ec_Doubled ?tc_Doubled ?kc_Doubled ?ga_Doubled ?gg_Doubled ?hd_Doubled ?in_Doubled ?tf_Doubled ?nf_Doubled_name ?g_NoChannel ?xl_NoChannel ?hb_NoChannel ?sa_NoChannel ?ec_NoChannel ?tc_NoChannel ?kc_NoChannel ?ga_NoChannel ?gg_NoChannel ?hd_NoChannel ?in_NoChannel ?tf_NoChannel ?nf_NoChannel_found ?g_NoHour ?xl_NoHour ?hb_NoHour ?sa_NoHour ?ec_NoHour ?tc_NoHour ?kc_NoHour ?ga_NoHour ?gg_NoHour ?hd_NoHour ?in_NoHour ?tf_NoHour ?nf_NoHour_found ?g_TooMany ?xl_TooMany ?hb_TooMany ?sa_TooMany ?ec_TooMany ?tc_TooMany ?kc_TooMany ?ga_TooMany ?gg_TooMany ?hd_TooMany ?in_TooMany ?tf_TooMany ?nf_TooMany_many ?g_NoEntry ?xl_NoEntry ?hb_NoEntry ?sa_NoEntry ?ec_NoEntry ?tc_NoEntry ?kc_NoEntry ?ga_NoEntry ?gg_NoEntry ?hd_NoEntry ?in_NoEntry ?tf_NoEntry ?nf_NoEntry_found ?g_Channel ?pg_Channel ?hd_Channel ?po_Channel ?sa_Channel ?mk_Channel ?in_Channel ?if_Channel ?kc_Channel ?na_Channel_name ?na_Channel_one ?na_Channel_other ?na_Channel_hours ?na_Channel_depth ?na_Channel_first ?na_Channel_growth ?na_Channel_most ?me_Channel_ends ?mi_Channel_ends ?g_Ice ?pg_Ice ?hd_Ice ?po_Ice ?sa_Ice ?mk_Ice ?in_Ice ?if_Ice ?kc_Ice ?na_Ice__channel ?na_Ice__begin ?na_Ice__breakings ?na_Ice__pieces ?me_Ice_break_at ?mi_Ice_break_at ?me_Ice_mend_at ?mi_Ice_mend_at ?me_Ice_thick ?mi_Ice_thick ?me_Ice_ahead ?mi_Ice_ahead ?me_Ice_breakings ?mi_Ice_breakings ?me_Ice_rows ?mi_Ice_rows ?me_Ice_next_hour ?mi_Ice_next_hour ?me_Ice_last_hour ?mi_Ice_last_hour ?me_Ice_stretches ?mi_Ice_stretches ?me_Ice_copied ?mi_Ice_copied ?me_Ice__keep ?mi_Ice__keep ?me_Ice__grown ?mi_Ice__grown ?me_Ice__piece_of ?mi_Ice__piece_of ?me_Ice__end_of ?mi_Ice__end_of ?me_Ice__check_hour ?mi_Ice__check_hour ?me_Ice__check_breaking ?mi_Ice__check_breaking ?sgc ?tkc ?ca_Channel ?mo_Channel ?io_Channel_Channel ?ca_Ice ?mo_Ice ?io_Ice_Channel ?a0 ?l0 ?p0 ?k0 ?a1 ?l1 ?p1 ?k1 ?a2 ?l2 ?p2 ?k2 ?a3 ?l3 ?p3 ?k3 ?a4 ?l4 ?p4 ?k4 ?a5 ?l5 ?p5 ?k5 ?a6 ?l6 ?p6 ?k6 ?a7 ?l7 ?p7 ?k7 ?a8 ?l8 ?p8 ?k8 ?a9 ?l9 ?p9 ?k9 ?a10 ?l10 ?p10 ?k10 ?a11 ?l11 ?p11 ?k11 ?a12 ?l12 ?p12 ?k12 ?a13 ?l13 ?p13 ?k13 ?a14 ?l14 ?p14 ?k14 ?a15 ?l15 ?p15 ?k15 ?a16 ?l16 ?p16 ?k16 ?a17 ?l17 ?p17 ?k17 ?a18 ?l18 ?p18 ?k18 ?a19 ?l19 ?p19 ?k19 ?a20 ?l20 ?p20 ?k20 ?a21 ?l21 ?p21 ?k21 ?a22 ?l22 ?p22 ?k22 ?a23 ?l23 ?p23 ?k23 ?a24 ?l24 ?p24 ?k24 ?l25 ?p25 ?k25 ?l26 ?p26 ?k26 ?l27 ?p27 ?k27 ?l28 ?p28 ?k28 ?l29 ?p29 ?k29 ?l30 ?p30 ?k30 ?l31 ?p31 ?k31 ?l32 ?p32 ?k32 ?l33 ?p33 ?k33 ?l34 ?p34 ?k34 ?l35 ?p35 ?k35 ?l36 ?p36 ?k36 ?l37 ?p37 ?k37 ?l38 ?p38 ?k38 ?l39 ?p39 ?k39 ?l40 ?p40 ?k40 ?l41 ?p41 ?k41 ?l42 ?p42 ?k42 ?l43 ?p43 ?k43 ?l44 ?p44 ?k44 ?l45 ?p45 ?k45 ?l46 ?p46 ?k46 ?l47 ?p47 ?k47 ?l48 ?p48 ?k48 ?l49 ?p49 ?k49 ?l50 ?p50 ?k50 ?c_NAME_MOST ?c_HOURS_MOST ?c_DEPTH_MOST ?c_GROWTH_MOST ?c_THICK_MOST ?c_BEGIN_MOST ?c_ASKED_HOUR_MOST ?c_BREAKING_HOUR_MOST ?c_CUT_MOST ?c_STRENGTH_MOST ?c_BREAKINGS_MOST ?n_isinstance ?n_int ?n_bool ?n_str ?n_len ?n_max ?n_list ?n_sorted ?n_min ?n_repr ?n_range ?n_reversed ?n_zip
    (case g_IceError => k_is)
    (case sp_IceError => k_is)
    (case ty_IceError => k_is)
    (case rd_IceError => k_is)
    (case fc_IceError => k_is)
    (case g_NoName => k_is)
    (case xl_NoName => k_is)
    (case hb_NoName => decide +kernel)
    (case sa_NoName => k_is)
    (case ec_NoName => k_is)
    (case tc_NoName => k_is)
    (case kc_NoName => k_is)
    (case ga_NoName => k_is)
    (case gg_NoName => k_is)
    (case hd_NoName => k_is)
    (case in_NoName => k_is)
    (case tf_NoName => k_is)
    (case nf_NoName_found => k_is)
    (case g_NoNumber => k_is)
    (case xl_NoNumber => k_is)
    (case hb_NoNumber => decide +kernel)
    (case sa_NoNumber => k_is)
    (case ec_NoNumber => k_is)
    (case tc_NoNumber => k_is)
    (case kc_NoNumber => k_is)
    (case ga_NoNumber => k_is)
    (case gg_NoNumber => k_is)
    (case hd_NoNumber => k_is)
    (case in_NoNumber => k_is)
    (case tf_NoNumber => k_is)
    (case nf_NoNumber_found => k_is)
    (case g_Doubled => k_is)
    (case xl_Doubled => k_is)
    (case hb_Doubled => decide +kernel)
    (case sa_Doubled => k_is)
    (case ec_Doubled => k_is)
    (case tc_Doubled => k_is)
    (case kc_Doubled => k_is)
    (case ga_Doubled => k_is)
    (case gg_Doubled => k_is)
    (case hd_Doubled => k_is)
    (case in_Doubled => k_is)
    (case tf_Doubled => k_is)
    (case nf_Doubled_name => k_is)
    (case g_NoChannel => k_is)
    (case xl_NoChannel => k_is)
    (case hb_NoChannel => decide +kernel)
    (case sa_NoChannel => k_is)
    (case ec_NoChannel => k_is)
    (case tc_NoChannel => k_is)
    (case kc_NoChannel => k_is)
    (case ga_NoChannel => k_is)
    (case gg_NoChannel => k_is)
    (case hd_NoChannel => k_is)
    (case in_NoChannel => k_is)
    (case tf_NoChannel => k_is)
    (case nf_NoChannel_found => k_is)
    (case g_NoHour => k_is)
    (case xl_NoHour => k_is)
    (case hb_NoHour => decide +kernel)
    (case sa_NoHour => k_is)
    (case ec_NoHour => k_is)
    (case tc_NoHour => k_is)
    (case kc_NoHour => k_is)
    (case ga_NoHour => k_is)
    (case gg_NoHour => k_is)
    (case hd_NoHour => k_is)
    (case in_NoHour => k_is)
    (case tf_NoHour => k_is)
    (case nf_NoHour_found => k_is)
    (case g_TooMany => k_is)
    (case xl_TooMany => k_is)
    (case hb_TooMany => decide +kernel)
    (case sa_TooMany => k_is)
    (case ec_TooMany => k_is)
    (case tc_TooMany => k_is)
    (case kc_TooMany => k_is)
    (case ga_TooMany => k_is)
    (case gg_TooMany => k_is)
    (case hd_TooMany => k_is)
    (case in_TooMany => k_is)
    (case tf_TooMany => k_is)
    (case nf_TooMany_many => k_is)
    (case g_NoEntry => k_is)
    (case xl_NoEntry => k_is)
    (case hb_NoEntry => decide +kernel)
    (case sa_NoEntry => k_is)
    (case ec_NoEntry => k_is)
    (case tc_NoEntry => k_is)
    (case kc_NoEntry => k_is)
    (case ga_NoEntry => k_is)
    (case gg_NoEntry => k_is)
    (case hd_NoEntry => k_is)
    (case in_NoEntry => k_is)
    (case tf_NoEntry => k_is)
    (case nf_NoEntry_found => k_is)
    (case g_Channel => k_is)
    (case pg_Channel => k_is)
    (case hd_Channel => k_is)
    (case po_Channel => k_is)
    (case sa_Channel => k_is)
    (case mk_Channel => k_is)
    (case in_Channel => k_is)
    (case if_Channel => k_is)
    (case kc_Channel => k_is)
    (case na_Channel_name => k_is)
    (case na_Channel_one => k_is)
    (case na_Channel_other => k_is)
    (case na_Channel_hours => k_is)
    (case na_Channel_depth => k_is)
    (case na_Channel_first => k_is)
    (case na_Channel_growth => k_is)
    (case na_Channel_most => k_is)
    (case me_Channel_ends => k_is)
    (case mi_Channel_ends => k_is)
    (case g_Ice => k_is)
    (case pg_Ice => k_is)
    (case hd_Ice => k_is)
    (case po_Ice => k_is)
    (case sa_Ice => k_is)
    (case mk_Ice => k_is)
    (case in_Ice => k_is)
    (case if_Ice => k_is)
    (case kc_Ice => k_is)
    (case na_Ice__channel => k_is)
    (case na_Ice__begin => k_is)
    (case na_Ice__breakings => k_is)
    (case na_Ice__pieces => k_is)
    (case me_Ice_break_at => k_is)
    (case mi_Ice_break_at => k_is)
    (case me_Ice_mend_at => k_is)
    (case mi_Ice_mend_at => k_is)
    (case me_Ice_thick => k_is)
    (case mi_Ice_thick => k_is)
    (case me_Ice_ahead => k_is)
    (case mi_Ice_ahead => k_is)
    (case me_Ice_breakings => k_is)
    (case mi_Ice_breakings => k_is)
    (case me_Ice_rows => k_is)
    (case mi_Ice_rows => k_is)
    (case me_Ice_next_hour => k_is)
    (case mi_Ice_next_hour => k_is)
    (case me_Ice_last_hour => k_is)
    (case mi_Ice_last_hour => k_is)
    (case me_Ice_stretches => k_is)
    (case mi_Ice_stretches => k_is)
    (case me_Ice_copied => k_is)
    (case mi_Ice_copied => k_is)
    (case me_Ice__keep => k_is)
    (case mi_Ice__keep => k_is)
    (case me_Ice__grown => k_is)
    (case mi_Ice__grown => k_is)
    (case me_Ice__piece_of => k_is)
    (case mi_Ice__piece_of => k_is)
    (case me_Ice__end_of => k_is)
    (case mi_Ice__end_of => k_is)
    (case me_Ice__check_hour => k_is)
    (case mi_Ice__check_hour => k_is)
    (case me_Ice__check_breaking => k_is)
    (case mi_Ice__check_breaking => k_is)
    (case sgc => k_is)
    (case tkc => k_is)
    (case ca_Channel => k_is)
    (case mo_Channel => k_is)
    (case io_Channel_Channel => kit_is)
    (case ca_Ice => k_is)
    (case mo_Ice => k_is)
    (case io_Ice_Channel => kit_is)
    (case a0 => k_is)
    (case l0 => k_is)
    (case p0 => k_is)
    (case k0 => k_is)
    (case a1 => k_is)
    (case l1 => k_is)
    (case p1 => k_is)
    (case k1 => k_is)
    (case a2 => k_is)
    (case l2 => k_is)
    (case p2 => k_is)
    (case k2 => k_is)
    (case a3 => k_is)
    (case l3 => k_is)
    (case p3 => k_is)
    (case k3 => k_is)
    (case a4 => k_is)
    (case l4 => k_is)
    (case p4 => k_is)
    (case k4 => k_is)
    (case a5 => k_is)
    (case l5 => k_is)
    (case p5 => k_is)
    (case k5 => k_is)
    (case a6 => k_is)
    (case l6 => k_is)
    (case p6 => k_is)
    (case k6 => k_is)
    (case a7 => k_is)
    (case l7 => k_is)
    (case p7 => k_is)
    (case k7 => k_is)
    (case a8 => k_is)
    (case l8 => k_is)
    (case p8 => k_is)
    (case k8 => k_is)
    (case a9 => k_is)
    (case l9 => k_is)
    (case p9 => k_is)
    (case k9 => k_is)
    (case a10 => k_is)
    (case l10 => k_is)
    (case p10 => k_is)
    (case k10 => k_is)
    (case a11 => k_is)
    (case l11 => k_is)
    (case p11 => k_is)
    (case k11 => k_is)
    (case a12 => k_is)
    (case l12 => k_is)
    (case p12 => k_is)
    (case k12 => k_is)
    (case a13 => k_is)
    (case l13 => k_is)
    (case p13 => k_is)
    (case k13 => k_is)
    (case a14 => k_is)
    (case l14 => k_is)
    (case p14 => k_is)
    (case k14 => k_is)
    (case a15 => k_is)
    (case l15 => k_is)
    (case p15 => k_is)
    (case k15 => k_is)
    (case a16 => k_is)
    (case l16 => k_is)
    (case p16 => k_is)
    (case k16 => k_is)
    (case a17 => k_is)
    (case l17 => k_is)
    (case p17 => k_is)
    (case k17 => k_is)
    (case a18 => k_is)
    (case l18 => k_is)
    (case p18 => k_is)
    (case k18 => k_is)
    (case a19 => k_is)
    (case l19 => k_is)
    (case p19 => k_is)
    (case k19 => k_is)
    (case a20 => k_is)
    (case l20 => k_is)
    (case p20 => k_is)
    (case k20 => k_is)
    (case a21 => k_is)
    (case l21 => k_is)
    (case p21 => k_is)
    (case k21 => k_is)
    (case a22 => k_is)
    (case l22 => k_is)
    (case p22 => k_is)
    (case k22 => k_is)
    (case a23 => k_is)
    (case l23 => k_is)
    (case p23 => k_is)
    (case k23 => k_is)
    (case a24 => k_is)
    (case l24 => k_is)
    (case p24 => k_is)
    (case k24 => k_is)
    (case l25 => k_is)
    (case p25 => k_is)
    (case k25 => k_is)
    (case l26 => k_is)
    (case p26 => k_is)
    (case k26 => k_is)
    (case l27 => k_is)
    (case p27 => k_is)
    (case k27 => k_is)
    (case l28 => k_is)
    (case p28 => k_is)
    (case k28 => k_is)
    (case l29 => k_is)
    (case p29 => k_is)
    (case k29 => k_is)
    (case l30 => k_is)
    (case p30 => k_is)
    (case k30 => k_is)
    (case l31 => k_is)
    (case p31 => k_is)
    (case k31 => k_is)
    (case l32 => k_is)
    (case p32 => k_is)
    (case k32 => k_is)
    (case l33 => k_is)
    (case p33 => k_is)
    (case k33 => k_is)
    (case l34 => k_is)
    (case p34 => k_is)
    (case k34 => k_is)
    (case l35 => k_is)
    (case p35 => k_is)
    (case k35 => k_is)
    (case l36 => k_is)
    (case p36 => k_is)
    (case k36 => k_is)
    (case l37 => k_is)
    (case p37 => k_is)
    (case k37 => k_is)
    (case l38 => k_is)
    (case p38 => k_is)
    (case k38 => k_is)
    (case l39 => k_is)
    (case p39 => k_is)
    (case k39 => k_is)
    (case l40 => k_is)
    (case p40 => k_is)
    (case k40 => k_is)
    (case l41 => k_is)
    (case p41 => k_is)
    (case k41 => k_is)
    (case l42 => k_is)
    (case p42 => k_is)
    (case k42 => k_is)
    (case l43 => k_is)
    (case p43 => k_is)
    (case k43 => k_is)
    (case l44 => k_is)
    (case p44 => k_is)
    (case k44 => k_is)
    (case l45 => k_is)
    (case p45 => k_is)
    (case k45 => k_is)
    (case l46 => k_is)
    (case p46 => k_is)
    (case k46 => k_is)
    (case l47 => k_is)
    (case p47 => k_is)
    (case k47 => k_is)
    (case l48 => k_is)
    (case p48 => k_is)
    (case k48 => k_is)
    (case l49 => k_is)
    (case p49 => k_is)
    (case k49 => k_is)
    (case l50 => k_is)
    (case p50 => k_is)
    (case k50 => k_is)
    (case c_NAME_MOST => k_is)
    (case c_HOURS_MOST => k_is)
    (case c_DEPTH_MOST => k_is)
    (case c_GROWTH_MOST => k_is)
    (case c_THICK_MOST => k_is)
    (case c_BEGIN_MOST => k_is)
    (case c_ASKED_HOUR_MOST => k_is)
    (case c_BREAKING_HOUR_MOST => k_is)
    (case c_CUT_MOST => k_is)
    (case c_STRENGTH_MOST => k_is)
    (case c_BREAKINGS_MOST => k_is)
    (case n_isinstance => k_is)
    (case n_int => k_is)
    (case n_bool => k_is)
    (case n_str => k_is)
    (case n_len => k_is)
    (case n_max => k_is)
    (case n_list => k_is)
    (case n_sorted => k_is)
    (case n_min => k_is)
    (case n_repr => k_is)
    (case n_range => k_is)
    (case n_reversed => k_is)
    (case n_zip => k_is)

