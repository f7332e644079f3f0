import PyProof.Rows.All
import Wide.All
import OpenK.AllK
import Wide.FinOn
import HandS.ForMost
import HandS.Wide
import HandS.Style
import HandS.IsInst
import HandS.Codes
import HandS.Steps
import PyProof.ReprRoads
import HandS.ForExc
import HandS.EndBits
import KE.IntTextLaws
import HandS.ExcInit
import HandS.ExcField
import HandS.TryMany
import HandS.ExcIs
import KE.KExcIs
import KE.KEqDict
import HandS.TryOnly
import KE.KEqNest
import HandS.More
import HandS.Iter
import HandS.Walk
import HandS.Deep
import HandS.SetFor
import HandS.SortRule
import KE.DataFind
import HandS.DictComp
import HandS.RaiseMore
import HandS.Zip
import KE.GoesZip
import KE.GoesMore
import HandS.Star
import HandS.Strs
import KE.GoesEnum
import HandS.ReplaceLit
import HandS.ReplaceDef
import KE.RegKIsAll
import KE.KStateDown
import KE.OsRunLaw
import HandS.Head0
import HandS.Head1
import HandS.Head2
import HandS.ReplaceList
import PySem.Challenge.RW_iceopened_k83_lines_read
set_option Elab.async false
set_option linter.all false
set_option maxRecDepth 100000
set_option maxHeartbeats 4000000
/-! The steps of a reading, one lemma for each construct; facts of heaps. -/
namespace Ice
open PySem PySem.Spec PyProof.Rows L2
section
variable {σ : L2.St} {H H' : Hp} {D : Ends} {t u : TS} {c tt tu : TT} {te ta tb tc : TE} {tA : TA} {Q : VK} {QA : List V → Hp → Prop} {QT : Bool → Hp → Prop} {i : Nat} {v x y : V} {g : TG} {r : R2}
theorem i_seq (h : t { D with nx := u D } σ H) : tSeq t u D σ H := h
theorem i_if (h : c σ H fun b H1 => if b = true then t D σ H1 else u D σ H1) : tIfS c t u D σ H := h
theorem i_next (h : D.nx σ H) : tNext D σ H := h
theorem i_brk (h : D.bk σ H) : tBreak D σ H := h
theorem i_cont (h : D.ct σ H) : tCont D σ H := h
theorem i_ret (h : te σ H D.rt) : tRet te D σ H := h
theorem i_retN (h : D.rt .non H) : tRetN D σ H := h
theorem i_drop (h : te σ H fun _ H1 => D.nx σ H1) : tDrop te D σ H := h
theorem i_asg (h : te σ H fun x H1 => g x σ H1 D.nx) : tAsg te g D σ H := h
theorem i_gname {q : L2.St → Hp → Prop} (h : q (σ.set i (some v)) H) : gName i v σ H q := h
theorem i_gsub {to ti : TE} {s : TSet} {q : L2.St → Hp → Prop} (h : to σ H fun o H1 => ti σ H1 fun i H2 => s o i v H2 fun H3 => q σ H3) : gSub to ti s v σ H q := h
theorem i_var (h : σ[i]? = some (some v)) (q : Q v H) : tVar i σ H Q := ⟨v, h, q⟩
theorem i_c (q : Q v H) : tC v σ H Q := q
theorem i_op (h : ta σ H fun x H1 => tb σ H1 fun y H2 => r x y H2 Q) : tOp r ta tb σ H Q := h
theorem i_un {r : V → Hp → VK → Prop} (h : ta σ H fun x H1 => r x H1 Q) : tUn r ta σ H Q := h
theorem i_test (h : te σ H fun x H' => ∃ k, x = .bl k ∧ QT k H') : tTest te σ H QT := h
theorem i_tB (h : te σ H fun x H' => ∃ k, x = .bl k ∧ QT k H') : tB te σ H QT := h
theorem i_and (h : c σ H fun b H1 => if b = true then tt σ H1 QT else QT false H1) : tAnd c tt σ H QT := h
theorem i_or (h : c σ H fun b H1 => if b = true then QT true H1 else tt σ H1 QT) : tOr c tt σ H QT := h
theorem i_not (h : c σ H fun b H1 => QT (!b) H1) : tNot c σ H QT := h
theorem i_andV (h : ta σ H fun x H1 => ∃ c, x = .bl c ∧ if c = true then tb σ H1 Q else Q (.bl false) H1) : tAndV ta tb σ H Q := h
theorem i_orV (h : ta σ H fun x H1 => ∃ c, x = .bl c ∧ if c = true then Q (.bl true) H1 else tb σ H1 Q) : tOrV ta tb σ H Q := h
theorem i_notV (h : ta σ H fun x H1 => ∃ c, x = .bl c ∧ Q (.bl (!c)) H1) : tNotV ta σ H Q := h
theorem i_ifE (h : c σ H fun b H1 => if b = true then ta σ H1 Q else tb σ H1 Q) : tIf c ta tb σ H Q := h
theorem i_bl {b : Bool} {q : Bool → Prop} (h : q b) : ∃ k, V.bl b = .bl k ∧ q k := ⟨b, rfl, h⟩
theorem i_nil (q : QA [] H) : tNil σ H QA := q
theorem i_cons (h : te σ H fun x H1 => tA σ H1 fun xs H2 => QA (x :: xs) H2) : tCons te tA σ H QA := h
theorem i_call {sp : Sp} {dvs : List V} {E : XK} (h : tA σ H fun vs H1 => sp (vs ++ dvs) H1 Q E) : tCall sp dvs E tA σ H Q := h
theorem i_cb {r : List V → Hp → VK → Prop} (h : tA σ H fun vs H1 => r vs H1 Q) : tCB r tA σ H Q := h
theorem i_rI0 {f : Int → Int → V} {a b : Int} (q : Q (f a b) H) : rI0 f (.int a) (.int b) H Q := ⟨a, b, rfl, rfl, q⟩
theorem i_rI {C : Int → Int → Prop} {f : Int → Int → V} {a b : Int} (hc : C a b) (q : Q (f a b) H) : rI C f (.int a) (.int b) H Q := ⟨a, b, rfl, rfl, hc, q⟩
theorem i_rU {f : Int → V} {a : Int} (q : Q (f a) H) : rU f (.int a) H Q := ⟨a, rfl, q⟩
theorem i_rEq (h : scal x y = true) (q : Q (.bl (decide (x = y))) H) : rEq x y H Q := ⟨h, q⟩
theorem i_rNe (h : scal x y = true) (q : Q (.bl (!decide (x = y))) H) : rNe x y H Q := ⟨h, q⟩
theorem i_chain {r' : R2} (h : ta σ H fun x H1 => tb σ H1 fun y H2 => r x y H2 fun z H3 => ∃ k, z = .bl k ∧ (if k = true then tc σ H3 fun w' H4 => r' y w' H4 Q else Q (.bl false) H3)) : tChain r r' ta tb tc σ H Q := h
theorem i_tup (h : tA σ H fun xs H1 => xs.length ≤ sizeLine ∧ ∀ p, H1 p = none → Q (.ref p) (upd H1 p (.tup xs))) : tTup tA σ H Q := h
theorem i_lst (h : tA σ H fun xs H1 => xs.length ≤ sizeLine ∧ ∀ p, H1 p = none → Q (.ref p) (upd H1 p (.lst xs))) : tLst tA σ H Q := h
theorem i_bm {K : PySem.W.Frag} {T : String} {r : V → List V → Hp → VK → Prop} (h : te σ H fun x H1 => tyV K T x H1 ∧ tA σ H1 fun xs H2 => r x xs H2 Q) : tBM K T r te tA σ H Q := h
theorem i_bm0 {K : PySem.W.Frag} {T : String} {r : V → List V → Hp → VK → Prop} (h : te σ H fun x H1 => tyV K T x H1 ∧ r x [] H1 Q) : tBM0 K T r te σ H Q := h
theorem i_m1 {r : V → List V → Hp → VK → Prop} (h : te σ H fun x H1 => (∃ a, x = .str a) ∧ tb σ H1 fun y H2 => r x [y] H2 Q) : tM1 r te tb σ H Q := h
theorem i_sl {r : V → Option Int → Option Int → Hp → VK → Prop} {tl th : TO} (h : te σ H fun x H1 => tl σ H1 fun a H2 => th σ H2 fun b H3 => r x a b H3 Q) : tSl r te tl th σ H Q := h
theorem i_nopart {q : Option Int → Hp → Prop} (h : q none H) : tNoPart σ H q := h
theorem i_part {q : Option Int → Hp → Prop} (h : te σ H fun x H1 => ∃ i, x = .int i ∧ q (some i) H1) : tPart te σ H q := h
theorem i_int {a : Int} {q : Int → Prop} (h : q a) : ∃ k, V.int a = .int k ∧ q k := ⟨a, rfl, h⟩
theorem i_str {a : Str} {q : Str → Prop} (h : q a) : ∃ k, V.str a = .str k ∧ q k := ⟨a, rfl, h⟩
theorem i_for {wi : TI} {tb : TS} (h : wi σ H fun J H1 => ∃ W : Nat → Nat → L2.St → Hp → Prop, (∃ m, W 0 m σ H1) ∧ ∀ i m σ H, W i m σ H →
      (J.stop i H ∧ D.nx σ H) ∨ (J.go i H ∧ ∃ N : L2.St → Hp → Prop, (∀ σ' H', N σ' H' → ∃ m', m' < m ∧ W (i + 1) m' σ' H') ∧ ∀ x H', J.yld i H x H' → g x σ H' fun σ2 H2 => tb { D with nx := N, ct := N, bk := D.nx } σ2 H2)) : tFor wi g tb D σ H := h
theorem i_yes {q : Bool → Hp → Prop} (h : q true H) : tYes σ H q := h
theorem ifs {b : Bool} {A B : Prop} (h1 : b = true → A) (h2 : b = false → B) : if b = true then A else B := by
  cases b with
  | true => exact h1 rfl
  | false => exact h2 rfl
end
/-! ### heaps -/
/-- all but what stands at b is as it was -/
def But (b : Addr) (H H' : Hp) : Prop := ∀ a o, a ≠ b → H a = some o → H' a = some o
theorem But.refl (b : Addr) (H : Hp) : But b H H := fun _ _ _ h => h
theorem But.trans {b : Addr} {H H1 H2 : Hp} (e : But b H H1) (e' : But b H1 H2) : But b H H2 := fun a o n h => e' a o n (e a o n h)
theorem But.set {b : Addr} {H : Hp} (o : HO) : But b H (upd H b o) := fun a u n h => by rw [upd_ne n]; exact h
theorem But.new {b p : Addr} {H : Hp} (o : HO) (hp : H p = none) : But b H (upd H p o) := fun a u n h => by rw [upd_ne (ne_of_none h hp)]; exact h
theorem Same.new {p : Addr} {H : Hp} (o : HO) (hp : H p = none) : Same H (upd H p o) := fun a u h => by rw [upd_ne (ne_of_none h hp)]; exact h
theorem Same.but {b : Addr} {H H' : Hp} (e : Same H H') : But b H H' := fun a o _ h => e a o h
/-- behind a change at b that H doesn't know -/
theorem But.same {b : Addr} {H H' : Hp} (e : But b H H') (hb : H b = none) : Same H H' := fun a o h => e a o (ne_of_none h hb) h
theorem keepU {H : Hp} {b p : Addr} {o u : HO} (h : H b = some o) (n : H p = none) : upd H p u b = some o := by rw [upd_ne (ne_of_none h n)]; exact h
theorem freeU {H : Hp} {b p : Addr} {u : HO} (h : upd H p u b = none) : H b = none := by
  by_cases e : b = p
  · subst e; rw [upd_same] at h; cases h
  · rw [upd_ne e] at h; exact h
theorem freeNe {H : Hp} {b p : Addr} {u : HO} (h : upd H p u b = none) : b ≠ p := fun e => by subst e; rw [upd_same] at h; cases h
theorem But.free {b p : Addr} {H H' : Hp} (e : But b H H') (n : p ≠ b) (h : H' p = none) : H p = none := by
  cases q : H p with
  | none => rfl
  | some o => rw [e p o n q] at h; cases h
theorem SqL.lst {K : PySem.W.Frag} {H : Hp} {a : Addr} {xs : List V} (h : H a = some (.lst xs)) : SqL K H a xs := .inl (.inl h)
theorem SqT.tup {K : PySem.W.Frag} {H : Hp} {a : Addr} {xs : List V} (h : H a = some (.tup xs)) : SqT K H a xs := .inl (.inl h)
/-- a law's script: what is read never changes -/
theorem SqL.but {K : PySem.W.Frag} {b : Addr} {H H' : Hp} {a : Addr} {xs : List V} (e : But b H H') (n : a ≠ b) (h : SqL K H a xs) : SqL K H' a xs := by
  rcases h with (h | ⟨o, h⟩) | h
  · exact .inl (.inl (e _ _ n h))
  · exact .inl (.inr ⟨o, e _ _ n h⟩)
  · exact .inr h
section
variable {H H' : Hp} {Q : VK} {K : PySem.W.Frag}
theorem i_ixL {p : Addr} {xs : List V} {i : Int} {v : V} (hS : SqL K H p xs) (he : atI xs i = some v) (q : Q v H) : rIxL K (.ref p) (.int i) H Q := ⟨p, xs, i, v, rfl, rfl, hS, he, q⟩
theorem i_ixT {p : Addr} {xs : List V} {i : Int} {v : V} (hS : SqT K H p xs) (he : atI xs i = some v) (q : Q v H) : rIxT K (.ref p) (.int i) H Q := ⟨p, xs, i, v, rfl, rfl, hS, he, q⟩
theorem i_ixS {z : Str} {i : Int} {c : Nat} (hz : z.length ≤ sizeLine) (he : atI z.cps.toList i = some c) (q : Q (.str ⟨#[c]⟩) H) : rIxS (.str z) (.int i) H Q := ⟨z, i, c, rfl, rfl, hz, he, q⟩
theorem i_setL {p : Addr} {xs : List V} {k : Int} {j : Nat} {v : V} {q : Hp → Prop} (h : H p = some (.lst xs)) (hj : ixN xs.length k = some j) (hq : q (upd H p (.lst (xs.set j v)))) : rSetL (.ref p) (.int k) v H q := ⟨p, xs, k, j, rfl, rfl, h, hj, hq⟩
end
/-! ### rules by name -/
def rLen (K : PySem.W.Frag) : List V → Hp → VK → Prop := fun xs H Q => ∃ p ys, xs = [.ref p] ∧ (SqL K H p ys ∨ SqT K H p ys) ∧ Q (.int ys.length) H
def rLenS : List V → Hp → VK → Prop := fun xs H Q => ∃ x, xs = [.str x] ∧ x.length ≤ sizeLine ∧ Q (.int x.length) H
def rMax2 : List V → Hp → VK → Prop := fun xs H Q => ∃ i j, xs = [.int i, .int j] ∧ Q (.int (if j > i then j else i)) H
def rMin2 : List V → Hp → VK → Prop := fun xs H Q => ∃ i j, xs = [.int i, .int j] ∧ Q (.int (if j < i then j else i)) H
def rStrI : List V → Hp → VK → Prop := fun xs H Q => ∃ i, xs = [.int i] ∧ i.natAbs.log2 < 1920 ∧ Q (.str (toString i)) H
def rAddT : R2 := fun x y H Q => ∃ i j, x = .str i ∧ y = .str j ∧ i.length + j.length ≤ sizeLine ∧ Q (.str (i ++ j)) H
section
variable {X : Cx} {H H' : Hp} {Q : VK} {K : PySem.W.Frag}
theorem c_len : CallR X (.builtin "len") (rLen X.K) := call_len_seq
theorem c_lenS : CallR X (.builtin "len") rLenS := call_len_str
theorem c_max2 (hc : X.calm = true := by rfl) : CallR X (.builtin "max") rMax2 := call_max2 hc
theorem c_min2 (hc : X.calm = true := by rfl) : CallR X (.builtin "min") rMin2 := call_min2 hc
theorem c_strI : CallR X (.type "str") rStrI := call_str_int
theorem o_addT : OpR X (binaryOp .Add) rAddT := op_add_str
theorem i_lenL {p : Addr} {xs : List V} (hS : SqL K H p xs) (q : Q (.int xs.length) H) : rLen K [.ref p] H Q := ⟨p, xs, rfl, .inl hS, q⟩
theorem i_lenT {p : Addr} {xs : List V} (hS : SqT K H p xs) (q : Q (.int xs.length) H) : rLen K [.ref p] H Q := ⟨p, xs, rfl, .inr hS, q⟩
theorem i_lenS {x : Str} (hz : x.length ≤ sizeLine) (q : Q (.int x.length) H) : rLenS [.str x] H Q := ⟨x, rfl, hz, q⟩
theorem i_max2 {i j : Int} (q : Q (.int (if j > i then j else i)) H) : rMax2 [.int i, .int j] H Q := ⟨i, j, rfl, q⟩
theorem i_min2 {i j : Int} (q : Q (.int (if j < i then j else i)) H) : rMin2 [.int i, .int j] H Q := ⟨i, j, rfl, q⟩
theorem i_strI {i : Int} (h : i.natAbs.log2 < 1920) (q : Q (.str (toString i)) H) : rStrI [.int i] H Q := ⟨i, rfl, h, q⟩
theorem i_addT {x y : Str} (h : x.length + y.length ≤ sizeLine) (q : Q (.str (x ++ y)) H) : rAddT (.str x) (.str y) H Q := ⟨x, y, rfl, rfl, h, q⟩
end
/-- the box that numbers are drawn from -/
structure Box (H : Hp) (b : Addr) (n : Nat) : Prop where
  ex : ∃ (x y z : Int), H b = some (.lst [.int x, .int y, .int z]) ∧ 0 ≤ x ∧ 0 ≤ y ∧ y < 2147483629 ∧ 0 ≤ z ∧ z ≤ n
theorem Box.mono {H : Hp} {b : Addr} {n m : Nat} (h : Box H b n) (e : n ≤ m) : Box H b m := by
  obtain ⟨x, y, z, h1, h2, h3, h4, h5, h6⟩ := h
  exact ⟨x, y, z, h1, h2, h3, h4, h5, by omega⟩
theorem Box.same {H H' : Hp} {b : Addr} {n : Nat} (h : Box H b n) (e : Same H H') : Box H' b n := by
  obtain ⟨x, y, z, h1, h2⟩ := h
  exact ⟨x, y, z, e _ _ h1, h2⟩
/-- the law's own promise -/
def spLaw (K : PySem.W.Frag) : Sp := fun vs H Q _ => ∃ (a : Addr) (ns : List Int), vs = [.ref a] ∧ SqL K H a (ns.map V.int) ∧ ns.length ≤ 63 ∧ (∀ z ∈ ns, Builtin.Int.intBits z ≤ 1048576) ∧ Only H ∧ ∀ H', Q (.bl true) H'
theorem law_sp (K : PySem.W.Frag) (H : Hp) (a : Addr) (ns : List Int) (h1 : ns.length ≤ 63) (h2 : ∀ z ∈ ns, Builtin.Int.intBits z ≤ 1048576) (h3 : Only H) (h4 : SqL K H a (ns.map V.int)) :
    spLaw K [.ref a] H (fun v _ => v = .bl true) fun _ _ _ => False := ⟨a, ns, rfl, h4, h1, h2, h3, fun _ => rfl⟩
theorem sz_of {n : Nat} (h : n ≤ 100000) : n ≤ sizeLine := Nat.le_trans h (by decide)
theorem i_room {n : Nat} {B : Prop} (h : n ≤ sizeLine) (q : B) : n ≤ sizeLine ∧ B := ⟨h, q⟩
theorem iteNT {A B : Prop} (h : B) : if (!true) = true then A else B := h
theorem iteNF {A B : Prop} (h : A) : if (!false) = true then A else B := h
theorem i_cut {t u : TS} {D : Ends} {σ : L2.St} {H : Hp} (Mid : L2.St → Hp → Prop) (h1 : t { D with nx := Mid } σ H) (h2 : ∀ σ' H', Mid σ' H' → u D σ' H') : C8.tCut t u D σ H := ⟨Mid, h1, h2⟩
theorem i_isstr {x : Str} {B : Prop} (h : B) : (∃ a, V.str x = .str a) ∧ B := ⟨⟨x, rfl⟩, h⟩
theorem i_wipe {a b : L2.St} {vs : List Nat} {B : Prop} (h : wipe a vs = wipe b vs) (q : B) : wipe a vs = wipe b vs ∧ B := ⟨h, q⟩
theorem i_rng1 {tA : TA} {σ : L2.St} {H : Hp} {R : It → Hp → Prop} (h : tA σ H fun vs H1 => ∃ j : Int, vs = [.int j] ∧ -(2 ^ 62) ≤ j ∧ j < 2 ^ 62 ∧ R (Itr 0 j.toNat) H1) : iRng1 tA σ H R := h
theorem i_lc {wi : TI} {g : TG} {tt : TT} {te : TE} {vs : List Nat} {σ : L2.St} {H : Hp} {Q : VK} (h : wi σ H fun J H1 => ∀ D, H1 D = none → ∃ W : Nat → Nat → Hp → Prop, (∃ m, W 0 m (upd H1 D (.lst []))) ∧ ∀ i m H, W i m H →
    (J.stop i H ∧ Q (.ref D) H) ∨ (J.go i H ∧ ∃ Nx : Hp → Prop, (∀ H', Nx H' → ∃ m', m' < m ∧ W (i + 1) m' H') ∧ ∀ x H', J.yld i H x H' → g x (wipe σ vs) H' fun σ2 H2 => wipe σ2 vs = wipe σ vs ∧ tt σ2 H2 fun b H3 =>
      if b = true then te σ2 H3 fun y H4 => ∃ acc, H4 D = some (.lst acc) ∧ acc.length < sizeLine ∧ Nx (upd H4 D (.lst (acc ++ [y]))) else Nx H3)) : tLc wi g tt te vs σ H Q := h
theorem Box.ne {H : Hp} {b p : Addr} {n : Nat} (h : Box H b n) (hp : H p = none) : p ≠ b := by
  obtain ⟨x, y, z, h1, _⟩ := h
  exact (ne_of_none h1 hp).symm
theorem Box.upd {H : Hp} {b p : Addr} {n : Nat} {o : HO} (h : Box H b n) (hp : p ≠ b) : Box (upd H p o) b n := by
  obtain ⟨x, y, z, h1, h2⟩ := h
  exact ⟨x, y, z, by rw [upd_ne hp.symm]; exact h1, h2⟩
theorem But.upd {H H' : Hp} {b p : Addr} {o : HO} (e : But b H H') (hp : H p = none) : But b H (upd H' p o) := fun a u n h => by rw [upd_ne (ne_of_none h hp)]; exact e a u n h
theorem Box.new {H : Hp} {b p : Addr} {n : Nat} {o : HO} (h : Box H b n) (hp : H p = none) : Box (L2.upd H p o) b n := h.upd (h.ne hp)
theorem i_list {K : PySem.W.Frag} {te : TE} {σ : L2.St} {H : Hp} {R : It → Hp → Prop} (h : te σ H fun x H1 => ∃ a, x = .ref a ∧ (∃ xs, SqL K H1 a xs) ∧ R (Itl K a) H1) : iList K te σ H R := h
theorem i_revL {K : PySem.W.Frag} {te : TE} {σ : L2.St} {H : Hp} {Q : VK} (h : te σ H fun x H1 => ∃ a xs, x = .ref a ∧ SqL K H1 a xs ∧ ∀ p, H1 p = none → Q (.ref p) (upd H1 p (.lst xs.reverse))) : tRevL K te σ H Q := h
theorem But.to {b : Addr} {H H1 H2 : Hp} (s : Same H H1) (e : But b H1 H2) (hb : H b = none) : Same H H2 := fun a o h => e a o (ne_of_none h hb) (s a o h)
theorem Same.upd {H H' : Hp} {p : Addr} {o : HO} (s : Same H H') (hp : H p = none) : Same H (L2.upd H' p o) := fun a u h => by rw [upd_ne (ne_of_none h hp)]; exact s a u h
theorem i_disp {trs : List (TE × TE)} {σ : L2.St} {H : Hp} {Q : VK} (h : ∀ p, H p = none → tPairs trs σ (upd H p (.dK [])) fun ps H2 => H2 p = some (.dK []) ∧ ∃ kvs : List (Key × V), ps = kvs.map (fun kv => (kV kv.1, kv.2)) ∧ kvs.length ≤ 15 ∧ Q (.ref p) (upd H2 p (.dK (mergeK [] kvs)))) : tDisp trs σ H Q := h
theorem i_pairs0 {σ : L2.St} {H : Hp} {Q : List (V × V) → Hp → Prop} (h : Q [] H) : tPairs [] σ H Q := h
theorem i_pairs {tk tv : TE} {r : List (TE × TE)} {σ : L2.St} {H : Hp} {Q : List (V × V) → Hp → Prop} (h : tk σ H fun x H1 => tv σ H1 fun y H2 => tPairs r σ H2 fun ps H3 => Q ((x, y) :: ps) H3) : tPairs ((tk, tv) :: r) σ H Q := h
theorem i_newK {σ : L2.St} {H : Hp} {Q : VK} (h : ∀ p, H p = none → Q (.ref p) (upd H p (.dK []))) : tDNewK σ H Q := h
theorem i_gtup {K : PySem.W.Frag} {n : Nat} {t : TGs} {a : Addr} {xs : List V} {σ : L2.St} {H : Hp} {Q : L2.St → Hp → Prop} (hS : SqT K H a xs) (hl : xs.length = n) (q : t xs σ H Q) : gTup K n t (.ref a) σ H Q := ⟨a, xs, rfl, hS, hl, q⟩
theorem i_gcons {t : TG} {u : TGs} {v : V} {r : List V} {σ : L2.St} {H : Hp} {Q : L2.St → Hp → Prop} (q : t v σ H fun σ' H' => u r σ' H' Q) : gCons t u (v :: r) σ H Q := ⟨v, r, rfl, q⟩
theorem i_gnil {σ : L2.St} {H : Hp} {Q : L2.St → Hp → Prop} (q : Q σ H) : gNil [] σ H Q := ⟨rfl, q⟩
/-- p is new in H', and holds o -/
structure New (H : Hp) (p : Addr) (o : HO) (H' : Hp) : Prop where
  free : H p = none
  same : Same H H'
  at_ : H' p = some o
theorem New.mk' {H : Hp} {p : Addr} {o : HO} (hp : H p = none) : New H p o (upd H p o) := ⟨hp, Same.new o hp, upd_same⟩
theorem i_new {H : Hp} {o : HO} {G : Addr → Hp → Prop} (h : ∀ p H', New H p o H' → G p H') : ∀ p, H p = none → G p (upd H p o) := fun p hp => h p _ (.mk' hp)
theorem Box.nw {H H' : Hp} {b p : Addr} {n : Nat} {o : HO} (h : Box H b n) (N : New H p o H') : Box H' b n := h.same N.same
theorem Box.off {H H' : Hp} {b p : Addr} {n : Nat} {o : HO} (h : Box H b n) (N : New H p o H') : p ≠ b := h.ne N.free
theorem New.but {H H' : Hp} {b p : Addr} {o : HO} (N : New H p o H') : But b H H' := Same.but N.same
theorem Same.app {H H' : Hp} {a : Addr} {o : HO} (s : Same H H') (h : H a = some o) : H' a = some o := s a o h
theorem But.app {H H' : Hp} {a b : Addr} {o : HO} (s : But b H H') (n : a ≠ b) (h : H a = some o) : H' a = some o := s a o n h
theorem New.app {H H' : Hp} {a p : Addr} {o u : HO} (N : New H p o H') (h : H a = some u) : H' a = some u := N.same a u h
theorem i_cat {H : Hp} {Q : VK} {l b : Addr} {xs zs : List V} (hl : H l = some (.lst xs)) (hb : H b = some (.lst zs)) (hz : xs.length + zs.length ≤ sizeLine) (h : ∀ p, H p = none → Q (.ref p) (upd H p (.lst (xs ++ zs)))) : rCat (.ref l) (.ref b) H Q := ⟨l, b, xs, zs, rfl, rfl, hl, hb, hz, h⟩
theorem New.of {H H' : Hp} {p : Addr} {o : HO} (e : upd H p o = H') (hp : H p = none) : New H p o H' := e ▸ .mk' hp
theorem i_tyL {K : PySem.W.Frag} {H : Hp} {l : Addr} {xs : List V} {B : Prop} (h : H l = some (.lst xs)) (q : B) : tyV K "list" (.ref l) H ∧ B := ⟨.inl ⟨rfl, _, SqL.lst h⟩, q⟩
theorem i_append {H : Hp} {Q : VK} {l : Addr} {xs : List V} {v : V} (h : H l = some (.lst xs)) (hz : xs.length ≤ 100000) (q : Q .non (upd H l (.lst (xs ++ [v])))) : rAppend (.ref l) [v] H Q := ⟨l, xs, v, rfl, rfl, h, Nat.lt_of_le_of_lt hz (by decide), q⟩
theorem i_rng1v {j : Int} {R : It → Hp → Prop} {H : Hp} (h0 : 0 ≤ j) (h1 : j ≤ 1000000) (q : R (Itr 0 j.toNat) H) : ∃ j' : Int, [V.int j] = [.int j'] ∧ -(2 ^ 62) ≤ j' ∧ j' < 2 ^ 62 ∧ R (Itr 0 j'.toNat) H := ⟨j, rfl, by omega, by omega, q⟩
end Ice

set_option Elab.async false
set_option linter.all false
set_option maxRecDepth 100000
set_option maxHeartbeats 4000000
/-! A def's promise where no repr is under way (guards are none): as the layer's, with that one fact more. -/
namespace Ice
open PySem PySem.Spec PyProof.Rows L2
/-- as the layer's promise of a def, called where no repr is under way -/
structure FnG (P : Program) (w : World) (K : PySem.W.Frag) (mg : Str → Option Value) (base : Heap) (X0 : CXT) (k : Nat) (f : Addr) (fd : FuncData) (ps : List Str) (sp : Sp) : Prop where
  len : ∀ vs H Q E, sp vs H Q E → vs.length = ps.length
  run : ∀ (A : Around) (outer : List Env) (s : Shared) (H : Hp) (args : Args) (us : List Value) (vs : List V) (Q : VK) (E : XK),
    Room k A → A.guards = some [] → Env0 P w K mg base A outer s H → BindsTo s fd args (ps.zip us) → Vals vs us → sp vs H Q E →
      codeAny (model P w) A (.call (.ref f) args) (CR X0 outer P w H s Q E) s
section
variable {P : Program} {w : World} {K : PySem.W.Frag} {mg : Str → Option Value} {base : Heap} {X0 : CXT} {k j : Nat} {f : Addr} {fd : FuncData} {ps : List Str} {sp : Sp}
theorem FnG.of (F : FnOk P w K mg base X0 k f fd ps sp) : FnG P w K mg base X0 k f fd ps sp :=
  ⟨F.len, fun A outer s H args us vs Q E hr _ => F.run A outer s H args us vs Q E hr⟩
theorem FnG.mono (F : FnG P w K mg base X0 j f fd ps sp) (h : j ≤ k) : FnG P w K mg base X0 k f fd ps sp :=
  ⟨F.len, fun A outer s H args us vs Q E hr => F.run A outer s H args us vs Q E (hr.mono h)⟩
/-- a def of the text by its body, told where no repr is under way -/
theorem fn_ofG {name qual : Str} {params : Arguments} {body : List Stmt} {scope : Scope} {dV kV doc pm cdv ct oc : Value} {an od : Option Addr} {osl : Array (Option Value)} {N : List Str}
    (lk : K.lookup f = some ⟨oc, od, .func (PySem.W.fnOf name qual params body scope dV kV doc pm an cdv ct), osl⟩) (hcd : PySem.W.codeIn K cdv qual = true)
    (S : FnScope N ps scope) (len : ∀ vs H Q E, sp vs H Q E → vs.length = ps.length)
    (hbody : ∀ (A : Around) (outer : List Env) (s : Shared) (H : Hp) (vs : List V) (Q : VK) (E : XK), Room k (A.deeper (envOfC qual scope s.heap.objs.size f cdv)) → A.guards = some [] → sp vs H Q E →
      ∃ t, PSs (cxOf X0 P w K mg base N qual scope f cdv A outer s H E) body t ∧ t { nx := fun _ H' => Q .non H', rt := Q } (start N vs) H) :
    FnG P w K mg base X0 (k + 1) f (PySem.W.fnOf name qual params body scope dV kV doc pm an cdv ct) ps sp := by
  refine ⟨len, fun A outer s H args us vs Q E hr hgd e0 hb r hsp => ?_⟩
  have hl := len _ _ _ _ hsp
  have KX : K.In s.heap := e0.mod.kin.keeps (fun b o e => And.left (e0.bs b o e))
  have lim : s.heap.NoLimit := e0.mod.nolimit.keeps (fun b o e => And.left (e0.bs b o e))
  have hk2 : ∀ y ∈ ps.zip us, scope.names.lookup y.1 = some .local ∨
      (scope.names.lookup y.1 = some .cell ∧ ((cellsFrom (s.heap.objs.size + 1) scope.names []).lookup y.1).isSome = true) := by
    rintro ⟨n, v⟩ hy
    rcases S.par n (List.of_mem_zip hy).1 with q | q
    · exact Or.inl q
    · exact Or.inr ⟨q, PySem.W.cellsFrom_some _ _ _ (Or.inl q)⟩
  refine codeAny_call_function hr.depth (KX _ _ lk) rfl S.co S.gen rfl (PySem.W.codeRec_of KX hcd) (hb _ _ _ _ (wpAny_newFunctionEnv_cells S.kind hk2 (fun env he s1 x => ?_)))
  subst he
  refine And.intro (lim.keeps x.toInCall.keep) (codeAny_func ?_)
  obtain ⟨t, ht, hq⟩ := hbody A outer s H vs Q E (hr.deeper _) hgd hsp
  have I := inv_start (CX := X0) (P := P) (w := w) (K := K) (mg := mg) (base := base) (f := f) (cd := cdv) (A := A) (outer := outer) (E := E) S hr.hd e0 hl r x
  refine wpAny_mono (ht.run [] s1 (start N vs) H _ I hq) (fun fl s' hs => ?_) (fun e s' hs => hs)
  cases fl with
  | ret u => obtain ⟨v, σ', H', J, rv, q⟩ := hs; exact ⟨v, H', J.os, J.bare, J.base, J.hok, rv, q⟩
  | next => obtain ⟨σ', H', J, q⟩ := hs; exact ⟨V.non, H', J.os, J.bare, J.base, J.hok, rfl, q⟩
  | brk => obtain ⟨_, _, _, q⟩ := hs; exact q.elim
  | cont => obtain ⟨_, _, _, q⟩ := hs; exact q.elim
end
section
variable {P : Program} {w : World} {K : PySem.W.Frag} {mg : Str → Option Value} {base : Heap} {x qual : Str} {st : Stmt} {f : Addr} {fd : FuncData} {N ps : List Str} {k : Nat} {sp : Sp}
theorem okG (F : Fun K x qual st f fd) (S : FnScope N ps (defScope st)) (len : ∀ vs H Q E, sp vs H Q E → vs.length = ps.length)
    (hbody : ∀ (cdv : Value) (A : Around) (outer : List Env) (s : Shared) (H : Hp) (vs : List V) (Q : VK) (E : XK), Room k (A.deeper (envOfC qual (defScope st) s.heap.objs.size f cdv)) → A.guards = some [] → sp vs H Q E →
      ∃ t, PSs (cxOf CX0 P w K mg base N qual (defScope st) f cdv A outer s H E).nox (defBody st) t ∧ t { nx := fun _ H' => Q .non H', rt := Q } (start N vs) H) :
    FnG P w K mg base CX0 (k + 1) f fd ps sp := by
  obtain ⟨oc, od, kV, doc, pm, an, cdv, ct, osl, rfl, lk, hcd⟩ := F.ex
  refine fn_ofG lk hcd S len (fun A outer s H vs Q E hr hgd hsp => ?_)
  obtain ⟨t, h, q⟩ := hbody cdv A outer s H vs Q E hr hgd hsp
  exact ⟨t, h.nox, q⟩
theorem okGX (F : Fun K x qual st f fd) (S : FnScope N ps (defScope st)) (len : ∀ vs H Q E, sp vs H Q E → vs.length = ps.length)
    (hbody : ∀ (cdv : Value) (A : Around) (outer : List Env) (s : Shared) (H : Hp) (vs : List V) (Q : VK) (E : XK), Room k (A.deeper (envOfC qual (defScope st) s.heap.objs.size f cdv)) → A.guards = some [] → sp vs H Q E →
      ∃ t, PSs (cxOf (L2.CX P w) P w K mg base N qual (defScope st) f cdv A outer s H E) (defBody st) t ∧ t { nx := fun _ H' => Q .non H', rt := Q } (start N vs) H) :
    FnG P w K mg base (L2.CX P w) (k + 1) f fd ps sp := by
  obtain ⟨oc, od, kV, doc, pm, an, cdv, ct, osl, rfl, lk, hcd⟩ := F.ex
  exact fn_ofG lk hcd S len (fun A outer s H vs Q E hr hgd hsp => hbody cdv A outer s H vs Q E hr hgd hsp)
end
/-! ### calls of such defs -/
section
variable {X : Cx} {X0 : CXT} {k : Nat} {f C : Addr} {fd : FuncData} {ps : List Str} {sp : Sp} {dvs : List V} {ds : List Value} {E : XK} {x m : Str} {p pos apos : Pos} {e o : Expr} {es : List Expr} {ta : TE} {t : TA}
theorem run_g {pins : List (Addr × Obj)} {σ : L2.St} {H : Hp} {s : Shared} {Q : VK} {us : List Value} {vs : List V} (F : FnG X.prog X.w X.K X.mg X.base X0 k f fd ps sp) (hr : Room k X.A) (hgd : X.A.guards = some [])
    (hb : Binds X.K fd ps ds) (hd : Vals dvs ds) (hx : Passes X0 X E) (I : Inv X pins σ H s) (r : Vals vs us) (h : sp (vs ++ dvs) H Q E) :
    wpAny (model X.prog X.w) X.A (call (.ref f) us) (EP X pins σ Q) X.xe s := by
  have r2 := Vals.append r hd
  have hl : (us ++ ds).length = ps.length := (Vals.length r2).symm.trans (F.len _ _ _ _ h)
  refine wpAny_call (codeAny_mono (F.run X.A X.stack s H ⟨us, []⟩ (us ++ ds) (vs ++ dvs) Q E hr hgd I.env0 (hb s us I.kIn hl) r2 h) (fun r s' hq => ?_))
  match r, hq with
  | .error e, hq => exact hx pins σ H s e s' I hq
  | .ok (.ret u), hq => exact I.after hq
  | .ok .next, hq => exact False.elim hq
  | .ok .brk, hq => exact False.elim hq
  | .ok .cont, hq => exact False.elim hq
theorem g_call (F : FnG X.prog X.w X.K X.mg X.base X0 k f fd ps sp) (hr : Room k X.A) (hgd : X.A.guards = some []) (hg : Gl X x) (hm : X.mg x = some (.ref f)) (hk : PySem.W.keepIn X.K (.ref f) = true) (hb : Binds X.K fd ps ds) (hd : Vals dvs ds)
    (hx : Passes X0 X E) (ha : PA X (e :: es) t) (hdb : (x == ("__debug__" : Str)) = false := by decide) (he : starEach (e :: es) X.env = (false, eval e X.env) :: starEach es X.env := by rfl)
    (hpl : (backTo pos (starEach es X.env)).any (·.1) = false := by rfl) : PE X (.Call (.Name x p) (e :: es) [] pos) (tCall sp dvs E t) := by
  constructor
  intro pins s σ H Q I h
  refine wpAny_Call_Name_kw (ld_glob I hg hm (PySem.W.callWith_K (h₀ := X.base) I.ok.mod.kin hk ?_ he hpl) hdb)
  exact thn (ha.run pos pins s σ H _ I h) (fun us s1 ⟨vs, H1, I1, r, q⟩ => ⟨I1.kIn, run_g F hr hgd hb hd hx I1 r q⟩)
theorem g_call0 (F : FnG X.prog X.w X.K X.mg X.base X0 k f fd ps sp) (hr : Room k X.A) (hgd : X.A.guards = some []) (hg : Gl X x) (hm : X.mg x = some (.ref f)) (hk : PySem.W.keepIn X.K (.ref f) = true) (hb : Binds X.K fd ps ds) (hd : Vals dvs ds)
    (hx : Passes X0 X E) (hdb : (x == ("__debug__" : Str)) = false := by decide) : PE X (.Call (.Name x p) [] [] pos) (tCall sp dvs E tNil) := by
  constructor
  intro pins s σ H Q I h
  exact wpAny_Call_Name_kw (ld_glob I hg hm (PySem.W.callWith_K0 I.kIn hk (run_g (us := []) F hr hgd hb hd hx I .nil h)) hdb)
theorem g_meth {pl : Sem Bool} (he : PE X o ta) (c : Cls X.K C) (hm : Meth X.K C m f) (F : FnG X.prog X.w X.K X.mg X.base X0 k f fd ps sp) (hr : Room k X.A) (hgd : X.A.guards = some []) (hb : Binds X.K fd ps ds) (hd : Vals dvs ds)
    (hx : Passes X0 X E) (ha : PA X (e :: es) t) (hst : starEach (e :: es) X.env = (false, eval e X.env) :: starEach es X.env := by rfl) (hpl : (backTo pos (starEach es X.env)).any (·.1) = false := by rfl)
    (ht : eval (.Call (.Attribute o m apos) (e :: es) [] pos) X.env =
      (do let ov ← eval o X.env; standAt apos.atName; let (f, first) ← holding [ov] (getMethod ov m pl); callWith pos f first (backTo pos (starEach (e :: es) X.env)) (backToKw pos (keywordEach [] X.env))) := by rfl) :
    PE X (.Call (.Attribute o m apos) (e :: es) [] pos) (tMeth C m sp dvs E ta t) := by
  constructor
  intro pins s σ H Q I h
  refine PySem.W.methodCall_KW (pl := pl) (thn (he.run pins s σ H _ I h) (fun u s1 ⟨x, H1, I1, rx, a, dx, fs, ex, ea, l, q⟩ => ?_)) ht
  subst ex
  cases (show u = Value.ref a from rx)
  refine getmeth_ok I1 ea c hm l (PySem.W.callWith_K (first := [.ref a]) (h₀ := X.base) I.ok.mod.kin hm.kp ?_ hst hpl)
  exact thn (ha.run pos pins s1 σ H1 _ I1 q) (fun us s2 ⟨vs, H2, I2, r, q2⟩ => ⟨I2.kIn, run_g (us := .ref a :: us) (vs := .ref a :: vs) F hr hgd hb hd hx I2 (.cons rfl r) q2⟩)
theorem g_meth0 {pl : Sem Bool} (he : PE X o ta) (c : Cls X.K C) (hm : Meth X.K C m f) (F : FnG X.prog X.w X.K X.mg X.base X0 k f fd ps sp) (hr : Room k X.A) (hgd : X.A.guards = some []) (hb : Binds X.K fd ps ds) (hd : Vals dvs ds)
    (hx : Passes X0 X E)
    (ht : eval (.Call (.Attribute o m apos) [] [] pos) X.env =
      (do let ov ← eval o X.env; standAt apos.atName; let (f, first) ← holding [ov] (getMethod ov m pl); callWith pos f first (backTo pos (starEach [] X.env)) (backToKw pos (keywordEach [] X.env))) := by rfl) :
    PE X (.Call (.Attribute o m apos) [] [] pos) (tMeth C m sp dvs E ta tNil) := by
  constructor
  intro pins s σ H Q I h
  refine PySem.W.methodCall_KW (pl := pl) (thn (he.run pins s σ H _ I h) (fun u s1 ⟨x, H1, I1, rx, a, dx, fs, ex, ea, l, q⟩ => ?_)) ht
  subst ex
  cases (show u = Value.ref a from rx)
  exact getmeth_ok I1 ea c hm l (PySem.W.callWith_K0 (first := [.ref a]) I1.kIn hm.kp (run_g (us := [.ref a]) (vs := [.ref a]) F hr hgd hb hd hx I1 (.cons rfl .nil) q))
theorem make_guards {A : Around} {C : Addr} {us : List Value} {kw : List (Str × Value)} (h : A.guards = some []) : (A.under (.builtin "type.__call__" ⟨.ref C :: us, kw⟩)).guards = some [] := by
  show pushGuards (Code.guards (.builtin "type.__call__" ⟨.ref C :: us, kw⟩)) A.guards = some []
  rw [h]; rfl
theorem run_mk {pins : List (Addr × Obj)} {σ : L2.St} {H : Hp} {s : Shared} {Q : VK} {us : List Value} {vs : List V} (M : Mk X.K C f) (F : FnG X.prog X.w X.K X.mg X.base X0 k f fd ps sp) (hr : Room (k + 1) X.A) (hgd : X.A.guards = some [])
    (hb : Binds X.K fd ps ds) (hd : Vals dvs ds) (hx : Passes X0 X E) (I : Inv X pins σ H s) (r : Vals vs us)
    (h : ∀ x dx, H x = none → H dx = none → dx ≠ x → sp (.ref x :: (vs ++ dvs)) (upd (upd H dx (.own x)) x (.ins C dx [])) (fun v H2 => v = .non ∧ Q (.ref x) H2) E) :
    wpAny (model X.prog X.w) X.A (call (.ref C) us) (EP X pins σ Q) X.xe s := by
  have hq := h (s.heap.objs.size + 1) s.heap.objs.size (I.hok.fresh (Nat.le_succ _)) (I.hok.fresh (Nat.le_refl _)) (by simp)
  have I2 := Inv.made (C := C) I
  have r2 : Vals (V.ref (s.heap.objs.size + 1) :: (vs ++ dvs)) (Value.ref (s.heap.objs.size + 1) :: (us ++ ds)) := .cons rfl (Vals.append r hd)
  have hl : (Value.ref (s.heap.objs.size + 1) :: us ++ ds).length = ps.length := (Vals.length r2).symm.trans (F.len _ _ _ _ hq)
  have run := F.run _ X.stack _ _ ⟨Value.ref (s.heap.objs.size + 1) :: us, []⟩ (Value.ref (s.heap.objs.size + 1) :: (us ++ ds)) _ _ E (hr.make C us []) (make_guards hgd) (I2.env0.make C us [])
    (hb _ (Value.ref (s.heap.objs.size + 1) :: us) I2.kIn hl) r2 hq
  refine wpAny_call (make_map (f := f) I.kIn M.makes M.init (beq_iff_eq.mp M.fn) (codeAny_mono run (fun r s' hq' => ?_)))
  match r, hq' with
  | .error e, hq' => exact hx pins σ _ _ e s' I2 hq'
  | .ok (.ret u), hq' =>
    obtain ⟨v, H', I3, rv, ev, q3⟩ := I2.after hq'
    subst ev
    exact ⟨rv, V.ref (s.heap.objs.size + 1), H', I3, rfl, q3⟩
  | .ok .next, hq' => exact False.elim hq'
  | .ok .brk, hq' => exact False.elim hq'
  | .ok .cont, hq' => exact False.elim hq'
theorem g_make (M : Mk X.K C f) (F : FnG X.prog X.w X.K X.mg X.base X0 k f fd ps sp) (hr : Room (k + 1) X.A) (hgd : X.A.guards = some []) (hg : Gl X x) (hm : X.mg x = some (.ref C)) (hb : Binds X.K fd ps ds) (hd : Vals dvs ds) (hx : Passes X0 X E)
    (ha : PA X (e :: es) t) (hdb : (x == ("__debug__" : Str)) = false := by decide) (he : starEach (e :: es) X.env = (false, eval e X.env) :: starEach es X.env := by rfl)
    (hpl : (backTo pos (starEach es X.env)).any (·.1) = false := by rfl) : PE X (.Call (.Name x p) (e :: es) [] pos) (tMake C sp dvs E t) := by
  constructor
  intro pins s σ H Q I h
  refine wpAny_Call_Name_kw (ld_glob I hg hm (PySem.W.callWith_K (h₀ := X.base) I.ok.mod.kin M.kp ?_ he hpl) hdb)
  exact thn (ha.run pos pins s σ H _ I h) (fun us s1 ⟨vs, H1, I1, r, q⟩ => ⟨I1.kIn, run_mk M F hr hgd hb hd hx I1 r q⟩)
end
end Ice

set_option Elab.async false
set_option linter.all false
set_option maxRecDepth 100000
set_option maxHeartbeats 4000000
/-! The law's own call, where its def is told with no repr under way. -/
namespace Ice
open PySem PySem.Spec PyProof.Rows L2
section
variable {P : Program} {w : World} {K : PySem.W.Frag} {mg mb : Str → Option Value} {X0 : CXT} {k : Nat} {fa a : Addr} {fd : FuncData} {x : Str} {sp : Sp} {s : Shared} {vs : List Value} {ns : List Int}
/-- the heap at the law's entry, where at most the script at a is tracked -/
theorem law_at (KX : K.In s.heap) (hns : s.heap.Ns mainGlobals mg) (hb : s.heap.Ns builtinsNs mb) (hbb : ∀ y : Str, y ≠ "__name__" → mb y = bootBuiltins y) (hlim : s.heap.NoLimit) (hg : s.gens = #[])
    (ha : s.heap.get? a = some { cls := .type "list", data := .seq vs.toArray }) (hr : Room k callerA)
    (F : ∀ base : Heap, K.In base → base.Ns mainGlobals mg → FnG P w K mg base X0 k fa fd [x] sp) (hbind : ∀ (s : Shared) (u : Value), BindsTo s fd ⟨[u], []⟩ [(x, u)])
    (hX : ∀ H e s', X0 [] H s (fun _ _ _ => False) e s' → False) (H : Hp) (hO : Only H) (hsp : sp [.ref a] H (fun v _ => v = .bl true) fun _ _ _ => False)
    (ok : HOk P w H s.heap) (hA : ∀ b u, H b = some u → b = a) (hK : ∀ u, H a = some u → K.lookup a = none) :
    codeAny (model P w) callerA (.call (.ref fa) ⟨[.ref a], []⟩) (fun r s' => r = .ok (.ret (.bool true)) ∧ OldK s.heap s'.heap ∧ s'.os = s.os ∧ AllBare s'.gens) s := by
  -- a dict's object is not the script's
  have nd : ∀ {b : Addr} {o : Obj} {es : Array DictEntry} {ep : Nat}, s.heap.get? b = some o → o.data = .dict es ep → H b = none := by
    intro b o es ep e d
    match q : H b with
    | none => rfl
    | some u =>
      cases hA b u q
      rw [ha] at e
      cases e
      cases (show Data.seq vs.toArray _ = Data.dict es ep from d)
  have up : ∀ {b : Addr} {m : Str → Option Value}, s.heap.Ns b m → (hidT s.heap H).Ns b m := by
    rintro b m ⟨o, es, ep, e, d, r⟩
    exact ⟨o, es, ep, hidT_get e (nd e d), d, r⟩
  have KB : K.In (hidT s.heap H) := by
    intro b o e
    refine hidT_get (KX b o e) ?_
    match q : H b with
    | none => rfl
    | some u =>
      cases hA b u q
      rw [hK u q] at e
      cases e
  have md : Mod K mg (hidT s.heap H) := by
    obtain ⟨mc, l1, l2⟩ := hlim
    exact ⟨KB, up hns, ⟨mb, up hb, hbb⟩, mc, up l1, l2⟩
  have e0 : Env0 P w K mg (hidT s.heap H) callerA [] s H := by
    refine ⟨rfl, md, fun b o e => of_hidT e, Nat.le_of_eq (hidT_size _ _), trivial, ?_, ok, .of_eq hg⟩
    intro b z
    cases (show b ∈ ([] : List Addr) from z)
  have R := (F (hidT s.heap H) KB (up hns)).run callerA [] s H ⟨[.ref a], []⟩ [.ref a] [.ref a] _ _ hr rfl e0 (hbind s (.ref a)) (.cons rfl .nil) hsp
  refine codeAny_mono R ?_
  intro r s' h
  match r, h with
  | .error e, h => exact (hX H e s' h).elim
  | .ok .next, h => exact False.elim h
  | .ok .brk, h => exact False.elim h
  | .ok .cont, h => exact False.elim h
  | .ok (.ret u), h =>
    obtain ⟨v, H', os, bare, un, ok', r', q⟩ := h
    cases (show v = V.bl true from q)
    cases (show u = Value.bool true from r')
    refine ⟨rfl, OldK.of_keep ?_, os, bare⟩
    intro b o e
    match q : H b with
    | none => exact un.keep b o e q (fun z => by cases (show b ∈ ([] : List Addr) from z)) (by simp)
    | some u =>
      rcases hO b with z | ⟨ob, xs, z⟩
      · rw [q] at z; cases z
      · have e1 := (ok b _ z).1
        have e2 := (ok' b _ (un.frzs b ob _ z)).1
        rw [e] at e1
        cases e1
        exact e2
theorem law_callG (KX : K.In s.heap) (hns : s.heap.Ns mainGlobals mg) (hb : s.heap.Ns builtinsNs mb) (hbb : ∀ y : Str, y ≠ "__name__" → mb y = bootBuiltins y) (hlim : s.heap.NoLimit) (hg : s.gens = #[])
    (ha : s.heap.get? a = some { cls := .type "list", data := .seq vs.toArray }) (hi : IntsAre vs ns) (hl : ns.length ≤ sizeLine) (hr : Room k callerA)
    (F : ∀ base : Heap, K.In base → base.Ns mainGlobals mg → FnG P w K mg base X0 k fa fd [x] sp) (hbind : ∀ (s : Shared) (u : Value), BindsTo s fd ⟨[u], []⟩ [(x, u)])
    (hsp : ∀ H : Hp, Only H → SqL K H a (ns.map V.int) → sp [.ref a] H (fun v _ => v = .bl true) fun _ _ _ => False) (hX : ∀ H e s', X0 [] H s (fun _ _ _ => False) e s' → False) :
    codeAny (model P w) callerA (.call (.ref fa) ⟨[.ref a], []⟩) (fun r s' => r = .ok (.ret (.bool true)) ∧ OldK s.heap s'.heap ∧ s'.os = s.os ∧ AllBare s'.gens) s := by
  have rv := vals_ints hi
  have lv : vs.length = ns.length := hi.length
  match hk : K.lookup a with
  | some o =>
    have e := KX a o hk
    rw [ha] at e
    cases e
    have hS : SqL K (fun _ => none) a (ns.map V.int) := .inr ⟨_, vs.toArray, _, hk, rfl, rfl, rfl, (by rw [List.size_toArray, lv]; exact hl), by simpa using rv⟩
    have z : ∀ (b : Addr) (u : HO), ((fun _ => none : Hp) b = some u) → False := fun _ _ h => by cases h
    exact law_at KX hns hb hbb hlim hg ha hr F hbind hX _ (fun _ => .inl rfl) (hsp _ (fun _ => .inl rfl) hS) (fun b u q => (z b u q).elim) (fun b u q => (z b u q).elim) (fun u q => (z a u q).elim)
  | none =>
    let o : HO := .frz { cls := .type "list", data := .seq vs.toArray } (.lst (ns.map V.int))
    let H : Hp := fun b => if b = a then some o else none
    have at_a : H a = some o := if_pos rfl
    have only : ∀ b u, H b = some u → b = a ∧ u = o := by
      intro b u q
      by_cases e : b = a
      · subst e; rw [at_a] at q; exact ⟨rfl, (Option.some.inj q).symm⟩
      · rw [show H b = none from if_neg e] at q; cases q
    have hO : Only H := by
      intro b
      by_cases e : b = a
      · subst e; exact .inr ⟨_, _, at_a⟩
      · exact .inl (if_neg e)
    have hok : HOk P w H s.heap := by
      intro b u q
      obtain ⟨rfl, rfl⟩ := only b u q
      exact ⟨ha, by rw [List.length_map]; exact hl, vs, _, rv, ha⟩
    exact law_at KX hns hb hbb hlim hg ha hr F hbind hX H hO (hsp H hO (.inl (.inr ⟨_, at_a⟩))) hok (fun b u q => (only b u q).1) (fun _ _ => hk)
end
/-- the end of a law, with the bits of its script told -/
theorem walkG {l : PySem.W.OpenLaw} {n k : Nat} {q : Program} {loose : List Str} {XP : (Str → Option Value) → Heap → Prop} {YP : World → Heap → Prop} {d : DefRec} {K : Params → PySem.W.Frag} {sp : PySem.W.Frag → Sp} {x : Str}
    (hn : l.most = some n) (hn2 : n ≤ sizeLine) (hdf : d.params.defaults = []) (hr : Room k callerA) (hY : ∀ (w : World) (h : Heap), YP w h → (K w.params).In h)
    (F : ∀ (w : World) (mg : Str → Option Value) (fa : Addr) (h : Heap), (K w.params).In h → h.Ns mainGlobals mg → mg d.name = some (.ref fa) →
      ∃ fd : FuncData, (∀ (s : Shared) (u : Value), BindsTo s fd ⟨[u], []⟩ [(x, u)]) ∧
        ∀ base : Heap, (K w.params).In base → base.Ns mainGlobals mg → FnG l.prog w (K w.params) mg base CX0 k fa fd [x] (sp (K w.params)))
    (hsp : ∀ (K : PySem.W.Frag) (H : Hp) (a : Addr) (ns : List Int), ns.length ≤ n → (∀ z ∈ ns, Builtin.Int.intBits z ≤ 1048576) → Only H → SqL K H a (ns.map V.int) → sp K [.ref a] H (fun v _ => v = .bl true) fun _ _ _ => False) :
    PySem.W.WalkO q loose XP YP l.row.toRowW d [] (fun f vs => PySem.call f vs) := by
  refine Att.attach_callB hn hdf (fun w s₀ s₁ mg mb fa o pm cd doc a vs ns G Y ho hd hcd hmg hobj hints hlen hbits hg => ?_)
  obtain ⟨fd, hb, hF⟩ := F w mg fa _ (hY w _ Y) G.T.g hmg
  exact law_callG (hY w _ Y) G.T.g G.T.b G.T.builtins G.T.nolimit hg hobj hints (Nat.le_trans hlen hn2) hr hF hb (fun H hO hS => hsp _ H a ns hlen hbits hO hS) (fun H e s' h => h)
end Ice

set_option Elab.async false
set_option linter.all false
set_option maxRecDepth 100000
set_option maxHeartbeats 4000000
/-! repr of data at any depth, dicts of plain things within tuples among them. -/
namespace Ice
open PySem PySem.Spec PyProof.Rows L2
/-- a plain thing -/
inductive Ds : V → PyData → Prop
  | non : Ds .non .none
  | bl (b : Bool) : Ds (.bl b) (.bool b)
  | int (i : Int) : Ds (.int i) (.int i)
  | str (x : Str) : Ds (.str x) (.str x)
def kD : Key → PyData
  | .inl i => .int i
  | .inr x => .str x
mutual
/-- data without lists; dicts hold plain things -/
inductive Dd (K : PySem.W.Frag) (H : Hp) : V → PyData → Prop
  | sc {v : V} {d : PyData} : Ds v d → Dd K H v d
  | tup {a : Addr} {xs : List V} {ds : List PyData} : SqT K H a xs → DdAll K H xs ds → Dd K H (.ref a) (.tuple ds)
  | dct {a : Addr} {kvs : List (Key × V)} {ds : List PyData} : H a = some (.dK kvs) → Paired Ds (kvs.map (·.2)) ds → Dd K H (.ref a) (.dict ((kvs.map fun kv => kD kv.1).zip ds))
inductive DdAll (K : PySem.W.Frag) (H : Hp) : List V → List PyData → Prop
  | nil : DdAll K H [] []
  | cons {v : V} {vs : List V} {d : PyData} {ds : List PyData} : Dd K H v d → DdAll K H vs ds → DdAll K H (v :: vs) (d :: ds)
end
theorem Ds.reads {h : Heap} {v : V} {u : Value} {d : PyData} (s : Ds v d) (r : RelV v u) : Reads h u d [] := by
  cases s with
  | non => cases (show u = .none from r); exact .none
  | bl b => cases (show u = .bool b from r); exact .bool b
  | int i => obtain ⟨t, rfl⟩ := (show ∃ t, u = .int i t from r); exact .int i t
  | str x => obtain ⟨t, rfl⟩ := (show ∃ t, u = .str x t from r); exact .str x t
theorem Ds.readsAll {h : Heap} : ∀ {vs : List V} {us : List Value} {ds : List PyData}, Paired Ds vs ds → Vals vs us → ReadsAll h us ds []
  | [], _, _, .nil, .nil => .nil
  | _ :: _, _, _, .cons s t, .cons r q => .cons (Ds.reads s r) (Ds.readsAll t q)
theorem kD_reads {h : Heap} {k : Key} {u : Value} (e : keyIs k u = true) : Reads h u (kD k) [] := by
  rcases keyIs_shape e with ⟨i, t, rfl, rfl⟩ | ⟨x, t, rfl, rfl⟩
  · exact .int i t
  · exact .str x t
theorem kv_reads {P : Program} {w : World} {h : Heap} {es : List DictEntry} {us : List (Key × Value)} (p : Pairs (mixKind P w) es us) : ∀ (kvs : List (Key × V)) (ds : List PyData), KV kvs us → Paired Ds (kvs.map (·.2)) ds →
    ReadsAll h (es.map (·.key)) (((kvs.map fun kv => kD kv.1).zip ds).map (·.1)) [] ∧ ReadsAll h (es.map (·.val)) (((kvs.map fun kv => kD kv.1).zip ds).map (·.2)) [] := by
  induction p with
  | nil =>
    intro kvs ds hk hd
    cases kvs with
    | cons _ _ => cases hk
    | nil => exact ⟨.nil, .nil⟩
  | @cons e u es us h1 h2 h3 ih =>
    intro kvs ds hk hd
    cases kvs with
    | nil => cases hk
    | cons kv kvs =>
      cases hk with
      | cons e1 hk =>
        cases ds with
        | nil => cases hd
        | cons d ds =>
          cases hd with
          | cons s1 hd =>
            obtain ⟨r1, r2⟩ := ih kvs ds hk hd
            have k1 : keyIs kv.1 e.key = true := by rw [e1.1]; exact h1
            have v1 : RelV kv.2 e.val := by rw [h2]; exact e1.2
            exact ⟨ReadsAll.cons (as := []) (kD_reads k1) r1, ReadsAll.cons (as := []) (Ds.reads s1 v1) r2⟩
section
variable {X : Cx} {pins : List (Addr × Obj)} {σ : L2.St} {H : Hp} {s : Shared}
mutual
theorem Dd.reads (I : Inv X pins σ H s) : ∀ (d : PyData) (v : V) (u : Value), Dd X.K H v d → RelV v u → ∃ as, Reads s.heap u d as ∧ sysModules ∉ as
  | d, v, u, .sc z, r => ⟨[], z.reads r, by simp⟩
  | .tuple ds, _, u, .tup (a := a) hs ha, r => by
    cases (show u = .ref a from r)
    obtain ⟨its, rv, ⟨o, ho, hc, n, hd⟩, _⟩ := I.tuple hs
    obtain ⟨as, hr, hn⟩ := Dd.readsAll I ds _ its ha rv
    exact ⟨as, Reads.tuple ho hc hd hr, hn⟩
  | .dict _, _, u, .dct (a := a) (kvs := kvs) hk hd, r => by
    cases (show u = .ref a from r)
    obtain ⟨_, hn, us, rv, o, es, ep, e1, e2, e3, _, e4, _⟩ := I.hok a _ hk
    obtain ⟨r1, r2⟩ := kv_reads (h := s.heap) e4 _ _ rv hd
    refine ⟨_, Reads.dict (n := ep) e1 e2.1 e3 r1 r2, ?_⟩
    intro z
    have : sysModules = a := by simpa using z
    rw [this] at hn
    simp at hn
theorem Dd.readsAll (I : Inv X pins σ H s) : ∀ (ds : List PyData) (vs : List V) (us : List Value), DdAll X.K H vs ds → Vals vs us → ∃ as, ReadsAll s.heap us ds as ∧ sysModules ∉ as
  | [], _, _, .nil, .nil => ⟨_, .nil, by simp⟩
  | d :: ds, _, _, .cons h1 h2, .cons r1 r2 => by
    obtain ⟨as, q1, n1⟩ := Dd.reads I d _ _ h1 r1
    obtain ⟨bs, q2, n2⟩ := Dd.readsAll I ds _ _ h2 r2
    exact ⟨_, .cons q1 q2, by simp [n1, n2]⟩
end
mutual
theorem Dp.noDict {K : PySem.W.Frag} {H : Hp} : ∀ (d : PyData) (v : V), Dp K H v d → d.hasDict = false
  | .none, _, _ => rfl
  | .bool _, _, _ => rfl
  | .int _, _, _ => rfl
  | .str _, _, _ => rfl
  | .list ds, _, h => by
    cases h with
    | lst hs ha => exact Dp.noDictAll ds _ ha
  | .tuple ds, _, h => by
    cases h with
    | tup hs ha => exact Dp.noDictAll ds _ ha
  | .dict _, _, h => by cases h
theorem Dp.noDictAll {K : PySem.W.Frag} {H : Hp} : ∀ (ds : List PyData) (vs : List V), DpAll K H vs ds → PyData.hasDictAll ds = false
  | [], _, _ => rfl
  | d :: ds, _, h => by
    cases h with
    | cons h1 h2 => rw [PyData.hasDictAll, Dp.noDict d _ h1, Dp.noDictAll ds _ h2]; rfl
end
end
/-- what repr tells -/
def Rp (K : PySem.W.Frag) (H : Hp) (v : V) (d : PyData) : Prop := (Dp K H v d ∨ Dd K H v d) ∧ d.showable = true ∧ d.depth ≤ 100 ∧ d.shown.length ≤ sizeLine
def rRepr (K : PySem.W.Frag) : List V → Hp → VK → Prop := fun xs H Q => ∃ v d, xs = [v] ∧ Rp K H v d ∧ Q (.str d.shown) H
theorem i_repr {K : PySem.W.Frag} {H : Hp} {Q : VK} {v : V} {d : PyData} (h : Rp K H v d) (q : Q (.str d.shown) H) : rRepr K [v] H Q := ⟨v, d, rfl, h, q⟩
section
variable {X : Cx}
theorem c_repr (hgd : X.A.guards = some []) (hu : X.A.units + 110 < cLine) : CallR X (.builtin "repr") (rRepr X.K) := by
  intro pins s σ H xs us Q I r h
  obtain ⟨v, d, rfl, ⟨hD, hs, hp, hz⟩, q⟩ := h
  obtain ⟨u, rfl, rx⟩ := vals1 r
  have red : ∃ as, Reads s.heap u d as ∧ (d.hasDict = true → sysModules ∉ as) := by
    rcases hD with hD | hD
    · obtain ⟨as, h1⟩ := Dp.reads I d v u hD rx
      exact ⟨as, h1, fun z => by rw [Dp.noDict d v hD] at z; cases z⟩
    · obtain ⟨as, h1, h2⟩ := Dd.reads I d v u hD rx
      exact ⟨as, h1, fun _ => h2⟩
  obtain ⟨as, rd, hsm⟩ := red
  have fin : ∀ (tk : Nat), EP X pins σ Q (.str d.shown s.toks) { s with toks := tk } := fun tk => ⟨.str d.shown, H, I.tok _, ⟨_, rfl⟩, q⟩
  cases rd with
  | none => exact P.repr_of_none (fin _)
  | bool b => exact P.repr_of_bool (fin _)
  | int i t => exact P.repr_of_int (of_decide_eq_true hs) (fin _)
  | str x t => exact P.repr_of_str (fin _) hz
  | list h1 h2 h3 h4 => exact repr_of_reads' (.list h1 h2 h3 h4) hs hsm hgd (by omega) (fun _ _ e => e) (fun h' t tk hk => ⟨.str _, H, I.kept hk, ⟨_, rfl⟩, q⟩) hz
  | tuple h1 h2 h3 h4 => exact repr_of_reads' (.tuple h1 h2 h3 h4) hs hsm hgd (by omega) (fun _ _ e => e) (fun h' t tk hk => ⟨.str _, H, I.kept hk, ⟨_, rfl⟩, q⟩) hz
  | dict h1 h2 h3 h4 h5 => exact repr_of_reads' (.dict h1 h2 h3 h4 h5) hs hsm hgd (by omega) (fun _ _ e => e) (fun h' t tk hk => ⟨.str _, H, I.kept hk, ⟨_, rfl⟩, q⟩) hz
end
section
variable {K : PySem.W.Frag} {H : Hp}
theorem Rp.int {i : Int} (h : i.natAbs.log2 < 1920) : Rp K H (.int i) (.int i) := ⟨.inl (.int i), decide_eq_true h, Nat.zero_le _, int_text_fits h⟩
theorem Rp.non : Rp K H .non .none := ⟨.inl .non, rfl, by decide, by decide +kernel⟩
theorem Rp.bl (b : Bool) : Rp K H (.bl b) (.bool b) := ⟨.inl (.bl b), rfl, Nat.zero_le _, by cases b <;> decide +kernel⟩
end
end Ice
namespace Ice
open PySem PySem.Spec PyProof.Rows L2
/-! ### what is told stays told -/
section
variable {K : PySem.W.Frag} {H H' : Hp}
theorem SqL.same (s : Same H H') {a : Addr} {xs : List V} (h : SqL K H a xs) : SqL K H' a xs := s.seq h
theorem SqT.same (s : Same H H') {a : Addr} {xs : List V} (h : SqT K H a xs) : SqT K H' a xs := by
  rcases h with (h | ⟨o, h⟩) | h
  · exact .inl (.inl (s _ _ h))
  · exact .inl (.inr ⟨o, s _ _ h⟩)
  · exact .inr h
mutual
theorem Dp.same (s : Same H H') : ∀ (d : PyData) (v : V), Dp K H v d → Dp K H' v d
  | .none, _, h => by cases h; exact .non
  | .bool _, _, h => by cases h; exact .bl _
  | .int _, _, h => by cases h; exact .int _
  | .str _, _, h => by cases h; exact .str _
  | .list ds, _, h => by
    cases h with
    | lst hs ha => exact .lst (SqL.same s hs) (Dp.sameAll s ds _ ha)
  | .tuple ds, _, h => by
    cases h with
    | tup hs ha => exact .tup (SqT.same s hs) (Dp.sameAll s ds _ ha)
  | .dict _, _, h => by cases h
theorem Dp.sameAll (s : Same H H') : ∀ (ds : List PyData) (vs : List V), DpAll K H vs ds → DpAll K H' vs ds
  | [], _, h => by cases h; exact .nil
  | d :: ds, _, h => by
    cases h with
    | cons h1 h2 => exact .cons (Dp.same s d _ h1) (Dp.sameAll s ds _ h2)
end
mutual
theorem Dd.same (s : Same H H') : ∀ (d : PyData) (v : V), Dd K H v d → Dd K H' v d
  | _, _, .sc z => .sc z
  | .tuple ds, _, .tup hs ha => .tup (SqT.same s hs) (Dd.sameAll s ds _ ha)
  | .dict _, _, .dct hk hd => .dct (s _ _ hk) hd
theorem Dd.sameAll (s : Same H H') : ∀ (ds : List PyData) (vs : List V), DdAll K H vs ds → DdAll K H' vs ds
  | [], _, .nil => .nil
  | d :: ds, _, .cons h1 h2 => .cons (Dd.same s d _ h1) (Dd.sameAll s ds _ h2)
end
theorem Rp.same (s : Same H H') {v : V} {d : PyData} (h : Rp K H v d) : Rp K H' v d :=
  ⟨h.1.imp (Dp.same s d v) (Dd.same s d v), h.2⟩
theorem Rp.str {x : Str} (hl : x.length ≤ 1000) (hc : ∀ c ∈ x.cps.toList, c < 128) : Rp K H (.str x) (.str x) := by
  refine ⟨.inl (.str x), rfl, Nat.zero_le _, ?_⟩
  have b := PySem.StrLaws.reprText_len x (fun c h => Nat.lt_trans (hc c h) (by decide))
  show (reprText x).length ≤ _
  exact sz_of (by omega)
end
end Ice

set_option Elab.async false
set_option linter.all false
set_option maxRecDepth 100000
set_option maxHeartbeats 4000000
set_option autoImplicit false
/-! Texts: walked sign by sign, compared, joined, cut, repeated. -/
namespace Ice
open PySem PySem.Spec PyProof.Rows L2 TL
theorem tl_len (x : Str) : (tl x).length = x.length := by show x.cps.toList.length = x.cps.size; simp
/-- a for over a text's signs -/
theorem for_text {x : Str} {g : TG} {tb : TS} {D : Ends} {σ : L2.St} {H : Hp} (Pv : Nat → L2.St → Hp → Prop) (h0 : Pv 0 σ H)
    (hs : ∀ i c σ H, (tl x)[i]? = some c → Pv i σ H → g (.str ⟨#[c]⟩) σ H fun σ2 H2 => tb { D with nx := Pv (i + 1), ct := Pv (i + 1), bk := D.nx } σ2 H2) (hd : ∀ σ H, Pv (tl x).length σ H → D.nx σ H) :
    ∃ W : Nat → Nat → L2.St → Hp → Prop, (∃ m, W 0 m σ H) ∧ ∀ i m σ H, W i m σ H →
      ((Its x).stop i H ∧ D.nx σ H) ∨ ((Its x).go i H ∧ ∃ N : L2.St → Hp → Prop, (∀ σ' H', N σ' H' → ∃ m', m' < m ∧ W (i + 1) m' σ' H') ∧ ∀ v H', (Its x).yld i H v H' → g v σ H' fun σ2 H2 => tb { D with nx := N, ct := N, bk := D.nx } σ2 H2) := by
  have sz : (tl x).length = x.cps.size := by show x.cps.toList.length = _; simp
  refine ⟨fun i m σ H => m = (tl x).length - i ∧ i ≤ (tl x).length ∧ Pv i σ H, ⟨(tl x).length, by simp, Nat.zero_le _, h0⟩, ?_⟩
  rintro i m σ H ⟨rfl, hi, p⟩
  by_cases lt : i < (tl x).length
  · refine .inr ⟨by show i < x.cps.size; omega, Pv (i + 1), fun σ' H' p' => ⟨(tl x).length - (i + 1), by omega, rfl, lt, p'⟩, ?_⟩
    rintro v H' ⟨rfl, c, hc, rfl⟩
    exact hs i c σ H' (by show x.cps.toList[i]? = some c; rw [Array.getElem?_toList]; exact hc) p
  · have e : i = (tl x).length := by omega
    subst e
    exact .inl ⟨by show x.cps.size ≤ _; omega, hd σ H p⟩
/-- a comprehension over a text's signs -/
theorem lc_text {x : Str} {g : TG} {tt : TT} {te : TE} {vs : List Nat} {σ : L2.St} {H1 : Hp} {D : Addr} {Qd : Hp → Prop} (Pv : Nat → Hp → Prop) (h0 : Pv 0 (upd H1 D (.lst [])))
    (hs : ∀ i c H, (tl x)[i]? = some c → Pv i H → g (.str ⟨#[c]⟩) (wipe σ vs) H fun σ2 H2 => wipe σ2 vs = wipe σ vs ∧ tt σ2 H2 fun b H3 =>
      if b = true then te σ2 H3 fun y H4 => ∃ acc, H4 D = some (.lst acc) ∧ acc.length < sizeLine ∧ Pv (i + 1) (upd H4 D (.lst (acc ++ [y]))) else Pv (i + 1) H3) (hd : ∀ H, Pv (tl x).length H → Qd H) :
    ∃ W : Nat → Nat → Hp → Prop, (∃ m, W 0 m (upd H1 D (.lst []))) ∧ ∀ i m H, W i m H →
      ((Its x).stop i H ∧ Qd H) ∨ ((Its x).go i H ∧ ∃ Nx : Hp → Prop, (∀ H', Nx H' → ∃ m', m' < m ∧ W (i + 1) m' H') ∧ ∀ v H', (Its x).yld i H v H' → g v (wipe σ vs) H' fun σ2 H2 => wipe σ2 vs = wipe σ vs ∧ tt σ2 H2 fun b H3 =>
        if b = true then te σ2 H3 fun y H4 => ∃ acc, H4 D = some (.lst acc) ∧ acc.length < sizeLine ∧ Nx (upd H4 D (.lst (acc ++ [y]))) else Nx H3) := by
  have sz : (tl x).length = x.cps.size := by show x.cps.toList.length = _; simp
  refine ⟨fun i m H => m = (tl x).length - i ∧ i ≤ (tl x).length ∧ Pv i H, ⟨(tl x).length, by simp, Nat.zero_le _, h0⟩, ?_⟩
  rintro i m H ⟨rfl, hi, p⟩
  by_cases lt : i < (tl x).length
  · refine .inr ⟨by show i < x.cps.size; omega, Pv (i + 1), fun H' p' => ⟨(tl x).length - (i + 1), by omega, rfl, lt, p'⟩, ?_⟩
    rintro v H' ⟨rfl, c, hc, rfl⟩
    exact hs i c H' (by show x.cps.toList[i]? = some c; rw [Array.getElem?_toList]; exact hc) p
  · have e : i = (tl x).length := by omega
    subst e
    exact .inl ⟨by show x.cps.size ≤ _; omega, hd H p⟩
/-! ### joined with nothing between -/
theorem joinL_nil : ∀ ps : List (List Nat), joinL [] ps = ps.flatten
  | [] => rfl
  | [p] => by simp [joinL]
  | p :: q :: r => by
    show p ++ ([] ++ joinL [] (q :: r)) = _
    rw [joinL_nil (q :: r)]
    simp
theorem tl_joined {e : Str} (he : tl e = []) (ys : List Str) : tl (Txt.join e ys) = (ys.map tl).flatten := by rw [join_eq, tl_join, he, joinL_nil]
theorem flat_ones : ∀ (ys : List Str), (∀ y ∈ ys, y.length = 1) → ((ys.map tl).flatten).length = ys.length
  | [], _ => rfl
  | y :: ys, h => by
    have h1 := h y (List.mem_cons_self ..)
    rw [List.map_cons, List.flatten_cons, List.length_append, tl_len, h1, flat_ones ys fun z hz => h z (List.mem_cons_of_mem _ hz), List.length_cons]
    omega
theorem len_joined {e : Str} (he : tl e = []) {ys : List Str} (h : ∀ y ∈ ys, y.length = 1) : (Txt.join e ys).length = ys.length := by rw [← tl_len, tl_joined he, flat_ones ys h]
theorem sum_ones : ∀ {ys : List Str}, (∀ y ∈ ys, y.length = 1) → (ys.map (·.length)).sum = ys.length
  | [], _ => rfl
  | y :: ys, h => by
    rw [List.map_cons, List.sum_cons, h y (List.mem_cons_self ..), sum_ones fun z hz => h z (List.mem_cons_of_mem _ hz), List.length_cons]
    omega
/-! ### cut, put together -/
theorem len_add (x y : Str) : (x ++ y).length = x.length + y.length := by rw [← tl_len, tl_append, List.length_append, tl_len, tl_len]
theorem tl_cut (z : Str) (lo hi : Option Int) : tl (cutS z lo hi) = ((tl z).drop (HT.sIx z.length 0 lo)).take (HT.sIx z.length z.length hi - HT.sIx z.length 0 lo) := rfl
theorem tl_cut_to (z : Str) (k : Nat) : tl (cutS z none (some (k : Int))) = (tl z).take k := by
  rw [tl_cut, HT.sIx_none, HT.sIx_nat, List.drop_zero, Nat.sub_zero]
  by_cases h : k ≤ z.length
  · rw [Nat.min_eq_left h]
  · rw [Nat.min_eq_right (by omega), List.take_of_length_le (by rw [tl_len]; omega), List.take_of_length_le (by rw [tl_len]; omega)]
theorem tl_cut_from (z : Str) (k : Nat) : tl (cutS z (some (k : Int)) none) = (tl z).drop k := by
  rw [tl_cut, HT.sIx_none, HT.sIx_nat]
  by_cases h : k ≤ z.length
  · rw [Nat.min_eq_left h, List.take_of_length_le (by rw [List.length_drop, tl_len]; omega)]
  · rw [Nat.min_eq_right (by omega), List.drop_of_length_le (by rw [tl_len]; omega), List.drop_of_length_le (by rw [tl_len]; omega)]
    simp
theorem len_cut_to (z : Str) (k : Nat) : (cutS z none (some (k : Int))).length = min k z.length := by rw [← tl_len, tl_cut_to, List.length_take, tl_len]
theorem len_cut_from (z : Str) (k : Nat) : (cutS z (some (k : Int)) none).length = z.length - k := by rw [← tl_len, tl_cut_from, List.length_drop, tl_len]
/-! ### items -/
theorem atI_some {α : Type} {xs : List α} {i : Int} (h0 : 0 ≤ i) (h1 : i < xs.length) : ∃ v, atI xs i = some v ∧ v ∈ xs ∧ xs[i.toNat]? = some v := by
  obtain ⟨k, rfl⟩ := Int.eq_ofNat_of_zero_le h0
  have hk : k < xs.length := by omega
  exact ⟨xs[k], atI_nat (List.getElem?_eq_getElem hk), List.getElem_mem _, by simp [List.getElem?_eq_getElem hk]⟩
/-! ### rules -/
def repS (x : Str) (k : Int) : Str := ⟨((List.replicate k.toNat (tl x)).flatten).toArray⟩
theorem tl_rep (x : Str) (k : Int) : tl (repS x k) = (List.replicate k.toNat (tl x)).flatten := by show ((List.replicate k.toNat (tl x)).flatten).toArray.toList = _; simp
theorem len_rep (x : Str) (k : Int) : (repS x k).length = k.toNat * x.length := by rw [← tl_len, tl_rep, List.length_flatten, List.map_replicate, List.sum_replicate_nat, tl_len]
def rMulT : R2 := fun x y H Q => ∃ i k, x = .str i ∧ y = .int k ∧ 0 ≤ k ∧ k ≤ 1000 ∧ i.length ≤ 1000 ∧ Q (.str (repS i k)) H
def rFind : V → List V → Hp → VK → Prop := fun x xs H Q => ∃ a b, x = .str a ∧ xs = [.str b] ∧ Q (.int (Txt.find a b)) H
def rJoin (K : PySem.W.Frag) : V → List V → Hp → VK → Prop := fun x xs H Q => ∃ a p, ∃ ys : List Str, x = .str a ∧ xs = [.ref p] ∧ (SqL K H p (ys.map V.str) ∨ SqT K H p (ys.map V.str)) ∧ (ys.map (·.length)).sum + ys.length * a.length ≤ 16777216 ∧ Q (.str (Txt.join a ys)) H
def rLeT : R2 := fun x y H Q => ∃ i j, x = .str i ∧ y = .str j ∧ Q (.bl (!decide (j.cps.toList < i.cps.toList))) H
def rIsBl : R2 := fun x y H Q => ∃ b, y = .bl b ∧ Q (.bl (decide (x = .bl b))) H
theorem fold_flat : ∀ (l : List (Array Nat)) (acc : Array Nat), (l.foldl (· ++ ·) acc).toList = acc.toList ++ (l.map (·.toList)).flatten
  | [], acc => by simp
  | a :: l, acc => by rw [List.foldl_cons, fold_flat l, Array.toList_append, List.map_cons, List.flatten_cons, List.append_assoc]
theorem rep_fold (x : Str) (k : Int) : (⟨(List.replicate k.toNat x.cps).foldl (· ++ ·) #[]⟩ : Str) = repS x k := by
  have e : ((List.replicate k.toNat x.cps).foldl (· ++ ·) #[]) = ((List.replicate k.toNat (tl x)).flatten).toArray := by
    apply Array.toList_inj.mp
    rw [fold_flat, List.map_replicate]
    simp
  rw [e]
  rfl
section
variable {X : Cx} {H : Hp} {Q : VK} {K : PySem.W.Frag}
theorem o_leT : OpR X (compareOp .LtE) rLeT := op_le_str
theorem m_join : MtR X "str.join" (rJoin X.K) := mt_join
theorem m_find : MtR X "str.find" rFind := mt_find
theorem c_isi : CallR X (.builtin "isinstance") (rIsi X.K) := call_isi
theorem c_intS : CallR X (.type "int") (fun xs H Q => ∃ a n, xs = [.str a] ∧ PySem.intText? a = some n ∧ a.length ≤ 640 ∧ Q (.int n) H) := call_int_str
theorem o_mulT : OpR X (binaryOp .Mult) rMulT := by
  intro pins s σ H x y v u Q I rx ry h
  obtain ⟨i, k, rfl, rfl, h0, h1, hz, q⟩ := h
  obtain ⟨t, rfl⟩ := rx
  obtain ⟨t', rfl⟩ := ry
  have big : i.length * k.toNat ≤ 1000 * 1000 := Nat.mul_le_mul hz (by omega)
  have lim : (1000 : Int) * 1000 ≤ (2 ^ 63 - 1) := by decide
  refine PySem.P.mul_str ?_ ?_ ?_ ?_
  · rw [decide_eq_false (by omega), decide_eq_false (by omega)]; rfl
  · intro h2 _ h3
    have k0 : 0 < k := by omega
    have a1 : (i.length : Int) * k ≤ 1000 * 1000 := Int.mul_le_mul (by omega) h1 (by omega) (by omega)
    have a2 : (2 ^ 63 - 1 : Int) / k < i.length := h3
    have a3 : (2 ^ 63 - 1 : Int) < i.length * k := Int.lt_mul_of_ediv_lt k0 a2
    omega
  · intro _ _
    unfold Builtin.Str.tooLong
    exact decide_eq_false (by rw [sizeLine_eq]; omega)
  · have fin : ∀ (z : Str) (tk1 tk2 : Nat), z = repS i k → EP X pins σ Q (.str z tk1) { s with toks := tk2 } := fun z a b e => ⟨.str z, H, I.tok _, ⟨_, rfl⟩, by rw [e]; exact q⟩
    by_cases k1 : k < 1
    · rw [if_pos k1]
      have k0 : k = 0 := by omega
      exact ⟨by decide, fin _ _ _ (by subst k0; rfl)⟩
    · rw [if_neg k1]
      by_cases k2 : (k == 1 || i.length == 0) = true
      · rw [if_pos k2]
        refine fin i t s.toks ?_
        rw [← mk_tl i]
        show _ = (⟨((List.replicate k.toNat (tl i)).flatten).toArray⟩ : Str)
        rcases Bool.or_eq_true _ _ ▸ k2 with e | e
        · rw [beq_iff_eq.mp e]; simp
        · have e0 : tl i = [] := List.eq_nil_of_length_eq_zero (by rw [tl_len]; exact beq_iff_eq.mp e)
          rw [e0]; simp
      · rw [if_neg k2]
        refine ⟨?_, fin _ _ _ (rep_fold i k)⟩
        rw [rep_fold]
        rw [len_rep, sizeLine_eq]
        have : k.toNat * i.length ≤ 1000 * 1000 := Nat.mul_le_mul (by omega) hz
        omega
theorem o_isB : OpR X (compareOp .Is) rIsBl := by
  intro pins s σ H x y v u Q I rx ry h
  obtain ⟨b, rfl, q⟩ := h
  cases (show u = Value.bool b from ry)
  by_cases e : x = .bl b
  · subst e
    cases (show v = Value.bool b from rx)
    exact wpAny_is_self rfl ⟨.bl true, H, I, rfl, by simpa using q⟩
  · have q' : Q (.bl false) H := by simpa [e] using q
    have fin : ∀ s', s' = s → EP X pins σ Q (.bool false) s' := fun s' z => ⟨.bl false, H, z ▸ I, rfl, q'⟩
    cases x with
    | bl c => cases (show v = Value.bool c from rx); exact wpAny_is_other rfl (fun z => e (by cases z; rfl)) (fin _ rfl)
    | non => cases (show v = Value.none from rx); exact wpAny_is_other rfl (fun z => by cases z) (fin _ rfl)
    | int i => obtain ⟨t, rfl⟩ := (show ∃ t, v = Value.int i t from rx); exact wpAny_is_other rfl (fun z => by cases z) (fin _ rfl)
    | str i => obtain ⟨t, rfl⟩ := (show ∃ t, v = Value.str i t from rx); exact wpAny_is_other rfl (fun z => by cases z) (fin _ rfl)
    | byt i => obtain ⟨t, rfl⟩ := (show ∃ t, v = Value.bytes i t from rx); exact wpAny_is_other rfl (fun z => by cases z) (fin _ rfl)
    | flt i => obtain ⟨t, rfl⟩ := (show ∃ t, v = Value.float i t from rx); exact wpAny_is_other rfl (fun z => by cases z) (fin _ rfl)
    | ref a => cases (show v = Value.ref a from rx); exact wpAny_is_other rfl (fun z => by cases z) (fin _ rfl)
    | ty n => cases (show v = Value.type n from rx); exact wpAny_is_other rfl (fun z => by cases z) (fin _ rfl)
theorem i_isi {v : V} {n m : String} {b : Bool} (h : TyX K H v (.type n)) (e : kitB n m = some b) (q : Q (.bl b) H) : rIsi K [v, .ty m] H Q := ⟨v, .ty m, .type n, .type m, b, rfl, .ty m, h, kit_ty e, q⟩
theorem i_mulT {i : Str} {k : Int} (h0 : 0 ≤ k) (h1 : k ≤ 1000) (hz : i.length ≤ 1000) (q : Q (.str (repS i k)) H) : rMulT (.str i) (.int k) H Q := ⟨i, k, rfl, rfl, h0, h1, hz, q⟩
theorem i_find {a b : Str} (q : Q (.int (Txt.find a b)) H) : rFind (.str a) [.str b] H Q := ⟨a, b, rfl, rfl, q⟩
theorem i_leT {a b : Str} (q : Q (.bl (!decide (tl b < tl a))) H) : rLeT (.str a) (.str b) H Q := ⟨a, b, rfl, rfl, q⟩
theorem i_isB {x : V} {b : Bool} (q : Q (.bl (decide (x = .bl b))) H) : rIsBl x (.bl b) H Q := ⟨b, rfl, q⟩
theorem i_notInS {c : Nat} {z : Str} (q : Q (.bl (!decide (c ∈ z.cps.toList))) H) : rNotInS (.str ⟨#[c]⟩) (.str z) H Q := ⟨c, z, rfl, rfl, q⟩
theorem i_inS {c : Nat} {z : Str} (q : Q (.bl (decide (c ∈ z.cps.toList))) H) : rInS (.str ⟨#[c]⟩) (.str z) H Q := ⟨c, z, rfl, rfl, q⟩
theorem i_slS {z : Str} {lo hi : Option Int} (hz : z.length ≤ sizeLine) (q : Q (.str (cutS z lo hi)) H) : rSlS (.str z) lo hi H Q := ⟨z, rfl, hz, q⟩
end
end Ice

set_option Elab.async false
set_option linter.all false
set_option maxRecDepth 100000
set_option maxHeartbeats 4000000
set_option autoImplicit false
/-! Things of any kind. -/
namespace Ice
open PySem PySem.Spec PyProof.Rows L2 TL
theorem one_lt (c l : Nat) : ([c] < [l]) ↔ c < l := by rw [List.cons_lt_cons_iff]; simp
theorem str_ext {x y : Str} (h : tl x = tl y) : x = y := by rw [← mk_tl x, ← mk_tl y, h]
theorem take_all {P : Nat → Prop} {l : List Nat} {i c : Nat} (h : ∀ x ∈ l.take i, P x) (hc : l[i]? = some c) (hp : P c) : ∀ x ∈ l.take (i + 1), P x := by
  intro x hx
  rw [List.take_add_one, hc] at hx
  rcases List.mem_append.mp hx with z | z
  · exact h x z
  · have : x = c := by simpa using z
    rw [this]; exact hp
theorem empty_eq (s : Str) : (V.str s = V.str (Str.ofString "")) ↔ s.length = 0 := by
  constructor
  · intro h; injection h with h; rw [h]; decide +kernel
  · intro h
    have : tl s = tl (Str.ofString "") := by rw [List.eq_nil_of_length_eq_zero (by rw [tl_len]; exact h : (tl s).length = 0)]; decide +kernel
    rw [str_ext this]
theorem sign_eq (c d : Nat) : (V.str ⟨#[c]⟩ = V.str ⟨#[d]⟩) ↔ c = d := by
  constructor
  · intro h; injection h with h; injection h with h; simpa using h
  · rintro rfl; rfl
/-- what is no text -/
inductive NoTx (H : Hp) : V → String → Prop
  | non : NoTx H .non "NoneType"
  | int (i : Int) : NoTx H (.int i) "int"
  | bl (b : Bool) : NoTx H (.bl b) "bool"
  | lst {p : Addr} {xs : List V} (h : H p = some (.lst xs)) : NoTx H (.ref p) "list"
  | tup {p : Addr} {xs : List V} (h : H p = some (.tup xs)) : NoTx H (.ref p) "tuple"
  | dct {p : Addr} {xs : List (Key × V)} (h : H p = some (.dK xs)) : NoTx H (.ref p) "dict"
def Th (H : Hp) (v : V) : Prop := (∃ s, v = .str s ∧ s.length ≤ 100000) ∨ ∃ n, NoTx H v n
theorem NoTx.same {H H' : Hp} {v : V} {n : String} (e : Same H H') (h : NoTx H v n) : NoTx H' v n := by
  cases h with
  | non => exact .non
  | int i => exact .int i
  | bl b => exact .bl b
  | lst h => exact .lst (e _ _ h)
  | tup h => exact .tup (e _ _ h)
  | dct h => exact .dct (e _ _ h)
theorem Th.same {H H' : Hp} {v : V} (e : Same H H') (h : Th H v) : Th H' v := by
  rcases h with h | ⟨n, h⟩
  · exact .inl h
  · exact .inr ⟨n, h.same e⟩
theorem Th.updL {H : Hp} {D : Addr} {xs ys : List V} {v : V} (hD : H D = some (.lst xs)) (h : Th H v) : Th (upd H D (.lst ys)) v := by
  rcases h with h | ⟨n, h⟩
  · exact .inl h
  · refine .inr ?_
    cases h with
    | non => exact ⟨_, .non⟩
    | int i => exact ⟨_, .int i⟩
    | bl b => exact ⟨_, .bl b⟩
    | @lst p xs h =>
      by_cases e : p = D
      · subst e; exact ⟨_, .lst upd_same⟩
      · exact ⟨_, .lst (by rw [upd_ne e]; exact h)⟩
    | tup h => exact ⟨_, .tup (by rw [upd_ne (ne_of h hD (by intro z; cases z))]; exact h)⟩
    | dct h => exact ⟨_, .dct (by rw [upd_ne (ne_of h hD (by intro z; cases z))]; exact h)⟩
section
variable {K : PySem.W.Frag} {H : Hp}
theorem ty_str {s : Str} : TyX K H (.str s) (.type "str") := .base (.str s)
theorem NoTx.tyx {v : V} {n : String} (h : NoTx H v n) : TyX K H v (.type n) := by
  cases h with
  | non => exact .base .non
  | int i => exact .base (.int i)
  | bl b => exact .base (.bl b)
  | lst h => exact .base (.lst h)
  | tup h => exact .base (.tup h)
  | dct h => exact .base (.dK h)
theorem NoTx.noStr {v : V} {n : String} (h : NoTx H v n) : kitB n "str" = some false := by cases h <;> decide +kernel
theorem NoTx.ty {v : V} {n : String} (h : NoTx H v n) : TyX K H v (.type n) ∧ kitB n "str" = some false := ⟨h.tyx, h.noStr⟩
end
/-- a whole number; one within bounds; a name -/
def isW : V → Bool
  | .int _ => true
  | _ => false
def inB (lo hi : Int) : V → Bool
  | .int i => decide (lo ≤ i) && decide (i ≤ hi)
  | _ => false
def isN : V → Bool
  | .str s => decide (1 ≤ s.length ∧ s.length ≤ 8 ∧ ∀ c ∈ tl s, 97 ≤ c ∧ c ≤ 122)
  | _ => false
theorem NoTx.isN {H : Hp} {v : V} {n : String} (h : NoTx H v n) : isN v = false := by cases h <;> rfl
theorem Th.ty {K : PySem.W.Frag} {H : Hp} {v : V} (h : Th H v) : ∃ n, TyX K H v (.type n) ∧ kitB n "int" = some (isW v || decide (n = "bool")) ∧ kitB n "bool" = some (decide (n = "bool")) ∧ (n = "bool" → ∃ b, v = .bl b) := by
  rcases h with ⟨s, rfl, _⟩ | ⟨n, h⟩
  · exact ⟨"str", ty_str, (by decide +kernel : kitB "str" "int" = some (false || decide ("str" = "bool"))), by decide +kernel, fun z => absurd z (by decide)⟩
  · refine ⟨n, h.tyx, ?_⟩
    cases h with
    | non => exact ⟨(by decide +kernel : kitB "NoneType" "int" = some (false || decide ("NoneType" = "bool"))), by decide +kernel, fun z => absurd z (by decide)⟩
    | int i => exact ⟨(by decide +kernel : kitB "int" "int" = some (true || decide ("int" = "bool"))), by decide +kernel, fun z => absurd z (by decide)⟩
    | bl b => exact ⟨(by decide +kernel : kitB "bool" "int" = some (false || decide ("bool" = "bool"))), by decide +kernel, fun _ => ⟨b, rfl⟩⟩
    | lst h => exact ⟨(by decide +kernel : kitB "list" "int" = some (false || decide ("list" = "bool"))), by decide +kernel, fun z => absurd z (by decide)⟩
    | tup h => exact ⟨(by decide +kernel : kitB "tuple" "int" = some (false || decide ("tuple" = "bool"))), by decide +kernel, fun z => absurd z (by decide)⟩
    | dct h => exact ⟨(by decide +kernel : kitB "dict" "int" = some (false || decide ("dict" = "bool"))), by decide +kernel, fun z => absurd z (by decide)⟩
end Ice

set_option Elab.async false
set_option linter.all false
set_option maxRecDepth 100000
set_option maxHeartbeats 4000000
set_option autoImplicit false
/-! Texts drawn sign by sign from a box. -/
namespace Ice
open PySem PySem.Spec PyProof.Rows L2 TL
/-- a comprehension over a range whose element draws one sign from the box b -/
theorem lc_draw {b : Addr} {n size : Nat} {P : Nat → Prop} {g : TG} {tt : TT} {te : TE} {vs : List Nat} {σ : L2.St} {H1 : Hp} {D : Addr} {Qd : Hp → Prop} (hB : Box H1 b n) (hD : H1 D = none) (hz : size ≤ 1000)
    (hs : ∀ i H, i < size → But b H1 H → Box H b (n + i) → ∀ N : V → Hp → Prop, (∀ c H4, P c → But b H H4 → Box H4 b (n + i + 1) → N (.str ⟨#[c]⟩) H4) →
      g (.int (0 + i)) (wipe σ vs) H fun σ2 H2 => wipe σ2 vs = wipe σ vs ∧ tt σ2 H2 fun b H3 => if b = true then te σ2 H3 N else False)
    (mono : ∀ i H (N : V → Hp → Prop) (M : Hp → Prop), (g (.int (0 + i)) (wipe σ vs) H fun σ2 H2 => wipe σ2 vs = wipe σ vs ∧ tt σ2 H2 fun b H3 => if b = true then te σ2 H3 N else False) →
      g (.int (0 + i)) (wipe σ vs) H fun σ2 H2 => wipe σ2 vs = wipe σ vs ∧ tt σ2 H2 fun b H3 => if b = true then te σ2 H3 N else M H3)
    (hd : ∀ (acc : List Str) H, But b H1 H → Box H b (n + size) → H D = some (.lst (acc.map V.str)) → acc.length = size → (∀ y ∈ acc, ∃ c, y = ⟨#[c]⟩ ∧ P c) → Qd H) :
    ∃ W : Nat → Nat → Hp → Prop, (∃ m, W 0 m (upd H1 D (.lst []))) ∧ ∀ i m H, W i m H →
      ((Itr 0 size).stop i H ∧ Qd H) ∨ ((Itr 0 size).go i H ∧ ∃ Nx : Hp → Prop, (∀ H', Nx H' → ∃ m', m' < m ∧ W (i + 1) m' H') ∧ ∀ x H', (Itr 0 size).yld i H x H' → g x (wipe σ vs) H' fun σ2 H2 => wipe σ2 vs = wipe σ vs ∧ tt σ2 H2 fun b H3 =>
        if b = true then te σ2 H3 fun y H4 => ∃ acc, H4 D = some (.lst acc) ∧ acc.length < sizeLine ∧ Nx (upd H4 D (.lst (acc ++ [y]))) else Nx H3) := by
  have bD := hB.ne hD
  refine lc_range (lo := 0) (n := size) (fun i H' => But b H1 H' ∧ Box H' b (n + i) ∧ ∃ acc : List Str, H' D = some (.lst (acc.map V.str)) ∧ acc.length = i ∧ ∀ y ∈ acc, ∃ c, y = ⟨#[c]⟩ ∧ P c)
    ⟨But.new _ hD, hB.new hD, [], upd_same, rfl, by simp⟩ ?_ ?_
  · rintro i H' hi ⟨e6, B6, acc, hA, hl, h1⟩
    refine mono i H' _ _ (hs i H' hi e6 B6 _ ?_)
    intro c H4 pc e7 B7
    refine ⟨_, e7 D _ bD hA, by rw [List.length_map]; exact small1000 (by omega), fun a o na ha => ?_, B7.upd bD, acc ++ [⟨#[c]⟩], by rw [upd_same, List.map_append]; rfl, by simp [hl], ?_⟩
    · rw [upd_ne (ne_of_none ha hD)]
      exact e7 a o na (e6 a o na ha)
    · intro y hy
      rcases List.mem_append.mp hy with z | z
      · exact h1 y z
      · simp at z; exact ⟨c, z, pc⟩
  · rintro H' ⟨e6, B6, acc, hA, hl, h1⟩
    exact hd acc H' e6 B6 hA hl h1
/-- what is joined of such signs -/
theorem join_draw {K : PySem.W.Frag} {P : Nat → Prop} {e : Str} {D : Addr} {acc : List Str} {H : Hp} {Q : VK} (he : tl e = []) (hA : H D = some (.lst (acc.map V.str))) (hz : acc.length ≤ 1000) (h1 : ∀ y ∈ acc, ∃ c, y = ⟨#[c]⟩ ∧ P c)
    (q : ∀ t : Str, t.length = acc.length → (∀ c ∈ tl t, P c) → Q (.str t) H) :
    rJoin K (.str e) [.ref D] H Q := by
  have one : ∀ y ∈ acc, y.length = 1 := fun y hy => by obtain ⟨c, rfl, _⟩ := h1 y hy; rfl
  have e0 : e.length = 0 := by rw [← tl_len, he]; rfl
  refine ⟨e, D, acc, rfl, rfl, .inl (SqL.lst hA), by rw [sum_ones one, e0]; omega, q _ (len_joined he one) ?_⟩
  intro c hc
  rw [tl_joined he] at hc
  obtain ⟨l, hl, hcl⟩ := List.mem_flatten.mp hc
  obtain ⟨y, hy, rfl⟩ := List.mem_map.mp hl
  obtain ⟨d, rfl, pd⟩ := h1 y hy
  have : c = d := by simpa using (show c ∈ [d] from hcl)
  rw [this]; exact pd
/-- a sign of a written text at a drawn place -/
theorem sign_at {P : Nat → Prop} {x : Str} {d : Int} (h0 : 0 ≤ d) (h1 : d < x.length) (hp : ∀ c ∈ tl x, P c) : ∃ c, atI x.cps.toList d = some c ∧ P c := by
  obtain ⟨c, hc, hm, _⟩ := atI_some (xs := x.cps.toList) h0 (by simp only [Array.length_toList]; exact h1)
  exact ⟨c, hc, hp c hm⟩
theorem cut_all {P : Nat → Prop} {z : Str} {lo hi : Option Int} (h : ∀ c ∈ tl z, P c) : ∀ c ∈ tl (cutS z lo hi), P c := by
  intro c hc
  rw [tl_cut] at hc
  exact h c (List.mem_of_mem_drop (List.mem_of_mem_take hc))
theorem add_all {P : Nat → Prop} {x y : Str} (h1 : ∀ c ∈ tl x, P c) (h2 : ∀ c ∈ tl y, P c) : ∀ c ∈ tl (x ++ y), P c := by
  intro c hc
  rw [tl_append] at hc
  rcases List.mem_append.mp hc with z | z
  · exact h1 c z
  · exact h2 c z
theorem one_all {P : Nat → Prop} {d : Nat} (h : P d) : ∀ c ∈ tl (⟨#[d]⟩ : Str), P c := by
  intro c hc
  have : c = d := by simpa using (show c ∈ [d] from hc)
  rw [this]; exact h
end Ice

set_option Elab.async false
set_option linter.all false
set_option maxRecDepth 100000
set_option maxHeartbeats 4000000
set_option autoImplicit false
/-! Own errors over an own error over ValueError; several except clauses, with names or without. -/
namespace Ice
open PySem PySem.Spec PyProof.Rows L2
/-- one except clause: its class, the slot of its name, its suite -/
structure Hd where
  c : Value
  i : Option Nat
  ts : Addr → Value → Option Addr → TS
/-- the slots behind a suite whose name is gone -/
def goneE (i : Nat) (D : Ends) : Ends := { nx := fun σ' H' => D.nx (σ'.set i none) H', rt := D.rt, bk := fun σ' H' => D.bk (σ'.set i none) H', ct := fun σ' H' => D.ct (σ'.set i none) H' }
def Hd.run (h : Hd) (a : Addr) (cls : Value) (d : Option Addr) (D : Ends) (σ : L2.St) (H : Hp) : Prop :=
  match h.i with
  | none => h.ts a cls d D σ H
  | some i => h.ts a cls d (goneE i D) (σ.set i (some (.ref a))) H
def wHds (K : PySem.W.Frag) (Wout : WX) (D : Ends) : List Hd → WX
  | [] => Wout
  | h :: r => fun cls d σ H => ∃ b, PySem.W.exmOne K cls h.c = some b ∧ (b = true → ∀ a, H a = none → h.run a cls d D σ H) ∧ (b = false → wHds K Wout D r cls d σ H)
inductive HdOk (X : Cx) : List ExceptHandler → List Hd → Prop
  | nil : HdOk X [] []
  | plain {x : Str} {c : Value} {ts : Addr → Value → Option Addr → TS} {b₀ : Stmt} {suite : List Stmt} {np pos' : Pos} {hds : List ExceptHandler} {l : List Hd} (hc : Names X x c)
      (hsu : ∀ (a : Addr) (oe : Obj) (cls : Value) (d : Option Addr) (pn : List (Addr × Obj)), Zc cls d oe → (∃ vs, oe.data = .fields vs) → PSs (X.suite a ((a, oe) :: pn)) (b₀ :: suite) (ts a cls d)) (r : HdOk X hds l) :
      HdOk X (.ExceptHandler (some (.Name x np)) none (b₀ :: suite) pos' :: hds) (⟨c, none, ts⟩ :: l)
  | named {x n : Str} {i : Nat} {c : Value} {ts : Addr → Value → Option Addr → TS} {b₀ : Stmt} {suite : List Stmt} {np pos' : Pos} {hds : List ExceptHandler} {l : List Hd} (hi : X.N[i]? = some n) (hln : X.env.kindOf n = some .local) (hc : Names X x c)
      (hsu : ∀ (a : Addr) (oe : Obj) (cls : Value) (d : Option Addr) (pn : List (Addr × Obj)), Zc cls d oe → (∃ vs, oe.data = .fields vs) → PSs (X.suite a ((a, oe) :: pn)) (b₀ :: suite) (ts a cls d)) (r : HdOk X hds l) :
      HdOk X (.ExceptHandler (some (.Name x np)) (some n) (b₀ :: suite) pos' :: hds) (⟨c, some i, ts⟩ :: l)
section
variable {X : Cx} {body : List Stmt} {h₀ : ExceptHandler} {hds : List ExceptHandler} {l : List Hd} {pos : Pos} {tb : WX → TS} {Wout : WX}
/-- the exception at a is caught by one of the clauses, or goes on -/
theorem handled {pins : List (Addr × Obj)} {D : Ends} (hs : X.stack = X.env :: X.outer) (hf : X.env.frame = some X.env.locals) (hN : X.N.Nodup) (tk : Takes X Wout) (ok : X.Ok)
    {a : Addr} {B : Heap} {sI s' : Shared} {σ' : L2.St} {H' : Hp} {cls : Value} {d : Option Addr} {h3 : Heap} (J : Inv X pins σ' H' sI) (nb : ∀ b o, sI.heap.get? b = some o → b ∉ frs X.stack → B.get? b = some o)
    (up : sI.heap.UpToSlots s'.heap) (na : H' a = none) (os : s'.os = sI.os) (ag : AllBare s'.gens) (fl3 : HandSPX.FlyingZ B (X.env :: X.outer) a (Zc cls d) h3) (up3 : s'.heap.UpToSlots h3)
    {hds' : List ExceptHandler} {l' : List Hd} (hk : HdOk X hds' l') :
    wHds X.K Wout D l' cls d σ' H' → wpAny (model X.prog X.w) X.A (handleBy (.ref a) X.env hds') (SP X pins D) X.xe { s' with heap := h3 } := by
  have J3 : Inv X pins σ' H' { s' with heap := h3 } := J.landed nb fl3.1 (up.trans up3) os ag
  obtain ⟨oe3, vs3, he3, hz3, hd3⟩ := fl3.there
  have nfr : a ∉ frs (X.env :: X.outer) := by
    intro hm
    obtain ⟨_, o', e', hnf⟩ := fl3.2.2.1.mem hm
    rw [he3] at e'; cases e'
    exact hnf _ hd3
  have nL : a ≠ X.env.locals := fun z => nfr (List.mem_filterMap.mpr ⟨X.env, List.mem_cons_self, by rw [hf, z]⟩)
  have nF : a ∉ X.fs := by
    intro hm
    obtain ⟨e, he, q⟩ := List.mem_filterMap.mp hm
    exact nfr (List.mem_filterMap.mpr ⟨e, List.mem_cons_of_mem _ he, q⟩)
  have S3 := J3.suite he3 hd3 na nL nF
  have LT : PySem.W.Looks (model X.prog X.w) h3 (typeOf (.ref a)) cls := fun A Q E s k q => wpAny_typeOf_ref (k _ _ he3) (by rw [hz3.1]; exact q)
  have test : ∀ {x : Str} {c : Value} {np : Pos} {Q : Value → Shared → Prop} {E : Value → Shared → Prop}, Names X x c → Q c { s' with heap := h3 } →
      wpAny (model X.prog X.w) (X.A.mark (some (.ref a))) (eval (.Name x np) X.env) Q E { s' with heap := h3 } := by
    rintro x c np Q E ⟨hg, hdbg, hm | ⟨hm, hv, hnn⟩⟩ q
    · exact ld_glob (X := X.suite a ((a, oe3) :: (X.pn ++ pins))) S3 hg hm q hdbg
    · exact ld_blt (X := X.suite a ((a, oe3) :: (X.pn ++ pins))) S3 hg hm hv q hnn hdbg
  have land : ∀ {R : Shared → Prop}, (∀ h4 oe4, (∃ vs, oe4.data = .fields vs) → Zc cls d oe4 → Inv (X.suite a ((a, oe4) :: (X.pn ++ pins))) [] σ' H' { s' with heap := h4 } → R { s' with heap := h4 }) →
      ∀ h4, HandSPX.FlyingZ B (X.env :: X.outer) a (Zc cls d) h4 → s'.heap.UpToSlots h4 → R { s' with heap := h4 } := by
    intro R hR h4 fl4 up4
    have J4 : Inv X pins σ' H' { s' with heap := h4 } := J.landed nb fl4.1 (up.trans up4) os ag
    obtain ⟨oe4, vs4, he4, hz4, hd4⟩ := fl4.there
    exact hR h4 oe4 ⟨_, hd4⟩ hz4 (J4.suite he4 hd4 na nL nF)
  induction hk with
  | nil =>
    intro w
    refine wpAny_handleBy_nil ?_
    obtain ⟨k1, k2, k3, oe, vs, T, oT, ts', he, hz, hd, h1, hr⟩ := id fl3
    unfold PySem.passOn
    refine wpAny_bind (wpAny_field he hd h1 ?_)
    rw [if_neg (show ¬ ((Value.ref T == Value.none) = true) from by simp)]
    have fin : wpAny (model X.prog X.w) X.A (setFlight (.ref a) X.env.frame) (fun _ s4 => wpAny (model X.prog X.w) X.A (throw (.ref a) : Sem Flow) (SP X pins D) X.xe s4) X.xe { s' with heap := h3 } := by
      rw [hf]
      exact HandSPX.setFlight_upZ fl3 (fun h4 hh4 up4 => wpAny_throw (tk _ _ ⟨a, B, sI, pins, σ', H', cls, d, rfl, J, nb, (up.trans up3).trans up4, .inr (.inr (by rw [hs]; exact hh4)), na, os, ag, w⟩))
    first
      | exact wpAny_bind (wpAny_pure (wpAny_bind fin))
      | exact wpAny_bind fin
  | @plain x c ts b₀ suite np pos' hds2 l2 hc hsu r ih =>
    rintro ⟨b, hb1, hyes, hno⟩
    refine wpAny_handleBy_cons (codeAny_handlers_test ?_) (by intro q; cases q)
    refine test hc ((PySem.W.exm_one (M := model X.prog X.w) J3.kIn LT hb1).here ?_)
    match b, hyes, hno with
    | true, hyes, _ =>
      refine codeAny_handlers_suite (HandSPX.lands_againZ fl3 (fun h4 fl4 up4 => ?_))
      refine land ?_ h4 fl4 (up3.trans up4)
      intro h5 oe5 hd5 hz5 S5
      refine wpAny_mono ((hsu a oe5 cls d (X.pn ++ pins) hz5 hd5).run [] _ _ H' _ S5 (hyes rfl a na)) (fun f s6 hsp => ?_) (fun _ _ z => False.elim z)
      match f, hsp with
      | .next, ⟨σ6, H6, S6, q6⟩ => exact ⟨_, _, S6.unsuite ok, q6⟩
      | .brk, ⟨σ6, H6, S6, q6⟩ => exact ⟨_, _, S6.unsuite ok, q6⟩
      | .cont, ⟨σ6, H6, S6, q6⟩ => exact ⟨_, _, S6.unsuite ok, q6⟩
      | .ret u, ⟨v6, σ6, H6, S6, r6, q6⟩ => exact ⟨_, _, _, S6.unsuite ok, r6, q6⟩
    | false, _, hno => exact ih (hno rfl)
  | @named x n i c ts b₀ suite np pos' hds2 l2 hi hln hc hsu r ih =>
    rintro ⟨b, hb1, hyes, hno⟩
    refine wpAny_handleBy_cons (codeAny_handlers_test ?_) (by intro q; cases q)
    refine test hc ((PySem.W.exm_one (M := model X.prog X.w) J3.kIn LT hb1).here ?_)
    match b, hyes, hno with
    | true, hyes, _ =>
      refine codeAny_handlers_suite_as (HandSPX.lands_againZ fl3 (fun h4 fl4 up4 => ?_))
      refine land ?_ h4 fl4 (up3.trans up4)
      intro h5 oe5 hd5 hz5 S5
      refine store_ok (X := X.suite a ((a, oe5) :: (X.pn ++ pins))) (v := .ref a) S5 hN hi (.inl hln) rfl (fun s6 S6 => ?_) (.inr hln)
      refine wpAny_mono ((hsu a oe5 cls d (X.pn ++ pins) hz5 hd5).run [] s6 _ H' _ S6 (hyes rfl a na)) (fun f s7 hsp => ?_) (fun _ _ z => False.elim z)
      match f, hsp with
      | .next, ⟨σ6, H6, S7, q6⟩ => exact gone_ok (S7.unsuite ok) hN hi hln (fun s8 J8 => ⟨_, _, J8, q6⟩)
      | .brk, ⟨σ6, H6, S7, q6⟩ => exact gone_ok (S7.unsuite ok) hN hi hln (fun s8 J8 => ⟨_, _, J8, q6⟩)
      | .cont, ⟨σ6, H6, S7, q6⟩ => exact gone_ok (S7.unsuite ok) hN hi hln (fun s8 J8 => ⟨_, _, J8, q6⟩)
      | .ret u, ⟨v6, σ6, H6, S7, r6, q6⟩ => exact gone_ok (S7.unsuite ok) hN hi hln (fun s8 J8 => ⟨_, _, _, J8, r6, q6⟩)
    | false, _, hno => exact ih (hno rfl)
theorem ps_try_hds (hs : X.stack = X.env :: X.outer) (hf : X.env.frame = some X.env.locals) (hN : X.N.Nodup) (tk : Takes X Wout)
    (hb : ∀ (W : WX) (pn : List (Addr × Obj)) (xe : Value → Shared → Prop), Takes (X.tr pn xe) W → PassesOwn (model X.prog X.w) X.A X.env xe → PSs (X.tr pn xe) body (tb W))
    (hh : HdOk X (h₀ :: hds) l) : PS X (.Try body (h₀ :: hds) [] [] pos) (fun D σ H => tb (wHds X.K Wout D l) D σ H) := by
  constructor
  intro pins s σ H D I h
  have ok := I.ok
  have hfr : X.A.frames = some (X.env :: X.outer) := by rw [ok.frames, hs]
  refine wpAny_Try_except ?_
  have run := (hb (wHds X.K Wout D l) (X.pn ++ pins) (fun e s₁ => wpAny (model X.prog X.w) X.A (noteFrame e X.env)
    (fun _ s₂ => wpAny (model X.prog X.w) X.A (setFlight e none) (fun _ s₃ => wpAny (model X.prog X.w) X.A (handleBy e X.env (h₀ :: hds)) (SP X pins D) X.xe s₃) X.xe s₂) X.xe s₁) ?_ PassesOwn.looking).run [] s σ H D (I.toTry _) h
  · refine wpAny_mono run (fun f s1 hsp => ?_) (fun e s1 he => he)
    match f, hsp with
    | .next, ⟨σ', H', J', q⟩ => exact wpAny_execs_nil ⟨σ', H', J'.ofTry ok, q⟩
    | .brk, ⟨σ', H', J', q⟩ => exact ⟨σ', H', J'.ofTry ok, q⟩
    | .cont, ⟨σ', H', J', q⟩ => exact ⟨σ', H', J'.ofTry ok, q⟩
    | .ret u, ⟨v, σ', H', J', r, q⟩ => exact ⟨v, σ', H', J'.ofTry ok, r, q⟩
  · rintro u s' ⟨a, B, sI, pins', σ', H', cls, d, rfl, J', nb, up, sky, na, os, ag, w⟩
    have sky' : Sky B (X.env :: X.outer) a (Zc cls d) X.env.locals s'.heap := by rw [← hs]; exact sky
    exact Sky.land Zc.steady hfr hf sky' (fun h3 fl3 up3 => handled hs hf hN tk ok (J'.ofTry ok) nb up na os ag fl3 up3 hh w)
end
/-! ### Base.__init__(self, ..), Base an own error class over ValueError -/
section
variable {X : Cx} {e : Expr} {es : List Expr} {ta : TA} {p1 p2 pos : Pos} {x : Str} {B : Addr}
theorem pe_kinit {pl : Sem Bool} (hg : Gl X x) (hm : X.mg x = some (.ref B)) (hsp : PySem.W.specialIn X.K (.ref B) "__getattribute__" = some (some (.builtin "type.__getattribute__"))) (ht : PySem.W.typeIn X.K (.ref B) = some (.type "type"))
    (hr : PySem.W.readsIn X.K B (.type "type") = true) (hF : PySem.W.findCls X.K (.ref B) (.type "type") "__init__" = some (.val (.builtin "ValueError.__init__"))) (ha : PA X (e :: es) ta)
    (hdb : (x == ("__debug__" : Str)) = false := by decide)
    (hc : eval (.Call (.Attribute (.Name x p1) "__init__" p2) (e :: es) [] pos) X.env =
      (do let ov ← eval (.Name x p1) X.env; standAt p2.atName; let (f, first) ← holding [ov] (getMethod ov "__init__" pl); callWith pos f first (backTo pos (starEach (e :: es) X.env)) (backToKw pos (keywordEach [] X.env))) := by rfl)
    (he : starEach (e :: es) X.env = (false, eval e X.env) :: starEach es X.env := by rfl) (hpl : (backTo pos (starEach es X.env)).any (·.1) = false := by rfl) :
    PE X (.Call (.Attribute (.Name x p1) "__init__" p2) (e :: es) [] pos) (tVeI X.K ta) := by
  constructor
  intro pins s σ H Q I h
  refine PySem.W.methodCall_KW (ld_glob I hg hm ?_ hdb) hc
  obtain ⟨m, fr⟩ := I.fr
  refine PySem.W.method_of_cls fr I.ok.mod.kin hsp (PySem.W.cls_val fr I.ok.mod.kin ht hr hF (by decide +kernel) ?_)
  show wpAny _ _ (callWith pos (Value.builtin "ValueError.__init__") [] (backTo pos (starEach (e :: es) X.env)) []) _ _ _
  refine PyProof.Rows.callWith_method1 (thn (ha.run pos pins _ σ H _ (I.tok _) h) (fun us s1 ⟨vs, H1, I1, r1, a, C, ws, ev, hl, T, ea, q⟩ => ?_)) he hpl
  subst ev
  cases r1 with
  | @cons _ u0 _ ur ra rw' =>
    cases (show u0 = Value.ref a from ra)
    exact oinit_ok T I1 ea (by rw [← Paired.length rw', sizeLine_eq]; omega) (fun s' J => ⟨.non, H1, J, rfl, q⟩)
end
end Ice
namespace Ice
open PySem PySem.Spec PyProof.Rows L2
/-! ### calls whose errors are wished for at the caller's slots -/
section
variable {X : Cx} {X0 : CXT} {k : Nat} {f C : Addr} {fd : FuncData} {ps : List Str} {sp : Sp} {dvs : List V} {ds : List Value} {E : L2.St → XK} {x m : Str} {p pos apos : Pos} {e o : Expr} {es : List Expr} {ta : TE} {t : TA}
def tCallE (sp : Sp) (dvs : List V) (E : L2.St → XK) (t : TA) : TE := fun σ H Q => t σ H fun vs H1 => sp (vs ++ dvs) H1 Q (E σ)
def tMakeE (C : Addr) (sp : Sp) (dvs : List V) (E : L2.St → XK) (t : TA) : TE := fun σ H Q => t σ H fun vs H1 => ∀ x dx, H1 x = none → H1 dx = none → dx ≠ x →
  sp (.ref x :: (vs ++ dvs)) (upd (upd H1 dx (.own x)) x (.ins C dx [])) (fun v H2 => v = .non ∧ Q (.ref x) H2) (E σ)
def tMethE (C : Addr) (m : Str) (sp : Sp) (dvs : List V) (E : L2.St → XK) (ta : TE) (t : TA) : TE := fun σ H Q => ta σ H fun x H1 => ∃ a dx fs, x = .ref a ∧ H1 a = some (.ins C dx fs) ∧ fs.lookup m = none ∧
  t σ H1 fun vs H2 => sp (x :: (vs ++ dvs)) H2 Q (E σ)
theorem run_ge {pins : List (Addr × Obj)} {σ : L2.St} {H : Hp} {s : Shared} {Q : VK} {us : List Value} {vs : List V} (F : FnG X.prog X.w X.K X.mg X.base X0 k f fd ps sp) (hr : Room k X.A) (hgd : X.A.guards = some [])
    (hb : Binds X.K fd ps ds) (hd : Vals dvs ds) (hx : PassesAt X0 X σ (E σ)) (I : Inv X pins σ H s) (r : Vals vs us) (h : sp (vs ++ dvs) H Q (E σ)) :
    wpAny (model X.prog X.w) X.A (call (.ref f) us) (EP X pins σ Q) X.xe s := by
  have r2 := Vals.append r hd
  have hl : (us ++ ds).length = ps.length := (Vals.length r2).symm.trans (F.len _ _ _ _ h)
  refine wpAny_call (codeAny_mono (F.run X.A X.stack s H ⟨us, []⟩ (us ++ ds) (vs ++ dvs) Q (E σ) hr hgd I.env0 (hb s us I.kIn hl) r2 h) (fun r s' hq => ?_))
  match r, hq with
  | .error e, hq => exact hx pins H s e s' I hq
  | .ok (.ret u), hq => exact I.after hq
  | .ok .next, hq => exact False.elim hq
  | .ok .brk, hq => exact False.elim hq
  | .ok .cont, hq => exact False.elim hq
theorem g_callE (F : FnG X.prog X.w X.K X.mg X.base X0 k f fd ps sp) (hr : Room k X.A) (hgd : X.A.guards = some []) (hg : Gl X x) (hm : X.mg x = some (.ref f)) (hk : PySem.W.keepIn X.K (.ref f) = true) (hb : Binds X.K fd ps ds) (hd : Vals dvs ds)
    (hx : ∀ σ, PassesAt X0 X σ (E σ)) (ha : PA X (e :: es) t) (hdb : (x == ("__debug__" : Str)) = false := by decide) (he : starEach (e :: es) X.env = (false, eval e X.env) :: starEach es X.env := by rfl)
    (hpl : (backTo pos (starEach es X.env)).any (·.1) = false := by rfl) : PE X (.Call (.Name x p) (e :: es) [] pos) (tCallE sp dvs E t) := by
  constructor
  intro pins s σ H Q I h
  refine wpAny_Call_Name_kw (ld_glob I hg hm (PySem.W.callWith_K (h₀ := X.base) I.ok.mod.kin hk ?_ he hpl) hdb)
  exact thn (ha.run pos pins s σ H _ I h) (fun us s1 ⟨vs, H1, I1, r, q⟩ => ⟨I1.kIn, run_ge F hr hgd hb hd (hx σ) I1 r q⟩)
theorem g_methE {pl : Sem Bool} (he : PE X o ta) (c : Cls X.K C) (hm : Meth X.K C m f) (F : FnG X.prog X.w X.K X.mg X.base X0 k f fd ps sp) (hr : Room k X.A) (hgd : X.A.guards = some []) (hb : Binds X.K fd ps ds) (hd : Vals dvs ds)
    (hx : ∀ σ, PassesAt X0 X σ (E σ)) (ha : PA X (e :: es) t) (hst : starEach (e :: es) X.env = (false, eval e X.env) :: starEach es X.env := by rfl) (hpl : (backTo pos (starEach es X.env)).any (·.1) = false := by rfl)
    (ht : eval (.Call (.Attribute o m apos) (e :: es) [] pos) X.env =
      (do let ov ← eval o X.env; standAt apos.atName; let (f, first) ← holding [ov] (getMethod ov m pl); callWith pos f first (backTo pos (starEach (e :: es) X.env)) (backToKw pos (keywordEach [] X.env))) := by rfl) :
    PE X (.Call (.Attribute o m apos) (e :: es) [] pos) (tMethE C m sp dvs E ta t) := by
  constructor
  intro pins s σ H Q I h
  refine PySem.W.methodCall_KW (pl := pl) (thn (he.run pins s σ H _ I h) (fun u s1 ⟨x, H1, I1, rx, a, dx, fs, ex, ea, l, q⟩ => ?_)) ht
  subst ex
  cases (show u = Value.ref a from rx)
  refine getmeth_ok I1 ea c hm l (PySem.W.callWith_K (first := [.ref a]) (h₀ := X.base) I.ok.mod.kin hm.kp ?_ hst hpl)
  exact thn (ha.run pos pins s1 σ H1 _ I1 q) (fun us s2 ⟨vs, H2, I2, r, q2⟩ => ⟨I2.kIn, run_ge (us := .ref a :: us) (vs := .ref a :: vs) F hr hgd hb hd (hx σ) I2 (.cons rfl r) q2⟩)
theorem run_mke {pins : List (Addr × Obj)} {σ : L2.St} {H : Hp} {s : Shared} {Q : VK} {us : List Value} {vs : List V} (M : Mk X.K C f) (F : FnG X.prog X.w X.K X.mg X.base X0 k f fd ps sp) (hr : Room (k + 1) X.A) (hgd : X.A.guards = some [])
    (hb : Binds X.K fd ps ds) (hd : Vals dvs ds) (hx : PassesAt X0 X σ (E σ)) (hx2 : ∀ {H2 : Hp} {e : Value} {s2 s' : Shared}, Inv X pins σ H2 s2 → X0 X.stack H2 s2 (E σ) e s' → X.xe e s') (I : Inv X pins σ H s) (r : Vals vs us)
    (h : ∀ x dx, H x = none → H dx = none → dx ≠ x → sp (.ref x :: (vs ++ dvs)) (upd (upd H dx (.own x)) x (.ins C dx [])) (fun v H2 => v = .non ∧ Q (.ref x) H2) (E σ)) :
    wpAny (model X.prog X.w) X.A (call (.ref C) us) (EP X pins σ Q) X.xe s := by
  have hq := h (s.heap.objs.size + 1) s.heap.objs.size (I.hok.fresh (Nat.le_succ _)) (I.hok.fresh (Nat.le_refl _)) (by simp)
  have I2 := Inv.made (C := C) I
  have r2 : Vals (V.ref (s.heap.objs.size + 1) :: (vs ++ dvs)) (Value.ref (s.heap.objs.size + 1) :: (us ++ ds)) := .cons rfl (Vals.append r hd)
  have hl : (Value.ref (s.heap.objs.size + 1) :: us ++ ds).length = ps.length := (Vals.length r2).symm.trans (F.len _ _ _ _ hq)
  have run := F.run _ X.stack _ _ ⟨Value.ref (s.heap.objs.size + 1) :: us, []⟩ (Value.ref (s.heap.objs.size + 1) :: (us ++ ds)) _ _ (E σ) (hr.make C us []) (make_guards hgd) (I2.env0.make C us [])
    (hb _ (Value.ref (s.heap.objs.size + 1) :: us) I2.kIn hl) r2 hq
  refine wpAny_call (make_map (f := f) I.kIn M.makes M.init (beq_iff_eq.mp M.fn) (codeAny_mono run (fun r s' hq' => ?_)))
  match r, hq' with
  | .error e, hq' => exact hx2 I2 hq'
  | .ok (.ret u), hq' =>
    obtain ⟨v, H', I3, rv, ev, q3⟩ := I2.after hq'
    subst ev
    exact ⟨rv, V.ref (s.heap.objs.size + 1), H', I3, rfl, q3⟩
  | .ok .next, hq' => exact False.elim hq'
  | .ok .brk, hq' => exact False.elim hq'
  | .ok .cont, hq' => exact False.elim hq'
theorem g_makeE (M : Mk X.K C f) (F : FnG X.prog X.w X.K X.mg X.base X0 k f fd ps sp) (hr : Room (k + 1) X.A) (hgd : X.A.guards = some []) (hg : Gl X x) (hm : X.mg x = some (.ref C)) (hb : Binds X.K fd ps ds) (hd : Vals dvs ds) (hx : ∀ σ, PassesAt X0 X σ (E σ))
    (ha : PA X (e :: es) t) (hdb : (x == ("__debug__" : Str)) = false := by decide) (he : starEach (e :: es) X.env = (false, eval e X.env) :: starEach es X.env := by rfl)
    (hpl : (backTo pos (starEach es X.env)).any (·.1) = false := by rfl) : PE X (.Call (.Name x p) (e :: es) [] pos) (tMakeE C sp dvs E t) := by
  constructor
  intro pins s σ H Q I h
  refine wpAny_Call_Name_kw (ld_glob I hg hm (PySem.W.callWith_K (h₀ := X.base) I.ok.mod.kin M.kp ?_ he hpl) hdb)
  exact thn (ha.run pos pins s σ H _ I h) (fun us s1 ⟨vs, H1, I1, r, q⟩ => ⟨I1.kIn, run_mke M F hr hgd hb hd (hx σ) (fun {H2 e s2 s'} J c => hx σ _ H2 s2 e s' J c) I1 r q⟩)
end
/-! ### an own error's __init__, and its raise -/
def spErr (K : PySem.W.Frag) (f : Str) : Sp := fun vs H Q _ => ∃ (a C : Addr) (v : V), vs = [.ref a, v] ∧ OexC K C ∧ PySem.W.findIn K (.ref C) f = some none ∧ H a = some (exo a C none) ∧
  ∀ dx, H dx = none → dx ≠ a → Q .non (upd (upd H dx (exd dx [(f, v)])) a (exo a C (some dx)))
section
variable {K : PySem.W.Frag} {σ : L2.St} {H : Hp} {Q : VK}
theorem i_mkE {C : Addr} {f : Str} {v : V} {W : XK} (T : OexC K C) (hf : PySem.W.findIn K (.ref C) f = some none) (q : ∀ d, H d = none → W (.ref C) (some d) (upd H d (.xd [(f, v)]))) :
    [v].length ≤ 1000 ∧ ∀ a, H a = none → spErr K f (.ref a :: ([v] ++ [])) (upd H a (exo a C none))
      (fun v H2 => v = .non ∧ ∃ (d : Addr) (fs : List (Str × V)), H2 a = some (exo a C (some d)) ∧ H2 d = some (exd d fs) ∧ H d = none ∧ W (.ref C) (some d) (upd (del H2 a) d (.xd fs))) (fun _ _ _ => False) := by
  refine ⟨by show 1 ≤ 1000; decide, fun a ha => ⟨a, C, v, rfl, T, hf, upd_same, fun dx hdx ne => ⟨rfl, dx, [(f, v)], upd_same, by rw [upd_ne ne, upd_same], freeU hdx, ?_⟩⟩⟩
  have e : upd (del (upd (upd (upd H a (exo a C none)) dx (exd dx [(f, v)])) a (exo a C (some dx))) a) dx (.xd [(f, v)]) = upd H dx (.xd [(f, v)]) := by
    funext b
    by_cases h1 : b = dx
    · rw [h1, upd_same, upd_same]
    · rw [upd_ne h1, upd_ne h1]
      by_cases h2 : b = a
      · rw [h2, del_same, ha]
      · rw [del_ne h2, upd_ne h2, upd_ne h1, upd_ne h2]
  rw [e]
  exact q dx (freeU hdx)
theorem i_kinit {ta : TA} (h : ta σ H fun vs H1 => ∃ (a C : Addr) (ws : List V), vs = .ref a :: ws ∧ ws.length ≤ 1000 ∧ OexC K C ∧ H1 a = some (exo a C none) ∧ Q .non H1) : tVeI K ta σ H Q := h
theorem i_ost {f : Str} {to te : TE} {D : Ends} (h : te σ H fun y H1 => to σ H1 fun x H2 => ∃ a C : Addr, x = .ref a ∧ OexC K C ∧ PySem.W.findIn K (.ref C) f = some none ∧
    ((H2 a = some (exo a C none) ∧ ∀ dx, H2 dx = none → dx ≠ a → D.nx σ (upd (upd H2 dx (exd dx [(f, y)])) a (exo a C (some dx)))) ∨
      ∃ (dx : Addr) (fs : List (Str × V)), H2 a = some (exo a C (some dx)) ∧ H2 dx = some (exd dx fs) ∧ fs.length ≤ 900 ∧ D.nx σ (upd H2 dx (exd dx ((f, y) :: fs))))) : tOst K f to te D σ H := h
theorem i_mkO {C : Addr} {sp : Sp} {dvs : List V} {ta : TA} {W : XK} (h : ta σ H fun vs H1 => vs.length ≤ 1000 ∧ ∀ a, H1 a = none → sp (.ref a :: (vs ++ dvs)) (upd H1 a (exo a C none))
    (fun v H2 => v = .non ∧ ∃ (d : Addr) (fs : List (Str × V)), H2 a = some (exo a C (some d)) ∧ H2 d = some (exd d fs) ∧ H1 d = none ∧ W (.ref C) (some d) (upd (del H2 a) d (.xd fs))) (fun _ _ _ => False)) : tMkO C sp dvs ta σ H W := h
theorem i_callE {sp : Sp} {dvs : List V} {E : L2.St → XK} {t : TA} (h : t σ H fun vs H1 => sp (vs ++ dvs) H1 Q (E σ)) : tCallE sp dvs E t σ H Q := h
theorem i_makeE {C : Addr} {sp : Sp} {dvs : List V} {E : L2.St → XK} {t : TA} (h : t σ H fun vs H1 => ∀ x dx, H1 x = none → H1 dx = none → dx ≠ x →
    sp (.ref x :: (vs ++ dvs)) (upd (upd H1 dx (.own x)) x (.ins C dx [])) (fun v H2 => v = .non ∧ Q (.ref x) H2) (E σ)) : tMakeE C sp dvs E t σ H Q := h
theorem i_xf {a C dd : Addr} {cls : Value} {f : Str} {te : TE} (h : te σ H fun x H1 => x = .ref a ∧ cls = .ref C ∧ ∃ (d' : Addr) (fs : List (Str × V)) (v : V), some dd = some d' ∧ H1 d' = some (.xd fs) ∧ fs.lookup f = some v ∧ Q v H1) : tXf a cls (some dd) C f te σ H Q := h
theorem i_sfld {ta tv : TE} {f : Str} {D : Ends} (h : tv σ H fun y H1 => ta σ H1 fun x H2 => ∃ a C dx fs, x = .ref a ∧ H2 a = some (.ins C dx fs) ∧ Cls K C ∧ NoAttr K C f ∧ fs.length < 1000 ∧ D.nx σ (upd H2 a (.ins C dx (putF f y fs)))) : sFld K ta tv f D σ H := h
end
end Ice
namespace Ice
open PySem PySem.Spec PyProof.Rows L2
theorem putF_new {f : Str} {v : V} : ∀ {fs : List (Str × V)}, f ∉ fs.map (·.1) → putF f v fs = fs ++ [(f, v)]
  | [], _ => rfl
  | (g, u) :: r, h => by
    have h1 : ¬ g = f := fun e => h (by rw [e]; exact List.mem_cons_self ..)
    have h2 : f ∉ r.map (·.1) := fun e => h (List.mem_cons_of_mem _ e)
    show (if g = f then (g, v) :: r else (g, u) :: putF f v r) = _
    rw [if_neg h1, putF_new h2]
    rfl
theorem i_store {K : PySem.W.Frag} {H : Hp} {x C dx : Addr} {fs : List (Str × V)} {f : Str} {y : V} {N : Hp → Prop} (hx : H x = some (.ins C dx fs)) (cl : Cls K C) (na : NoAttr K C f) (hl : fs.length ≤ 900) (hf : f ∉ fs.map (·.1))
    (q : N (upd H x (.ins C dx (fs ++ [(f, y)])))) : ∃ a C dx fs, V.ref x = .ref a ∧ H a = some (.ins C dx fs) ∧ Cls K C ∧ NoAttr K C f ∧ fs.length < 1000 ∧ N (upd H a (.ins C dx (putF f y fs))) :=
  ⟨x, C, dx, fs, rfl, hx, cl, na, by omega, by rw [putF_new hf]; exact q⟩
end Ice

set_option Elab.async false
set_option linter.all false
set_option maxRecDepth 100000
set_option maxHeartbeats 4000000
set_option autoImplicit true
/-! An own error as a value: made, held, looked at by isinstance. -/
namespace Ice
open PySem PySem.Spec PyProof.Rows L2
section
variable {X : Cx} {e : Expr} {es : List Expr} {ta : TA} {p pos : Pos}
def tOex (C : Addr) (sp : Sp) (dvs : List V) (ta : TA) : TE := fun σ H Q => ta σ H fun vs H1 => vs.length ≤ 1000 ∧ ∀ a, H1 a = none → sp (.ref a :: (vs ++ dvs)) (upd H1 a (exo a C none)) (fun v H2 => v = .non ∧ Q (.ref a) H2) (fun _ _ _ => False)
theorem i_oex {C : Addr} {sp : Sp} {dvs : List V} {ta : TA} {σ : L2.St} {H : Hp} {Q : VK} (h : ta σ H fun vs H1 => vs.length ≤ 1000 ∧ ∀ a, H1 a = none → sp (.ref a :: (vs ++ dvs)) (upd H1 a (exo a C none)) (fun v H2 => v = .non ∧ Q (.ref a) H2) (fun _ _ _ => False)) : tOex C sp dvs ta σ H Q := h
theorem pe_oex {CX : CXT} {x : Str} {C fI : Addr} {k : Nat} {fd : FuncData} {ps : List Str} {sp : Sp} {ds : List Value} {dvs : List V} (T : OexC X.K C) (iC : PySem.W.findIn X.K (.ref C) "__init__" = some (some (.ref fI))) (tI : PySem.W.typeIn X.K (.ref fI) = some (.type "function"))
    (F1 : FnOk X.prog X.w X.K X.mg X.base CX k fI fd ps sp) (hr : Room (k + 1) X.A) (hb : Binds X.K fd ps ds) (hd : Vals dvs ds) (hx : Passes CX X (fun _ _ _ => False)) (hg : Gl X x) (hm : X.mg x = some (.ref C)) (ha : PA X (e :: es) ta)
    (hdb : (x == ("__debug__" : Str)) = false := by decide) (he : starEach (e :: es) X.env = (false, eval e X.env) :: starEach es X.env := by rfl) (hpl : (backTo pos (starEach es X.env)).any (·.1) = false := by rfl) :
    PE X (.Call (.Name x p) (e :: es) [] pos) (tOex C sp dvs ta) := by
  constructor
  intro pins s σ H Q I h
  obtain ⟨nm, q, N, bs, bm, sn, sub, ab, col, dd, k0, k1, k2, k3, k5, hC, hbm⟩ := T.cls
  refine wpAny_Call_Name_kw (ld_glob I hg hm ?_ hdb)
  refine PySem.W.callWith_K (h₀ := X.base) I.ok.mod.kin T.kC (thn (ha.run pos pins s σ H _ I h) fun us s1 ⟨vs, H1, I1, r1, hz, q1⟩ => ⟨I1.kIn, ?_⟩) he hpl
  show wpAny _ _ (call (.ref C) us) _ _ _
  obtain ⟨hp, g, dr, tk, os⟩ := s1
  have hsz : hp.objs.size ≤ hp.objs.size + 1 := Nat.le_succ _
  have hn : H1 (hp.objs.size + 1) = none := I1.hok.fresh hsz
  have hq := q1 (hp.objs.size + 1) hn
  have kk : ∀ b o, hp.get? b = some o → ((hp.push (PySem.W.kdv_tup us)).push (PySem.HandSPX.excO C hp.objs.size)).get? b = some o := fun b o e => Heap.get?_push_of_some _ (Heap.get?_push_of_some _ e)
  have hget : ((hp.push (PySem.W.kdv_tup us)).push (PySem.HandSPX.excO C hp.objs.size)).get? (hp.objs.size + 1) = some (PySem.HandSPX.excO C hp.objs.size) := by heap_get
  have I2 : Inv X pins σ (upd H1 (hp.objs.size + 1) (exo (hp.objs.size + 1) C none)) ⟨(hp.push (PySem.W.kdv_tup us)).push (PySem.HandSPX.excO C hp.objs.size), g, dr, tk, os⟩ :=
    I1.laid (t' := tk) (a := hp.objs.size + 1) (o := exo (hp.objs.size + 1) C none) (h' := (hp.push (PySem.W.kdv_tup us)).push (PySem.HandSPX.excO C hp.objs.size)) kk hsz (exo_ok hget)
  have r2 : Vals (V.ref (hp.objs.size + 1) :: (vs ++ dvs)) (Value.ref (hp.objs.size + 1) :: (us ++ ds)) := .cons rfl (r1.append hd)
  have hl : (Value.ref (hp.objs.size + 1) :: us ++ ds).length = ps.length := by
    have e := r2.length
    rw [F1.len _ _ _ _ hq] at e
    exact e.symm
  have hus : us.length ≤ sizeLine := by
    rw [← Paired.length r1, sizeLine_eq]
    omega
  refine wpAny_call (PySem.HandSPX.call_own F.excBase_ValueError (fun Y => PySem.HandSPX.refsVE_contains Y bm hbm) (I1.kIn _ _ hC) (PySem.W.looks_findIn I1.kIn iC) (fun self => PySem.W.bind_fn I1.kIn self tI) hus
    (codeAny_mono (F1.run _ X.stack _ _ ⟨Value.ref (hp.objs.size + 1) :: us, []⟩ (Value.ref (hp.objs.size + 1) :: (us ++ ds)) _ _ (fun _ _ _ => False) (hr.make C us []) (I2.env0.make C us [])
      (hb _ (Value.ref (hp.objs.size + 1) :: us) I2.kIn hl) r2 hq) fun r s' hq' => ?_))
  cases r with
  | error er => exact hx pins σ _ _ er s' I2 hq'
  | ok fl =>
    cases fl with
    | ret u =>
      obtain ⟨v, H', I3, rv, ev, q3⟩ := I2.after hq'
      subst ev
      exact ⟨rv, V.ref (hp.objs.size + 1), H', I3, rfl, q3⟩
    | next => exact False.elim hq'
    | brk => exact False.elim hq'
    | cont => exact False.elim hq'
/-- what the written part says of an own error's class, for isinstance -/
structure ExcI (K : PySem.W.Frag) (D : Addr) : Prop where
  x : XfC K D
  ca : PySem.W.findIn K (.ref D) "__class__" = some (some (.builtin "object.__class__"))
  cn : PySem.W.specialIn K (.builtin "object.__class__") "__get__" = some (some (.builtin "getset_descriptor.__get__"))
  ct : PySem.W.takesIn K (.builtin "object.__class__") = some true
  mo : PySem.W.mroIn K D (.type "object") = some true
/-- isinstance of a thing of any kind, an own error of the class at D among them -/
def rIsiO (K : PySem.W.Frag) (D : Addr) : List V → Hp → VK → Prop := fun xs H Q => rIsi K xs H Q ∨ ∃ (a d : Addr) (fs : List (Str × V)) (c : V) (u : Value) (b : Bool), xs = [.ref a, c] ∧ ClsV c u ∧ H a = some (exo a D (some d)) ∧ H d = some (exd d fs) ∧ PySem.W.kitOne K (.ref D) u = some b ∧ Q (.bl b) H
theorem c_isiO {D : Addr} (E : ExcI X.K D) : CallR X (.builtin "isinstance") (rIsiO X.K D) := by
  intro pins s σ H xs us Q I r h
  rcases h with h | ⟨a, d, fs, c, u, b, rfl, k, ha, hd, e, q⟩
  · exact call_isi pins s σ H xs us Q I r h
  obtain ⟨u1, u2, rfl, r1, r2⟩ := vals2 r
  have e2 := k.eq r2
  subst e2
  cases (show u1 = Value.ref a from r1)
  obtain ⟨t1, he⟩ := exo_at I.hok ha
  obtain ⟨mA, ⟨o, es, ep, ho, _⟩, _⟩ := exd_at I.hok hd
  refine PySem.W.kia_one (PySem.W.kitx_exc (od := some o) ?_ E.x.ga E.x.gg E.x.exC E.ca E.cn E.ct E.mo) I.kIn ⟨he, rfl, rfl, ho⟩ e (fun z => nomatch z) fun tk => ⟨.bl b, H, I.tok tk, rfl, q⟩
  have z := E.x.hdC
  unfold PySem.W.hasDictIn at z
  cases hc : PySem.W.clsIn X.K D with
  | none => rw [hc] at z; cases z
  | some c => rfl
end
end Ice

set_option Elab.async false
set_option linter.all false
set_option maxRecDepth 100000
set_option maxHeartbeats 4000000
set_option autoImplicit false
/-! repr of rows of plain things; a thing compared with a text. -/
namespace Ice
open PySem PySem.Spec PyProof.Rows L2
/-- a plain thing whose repr is short -/
inductive Ps : V → PyData → Prop
  | non : Ps .non .none
  | bl (b : Bool) : Ps (.bl b) (.bool b)
  | int {i : Int} : i.natAbs < 10 ^ 60 → Ps (.int i) (.int i)
  | str {x : Str} : x.length ≤ 64 → (∀ c ∈ x.cps.toList, c < 128) → Ps (.str x) (.str x)
inductive PsAll : List V → List PyData → Prop
  | nil : PsAll [] []
  | cons {v : V} {vs : List V} {d : PyData} {ds : List PyData} : Ps v d → PsAll vs ds → PsAll (v :: vs) (d :: ds)
section
variable {K : PySem.W.Frag} {H : Hp}
theorem Ps.dp {v : V} {d : PyData} (h : Ps v d) : Dp K H v d := by
  cases h with
  | non => exact .non
  | bl b => exact .bl b
  | int _ => exact .int _
  | str _ _ => exact .str _
theorem Ps.show {v : V} {d : PyData} (h : Ps v d) : d.showable = true ∧ d.depth = 0 ∧ d.shown.length ≤ 650 := by
  cases h with
  | non => exact ⟨rfl, rfl, by decide +kernel⟩
  | bl b => exact ⟨rfl, rfl, by cases b <;> decide +kernel⟩
  | @int i h =>
    refine ⟨decide_eq_true (Nat.lt_trans (PySem.Flt.log2_lt_of (k := 200) (by decide) (Nat.lt_trans h (by decide))) (by decide)), rfl, ?_⟩
    have := int_text_length_le10 (a := i) (k := 60) (by decide) h
    show (Str.ofString (toString i)).length ≤ _
    rw [PySem.ofString_length]; omega
  | @str x h1 h2 =>
    have b := PySem.StrLaws.reprText_len x (fun c h => Nat.lt_trans (h2 c h) (by decide))
    refine ⟨rfl, rfl, ?_⟩
    show (reprText x).length ≤ _
    omega
theorem PsAll.dp : ∀ {vs : List V} {ds : List PyData}, PsAll vs ds → DpAll K H vs ds
  | _, _, .nil => .nil
  | _, _, .cons h t => .cons h.dp t.dp
theorem PsAll.show {vs : List V} {ds : List PyData} (h : PsAll vs ds) : PyData.showableAll ds = true ∧ PyData.depthAll ds = 0 ∧ ((PyData.shownAll ds).map (·.length)).sum ≤ 650 * ds.length ∧ (PyData.shownAll ds).length = ds.length := by
  induction h with
  | nil => exact ⟨rfl, rfl, by decide +kernel, rfl⟩
  | @cons v vs d ds h t ih =>
    obtain ⟨a1, a2, a3, a4⟩ := ih
    obtain ⟨b1, b2, b3⟩ := h.show
    refine ⟨?_, ?_, ?_, ?_⟩
    · show (d.showable && PyData.showableAll ds) = true
      rw [b1, a1]; rfl
    · show max d.depth (PyData.depthAll ds) = 0
      rw [b2, a2]; rfl
    · show ((d.shown :: PyData.shownAll ds).map (·.length)).sum ≤ _
      rw [List.map_cons, List.sum_cons, List.length_cons]
      omega
    · show (d.shown :: PyData.shownAll ds).length = _
      rw [List.length_cons, a4, List.length_cons]
theorem PsAll.len {vs : List V} {ds : List PyData} (h : PsAll vs ds) : ds.length = vs.length := by
  induction h with
  | nil => rfl
  | cons _ _ ih => rw [List.length_cons, List.length_cons, ih]
theorem Ps.rp {v : V} {d : PyData} (h : Ps v d) : Rp K H v d := by
  obtain ⟨b1, b2, b3⟩ := h.show
  exact ⟨.inl h.dp, b1, by omega, sz_of (by omega)⟩
theorem Rp.tupP {p : Addr} {vs : List V} {ds : List PyData} (hp : H p = some (.tup vs)) (h : PsAll vs ds) (hl : vs.length ≤ 20) : Rp K H (.ref p) (.tuple ds) := by
  obtain ⟨a1, a2, a3, a4⟩ := h.show
  have hl2 := h.len
  have b := PySem.tupleText_len_le (PyData.shownAll ds)
  refine ⟨.inl (.tup (SqT.tup hp) h.dp), a1, ?_, ?_⟩
  · show PyData.depthAll ds + 1 ≤ _
    omega
  · show (PySem.tupleText (PyData.shownAll ds)).length ≤ _
    exact sz_of (by omega)
theorem Rp.lstP {p : Addr} {vs : List V} {ds : List PyData} (hp : H p = some (.lst vs)) (h : PsAll vs ds) (hl : vs.length ≤ 20) : Rp K H (.ref p) (.list ds) := by
  obtain ⟨a1, a2, a3, a4⟩ := h.show
  have hl2 := h.len
  have b := PySem.listText_len_le (PyData.shownAll ds)
  refine ⟨.inl (.lst (SqL.lst hp) h.dp), a1, ?_, ?_⟩
  · show PyData.depthAll ds + 1 ≤ _
    omega
  · show (PySem.listText (PyData.shownAll ds)).length ≤ _
    exact sz_of (by omega)
theorem Rp.dct0 {p : Addr} (hp : H p = some (.dK [])) : Rp K H (.ref p) (.dict []) :=
  ⟨.inr (.dct (ds := []) hp .nil), rfl, by decide, by decide +kernel⟩
end
section
variable {P : Program} {w : World} {A : Around} {E : Value → Shared → Prop} {s : Shared}
theorem str_declines_dict (b : Str) (u : Tok) (l : Addr) (c : Value) (es : Array DictEntry) (n : Nat) (dd : Option Addr) (sl : Array (Option Value)) :
    Meets (Builtin.«str.__eq__» ⟨[.str b u, .ref l], []⟩) (fun _ R s => s.heap.get? l = some { cls := c, dict := dd, data := .dict es n, slots := sl } ∧ R (.ok (.ret .notImplemented)) s) :=
  .of_wp fun prog w A R s h => by obtain ⟨hp, g, d, tk, os⟩ := s; obtain ⟨hl, h⟩ := h; wp_walk using PySem.AutoSeq1.wpAny_loadPart' hl, wpAny_load hl; exact ⟨_, rfl, h⟩
theorem dict_eq_str {l : Addr} {b : Str} {u : Tok} {o : Obj} {es : Array DictEntry} {n : Nat} (ho : s.heap.get? l = some o) (hc : o.cls = .type "dict") (hd : o.data = .dict es n) (hu : A.units < cLine) {Q : Value → Shared → Prop} (h : Q (.bool false) s) :
    wpAny (model P w) A (compareOp .Eq (.ref l) (.str b u)) Q E s := by
  have ht : s.TypeIs (.ref l) "dict" := ⟨o, ho, hc⟩
  refine PySem.SeqAt.rc_eq_decline_or (k := false) ht (typeIs_str s b u) (by decide) PySem.F.sub_str_dict PySem.F.slot_dict_eq PySem.F.slot_str_eq_refl ?_ ?_ ?_ (.inr hu) h
  · intro Q' hq
    refine wpAny_call_entry PySem.F.slot_dict_eq ht PySem.F.entry_dict_eq ?_ (PySem.F.args_dict_eq_2 _ _)
    show wpAny _ _ (Builtin.Dict.dictSlotArgs "__eq__" ⟨[.ref l, .str b u], []⟩ >>= _) _ _ s
    refine wpAny_bind ?_
    unfold Builtin.Dict.dictSlotArgs
    refine wpAny_bind (wpAny_notOrdered_dict ht ?_)
    show wpAny _ _ (pure (Value.ref l, Value.str b u)) _ _ s
    refine wpAny_pure ?_
    refine wpAny_bind (wpAny_isInstance (T := "str") (typeIs_str s b u) PySem.F.sub_str_dict ?_)
    refine wpAny_bind (wpAny_rule ?_)
    exact wpAny_pure ⟨_, rfl, hq⟩
  · intro Q' hq
    obtain ⟨cls, dd, data, sl⟩ := o
    simp only at hc hd
    subst hc hd
    exact call_meets PySem.F.slot_str_eq_refl (typeIs_str s b u) PySem.F.entry_str_eq (PySem.F.args_str_eq_2 _ _) (str_declines_dict b u l (.type "dict") es n dd sl) ⟨ho, hq⟩
  · intro Q' hq
    exact wpAny_of_eq (rfl : isSame (.ref l) (.str b u) = pure false) hq
end
theorem strOk_asc {x : Str} (h : ∀ c ∈ x.cps.toList, c < 128) : PySem.PyData.strOk x = true := by
  show x.cps.all (· < 0x110000) = true
  rw [Array.all_eq_true']
  intro c hc
  have := h c (by simpa using hc)
  simp
  omega
theorem shaped_str {x : Str} (h : ∀ c ∈ x.cps.toList, c < 128) : SeqAt.shaped (.str x) = true := by
  show (PySem.PyData.strOk x && decide (0 ≤ 64)) = true
  rw [strOk_asc h]; rfl
theorem Ps.lay {v : V} {d : PyData} (h : Ps v d) : d.canLay0 = true := by
  cases h with
  | str h1 h2 => exact strOk_asc h2
  | _ => rfl
theorem PsAll.lay {vs : List V} {ds : List PyData} (h : PsAll vs ds) : PyData.canLayAll0 ds = true := by
  induction h with
  | nil => rfl
  | @cons v vs d ds h t ih =>
    show (d.canLay0 && PyData.canLayAll0 ds) = true
    rw [h.lay, ih]; rfl
theorem Ps.shaped {v : V} {d : PyData} (h : Ps v d) : SeqAt.shaped d = true := by
  show (d.canLay0 && decide (d.depth ≤ 64)) = true
  rw [h.lay, h.show.2.1]; rfl
theorem PsAll.shapedL {vs : List V} {ds : List PyData} (h : PsAll vs ds) : SeqAt.shaped (.list ds) = true := by
  show (PyData.canLayAll0 ds && decide (PyData.depthAll ds + 1 ≤ 64)) = true
  rw [h.lay, h.show.2.1]; rfl
theorem PsAll.shapedT {vs : List V} {ds : List PyData} (h : PsAll vs ds) : SeqAt.shaped (.tuple ds) = true := by
  show (PyData.canLayAll0 ds && decide (PyData.depthAll ds + 1 ≤ 64)) = true
  rw [h.lay, h.show.2.1]; rfl
/-- a thing that may be compared with a text -/
def Tq (K : PySem.W.Frag) (H : Hp) (v : V) : Prop := (∃ d, Dp K H v d ∧ SeqAt.shaped d = true) ∨ ∃ a kvs, v = .ref a ∧ H a = some (.dK kvs)
def rEqS (K : PySem.W.Frag) : R2 := fun x y H Q => ∃ s, y = .str s ∧ (∀ c ∈ s.cps.toList, c < 128) ∧ Tq K H x ∧ Q (.bl (decide (x = .str s))) H
theorem eqv_str {K : PySem.W.Frag} {H : Hp} {v : V} {d : PyData} {s : Str} (h : Dp K H v d) : PyData.eqv d (.str s) = decide (v = .str s) := by
  cases h with
  | str x =>
    show (x == s) = _
    by_cases e : x = s
    · subst e; simp
    · rw [decide_eq_false (fun z => e (by injection z))]
      exact beq_eq_false_iff_ne.mpr e
  | non => rfl
  | bl b => cases b <;> rfl
  | int i => rfl
  | lst _ _ => rfl
  | tup _ _ => rfl
section
variable {K : PySem.W.Frag} {H : Hp}
theorem Tq.ps {v : V} {d : PyData} (h : Ps v d) : Tq K H v := .inl ⟨d, h.dp, h.shaped⟩
theorem Tq.lst {p : Addr} {vs : List V} {ds : List PyData} (hp : H p = some (.lst vs)) (h : PsAll vs ds) : Tq K H (.ref p) := .inl ⟨_, .lst (SqL.lst hp) h.dp, h.shapedL⟩
theorem Tq.tup {p : Addr} {vs : List V} {ds : List PyData} (hp : H p = some (.tup vs)) (h : PsAll vs ds) : Tq K H (.ref p) := .inl ⟨_, .tup (SqT.tup hp) h.dp, h.shapedT⟩
theorem Tq.dct {p : Addr} {kvs : List (Key × V)} (hp : H p = some (.dK kvs)) : Tq K H (.ref p) := .inr ⟨_, _, rfl, hp⟩
theorem i_eqS {x : V} {z : Str} {Q : VK} (hz : ∀ c ∈ z.cps.toList, c < 128) (h : Tq K H x) (q : Q (.bl (decide (x = .str z))) H) : rEqS K x (.str z) H Q := ⟨z, rfl, hz, h, q⟩
end
section
variable {X : Cx}
theorem o_eqS (hu : X.A.units + 110 < cLine) : OpR X (compareOp .Eq) (rEqS X.K) := by
  intro pins s σ H x y v u Q I rx ry h
  obtain ⟨z, rfl, hz, hx, q⟩ := h
  rcases hx with ⟨d, hd, sd⟩ | ⟨a, kvs, rfl, ha⟩
  · refine op_eqD (by omega) pins s σ H x _ v u Q I rx ry ⟨d, .str z, hd, .str z, sd, shaped_str hz, ?_⟩
    rw [eqv_str hd]
    exact q
  · cases (show v = .ref a from rx)
    obtain ⟨t, rfl⟩ := (show ∃ t, u = .str z t from ry)
    obtain ⟨_, hn, us, rv, o, es, ep, e1, e2, e3, _, e4, _⟩ := I.hok a _ ha
    exact dict_eq_str e1 e2.1 e3 (by omega) ⟨.bl false, H, I, rfl, by rw [decide_eq_false (by intro z; cases z)] at q; exact q⟩
end
section
variable {K : PySem.W.Frag} {σ : L2.St} {H : Hp} {Q : VK}
theorem i_fld {ta : TE} {f : Str} (h : ta σ H fun x H1 => ∃ a C dx fs v, x = .ref a ∧ H1 a = some (.ins C dx fs) ∧ Cls K C ∧ NoAttr K C f ∧ fs.lookup f = some v ∧ Q v H1) : tFld K ta f σ H Q := h
theorem i_fld1 {x C dx : Addr} {fs : List (Str × V)} {f : Str} {v : V} (hx : H x = some (.ins C dx fs)) (cl : Cls K C) (na : NoAttr K C f) {B : V → Prop} (hl : fs.lookup f = some v) (q : B v) :
    ∃ a C dx fs v, V.ref x = .ref a ∧ H a = some (.ins C dx fs) ∧ Cls K C ∧ NoAttr K C f ∧ fs.lookup f = some v ∧ B v := ⟨x, C, dx, fs, v, rfl, hx, cl, na, hl, q⟩
end
theorem un110 {k : Nat} {A : Around} (hr : Room k A) : A.units + 110 < cLine := by have := hr.un; omega
theorem c_reprS {X : Cx} {a : Addr} {pn : List (Addr × Obj)} (hgd : X.A.guards = some []) (hu : X.A.units + 110 < cLine) : CallR (X.suite a pn) (.builtin "repr") (rRepr X.K) := c_repr (X := X.suite a pn) hgd hu
section
variable {K : PySem.W.Frag} {σ : L2.St} {H : Hp} {Q : VK}
theorem i_methE {C : Addr} {m : Str} {sp : Sp} {dvs : List V} {E : L2.St → XK} {ta : TE} {t : TA} (h : ta σ H fun x H1 => ∃ a dx fs, x = .ref a ∧ H1 a = some (.ins C dx fs) ∧ fs.lookup m = none ∧ t σ H1 fun vs H2 => sp (x :: (vs ++ dvs)) H2 Q (E σ)) : tMethE C m sp dvs E ta t σ H Q := h
theorem i_meth {C : Addr} {m : Str} {sp : Sp} {dvs : List V} {E : XK} {ta : TE} {t : TA} (h : ta σ H fun x H1 => ∃ a dx fs, x = .ref a ∧ H1 a = some (.ins C dx fs) ∧ fs.lookup m = none ∧ t σ H1 fun vs H2 => sp (x :: (vs ++ dvs)) H2 Q E) : tMeth C m sp dvs E ta t σ H Q := h
theorem i_make {C : Addr} {sp : Sp} {dvs : List V} {E : XK} {t : TA} (h : t σ H fun vs H1 => ∀ x dx, H1 x = none → H1 dx = none → dx ≠ x → sp (.ref x :: (vs ++ dvs)) (upd (upd H1 dx (.own x)) x (.ins C dx [])) (fun v H2 => v = .non ∧ Q (.ref x) H2) E) : tMake C sp dvs E t σ H Q := h
theorem i_obj {x C dx : Addr} {fs : List (Str × V)} {m : Str} {B : Prop} (hx : H x = some (.ins C dx fs)) (hl : fs.lookup m = none) (q : B) : ∃ a dx fs, V.ref x = .ref a ∧ H a = some (.ins C dx fs) ∧ fs.lookup m = none ∧ B := ⟨x, dx, fs, rfl, hx, hl, q⟩
end
section
variable {K : PySem.W.Frag} {σ : L2.St} {H : Hp} {D : Ends}
theorem i_runS {c : Value} {i : Nat} {ts : Addr → Value → Option Addr → TS} {a : Addr} {cls : Value} {d : Option Addr} (h : ts a cls d (goneE i D) (σ.set i (some (.ref a))) H) : (Hd.mk c (some i) ts).run a cls d D σ H := h
theorem i_runN {c : Value} {ts : Addr → Value → Option Addr → TS} {a : Addr} {cls : Value} {d : Option Addr} (h : ts a cls d D σ H) : (Hd.mk c none ts).run a cls d D σ H := h
theorem i_xf1 {a C dd : Addr} {fs : List (Str × V)} {f : Str} {v : V} {B : V → Prop} (hd : H dd = some (.xd fs)) (hl : fs.lookup f = some v) (q : B v) :
    V.ref a = .ref a ∧ Value.ref C = .ref C ∧ ∃ (d' : Addr) (fs : List (Str × V)) (v : V), some dd = some d' ∧ H d' = some (.xd fs) ∧ fs.lookup f = some v ∧ B v := ⟨rfl, rfl, dd, fs, v, rfl, hd, hl, q⟩
end
def rIntB : List V → Hp → VK → Prop := fun xs H Q => ∃ k, xs = [.bl k] ∧ Q (.int (if k then 1 else 0)) H
theorem c_intB {X : Cx} : CallR X (.type "int") rIntB := fun pins s σ H xs us Q I r h => call_int1 pins s σ H xs us Q I r (.inr h)
theorem i_intB {k : Bool} {H : Hp} {Q : VK} (q : Q (.int (if k then 1 else 0)) H) : rIntB [.bl k] H Q := ⟨k, rfl, q⟩
theorem i_glst {K : PySem.W.Frag} {n : Nat} {t : TGs} {a : Addr} {xs : List V} {σ : L2.St} {H : Hp} {Q : L2.St → Hp → Prop} (hS : SqL K H a xs) (hl : xs.length = n) (q : t xs σ H Q) : gLst K n t (.ref a) σ H Q := ⟨a, xs, rfl, hS, hl, q⟩
end Ice

set_option Elab.async false
set_option linter.all false
set_option maxRecDepth 100000
set_option maxHeartbeats 4000000
set_option autoImplicit false
/-! Base.__init__(self, ..) of an own class, where Base is an own class with an own __init__. -/
namespace Ice
open PySem PySem.Spec PyProof.Rows L2
section
variable {X : Cx} {X0 : CXT} {k : Nat} {f B : Addr} {fd : FuncData} {ps : List Str} {sp : Sp} {dvs : List V} {ds : List Value} {E : L2.St → XK} {x : Str} {p1 p2 pos : Pos} {e : Expr} {es : List Expr} {t : TA}
/-- what is known of a class whose __init__ is read of itself -/
structure Kin (K : PySem.W.Frag) (B f : Addr) : Prop where
  sp : PySem.W.specialIn K (.ref B) "__getattribute__" = some (some (.builtin "type.__getattribute__"))
  ty : PySem.W.typeIn K (.ref B) = some (.type "type")
  rd : PySem.W.readsIn K B (.type "type") = true
  fc : PySem.W.findCls K (.ref B) (.type "type") "__init__" = some (.val (.ref f))
  kp : PySem.W.keepIn K (.ref f) = true
theorem g_kinitE {pl : Sem Bool} (kin : Kin X.K B f) (F : FnG X.prog X.w X.K X.mg X.base X0 k f fd ps sp) (hr : Room k X.A) (hgd : X.A.guards = some []) (hg : Gl X x) (hm : X.mg x = some (.ref B)) (hb : Binds X.K fd ps ds) (hd : Vals dvs ds)
    (hx : ∀ σ, PassesAt X0 X σ (E σ)) (ha : PA X (e :: es) t) (hdb : (x == ("__debug__" : Str)) = false := by decide)
    (hc : eval (.Call (.Attribute (.Name x p1) "__init__" p2) (e :: es) [] pos) X.env =
      (do let ov ← eval (.Name x p1) X.env; standAt p2.atName; let (f, first) ← holding [ov] (getMethod ov "__init__" pl); callWith pos f first (backTo pos (starEach (e :: es) X.env)) (backToKw pos (keywordEach [] X.env))) := by rfl)
    (he : starEach (e :: es) X.env = (false, eval e X.env) :: starEach es X.env := by rfl) (hpl : (backTo pos (starEach es X.env)).any (·.1) = false := by rfl) :
    PE X (.Call (.Attribute (.Name x p1) "__init__" p2) (e :: es) [] pos) (tCallE sp dvs E t) := by
  constructor
  intro pins s σ H Q I h
  refine PySem.W.methodCall_KW (ld_glob I hg hm ?_ hdb) hc
  obtain ⟨m, fr⟩ := I.fr
  refine PySem.W.method_of_cls fr I.ok.mod.kin kin.sp (PySem.W.cls_val fr I.ok.mod.kin kin.ty kin.rd kin.fc (by rfl) ?_)
  show wpAny _ _ (callWith pos (Value.ref f) [] (backTo pos (starEach (e :: es) X.env)) []) _ _ _
  refine PySem.W.callWith_K (h₀ := X.base) I.ok.mod.kin kin.kp ?_ he hpl
  exact thn (ha.run pos pins _ σ H _ (I.tok _) h) (fun us s1 ⟨vs, H1, I1, r, q⟩ => ⟨I1.kIn, run_ge F hr hgd hb hd (hx σ) I1 r q⟩)
end
end Ice

set_option Elab.async false
set_option linter.all false
set_option maxRecDepth 100000
set_option maxHeartbeats 4000000
set_option autoImplicit false
/-! things that equal themselves; one expression read in two ways. -/
namespace Ice
open PySem PySem.Spec PyProof.Rows L2 SeqAt
/-- one reading or another -/
def tAlt (t1 t2 : TE) : TE := fun σ H Q => t1 σ H Q ∨ t2 σ H Q
theorem pe_alt {X : Cx} {e : Expr} {t1 t2 : TE} (h1 : PE X e t1) (h2 : PE X e t2) : PE X e (tAlt t1 t2) :=
  ⟨fun pins s σ H Q I h => h.elim (h1.run pins s σ H Q I) (h2.run pins s σ H Q I)⟩
theorem i_altL {t1 t2 : TE} {σ : L2.St} {H : Hp} {Q : VK} (h : t1 σ H Q) : tAlt t1 t2 σ H Q := .inl h
theorem i_altR {t1 t2 : TE} {σ : L2.St} {H : Hp} {Q : VK} (h : t2 σ H Q) : tAlt t1 t2 σ H Q := .inr h
theorem i_aug {i : Nat} {te : TE} {ti : TIp} {D : Ends} {σ : L2.St} {H : Hp} {x : V} (hx : σ[i]? = some (some x)) (h : te σ H fun y H1 => ti x y H1 fun z H2 => D.nx (σ.set i (some z)) H2) : tAug i te ti D σ H := ⟨x, hx, h⟩
theorem i_ipI {f : Int → Int → Int} {i j : Int} {H : Hp} {Q : VK} (q : Q (.int (f i j)) H) : ipI f (.int i) (.int j) H Q := ⟨i, j, rfl, rfl, q⟩
theorem ps_alt {X : Cx} {st : Stmt} {t1 t2 : TS} (h1 : PS X st t1) (h2 : PS X st t2) : PS X st (fun D σ H => t1 D σ H ∨ t2 D σ H) :=
  ⟨fun pins s σ H D I h => h.elim (h1.run pins s σ H D I) (h2.run pins s σ H D I)⟩
/-- rules within a comprehension: their readings may not name its frame -/
theorem pe_fldB {X : Cx} {s : Shared} {H : Hp} {scope : Scope} {env : Env} {fp : List Addr} {e : Expr} {te : TE} {f : Str} {pos : Pos} (he : PE (X.blk s H scope env fp) e te) (hb : attributeBase e f env (eval e env) = eval e env := by rfl) : PE (X.blk s H scope env fp) (.Attribute e f pos) (tFld X.K te f) := pe_fld he hb
/-- an item that is the same on both sides -/
def It1 (v : V) : Prop := (∃ b, v = .ref b) ∨ ∃ d, Ps v d
theorem eqAt_item {A : Around} {s : Shared} {v : V} {u u' : Value} (h : It1 v) (r : RelV v u) (r' : RelV v u') : EqAt A s u u' true := by
  rcases h with ⟨b, rfl⟩ | ⟨d, h⟩
  · cases (show u = .ref b from r)
    cases (show u' = .ref b from r')
    exact EqAt.same _
  · cases h with
    | non =>
      cases (show u = .none from r)
      cases (show u' = .none from r')
      exact EqAt.same _
    | bl b =>
      cases (show u = .bool b from r)
      cases (show u' = .bool b from r')
      exact EqAt.same _
    | @int i _ =>
      obtain ⟨t, rfl⟩ := (show ∃ t, u = .int i t from r)
      obtain ⟨t', rfl⟩ := (show ∃ t, u' = .int i t from r')
      have := (MeetsSeq.EqGives.int i i t t').at A s
      rwa [show (i == i) = true by simp] at this
    | @str x _ _ =>
      obtain ⟨t, rfl⟩ := (show ∃ t, u = .str x t from r)
      obtain ⟨t', rfl⟩ := (show ∃ t, u' = .str x t from r')
      have := (SeqRoads2.EqGives.str x x t t').at A s
      rwa [show (x.cps.toList == x.cps.toList) = true by simp] at this
theorem eqAt_items {A : Around} {s : Shared} {vs : List V} {as bs : List Value} (h : ∀ v ∈ vs, It1 v) (ra : Vals vs as) (rb : Vals vs bs) (j : Nat) (h1 : j < as.toArray.size) (h2 : j < bs.toArray.size) : EqAt A s as.toArray[j] bs.toArray[j] true := by
  have l1 : vs.length = as.length := ra.length
  have hj : j < vs.length := by rw [l1]; simpa using h1
  obtain ⟨u, hu, ru⟩ := ra.get (List.getElem?_eq_getElem hj)
  obtain ⟨u2, hu2, ru2⟩ := rb.get (List.getElem?_eq_getElem hj)
  have e1 : as.toArray[j] = u := by
    have : as[j]? = some as.toArray[j] := by simp
    exact Option.some.inj (this.symm.trans hu)
  have e2 : bs.toArray[j] = u2 := by
    have : bs[j]? = some bs.toArray[j] := by simp
    exact Option.some.inj (this.symm.trans hu2)
  rw [e1, e2]
  exact eqAt_item (h _ (List.getElem_mem hj)) ru ru2
theorem all_true (n : Nat) : ((List.range n).all fun _ => true) = true := by simp
/-- two lists of the same items -/
def rEqSm (K : PySem.W.Frag) : R2 := fun x y H Q => ∃ a b vs, x = .ref a ∧ y = .ref b ∧ SqL K H a vs ∧ SqL K H b vs ∧ (∀ v ∈ vs, It1 v) ∧ Q (.bl true) H
def rNeSm (K : PySem.W.Frag) : R2 := fun x y H Q => ∃ a b vs, x = .ref a ∧ y = .ref b ∧ SqL K H a vs ∧ SqL K H b vs ∧ (∀ v ∈ vs, It1 v) ∧ Q (.bl false) H
section
variable {X : Cx}
theorem op_neSm (hu : X.A.units + 64 < cLine) : OpR X (compareOp .NotEq) (rNeSm X.K) := by
  intro pins s σ H x y v u Q I rx ry h
  obtain ⟨a, b, vs, rfl, rfl, ha, hb, hv, q⟩ := h
  cases (show v = .ref a from rx)
  cases (show u = .ref b from ry)
  obtain ⟨as, ra, p1, _⟩ := I.list ha
  obtain ⟨bs, rb, p2, _⟩ := I.list hb
  have hsz : as.toArray.size = bs.toArray.size := by
    have l1 := ra.length; have l2 := rb.length
    simp; omega
  have z := RcNeAt.lists (A := X.A) (e := fun _ => true) p1.isList p2.isList hsz (by omega) (fun j h1 h2 => eqAt_items hv ra rb j h1 h2)
  rw [all_true] at z
  exact z X.prog X.w X.xe _ ⟨.bl false, H, I, rfl, q⟩
end
/-- what equals itself -/
inductive Self (K : PySem.W.Frag) (H : Hp) : V → Prop
  | ps {v : V} {d : PyData} : Ps v d → Self K H v
  | lst {a : Addr} {vs : List V} : SqL K H a vs → (∀ v ∈ vs, It1 v) → Self K H (.ref a)
  | tup {a : Addr} {vs : List V} : SqT K H a vs → (∀ v ∈ vs, It1 v) → Self K H (.ref a)
  | dct {a : Addr} : H a = some (.dK []) → Self K H (.ref a)
  | ins {a C dx : Addr} {fs : List (Str × V)} : H a = some (.ins C dx fs) → PySem.W.mroIn K C (.type "object") = some true → PySem.W.findIn K (.ref C) "__eq__" = some (some (.builtin "object.__eq__")) → Self K H (.ref a)
section
variable {M : Model} {prog : Program} {w : World} {A : Around} {E : Value → Shared → Prop} {s : Shared} {K : PySem.W.Frag} {x C : Addr} {ox : Obj} {od : Option Obj}
theorem rc_self (hu : A.units < cLine) (X : K.In s.heap) (I : PySem.W.InstAt s.heap x ox C od) (hm : PySem.W.mroIn K C (.type "object") = some true) (hs : PySem.W.findIn K (.ref C) "__eq__" = some (some (.builtin "object.__eq__"))) :
    RcAt A s (.ref x) (.ref x) true := fun prog w E Q h => by
  have one : ∀ {E : Value → Shared → Prop}, wpAny (model prog w) A (tryCompare (.ref x) "__eq__" (.ref x)) (fun r s' => r = some (.bool true) ∧ s' = s) E s := by
    intro E
    unfold tryCompare
    refine wpAny_bind (HN.ifBound_objEq X I hs ?_)
    exact wpAny_call (codeAny_call_builtin F.cmp_object.eq.plain F.cmpEntry_eq (PySem.W.check_slot F.cmpKind_eq F.cmpSplit_eq (I.type.andThen (PySem.W.looks_mroIn X hm)) (F.cmpArgs_eq _ _) (PySem.objEq_entry_same (wpAny_pure ⟨rfl, rfl⟩))))
  simp only [richCompare, cmpInfo_Eq, oneThing_ref]
  refine wpAny_holding (wpAny_bind (wpAny_cRoomFor hu ?_))
  refine wpAny_bind (I.type.here ?_)
  refine wpAny_bind (I.type.here ?_)
  rw [if_neg (by simp)]
  refine wpAny_bind (m := tryCompare (.ref x) _ (.ref x)) (wpAny_mono one (fun r s1 z => ?_) fun _ _ e => e)
  obtain ⟨z1, z2⟩ := z
  subst z1
  subst z2
  exact wpAny_pure h
end
/-- x == y where both are one thing, or alike plain ones -/
def rEqSf (K : PySem.W.Frag) : R2 := fun x y H Q => x = y ∧ Self K H x ∧ Q (.bl true) H
section
variable {X : Cx}
theorem op_eqSf (hu : X.A.units + 64 < cLine) : OpR X (compareOp .Eq) (rEqSf X.K) := by
  intro pins s σ H x y v u Q I rx ry h
  obtain ⟨rfl, hs, q⟩ := h
  cases hs with
  | @ps v d h =>
    refine op_eqD hu pins s σ H x x _ _ Q I rx ry ⟨d, d, h.dp, h.dp, h.shaped, h.shaped, ?_⟩
    rw [SeqAt.eqv_refl _ h.lay]
    exact q
  | @lst a vs ha hv =>
    cases (show v = .ref a from rx)
    cases (show u = .ref a from ry)
    obtain ⟨as, ra, p1, _⟩ := I.list ha
    have z := RcAt.lists (A := X.A) (e := fun _ => true) p1.isList p1.isList rfl (by omega) (fun j h1 h2 => eqAt_items hv ra ra j h1 h2)
    rw [all_true] at z
    exact z X.prog X.w X.xe _ ⟨.bl true, H, I, rfl, q⟩
  | @tup a vs ha hv =>
    cases (show v = .ref a from rx)
    cases (show u = .ref a from ry)
    obtain ⟨as, ra, p1, _⟩ := I.tuple ha
    have p2 : s.heap.IsTuple a as.toArray := p1
    have z := RcAt.tuples (A := X.A) (e := fun _ => true) p2 p2 (by omega) (fun j h1 h2 => eqAt_items hv ra ra j h1 h2)
    rw [all_true] at z
    simp only [beq_self_eq_true, Bool.and_self] at z
    exact z X.prog X.w X.xe _ ⟨.bl true, H, I, rfl, q⟩
  | @dct a ha =>
    cases (show v = .ref a from rx)
    cases (show u = .ref a from ry)
    obtain ⟨_, hn, vs, kv, hm⟩ := dk_of I.hok ha
    have : vs = [] := by cases kv; rfl
    subst this
    refine PySem.W.eq_dictsT (e := fun _ => true) hn hn hm hm (n := 0) (fun k v y h => by cases h) (by omega) ?_
    exact ⟨.bl true, H, I, rfl, q⟩
  | @ins a C dx fs ha hm he =>
    cases (show v = .ref a from rx)
    cases (show u = .ref a from ry)
    obtain ⟨mA, O, _⟩ := ins_get I.hok ha
    obtain ⟨od, J, _⟩ := O.look
    exact rc_self (by omega) I.kIn J hm he X.prog X.w X.xe _ ⟨.bl true, H, I, rfl, q⟩
end
end Ice

set_option Elab.async false
set_option linter.all false
set_option maxRecDepth 100000
set_option maxHeartbeats 4000000
set_option autoImplicit false
/-! The ice of a channel: its pieces, by breakings. -/
namespace Ice
open PySem PySem.Spec PyProof.Rows L2
structure IceN where
  first : Int
  growth : Int
  most : Int
  b : Int
structure IceN.ok (N : IceN) : Prop where
  f0 : 0 ≤ N.first
  fm : N.first ≤ N.most
  m6 : N.most ≤ 1000000
  g0 : 0 ≤ N.growth
  g3 : N.growth ≤ 1000
  b0 : 0 ≤ N.b
  b6 : N.b ≤ 1000000
abbrev Brk := List (Int × Int)
def grown (N : IceN) (t h : Int) : Int := if t + N.growth * h < N.most then t + N.growth * h else N.most
/-- one cut more of an hour -/
def addC : Brk → Int → Int → Brk
  | [], h, c => [(h, c)]
  | (k, v) :: r, h, c => if k = h then (k, v + c) :: r else (k, v) :: addC r h c
def cbh (b : Int) (B : Brk) : Brk := B.foldl (fun acc z => addC acc z.1 z.2) [(b, 0)]
abbrev Pcs := List (Int × Int × Int)
def aheadOf (N : IceN) (o : Option (Int × Int)) (h : Int) : Int := match o with
  | none => N.first
  | some (s, b) => grown N b (h - s)
def pcs (N : IceN) : Option (Int × Int) → Brk → Pcs
  | _, [] => []
  | o, (h, c) :: r => (h, aheadOf N o h, if aheadOf N o h - c > 0 then aheadOf N o h - c else 0) :: pcs N (some (h, if aheadOf N o h - c > 0 then aheadOf N o h - c else 0)) r
def lastOr (o : Option (Int × Int)) (P : Pcs) : Option (Int × Int) := match P.getLast? with
  | none => o
  | some z => some (z.1, z.2.2)
theorem pcs_snoc (N : IceN) : ∀ (o : Option (Int × Int)) (C : Brk) (h c : Int), pcs N o (C ++ [(h, c)]) = pcs N o C ++ pcs N (lastOr o (pcs N o C)) [(h, c)]
  | o, [], h, c => rfl
  | o, (k, v) :: r, h, c => by
    show _ :: pcs N _ (r ++ [(h, c)]) = (_ :: pcs N _ r) ++ _
    rw [pcs_snoc N _ r h c, List.cons_append]
    congr 2
    congr 1
    unfold lastOr
    rw [show pcs N o ((k, v) :: r) = (k, aheadOf N o k, if aheadOf N o k - v > 0 then aheadOf N o k - v else 0) :: pcs N (some (k, if aheadOf N o k - v > 0 then aheadOf N o k - v else 0)) r from rfl, List.getLast?_cons]
    cases hl : (pcs N (some (k, if aheadOf N o k - v > 0 then aheadOf N o k - v else 0)) r).getLast? with
    | none => rfl
    | some z => rfl
theorem pcs_len (N : IceN) : ∀ (o : Option (Int × Int)) (C : Brk), (pcs N o C).length = C.length
  | _, [] => rfl
  | _, (_, _) :: r => by show (pcs N _ r).length + 1 = r.length + 1; rw [pcs_len N _ r]
theorem pcs_hours (N : IceN) : ∀ (o : Option (Int × Int)) (C : Brk), (pcs N o C).map (·.1) = C.map (·.1)
  | _, [] => rfl
  | _, (_, _) :: r => by show _ :: (pcs N _ r).map _ = _ :: r.map _; rw [pcs_hours N _ r]
def pieces (N : IceN) (B : Brk) : Pcs := pcs N none (cbh N.b B)
/-- hours that rise -/
def Rise (C : Brk) : Prop := (C.map (·.1)).Pairwise (· < ·)
theorem addC_last {C : Brk} {h c : Int} (r : Rise C) (hl : ∀ z ∈ C, z.1 ≤ h) : (addC C h c).map (·.1) = C.map (·.1) ∨ ((∀ z ∈ C, z.1 < h) ∧ (addC C h c).map (·.1) = C.map (·.1) ++ [h]) := by
  induction C with
  | nil => exact .inr ⟨(fun z hz => by cases hz), rfl⟩
  | cons z r' ih =>
    obtain ⟨k, v⟩ := z
    by_cases e : k = h
    · left
      show ((if k = h then (k, v + c) :: r' else (k, v) :: addC r' h c)).map _ = _
      rw [if_pos e]; rfl
    · have r2 : Rise r' := (List.pairwise_cons.mp r).2
      have hk : k < h := by have := hl (k, v) (by simp); show k < h; have : k ≤ h := this; omega
      have e2 : addC ((k, v) :: r') h c = (k, v) :: addC r' h c := by
        show (if k = h then (k, v + c) :: r' else (k, v) :: addC r' h c) = _
        rw [if_neg e]
      rw [e2]
      rcases ih r2 (fun z hz => hl z (by simp [hz])) with i | ⟨i1, i2⟩
      · left
        show k :: (addC r' h c).map _ = k :: r'.map _
        rw [i]
      · right
        refine ⟨fun z hz => ?_, ?_⟩
        · rcases List.mem_cons.mp hz with rfl | hz
          · exact hk
          · exact i1 z hz
        · show k :: (addC r' h c).map _ = k :: r'.map _ ++ [h]
          rw [i2]; rfl
theorem addC_rise {C : Brk} {h c : Int} (r : Rise C) (hl : ∀ z ∈ C, z.1 ≤ h) : Rise (addC C h c) ∧ ∀ z ∈ addC C h c, z.1 ≤ h := by
  have key : ∀ z ∈ addC C h c, z.1 ∈ (addC C h c).map (·.1) := fun z hz => List.mem_map.mpr ⟨z, hz, rfl⟩
  rcases addC_last (c := c) r hl with e | ⟨e1, e2⟩
  · refine ⟨by unfold Rise; rw [e]; exact r, fun z hz => ?_⟩
    have := key z hz
    rw [e] at this
    obtain ⟨y, hy, e'⟩ := List.mem_map.mp this
    rw [← e']; exact hl y hy
  · refine ⟨?_, fun z hz => ?_⟩
    · unfold Rise
      rw [e2, List.pairwise_append]
      refine ⟨r, by simp, fun a ha b hb => ?_⟩
      have : b = h := by simpa using hb
      rw [this]
      obtain ⟨y, hy, e'⟩ := List.mem_map.mp ha
      rw [← e']; exact e1 y hy
    · have := key z hz
      rw [e2] at this
      rcases List.mem_append.mp this with m | m
      · obtain ⟨y, hy, e'⟩ := List.mem_map.mp m
        rw [← e']; exact hl y hy
      · have : z.1 = h := by simpa using m
        omega
/-- sorted breakings from b on -/
structure BOk (b : Int) (B : Brk) : Prop where
  srt : B.Pairwise (fun x y => x.1 ≤ y.1)
  ge : ∀ z ∈ B, b ≤ z.1
theorem cbh_rise {b : Int} {B : Brk} (o : BOk b B) : Rise (cbh b B) ∧ ∃ r, (cbh b B).map (·.1) = b :: r := by
  have key : ∀ (B acc : Brk), B.Pairwise (fun x y => x.1 ≤ y.1) → (∀ z ∈ B, ∀ y ∈ acc, y.1 ≤ z.1) → Rise acc → (∃ r, acc.map (·.1) = b :: r) → (Rise (B.foldl (fun acc z => addC acc z.1 z.2) acc) ∧ ∃ r, (B.foldl (fun acc z => addC acc z.1 z.2) acc).map (·.1) = b :: r) := by
    intro B
    induction B with
    | nil => intro acc _ _ r e; exact ⟨r, e⟩
    | cons z B ih =>
      intro acc hs hb r e
      rw [List.foldl_cons]
      have hz := hb z (by simp)
      obtain ⟨r1, l1⟩ := addC_rise (c := z.2) r hz
      refine ih _ (List.pairwise_cons.mp hs).2 (fun y hy u hu => ?_) r1 ?_
      · have := (List.pairwise_cons.mp hs).1 y hy
        have := l1 u hu
        omega
      · obtain ⟨q, hq⟩ := e
        rcases addC_last (c := z.2) r hz with a | ⟨_, a⟩
        · exact ⟨q, by rw [a]; exact hq⟩
        · exact ⟨q ++ [z.1], by rw [a, hq]; rfl⟩
  refine key B [(b, 0)] o.srt (fun z hz y hy => ?_) (by simp [Rise]) ⟨[], rfl⟩
  have : y = (b, 0) := by simpa using hy
  rw [this]; exact o.ge z hz
theorem cbh_len_le (b : Int) (B : Brk) : (cbh b B).length ≤ B.length + 1 := by
  have l : ∀ (C : Brk) (h c : Int), (addC C h c).length ≤ C.length + 1 := by
    intro C h c
    induction C with
    | nil => simp [addC]
    | cons z r ih =>
      obtain ⟨k, v⟩ := z
      show (if k = h then (k, v + c) :: r else (k, v) :: addC r h c).length ≤ _
      split
      · simp
      · simp; omega
  have key : ∀ (B acc : Brk), (B.foldl (fun acc z => addC acc z.1 z.2) acc).length ≤ B.length + acc.length := by
    intro B
    induction B with
    | nil => intro acc; simp
    | cons z B ih =>
      intro acc
      rw [List.foldl_cons]
      have := ih (addC acc z.1 z.2)
      have := l acc z.1 z.2
      simp; omega
  exact key B [(b, 0)]
theorem pieces_head {N : IceN} {B : Brk} (o : BOk N.b B) : ∃ c r, cbh N.b B = (N.b, c) :: r := by
  obtain ⟨_, r, e⟩ := cbh_rise o
  match h : cbh N.b B with
  | [] => rw [h] at e; cases e
  | (k, c) :: q =>
    rw [h] at e
    injection e with e1 e2
    have : k = N.b := e1
    subst this
    exact ⟨c, q, rfl⟩
theorem pieces_rise {N : IceN} {B : Brk} (o : BOk N.b B) : ((pieces N B).map (·.1)).Pairwise (· < ·) := by
  unfold pieces
  rw [pcs_hours]
  exact (cbh_rise o).1
theorem pieces_pos {N : IceN} {B : Brk} (o : BOk N.b B) : 0 < (pieces N B).length := by
  obtain ⟨c, r, e⟩ := pieces_head o
  unfold pieces
  rw [pcs_len, e]
  simp
theorem grown_le {N : IceN} {t h : Int} : grown N t h ≤ N.most := by unfold grown; split <;> omega
theorem grown_zero {N : IceN} {t : Int} (h : t ≤ N.most) : grown N t 0 = t := by
  unfold grown
  rw [Int.mul_zero, Int.add_zero]
  split <;> omega
/-- the piece of an hour -/
def AtP (P : Pcs) (h : Int) (i : Nat) : Prop := (∃ z, P[i]? = some z ∧ z.1 ≤ h) ∧ ∀ j z, i < j → P[j]? = some z → h < z.1
theorem AtP.uniq {P : Pcs} {h : Int} {i j : Nat} (a : AtP P h i) (b : AtP P h j) : i = j := by
  obtain ⟨⟨z, hz, lz⟩, a2⟩ := a
  obtain ⟨⟨y, hy, ly⟩, b2⟩ := b
  rcases Nat.lt_trichotomy i j with l | l | l
  · have := a2 j y l hy; omega
  · exact l
  · have := b2 i z l hz; omega
end Ice

set_option Elab.async false
set_option linter.all false
set_option maxRecDepth 100000
set_option maxHeartbeats 4000000
set_option autoImplicit false
/-! readings of dicts, step by step. -/
namespace Ice
open PySem PySem.Spec PyProof.Rows L2
section
variable {σ : L2.St} {H : Hp} {Q : VK} {td ty tx tv : TE} {D : Ends}
theorem i_dget (h : td σ H fun x H1 => ty σ H1 fun y H2 => ∃ a v, x = .ref a ∧ DGet H2 a y (some v) ∧ Q v H2) : tDGet td ty σ H Q := h
theorem i_dget1 (h : td σ H fun x H1 => ∃ a, x = .ref a ∧ IsD H1 a ∧ ty σ H1 fun y H2 => ∃ o, DGet H2 a y o ∧ Q (o.getD .non) H2) : tDGet1 td ty σ H Q := h
theorem i_dget2 (h : td σ H fun x H1 => ∃ a, x = .ref a ∧ IsD H1 a ∧ ty σ H1 fun y H2 => tx σ H2 fun z H3 => ∃ o, DGet H3 a y o ∧ Q (o.getD z) H3) : tDGet2 td ty tx σ H Q := h
theorem i_dput (h : tv σ H fun v H1 => td σ H1 fun x H2 => ty σ H2 fun y H3 => ∃ a H4, x = .ref a ∧ DPut H3 a y v H4 ∧ D.nx σ H4) : sDPut td ty tv D σ H := h
theorem i_lockE {t : TE} (h : ∃ d u, H d = some u ∧ Mut (some u) ∧ ∀ od, t σ (upd H d (.frz od u)) fun v H' => H' d = some (.frz od u) ∧ Q v (upd H' d u)) : tLockE t σ H Q := h
theorem i_keysV {i : Nat} {d : Addr} {o : Obj} {kvs : List (Key × V)} {R : It → Hp → Prop} (h1 : σ[i]? = some (some (.ref d))) (h2 : H d = some (.frz o (.dK kvs))) (q : R (Itk d o kvs) H) : iKeys (tVar i) σ H R := ⟨_, h1, d, o, rfl, .inl ⟨kvs, h2, q⟩⟩
theorem i_din (h : ty σ H fun y H1 => td σ H1 fun x H2 => ∃ a o, x = .ref a ∧ DGet H2 a y o ∧ Q (.bl o.isSome) H2) : tDIn ty td σ H Q := h
theorem isD {a : Addr} {kvs : List (Key × V)} (h : H a = some (.dK kvs)) : IsD H a := .inl ⟨kvs, .inl h⟩
theorem i_isD {a : Addr} {kvs : List (Key × V)} {B : Prop} (h : H a = some (.dK kvs)) (q : B) : ∃ a', V.ref a = .ref a' ∧ IsD H a' ∧ (a' = a → B) := ⟨a, rfl, isD h, fun _ => q⟩
theorem dgetI {a : Addr} {kvs : List (Key × V)} {i : Int} {o : Option V} (h : H a = some (.dK kvs)) (e : valV kvs (Sum.inl i) = o) : DGet H a (.int i) o := by rw [← e]; exact DGet.k (k := Sum.inl i) h
theorem dgetS {a : Addr} {kvs : List (Key × V)} {x : Str} {o : Option V} (h : H a = some (.dK kvs)) (e : valV kvs (Sum.inr x) = o) : DGet H a (.str x) o := by rw [← e]; exact DGet.k (k := Sum.inr x) h
theorem dgetF {a : Addr} {kvs : List (Key × V)} {od : Obj} {i : Int} {o : Option V} (h : H a = some (.frz od (.dK kvs))) (e : valV kvs (Sum.inl i) = o) : DGet H a (.int i) o := by rw [← e]; exact .inl ⟨kvs, Sum.inl i, .inr ⟨_, h⟩, rfl, rfl⟩
theorem mutK {kvs : List (Key × V)} : Mut (some (HO.dK kvs)) := by first | exact True.intro | trivial
end
end Ice

set_option Elab.async false
set_option linter.all false
set_option maxRecDepth 100000
set_option maxHeartbeats 4000000
set_option autoImplicit false
/-! list.remove of a thing of data; pairs of numbers as data. -/
namespace Ice
open PySem PySem.Spec PyProof.Rows L2
section
variable {X : Cx}
def rRemD (K : PySem.W.Frag) : V → List V → Hp → VK → Prop := fun x xs H Q => ∃ (l : Addr) (ys : List V) (y : V) (d : PyData) (ds : List PyData) (j : Nat), x = .ref l ∧ xs = [y] ∧ H l = some (.lst ys) ∧ DpAll K H ys ds ∧ Dp K H y d ∧
  PyData.plainAll ds = true ∧ d.plain = true ∧ min (PyData.depthAll ds) d.depth ≤ 60 ∧ SeqAt.dataPlace ds d = some j ∧ Q .non (upd H l (.lst (ys.eraseIdx j)))
theorem mt_removeD (hu : X.A.units + 65 < cLine) : MtR X "list.remove" (rRemD X.K) := by
  intro pins s σ H x xs v us Q I rx rxs h
  obtain ⟨l, ys, y, d, ds, j, rfl, rfl, hH, ha, hy, pa, pd, dp, hj, q⟩ := h
  cases rx
  obtain ⟨u, rfl, ru⟩ := rxs.one
  obtain ⟨z, its, n, r, hl, e⟩ := I.lstM hH
  obtain ⟨as, r1⟩ := Dp.readsAll I ds _ its ha r
  obtain ⟨bs, r2⟩ := Dp.reads I d y u hy ru
  refine SeqAt.remove_list_data (vs := its.toArray) ⟨_, e, rfl, _, rfl⟩ r1 r2 pa pd (by omega) hj (by rw [List.size_toArray]; omega) ?_
  have rr := r.eraseIdx j
  refine ⟨.non, _, I.lset (its' := its.eraseIdx j) (t' := s.toks) hH e ?_ rr ?_, rfl, q⟩
  · show its.toArray.eraseIdxIfInBounds j = (its.eraseIdx j).toArray
    rw [List.eraseIdxIfInBounds_toArray]
  · have := List.length_eraseIdx_le ys j
    omega
end
def pd2 (z : Int × Int) : PyData := .tuple [.int z.1, .int z.2]
theorem dp2 {K : PySem.W.Frag} {H : Hp} {a : Addr} {z : Int × Int} (h : H a = some (.tup [.int z.1, .int z.2])) : Dp K H (.ref a) (pd2 z) := .tup (SqT.tup h) (.cons (.int _) (.cons (.int _) .nil))
theorem pd2_eqv (y z : Int × Int) : PyData.eqv (pd2 y) (pd2 z) = decide (y = z) := by
  obtain ⟨a, b⟩ := y; obtain ⟨c, d⟩ := z
  unfold pd2
  simp [PyData.eqv, PyData.eqvAll]
  rfl
theorem pd2_plain : ∀ B : Brk, PyData.plainAll (B.map pd2) = true
  | [] => rfl
  | z :: r => by
    show (PyData.plain (pd2 z) && PyData.plainAll (r.map pd2)) = true
    rw [pd2_plain r]; rfl
theorem pd2_depth (z : Int × Int) : (pd2 z).depth ≤ 3 := by
  show (PyData.tuple [.int z.1, .int z.2]).depth ≤ 3
  simp [PyData.depth, PyData.depthAll]
theorem pd2_depthAll : ∀ B : Brk, PyData.depthAll (B.map pd2) ≤ 3
  | [] => by show PyData.depthAll [] ≤ 3; simp [PyData.depthAll]
  | z :: r => by
    show PyData.depthAll (pd2 z :: r.map pd2) ≤ 3
    have := pd2_depth z
    have := pd2_depthAll r
    simp only [PyData.depthAll]
    omega
theorem pd2_lay (z : Int × Int) : (pd2 z).canLay0 = true := by rfl
theorem pd2_shaped (z : Int × Int) : SeqAt.shaped (pd2 z) = true := by
  have := pd2_depth z
  unfold SeqAt.shaped
  rw [pd2_lay, decide_eq_true (by omega)]; rfl
theorem pd2_layA : ∀ B : Brk, PyData.canLayAll0 (B.map pd2) = true
  | [] => rfl
  | z :: r => by
    show (PyData.canLay0 (pd2 z) && PyData.canLayAll0 (r.map pd2)) = true
    rw [pd2_layA r, pd2_lay]; rfl
theorem pd2_layAll : ∀ B : Brk, PyData.canLay0 (.list (B.map pd2)) = true := by
  intro B
  simp [PyData.canLay0, pd2_layA]
theorem pd2_shapedL (B : Brk) : SeqAt.shaped (.list (B.map pd2)) = true := by
  have h := pd2_depthAll B
  have : (PyData.list (B.map pd2)).depth ≤ 64 := by simp only [PyData.depth]; omega
  unfold SeqAt.shaped
  rw [pd2_layAll, decide_eq_true this]; rfl
theorem pd2_place {z : Int × Int} : ∀ B : Brk, z ∈ B → ∃ j, SeqAt.dataPlace (B.map pd2) (pd2 z) = some j ∧ B[j]? = some z ∧ B.eraseIdx j = B.erase z
  | [], h => by cases h
  | y :: r, h => by
    by_cases e : y = z
    · refine ⟨0, ?_, by rw [e]; rfl, ?_⟩
      · unfold SeqAt.dataPlace
        rw [List.map_cons, List.findIdx?_cons, pd2_eqv, decide_eq_true e]; rfl
      · rw [e, List.erase_cons_head]; rfl
    · obtain ⟨j, h1, h2, h3⟩ := pd2_place r (by rcases List.mem_cons.mp h with h | h; exact absurd h.symm e; exact h)
      refine ⟨j + 1, ?_, h2, ?_⟩
      · unfold SeqAt.dataPlace at *
        rw [List.map_cons, List.findIdx?_cons, pd2_eqv, decide_eq_false e, h1]; rfl
      · rw [List.erase_cons_tail (by simpa using e), ← h3]; rfl
theorem pd2_any {z : Int × Int} (B : Brk) : ((B.map pd2).any fun y => PyData.eqv y (pd2 z)) = decide (z ∈ B) := by
  induction B with
  | nil => rfl
  | cons y r ih =>
    rw [List.map_cons, List.any_cons, ih, pd2_eqv]
    by_cases e : y = z
    · simp [e]
    · by_cases h : z ∈ r
      · simp [h]
      · have : ¬ z = y := fun h => e h.symm
        simp [e, h, this]
end Ice

set_option Elab.async false
set_option linter.all false
set_option maxRecDepth 100000
set_option maxHeartbeats 4000000
set_option autoImplicit false
/-! repr of nested and of long things. -/
namespace Ice
open PySem PySem.Spec PyProof.Rows L2
section
variable {K : PySem.W.Frag} {H : Hp}
structure Sm (K : PySem.W.Frag) (H : Hp) (k L : Nat) (v : V) (d : PyData) : Prop where
  dp : Dp K H v d
  sh : d.showable = true
  de : d.depth ≤ k
  ln : d.shown.length ≤ L
inductive SmAll (K : PySem.W.Frag) (H : Hp) (k L : Nat) : List V → List PyData → Prop
  | nil : SmAll K H k L [] []
  | cons {v : V} {vs : List V} {d : PyData} {ds : List PyData} : Sm K H k L v d → SmAll K H k L vs ds → SmAll K H k L (v :: vs) (d :: ds)
theorem Ps.sm {v : V} {d : PyData} (h : Ps v d) {k : Nat} : Sm K H k 650 v d := by
  obtain ⟨b1, b2, b3⟩ := h.show
  exact ⟨h.dp, b1, by omega, b3⟩
theorem Sm.mono {k L k' L' : Nat} {v : V} {d : PyData} (h : Sm K H k L v d) (hk : k ≤ k') (hL : L ≤ L') : Sm K H k' L' v d := ⟨h.dp, h.sh, Nat.le_trans h.de hk, Nat.le_trans h.ln hL⟩
theorem SmAll.all {k L : Nat} {vs : List V} {ds : List PyData} (h : SmAll K H k L vs ds) : DpAll K H vs ds ∧ PyData.showableAll ds = true ∧ PyData.depthAll ds ≤ k ∧ ((PyData.shownAll ds).map (·.length)).sum ≤ L * vs.length ∧ (PyData.shownAll ds).length = vs.length := by
  induction h with
  | nil => exact ⟨.nil, rfl, Nat.zero_le _, by show 0 ≤ _; exact Nat.zero_le _, rfl⟩
  | @cons v vs d ds h t ih =>
    obtain ⟨a0, a1, a2, a3, a4⟩ := ih
    refine ⟨.cons h.dp a0, ?_, ?_, ?_, ?_⟩
    · show (d.showable && PyData.showableAll ds) = true
      rw [h.sh, a1]; rfl
    · show max d.depth (PyData.depthAll ds) ≤ k
      have := h.de
      omega
    · show ((d.shown :: PyData.shownAll ds).map (·.length)).sum ≤ _
      rw [List.map_cons, List.sum_cons, List.length_cons, Nat.mul_succ]
      have := h.ln
      omega
    · show (d.shown :: PyData.shownAll ds).length = _
      rw [List.length_cons, a4, List.length_cons]
theorem Sm.tup {k L : Nat} {p : Addr} {vs : List V} {ds : List PyData} (hp : H p = some (.tup vs)) (h : SmAll K H k L vs ds) : Sm K H (k + 1) (L * vs.length + 2 * vs.length + 3) (.ref p) (.tuple ds) := by
  obtain ⟨a0, a1, a2, a3, a4⟩ := h.all
  have b := PySem.tupleText_len_le (PyData.shownAll ds)
  refine ⟨.tup (SqT.tup hp) a0, a1, ?_, ?_⟩
  · show PyData.depthAll ds + 1 ≤ _
    omega
  · show (PySem.tupleText (PyData.shownAll ds)).length ≤ _
    omega
theorem Sm.lst {k L : Nat} {p : Addr} {vs : List V} {ds : List PyData} (hp : H p = some (.lst vs)) (h : SmAll K H k L vs ds) : Sm K H (k + 1) (L * vs.length + 2 * vs.length + 3) (.ref p) (.list ds) := by
  obtain ⟨a0, a1, a2, a3, a4⟩ := h.all
  have b := PySem.listText_len_le (PyData.shownAll ds)
  refine ⟨.lst (SqL.lst hp) a0, a1, ?_, ?_⟩
  · show PyData.depthAll ds + 1 ≤ _
    omega
  · show (PySem.listText (PyData.shownAll ds)).length ≤ _
    omega
theorem Sm.rp {k L : Nat} {v : V} {d : PyData} (h : Sm K H k L v d) (hk : k ≤ 100) (hL : L ≤ sizeLine) : Rp K H v d := ⟨.inl h.dp, h.sh, Nat.le_trans h.de hk, Nat.le_trans h.ln hL⟩
end
end Ice

set_option Elab.async false
set_option linter.all false
set_option maxRecDepth 100000
set_option maxHeartbeats 4000000
set_option autoImplicit false
/-! What is a list or a tuple; comprehensions that only add to the heap. -/
namespace Ice
open PySem PySem.Spec PyProof.Rows L2
def SqS (K : PySem.W.Frag) (H : Hp) (a : Addr) (xs : List V) : Prop := SqL K H a xs ∨ SqT K H a xs
theorem SqT.but {K : PySem.W.Frag} {b : Addr} {H H' : Hp} {a : Addr} {xs : List V} (e : But b H H') (n : a ≠ b) (h : SqT K H a xs) : SqT K H' a xs := by
  rcases h with (h | ⟨o, h⟩) | h
  · exact .inl (.inl (e _ _ n h))
  · exact .inl (.inr ⟨o, e _ _ n h⟩)
  · exact .inr h
theorem SqS.but {K : PySem.W.Frag} {b : Addr} {H H' : Hp} {a : Addr} {xs : List V} (e : But b H H') (n : a ≠ b) (h : SqS K H a xs) : SqS K H' a xs := h.elim (fun h => .inl (SqL.but e n h)) (fun h => .inr (SqT.but e n h))
theorem SqS.same {K : PySem.W.Frag} {H H' : Hp} {a : Addr} {xs : List V} (e : Same H H') (h : SqS K H a xs) : SqS K H' a xs := h.elim (fun h => .inl (L2.Same.seq e h)) (fun h => .inr (SqT.same e h))
theorem SqS.lst {K : PySem.W.Frag} {H : Hp} {a : Addr} {xs : List V} (h : H a = some (.lst xs)) : SqS K H a xs := .inl (SqL.lst h)
theorem SqS.tup {K : PySem.W.Frag} {H : Hp} {a : Addr} {xs : List V} (h : H a = some (.tup xs)) : SqS K H a xs := .inr (SqT.tup h)
/-- what was in the heap at a is there -/
def Kep (H H' : Hp) (a : Addr) : Prop := ∀ o, H a = some o → H' a = some o
theorem SqL.kep {K : PySem.W.Frag} {H H' : Hp} {a : Addr} {xs : List V} (e : Kep H H' a) (h : SqL K H a xs) : SqL K H' a xs := by
  rcases h with (h | ⟨o, h⟩) | h
  · exact .inl (.inl (e _ h))
  · exact .inl (.inr ⟨o, e _ h⟩)
  · exact .inr h
theorem SqT.kep {K : PySem.W.Frag} {H H' : Hp} {a : Addr} {xs : List V} (e : Kep H H' a) (h : SqT K H a xs) : SqT K H' a xs := by
  rcases h with (h | ⟨o, h⟩) | h
  · exact .inl (.inl (e _ h))
  · exact .inl (.inr ⟨o, e _ h⟩)
  · exact .inr h
/-- an iteration over a list or a tuple -/
def iSeq (K : PySem.W.Frag) (tl : TE) : TI := fun σ H R => tl σ H fun x H1 => ∃ a, x = .ref a ∧ (((∃ xs, SqL K H1 a xs) ∧ R (Itl K a) H1) ∨ ((∃ xs, SqT K H1 a xs) ∧ R (Itt K a) H1))
theorem pi_seq {X : Cx} {tg l : Expr} {tl : TE} (hl : PE X l tl) : PI X tg l (iSeq X.K tl) := by
  refine ⟨fun pins s σ H R I h => ?_⟩
  refine thn (hl.run pins s σ H _ I h) fun v s1 ⟨x, H1, I1, r1, q1⟩ => ?_
  obtain ⟨a, e, q⟩ := q1
  subst e
  cases r1
  rcases q with ⟨⟨xs, hq⟩, q⟩ | ⟨⟨xs, hq⟩, q⟩
  · obtain ⟨its, rv, p, hz⟩ := I1.list hq
    refine wpAny_pyIter_list p.isList ?_
    refine ⟨s1.heap.objs.size, [s1.heap.objs.size], _, _, H1, rfl, I1.kept (t' := s1.toks) fun b o e => Heap.get?_push_of_some _ e, turn_list a _, ⟨_, Heap.get?_push_size _ rfl, rfl, rfl⟩, fun b hb => ?_, q⟩
    have e : b = s1.heap.objs.size := by simpa using hb
    subst e
    exact I1.fpOk (Nat.le_refl _) (I1.hok.fresh (Nat.le_refl _))
  · obtain ⟨its, rv, p, hz⟩ := I1.tuple hq
    refine wpAny_pyIter_tuple (show s1.heap.IsTuple a its.toArray from p) ?_
    refine ⟨s1.heap.objs.size, [s1.heap.objs.size], _, _, H1, rfl, I1.kept (t' := s1.toks) fun b o e => Heap.get?_push_of_some _ e, turn_tuple a _, ⟨_, Heap.get?_push_size _ rfl, rfl, rfl⟩, fun b hb => ?_, q⟩
    have e : b = s1.heap.objs.size := by simpa using hb
    subst e
    exact I1.fpOk (Nat.le_refl _) (I1.hok.fresh (Nat.le_refl _))
theorem i_iseq {K : PySem.W.Frag} {te : TE} {σ : L2.St} {H : Hp} {R : It → Hp → Prop} (h : te σ H fun x H1 => ∃ a, x = .ref a ∧ (((∃ xs, SqL K H1 a xs) ∧ R (Itl K a) H1) ∨ ((∃ xs, SqT K H1 a xs) ∧ R (Itt K a) H1))) : iSeq K te σ H R := h
/-- a for over a list or a tuple -/
theorem for_seq {K : PySem.W.Frag} {a : Addr} {xs : List V} {g : TG} {tb : TS} {D : Ends} {σ : L2.St} {H : Hp} (hS : SqS K H a xs) (Pv : Nat → L2.St → Hp → Prop) (h0 : Pv 0 σ H) (hl : ∀ i σ' H', i ≤ xs.length → Pv i σ' H' → Kep H H' a)
    (hs : ∀ i x σ H, xs[i]? = some x → Pv i σ H → g x σ H fun σ2 H2 => tb { D with nx := Pv (i + 1), ct := Pv (i + 1), bk := D.nx } σ2 H2) (hd : ∀ σ H, Pv xs.length σ H → D.nx σ H) :
    ∃ a', V.ref a = .ref a' ∧ (((∃ xs, SqL K H a' xs) ∧ ∃ W : Nat → Nat → L2.St → Hp → Prop, (∃ m, W 0 m σ H) ∧ ∀ i m σ H, W i m σ H →
      ((Itl K a').stop i H ∧ D.nx σ H) ∨ ((Itl K a').go i H ∧ ∃ N : L2.St → Hp → Prop, (∀ σ' H', N σ' H' → ∃ m', m' < m ∧ W (i + 1) m' σ' H') ∧ ∀ x H', (Itl K a').yld i H x H' → g x σ H' fun σ2 H2 => tb { D with nx := N, ct := N, bk := D.nx } σ2 H2)) ∨
     ((∃ xs, SqT K H a' xs) ∧ ∃ W : Nat → Nat → L2.St → Hp → Prop, (∃ m, W 0 m σ H) ∧ ∀ i m σ H, W i m σ H →
      ((Itt K a').stop i H ∧ D.nx σ H) ∨ ((Itt K a').go i H ∧ ∃ N : L2.St → Hp → Prop, (∀ σ' H', N σ' H' → ∃ m', m' < m ∧ W (i + 1) m' σ' H') ∧ ∀ x H', (Itt K a').yld i H x H' → g x σ H' fun σ2 H2 => tb { D with nx := N, ct := N, bk := D.nx } σ2 H2))) := by
  refine ⟨a, rfl, ?_⟩
  rcases hS with h | h
  · exact .inl ⟨⟨xs, h⟩, for_list Pv h0 (fun i σ' H' hi p => SqL.kep (hl i σ' H' hi p) h) hs hd⟩
  · exact .inr ⟨⟨xs, h⟩, for_tup Pv h0 (fun i σ' H' hi p => SqT.kep (hl i σ' H' hi p) h) hs hd⟩
theorem for_listK {K : PySem.W.Frag} {a : Addr} {xs : List V} {g : TG} {tb : TS} {D : Ends} {σ : L2.St} {H : Hp} (hS : SqL K H a xs) (Pv : Nat → L2.St → Hp → Prop) (h0 : Pv 0 σ H) (hl : ∀ i σ' H', i ≤ xs.length → Pv i σ' H' → Kep H H' a)
    (hs : ∀ i x σ H, xs[i]? = some x → Pv i σ H → g x σ H fun σ2 H2 => tb { D with nx := Pv (i + 1), ct := Pv (i + 1), bk := D.nx } σ2 H2) (hd : ∀ σ H, Pv xs.length σ H → D.nx σ H) :
    ∃ a', V.ref a = .ref a' ∧ (∃ xs, SqL K H a' xs) ∧ ∃ W : Nat → Nat → L2.St → Hp → Prop, (∃ m, W 0 m σ H) ∧ ∀ i m σ H, W i m σ H →
      ((Itl K a').stop i H ∧ D.nx σ H) ∨ ((Itl K a').go i H ∧ ∃ N : L2.St → Hp → Prop, (∀ σ' H', N σ' H' → ∃ m', m' < m ∧ W (i + 1) m' σ' H') ∧ ∀ x H', (Itl K a').yld i H x H' → g x σ H' fun σ2 H2 => tb { D with nx := N, ct := N, bk := D.nx } σ2 H2) :=
  ⟨a, rfl, ⟨xs, hS⟩, for_list Pv h0 (fun i σ' H' hi p => SqL.kep (hl i σ' H' hi p) hS) hs hd⟩
/-- the list of what stands so far -/
def gath (os : List (Option V)) : List V := os.filterMap id
theorem gath_snoc {os : List (Option V)} {i : Nat} {o : Option V} (h : os[i]? = some o) : gath (os.take (i + 1)) = gath (os.take i) ++ o.toList := by
  unfold gath
  rw [List.take_add_one, h, List.filterMap_append]
  cases o <;> rfl
theorem gath_len (os : List (Option V)) : (gath os).length ≤ os.length := List.length_filterMap_le _ _
theorem gath_some (ys : List V) : gath (ys.map some) = ys := by
  unfold gath
  induction ys with
  | nil => rfl
  | cons y r ih => simp only [List.map_cons, List.filterMap_cons_some (f := id) (a := some y) rfl, ih]
section
variable {K : PySem.W.Frag} {a : Addr} {xs : List V} {g : TG} {tt : TT} {te : TE} {vs : List Nat} {σ : L2.St} {H1 : Hp} {Q : Addr → Hp → Prop}
theorem lc_gathL (hS : SqL K H1 a xs) (os : List (Option V)) (hl : os.length = xs.length) (hz : xs.length < sizeLine)
    (hs : ∀ (i : Nat) (x : V) (o : Option V) (H' : Hp) (NY : VK) (NN : Hp → Prop), xs[i]? = some x → os[i]? = some o → Same H1 H' → (∀ y H4, o = some y → Same H' H4 → NY y H4) → (∀ H3, o = none → Same H' H3 → NN H3) →
      g x (wipe σ vs) H' (fun σ2 H2 => wipe σ2 vs = wipe σ vs ∧ tt σ2 H2 fun b H3 => if b = true then te σ2 H3 NY else NN H3))
    (hd : ∀ D H', H1 D = none → Same H1 H' → H' D = some (.lst (gath os)) → Q D H') {D : Addr} (hD : H1 D = none) :
    ∃ W : Nat → Nat → Hp → Prop, (∃ m, W 0 m (upd H1 D (.lst []))) ∧ ∀ i m H, W i m H →
      ((Itl K a).stop i H ∧ Q D H) ∨ ((Itl K a).go i H ∧ ∃ Nx : Hp → Prop, (∀ H', Nx H' → ∃ m', m' < m ∧ W (i + 1) m' H') ∧ ∀ x H', (Itl K a).yld i H x H' → g x (wipe σ vs) H' fun σ2 H2 => wipe σ2 vs = wipe σ vs ∧ tt σ2 H2 fun b H3 =>
        if b = true then te σ2 H3 fun y H4 => ∃ acc, H4 D = some (.lst acc) ∧ acc.length < sizeLine ∧ Nx (upd H4 D (.lst (acc ++ [y]))) else Nx H3) := by
  refine lc_list (fun i H' => Same H1 H' ∧ H' D = some (.lst (gath (os.take i)))) ⟨Same.new _ hD, upd_same⟩ (fun i H' _ p => SqL.kep (fun o e => p.1 _ _ e) hS) ?_ ?_
  · rintro i x H' hx ⟨s, k⟩
    have lt : i < os.length := by rw [hl]; exact (List.getElem?_eq_some_iff.mp hx).1
    have ho : os[i]? = some os[i] := List.getElem?_eq_getElem lt
    refine hs i x _ H' _ _ hx ho s (fun y H4 e s4 => ?_) (fun H3 e s3 => ?_)
    · have k4 := s4 _ _ k
      refine ⟨_, k4, ?_, fun b u hb => ?_, ?_⟩
      · have l1 := gath_len (os.take i)
        have l2 := List.length_take_le i os
        omega
      · rw [upd_ne (ne_of_none hb hD)]; exact s4 _ _ (s _ _ hb)
      · rw [upd_same, gath_snoc ho, e]; rfl
    · refine ⟨s.trans s3, ?_⟩
      rw [gath_snoc ho, e]
      show _ = some (HO.lst (_ ++ []))
      rw [List.append_nil]
      exact s3 _ _ k
  · rintro H' ⟨s, k⟩
    rw [← hl, List.take_length] at k
    exact hd D H' hD s k
theorem lc_gathT (hS : SqT K H1 a xs) (os : List (Option V)) (hl : os.length = xs.length) (hz : xs.length < sizeLine)
    (hs : ∀ (i : Nat) (x : V) (o : Option V) (H' : Hp) (NY : VK) (NN : Hp → Prop), xs[i]? = some x → os[i]? = some o → Same H1 H' → (∀ y H4, o = some y → Same H' H4 → NY y H4) → (∀ H3, o = none → Same H' H3 → NN H3) →
      g x (wipe σ vs) H' (fun σ2 H2 => wipe σ2 vs = wipe σ vs ∧ tt σ2 H2 fun b H3 => if b = true then te σ2 H3 NY else NN H3))
    (hd : ∀ D H', H1 D = none → Same H1 H' → H' D = some (.lst (gath os)) → Q D H') {D : Addr} (hD : H1 D = none) :
    ∃ W : Nat → Nat → Hp → Prop, (∃ m, W 0 m (upd H1 D (.lst []))) ∧ ∀ i m H, W i m H →
      ((Itt K a).stop i H ∧ Q D H) ∨ ((Itt K a).go i H ∧ ∃ Nx : Hp → Prop, (∀ H', Nx H' → ∃ m', m' < m ∧ W (i + 1) m' H') ∧ ∀ x H', (Itt K a).yld i H x H' → g x (wipe σ vs) H' fun σ2 H2 => wipe σ2 vs = wipe σ vs ∧ tt σ2 H2 fun b H3 =>
        if b = true then te σ2 H3 fun y H4 => ∃ acc, H4 D = some (.lst acc) ∧ acc.length < sizeLine ∧ Nx (upd H4 D (.lst (acc ++ [y]))) else Nx H3) := by
  refine lc_tup (fun i H' => Same H1 H' ∧ H' D = some (.lst (gath (os.take i)))) ⟨Same.new _ hD, upd_same⟩ (fun i H' _ p => SqT.kep (fun o e => p.1 _ _ e) hS) ?_ ?_
  · rintro i x H' hx ⟨s, k⟩
    have lt : i < os.length := by rw [hl]; exact (List.getElem?_eq_some_iff.mp hx).1
    have ho : os[i]? = some os[i] := List.getElem?_eq_getElem lt
    refine hs i x _ H' _ _ hx ho s (fun y H4 e s4 => ?_) (fun H3 e s3 => ?_)
    · have k4 := s4 _ _ k
      refine ⟨_, k4, ?_, fun b u hb => ?_, ?_⟩
      · have l1 := gath_len (os.take i)
        have l2 := List.length_take_le i os
        omega
      · rw [upd_ne (ne_of_none hb hD)]; exact s4 _ _ (s _ _ hb)
      · rw [upd_same, gath_snoc ho, e]; rfl
    · refine ⟨s.trans s3, ?_⟩
      rw [gath_snoc ho, e]
      show _ = some (HO.lst (_ ++ []))
      rw [List.append_nil]
      exact s3 _ _ k
  · rintro H' ⟨s, k⟩
    rw [← hl, List.take_length] at k
    exact hd D H' hD s k
/-- a comprehension that only adds to the heap, over a list or a tuple -/
theorem lc_gather (hS : SqS K H1 a xs) (os : List (Option V)) (hl : os.length = xs.length) (hz : xs.length < sizeLine)
    (hs : ∀ (i : Nat) (x : V) (o : Option V) (H' : Hp) (NY : VK) (NN : Hp → Prop), xs[i]? = some x → os[i]? = some o → Same H1 H' → (∀ y H4, o = some y → Same H' H4 → NY y H4) → (∀ H3, o = none → Same H' H3 → NN H3) →
      g x (wipe σ vs) H' (fun σ2 H2 => wipe σ2 vs = wipe σ vs ∧ tt σ2 H2 fun b H3 => if b = true then te σ2 H3 NY else NN H3))
    (hd : ∀ D H', H1 D = none → Same H1 H' → H' D = some (.lst (gath os)) → Q D H') :
    ∃ a', V.ref a = .ref a' ∧ (((∃ xs, SqL K H1 a' xs) ∧ (∀ D, H1 D = none → ∃ W : Nat → Nat → Hp → Prop, (∃ m, W 0 m (upd H1 D (.lst []))) ∧ ∀ i m H, W i m H →
      ((Itl K a').stop i H ∧ Q D H) ∨ ((Itl K a').go i H ∧ ∃ Nx : Hp → Prop, (∀ H', Nx H' → ∃ m', m' < m ∧ W (i + 1) m' H') ∧ ∀ x H', (Itl K a').yld i H x H' → g x (wipe σ vs) H' fun σ2 H2 => wipe σ2 vs = wipe σ vs ∧ tt σ2 H2 fun b H3 =>
        if b = true then te σ2 H3 fun y H4 => ∃ acc, H4 D = some (.lst acc) ∧ acc.length < sizeLine ∧ Nx (upd H4 D (.lst (acc ++ [y]))) else Nx H3))) ∨
     ((∃ xs, SqT K H1 a' xs) ∧ (∀ D, H1 D = none → ∃ W : Nat → Nat → Hp → Prop, (∃ m, W 0 m (upd H1 D (.lst []))) ∧ ∀ i m H, W i m H →
      ((Itt K a').stop i H ∧ Q D H) ∨ ((Itt K a').go i H ∧ ∃ Nx : Hp → Prop, (∀ H', Nx H' → ∃ m', m' < m ∧ W (i + 1) m' H') ∧ ∀ x H', (Itt K a').yld i H x H' → g x (wipe σ vs) H' fun σ2 H2 => wipe σ2 vs = wipe σ vs ∧ tt σ2 H2 fun b H3 =>
        if b = true then te σ2 H3 fun y H4 => ∃ acc, H4 D = some (.lst acc) ∧ acc.length < sizeLine ∧ Nx (upd H4 D (.lst (acc ++ [y]))) else Nx H3)))) := by
  refine ⟨a, rfl, ?_⟩
  rcases hS with h | h
  · exact .inl ⟨⟨xs, h⟩, fun D hD => lc_gathL h os hl hz hs hd hD⟩
  · exact .inr ⟨⟨xs, h⟩, fun D hD => lc_gathT h os hl hz hs hd hD⟩
theorem lc_gatherL (hS : SqL K H1 a xs) (os : List (Option V)) (hl : os.length = xs.length) (hz : xs.length < sizeLine)
    (hs : ∀ (i : Nat) (x : V) (o : Option V) (H' : Hp) (NY : VK) (NN : Hp → Prop), xs[i]? = some x → os[i]? = some o → Same H1 H' → (∀ y H4, o = some y → Same H' H4 → NY y H4) → (∀ H3, o = none → Same H' H3 → NN H3) →
      g x (wipe σ vs) H' (fun σ2 H2 => wipe σ2 vs = wipe σ vs ∧ tt σ2 H2 fun b H3 => if b = true then te σ2 H3 NY else NN H3))
    (hd : ∀ D H', H1 D = none → Same H1 H' → H' D = some (.lst (gath os)) → Q D H') :
    ∃ a', V.ref a = .ref a' ∧ (∃ xs, SqL K H1 a' xs) ∧ (∀ D, H1 D = none → ∃ W : Nat → Nat → Hp → Prop, (∃ m, W 0 m (upd H1 D (.lst []))) ∧ ∀ i m H, W i m H →
      ((Itl K a').stop i H ∧ Q D H) ∨ ((Itl K a').go i H ∧ ∃ Nx : Hp → Prop, (∀ H', Nx H' → ∃ m', m' < m ∧ W (i + 1) m' H') ∧ ∀ x H', (Itl K a').yld i H x H' → g x (wipe σ vs) H' fun σ2 H2 => wipe σ2 vs = wipe σ vs ∧ tt σ2 H2 fun b H3 =>
        if b = true then te σ2 H3 fun y H4 => ∃ acc, H4 D = some (.lst acc) ∧ acc.length < sizeLine ∧ Nx (upd H4 D (.lst (acc ++ [y]))) else Nx H3)) := ⟨a, rfl, ⟨xs, hS⟩, fun D hD => lc_gathL hS os hl hz hs hd hD⟩
theorem lc_gatherT (hS : SqT K H1 a xs) (os : List (Option V)) (hl : os.length = xs.length) (hz : xs.length < sizeLine)
    (hs : ∀ (i : Nat) (x : V) (o : Option V) (H' : Hp) (NY : VK) (NN : Hp → Prop), xs[i]? = some x → os[i]? = some o → Same H1 H' → (∀ y H4, o = some y → Same H' H4 → NY y H4) → (∀ H3, o = none → Same H' H3 → NN H3) →
      g x (wipe σ vs) H' (fun σ2 H2 => wipe σ2 vs = wipe σ vs ∧ tt σ2 H2 fun b H3 => if b = true then te σ2 H3 NY else NN H3))
    (hd : ∀ D H', H1 D = none → Same H1 H' → H' D = some (.lst (gath os)) → Q D H') :
    ∃ a', V.ref a = .ref a' ∧ (∃ xs, SqT K H1 a' xs) ∧ (∀ D, H1 D = none → ∃ W : Nat → Nat → Hp → Prop, (∃ m, W 0 m (upd H1 D (.lst []))) ∧ ∀ i m H, W i m H →
      ((Itt K a').stop i H ∧ Q D H) ∨ ((Itt K a').go i H ∧ ∃ Nx : Hp → Prop, (∀ H', Nx H' → ∃ m', m' < m ∧ W (i + 1) m' H') ∧ ∀ x H', (Itt K a').yld i H x H' → g x (wipe σ vs) H' fun σ2 H2 => wipe σ2 vs = wipe σ vs ∧ tt σ2 H2 fun b H3 =>
        if b = true then te σ2 H3 fun y H4 => ∃ acc, H4 D = some (.lst acc) ∧ acc.length < sizeLine ∧ Nx (upd H4 D (.lst (acc ++ [y]))) else Nx H3)) := ⟨a, rfl, ⟨xs, hS⟩, fun D hD => lc_gathT hS os hl hz hs hd hD⟩
end
theorem put_free {kzs : List (Key × V)} (nd : (kzs.map (·.1)).Nodup) {i : Nat} {kz : Key × V} (h : kzs[i]? = some kz) : valV (kzs.take i) kz.1 = none := by
  unfold valV
  rw [List.find?_eq_none.mpr ?_]; rfl
  intro p hp e
  have e : p.1 = kz.1 := of_decide_eq_true e
  obtain ⟨j, hj⟩ := List.mem_iff_getElem?.mp hp
  have hji : j < i := by
    have := (List.getElem?_eq_some_iff.mp hj).1
    rw [List.length_take] at this; omega
  rw [List.getElem?_take_of_lt hji] at hj
  have lj := (List.getElem?_eq_some_iff.mp hj).1
  have li := (List.getElem?_eq_some_iff.mp h).1
  have := (List.pairwise_iff_getElem.mp nd) j i (by rw [List.length_map]; exact lj) (by rw [List.length_map]; exact li) hji
  apply this
  rw [List.getElem_map, List.getElem_map]
  rw [List.getElem?_eq_getElem lj] at hj
  rw [List.getElem?_eq_getElem li] at h
  rw [Option.some.inj hj, Option.some.inj h, e]
/-- over a list that stays -/
theorem dc_list {K : PySem.W.Frag} {a : Addr} {xs : List V} {g : TG} {tt : TT} {tk tv : TE} {vs : List Nat} {σ : L2.St} {H1 : Hp} {D : Addr} {Qd : Hp → Prop} (Pv : Nat → Hp → Prop) (h0 : Pv 0 (upd H1 D (.dK []))) (hl : ∀ i H, i ≤ xs.length → Pv i H → SqL K H a xs)
    (hs : ∀ i x H, xs[i]? = some x → Pv i H → g x (wipe σ vs) H fun σ2 H2 => wipe σ2 vs = wipe σ vs ∧ tt σ2 H2 fun b H3 =>
      if b = true then tk σ2 H3 fun y H4 => tv σ2 H4 fun z H5 => ∃ kvs k, y = kV k ∧ H5 D = some (.dK kvs) ∧ kvs.length < sizeLine ∧ Pv (i + 1) (upd H5 D (.dK (putK kvs k z))) else Pv (i + 1) H3) (hd : ∀ H, Pv xs.length H → Qd H) :
    ∃ W : Nat → Nat → Hp → Prop, (∃ m, W 0 m (upd H1 D (.dK []))) ∧ ∀ i m H, W i m H →
      ((Itl K a).stop i H ∧ Qd H) ∨ ((Itl K a).go i H ∧ ∃ Nx : Hp → Prop, (∀ H', Nx H' → ∃ m', m' < m ∧ W (i + 1) m' H') ∧ ∀ x H', (Itl K a).yld i H x H' → g x (wipe σ vs) H' fun σ2 H2 => wipe σ2 vs = wipe σ vs ∧ tt σ2 H2 fun b H3 =>
        if b = true then tk σ2 H3 fun y H4 => tv σ2 H4 fun z H5 => ∃ kvs k, y = kV k ∧ H5 D = some (.dK kvs) ∧ kvs.length < sizeLine ∧ Nx (upd H5 D (.dK (putK kvs k z))) else Nx H3) := by
  refine ⟨fun i m H => m = xs.length - i ∧ i ≤ xs.length ∧ Pv i H, ⟨xs.length, by simp, Nat.zero_le _, h0⟩, ?_⟩
  rintro i m H ⟨rfl, hi, p⟩
  have q := hl i H hi p
  by_cases hlt : i < xs.length
  · refine .inr ⟨⟨xs, xs[i], q, by simp [hlt]⟩, Pv (i + 1), fun H' p' => ⟨xs.length - (i + 1), by omega, rfl, hlt, p'⟩, fun x H' y => ?_⟩
    obtain ⟨e, y⟩ := y
    subst e
    exact hs i x _ (y xs q) p
  · have e : i = xs.length := by omega
    subst e
    exact .inl ⟨⟨xs, q, Nat.le_refl _⟩, hd H p⟩
section
variable {K : PySem.W.Frag} {a : Addr} {xs : List V} {g : TG} {tt : TT} {tk tv : TE} {vs : List Nat} {σ : L2.St} {H1 : Hp} {Q : Addr → Hp → Prop}
theorem dc_pureL (hS : SqL K H1 a xs) (kzs : List (Key × V)) (hl : kzs.length = xs.length) (hz : xs.length < sizeLine) (nd : (kzs.map (·.1)).Nodup)
    (hs : ∀ (i : Nat) (x : V) (kz : Key × V) (H' : Hp) (NY : V → V → Hp → Prop) (NN : Hp → Prop), xs[i]? = some x → kzs[i]? = some kz → Same H1 H' → (∀ H5, Same H' H5 → NY (kV kz.1) kz.2 H5) →
      g x (wipe σ vs) H' (fun σ2 H2 => wipe σ2 vs = wipe σ vs ∧ tt σ2 H2 fun b H3 => if b = true then tk σ2 H3 fun y H4 => tv σ2 H4 fun z H5 => NY y z H5 else NN H3))
    (hd : ∀ D H', H1 D = none → Same H1 H' → H' D = some (.dK kzs) → Q D H') {D : Addr} (hD : H1 D = none) :
    ∃ W : Nat → Nat → Hp → Prop, (∃ m, W 0 m (upd H1 D (.dK []))) ∧ ∀ i m H, W i m H →
      ((Itl K a).stop i H ∧ Q D H) ∨ ((Itl K a).go i H ∧ ∃ Nx : Hp → Prop, (∀ H', Nx H' → ∃ m', m' < m ∧ W (i + 1) m' H') ∧ ∀ x H', (Itl K a).yld i H x H' → g x (wipe σ vs) H' fun σ2 H2 => wipe σ2 vs = wipe σ vs ∧ tt σ2 H2 fun b H3 =>
        if b = true then tk σ2 H3 fun y H4 => tv σ2 H4 fun z H5 => ∃ kvs k, y = kV k ∧ H5 D = some (.dK kvs) ∧ kvs.length < sizeLine ∧ Nx (upd H5 D (.dK (putK kvs k z))) else Nx H3) := by
  refine dc_list (fun i H' => Same H1 H' ∧ H' D = some (.dK (kzs.take i))) ⟨Same.new _ hD, upd_same⟩ (fun i H' _ p => SqL.kep (fun o e => p.1 _ _ e) hS) ?_ ?_
  · rintro i x H' hx ⟨s, k⟩
    have lt : i < kzs.length := by rw [hl]; exact (List.getElem?_eq_some_iff.mp hx).1
    have ho : kzs[i]? = some kzs[i] := List.getElem?_eq_getElem lt
    refine hs i x _ H' (fun y z H5 => ∃ kvs k, y = kV k ∧ H5 D = some (.dK kvs) ∧ kvs.length < sizeLine ∧ _) _ hx ho s (fun H5 s5 => ?_)
    refine ⟨_, _, rfl, s5 _ _ k, ?_, fun b u hb => ?_, ?_⟩
    · have l2 := List.length_take_le i kzs
      omega
    · rw [upd_ne (ne_of_none hb hD)]; exact s5 _ _ (s _ _ hb)
    · rw [upd_same, putK_new _ (put_free nd ho), List.take_add_one, ho]; rfl
  · rintro H' ⟨s, k⟩
    rw [← hl, List.take_length] at k
    exact hd D H' hD s k
theorem dc_pureT (hS : SqT K H1 a xs) (kzs : List (Key × V)) (hl : kzs.length = xs.length) (hz : xs.length < sizeLine) (nd : (kzs.map (·.1)).Nodup)
    (hs : ∀ (i : Nat) (x : V) (kz : Key × V) (H' : Hp) (NY : V → V → Hp → Prop) (NN : Hp → Prop), xs[i]? = some x → kzs[i]? = some kz → Same H1 H' → (∀ H5, Same H' H5 → NY (kV kz.1) kz.2 H5) →
      g x (wipe σ vs) H' (fun σ2 H2 => wipe σ2 vs = wipe σ vs ∧ tt σ2 H2 fun b H3 => if b = true then tk σ2 H3 fun y H4 => tv σ2 H4 fun z H5 => NY y z H5 else NN H3))
    (hd : ∀ D H', H1 D = none → Same H1 H' → H' D = some (.dK kzs) → Q D H') {D : Addr} (hD : H1 D = none) :
    ∃ W : Nat → Nat → Hp → Prop, (∃ m, W 0 m (upd H1 D (.dK []))) ∧ ∀ i m H, W i m H →
      ((Itt K a).stop i H ∧ Q D H) ∨ ((Itt K a).go i H ∧ ∃ Nx : Hp → Prop, (∀ H', Nx H' → ∃ m', m' < m ∧ W (i + 1) m' H') ∧ ∀ x H', (Itt K a).yld i H x H' → g x (wipe σ vs) H' fun σ2 H2 => wipe σ2 vs = wipe σ vs ∧ tt σ2 H2 fun b H3 =>
        if b = true then tk σ2 H3 fun y H4 => tv σ2 H4 fun z H5 => ∃ kvs k, y = kV k ∧ H5 D = some (.dK kvs) ∧ kvs.length < sizeLine ∧ Nx (upd H5 D (.dK (putK kvs k z))) else Nx H3) := by
  refine dc_tup (fun i H' => Same H1 H' ∧ H' D = some (.dK (kzs.take i))) ⟨Same.new _ hD, upd_same⟩ (fun i H' _ p => SqT.kep (fun o e => p.1 _ _ e) hS) ?_ ?_
  · rintro i x H' hx ⟨s, k⟩
    have lt : i < kzs.length := by rw [hl]; exact (List.getElem?_eq_some_iff.mp hx).1
    have ho : kzs[i]? = some kzs[i] := List.getElem?_eq_getElem lt
    refine hs i x _ H' (fun y z H5 => ∃ kvs k, y = kV k ∧ H5 D = some (.dK kvs) ∧ kvs.length < sizeLine ∧ _) _ hx ho s (fun H5 s5 => ?_)
    refine ⟨_, _, rfl, s5 _ _ k, ?_, fun b u hb => ?_, ?_⟩
    · have l2 := List.length_take_le i kzs
      omega
    · rw [upd_ne (ne_of_none hb hD)]; exact s5 _ _ (s _ _ hb)
    · rw [upd_same, putK_new _ (put_free nd ho), List.take_add_one, ho]; rfl
  · rintro H' ⟨s, k⟩
    rw [← hl, List.take_length] at k
    exact hd D H' hD s k
/-- a dict comprehension that only adds to the heap, over a list or a tuple -/
theorem dc_pure (hS : SqS K H1 a xs) (kzs : List (Key × V)) (hl : kzs.length = xs.length) (hz : xs.length < sizeLine) (nd : (kzs.map (·.1)).Nodup)
    (hs : ∀ (i : Nat) (x : V) (kz : Key × V) (H' : Hp) (NY : V → V → Hp → Prop) (NN : Hp → Prop), xs[i]? = some x → kzs[i]? = some kz → Same H1 H' → (∀ H5, Same H' H5 → NY (kV kz.1) kz.2 H5) →
      g x (wipe σ vs) H' (fun σ2 H2 => wipe σ2 vs = wipe σ vs ∧ tt σ2 H2 fun b H3 => if b = true then tk σ2 H3 fun y H4 => tv σ2 H4 fun z H5 => NY y z H5 else NN H3))
    (hd : ∀ D H', H1 D = none → Same H1 H' → H' D = some (.dK kzs) → Q D H') :
    ∃ a', V.ref a = .ref a' ∧ (((∃ xs, SqL K H1 a' xs) ∧ (∀ D, H1 D = none → ∃ W : Nat → Nat → Hp → Prop, (∃ m, W 0 m (upd H1 D (.dK []))) ∧ ∀ i m H, W i m H →
      ((Itl K a').stop i H ∧ Q D H) ∨ ((Itl K a').go i H ∧ ∃ Nx : Hp → Prop, (∀ H', Nx H' → ∃ m', m' < m ∧ W (i + 1) m' H') ∧ ∀ x H', (Itl K a').yld i H x H' → g x (wipe σ vs) H' fun σ2 H2 => wipe σ2 vs = wipe σ vs ∧ tt σ2 H2 fun b H3 =>
        if b = true then tk σ2 H3 fun y H4 => tv σ2 H4 fun z H5 => ∃ kvs k, y = kV k ∧ H5 D = some (.dK kvs) ∧ kvs.length < sizeLine ∧ Nx (upd H5 D (.dK (putK kvs k z))) else Nx H3))) ∨
     ((∃ xs, SqT K H1 a' xs) ∧ (∀ D, H1 D = none → ∃ W : Nat → Nat → Hp → Prop, (∃ m, W 0 m (upd H1 D (.dK []))) ∧ ∀ i m H, W i m H →
      ((Itt K a').stop i H ∧ Q D H) ∨ ((Itt K a').go i H ∧ ∃ Nx : Hp → Prop, (∀ H', Nx H' → ∃ m', m' < m ∧ W (i + 1) m' H') ∧ ∀ x H', (Itt K a').yld i H x H' → g x (wipe σ vs) H' fun σ2 H2 => wipe σ2 vs = wipe σ vs ∧ tt σ2 H2 fun b H3 =>
        if b = true then tk σ2 H3 fun y H4 => tv σ2 H4 fun z H5 => ∃ kvs k, y = kV k ∧ H5 D = some (.dK kvs) ∧ kvs.length < sizeLine ∧ Nx (upd H5 D (.dK (putK kvs k z))) else Nx H3)))) := by
  refine ⟨a, rfl, ?_⟩
  rcases hS with h | h
  · exact .inl ⟨⟨xs, h⟩, fun D hD => dc_pureL h kzs hl hz nd hs hd hD⟩
  · exact .inr ⟨⟨xs, h⟩, fun D hD => dc_pureT h kzs hl hz nd hs hd hD⟩
theorem dc_pureLI (hS : SqL K H1 a xs) (kzs : List (Key × V)) (hl : kzs.length = xs.length) (hz : xs.length < sizeLine) (nd : (kzs.map (·.1)).Nodup)
    (hs : ∀ (i : Nat) (x : V) (kz : Key × V) (H' : Hp) (NY : V → V → Hp → Prop) (NN : Hp → Prop), xs[i]? = some x → kzs[i]? = some kz → Same H1 H' → (∀ H5, Same H' H5 → NY (kV kz.1) kz.2 H5) →
      g x (wipe σ vs) H' (fun σ2 H2 => wipe σ2 vs = wipe σ vs ∧ tt σ2 H2 fun b H3 => if b = true then tk σ2 H3 fun y H4 => tv σ2 H4 fun z H5 => NY y z H5 else NN H3))
    (hd : ∀ D H', H1 D = none → Same H1 H' → H' D = some (.dK kzs) → Q D H') :
    ∃ a', V.ref a = .ref a' ∧ (∃ xs, SqL K H1 a' xs) ∧ (∀ D, H1 D = none → ∃ W : Nat → Nat → Hp → Prop, (∃ m, W 0 m (upd H1 D (.dK []))) ∧ ∀ i m H, W i m H →
      ((Itl K a').stop i H ∧ Q D H) ∨ ((Itl K a').go i H ∧ ∃ Nx : Hp → Prop, (∀ H', Nx H' → ∃ m', m' < m ∧ W (i + 1) m' H') ∧ ∀ x H', (Itl K a').yld i H x H' → g x (wipe σ vs) H' fun σ2 H2 => wipe σ2 vs = wipe σ vs ∧ tt σ2 H2 fun b H3 =>
        if b = true then tk σ2 H3 fun y H4 => tv σ2 H4 fun z H5 => ∃ kvs k, y = kV k ∧ H5 D = some (.dK kvs) ∧ kvs.length < sizeLine ∧ Nx (upd H5 D (.dK (putK kvs k z))) else Nx H3)) := ⟨a, rfl, ⟨xs, hS⟩, fun D hD => dc_pureL hS kzs hl hz nd hs hd hD⟩
theorem i_dc {Q : VK} {wi : TI} (h : wi σ H1 fun J H1 => ∀ D, H1 D = none → ∃ W : Nat → Nat → Hp → Prop, (∃ m, W 0 m (upd H1 D (.dK []))) ∧ ∀ i m H, W i m H →
  (J.stop i H ∧ Q (.ref D) H) ∨ (J.go i H ∧ ∃ Nx : Hp → Prop, (∀ H', Nx H' → ∃ m', m' < m ∧ W (i + 1) m' H') ∧ ∀ x H', J.yld i H x H' → g x (wipe σ vs) H' fun σ2 H2 => wipe σ2 vs = wipe σ vs ∧ tt σ2 H2 fun b H3 =>
    if b = true then tk σ2 H3 fun y H4 => tv σ2 H4 fun z H5 => ∃ kvs k, y = kV k ∧ H5 D = some (.dK kvs) ∧ kvs.length < sizeLine ∧ Nx (upd H5 D (.dK (putK kvs k z))) else Nx H3)) : tDc wi g tt tk tv vs σ H1 Q := h
end
/-- all of a list of truths -/
theorem i_all {K : PySem.W.Frag} {H : Hp} {Q : VK} {p : Addr} {bs : List Bool} (hS : SqL K H p (bs.map V.bl)) (q : Q (.bl (bs.all id)) H) : rAll K [.ref p] H Q := ⟨p, bs, rfl, hS, q⟩
theorem i_lenS2 {K : PySem.W.Frag} {H : Hp} {Q : VK} {p : Addr} {xs : List V} (hS : SqS K H p xs) (q : Q (.int xs.length) H) : rLen K [.ref p] H Q := ⟨p, xs, rfl, hS, q⟩
/-- xs += ys -/
theorem i_ext2 {H : Hp} {Q : VK} {l b : Addr} {xs zs : List V} (h1 : H l = some (.lst xs)) (h2 : H b = some (.lst zs)) (hz : xs.length + zs.length ≤ sizeLine) (q : Q (.ref l) (upd H l (.lst (xs ++ zs)))) : rExt2 (.ref l) (.ref b) H Q := ⟨l, b, xs, zs, rfl, rfl, h1, h2, hz, q⟩
theorem i_isiC {K : PySem.W.Frag} {H : Hp} {Q : VK} {v : V} {t : Value} {m : String} {b : Bool} (h : TyX K H v t) (e : PySem.W.kitOne K t (.type m) = some b) (q : Q (.bl b) H) : rIsi K [v, .ty m] H Q := ⟨v, .ty m, t, .type m, b, rfl, .ty m, h, e, q⟩
/-- a list or a tuple of the heap -/
def SqO (H : Hp) (a : Addr) (xs : List V) : Prop := H a = some (.lst xs) ∨ H a = some (.tup xs)
theorem SqO.sq {K : PySem.W.Frag} {H : Hp} {a : Addr} {xs : List V} (h : SqO H a xs) : SqS K H a xs := h.elim .lst .tup
theorem SqO.same {H H' : Hp} {a : Addr} {xs : List V} (h : SqO H a xs) (e : Same H H') : SqO H' a xs := h.imp (e _ _) (e _ _)
theorem SqO.ne {H : Hp} {a p : Addr} {xs : List V} (h : SqO H a xs) (e : H p = none) : a ≠ p := by rintro rfl; rcases h with h | h <;> rw [e] at h <;> cases h
theorem SqO.but {H H' : Hp} {a b : Addr} {xs : List V} (h : SqO H a xs) (n : a ≠ b) (e : But b H H') : SqO H' a xs := h.imp (e _ _ n) (e _ _ n)
/-- tuple(xs) -/
def rTupOf (K : PySem.W.Frag) : List V → Hp → VK → Prop := fun xs H Q => ∃ p ys, xs = [.ref p] ∧ ((SqL K H p ys ∧ ∀ l, H l = none → Q (.ref l) (upd H l (.tup ys))) ∨ (SqT K H p ys ∧ Q (.ref p) H))
theorem c_tupleOf {X : Cx} : CallR X (.type "tuple") (rTupOf X.K) := call_tuple_of
theorem i_tupOf {K : PySem.W.Frag} {H : Hp} {Q : VK} {p : Addr} {xs : List V} (h : SqO H p xs) (q : ∀ l H', Same H H' → H' l = some (.tup xs) → Q (.ref l) H') : rTupOf K [.ref p] H Q := by
  rcases h with h | h
  · exact ⟨p, xs, rfl, .inl ⟨SqL.lst h, fun l hl => q l _ (Same.new _ hl) upd_same⟩⟩
  · exact ⟨p, xs, rfl, .inr ⟨SqT.tup h, q p _ (Same.refl _) h⟩⟩
open SeqAt in
/-- xs != [] -/
def rNeNil (K : PySem.W.Frag) : R2 := fun x y H Q => ∃ a b vs, x = .ref a ∧ y = .ref b ∧ SqL K H a vs ∧ SqL K H b [] ∧ Q (.bl (!vs.isEmpty)) H
section
open SeqAt
variable {X : Cx}
theorem op_neNil (hu : X.A.units + 64 < cLine) : OpR X (compareOp .NotEq) (rNeNil X.K) := by
  intro pins s σ H x y v u Q I rx ry h
  obtain ⟨a, b, vs, rfl, rfl, ha, hb, q⟩ := h
  cases (show v = .ref a from rx)
  cases (show u = .ref b from ry)
  obtain ⟨as, ra, p1, _⟩ := I.list ha
  obtain ⟨bs, rb, p2, _⟩ := I.list hb
  have l1 := ra.length
  have l2 := rb.length
  cases vs with
  | nil =>
    have z := RcNeAt.lists (A := X.A) (e := fun _ => true) p1.isList p2.isList (by simp at l1 l2 ⊢; omega) (by omega) (fun j h1 h2 => by simp at l1 h1; omega)
    rw [all_true] at z
    exact z X.prog X.w X.xe _ ⟨.bl false, H, I, rfl, q⟩
  | cons c r =>
    have z := RcNeAt.lists_lengths (A := X.A) p1.isList p2.isList (by simp at l1 l2 ⊢; omega) (by omega)
    exact z X.prog X.w X.xe _ ⟨.bl true, H, I, rfl, q⟩
/-- x != x of plain things -/
inductive SelfP (K : PySem.W.Frag) (H : Hp) : V → Prop
  | ps {v : V} {d : PyData} : Ps v d → SelfP K H v
  | lst {a : Addr} {vs : List V} : SqL K H a vs → (∀ v ∈ vs, It1 v) → SelfP K H (.ref a)
  | tup {a : Addr} {vs : List V} : SqT K H a vs → (∀ v ∈ vs, It1 v) → SelfP K H (.ref a)
  | dct {a : Addr} : H a = some (.dK []) → SelfP K H (.ref a)
def rNeSf (K : PySem.W.Frag) : R2 := fun x y H Q => x = y ∧ SelfP K H x ∧ Q (.bl false) H
theorem op_neSf (hu : X.A.units + 64 < cLine) : OpR X (compareOp .NotEq) (rNeSf X.K) := by
  intro pins s σ H x y v u Q I rx ry h
  obtain ⟨rfl, hs, q⟩ := h
  cases hs with
  | @ps v d h =>
    refine op_neD hu pins s σ H x x _ _ Q I rx ry ⟨d, d, h.dp, h.dp, h.shaped, h.shaped, ?_⟩
    rw [SeqAt.eqv_refl _ h.lay]
    exact q
  | @lst a vs ha hv =>
    cases (show v = .ref a from rx)
    cases (show u = .ref a from ry)
    obtain ⟨as, ra, p1, _⟩ := I.list ha
    have z := RcNeAt.lists (A := X.A) (e := fun _ => true) p1.isList p1.isList rfl (by omega) (fun j h1 h2 => eqAt_items hv ra ra j h1 h2)
    rw [all_true] at z
    exact z X.prog X.w X.xe _ ⟨.bl false, H, I, rfl, q⟩
  | @tup a vs ha hv =>
    cases (show v = .ref a from rx)
    cases (show u = .ref a from ry)
    obtain ⟨as, ra, p1, _⟩ := I.tuple ha
    have p2 : s.heap.IsTuple a as.toArray := p1
    have z := RcNeAt.tuples (A := X.A) (e := fun _ => true) p2 p2 (by omega) (fun j h1 h2 => eqAt_items hv ra ra j h1 h2)
    rw [all_true] at z
    simp only [beq_self_eq_true, Bool.and_self, Bool.not_true] at z
    exact z X.prog X.w X.xe _ ⟨.bl false, H, I, rfl, q⟩
  | @dct a ha => exact op_ne_dictA (by omega) pins s σ H _ _ v u Q I rx ry ⟨a, a, [], [], rfl, rfl, ha, ha, rfl, by simp, q⟩
end
end Ice

set_option Elab.async false
set_option linter.all false
set_option maxRecDepth 100000
set_option maxHeartbeats 4000000
set_option autoImplicit false
/-! Comprehensions whose items are made. -/
namespace Ice
open PySem PySem.Spec PyProof.Rows L2
section
variable {K : PySem.W.Frag} {a : Addr} {xs : List V} {g : TG} {tt : TT} {te : TE} {vs : List Nat} {σ : L2.St} {H1 : Hp} {Q : Addr → Hp → Prop}
theorem lc_relL (hS : SqL K H1 a xs) (hz : xs.length < sizeLine) (Rl : Nat → V → Hp → Prop) (mono : ∀ i y H H', Same H H' → Rl i y H → Rl i y H') (off : ∀ i y H D us ws, H D = some (.lst us) → Rl i y H → Rl i y (upd H D (.lst ws)))
    (hs : ∀ (i : Nat) (x : V) (H' : Hp) (NY : VK) (NN : Hp → Prop), xs[i]? = some x → Same H1 H' → (∀ y H4, Same H' H4 → Rl i y H4 → NY y H4) →
      g x (wipe σ vs) H' (fun σ2 H2 => wipe σ2 vs = wipe σ vs ∧ tt σ2 H2 fun b H3 => if b = true then te σ2 H3 NY else NN H3))
    (hd : ∀ D H' ys, H1 D = none → Same H1 H' → H' D = some (.lst ys) → ys.length = xs.length → (∀ i y, ys[i]? = some y → Rl i y H') → Q D H') :
    ∃ a', V.ref a = .ref a' ∧ (∃ xs, SqL K H1 a' xs) ∧ ∀ D, H1 D = none → ∃ W : Nat → Nat → Hp → Prop, (∃ m, W 0 m (upd H1 D (.lst []))) ∧ ∀ i m H, W i m H →
      ((Itl K a').stop i H ∧ Q D H) ∨ ((Itl K a').go i H ∧ ∃ Nx : Hp → Prop, (∀ H', Nx H' → ∃ m', m' < m ∧ W (i + 1) m' H') ∧ ∀ x H', (Itl K a').yld i H x H' → g x (wipe σ vs) H' fun σ2 H2 => wipe σ2 vs = wipe σ vs ∧ tt σ2 H2 fun b H3 =>
        if b = true then te σ2 H3 fun y H4 => ∃ acc, H4 D = some (.lst acc) ∧ acc.length < sizeLine ∧ Nx (upd H4 D (.lst (acc ++ [y]))) else Nx H3) := by
  refine ⟨a, rfl, ⟨xs, hS⟩, fun D hD => ?_⟩
  refine lc_list (fun i H' => Same H1 H' ∧ ∃ ys, H' D = some (.lst ys) ∧ ys.length = i ∧ ∀ j y, ys[j]? = some y → Rl j y H') ⟨Same.new _ hD, [], upd_same, rfl, fun j y h => by simp at h⟩ (fun i H' _ p => SqL.kep (fun o e => p.1 _ _ e) hS) ?_ ?_
  · rintro i x H' hx ⟨s, ys, k, hl, hr⟩
    have lt := (List.getElem?_eq_some_iff.mp hx).1
    refine hs i x H' _ _ hx s (fun y H4 s4 r4 => ?_)
    have k4 := s4 _ _ k
    refine ⟨_, k4, by omega, fun b u hb => ?_, ys ++ [y], upd_same, by simp [hl], fun j z hz => ?_⟩
    · rw [upd_ne (ne_of_none hb hD)]; exact s4 _ _ (s _ _ hb)
    · refine off _ _ _ _ _ _ k4 ?_
      rw [List.getElem?_append] at hz
      split at hz
      · exact mono _ _ _ _ s4 (hr j z hz)
      · rename_i nl
        have : j - ys.length = 0 := by
          have := (List.getElem?_eq_some_iff.mp hz).1
          simp at this; omega
        rw [this] at hz
        have e : j = i := by omega
        subst e
        rw [← Option.some.inj hz]
        exact r4
  · rintro H' ⟨s, ys, k, hl, hr⟩
    exact hd D H' ys hD s k hl hr
end
/-- what was made, item by item -/
theorem made_list {α : Type} {P : Addr → α → Prop} : ∀ (ys : List V) (L : List α), ys.length = L.length → (∀ (i : Nat) (y : V), ys[i]? = some y → ∃ (x : Addr) (z : α), y = V.ref x ∧ L[i]? = some z ∧ P x z) →
    ∃ L' : List (Addr × α), ys = L'.map (fun z => V.ref z.1) ∧ L'.map (·.2) = L ∧ ∀ z ∈ L', P z.1 z.2
  | [], [], _, _ => ⟨[], rfl, rfl, by simp⟩
  | [], _ :: _, h, _ => by simp at h
  | _ :: _, [], h, _ => by simp at h
  | y :: ys, c :: L, h, hi => by
    obtain ⟨x, z, rfl, hz, p⟩ := hi 0 y rfl
    obtain rfl := Option.some.inj hz
    obtain ⟨L', e1, e2, h3⟩ := made_list (P := P) ys L (by simpa using h) (fun i y hy => hi (i + 1) y hy)
    exact ⟨(x, c) :: L', by rw [e1]; rfl, by rw [← e2]; rfl, by
      intro z hz
      rcases List.mem_cons.mp hz with rfl | hz
      · exact p
      · exact h3 z hz⟩
end Ice

set_option Elab.async false
set_option linter.all false
set_option maxRecDepth 100000
set_option maxHeartbeats 4000000
set_option autoImplicit false
/-! Texts of words and numbers; made items of a list or a tuple. -/
namespace Ice
open PySem PySem.Spec PyProof.Rows L2
/-- a word or a number -/
inductive Wn : V → Prop
  | str {s : Str} : s.length ≤ 200 → Wn (.str s)
  | int {i : Int} : i.natAbs < 10 ^ 60 → Wn (.int i)
def txtV : V → Str
  | .str s => s
  | .int i => Str.ofString (toString i)
  | _ => Str.ofString ""
def rStrP : List V → Hp → VK → Prop := fun xs H Q => ∃ x, xs = [x] ∧ Wn x ∧ Q (.str (txtV x)) H
theorem c_strP {X : Cx} : CallR X (.type "str") rStrP := by
  intro pins s σ H xs us Q I r h
  obtain ⟨x, rfl, hw, q⟩ := h
  cases hw with
  | str hl => exact SkE.call_str_str pins s σ H _ us Q I r ⟨_, rfl, q⟩
  | @int i hi => exact call_str_int pins s σ H _ us Q I r ⟨i, rfl, Nat.lt_trans (PySem.Flt.log2_lt_of (k := 200) (by decide) (Nat.lt_trans hi (by decide))) (by decide), q⟩
theorem i_strP {x : V} {H : Hp} {Q : VK} (h : Wn x) (q : Q (.str (txtV x)) H) : rStrP [x] H Q := ⟨x, rfl, h, q⟩
theorem Wn.len {x : V} (h : Wn x) : (txtV x).length ≤ 200 := by
  cases h with
  | str h => exact h
  | @int i h =>
    have := int_text_length_le10 (a := i) (k := 60) (by decide) h
    show (Str.ofString (toString i)).length ≤ _
    rw [PySem.ofString_length]; omega
theorem i_joinP {K : PySem.W.Frag} {H : Hp} {Q : VK} {a : Str} {p : Addr} {ys : List Str} (hS : SqS K H p (ys.map V.str)) (hz : (ys.map (·.length)).sum + ys.length * a.length ≤ 16777216) (q : Q (.str (Txt.join a ys)) H) : rJoin K (.str a) [.ref p] H Q := ⟨a, p, ys, rfl, rfl, hS, hz, q⟩
theorem sum_le {ys : List Str} {k : Nat} (h : ∀ y ∈ ys, y.length ≤ k) : (ys.map (·.length)).sum ≤ k * ys.length := by
  induction ys with
  | nil => simp
  | cons y r ih =>
    have h1 := h y (by simp)
    have h2 := ih (fun z hz => h z (by simp [hz]))
    rw [List.map_cons, List.sum_cons, List.length_cons, Nat.mul_add]
    omega
section
variable {K : PySem.W.Frag} {a : Addr} {xs : List V} {g : TG} {tt : TT} {te : TE} {vs : List Nat} {σ : L2.St} {H1 : Hp} {Q : Addr → Hp → Prop}
theorem lc_relT (hS : SqT K H1 a xs) (hz : xs.length < sizeLine) (Rl : Nat → V → Hp → Prop) (mono : ∀ i y H H', Same H H' → Rl i y H → Rl i y H') (off : ∀ i y H D us ws, H D = some (.lst us) → Rl i y H → Rl i y (upd H D (.lst ws)))
    (hs : ∀ (i : Nat) (x : V) (H' : Hp) (NY : VK) (NN : Hp → Prop), xs[i]? = some x → Same H1 H' → (∀ y H4, Same H' H4 → Rl i y H4 → NY y H4) →
      g x (wipe σ vs) H' (fun σ2 H2 => wipe σ2 vs = wipe σ vs ∧ tt σ2 H2 fun b H3 => if b = true then te σ2 H3 NY else NN H3))
    (hd : ∀ D H' ys, H1 D = none → Same H1 H' → H' D = some (.lst ys) → ys.length = xs.length → (∀ i y, ys[i]? = some y → Rl i y H') → Q D H') :
    ∃ a', V.ref a = .ref a' ∧ (∃ xs, SqT K H1 a' xs) ∧ ∀ D, H1 D = none → ∃ W : Nat → Nat → Hp → Prop, (∃ m, W 0 m (upd H1 D (.lst []))) ∧ ∀ i m H, W i m H →
      ((Itt K a').stop i H ∧ Q D H) ∨ ((Itt K a').go i H ∧ ∃ Nx : Hp → Prop, (∀ H', Nx H' → ∃ m', m' < m ∧ W (i + 1) m' H') ∧ ∀ x H', (Itt K a').yld i H x H' → g x (wipe σ vs) H' fun σ2 H2 => wipe σ2 vs = wipe σ vs ∧ tt σ2 H2 fun b H3 =>
        if b = true then te σ2 H3 fun y H4 => ∃ acc, H4 D = some (.lst acc) ∧ acc.length < sizeLine ∧ Nx (upd H4 D (.lst (acc ++ [y]))) else Nx H3) := by
  refine ⟨a, rfl, ⟨xs, hS⟩, fun D hD => ?_⟩
  refine lc_tup (fun i H' => Same H1 H' ∧ ∃ ys, H' D = some (.lst ys) ∧ ys.length = i ∧ ∀ j y, ys[j]? = some y → Rl j y H') ⟨Same.new _ hD, [], upd_same, rfl, fun j y h => by simp at h⟩ (fun i H' _ p => SqT.kep (fun o e => p.1 _ _ e) hS) ?_ ?_
  · rintro i x H' hx ⟨s, ys, k, hl, hr⟩
    have lt := (List.getElem?_eq_some_iff.mp hx).1
    refine hs i x H' _ _ hx s (fun y H4 s4 r4 => ?_)
    have k4 := s4 _ _ k
    refine ⟨_, k4, by omega, fun b u hb => ?_, ys ++ [y], upd_same, by simp [hl], fun j z hz => ?_⟩
    · rw [upd_ne (ne_of_none hb hD)]; exact s4 _ _ (s _ _ hb)
    · refine off _ _ _ _ _ _ k4 ?_
      rw [List.getElem?_append] at hz
      split at hz
      · exact mono _ _ _ _ s4 (hr j z hz)
      · rename_i nl
        have : j - ys.length = 0 := by
          have := (List.getElem?_eq_some_iff.mp hz).1
          simp at this; omega
        rw [this] at hz
        have e : j = i := by omega
        subst e
        rw [← Option.some.inj hz]
        exact r4
  · rintro H' ⟨s, ys, k, hl, hr⟩
    exact hd D H' ys hD s k hl hr
end
theorem joinL_len (S : List Nat) : ∀ L : List (List Nat), (TL.joinL S L).length ≤ (L.map (·.length)).sum + L.length * S.length
  | [] => by simp [TL.joinL]
  | [p] => by simp [TL.joinL]
  | p :: q :: r => by
    have ih := joinL_len S (q :: r)
    show (p ++ (S ++ TL.joinL S (q :: r))).length ≤ _
    rw [List.length_append, List.length_append, List.map_cons, List.sum_cons, List.length_cons (as := q :: r), Nat.add_mul]
    omega
theorem join_len (a : Str) (ys : List Str) : (Txt.join a ys).length ≤ (ys.map (·.length)).sum + ys.length * a.length := by
  rw [TL.join_eq, ← tl_len, TL.tl_join]
  have := joinL_len (TL.tl a) (ys.map TL.tl)
  rw [List.length_map, tl_len] at this
  refine Nat.le_trans this ?_
  have e : ((ys.map TL.tl).map (·.length)) = ys.map (·.length) := by
    rw [List.map_map]
    exact List.map_congr_left fun y _ => tl_len y
  rw [e]; exact Nat.le_refl _
end Ice

set_option Elab.async false
set_option linter.all false
set_option maxRecDepth 100000
set_option maxHeartbeats 4000000
set_option autoImplicit false
/-! Comprehensions whose items are drawn from a box. -/
namespace Ice
open PySem PySem.Spec PyProof.Rows L2
section
variable {K : PySem.W.Frag} {a b : Addr} {xs : List V} {g : TG} {tt : TT} {te : TE} {vs : List Nat} {σ : L2.St} {H1 : Hp} {Q : Addr → Hp → Prop}
theorem lc_boxL {n0 c : Nat} (hS : SqL K H1 a xs) (ab : a ≠ b) (hB : Box H1 b n0) (hz : xs.length < sizeLine) (Rl : Nat → V → Hp → Prop) (mono : ∀ i y H H' k, Box H b k → But b H H' → Rl i y H → Rl i y H') (off : ∀ i y H D us ws, H D = some (.lst us) → Rl i y H → Rl i y (upd H D (.lst ws)))
    (hs : ∀ (i : Nat) (x : V) (H' : Hp) (NY : VK) (NN : Hp → Prop), xs[i]? = some x → But b H1 H' → Box H' b (n0 + c * i) → (∀ y H4, But b H' H4 → Box H4 b (n0 + c * (i + 1)) → Rl i y H4 → NY y H4) →
      g x (wipe σ vs) H' (fun σ2 H2 => wipe σ2 vs = wipe σ vs ∧ tt σ2 H2 fun b H3 => if b = true then te σ2 H3 NY else NN H3))
    (hd : ∀ D H' ys, H1 D = none → D ≠ b → But b H1 H' → Box H' b (n0 + c * xs.length) → H' D = some (.lst ys) → ys.length = xs.length → (∀ i y, ys[i]? = some y → Rl i y H') → Q D H') :
    ∃ a', V.ref a = .ref a' ∧ (∃ xs, SqL K H1 a' xs) ∧ ∀ D, H1 D = none → ∃ W : Nat → Nat → Hp → Prop, (∃ m, W 0 m (upd H1 D (.lst []))) ∧ ∀ i m H, W i m H →
      ((Itl K a').stop i H ∧ Q D H) ∨ ((Itl K a').go i H ∧ ∃ Nx : Hp → Prop, (∀ H', Nx H' → ∃ m', m' < m ∧ W (i + 1) m' H') ∧ ∀ x H', (Itl K a').yld i H x H' → g x (wipe σ vs) H' fun σ2 H2 => wipe σ2 vs = wipe σ vs ∧ tt σ2 H2 fun b H3 =>
        if b = true then te σ2 H3 fun y H4 => ∃ acc, H4 D = some (.lst acc) ∧ acc.length < sizeLine ∧ Nx (upd H4 D (.lst (acc ++ [y]))) else Nx H3) := by
  refine ⟨a, rfl, ⟨xs, hS⟩, fun D hD => ?_⟩
  have nD : D ≠ b := hB.ne hD
  refine lc_list (fun i H' => But b H1 H' ∧ Box H' b (n0 + c * i) ∧ ∃ ys, H' D = some (.lst ys) ∧ ys.length = i ∧ ∀ j y, ys[j]? = some y → Rl j y H') ⟨But.new _ hD, hB.upd nD, [], upd_same, rfl, fun j y h => by simp at h⟩ (fun i H' _ p => SqL.but p.1 ab hS) ?_ ?_
  · rintro i x H' hx ⟨s, B, ys, k, hl, hr⟩
    have lt := (List.getElem?_eq_some_iff.mp hx).1
    refine hs i x H' _ _ hx s B (fun y H4 s4 B4 r4 => ?_)
    have k4 := s4 _ _ nD k
    refine ⟨_, k4, by omega, (s.trans s4).upd hD, B4.upd nD, ys ++ [y], upd_same, by simp [hl], fun j z hz => ?_⟩
    refine off _ _ _ _ _ _ k4 ?_
    rw [List.getElem?_append] at hz
    split at hz
    · exact mono _ _ _ _ _ B s4 (hr j z hz)
    · rename_i nl
      have : j - ys.length = 0 := by
        have := (List.getElem?_eq_some_iff.mp hz).1
        simp at this; omega
      rw [this] at hz
      have e : j = i := by omega
      subst e
      rw [← Option.some.inj hz]
      exact r4
  · rintro H' ⟨s, B, ys, k, hl, hr⟩
    exact hd D H' ys hD nD s B k hl hr
end
theorem made_any {α : Type} : ∀ (ys : List V) (P : Nat → Addr → α → Prop), (∀ (i : Nat) (y : V), ys[i]? = some y → ∃ (p : Addr) (c : α), y = V.ref p ∧ P i p c) →
    ∃ L : List (Addr × α), ys = L.map (fun z => V.ref z.1) ∧ ∀ (i : Nat) (z : Addr × α), L[i]? = some z → P i z.1 z.2
  | [], _, _ => ⟨[], rfl, fun i z h => by simp at h⟩
  | y :: ys, P, h => by
    obtain ⟨p, c, rfl, hp⟩ := h 0 y rfl
    obtain ⟨L, e, hL⟩ := made_any ys (fun i => P (i + 1)) (fun i y hy => h (i + 1) y hy)
    refine ⟨(p, c) :: L, by rw [e]; rfl, fun i z hz => ?_⟩
    cases i with
    | zero => rw [← Option.some.inj hz]; exact hp
    | succ i => exact hL i z hz
theorem map_by {α β : Type} {L : List α} {f : α → β} {ns : List β} (hl : L.length = ns.length) (h : ∀ (i : Nat) (z : α), L[i]? = some z → ns[i]? = some (f z)) : L.map f = ns := by
  refine List.ext_getElem? fun i => ?_
  rw [List.getElem?_map]
  cases hz : L[i]? with
  | some z => exact (h i z hz).symm
  | none =>
    have : L.length ≤ i := List.getElem?_eq_none_iff.mp hz
    exact (List.getElem?_eq_none_iff.mpr (by omega)).symm
end Ice

set_option Elab.async false
set_option linter.all false
set_option maxRecDepth 100000
set_option maxHeartbeats 4000000
set_option autoImplicit false
/-! zip of a tuple and a list. -/
namespace Ice
open PySem PySem.Spec PyProof.Rows L2 RZ
/-- the tuple at a and the list at b, item by item, in new pairs -/
def ItM (K : PySem.W.Frag) (a b : Addr) : It where
  go i H := ∃ (xs ys : List V) (x y : V), SqT K H a xs ∧ SqL K H b ys ∧ xs[i]? = some x ∧ ys[i]? = some y
  yld i H v H' := ∃ T x y, v = .ref T ∧ H T = none ∧ H' = upd H T (.tup [x, y]) ∧ (∀ xs, SqT K H a xs → xs[i]? = some x) ∧ ∀ ys, SqL K H b ys → ys[i]? = some y
  stop i H := ∃ xs ys : List V, SqT K H a xs ∧ SqL K H b ys ∧ i ≤ xs.length ∧ i ≤ ys.length ∧ (i = xs.length ∨ i = ys.length)
theorem sep_of {z TI TO i1 i2 a b : Addr} (D : ZipApart z TI TO i1 i2 a b) : ZipSep2 z TI TO i1 i2 [i1, a] [i2, b] where
  TIz := D.TIz
  TOz := D.TOz
  TITO := D.TITO
  TIi1 := D.TIi1
  mem1 := by simp
  zf1 := by simp; exact ⟨D.i1z.symm, D.l1z.symm⟩
  Tf1 := by simp; exact ⟨D.TOi1, D.l1TO.symm⟩
  TIi2 := D.TIi2
  mem2 := by simp
  zf2 := by simp; exact ⟨D.i2z.symm, D.l2z.symm⟩
  Tf2 := by simp; exact ⟨D.TOi2, D.l2TO.symm⟩
  sep1_2 := by simp; exact ⟨D.i12, D.l2i1.symm⟩
  sep2_1 := by simp; exact ⟨D.i12.symm, D.l1i2.symm⟩
theorem turn_M {P : Program} {w : World} {K : PySem.W.Frag} {elts : List Expr} {kk : Nat} {tpos : Pos} {a b z TI TO i1 i2 : Addr} (D : ZipApart z TI TO i1 i2 a b) :
    Turn P w K (.Tuple elts kk tpos) (ItM K a b) [z, TI, TO, i1, i2] z (fun i h => IsZip h z TI TO .none ∧ IsPair h TI (.ref i1) (.ref i2) ∧ (∃ x y, IsPair h TO x y) ∧ h.IsTupleIter i1 a i ∧ h.IsListIter i2 b i) where
  mem := by simp
  obj := fun i h st c hc => by
    obtain ⟨hz, hTI, ⟨x, y, hTO⟩, ⟨o1, e1, _, d1⟩, ⟨o2, e2, _, d2⟩⟩ := st
    simp only [List.mem_cons, List.not_mem_nil, or_false] at hc
    rcases hc with rfl | rfl | rfl | rfl | rfl
    · exact ⟨_, hz, nofun⟩
    · exact ⟨_, hTI, nofun⟩
    · exact ⟨_, hTO, nofun⟩
    · exact ⟨o1, e1, fun v q => by rw [d1] at q; cases q⟩
    · exact ⟨o2, e2, fun v q => by rw [d2] at q; cases q⟩
  keep := fun i h h' st k => by
    obtain ⟨hz, hTI, ⟨x, y, hTO⟩, h1, h2⟩ := st
    exact ⟨k z (by simp) _ hz, k TI (by simp) _ hTI, ⟨x, y, k TO (by simp) _ hTO⟩, h1.at fun o q => k i1 (by simp) o q, h2.at fun o q => k i2 (by simp) o q⟩
  item := by
    intro X hP hw hK hc i pins s σ H E I hf st hg
    subst hP hw hK
    obtain ⟨hz, hTI, ⟨x0, y0, hTO⟩, h1, h2⟩ := st
    obtain ⟨xs, ys, x, y, hqx, hqy, hx, hy⟩ := hg
    obtain ⟨its, rv, p, _⟩ := I.tuple hqx
    obtain ⟨its2, rv2, p2, _⟩ := I.list hqy
    obtain ⟨u, hu, ru⟩ := rv.get hx
    obtain ⟨u2, hu2, ru2⟩ := rv2.get hy
    have hu' : its.toArray[i]? = some u := by simpa using hu
    have hu2' : its2.toArray[i]? = some u2 := by simpa using hu2
    have lt1 : i < its.toArray.size := (Array.getElem?_eq_some_iff.mp hu').1
    have lt2 : i < its2.toArray.size := (Array.getElem?_eq_some_iff.mp hu2').1
    have hzl : z < s.heap.objs.size := Heap.lt_size hz
    have hh : X.A.in1.handled = none := I.ok.hd hc
    refine wpAny_pyNext_zipD2_item (sep_of D) (Draws.tuple hh i1 a D.l1i1 its.toArray) (Draws.list hh i2 b D.l2i2 its2.toArray) hz hTI hTO ⟨h1, p⟩ ⟨h2, p2.isList⟩ lt1 lt2 fun v v2 h' tk e1 e2 z' TO' s1 s2 hT hsz hk => ?_
    have ev : v = u := Option.some.inj (e1.symm.trans hu')
    have ev2 : v2 = u2 := Option.some.inj (e2.symm.trans hu2')
    subst ev ev2
    refine ⟨_, rfl, wpAny_letOwnedTupleGo_zip (s := { s with heap := h', toks := tk }) z' fun h'' z'' sb => ?_⟩
    have hT2 : h''.get? s.heap.objs.size = some { cls := .type "tuple", data := .seq #[v, v2] } := (sb.2 _ (Nat.ne_of_gt hzl)).trans hT
    have new : ObjOk X.prog X.w (upd H s.heap.objs.size (.tup [x, y])) h'' s.heap.objs.size (.tup [x, y]) :=
      ⟨by show 2 ≤ sizeLine; decide, [v, v2], .cons ru (.cons ru2 .nil), ⟨_, hT2, rfl, _, rfl⟩⟩
    have I1 : Inv X pins σ (upd H s.heap.objs.size (.tup [x, y])) { s with heap := h'', toks := tk } :=
      I.turnedNew (t' := tk) (ch := [z, TI, TO, i1, i2]) (fun c o hb q => (sb.2 c (fun q' => hb (by simp [q']))).trans (hk c o (fun q' => hb (by simp [q'])) (fun q' => hb (by simp [q'])) (fun q' => hb (by simp [q'])) (fun q' => hb (by simp [q'])) q)) hf (Nat.le_refl _) new
    refine ⟨.ref s.heap.objs.size, _, I1, rfl, ⟨_, x, y, rfl, I.hok.fresh (Nat.le_refl _), rfl, fun l hl => by rw [I.tuple_inj hl hqx]; exact hx, fun l hl => by rw [I.list_inj hl hqy]; exact hy⟩, ⟨z'', ?_, ⟨v, v2, ?_⟩, ?_, ?_⟩, fun c hcm => ?_⟩
    · exact (sb.2 _ D.TIz).trans (hk _ _ D.TIz D.TITO D.TIi1 D.TIi2 hTI)
    · exact (sb.2 _ D.TOz).trans TO'
    · exact s1.1.at fun o q => (sb.2 _ D.i1z).trans q
    · exact s2.1.at fun o q => (sb.2 _ D.i2z).trans q
    · have hlt : c < s.heap.objs.size := by
        simp only [List.mem_cons, List.not_mem_nil, or_false] at hcm
        rcases hcm with rfl | rfl | rfl | rfl | rfl
        · exact hzl
        · exact Heap.lt_size hTI
        · exact Heap.lt_size hTO
        · obtain ⟨_, e1, _⟩ := h1; exact Heap.lt_size e1
        · obtain ⟨_, e2, _⟩ := h2; exact Heap.lt_size e2
      rw [upd_ne (Nat.ne_of_lt hlt)]
      exact (hf c hcm).1
  done := by
    intro X hP hw hK hc i pins s σ H E I hf st hg
    subst hP hw hK
    obtain ⟨hz, hTI, ⟨x0, y0, hTO⟩, h1, h2⟩ := st
    obtain ⟨xs, ys, hqx, hqy, l1, l2, hend⟩ := hg
    obtain ⟨its, rv, p, _⟩ := I.tuple hqx
    obtain ⟨its2, rv2, p2, _⟩ := I.list hqy
    have hh : X.A.in1.handled = none := I.ok.hd hc
    have k1 : its.toArray.size = xs.length := by rw [List.size_toArray]; exact rv.length.symm
    have k2 : its2.toArray.size = ys.length := by rw [List.size_toArray]; exact rv2.length.symm
    exact wpAny_pyNext_zipD2_end (sep_of D) (Draws.tuple hh i1 a D.l1i1 its.toArray) (Draws.list hh i2 b D.l2i2 its2.toArray) hz hTI hTO ⟨h1, p⟩ ⟨h2, p2.isList⟩ (by omega) (by omega) (by rcases hend with e | e; exact .inl (by omega); exact .inr (by omega))
      fun h' tk hk => ⟨rfl, I.turnedL (t' := tk) (ch := [z, TI, TO, i1, i2]) (fun c o hb q => hk c o (fun q' => hb (by simp [q'])) (fun q' => hb (by simp [q'])) (fun q' => hb (by simp [q'])) (fun q' => hb (by simp [q'])) q) hf⟩
  self := fun A i s Q E st h => wpAny_pyIter_zip st.1 h
/-- what zip's making leaves, step by step -/
abbrev zm1 (h : Heap) (a : Addr) : Heap := h.push { cls := .type "tuple_iterator", data := .fields #[.ref a, .int 0 0] }
abbrev zm2 (h : Heap) (a b : Addr) : Heap := (zm1 h a).push { cls := .type "list_iterator", data := .fields #[.ref b, .int 0 0] }
abbrev zm3 (h : Heap) (a b : Addr) : Heap := (zm2 h a b).push { cls := .type "tuple", data := .seq #[.ref h.objs.size, .ref (zm1 h a).objs.size] }
abbrev zm4 (h : Heap) (a b : Addr) : Heap := (zm3 h a b).push { cls := .type "tuple", data := .seq #[.none, .none] }
abbrev zm5 (h : Heap) (a b : Addr) : Heap := (zm4 h a b).push { cls := .type "zip", data := .fields #[.none, .bool false, .bool false, .ref (zm2 h a b).objs.size, .ref (zm3 h a b).objs.size] }
theorem meets_M (a b : Addr) (xs ys : Array Value) :
    Meets (Builtin.«zip.__new__» ⟨[.type "zip", .ref a, .ref b], []⟩) (fun _ R s => s.heap.IsTuple a xs ∧ s.heap.IsList b ys ∧ R (.ok (.ret (.ref (zm4 s.heap a b).objs.size))) { s with heap := zm5 s.heap a b }) :=
  .of_wp fun prog w A R s h => by
    obtain ⟨hp, g, d, tk, os⟩ := s
    obtain ⟨t1, t2, h⟩ := h
    have hsub := sub_zip
    have q1 : Heap.IsTuple (Shared.heap ⟨hp, g, d, tk, os⟩) a xs := t1
    have q2 : Heap.IsList (Shared.heap ⟨zm1 hp a, g, d, tk, os⟩) b ys := Heap.IsList.push t2 _
    wp_walk using wpAny_pyIter_tuple q1, wpAny_pyIter_list q2
    exact ⟨_, rfl, h⟩
section
variable {prog : Program} {w : World} {A : Around} {E : Value → Shared → Prop} {s : Shared}
theorem call_M {a b : Addr} {xs ys : Array Value} {Q : Value → Shared → Prop} (h1 : s.heap.IsTuple a xs) (h2 : s.heap.IsList b ys)
    (h : ∀ h' n, n = s.heap.objs.size → IsZip h' (n + 4) (n + 2) (n + 3) .none → IsPair h' (n + 2) (.ref n) (.ref (n + 1)) → IsPair h' (n + 3) .none .none → h'.IsTupleIter n a 0 → h'.IsListIter (n + 1) b 0 →
      (∀ c o, s.heap.get? c = some o → h'.get? c = some o) → Q (.ref (n + 4)) { s with heap := h' }) :
    wpAny (model prog w) A (call (.type "zip") [.ref a, .ref b]) Q E s := by
  refine callType_new F.called_zip (by decide) (F.typeCall_zip_2 _ _) (F.newCall_zip_2 _ _) (fun obj => F.args_object_init_3 obj _ _) F.entry_zip_new (meets_M a b xs ys) ⟨h1, h2, ?_⟩
  have z1 : (zm1 s.heap a).objs.size = s.heap.objs.size + 1 := Heap.size_push ..
  have z2 : (zm2 s.heap a b).objs.size = s.heap.objs.size + 2 := by rw [Heap.size_push, z1]
  have z3 : (zm3 s.heap a b).objs.size = s.heap.objs.size + 3 := by rw [Heap.size_push, z2]
  have z4 : (zm4 s.heap a b).objs.size = s.heap.objs.size + 4 := by rw [Heap.size_push, z3]
  have up : ∀ {h : Heap} {c : Addr} {o o' : Obj}, h.get? c = some o → (h.push o').get? c = some o := fun e => Heap.get?_push_of_some _ e
  have g5 : (zm5 s.heap a b).get? (zm4 s.heap a b).objs.size = some _ := Heap.get?_push_size _ rfl
  have g4 : (zm5 s.heap a b).get? (zm3 s.heap a b).objs.size = some _ := up (Heap.get?_push_size _ rfl)
  have g3 : (zm5 s.heap a b).get? (zm2 s.heap a b).objs.size = some _ := up (up (Heap.get?_push_size _ rfl))
  have g2 : (zm5 s.heap a b).get? (zm1 s.heap a).objs.size = some _ := up (up (up (Heap.get?_push_size _ rfl)))
  have g1 : (zm5 s.heap a b).get? s.heap.objs.size = some _ := up (up (up (up (Heap.get?_push_size _ rfl))))
  show _ ∧ _
  rw [z2, z3, z4] at g5
  rw [z1, z2] at g3
  rw [z3] at g4
  rw [z1] at g2
  rw [z4]
  exact ⟨⟨_, g5, rfl⟩, h _ _ rfl g5 g3 g4 ⟨_, g1, rfl, rfl⟩ ⟨_, g2, rfl, rfl⟩ fun c o x => up (up (up (up (up x))))⟩
end
def iZipM (K : PySem.W.Frag) (ta : TA) : TI := fun σ H R => ta σ H fun vs H1 => ∃ a b xs ys, vs = [.ref a, .ref b] ∧ SqT K H1 a xs ∧ SqL K H1 b ys ∧ R (ItM K a b) H1
theorem pi_zipM {X : Cx} {e e2 : Expr} {ta : TA} {p pos tpos : Pos} {elts : List Expr} {kk : Nat} (hg : Gl X "zip") (hm : X.mg "zip" = none) (ha : PA X [e, e2] ta)
    (hs : starEach [e, e2] X.env = (false, eval e X.env) :: starEach [e2] X.env := by rfl) (hpl : (backTo pos (starEach [e2] X.env)).any (·.1) = false := by rfl) :
    PI X (.Tuple elts kk tpos) (.Call (.Name "zip" p) [e, e2] [] pos) (iZipM X.K ta) := by
  constructor
  intro pins s σ H R I h
  refine Call_ (ld_blt I hg hm PyProof.Rows.boot_zip (PyProof.Rows.callWith_type1 (thn (ha.run pos pins s σ H _ I h) fun us s1 ⟨vs, H1, I1, r1, q1⟩ => ?_) hs hpl))
  obtain ⟨a, b, xs, ys, rfl, hqx, hqy, q⟩ := q1
  obtain ⟨u, v, rfl, ra, rb⟩ := vals2 r1
  cases (show u = .ref a from ra)
  cases (show v = .ref b from rb)
  obtain ⟨its, rv, p1, _⟩ := I1.tuple hqx
  obtain ⟨its2, rv2, p2, _⟩ := I1.list hqy
  obtain ⟨o1, ho1, _⟩ := id p1
  have p1' : s1.heap.IsTuple a its.toArray := p1
  refine call_M p1' p2.isList fun h' n en hz hTI hTO t1 t2 hk => wpAny_pyIter_zip hz ?_
  have I2 : Inv X pins σ H1 { s1 with heap := h' } := I1.kept (t' := s1.toks) hk
  refine ⟨n + 4, [n + 4, n + 2, n + 3, n, n + 1], _, _, H1, rfl, I2, turn_M (by rw [en]; exact PySem.W.ktu_apart s1.heap.objs.size a b (Heap.lt_size ho1) p2.lt), ⟨hz, hTI, ⟨_, _, hTO⟩, t1, t2⟩, ?_, q⟩
  intro c hcm
  have hle : s1.heap.objs.size ≤ c := by
    simp only [List.mem_cons, List.not_mem_nil, or_false] at hcm
    rcases hcm with rfl | rfl | rfl | rfl | rfl <;> omega
  exact I1.fpOk hle (I1.hok.fresh hle)
/-- a loop over zip of a tuple and a list that is no shorter -/
theorem for_zipM {K : PySem.W.Frag} {a b : Addr} {xs ys : List V} {g : TG} {tb : TS} {D : Ends} {σ : L2.St} {H : Hp} (hl : xs.length ≤ ys.length) (Pv : Nat → L2.St → Hp → Prop) (h0 : Pv 0 σ H) (hq : ∀ i σ H, Pv i σ H → SqT K H a xs ∧ SqL K H b ys)
    (hs : ∀ (i : Nat) (x y : V) (T : Addr) (σ : L2.St) (H : Hp), xs[i]? = some x → ys[i]? = some y → Pv i σ H → H T = none → g (.ref T) σ (upd H T (.tup [x, y])) fun σ2 H2 => tb { D with nx := Pv (i + 1), ct := Pv (i + 1), bk := D.nx } σ2 H2) (hd : ∀ σ H, Pv xs.length σ H → D.nx σ H) :
    ∃ W : Nat → Nat → L2.St → Hp → Prop, (∃ m, W 0 m σ H) ∧ ∀ i m σ H, W i m σ H →
      ((ItM K a b).stop i H ∧ D.nx σ H) ∨ ((ItM K a b).go i H ∧ ∃ N : L2.St → Hp → Prop, (∀ σ' H', N σ' H' → ∃ m', m' < m ∧ W (i + 1) m' σ' H') ∧ ∀ v H', (ItM K a b).yld i H v H' → g v σ H' fun σ2 H2 => tb { D with nx := N, ct := N, bk := D.nx } σ2 H2) := by
  refine ⟨fun i m σ H => m = xs.length - i ∧ i ≤ xs.length ∧ Pv i σ H, ⟨_, rfl, Nat.zero_le _, h0⟩, ?_⟩
  rintro i m σ H ⟨rfl, hi, pv⟩
  obtain ⟨qx, qy⟩ := hq i σ H pv
  rcases Nat.lt_or_eq_of_le hi with lt | rfl
  · have lt2 : i < ys.length := Nat.lt_of_lt_of_le lt hl
    refine .inr ⟨⟨xs, ys, _, _, qx, qy, List.getElem?_eq_getElem lt, List.getElem?_eq_getElem lt2⟩, Pv (i + 1), fun σ' H' p' => ⟨_, Nat.sub_lt_sub_left lt (Nat.lt_succ_self i), rfl, lt, p'⟩, ?_⟩
    rintro v H' ⟨T, x, y, rfl, hT, rfl, f1, f2⟩
    exact hs i x y T σ H (f1 xs qx) (f2 ys qy) pv hT
  · exact .inl ⟨⟨xs, ys, qx, qy, Nat.le_refl _, hl, .inl rfl⟩, hd σ H pv⟩
end Ice

set_option Elab.async false
set_option linter.all false
set_option maxRecDepth 100000
set_option maxHeartbeats 4000000
set_option autoImplicit false
/-! zip of a list and a tuple. -/
namespace Ice
open PySem PySem.Spec PyProof.Rows L2 RZ
/-- the tuple at a and the list at b, item by item, in new pairs -/
def ItN (K : PySem.W.Frag) (a b : Addr) : It where
  go i H := ∃ (xs ys : List V) (x y : V), SqL K H a xs ∧ SqT K H b ys ∧ xs[i]? = some x ∧ ys[i]? = some y
  yld i H v H' := ∃ T x y, v = .ref T ∧ H T = none ∧ H' = upd H T (.tup [x, y]) ∧ (∀ xs, SqL K H a xs → xs[i]? = some x) ∧ ∀ ys, SqT K H b ys → ys[i]? = some y
  stop i H := ∃ xs ys : List V, SqL K H a xs ∧ SqT K H b ys ∧ i ≤ xs.length ∧ i ≤ ys.length ∧ (i = xs.length ∨ i = ys.length)
theorem turn_N {P : Program} {w : World} {K : PySem.W.Frag} {elts : List Expr} {kk : Nat} {tpos : Pos} {a b z TI TO i1 i2 : Addr} (D : ZipApart z TI TO i1 i2 a b) :
    Turn P w K (.Tuple elts kk tpos) (ItN K a b) [z, TI, TO, i1, i2] z (fun i h => IsZip h z TI TO .none ∧ IsPair h TI (.ref i1) (.ref i2) ∧ (∃ x y, IsPair h TO x y) ∧ h.IsListIter i1 a i ∧ h.IsTupleIter i2 b i) where
  mem := by simp
  obj := fun i h st c hc => by
    obtain ⟨hz, hTI, ⟨x, y, hTO⟩, ⟨o1, e1, _, d1⟩, ⟨o2, e2, _, d2⟩⟩ := st
    simp only [List.mem_cons, List.not_mem_nil, or_false] at hc
    rcases hc with rfl | rfl | rfl | rfl | rfl
    · exact ⟨_, hz, nofun⟩
    · exact ⟨_, hTI, nofun⟩
    · exact ⟨_, hTO, nofun⟩
    · exact ⟨o1, e1, fun v q => by rw [d1] at q; cases q⟩
    · exact ⟨o2, e2, fun v q => by rw [d2] at q; cases q⟩
  keep := fun i h h' st k => by
    obtain ⟨hz, hTI, ⟨x, y, hTO⟩, h1, h2⟩ := st
    exact ⟨k z (by simp) _ hz, k TI (by simp) _ hTI, ⟨x, y, k TO (by simp) _ hTO⟩, h1.at fun o q => k i1 (by simp) o q, h2.at fun o q => k i2 (by simp) o q⟩
  item := by
    intro X hP hw hK hc i pins s σ H E I hf st hg
    subst hP hw hK
    obtain ⟨hz, hTI, ⟨x0, y0, hTO⟩, h1, h2⟩ := st
    obtain ⟨xs, ys, x, y, hqx, hqy, hx, hy⟩ := hg
    obtain ⟨its, rv, p, _⟩ := I.list hqx
    obtain ⟨its2, rv2, p2, _⟩ := I.tuple hqy
    obtain ⟨u, hu, ru⟩ := rv.get hx
    obtain ⟨u2, hu2, ru2⟩ := rv2.get hy
    have hu' : its.toArray[i]? = some u := by simpa using hu
    have hu2' : its2.toArray[i]? = some u2 := by simpa using hu2
    have lt1 : i < its.toArray.size := (Array.getElem?_eq_some_iff.mp hu').1
    have lt2 : i < its2.toArray.size := (Array.getElem?_eq_some_iff.mp hu2').1
    have hzl : z < s.heap.objs.size := Heap.lt_size hz
    have hh : X.A.in1.handled = none := I.ok.hd hc
    refine wpAny_pyNext_zipD2_item (sep_of D) (Draws.list hh i1 a D.l1i1 its.toArray) (Draws.tuple hh i2 b D.l2i2 its2.toArray) hz hTI hTO ⟨h1, p.isList⟩ ⟨h2, p2⟩ lt1 lt2 fun v v2 h' tk e1 e2 z' TO' s1 s2 hT hsz hk => ?_
    have ev : v = u := Option.some.inj (e1.symm.trans hu')
    have ev2 : v2 = u2 := Option.some.inj (e2.symm.trans hu2')
    subst ev ev2
    refine ⟨_, rfl, wpAny_letOwnedTupleGo_zip (s := { s with heap := h', toks := tk }) z' fun h'' z'' sb => ?_⟩
    have hT2 : h''.get? s.heap.objs.size = some { cls := .type "tuple", data := .seq #[v, v2] } := (sb.2 _ (Nat.ne_of_gt hzl)).trans hT
    have new : ObjOk X.prog X.w (upd H s.heap.objs.size (.tup [x, y])) h'' s.heap.objs.size (.tup [x, y]) :=
      ⟨by show 2 ≤ sizeLine; decide, [v, v2], .cons ru (.cons ru2 .nil), ⟨_, hT2, rfl, _, rfl⟩⟩
    have I1 : Inv X pins σ (upd H s.heap.objs.size (.tup [x, y])) { s with heap := h'', toks := tk } :=
      I.turnedNew (t' := tk) (ch := [z, TI, TO, i1, i2]) (fun c o hb q => (sb.2 c (fun q' => hb (by simp [q']))).trans (hk c o (fun q' => hb (by simp [q'])) (fun q' => hb (by simp [q'])) (fun q' => hb (by simp [q'])) (fun q' => hb (by simp [q'])) q)) hf (Nat.le_refl _) new
    refine ⟨.ref s.heap.objs.size, _, I1, rfl, ⟨_, x, y, rfl, I.hok.fresh (Nat.le_refl _), rfl, fun l hl => by rw [I.list_inj hl hqx]; exact hx, fun l hl => by rw [I.tuple_inj hl hqy]; exact hy⟩, ⟨z'', ?_, ⟨v, v2, ?_⟩, ?_, ?_⟩, fun c hcm => ?_⟩
    · exact (sb.2 _ D.TIz).trans (hk _ _ D.TIz D.TITO D.TIi1 D.TIi2 hTI)
    · exact (sb.2 _ D.TOz).trans TO'
    · exact s1.1.at fun o q => (sb.2 _ D.i1z).trans q
    · exact s2.1.at fun o q => (sb.2 _ D.i2z).trans q
    · have hlt : c < s.heap.objs.size := by
        simp only [List.mem_cons, List.not_mem_nil, or_false] at hcm
        rcases hcm with rfl | rfl | rfl | rfl | rfl
        · exact hzl
        · exact Heap.lt_size hTI
        · exact Heap.lt_size hTO
        · obtain ⟨_, e1, _⟩ := h1; exact Heap.lt_size e1
        · obtain ⟨_, e2, _⟩ := h2; exact Heap.lt_size e2
      rw [upd_ne (Nat.ne_of_lt hlt)]
      exact (hf c hcm).1
  done := by
    intro X hP hw hK hc i pins s σ H E I hf st hg
    subst hP hw hK
    obtain ⟨hz, hTI, ⟨x0, y0, hTO⟩, h1, h2⟩ := st
    obtain ⟨xs, ys, hqx, hqy, l1, l2, hend⟩ := hg
    obtain ⟨its, rv, p, _⟩ := I.list hqx
    obtain ⟨its2, rv2, p2, _⟩ := I.tuple hqy
    have hh : X.A.in1.handled = none := I.ok.hd hc
    have k1 : its.toArray.size = xs.length := by rw [List.size_toArray]; exact rv.length.symm
    have k2 : its2.toArray.size = ys.length := by rw [List.size_toArray]; exact rv2.length.symm
    exact wpAny_pyNext_zipD2_end (sep_of D) (Draws.list hh i1 a D.l1i1 its.toArray) (Draws.tuple hh i2 b D.l2i2 its2.toArray) hz hTI hTO ⟨h1, p.isList⟩ ⟨h2, p2⟩ (by omega) (by omega) (by rcases hend with e | e; exact .inl (by omega); exact .inr (by omega))
      fun h' tk hk => ⟨rfl, I.turnedL (t' := tk) (ch := [z, TI, TO, i1, i2]) (fun c o hb q => hk c o (fun q' => hb (by simp [q'])) (fun q' => hb (by simp [q'])) (fun q' => hb (by simp [q'])) (fun q' => hb (by simp [q'])) q) hf⟩
  self := fun A i s Q E st h => wpAny_pyIter_zip st.1 h
/-- what zip's making leaves, step by step -/
abbrev zn1 (h : Heap) (a : Addr) : Heap := h.push { cls := .type "list_iterator", data := .fields #[.ref a, .int 0 0] }
abbrev zn2 (h : Heap) (a b : Addr) : Heap := (zn1 h a).push { cls := .type "tuple_iterator", data := .fields #[.ref b, .int 0 0] }
abbrev zn3 (h : Heap) (a b : Addr) : Heap := (zn2 h a b).push { cls := .type "tuple", data := .seq #[.ref h.objs.size, .ref (zn1 h a).objs.size] }
abbrev zn4 (h : Heap) (a b : Addr) : Heap := (zn3 h a b).push { cls := .type "tuple", data := .seq #[.none, .none] }
abbrev zn5 (h : Heap) (a b : Addr) : Heap := (zn4 h a b).push { cls := .type "zip", data := .fields #[.none, .bool false, .bool false, .ref (zn2 h a b).objs.size, .ref (zn3 h a b).objs.size] }
theorem meets_N (a b : Addr) (xs ys : Array Value) :
    Meets (Builtin.«zip.__new__» ⟨[.type "zip", .ref a, .ref b], []⟩) (fun _ R s => s.heap.IsList a xs ∧ s.heap.IsTuple b ys ∧ R (.ok (.ret (.ref (zn4 s.heap a b).objs.size))) { s with heap := zn5 s.heap a b }) :=
  .of_wp fun prog w A R s h => by
    obtain ⟨hp, g, d, tk, os⟩ := s
    obtain ⟨t1, t2, h⟩ := h
    have hsub := sub_zip
    have q1 : Heap.IsList (Shared.heap ⟨hp, g, d, tk, os⟩) a xs := t1
    have q2 : Heap.IsTuple (Shared.heap ⟨zn1 hp a, g, d, tk, os⟩) b ys := Heap.IsTuple.push t2 _
    wp_walk using wpAny_pyIter_list q1, wpAny_pyIter_tuple q2
    exact ⟨_, rfl, h⟩
section
variable {prog : Program} {w : World} {A : Around} {E : Value → Shared → Prop} {s : Shared}
theorem call_N {a b : Addr} {xs ys : Array Value} {Q : Value → Shared → Prop} (h1 : s.heap.IsList a xs) (h2 : s.heap.IsTuple b ys)
    (h : ∀ h' n, n = s.heap.objs.size → IsZip h' (n + 4) (n + 2) (n + 3) .none → IsPair h' (n + 2) (.ref n) (.ref (n + 1)) → IsPair h' (n + 3) .none .none → h'.IsListIter n a 0 → h'.IsTupleIter (n + 1) b 0 →
      (∀ c o, s.heap.get? c = some o → h'.get? c = some o) → Q (.ref (n + 4)) { s with heap := h' }) :
    wpAny (model prog w) A (call (.type "zip") [.ref a, .ref b]) Q E s := by
  refine callType_new F.called_zip (by decide) (F.typeCall_zip_2 _ _) (F.newCall_zip_2 _ _) (fun obj => F.args_object_init_3 obj _ _) F.entry_zip_new (meets_N a b xs ys) ⟨h1, h2, ?_⟩
  have z1 : (zn1 s.heap a).objs.size = s.heap.objs.size + 1 := Heap.size_push ..
  have z2 : (zn2 s.heap a b).objs.size = s.heap.objs.size + 2 := by rw [Heap.size_push, z1]
  have z3 : (zn3 s.heap a b).objs.size = s.heap.objs.size + 3 := by rw [Heap.size_push, z2]
  have z4 : (zn4 s.heap a b).objs.size = s.heap.objs.size + 4 := by rw [Heap.size_push, z3]
  have up : ∀ {h : Heap} {c : Addr} {o o' : Obj}, h.get? c = some o → (h.push o').get? c = some o := fun e => Heap.get?_push_of_some _ e
  have g5 : (zn5 s.heap a b).get? (zn4 s.heap a b).objs.size = some _ := Heap.get?_push_size _ rfl
  have g4 : (zn5 s.heap a b).get? (zn3 s.heap a b).objs.size = some _ := up (Heap.get?_push_size _ rfl)
  have g3 : (zn5 s.heap a b).get? (zn2 s.heap a b).objs.size = some _ := up (up (Heap.get?_push_size _ rfl))
  have g2 : (zn5 s.heap a b).get? (zn1 s.heap a).objs.size = some _ := up (up (up (Heap.get?_push_size _ rfl)))
  have g1 : (zn5 s.heap a b).get? s.heap.objs.size = some _ := up (up (up (up (Heap.get?_push_size _ rfl))))
  show _ ∧ _
  rw [z2, z3, z4] at g5
  rw [z1, z2] at g3
  rw [z3] at g4
  rw [z1] at g2
  rw [z4]
  exact ⟨⟨_, g5, rfl⟩, h _ _ rfl g5 g3 g4 ⟨_, g1, rfl, rfl⟩ ⟨_, g2, rfl, rfl⟩ fun c o x => up (up (up (up (up x))))⟩
end
def iZipN (K : PySem.W.Frag) (ta : TA) : TI := fun σ H R => ta σ H fun vs H1 => ∃ a b xs ys, vs = [.ref a, .ref b] ∧ SqL K H1 a xs ∧ SqT K H1 b ys ∧ R (ItN K a b) H1
theorem pi_zipN {X : Cx} {e e2 : Expr} {ta : TA} {p pos tpos : Pos} {elts : List Expr} {kk : Nat} (hg : Gl X "zip") (hm : X.mg "zip" = none) (ha : PA X [e, e2] ta)
    (hs : starEach [e, e2] X.env = (false, eval e X.env) :: starEach [e2] X.env := by rfl) (hpl : (backTo pos (starEach [e2] X.env)).any (·.1) = false := by rfl) :
    PI X (.Tuple elts kk tpos) (.Call (.Name "zip" p) [e, e2] [] pos) (iZipN X.K ta) := by
  constructor
  intro pins s σ H R I h
  refine Call_ (ld_blt I hg hm PyProof.Rows.boot_zip (PyProof.Rows.callWith_type1 (thn (ha.run pos pins s σ H _ I h) fun us s1 ⟨vs, H1, I1, r1, q1⟩ => ?_) hs hpl))
  obtain ⟨a, b, xs, ys, rfl, hqx, hqy, q⟩ := q1
  obtain ⟨u, v, rfl, ra, rb⟩ := vals2 r1
  cases (show u = .ref a from ra)
  cases (show v = .ref b from rb)
  obtain ⟨its, rv, p1, _⟩ := I1.list hqx
  obtain ⟨its2, rv2, p2, _⟩ := I1.tuple hqy
  obtain ⟨o2, ho2, _⟩ := id p2
  have p2' : s1.heap.IsTuple b its2.toArray := p2
  refine call_N p1.isList p2' fun h' n en hz hTI hTO t1 t2 hk => wpAny_pyIter_zip hz ?_
  have I2 : Inv X pins σ H1 { s1 with heap := h' } := I1.kept (t' := s1.toks) hk
  refine ⟨n + 4, [n + 4, n + 2, n + 3, n, n + 1], _, _, H1, rfl, I2, turn_N (by rw [en]; exact PySem.W.ktu_apart s1.heap.objs.size a b p1.lt (Heap.lt_size ho2)), ⟨hz, hTI, ⟨_, _, hTO⟩, t1, t2⟩, ?_, q⟩
  intro c hcm
  have hle : s1.heap.objs.size ≤ c := by
    simp only [List.mem_cons, List.not_mem_nil, or_false] at hcm
    rcases hcm with rfl | rfl | rfl | rfl | rfl <;> omega
  exact I1.fpOk hle (I1.hok.fresh hle)
/-- a loop over zip of a tuple and a list that is no shorter -/
theorem for_zipN {K : PySem.W.Frag} {a b : Addr} {xs ys : List V} {g : TG} {tb : TS} {D : Ends} {σ : L2.St} {H : Hp} (hl : xs.length ≤ ys.length) (Pv : Nat → L2.St → Hp → Prop) (h0 : Pv 0 σ H) (hq : ∀ i σ H, Pv i σ H → SqL K H a xs ∧ SqT K H b ys)
    (hs : ∀ (i : Nat) (x y : V) (T : Addr) (σ : L2.St) (H : Hp), xs[i]? = some x → ys[i]? = some y → Pv i σ H → H T = none → g (.ref T) σ (upd H T (.tup [x, y])) fun σ2 H2 => tb { D with nx := Pv (i + 1), ct := Pv (i + 1), bk := D.nx } σ2 H2) (hd : ∀ σ H, Pv xs.length σ H → D.nx σ H) :
    ∃ W : Nat → Nat → L2.St → Hp → Prop, (∃ m, W 0 m σ H) ∧ ∀ i m σ H, W i m σ H →
      ((ItN K a b).stop i H ∧ D.nx σ H) ∨ ((ItN K a b).go i H ∧ ∃ N : L2.St → Hp → Prop, (∀ σ' H', N σ' H' → ∃ m', m' < m ∧ W (i + 1) m' σ' H') ∧ ∀ v H', (ItN K a b).yld i H v H' → g v σ H' fun σ2 H2 => tb { D with nx := N, ct := N, bk := D.nx } σ2 H2) := by
  refine ⟨fun i m σ H => m = xs.length - i ∧ i ≤ xs.length ∧ Pv i σ H, ⟨_, rfl, Nat.zero_le _, h0⟩, ?_⟩
  rintro i m σ H ⟨rfl, hi, pv⟩
  obtain ⟨qx, qy⟩ := hq i σ H pv
  rcases Nat.lt_or_eq_of_le hi with lt | rfl
  · have lt2 : i < ys.length := Nat.lt_of_lt_of_le lt hl
    refine .inr ⟨⟨xs, ys, _, _, qx, qy, List.getElem?_eq_getElem lt, List.getElem?_eq_getElem lt2⟩, Pv (i + 1), fun σ' H' p' => ⟨_, Nat.sub_lt_sub_left lt (Nat.lt_succ_self i), rfl, lt, p'⟩, ?_⟩
    rintro v H' ⟨T, x, y, rfl, hT, rfl, f1, f2⟩
    exact hs i x y T σ H (f1 xs qx) (f2 ys qy) pv hT
  · exact .inl ⟨⟨xs, ys, qx, qy, Nat.le_refl _, hl, .inl rfl⟩, hd σ H pv⟩
end Ice

set_option Elab.async false
set_option linter.all false
set_option maxRecDepth 100000
set_option maxHeartbeats 4000000
set_option autoImplicit false
/-! enumerate of a tuple. -/
namespace Ice
open PySem PySem.Spec PyProof.Rows L2
/-- the tuple at a, each item in a new pair with its number -/
def ItET (K : PySem.W.Frag) (a : Addr) : It where
  go i H := ∃ (xs : List V) (x : V), SqT K H a xs ∧ xs[i]? = some x
  yld i H v H' := ∃ T x, v = .ref T ∧ H T = none ∧ H' = upd H T (.tup [.int (i : Nat), x]) ∧ ∀ xs, SqT K H a xs → xs[i]? = some x
  stop i H := ∃ xs : List V, SqT K H a xs ∧ i = xs.length
theorem turn_ET {P : Program} {w : World} {K : PySem.W.Frag} {elts : List Expr} {kk : Nat} {tpos : Pos} {a e it : Addr} (hne : e ≠ it) (hea : e ≠ a) (hai : a ≠ it) :
    Turn P w K (.Tuple elts kk tpos) (ItET K a) [e, it] e (fun i h => (∃ old, IsEnum h e it ((i : Nat) : Int) old) ∧ h.IsTupleIter it a i) where
  mem := by simp
  obj := fun i h st b hb => by
    obtain ⟨⟨old, he⟩, ⟨o, ho, hc, hd⟩⟩ := st
    have e' : b = e ∨ b = it := by simpa using hb
    rcases e' with z | z
    · rw [z]; exact ⟨_, he, fun v q => nomatch q⟩
    · rw [z]; exact ⟨o, ho, fun v q => by rw [hd] at q; cases q⟩
  keep := fun i h h' st k => let ⟨⟨old, he⟩, hi⟩ := st; ⟨⟨old, k e (by simp) _ he⟩, hi.at fun o q => k it (by simp) o q⟩
  item := by
    intro X hP hw hK hc i pins s σ H E I hf st hg
    subst hP hw hK
    obtain ⟨⟨old, he⟩, hit⟩ := st
    obtain ⟨xs, x, hq, hx⟩ := hg
    obtain ⟨its, rv, p, _⟩ := I.tuple hq
    obtain ⟨u, hu, ru⟩ := rv.get hx
    have hel : e < s.heap.objs.size := Heap.lt_size he
    have hil : it < s.heap.objs.size := by obtain ⟨_, q, _⟩ := hit; exact Heap.lt_size q
    have hu' : its.toArray[i]? = some u := by simpa using hu
    have hlt : i < its.toArray.size := (Array.getElem?_eq_some_iff.mp hu').1
    have hh : X.A.in1.handled = none := I.ok.hd hc
    refine wpAny_pyNext_enum_itemD (Draws.tuple hh it a hai its.toArray) he ⟨hit, p⟩ hlt hne (by simp; exact ⟨hne, hea⟩) fun x2 h' tk hp2 ho hs hT hsz hk => ?_
    have ev : x2 = u := Option.some.inj (hp2.symm.trans hu')
    subst ev
    refine ⟨_, rfl, wpAny_letOwnedTupleGo_enum (s := { s with heap := h', toks := tk + 1 }) ho fun h'' he' sb => ?_⟩
    have hT2 : h''.get? s.heap.objs.size = some { cls := .type "tuple", data := .seq #[.int i tk, x2] } := (sb.2 _ (Nat.ne_of_gt hel)).trans hT
    have new : ObjOk X.prog X.w (upd H s.heap.objs.size (.tup [.int (i : Nat), x])) h'' s.heap.objs.size (.tup [.int (i : Nat), x]) :=
      ⟨by show 2 ≤ sizeLine; decide, [.int i tk, x2], .cons ⟨_, rfl⟩ (.cons ru .nil), ⟨_, hT2, rfl, _, rfl⟩⟩
    have I1 : Inv X pins σ (upd H s.heap.objs.size (.tup [.int (i : Nat), x])) { s with heap := h'', toks := tk + 1 } :=
      I.turnedNew (ch := [e, it]) (fun b ob hb q => (sb.2 b (fun z => hb (by simp [z]))).trans (hk b ob (fun z => hb (by simp [z])) (fun z => hb (by simp [z])) q)) hf (Nat.le_refl _) new
    refine ⟨.ref s.heap.objs.size, _, I1, rfl, ⟨_, x, rfl, I.hok.fresh (Nat.le_refl _), rfl, fun l hl => by rw [I.tuple_inj hl hq]; exact hx⟩, ⟨⟨x2, ?_⟩, hs.1.at fun o q => (sb.2 it (Ne.symm hne)).trans q⟩, fun b hb => ?_⟩
    · have e1 : ((i + 1 : Nat) : Int) = (i : Int) + 1 := by omega
      rw [e1]; exact he'
    · have hb' : b < s.heap.objs.size := by
        have e' : b = e ∨ b = it := by simpa using hb
        rcases e' with z | z
        · rw [z]; exact hel
        · rw [z]; exact hil
      rw [upd_ne (Nat.ne_of_lt hb')]
      exact (hf b hb).1
  done := by
    intro X hP hw hK hc i pins s σ H E I hf st hg
    subst hP hw hK
    obtain ⟨⟨old, he⟩, hit⟩ := st
    obtain ⟨xs, hq, hl⟩ := hg
    obtain ⟨its, rv, p, _⟩ := I.tuple hq
    have hh : X.A.in1.handled = none := I.ok.hd hc
    have k1 : its.toArray.size = xs.length := by rw [List.size_toArray]; exact rv.length.symm
    have hit' : s.heap.IsTupleIter it a its.toArray.size := by rw [k1, ← hl]; exact hit
    exact wpAny_pyNext_enum_endD (Draws.tuple hh it a hai its.toArray) he ⟨hit', p⟩ fun h' eb => ⟨rfl, I.turnedL (t' := s.toks) (ch := [e, it]) (fun c o hb q => eb c o (fun q' => hb (by simp [q'])) q) hf⟩
  self := fun A i s Q E st h => let ⟨⟨_, he⟩, _⟩ := st; wpAny_pyIter_enum he h
set_option maxHeartbeats 4000000 in
theorem meets_enumB {v : Value} {o : Obj} {H : Heap → Prop} (B : Begins v o H) :
    Meets (Builtin.«enumerate.__new__» ⟨[.type "enumerate", v], []⟩) (fun _ R s => H s.heap ∧
      R (.ok (.ret (.ref (s.heap.push o).objs.size))) { s with heap := (s.heap.push o).push { cls := .type "enumerate", data := .fields #[.none, .bool false, .ref s.heap.objs.size, rawInt 0, .none, .none] } }) :=
  .of_wp fun prog w A R s h => by
    obtain ⟨hp, g, d, tk, os⟩ := s; obtain ⟨h1, h⟩ := h
    have hsub := sub_enumerate
    have q1 : ∀ {A' : Around} {E : Value → Shared → Prop} {Q : Value → Shared → Prop}, Q (.ref hp.objs.size) ⟨hp.push o, g, d, tk, os⟩ → wpAny (model prog w) A' (pyIter v) Q E ⟨hp, g, d, tk, os⟩ :=
      fun q => B.iter prog w _ _ ⟨hp, g, d, tk, os⟩ _ h1 q
    wp_walk using q1
    refine wpAny_stack_any fun st => wpAny_pure ?_
    split
    · rename_i c _ _ _ _ _
      cases (c == Value.type "enumerate")
      · wp_walk using q1
        exact ⟨_, rfl, h⟩
      · wp_walk using q1
        exact ⟨_, rfl, h⟩
    · wp_walk using q1
      exact ⟨_, rfl, h⟩
section
variable {prog : Program} {w : World} {A : Around} {E : Value → Shared → Prop} {s : Shared}
theorem call_enumB {v : Value} {o : Obj} {H : Heap → Prop} {Q : Value → Shared → Prop} (B : Begins v o H) (h1 : H s.heap)
    (h : ∀ h', IsEnum h' (s.heap.objs.size + 1) s.heap.objs.size 0 .none → h'.get? s.heap.objs.size = some o → h'.objs.size = s.heap.objs.size + 2 →
      (∀ b o, s.heap.get? b = some o → h'.get? b = some o) → Q (.ref (s.heap.objs.size + 1)) { s with heap := h' }) :
    wpAny (model prog w) A (call (.type "enumerate") [v]) Q E s := by
  refine callType_new F.called_enumerate (by decide) (F.typeCall_enumerate_1 _) (F.newCall_enumerate_1 _) (fun obj => F.args_object_init_2 obj _) F.entry_enumerate_new
    (meets_enumB B) ⟨h1, ?_⟩
  have hz : (s.heap.push o).objs.size = s.heap.objs.size + 1 := Heap.size_push ..
  show _ ∧ _
  rw [hz]
  have he : IsEnum ((s.heap.push o).push { cls := .type "enumerate", data := .fields #[.none, .bool false, .ref s.heap.objs.size, rawInt 0, .none, .none] }) (s.heap.objs.size + 1) s.heap.objs.size 0 .none := by
    have := Heap.get?_push_size (s.heap.push o) (o := { cls := .type "enumerate", data := .fields #[.none, .bool false, .ref s.heap.objs.size, rawInt 0, .none, .none] }) rfl
    rw [hz] at this; exact this
  refine ⟨⟨_, he, rfl⟩, h _ he (Heap.get?_push_of_some _ (Heap.get?_push_size _ B.free)) (by rw [Heap.size_push, hz]) fun b o x => Heap.get?_push_of_some _ (Heap.get?_push_of_some _ x)⟩
end
def iEnumT (K : PySem.W.Frag) (ta : TA) : TI := fun σ H R => ta σ H fun vs H1 => ∃ a xs, vs = [.ref a] ∧ SqT K H1 a xs ∧ R (ItET K a) H1
theorem pi_enumT {X : Cx} {e : Expr} {ta : TA} {p pos tpos : Pos} {elts : List Expr} {kk : Nat} (hg : Gl X "enumerate") (hm : X.mg "enumerate" = none) (ha : PA X [e] ta) (hs : starEach [e] X.env = [(false, eval e X.env)] := by rfl) :
    PI X (.Tuple elts kk tpos) (.Call (.Name "enumerate" p) [e] [] pos) (iEnumT X.K ta) := by
  refine ⟨fun pins s σ H R I h => ?_⟩
  refine Call_ (ld_blt I hg hm boot_enumerate (PyProof.Rows.callWith_type1 (thn (ha.run pos pins s σ H _ I h) fun us s1 ⟨vs, H1, I1, r1, q1⟩ => ?_) hs rfl))
  obtain ⟨a, xs, ex, hq, q⟩ := q1
  subst ex
  cases r1 with
  | cons r rr =>
    cases rr
    cases r
    obtain ⟨its, rv, p', _⟩ := I1.tuple hq
    have hal : a < s1.heap.objs.size := by obtain ⟨_, ho, _⟩ := id p'; exact Heap.lt_size ho
    have p2 : s1.heap.IsTuple a its.toArray := p'
    refine call_enumB (begins_tuple a its.toArray) p2 fun h' he hit hsz hk => wpAny_pyIter_enum he ?_
    have I2 : Inv X pins σ H1 { s1 with heap := h' } := I1.kept (t' := s1.toks) hk
    refine ⟨s1.heap.objs.size + 1, [s1.heap.objs.size + 1, s1.heap.objs.size], _, _, H1, rfl, I2, turn_ET (a := a) (e := s1.heap.objs.size + 1) (it := s1.heap.objs.size) (Nat.succ_ne_self _) (Nat.ne_of_gt (Nat.lt_succ_of_lt hal)) (Nat.ne_of_lt hal), ⟨⟨.none, he⟩, ⟨_, hit, rfl, rfl⟩⟩, fun b hb => ?_, q⟩
    have e' : b = s1.heap.objs.size + 1 ∨ b = s1.heap.objs.size := by simpa using hb
    have hle : s1.heap.objs.size ≤ b := by
      rcases e' with z | z
      · rw [z]; exact Nat.le_add_right _ _
      · rw [z]; exact Nat.le_refl _
    exact I1.fpOk hle (I1.hok.fresh hle)
theorem i_enumT {K : PySem.W.Frag} {ta : TA} {σ : L2.St} {H : Hp} {R : It → Hp → Prop} (h : ta σ H fun vs H1 => ∃ a xs, vs = [.ref a] ∧ SqT K H1 a xs ∧ R (ItET K a) H1) : iEnumT K ta σ H R := h
/-- a loop over enumerate of a tuple -/
theorem for_enumT {K : PySem.W.Frag} {a : Addr} {xs : List V} {g : TG} {tb : TS} {D : Ends} {σ : L2.St} {H : Hp} (Pv : Nat → L2.St → Hp → Prop) (h0 : Pv 0 σ H) (hq : ∀ i σ H, Pv i σ H → SqT K H a xs)
    (hs : ∀ (i : Nat) (x : V) (T : Addr) (σ : L2.St) (H : Hp), xs[i]? = some x → Pv i σ H → H T = none → g (.ref T) σ (upd H T (.tup [.int (i : Nat), x])) fun σ2 H2 => tb { D with nx := Pv (i + 1), ct := Pv (i + 1), bk := D.nx } σ2 H2) (hd : ∀ σ H, Pv xs.length σ H → D.nx σ H) :
    ∃ W : Nat → Nat → L2.St → Hp → Prop, (∃ m, W 0 m σ H) ∧ ∀ i m σ H, W i m σ H →
      ((ItET K a).stop i H ∧ D.nx σ H) ∨ ((ItET K a).go i H ∧ ∃ N : L2.St → Hp → Prop, (∀ σ' H', N σ' H' → ∃ m', m' < m ∧ W (i + 1) m' σ' H') ∧ ∀ v H', (ItET K a).yld i H v H' → g v σ H' fun σ2 H2 => tb { D with nx := N, ct := N, bk := D.nx } σ2 H2) := by
  refine ⟨fun i m σ H => m = xs.length - i ∧ i ≤ xs.length ∧ Pv i σ H, ⟨_, rfl, Nat.zero_le _, h0⟩, ?_⟩
  rintro i m σ H ⟨rfl, hi, pv⟩
  have qx := hq i σ H pv
  rcases Nat.lt_or_eq_of_le hi with lt | rfl
  · refine .inr ⟨⟨xs, _, qx, List.getElem?_eq_getElem lt⟩, Pv (i + 1), fun σ' H' p' => ⟨_, Nat.sub_lt_sub_left lt (Nat.lt_succ_self i), rfl, lt, p'⟩, ?_⟩
    rintro v H' ⟨T, x, rfl, hT, rfl, f1⟩
    exact hs i x T σ H (f1 xs qx) pv hT
  · exact .inl ⟨⟨xs, qx, rfl⟩, hd σ H pv⟩
end Ice

set_option Elab.async false
set_option linter.all false
set_option maxRecDepth 100000
set_option maxHeartbeats 4000000
set_option autoImplicit false
/-! Tables of the module with text keys; an instance made by a call with a star. -/
namespace Ice
open PySem PySem.Spec PyProof.Rows L2
def tabV (L : List (Str × Value)) (z : Str) : Option Value := (L.find? fun p => p.1 == z).map (·.2)
inductive Ents (P : Params) : List DictEntry → List (Str × Value) → Prop
  | nil : Ents P [] []
  | cons {h : Int} {x : Str} {t : Tok} {v : Value} {r : List DictEntry} {rs : List (Str × Value)} : h = PyData.keyHash P x → Ents P r rs → Ents P (⟨h, .str x t, v⟩ :: r) ((x, v) :: rs)
theorem Ents.lit {P : Params} : ∀ {l : List DictEntry} {rs : List (Str × Value)}, Ents P l rs → PySem.W.KeysLit P l
  | _, _, .nil => trivial
  | _, _, .cons e r => ⟨⟨_, _, rfl, e⟩, r.lit⟩
theorem Ents.noRef {P : Params} : ∀ {l : List DictEntry} {rs : List (Str × Value)}, Ents P l rs → l.any (·.refKey) = false
  | _, _, .nil => rfl
  | _, _, .cons e r => by rw [List.any_cons, r.noRef]; rfl
theorem Ents.find {P : Params} (z : Str) : ∀ {l : List DictEntry} {rs : List (Str × Value)}, Ents P l rs → (l.find? (·.key.isStr z)).map (·.val) = tabV rs z
  | _, _, .nil => rfl
  | _, _, @Ents.cons _ h x t v r rs e k => by
    unfold tabV
    have q : (DictEntry.key ⟨h, .str x t, v⟩).isStr z = (x == z) := rfl
    rw [List.find?_cons, List.find?_cons, q]
    cases x == z with
    | true => rfl
    | false => exact k.find z
theorem Ents.nsIn {K : PySem.W.Frag} {P : Params} {d : Addr} {es : Array DictEntry} {n : Nat} {rs : List (Str × Value)} (h : K.lookup d = some ⟨.type "dict", none, .dict es n, #[]⟩) (e : Ents P es.toList rs) (z : Str) : PySem.W.nsIn K d z = some (tabV rs z) := by
  have f := e.find z
  unfold PySem.W.nsIn
  rw [h]
  show (match es.toList.find? (·.key.isStr z) with
      | some e => some (some e.val)
      | none => if es.toList.any (·.refKey) then none else some none) = _
  cases q : es.toList.find? (·.key.isStr z) with
  | some y => rw [q] at f; rw [← f]; rfl
  | none => rw [q] at f; rw [← f, e.noRef]; rfl
/-- C(*y), C of the program's own -/
def tMakeS (K : PySem.W.Frag) (C : Addr) (sp : Sp) (dvs : List V) (E : L2.St → XK) (te : TE) : TE := fun σ H Q => te σ H fun y H1 => ∃ a xs, y = V.ref a ∧ (SqT K H1 a xs ∨ SqL K H1 a xs) ∧ ∀ x dx, H1 x = none → H1 dx = none → dx ≠ x →
  sp (.ref x :: (xs ++ dvs)) (upd (upd H1 dx (.own x)) x (.ins C dx [])) (fun v H2 => v = .non ∧ Q (.ref x) H2) (E σ)
section
variable {X : Cx} {X0 : CXT} {k : Nat} {f C : Addr} {fd : FuncData} {ps : List Str} {sp : Sp} {ds : List Value} {dvs : List V} {E : L2.St → XK} {x : Str} {e : Expr} {te : TE} {p pos sp_ : Pos}
theorem g_makeS (M : Mk X.K C f) (F : FnG X.prog X.w X.K X.mg X.base X0 k f fd ps sp) (hr : Room (k + 1) X.A) (hgd : X.A.guards = some []) (hg : Gl X x) (hm : X.mg x = some (.ref C)) (hb : Binds X.K fd ps ds) (hd : Vals dvs ds) (hx : ∀ σ, PassesAt X0 X σ (E σ))
    (he : PE X e te) (hdb : (x == ("__debug__" : Str)) = false := by decide) (hst : starEach [.Starred e sp_] X.env = [(true, eval e X.env)] := by rfl) : PE X (.Call (.Name x p) [.Starred e sp_] [] pos) (tMakeS X.K C sp dvs E te) := by
  constructor
  intro pins s σ H Q I h
  refine wpAny_Call_Name_kw (ld_glob I hg hm ?_ hdb)
  refine PySem.W.callWith_S (h₀ := X.base) I.ok.mod.kin M.kp (thn (he.run pins s σ H _ I h) fun v s1 ⟨y, H1, I1, ry, a, xs, ey, hxs, q⟩ => ?_) hst
  subst ey
  obtain rfl : v = Value.ref a := ry
  exact StX.star_any I1 hxs fun us s2 I2 rv => ⟨I2.kIn, run_mke M F hr hgd hb hd (hx σ) (fun {H2 e s2 s'} J c => hx σ _ H2 s2 e s' J c) I2 rv q⟩
end
theorem i_makeS {K : PySem.W.Frag} {C : Addr} {sp : Sp} {dvs : List V} {E : L2.St → XK} {te : TE} {σ : L2.St} {H : Hp} {Q : VK} (h : te σ H fun y H1 => ∃ a xs, y = V.ref a ∧ (SqT K H1 a xs ∨ SqL K H1 a xs) ∧ ∀ x dx, H1 x = none → H1 dx = none → dx ≠ x →
    sp (.ref x :: (xs ++ dvs)) (upd (upd H1 dx (.own x)) x (.ins C dx [])) (fun v H2 => v = .non ∧ Q (.ref x) H2) (E σ)) : tMakeS K C sp dvs E te σ H Q := h
section
variable {K : PySem.W.Frag} {a : Addr} {xs : List V} {g : TG} {tt : TT} {te : TE} {vs : List Nat} {σ : L2.St} {H1 : Hp} {Q : Addr → Hp → Prop}
/-- a comprehension each of whose items is a new list -/
theorem lc_newL (hS : SqL K H1 a xs) (cs : List (List V)) (hl : cs.length = xs.length) (hz : xs.length < sizeLine)
    (hs : ∀ (i : Nat) (x : V) (c : List V) (H' : Hp) (NY : VK) (NN : Hp → Prop), xs[i]? = some x → cs[i]? = some c → Same H1 H' → (∀ p H4, Same H' H4 → H' p = none → H4 p = some (.lst c) → NY (.ref p) H4) →
      g x (wipe σ vs) H' (fun σ2 H2 => wipe σ2 vs = wipe σ vs ∧ tt σ2 H2 fun b H3 => if b = true then te σ2 H3 NY else NN H3))
    (hd : ∀ D H' (ps : List Addr), H1 D = none → Same H1 H' → H' D = some (.lst (ps.map V.ref)) → ps.length = xs.length → (∀ (i : Nat) (p : Addr) (c : List V), ps[i]? = some p → cs[i]? = some c → H' p = some (.lst c)) → Q D H') :
    ∃ a', V.ref a = .ref a' ∧ (∃ xs, SqL K H1 a' xs) ∧ ∀ D, H1 D = none → ∃ W : Nat → Nat → Hp → Prop, (∃ m, W 0 m (upd H1 D (.lst []))) ∧ ∀ i m H, W i m H →
      ((Itl K a').stop i H ∧ Q D H) ∨ ((Itl K a').go i H ∧ ∃ Nx : Hp → Prop, (∀ H', Nx H' → ∃ m', m' < m ∧ W (i + 1) m' H') ∧ ∀ x H', (Itl K a').yld i H x H' → g x (wipe σ vs) H' fun σ2 H2 => wipe σ2 vs = wipe σ vs ∧ tt σ2 H2 fun b H3 =>
        if b = true then te σ2 H3 fun y H4 => ∃ acc, H4 D = some (.lst acc) ∧ acc.length < sizeLine ∧ Nx (upd H4 D (.lst (acc ++ [y]))) else Nx H3) := by
  refine ⟨a, rfl, ⟨xs, hS⟩, fun D hD => ?_⟩
  refine lc_list (fun i H' => Same H1 H' ∧ ∃ ps : List Addr, H' D = some (.lst (ps.map V.ref)) ∧ ps.length = i ∧ ∀ (j : Nat) (p : Addr) (c : List V), ps[j]? = some p → cs[j]? = some c → p ≠ D ∧ H' p = some (.lst c)) ⟨Same.new _ hD, [], upd_same, rfl, by simp⟩ (fun i H' _ p => SqL.kep (fun o e => p.1 _ _ e) hS) ?_ ?_
  · rintro i x H' hx ⟨s, ps, k, el, hr⟩
    have lt := (List.getElem?_eq_some_iff.mp hx).1
    have lc : i < cs.length := by omega
    refine hs i x cs[i] H' _ _ hx (List.getElem?_eq_getElem lc) s (fun p H4 s4 np k4 => ?_)
    have kD := s4 _ _ k
    have npD : p ≠ D := by rintro rfl; rw [k] at np; cases np
    refine ⟨_, kD, by rw [List.length_map]; omega, fun b u hb => ?_, ps ++ [p], by rw [upd_same, List.map_append]; rfl, by simp [el], fun j q c hq hc => ?_⟩
    · rw [upd_ne (ne_of_none hb hD)]; exact s4 _ _ (s _ _ hb)
    · rw [List.getElem?_append] at hq
      split at hq
      · obtain ⟨n, e⟩ := hr j q c hq hc
        exact ⟨n, by rw [upd_ne n]; exact s4 _ _ e⟩
      · have z := (List.getElem?_eq_some_iff.mp hq).1
        have e0 : j - ps.length = 0 := by simp at z; omega
        rw [e0] at hq
        have e1 : j = i := by omega
        subst e1
        rw [List.getElem?_eq_getElem lc] at hc
        cases hc
        cases hq
        exact ⟨npD, by rw [upd_ne npD]; exact k4⟩
  · rintro H' ⟨s, ps, k, el, hr⟩
    exact hd D H' ps hD s k el fun i p c h1 h2 => (hr i p c h1 h2).2
end
theorem i_dnin {σ : L2.St} {H : Hp} {Q : VK} {td ty : TE} (h : ty σ H fun y H1 => td σ H1 fun x H2 => ∃ a o, x = .ref a ∧ DGet H2 a y o ∧ Q (.bl (!o.isSome)) H2) : tDNotIn ty td σ H Q := h
theorem for_tupK {K : PySem.W.Frag} {a : Addr} {xs : List V} {g : TG} {tb : TS} {D : Ends} {σ : L2.St} {H : Hp} (hS : SqT K H a xs) (Pv : Nat → L2.St → Hp → Prop) (h0 : Pv 0 σ H) (hl : ∀ i σ' H', i ≤ xs.length → Pv i σ' H' → Kep H H' a)
    (hs : ∀ i x σ H, xs[i]? = some x → Pv i σ H → g x σ H fun σ2 H2 => tb { D with nx := Pv (i + 1), ct := Pv (i + 1), bk := D.nx } σ2 H2) (hd : ∀ σ H, Pv xs.length σ H → D.nx σ H) :
    ∃ a', V.ref a = .ref a' ∧ (∃ xs, SqT K H a' xs) ∧ ∃ W : Nat → Nat → L2.St → Hp → Prop, (∃ m, W 0 m σ H) ∧ ∀ i m σ H, W i m σ H →
      ((Itt K a').stop i H ∧ D.nx σ H) ∨ ((Itt K a').go i H ∧ ∃ N : L2.St → Hp → Prop, (∀ σ' H', N σ' H' → ∃ m', m' < m ∧ W (i + 1) m' σ' H') ∧ ∀ x H', (Itt K a').yld i H x H' → g x σ H' fun σ2 H2 => tb { D with nx := N, ct := N, bk := D.nx } σ2 H2) :=
  ⟨a, rfl, ⟨xs, hS⟩, for_tup Pv h0 (fun i σ' H' hi p => SqT.kep (hl i σ' H' hi p) hS) hs hd⟩
theorem i_rep {H : Hp} {Q : VK} {l : Addr} {xs : List V} {k : Int} (h : H l = some (.lst xs)) (h0 : 0 ≤ k) (h1 : k ≤ 1000) (hz : xs.length ≤ 100) (q : ∀ p H', New H p (.lst (List.replicate k.toNat xs).flatten) H' → Q (.ref p) H') : rRep (.ref l) (.int k) H Q :=
  ⟨l, k, xs, rfl, rfl, h, by omega, by omega, by
    rw [sizeLine_eq]
    have : xs.length * k.toNat ≤ 100 * 1000 := Nat.mul_le_mul hz (by omega)
    omega, fun p hp => q p _ (.mk' hp)⟩
open SeqAt in
/-- xs == [] -/
def rEqNil (K : PySem.W.Frag) : R2 := fun x y H Q => ∃ a b vs, x = .ref a ∧ y = .ref b ∧ SqL K H a vs ∧ SqL K H b [] ∧ Q (.bl vs.isEmpty) H
section
open SeqAt
variable {X : Cx}
theorem op_eqNil (hu : X.A.units + 64 < cLine) : OpR X (compareOp .Eq) (rEqNil X.K) := by
  intro pins s σ H x y v u Q I rx ry h
  obtain ⟨a, b, vs, rfl, rfl, ha, hb, q⟩ := h
  cases (show v = .ref a from rx)
  cases (show u = .ref b from ry)
  obtain ⟨as, ra, p1, _⟩ := I.list ha
  obtain ⟨bs, rb, p2, _⟩ := I.list hb
  have l1 := ra.length
  have l2 := rb.length
  cases vs with
  | nil =>
    have z := RcAt.lists (A := X.A) (e := fun _ => true) p1.isList p2.isList (by simp at l1 l2 ⊢; omega) (by omega) (fun j h1 h2 => by simp at l1 h1; omega)
    rw [all_true] at z
    exact z X.prog X.w X.xe _ ⟨.bl true, H, I, rfl, q⟩
  | cons c r =>
    have z := RcAt.lists_lengths (A := X.A) p1.isList p2.isList (by simp at l1 l2 ⊢; omega) (by omega)
    exact z X.prog X.w X.xe _ ⟨.bl false, H, I, rfl, q⟩
end
theorem i_neNil {K : PySem.W.Frag} {H : Hp} {Q : VK} {a b : Addr} {vs : List V} (ha : H a = some (.lst vs)) (hb : H b = some (.lst [])) (q : Q (.bl (!vs.isEmpty)) H) : rNeNil K (.ref a) (.ref b) H Q := ⟨a, b, vs, rfl, rfl, SqL.lst ha, SqL.lst hb, q⟩
theorem i_eqNil {K : PySem.W.Frag} {H : Hp} {Q : VK} {a b : Addr} {vs : List V} (ha : H a = some (.lst vs)) (hb : H b = some (.lst [])) (q : Q (.bl vs.isEmpty) H) : rEqNil K (.ref a) (.ref b) H Q := ⟨a, b, vs, rfl, rfl, SqL.lst ha, SqL.lst hb, q⟩
def sgnV (c : Nat) : V := .str ⟨#[c]⟩
open TL in
/-- the signs of a text that a test lets by -/
theorem lc_sift {x : Str} {g : TG} {tt : TT} {te : TE} {vs : List Nat} {σ : L2.St} {H1 : Hp} {Q : Addr → Hp → Prop} (p : Nat → Bool) (hl : x.length ≤ 100000)
    (hs : ∀ (c : Nat) (H : Hp) (NY : VK) (NN : Hp → Prop), c ∈ tl x → (p c = true → NY (sgnV c) H) → (p c = false → NN H) →
      g (.str ⟨#[c]⟩) (wipe σ vs) H (fun σ2 H2 => wipe σ2 vs = wipe σ vs ∧ tt σ2 H2 fun b H3 => if b = true then te σ2 H3 NY else NN H3))
    (hd : ∀ D H', H1 D = none → Same H1 H' → H' D = some (.lst (((tl x).filter p).map sgnV)) → Q D H') : ∀ D, H1 D = none →
    ∃ W : Nat → Nat → Hp → Prop, (∃ m, W 0 m (upd H1 D (.lst []))) ∧ ∀ i m H, W i m H →
      ((Its x).stop i H ∧ Q D H) ∨ ((Its x).go i H ∧ ∃ Nx : Hp → Prop, (∀ H', Nx H' → ∃ m', m' < m ∧ W (i + 1) m' H') ∧ ∀ v H', (Its x).yld i H v H' → g v (wipe σ vs) H' fun σ2 H2 => wipe σ2 vs = wipe σ vs ∧ tt σ2 H2 fun b H3 =>
        if b = true then te σ2 H3 fun y H4 => ∃ acc, H4 D = some (.lst acc) ∧ acc.length < sizeLine ∧ Nx (upd H4 D (.lst (acc ++ [y]))) else Nx H3) := by
  intro D hD
  refine lc_text (fun i H' => Same H1 H' ∧ H' D = some (.lst ((((tl x).take i).filter p).map sgnV))) ⟨Same.new _ hD, upd_same⟩ ?_ ?_
  · rintro i c H hc ⟨s, k⟩
    have e : (tl x).take (i + 1) = (tl x).take i ++ [c] := by rw [List.take_add_one, hc]; rfl
    refine hs c H _ _ (List.mem_of_getElem? hc) (fun h => ?_) (fun h => ?_)
    · refine ⟨_, k, ?_, fun b u hb => ?_, ?_⟩
      · have l1 : (((tl x).take i).filter p).length ≤ ((tl x).take i).length := List.length_filter_le _ _
        have l3 := tl_len x
        rw [List.length_map, sizeLine_eq]
        rw [List.length_take] at l1
        omega
      · rw [upd_ne (ne_of_none hb hD)]; exact s _ _ hb
      · rw [upd_same, e, List.filter_append, List.filter_cons_of_pos h, List.map_append]; rfl
    · refine ⟨s, ?_⟩
      rw [k, e, List.filter_append, List.filter_cons_of_neg (by rw [h]; decide)]
      simp
  · rintro H ⟨s, k⟩
    rw [List.take_length] at k
    exact hd D H hD s k
theorem sift_empty (l : List Nat) (p : Nat → Bool) : ((l.filter p).map sgnV).isEmpty = decide (∀ c ∈ l, p c = false) := by
  induction l with
  | nil => rfl
  | cons a r ih =>
    by_cases h : p a = true
    · rw [List.filter_cons_of_pos h, List.map_cons, decide_eq_false (fun z => by have := z a (List.mem_cons_self ..); rw [h] at this; cases this)]; rfl
    · rw [List.filter_cons_of_neg h, ih, decide_eq_decide]
      simp only [List.mem_cons, forall_eq_or_imp]
      exact ⟨fun z => ⟨by simpa using h, z⟩, fun z => z.2⟩
/-- one walk or another -/
def iAlt (w1 w2 : TI) : TI := fun σ H R => w1 σ H R ∨ w2 σ H R
theorem pi_alt {X : Cx} {tg it : Expr} {w1 w2 : TI} (h1 : PI X tg it w1) (h2 : PI X tg it w2) : PI X tg it (iAlt w1 w2) :=
  ⟨fun pins s σ H R I h => h.elim (h1.run pins s σ H R I) (h2.run pins s σ H R I)⟩
theorem walk_enumT {K : PySem.W.Frag} {a : Addr} {xs : List V} : Walk (ItET K a) xs.length (fun H => SqT K H a xs) (YPair (fun i => some (.int (i : Nat))) (fun i => xs[i]?)) := by
  refine ⟨fun i _ hi q => ⟨xs, xs[i], q, by simp [hi]⟩, fun _ q => ⟨xs, q, rfl⟩, fun i H v H' _ q y => ?_⟩
  obtain ⟨T, x, h1, h2, h3, h4⟩ := y
  exact ⟨T, .int (i : Nat), x, h1, h2, h3, rfl, h4 xs q⟩
section
variable {K : PySem.W.Frag} {xs : List V} {g : TG} {tt : TT} {te : TE} {vs : List Nat} {σ : L2.St} {H1 : Hp} {Q : Addr → Hp → Prop}
/-- a comprehension over an enumeration that only adds to the heap -/
theorem lc_gathE {J : It} {G : Hp → Prop} (w : Walk J xs.length G (YPair (fun i => some (.int (i : Nat))) (fun i => xs[i]?))) (hG : ∀ H', Same H1 H' → G H') (os : List (Option V)) (hl : os.length = xs.length) (hz : xs.length < sizeLine)
    (hs : ∀ (i : Nat) (x : V) (o : Option V) (T : Addr) (H' : Hp) (NY : VK) (NN : Hp → Prop), xs[i]? = some x → os[i]? = some o → Same H1 H' → H' T = some (.tup [.int (i : Nat), x]) → (∀ y H4, o = some y → Same H' H4 → NY y H4) → (∀ H3, o = none → Same H' H3 → NN H3) →
      g (.ref T) (wipe σ vs) H' (fun σ2 H2 => wipe σ2 vs = wipe σ vs ∧ tt σ2 H2 fun b H3 => if b = true then te σ2 H3 NY else NN H3))
    (hd : ∀ D H', H1 D = none → Same H1 H' → H' D = some (.lst (gath os)) → Q D H') : ∀ D, H1 D = none →
    ∃ W : Nat → Nat → Hp → Prop, (∃ m, W 0 m (upd H1 D (.lst []))) ∧ ∀ i m H, W i m H →
      (J.stop i H ∧ Q D H) ∨ (J.go i H ∧ ∃ Nx : Hp → Prop, (∀ H', Nx H' → ∃ m', m' < m ∧ W (i + 1) m' H') ∧ ∀ x H', J.yld i H x H' → g x (wipe σ vs) H' fun σ2 H2 => wipe σ2 vs = wipe σ vs ∧ tt σ2 H2 fun b H3 =>
        if b = true then te σ2 H3 fun y H4 => ∃ acc, H4 D = some (.lst acc) ∧ acc.length < sizeLine ∧ Nx (upd H4 D (.lst (acc ++ [y]))) else Nx H3) := by
  intro D hD
  refine lc_it w (fun i H' => Same H1 H' ∧ H' D = some (.lst (gath (os.take i)))) ⟨Same.new _ hD, upd_same⟩ (fun i H' _ p => hG H' p.1) ?_ ?_
  · rintro i v H' H'' hi ⟨s, k⟩ ⟨T, a0, x, rfl, hT, rfl, ea, hx⟩
    cases ea
    have lt : i < os.length := by omega
    have ho : os[i]? = some os[i] := List.getElem?_eq_getElem lt
    have sT : Same H' (upd H' T (.tup [.int (i : Nat), x])) := Same.new _ hT
    refine hs i x _ T _ _ _ hx ho (s.trans sT) upd_same (fun y H4 e s4 => ?_) (fun H3 e s3 => ?_)
    · have k4 := s4 _ _ (sT _ _ k)
      refine ⟨_, k4, ?_, fun b u hb => ?_, ?_⟩
      · have l1 := gath_len (os.take i)
        have l2 := List.length_take_le i os
        omega
      · rw [upd_ne (ne_of_none hb hD)]; exact s4 _ _ (sT _ _ (s _ _ hb))
      · rw [upd_same, gath_snoc ho, e]; rfl
    · refine ⟨s.trans (sT.trans s3), ?_⟩
      rw [gath_snoc ho, e]
      show _ = some (HO.lst (_ ++ []))
      rw [List.append_nil]
      exact s3 _ _ (sT _ _ k)
  · rintro H' ⟨s, k⟩
    rw [← hl, List.take_length] at k
    exact hd D H' hD s k
end
theorem i_enumL {K : PySem.W.Frag} {ta : TA} {σ : L2.St} {H : Hp} {R : It → Hp → Prop} (h : ta σ H fun vs H1 => ∃ a xs, vs = [.ref a] ∧ SqL K H1 a xs ∧ R (Ite K a) H1) : iEnum K ta σ H R := h
end Ice

set_option Elab.async false
set_option linter.all false
set_option maxRecDepth 100000
set_option maxHeartbeats 4000000
set_option autoImplicit false
/-! zip of a list, a tuple and a list. -/
namespace Ice
open PySem PySem.Spec PyProof.Rows L2 RZ
def It3 (K : PySem.W.Frag) (a b c : Addr) : It where
  go i H := ∃ (xs ys us : List V) (x y u : V), SqL K H a xs ∧ SqT K H b ys ∧ SqL K H c us ∧ xs[i]? = some x ∧ ys[i]? = some y ∧ us[i]? = some u
  yld i H v H' := ∃ T x y u, v = .ref T ∧ H T = none ∧ H' = upd H T (.tup [x, y, u]) ∧ (∀ xs, SqL K H a xs → xs[i]? = some x) ∧ (∀ ys, SqT K H b ys → ys[i]? = some y) ∧ ∀ us, SqL K H c us → us[i]? = some u
  stop i H := ∃ xs ys us : List V, SqL K H a xs ∧ SqT K H b ys ∧ SqL K H c us ∧ i ≤ xs.length ∧ i ≤ ys.length ∧ i ≤ us.length ∧ (i = xs.length ∨ i = ys.length ∨ i = us.length)
theorem turn_3 {P : Program} {w : World} {K : PySem.W.Frag} {elts : List Expr} {kk : Nat} {tpos : Pos} {a b c z TI TO i1 i2 i3 : Addr} (D : ZipSep3 z TI TO i1 i2 i3 [i1, a] [i2, b] [i3, c]) (n1 : a ≠ i1) (n2 : b ≠ i2) (n3 : c ≠ i3) :
    Turn P w K (.Tuple elts kk tpos) (It3 K a b c) [z, TI, TO, i1, i2, i3] z (fun i h => IsZip h z TI TO .none ∧ IsTupOf3 h TI (.ref i1) (.ref i2) (.ref i3) ∧ (∃ x y u, IsTupOf3 h TO x y u) ∧ h.IsListIter i1 a i ∧ h.IsTupleIter i2 b i ∧ h.IsListIter i3 c i) where
  mem := by simp
  obj := fun i h st d hd => by
    obtain ⟨hz, hTI, ⟨x, y, u, hTO⟩, ⟨o1, e1, _, d1⟩, ⟨o2, e2, _, d2⟩, ⟨o3, e3, _, d3⟩⟩ := st
    simp only [List.mem_cons, List.not_mem_nil, or_false] at hd
    rcases hd with rfl | rfl | rfl | rfl | rfl | rfl
    · exact ⟨_, hz, nofun⟩
    · exact ⟨_, hTI, nofun⟩
    · exact ⟨_, hTO, nofun⟩
    · exact ⟨o1, e1, fun v q => by rw [d1] at q; cases q⟩
    · exact ⟨o2, e2, fun v q => by rw [d2] at q; cases q⟩
    · exact ⟨o3, e3, fun v q => by rw [d3] at q; cases q⟩
  keep := fun i h h' st k => by
    obtain ⟨hz, hTI, ⟨x, y, u, hTO⟩, h1, h2, h3⟩ := st
    exact ⟨k z (by simp) _ hz, k TI (by simp) _ hTI, ⟨x, y, u, k TO (by simp) _ hTO⟩, h1.at fun o q => k i1 (by simp) o q, h2.at fun o q => k i2 (by simp) o q, h3.at fun o q => k i3 (by simp) o q⟩
  item := by
    intro X hP hw hK hc i pins s σ H E I hf st hg
    subst hP hw hK
    obtain ⟨hz, hTI, ⟨x0, y0, u0, hTO⟩, h1, h2, h3⟩ := st
    obtain ⟨xs, ys, us, x, y, u, hqx, hqy, hqu, hx, hy, hu⟩ := hg
    obtain ⟨its, rv, p, _⟩ := I.list hqx
    obtain ⟨its2, rv2, p2, _⟩ := I.tuple hqy
    obtain ⟨its3, rv3, p3, _⟩ := I.list hqu
    obtain ⟨w1, hw1, r1⟩ := rv.get hx
    obtain ⟨w2, hw2, r2⟩ := rv2.get hy
    obtain ⟨w3, hw3, r3⟩ := rv3.get hu
    have g1 : its.toArray[i]? = some w1 := by simpa using hw1
    have g2 : its2.toArray[i]? = some w2 := by simpa using hw2
    have g3 : its3.toArray[i]? = some w3 := by simpa using hw3
    have lt1 : i < its.toArray.size := (Array.getElem?_eq_some_iff.mp g1).1
    have lt2 : i < its2.toArray.size := (Array.getElem?_eq_some_iff.mp g2).1
    have lt3 : i < its3.toArray.size := (Array.getElem?_eq_some_iff.mp g3).1
    have hzl : z < s.heap.objs.size := Heap.lt_size hz
    have hh : X.A.in1.handled = none := I.ok.hd hc
    refine wpAny_pyNext_zipD3_item D (Draws.list hh i1 a n1 its.toArray) (Draws.tuple hh i2 b n2 its2.toArray) (Draws.list hh i3 c n3 its3.toArray) hz hTI hTO ⟨h1, p.isList⟩ ⟨h2, p2⟩ ⟨h3, p3.isList⟩ lt1 lt2 lt3 fun v1 v2 v3 h' tk e1 e2 e3 z' TO' s1 s2 s3 hT hsz hk => ?_
    have ev1 : v1 = w1 := Option.some.inj (e1.symm.trans g1)
    have ev2 : v2 = w2 := Option.some.inj (e2.symm.trans g2)
    have ev3 : v3 = w3 := Option.some.inj (e3.symm.trans g3)
    subst ev1 ev2 ev3
    refine ⟨_, rfl, wpAny_letOwnedTupleGo_zip (s := { s with heap := h', toks := tk }) z' fun h'' z'' sb => ?_⟩
    have hT2 : h''.get? s.heap.objs.size = some { cls := .type "tuple", data := .seq #[v1, v2, v3] } := (sb.2 _ (Nat.ne_of_gt hzl)).trans hT
    have new : ObjOk X.prog X.w (upd H s.heap.objs.size (.tup [x, y, u])) h'' s.heap.objs.size (.tup [x, y, u]) :=
      ⟨by show 3 ≤ sizeLine; decide, [v1, v2, v3], .cons r1 (.cons r2 (.cons r3 .nil)), ⟨_, hT2, rfl, _, rfl⟩⟩
    have I1 : Inv X pins σ (upd H s.heap.objs.size (.tup [x, y, u])) { s with heap := h'', toks := tk } :=
      I.turnedNew (t' := tk) (ch := [z, TI, TO, i1, i2, i3]) (fun c' o hb q => (sb.2 c' (fun q' => hb (by simp [q']))).trans (hk c' o (fun q' => hb (by simp [q'])) (fun q' => hb (by simp [q'])) (fun q' => hb (by simp [q'])) (fun q' => hb (by simp [q'])) (fun q' => hb (by simp [q'])) q)) hf (Nat.le_refl _) new
    refine ⟨.ref s.heap.objs.size, _, I1, rfl, ⟨_, x, y, u, rfl, I.hok.fresh (Nat.le_refl _), rfl, fun l hl => by rw [I.list_inj hl hqx]; exact hx, fun l hl => by rw [I.tuple_inj hl hqy]; exact hy, fun l hl => by rw [I.list_inj hl hqu]; exact hu⟩, ⟨z'', ?_, ⟨v1, v2, v3, ?_⟩, ?_, ?_, ?_⟩, fun c' hcm => ?_⟩
    · exact (sb.2 _ D.TIz).trans (hk _ _ D.TIz D.TITO D.TIi1 D.TIi2 D.TIi3 hTI)
    · exact (sb.2 _ D.TOz).trans TO'
    · exact s1.1.at fun o q => (sb.2 _ D.zi1.symm).trans q
    · exact s2.1.at fun o q => (sb.2 _ D.zi2.symm).trans q
    · exact s3.1.at fun o q => (sb.2 _ D.zi3.symm).trans q
    · have hlt : c' < s.heap.objs.size := by
        simp only [List.mem_cons, List.not_mem_nil, or_false] at hcm
        rcases hcm with rfl | rfl | rfl | rfl | rfl | rfl
        · exact hzl
        · exact Heap.lt_size hTI
        · exact Heap.lt_size hTO
        · obtain ⟨_, e1, _⟩ := h1; exact Heap.lt_size e1
        · obtain ⟨_, e2, _⟩ := h2; exact Heap.lt_size e2
        · obtain ⟨_, e3, _⟩ := h3; exact Heap.lt_size e3
      rw [upd_ne (Nat.ne_of_lt hlt)]
      exact (hf c' hcm).1
  done := by
    intro X hP hw hK hc i pins s σ H E I hf st hg
    subst hP hw hK
    obtain ⟨hz, hTI, ⟨x0, y0, u0, hTO⟩, h1, h2, h3⟩ := st
    obtain ⟨xs, ys, us, hqx, hqy, hqu, l1, l2, l3, hend⟩ := hg
    obtain ⟨its, rv, p, _⟩ := I.list hqx
    obtain ⟨its2, rv2, p2, _⟩ := I.tuple hqy
    obtain ⟨its3, rv3, p3, _⟩ := I.list hqu
    have hh : X.A.in1.handled = none := I.ok.hd hc
    have k1 : its.toArray.size = xs.length := by rw [List.size_toArray]; exact rv.length.symm
    have k2 : its2.toArray.size = ys.length := by rw [List.size_toArray]; exact rv2.length.symm
    have k3 : its3.toArray.size = us.length := by rw [List.size_toArray]; exact rv3.length.symm
    exact wpAny_pyNext_zipD3_end D (Draws.list hh i1 a n1 its.toArray) (Draws.tuple hh i2 b n2 its2.toArray) (Draws.list hh i3 c n3 its3.toArray) hz hTI hTO ⟨h1, p.isList⟩ ⟨h2, p2⟩ ⟨h3, p3.isList⟩ (by omega) (by omega) (by omega) (by omega)
      fun h' tk hk => ⟨rfl, I.turnedL (t' := tk) (ch := [z, TI, TO, i1, i2, i3]) (fun c' o hb q => hk c' o (fun q' => hb (by simp [q'])) (fun q' => hb (by simp [q'])) (fun q' => hb (by simp [q'])) (fun q' => hb (by simp [q'])) (fun q' => hb (by simp [q'])) q) hf⟩
  self := fun A i s Q E st h => wpAny_pyIter_zip st.1 h
def iZip3 (K : PySem.W.Frag) (ta : TA) : TI := fun σ H R => ta σ H fun vs H1 => ∃ a b c xs ys us, vs = [.ref a, .ref b, .ref c] ∧ SqL K H1 a xs ∧ SqT K H1 b ys ∧ SqL K H1 c us ∧ R (It3 K a b c) H1
theorem vals3 {v1 v2 v3 : V} {us : List Value} (h : Vals [v1, v2, v3] us) : ∃ u1 u2 u3, us = [u1, u2, u3] ∧ RelV v1 u1 ∧ RelV v2 u2 ∧ RelV v3 u3 := by
  cases h with
  | cons r1 h => cases h with
    | cons r2 h => cases h with
      | cons r3 h => cases h; exact ⟨_, _, _, rfl, r1, r2, r3⟩
theorem pi_zip3 {X : Cx} {e e2 e3 : Expr} {ta : TA} {p pos tpos : Pos} {elts : List Expr} {kk : Nat} (hg : Gl X "zip") (hm : X.mg "zip" = none) (ha : PA X [e, e2, e3] ta)
    (hs : starEach [e, e2, e3] X.env = (false, eval e X.env) :: starEach [e2, e3] X.env := by rfl) (hpl : (backTo pos (starEach [e2, e3] X.env)).any (·.1) = false := by rfl) :
    PI X (.Tuple elts kk tpos) (.Call (.Name "zip" p) [e, e2, e3] [] pos) (iZip3 X.K ta) := by
  constructor
  intro pins s σ H R I h
  refine Call_ (ld_blt I hg hm PyProof.Rows.boot_zip (PyProof.Rows.callWith_type1 (thn (ha.run pos pins s σ H _ I h) fun us s1 ⟨vs, H1, I1, r1, q1⟩ => ?_) hs hpl))
  obtain ⟨a, b, c, xs, ys, zs, rfl, hqx, hqy, hqz, q⟩ := q1
  obtain ⟨u, v, x, rfl, ra, rb, rc⟩ := vals3 r1
  cases (show u = .ref a from ra)
  cases (show v = .ref b from rb)
  cases (show x = .ref c from rc)
  obtain ⟨its, rv, p1, _⟩ := I1.list hqx
  obtain ⟨its2, rv2, p2, _⟩ := I1.tuple hqy
  obtain ⟨its3, rv3, p3, _⟩ := I1.list hqz
  obtain ⟨o2, ho2, _⟩ := id p2
  have la : a < s1.heap.objs.size := p1.lt
  have lb : b < s1.heap.objs.size := Heap.lt_size ho2
  have lc : c < s1.heap.objs.size := p3.lt
  refine zip_begins3 (begins_list a its.toArray) (begins_tuple b its2.toArray) (begins_list c its3.toArray) p1.isList p2 p3.isList fun h' hz hTI hTO t1 t2 t3 hsz hk => wpAny_pyIter_zip hz ?_
  have I2 : Inv X pins σ H1 { s1 with heap := h' } := I1.kept (t' := s1.toks) hk
  have sep := zip_sep3 (N := s1.heap.objs.size) (fp1 := [a]) (fp2 := [b]) (fp3 := [c]) (by simpa using la) (by simpa using lb) (by simpa using lc)
  refine ⟨s1.heap.objs.size + 5, [s1.heap.objs.size + 5, s1.heap.objs.size + 3, s1.heap.objs.size + 4, s1.heap.objs.size, s1.heap.objs.size + 1, s1.heap.objs.size + 2], _, _, H1, rfl, I2, turn_3 sep (Nat.ne_of_lt la) (Nat.ne_of_lt (Nat.lt_succ_of_lt lb)) (Nat.ne_of_lt (Nat.lt_of_lt_of_le lc (Nat.le_add_right _ 2))), ⟨hz, hTI, ⟨_, _, _, hTO⟩, ⟨_, t1, rfl, rfl⟩, ⟨_, t2, rfl, rfl⟩, ⟨_, t3, rfl, rfl⟩⟩, ?_, q⟩
  intro d hdm
  have hle : s1.heap.objs.size ≤ d := by
    simp only [List.mem_cons, List.not_mem_nil, or_false] at hdm
    rcases hdm with rfl | rfl | rfl | rfl | rfl | rfl
    · exact Nat.le_add_right _ _
    · exact Nat.le_add_right _ _
    · exact Nat.le_add_right _ _
    · exact Nat.le_refl _
    · exact Nat.le_add_right _ _
    · exact Nat.le_add_right _ _
  exact I1.fpOk hle (I1.hok.fresh hle)
theorem i_zip3 {K : PySem.W.Frag} {ta : TA} {σ : L2.St} {H : Hp} {R : It → Hp → Prop} (h : ta σ H fun vs H1 => ∃ a b c xs ys us, vs = [.ref a, .ref b, .ref c] ∧ SqL K H1 a xs ∧ SqT K H1 b ys ∧ SqL K H1 c us ∧ R (It3 K a b c) H1) : iZip3 K ta σ H R := h
/-- a loop over zip of a list, a tuple and a list of one length -/
theorem for_zip3 {K : PySem.W.Frag} {a b c : Addr} {xs ys us : List V} {g : TG} {tb : TS} {D : Ends} {σ : L2.St} {H : Hp} (l1 : xs.length = ys.length) (l2 : xs.length = us.length) (Pv : Nat → L2.St → Hp → Prop) (h0 : Pv 0 σ H) (hq : ∀ i σ H, Pv i σ H → SqL K H a xs ∧ SqT K H b ys ∧ SqL K H c us)
    (hs : ∀ (i : Nat) (x y u : V) (T : Addr) (σ : L2.St) (H : Hp), xs[i]? = some x → ys[i]? = some y → us[i]? = some u → Pv i σ H → H T = none → g (.ref T) σ (upd H T (.tup [x, y, u])) fun σ2 H2 => tb { D with nx := Pv (i + 1), ct := Pv (i + 1), bk := D.nx } σ2 H2) (hd : ∀ σ H, Pv xs.length σ H → D.nx σ H) :
    ∃ W : Nat → Nat → L2.St → Hp → Prop, (∃ m, W 0 m σ H) ∧ ∀ i m σ H, W i m σ H →
      ((It3 K a b c).stop i H ∧ D.nx σ H) ∨ ((It3 K a b c).go i H ∧ ∃ N : L2.St → Hp → Prop, (∀ σ' H', N σ' H' → ∃ m', m' < m ∧ W (i + 1) m' σ' H') ∧ ∀ v H', (It3 K a b c).yld i H v H' → g v σ H' fun σ2 H2 => tb { D with nx := N, ct := N, bk := D.nx } σ2 H2) := by
  refine ⟨fun i m σ H => m = xs.length - i ∧ i ≤ xs.length ∧ Pv i σ H, ⟨_, rfl, Nat.zero_le _, h0⟩, ?_⟩
  rintro i m σ H ⟨rfl, hi, pv⟩
  obtain ⟨qx, qy, qu⟩ := hq i σ H pv
  rcases Nat.lt_or_eq_of_le hi with lt | rfl
  · have lt2 : i < ys.length := by omega
    have lt3 : i < us.length := by omega
    refine .inr ⟨⟨xs, ys, us, _, _, _, qx, qy, qu, List.getElem?_eq_getElem lt, List.getElem?_eq_getElem lt2, List.getElem?_eq_getElem lt3⟩, Pv (i + 1), fun σ' H' p' => ⟨_, Nat.sub_lt_sub_left lt (Nat.lt_succ_self i), rfl, lt, p'⟩, ?_⟩
    rintro v H' ⟨T, x, y, u, rfl, hT, rfl, f1, f2, f3⟩
    exact hs i x y u T σ H (f1 xs qx) (f2 ys qy) (f3 us qu) pv hT
  · exact .inl ⟨⟨xs, ys, us, qx, qy, qu, Nat.le_refl _, by omega, by omega, .inl rfl⟩, hd σ H pv⟩
end Ice

set_option Elab.async false
set_option linter.all false
set_option maxRecDepth 100000
set_option maxHeartbeats 4000000
set_option autoImplicit false
/-! text.replace(literal, literal): a method of it, and its assignment, where a literal's mark is not 0. -/
namespace Ice
open PySem PySem.Spec PyProof.Rows L2
theorem pet_m1 {X : Cx} {o e : Expr} {to te : TE} {id : String} {name : Str} {apos pos : Pos} {r : V → List V → Hp → VK → Prop} {pl : Sem Bool} (sl : Slot "str" name id) (ty : typeOf (Value.builtin id) = pure (Value.type "method_descriptor")) (m : MtR X id r) (ho : PET X o to) (he : PE X e te)
    (hst : starEach [e] X.env = [(false, eval e X.env)] := by rfl)
    (hev : eval (.Call (.Attribute o name apos) [e] [] pos) X.env = (do
          let ov ← eval o X.env
          standAt apos.atName
          let __x ← holding [ov] (getMethod ov name pl)
          match __x with
            | (f, first) => callWith pos f first (backTo pos (starEach [e] X.env)) []) := by rfl) : PET X (.Call (.Attribute o name apos) [e] [] pos) (tM1 r to te) := by
  intro pins s σ H Q ht J h
  refine MethodCall_ (pl := pl) (thn (ho pins s σ H _ ht J h) fun v s1 ⟨x, H1, J1, rx, q1⟩ => ?_) hev
  obtain ⟨⟨a, ea⟩, q⟩ := q1
  subst ea
  obtain ⟨t, ev⟩ : ∃ t, v = Value.str a t := rx
  subst ev
  refine GM.of (Value.str a t) (by first | rfl | trivial | exact TypeIs.str) sl ty (fun a h => by cases h) ?_
  have q' : tCons te tNil σ H1 (fun xs H2 => r (.str a) xs H2 Q) := q
  refine callWith_method1 (thn ((pa_cons he pa_nil (by exact hst)).run pos pins s1 σ H1 _ J1 q') fun us s2 ⟨vs, H2, J2, r2, q2⟩ => ?_) (by exact hst) (by rfl)
  exact m pins s2 σ H2 (.str a) vs (Value.str a t) us Q J2 (show ∃ t', Value.str a t = Value.str a t' from ⟨t, rfl⟩) r2 q2
theorem pst_asg {X : Cx} {pos : Pos} {tg e : Expr} {te : TE} {g : TG} (he : PET X e te) (hg : PG X tg g) (hsw : swapsWithSole [tg] e pos.line X.env = pure false := by rfl) (hss : swappedStores [tg] e X.env = pure none := by rfl)
    (hm : List.map (fun x => x.snd) (assignEach [tg] X.env) = [assign tg X.env] := by rfl) : PST X (.Assign [tg] e pos) (tAsg te g) := by
  intro pins s σ H D ht J h
  refine wpAny_Assign_stores (thn (he pins s σ H _ ht J h) fun v s1 ⟨y, H1, J1, ry, q⟩ => ?_) hsw hss
  rw [hm]
  have r := hg.run pins s1 σ H1 y v _ J1 ry q
  unfold assignAll
  exact thn r fun _ s2 ⟨σ', H', J2, q2⟩ => ⟨σ', H', J2, q2⟩
theorem i_tReplC {to : TE} {y z : Str} {σ : L2.St} {H : Hp} {Q : VK} (h : to σ H fun v H1 => ∃ x, v = V.str x ∧ x.length + (x.length + 1) * z.length ≤ 16777216 ∧ Q (V.str (Txt.replace x y z)) H1) : CwR.tReplC to y z σ H Q := h
theorem bindL_look (k : Str → Option NameKind) : ∀ (bs : List (Str × Value)) (m : Str → Option Value), (∀ x ∈ bs, k x.1 = some .local) → bindL k bs m = fun y => (bs.reverse.lookup y).or (m y)
  | [], m, _ => rfl
  | (n, v) :: r, m, h => by
    have e : bindL k ((n, v) :: r) m = bindL k r (if k n = some .local then fun y => if y = n then some v else m y else m) := rfl
    rw [e, if_pos (h (n, v) (List.mem_cons_self ..)), bindL_look k r _ fun x hx => h x (List.mem_cons_of_mem _ hx)]
    funext y
    rw [List.reverse_cons, List.lookup_append]
    cases r.reverse.lookup y with
    | some u => rfl
    | none =>
      show (if y = n then some v else m y) = (List.lookup y [(n, v)]).or (m y)
      by_cases hy : y = n
      · subst hy; rw [if_pos rfl, List.lookup_cons_self]; rfl
      · rw [if_neg hy]
        have : (y == n) = false := by simpa using hy
        simp [List.lookup, this]
theorem look_mem {α β : Type} [BEq α] [LawfulBEq α] {a : α} {b : β} : ∀ {l : List (α × β)}, l.lookup a = some b → (a, b) ∈ l
  | [], h => by cases h
  | (x, y) :: r, h => by
    by_cases e : a = x
    · subst e
      rw [List.lookup_cons_self] at h
      cases h
      exact List.mem_cons_self ..
    · have ne : (a == x) = false := by simpa using e
      have h : (match a == x with
        | true => some y
        | false => List.lookup a r) = some b := h
      rw [ne] at h
      exact List.mem_cons_of_mem _ (look_mem h)
theorem cells_nil : ∀ (l : List (Str × NameKind)) (n : Nat), (∀ y ∈ l, y.2 ≠ .cell) → cellsFrom n l [] = []
  | [], _, _ => rfl
  | a :: r, n, h => by
    have e : cellsFrom n (a :: r) [] = if (a.2 == NameKind.cell) = true then cellsFrom (n + 1) r [(a.1, n)] else cellsFrom n r [] := rfl
    have ne : ¬ (a.2 == NameKind.cell) = true := fun z => h a (List.mem_cons_self ..) (by simpa using z)
    rw [e, if_neg ne]
    exact cells_nil r n fun y hy => h y (List.mem_cons_of_mem _ hy)
section
variable {P : Program} {w : World} {K : PySem.W.Frag} {mg : Str → Option Value} {base : Heap} {X0 : CXT} {k j : Nat} {f : Addr} {fd : FuncData} {ps : List Str} {sp : Sp}
theorem fn_ofGT {name qual : Str} {params : Arguments} {body : List Stmt} {scope : Scope} {dV kV doc pm cdv ct oc : Value} {an od : Option Addr} {osl : Array (Option Value)} {N : List Str}
    (lk : K.lookup f = some ⟨oc, od, .func (PySem.W.fnOf name qual params body scope dV kV doc pm an cdv ct), osl⟩) (hcd : PySem.W.codeIn K cdv qual = true)
    (S : FnScope N ps scope) (nc : ∀ y ∈ scope.names, y.2 ≠ NameKind.cell) (p1 : 1 ≤ ps.length) (len : ∀ vs H Q E, sp vs H Q E → vs.length = ps.length)
    (hbody : ∀ (A : Around) (outer : List Env) (s : Shared) (H : Hp) (vs : List V) (Q : VK) (E : XK), Room k (A.deeper (envOfC qual scope s.heap.objs.size f cdv)) → A.guards = some [] → sp vs H Q E →
      ∃ t, PSsT (cxOf X0 P w K mg base N qual scope f cdv A outer s H E) body t ∧ t { nx := fun _ H' => Q .non H', rt := Q } (start N vs) H) :
    FnG P w K mg base X0 (k + 1) f (PySem.W.fnOf name qual params body scope dV kV doc pm an cdv ct) ps sp := by
  refine ⟨len, fun A outer s H args us vs Q E hr hgd e0 hb r hsp => ?_⟩
  have hl := len _ _ _ _ hsp
  have KX : K.In s.heap := e0.mod.kin.keeps (fun b o e => And.left (e0.bs b o e))
  have lim : s.heap.NoLimit := e0.mod.nolimit.keeps (fun b o e => And.left (e0.bs b o e))
  have lu : us.length = ps.length := (Vals.length r).symm.trans hl
  have hk2 : ∀ y ∈ ps.zip us, scope.names.lookup y.1 = some .local := by
    rintro ⟨n, v⟩ hy
    rcases S.par n (List.of_mem_zip hy).1 with q | q
    · exact q
    · exact absurd rfl (nc _ (look_mem q))
  have cn : cellsFrom (s.heap.objs.size + 1) scope.names [] = [] := cells_nil _ _ nc
  refine codeAny_call_function hr.depth (KX _ _ lk) rfl S.co S.gen rfl (PySem.W.codeRec_of KX hcd) (hb _ _ _ _ (wpAny_newFunctionEnv nc hk2 (fun h' hn hs => ?_) S.kind))
  have keep : ∀ (b : Addr) (o : Obj), s.heap.get? b = some o → h'.get? b = some o := fun b o e => by
    rw [hs.2 b (Nat.ne_of_lt (Heap.lt_size e))]
    exact Heap.get?_push_of_some { cls := Value.type (if none.isSome = true then "dict" else "frame"), data := Data.dict #[] } e
  have x : InCallC s s.heap.objs.size (bindL (envOfC qual scope s.heap.objs.size f cdv).kindOf (ps.zip us) fun _ => none) (cellsFrom (s.heap.objs.size + 1) scope.names []) (bindC (envOfC qual scope s.heap.objs.size f cdv).kindOf (ps.zip us) fun _ => none) { heap := h', gens := s.gens, drawn := s.drawn, toks := s.toks + (ps.zip us).length, os := s.os } := by
    rw [cn]
    refine ⟨⟨⟨_, _, rfl⟩, ?_, keep, Nat.le_refl _⟩, (fun n c h => by cases h), List.Pairwise.nil, (fun n c h => by cases h)⟩
    rw [bindL_look _ _ _ hk2]
    have : (fun y => ((ps.zip us).reverse.lookup y).or none) = fun y => (ps.zip us).reverse.lookup y := by funext y; simp
    rw [this]
    exact hn
  refine And.intro (lim.keeps x.toInCall.keep) (codeAny_func ?_)
  obtain ⟨t, ht, hq⟩ := hbody A outer s H vs Q E (hr.deeper _) hgd hsp
  have I := inv_start (CX := X0) (P := P) (w := w) (K := K) (mg := mg) (base := base) (f := f) (cd := cdv) (A := A) (outer := outer) (E := E) S hr.hd e0 hl r x
  have tk : 1 ≤ s.toks + (ps.zip us).length := by rw [List.length_zip, lu]; omega
  have ee : envOfC qual scope s.heap.objs.size f cdv = newEnv scope s.heap.objs.size (PySem.W.fnOf name qual params body scope dV kV doc pm an cdv ct).globals (PySem.W.fnOf name qual params body scope dV kV doc pm an cdv ct).closure ((PySem.W.fnOf name qual params body scope dV kV doc pm an cdv ct).qualname ++ Str.ofString ".<locals>.") (some f) cdv none (PySem.W.fnOf name qual params body scope dV kV doc pm an cdv ct).builtins := by
    unfold envOfC
    rw [cn]
    rfl
  have ht' := ht [] _ (start N vs) H _ tk I hq
  have eA : (cxOf X0 P w K mg base N qual scope f cdv A outer s H E).A = A.deeper (envOfC qual scope s.heap.objs.size f cdv) := rfl
  have eE : (cxOf X0 P w K mg base N qual scope f cdv A outer s H E).env = envOfC qual scope s.heap.objs.size f cdv := rfl
  rw [eA, eE, ee] at ht'
  refine wpAny_mono ht' (fun fl s' hs => ?_) (fun e s' hs => by
    have h2 : wpAny (model P w) (A.deeper (envOfC qual scope s.heap.objs.size f cdv)) (leaving (envOfC qual scope s.heap.objs.size f cdv) e) (fun _ s'' => CR X0 outer P w H s Q E (Except.error e) s'') (fun e' s'' => CR X0 outer P w H s Q E (Except.error e') s'') s' := hs
    rw [ee] at h2
    exact h2)
  cases fl with
  | ret u => obtain ⟨v, σ', H', J, rv, q⟩ := hs; exact ⟨v, H', J.os, J.bare, J.base, J.hok, rv, q⟩
  | next => obtain ⟨σ', H', J, q⟩ := hs; exact ⟨V.non, H', J.os, J.bare, J.base, J.hok, rfl, q⟩
  | brk => obtain ⟨_, _, _, q⟩ := hs; exact q.elim
  | cont => obtain ⟨_, _, _, q⟩ := hs; exact q.elim
end
section
variable {P : Program} {w : World} {K : PySem.W.Frag} {mg : Str → Option Value} {base : Heap} {x qual : Str} {st : Stmt} {f : Addr} {fd : FuncData} {N ps : List Str} {k : Nat} {sp : Sp}
theorem okGT (F : Fun K x qual st f fd) (S : FnScope N ps (defScope st)) (nc : ∀ y ∈ (defScope st).names, y.2 ≠ NameKind.cell) (p1 : 1 ≤ ps.length) (len : ∀ vs H Q E, sp vs H Q E → vs.length = ps.length)
    (hbody : ∀ (cdv : Value) (A : Around) (outer : List Env) (s : Shared) (H : Hp) (vs : List V) (Q : VK) (E : XK), Room k (A.deeper (envOfC qual (defScope st) s.heap.objs.size f cdv)) → A.guards = some [] → sp vs H Q E →
      ∃ t, PSsT (cxOf CX0 P w K mg base N qual (defScope st) f cdv A outer s H E) (defBody st) t ∧ t { nx := fun _ H' => Q .non H', rt := Q } (start N vs) H) :
    FnG P w K mg base CX0 (k + 1) f fd ps sp := by
  obtain ⟨oc, od, kV, doc, pm, an, cdv, ct, osl, rfl, lk, hcd⟩ := F.ex
  exact fn_ofGT lk hcd S nc p1 len (fun A outer s H vs Q E hr hgd hsp => hbody cdv A outer s H vs Q E hr hgd hsp)
end
end Ice

set_option Elab.async false
set_option linter.all false
set_option maxRecDepth 100000
set_option maxHeartbeats 4000000
set_option autoImplicit true
/-! An own error compared with itself; displays and returns of text.replace(literal, literal). -/
namespace Ice
open PySem PySem.Spec PyProof.Rows L2
section
variable {X : Cx}
/-- x == x of a thing of any kind, an own error of the class at D among them -/
def rEqO (K : PySem.W.Frag) (D : Addr) : R2 := fun x y H Q => rEqSf K x y H Q ∨ ∃ (a d : Addr) (fs : List (Str × V)), x = .ref a ∧ y = .ref a ∧ H a = some (exo a D (some d)) ∧ H d = some (exd d fs) ∧ Q (.bl true) H
theorem op_eqO {D : Addr} (hu : X.A.units + 64 < cLine) (E : ExcI X.K D) (he : PySem.W.findIn X.K (.ref D) "__eq__" = some (some (.builtin "object.__eq__"))) : OpR X (compareOp .Eq) (rEqO X.K D) := by
  intro pins s σ H x y v u Q I rx ry h
  rcases h with h | ⟨a, d, fs, rfl, rfl, ha, hd, q⟩
  · exact op_eqSf hu pins s σ H x y v u Q I rx ry h
  cases (show v = .ref a from rx)
  cases (show u = .ref a from ry)
  obtain ⟨t1, ho⟩ := exo_at I.hok ha
  obtain ⟨mA, ⟨o, es, ep, hp, _⟩, _⟩ := exd_at I.hok hd
  exact rc_self (od := some o) (by omega) I.kIn ⟨ho, rfl, rfl, hp⟩ E.mo he X.prog X.w X.xe _ ⟨.bl true, H, I, rfl, q⟩
end
section
variable {X : Cx} {e : Expr} {es : List Expr} {te : TE} {t : TA} {pos : Pos}
theorem pat_nil : PAT X [] tNil := fun _ _ _ _ H Q _ I h => Calls.spliced_nil ⟨[], H, I, .nil, h⟩
theorem pat_cons (ha : PET X e te) (hr : PAT X es t) (hs : starEach (e :: es) X.env = (false, eval e X.env) :: starEach es X.env := by rfl) : PAT X (e :: es) (tCons te t) := by
  intro pos pins s σ H Q h0 I h
  rw [hs]
  show wpAny _ _ (spliced ((false, eval e X.env) :: backTo pos (starEach es X.env))) _ _ s
  refine Calls.spliced_cons (wpAny_mono (PySem.wpAny_toks (ha pins s σ H _ h0 I h)) (fun u s1 q => ?_) fun _ _ z => z.2)
  obtain ⟨hk, x, H1, I1, r1, q1⟩ := q
  exact thn (hr pos pins s1 σ H1 _ (Nat.le_trans h0 hk) I1 q1) fun us s2 ⟨xs, H2, I2, r2, q2⟩ => ⟨x :: xs, H2, I2, .cons r1 r2, q2⟩
theorem pet_tup {x1} (h : PAT X es t) : PET X (.Tuple es x1 pos) (tTup t) := by
  intro pins s σ H Q h0 I hq
  refine wpAny_Tuple_spliced (thn (h pos pins s σ H _ h0 I hq) fun us s1 ⟨xs, H1, I1, r, z, q⟩ => ⟨by rw [← r.length]; exact z, ?_⟩)
  have hf : H1 s1.heap.objs.size = none := I1.hok.fresh (Nat.le_refl _)
  refine ⟨.ref s1.heap.objs.size, upd H1 s1.heap.objs.size (.tup xs), I1.laid (t' := s1.toks) (fun b u e => Heap.get?_push_of_some _ e) (Nat.le_refl _) ?_, rfl, q _ hf⟩
  exact ⟨z, us, r, ⟨_, Heap.get?_push_size _ rfl, rfl, _, rfl⟩⟩
theorem pet_lst (h : PAT X es t) : PET X (.List es pos) (tLst t) := by
  intro pins s σ H Q h0 I hq
  refine wpAny_List_spliced (thn (h pos pins s σ H _ h0 I hq) fun us s1 ⟨xs, H1, I1, r, z, q⟩ => ⟨by rw [← r.length]; exact z, ?_⟩)
  have hf : H1 s1.heap.objs.size = none := I1.hok.fresh (Nat.le_refl _)
  refine ⟨.ref s1.heap.objs.size, upd H1 s1.heap.objs.size (.lst xs), I1.laid (t' := s1.toks) (fun b u e => Heap.get?_push_of_some _ e) (Nat.le_refl _) ?_, rfl, q _ hf⟩
  exact ⟨z, us, 0, r, Heap.get?_push_size _ rfl⟩
end
section
variable {X : Cx} {st : Stmt} {rest : List Stmt} {t u : TS}
theorem psst_cut (h1 : PST X st t) (h2 : PSsT X rest u) : PSsT X (st :: rest) (C8.tCut t u) := by
  intro pins s σ H D h0 I h
  obtain ⟨Mid, ha, hb⟩ := h
  refine wpAny_execs_cons (wpAny_mono (PySem.wpAny_toks (h1 pins s σ H { D with nx := Mid } h0 I ha)) (fun f s1 q => ?_) fun _ _ x => x.2)
  obtain ⟨hk, q⟩ := q
  cases f with
  | next =>
    obtain ⟨σ', H', I', q⟩ := q
    exact h2 pins s1 σ' H' D (Nat.le_trans h0 hk) I' (hb σ' H' q)
  | ret v => exact q
  | brk => exact q
  | cont => exact q
end
/-! ### d.get(key), d a dict of the module with text keys -/
def tKGet (K : PySem.W.Frag) (d : Addr) (td ty : TE) : TE := fun σ H Q => td σ H fun x H1 => x = .ref d ∧ ty σ H1 fun y H2 => ∃ (z : Str) (r : Option Value) (v : V), y = .str z ∧ PySem.W.nsIn K d z = some r ∧ RelV v (r.getD .none) ∧ Q v H2
theorem i_kget {K : PySem.W.Frag} {d : Addr} {td ty : TE} {σ : L2.St} {H : Hp} {Q : VK} (h : td σ H fun x H1 => x = .ref d ∧ ty σ H1 fun y H2 => ∃ (z : Str) (r : Option Value) (v : V), y = .str z ∧ PySem.W.nsIn K d z = some r ∧ RelV v (r.getD .none) ∧ Q v H2) : tKGet K d td ty σ H Q := h
section
variable {X : Cx} {o e : Expr} {td ty : TE} {apos cpos : Pos} {d : Addr} {es : Array DictEntry} {n : Nat}
theorem pe_kget (D : KDict X.K X.w d es n) (ho : PE X o td) (he : PE X e ty) (m : M1 X o "get" apos e cpos) : PE X (.Call (.Attribute o "get" apos) [e] [] cpos) (tKGet X.K d td ty) := by
  refine ⟨fun pins s σ H Q I h => ?_⟩
  refine wpAny_Call_method m.base m.few m.line PySem.F.plainAttrs_dict PySem.F.slot_dict_get PySem.F.type_dict_get (thn (ho.run pins s σ H _ I h) fun u s1 ⟨x, H1, I1, rx, ex, q1⟩ => ?_)
  subst ex
  obtain rfl : u = Value.ref d := rx
  refine ⟨kd_type D I1, (fun a z => by cases z; exact ⟨_, I1.kIn _ _ D.at_, rfl⟩), ?_⟩
  rw [m.trees]
  refine Calls.callWith_builtin rfl (Calls.evalArgs_plain (Calls.spliced_cons (thn (he.run pins s1 σ H1 _ I1 q1) fun iv s2 ⟨y, H2, I2, ry, z, r, v, ey, en, rv, q2⟩ => Calls.spliced_nil ?_)))
  subst ey
  obtain ⟨t, rfl⟩ := ry
  have mp := PySem.W.mapOf_K (prog := X.prog) (w := X.w) I2.kIn D.at_ D.lit
  refine call_meetsIn PySem.F.slot_dict_get (kd_type D I2) PySem.F.entry_dict_get (PySem.F.args_dict_get_2 _ _) (meets_dict_get (strKind X.prog X.w) d (PySem.strKind_is X.prog X.w z t) D.low) ⟨_, mp, ?_⟩
  rw [PySem.W.find_K D.at_ en]
  exact ⟨v, H2, I2.tok _, rv, q2⟩
end
section
variable {P : Program} {w : World} {K : PySem.W.Frag} {mg : Str → Option Value} {base : Heap} {x qual : Str} {st : Stmt} {f : Addr} {fd : FuncData} {N ps : List Str} {k : Nat} {sp : Sp}
theorem okGTX (F : Fun K x qual st f fd) (S : FnScope N ps (defScope st)) (nc : ∀ y ∈ (defScope st).names, y.2 ≠ NameKind.cell) (p1 : 1 ≤ ps.length) (len : ∀ vs H Q E, sp vs H Q E → vs.length = ps.length)
    (hbody : ∀ (cdv : Value) (A : Around) (outer : List Env) (s : Shared) (H : Hp) (vs : List V) (Q : VK) (E : XK), Room k (A.deeper (envOfC qual (defScope st) s.heap.objs.size f cdv)) → A.guards = some [] → sp vs H Q E →
      ∃ t, PSsT (cxOf (L2.CX P w) P w K mg base N qual (defScope st) f cdv A outer s H E) (defBody st) t ∧ t { nx := fun _ H' => Q .non H', rt := Q } (start N vs) H) :
    FnG P w K mg base (L2.CX P w) (k + 1) f fd ps sp := by
  obtain ⟨oc, od, kV, doc, pm, an, cdv, ct, osl, rfl, lk, hcd⟩ := F.ex
  exact fn_ofGT lk hcd S nc p1 len (fun A outer s H vs Q E hr hgd hsp => hbody cdv A outer s H vs Q E hr hgd hsp)
end
/-- a comprehension over zip of a tuple and a list that is no shorter -/
theorem lc_zipM {K : PySem.W.Frag} {a b : Addr} {xs ys : List V} {g : TG} {tt : TT} {te : TE} {vs : List Nat} {σ : L2.St} {H1 : Hp} {D : Addr} {Qd : Hp → Prop} (hl : xs.length ≤ ys.length) (Pv : Nat → Hp → Prop) (h0 : Pv 0 (upd H1 D (.lst []))) (hq : ∀ i H, Pv i H → SqT K H a xs ∧ SqL K H b ys)
    (hs : ∀ (i : Nat) (x y : V) (T : Addr) (H : Hp), xs[i]? = some x → ys[i]? = some y → Pv i H → H T = none → g (.ref T) (wipe σ vs) (upd H T (.tup [x, y])) fun σ2 H2 => wipe σ2 vs = wipe σ vs ∧ tt σ2 H2 fun b H3 =>
      if b = true then te σ2 H3 fun y H4 => ∃ acc, H4 D = some (.lst acc) ∧ acc.length < sizeLine ∧ Pv (i + 1) (upd H4 D (.lst (acc ++ [y]))) else Pv (i + 1) H3) (hd : ∀ H, Pv xs.length H → Qd H) :
    ∃ W : Nat → Nat → Hp → Prop, (∃ m, W 0 m (upd H1 D (.lst []))) ∧ ∀ i m H, W i m H →
      ((ItM K a b).stop i H ∧ Qd H) ∨ ((ItM K a b).go i H ∧ ∃ Nx : Hp → Prop, (∀ H', Nx H' → ∃ m', m' < m ∧ W (i + 1) m' H') ∧ ∀ x H', (ItM K a b).yld i H x H' → g x (wipe σ vs) H' fun σ2 H2 => wipe σ2 vs = wipe σ vs ∧ tt σ2 H2 fun b H3 =>
        if b = true then te σ2 H3 fun y H4 => ∃ acc, H4 D = some (.lst acc) ∧ acc.length < sizeLine ∧ Nx (upd H4 D (.lst (acc ++ [y]))) else Nx H3) := by
  refine ⟨fun i m H => m = xs.length - i ∧ i ≤ xs.length ∧ Pv i H, ⟨_, rfl, Nat.zero_le _, h0⟩, ?_⟩
  rintro i m H ⟨rfl, hi, pv⟩
  obtain ⟨qx, qy⟩ := hq i H pv
  rcases Nat.lt_or_eq_of_le hi with lt | rfl
  · have lt2 : i < ys.length := Nat.lt_of_lt_of_le lt hl
    refine .inr ⟨⟨xs, ys, _, _, qx, qy, List.getElem?_eq_getElem lt, List.getElem?_eq_getElem lt2⟩, Pv (i + 1), fun H' p' => ⟨_, Nat.sub_lt_sub_left lt (Nat.lt_succ_self i), rfl, lt, p'⟩, ?_⟩
    rintro v H' ⟨T, x, y, rfl, hT, rfl, f1, f2⟩
    exact hs i x y T H (f1 xs qx) (f2 ys qy) pv hT
  · exact .inl ⟨⟨xs, ys, qx, qy, Nat.le_refl _, hl, .inl rfl⟩, hd H pv⟩
theorem i_zipM' {K : PySem.W.Frag} {ta : TA} {σ : L2.St} {H : Hp} {R : It → Hp → Prop} (h : ta σ H fun vs H1 => ∃ a b xs ys, vs = [.ref a, .ref b] ∧ SqT K H1 a xs ∧ SqL K H1 b ys ∧ R (ItM K a b) H1) : iZipM K ta σ H R := h
end Ice

set_option Elab.async false
set_option linter.all false
set_option maxRecDepth 100000
set_option maxHeartbeats 4000000
set_option autoImplicit false
/-! zip of a text and a list. -/
namespace Ice
open PySem PySem.Spec PyProof.Rows L2 RZ
/-- the text x and the list at b, item by item, in new pairs -/
def ItS (K : PySem.W.Frag) (z : Str) (b : Addr) : It where
  go i H := ∃ (ys : List V) (c : Nat) (y : V), SqL K H b ys ∧ z.cps[i]? = some c ∧ ys[i]? = some y
  yld i H v H' := ∃ T c y, v = .ref T ∧ H T = none ∧ H' = upd H T (.tup [.str ⟨#[c]⟩, y]) ∧ z.cps[i]? = some c ∧ ∀ ys, SqL K H b ys → ys[i]? = some y
  stop i H := ∃ ys : List V, SqL K H b ys ∧ i ≤ z.cps.size ∧ i ≤ ys.length ∧ (i = z.cps.size ∨ i = ys.length)
theorem sep_s {z TI TO i1 i2 b : Addr} (D : ZipApart z TI TO i1 i2 b b) : ZipSep2 z TI TO i1 i2 [i1] [i2, b] where
  TIz := D.TIz
  TOz := D.TOz
  TITO := D.TITO
  TIi1 := D.TIi1
  mem1 := by simp
  zf1 := by simp; exact D.i1z.symm
  Tf1 := by simp; exact D.TOi1
  TIi2 := D.TIi2
  mem2 := by simp
  zf2 := by simp; exact ⟨D.i2z.symm, D.l2z.symm⟩
  Tf2 := by simp; exact ⟨D.TOi2, D.l2TO.symm⟩
  sep1_2 := by simp; exact ⟨D.i12, D.l2i1.symm⟩
  sep2_1 := by simp; exact D.i12.symm
theorem turn_S {P : Program} {w : World} {K : PySem.W.Frag} {elts : List Expr} {kk : Nat} {tpos : Pos} {b z TI TO i1 i2 : Addr} (zs : Str) (tk0 : Tok) (D : ZipApart z TI TO i1 i2 b b) :
    Turn P w K (.Tuple elts kk tpos) (ItS K zs b) [z, TI, TO, i1, i2] z (fun i h => IsZip h z TI TO .none ∧ IsPair h TI (.ref i1) (.ref i2) ∧ (∃ x y, IsPair h TO x y) ∧ h.IsStrIter i1 (strIterType zs) zs tk0 i ∧ h.IsListIter i2 b i) where
  mem := by simp
  obj := fun i h st c hc => by
    obtain ⟨hz, hTI, ⟨x, y, hTO⟩, ⟨o1, e1, _, d1⟩, ⟨o2, e2, _, d2⟩⟩ := st
    simp only [List.mem_cons, List.not_mem_nil, or_false] at hc
    rcases hc with rfl | rfl | rfl | rfl | rfl
    · exact ⟨_, hz, nofun⟩
    · exact ⟨_, hTI, nofun⟩
    · exact ⟨_, hTO, nofun⟩
    · exact ⟨o1, e1, fun v q => by rw [d1] at q; cases q⟩
    · exact ⟨o2, e2, fun v q => by rw [d2] at q; cases q⟩
  keep := fun i h h' st k => by
    obtain ⟨hz, hTI, ⟨x, y, hTO⟩, h1, h2⟩ := st
    exact ⟨k z (by simp) _ hz, k TI (by simp) _ hTI, ⟨x, y, k TO (by simp) _ hTO⟩, (let ⟨o, ho, r⟩ := h1; ⟨o, k i1 (by simp) o ho, r⟩), h2.at fun o q => k i2 (by simp) o q⟩
  item := by
    intro X hP hw hK hc i pins s σ H E I hf st hg
    subst hP hw hK
    obtain ⟨hz, hTI, ⟨x0, y0, hTO⟩, h1, h2⟩ := st
    obtain ⟨ys, cc, y, hqy, hx, hy⟩ := hg
    obtain ⟨its2, rv2, p2, _⟩ := I.list hqy
    obtain ⟨u2, hu2, ru2⟩ := rv2.get hy
    have hu2' : its2.toArray[i]? = some u2 := by simpa using hu2
    have lt1 : i < zs.cps.size := (Array.getElem?_eq_some_iff.mp hx).1
    have lt2 : i < its2.toArray.size := (Array.getElem?_eq_some_iff.mp hu2').1
    have hzl : z < s.heap.objs.size := Heap.lt_size hz
    have hh : X.A.in1.handled = none := I.ok.hd hc
    refine wpAny_pyNext_zipD2_item (sep_s D) (Draws.text hh i1 zs tk0) (Draws.list hh i2 b D.l2i2 its2.toArray) hz hTI hTO h1 ⟨h2, p2.isList⟩ lt1 lt2 fun v v2 h' tk e1 e2 z' TO' s1 s2 hT hsz hk => ?_
    obtain ⟨c1, u1, hc1, ev⟩ := e1
    have ec : c1 = cc := Option.some.inj (hc1.symm.trans hx)
    subst ec
    have ev2 : v2 = u2 := Option.some.inj (e2.symm.trans hu2')
    subst ev2
    refine ⟨_, rfl, wpAny_letOwnedTupleGo_zip (s := { s with heap := h', toks := tk }) z' fun h'' z'' sb => ?_⟩
    have hT2 : h''.get? s.heap.objs.size = some { cls := .type "tuple", data := .seq #[v, v2] } := (sb.2 _ (Nat.ne_of_gt hzl)).trans hT
    have new : ObjOk X.prog X.w (upd H s.heap.objs.size (.tup [.str ⟨#[c1]⟩, y])) h'' s.heap.objs.size (.tup [.str ⟨#[c1]⟩, y]) :=
      ⟨by show 2 ≤ sizeLine; decide, [v, v2], .cons ⟨u1, ev⟩ (.cons ru2 .nil), ⟨_, hT2, rfl, _, rfl⟩⟩
    have I1 : Inv X pins σ (upd H s.heap.objs.size (.tup [.str ⟨#[c1]⟩, y])) { s with heap := h'', toks := tk } :=
      I.turnedNew (t' := tk) (ch := [z, TI, TO, i1, i2]) (fun c o hb q => (sb.2 c (fun q' => hb (by simp [q']))).trans (hk c o (fun q' => hb (by simp [q'])) (fun q' => hb (by simp [q'])) (fun q' => hb (by simp [q'])) (fun q' => hb (by simp [q'])) q)) hf (Nat.le_refl _) new
    refine ⟨.ref s.heap.objs.size, _, I1, rfl, ⟨_, c1, y, rfl, I.hok.fresh (Nat.le_refl _), rfl, hc1, fun l hl => by rw [I.list_inj hl hqy]; exact hy⟩, ⟨z'', ?_, ⟨v, v2, ?_⟩, ?_, ?_⟩, fun c hcm => ?_⟩
    · exact (sb.2 _ D.TIz).trans (hk _ _ D.TIz D.TITO D.TIi1 D.TIi2 hTI)
    · exact (sb.2 _ D.TOz).trans TO'
    · obtain ⟨o, ho, r⟩ := s1; exact ⟨o, (sb.2 _ D.i1z).trans ho, r⟩
    · exact s2.1.at fun o q => (sb.2 _ D.i2z).trans q
    · have hlt : c < s.heap.objs.size := by
        simp only [List.mem_cons, List.not_mem_nil, or_false] at hcm
        rcases hcm with rfl | rfl | rfl | rfl | rfl
        · exact hzl
        · exact Heap.lt_size hTI
        · exact Heap.lt_size hTO
        · obtain ⟨_, e1, _⟩ := h1; exact Heap.lt_size e1
        · obtain ⟨_, e2, _⟩ := h2; exact Heap.lt_size e2
      rw [upd_ne (Nat.ne_of_lt hlt)]
      exact (hf c hcm).1
  done := by
    intro X hP hw hK hc i pins s σ H E I hf st hg
    subst hP hw hK
    obtain ⟨hz, hTI, ⟨x0, y0, hTO⟩, h1, h2⟩ := st
    obtain ⟨ys, hqy, l1, l2, hend⟩ := hg
    obtain ⟨its2, rv2, p2, _⟩ := I.list hqy
    have hh : X.A.in1.handled = none := I.ok.hd hc
    have k2 : its2.toArray.size = ys.length := by rw [List.size_toArray]; exact rv2.length.symm
    exact wpAny_pyNext_zipD2_end (sep_s D) (Draws.text hh i1 zs tk0) (Draws.list hh i2 b D.l2i2 its2.toArray) hz hTI hTO h1 ⟨h2, p2.isList⟩ (by omega) (by omega) (by rcases hend with e | e; exact .inl (by omega); exact .inr (by omega))
      fun h' tk hk => ⟨rfl, I.turnedL (t' := tk) (ch := [z, TI, TO, i1, i2]) (fun c o hb q => hk c o (fun q' => hb (by simp [q'])) (fun q' => hb (by simp [q'])) (fun q' => hb (by simp [q'])) (fun q' => hb (by simp [q'])) q) hf⟩
  self := fun A i s Q E st h => wpAny_pyIter_zip st.1 h
def iZipS (K : PySem.W.Frag) (ta : TA) : TI := fun σ H R => ta σ H fun vs H1 => ∃ z b ys, vs = [.str z, .ref b] ∧ SqL K H1 b ys ∧ R (ItS K z b) H1
theorem pi_zipS {X : Cx} {e e2 : Expr} {ta : TA} {p pos tpos : Pos} {elts : List Expr} {kk : Nat} (hg : Gl X "zip") (hm : X.mg "zip" = none) (ha : PA X [e, e2] ta)
    (hs : starEach [e, e2] X.env = (false, eval e X.env) :: starEach [e2] X.env := by rfl) (hpl : (backTo pos (starEach [e2] X.env)).any (·.1) = false := by rfl) :
    PI X (.Tuple elts kk tpos) (.Call (.Name "zip" p) [e, e2] [] pos) (iZipS X.K ta) := by
  constructor
  intro pins s σ H R I h
  refine Call_ (ld_blt I hg hm PyProof.Rows.boot_zip (PyProof.Rows.callWith_type1 (thn (ha.run pos pins s σ H _ I h) fun us s1 ⟨vs, H1, I1, r1, q1⟩ => ?_) hs hpl))
  obtain ⟨z, b, ys, rfl, hqy, q⟩ := q1
  obtain ⟨u, v, rfl, ra, rb⟩ := vals2 r1
  obtain ⟨tk0, rfl⟩ := (show ∃ t, u = .str z t from ra)
  cases (show v = .ref b from rb)
  obtain ⟨its2, rv2, p2, _⟩ := I1.list hqy
  refine zip_begins2 (begins_text z tk0) (begins_list b its2.toArray) trivial p2.isList fun h' hz hTI hTO t1 t2 hsz hk => wpAny_pyIter_zip hz ?_
  have I2 : Inv X pins σ H1 { s1 with heap := h' } := I1.kept (t' := s1.toks) hk
  refine ⟨s1.heap.objs.size + 4, [s1.heap.objs.size + 4, s1.heap.objs.size + 2, s1.heap.objs.size + 3, s1.heap.objs.size, s1.heap.objs.size + 1], _, _, H1, rfl, I2, turn_S z tk0 (PySem.W.ktu_apart s1.heap.objs.size b b p2.lt p2.lt), ⟨hz, hTI, ⟨_, _, hTO⟩, ⟨_, t1, rfl, rfl⟩, ⟨_, t2, rfl, rfl⟩⟩, ?_, q⟩
  intro c hcm
  have hle : s1.heap.objs.size ≤ c := by
    simp only [List.mem_cons, List.not_mem_nil, or_false] at hcm
    rcases hcm with rfl | rfl | rfl | rfl | rfl <;> omega
  exact I1.fpOk hle (I1.hok.fresh hle)
theorem i_zipS {K : PySem.W.Frag} {ta : TA} {σ : L2.St} {H : Hp} {R : It → Hp → Prop} (h : ta σ H fun vs H1 => ∃ z b ys, vs = [.str z, .ref b] ∧ SqL K H1 b ys ∧ R (ItS K z b) H1) : iZipS K ta σ H R := h
/-- a loop over zip of a text and a list that is no shorter -/
theorem for_zipS {K : PySem.W.Frag} {z : Str} {b : Addr} {ys : List V} {g : TG} {tb : TS} {D : Ends} {σ : L2.St} {H : Hp} (hl : z.cps.size ≤ ys.length) (Pv : Nat → L2.St → Hp → Prop) (h0 : Pv 0 σ H) (hq : ∀ i σ H, Pv i σ H → SqL K H b ys)
    (hs : ∀ (i : Nat) (c : Nat) (y : V) (T : Addr) (σ : L2.St) (H : Hp), z.cps[i]? = some c → ys[i]? = some y → Pv i σ H → H T = none → g (.ref T) σ (upd H T (.tup [.str ⟨#[c]⟩, y])) fun σ2 H2 => tb { D with nx := Pv (i + 1), ct := Pv (i + 1), bk := D.nx } σ2 H2) (hd : ∀ σ H, Pv z.cps.size σ H → D.nx σ H) :
    ∃ W : Nat → Nat → L2.St → Hp → Prop, (∃ m, W 0 m σ H) ∧ ∀ i m σ H, W i m σ H →
      ((ItS K z b).stop i H ∧ D.nx σ H) ∨ ((ItS K z b).go i H ∧ ∃ N : L2.St → Hp → Prop, (∀ σ' H', N σ' H' → ∃ m', m' < m ∧ W (i + 1) m' σ' H') ∧ ∀ v H', (ItS K z b).yld i H v H' → g v σ H' fun σ2 H2 => tb { D with nx := N, ct := N, bk := D.nx } σ2 H2) := by
  refine ⟨fun i m σ H => m = z.cps.size - i ∧ i ≤ z.cps.size ∧ Pv i σ H, ⟨_, rfl, Nat.zero_le _, h0⟩, ?_⟩
  rintro i m σ H ⟨rfl, hi, pv⟩
  have qy := hq i σ H pv
  rcases Nat.lt_or_eq_of_le hi with lt | rfl
  · have lt2 : i < ys.length := Nat.lt_of_lt_of_le lt hl
    refine .inr ⟨⟨ys, _, _, qy, Array.getElem?_eq_getElem lt, List.getElem?_eq_getElem lt2⟩, Pv (i + 1), fun σ' H' p' => ⟨_, Nat.sub_lt_sub_left lt (Nat.lt_succ_self i), rfl, lt, p'⟩, ?_⟩
    rintro v H' ⟨T, x, y, rfl, hT, rfl, f1, f2⟩
    exact hs i x y T σ H f1 (f2 ys qy) pv hT
  · exact .inl ⟨⟨ys, qy, Nat.le_refl _, hl, .inl rfl⟩, hd σ H pv⟩
end Ice

set_option Elab.async false
set_option linter.all false
set_option maxRecDepth 100000
set_option maxHeartbeats 4000000
set_option autoImplicit true
namespace Ice
open PySem PySem.Spec PyProof.Rows L2 TL
/-! side conditions, heaps, one step of a reading, and many -/
local macro_rules | `(tactic| walk_at "hp") => `(tactic| first | assumption | exact upd_same | exact New.at_ (by assumption) | (refine keepU ?_ (by assumption); walk_at "hp") | (refine New.app (by assumption) ?_; walk_at "hp") | (refine Same.app (by assumption) ?_; walk_at "hp") | (refine But.app (by assumption) (by assumption) ?_; walk_at "hp"))
local macro_rules | `(tactic| walk_at "sq") => `(tactic| first | assumption | exact SqL.lst (by walk_at "hp") | exact L2.Same.seq (New.same (by assumption)) (by assumption) | exact L2.Same.seq (by assumption) (by assumption))
local macro_rules | `(tactic| walk_at "len") => `(tactic| first | assumption | (simp only [List.length_cons, List.length_nil, List.length_append, List.length_map]; decide) | (refine Ice.sz_of ?_; simp only [List.length_cons, List.length_nil, List.length_append, List.length_map]; omega))
local macro_rules | `(tactic| walk_at "fresh") => `(tactic| (simp only [List.map_append, List.map_cons, List.map_nil, List.nil_append, List.cons_append]; decide +kernel))
local macro_rules | `(tactic| walk_at "sd") => `(tactic| first | assumption | (show _ ≠ _; omega) | exact Or.inl ⟨by omega, by omega⟩ | exact Or.inr ⟨by omega, by omega⟩ | exact ⟨by decide, by decide⟩ | exact ⟨by decide, by decide, by decide⟩ | exact ⟨by omega, by omega, by omega⟩)
/-! one step of a reading, and many -/
local macro_rules | `(tactic| walk_at "st") => `(tactic| first
  | with_reducible refine i_seq ?_
  | with_reducible refine i_if ?_
  | with_reducible refine i_next ?_
  | with_reducible refine i_ret ?_
  | with_reducible refine i_retN ?_
  | with_reducible refine i_drop ?_
  | with_reducible refine i_asg ?_
  | with_reducible refine i_gname ?_
  | with_reducible refine i_gsub ?_
  | ((with_reducible refine i_var (v := ?vv) ?hv ?_); (case hv => exact rfl))
  | with_reducible refine i_c ?_
  | with_reducible refine i_op ?_
  | with_reducible refine i_un ?_
  | with_reducible refine i_test ?_
  | with_reducible refine i_tB ?_
  | with_reducible refine i_and ?_
  | with_reducible refine i_or ?_
  | with_reducible refine i_not ?_
  | with_reducible refine i_andV ?_
  | with_reducible refine i_orV ?_
  | with_reducible refine i_notV ?_
  | with_reducible refine i_ifE ?_
  | with_reducible refine i_chain ?_
  | with_reducible refine i_bl ?_
  | with_reducible refine i_nil ?_
  | with_reducible refine i_cons ?_
  | with_reducible refine i_call ?_
  | with_reducible refine i_cb ?_
  | with_reducible refine i_rI0 ?_
  | with_reducible refine i_rU ?_
  | ((with_reducible refine i_rEq ?hs ?_); (case hs => exact rfl))
  | ((with_reducible refine i_rNe ?hs ?_); (case hs => exact rfl))
  | ((with_reducible refine i_rI ?hc ?_); (case hc => walk_at "sd"))
  | ((with_reducible refine i_ixL (xs := ?xs) (v := ?vv) ?hS ?he ?_); (case hS => walk_at "sq"); (case he => exact rfl))
  | ((with_reducible refine i_setL (xs := ?xs) (j := ?jj) ?hS ?he ?_); (case hS => walk_at "hp"); (case he => exact rfl))
  | with_reducible refine i_tup ?_
  | with_reducible refine i_lst ?_
  | with_reducible refine i_bm ?_
  | with_reducible refine i_bm0 ?_
  | with_reducible refine i_m1 ?_
  | with_reducible refine i_sl ?_
  | with_reducible refine i_nopart ?_
  | with_reducible refine i_part ?_
  | with_reducible refine i_int ?_
  | with_reducible refine i_str ?_
  | with_reducible refine i_for ?_
  | with_reducible refine i_yes ?_
  | ((with_reducible refine i_lenL (xs := ?xs) ?hS ?_); (case hS => walk_at "sq"))
  | ((with_reducible refine i_room ?hz ?_); (case hz => walk_at "len"))
  | with_reducible refine i_leT ?_
  | with_reducible refine i_notInS ?_
  | with_reducible refine i_inS ?_
  | with_reducible refine i_find ?_
  | with_reducible refine i_isB ?_
  | with_reducible refine i_max2 ?_
  | with_reducible refine i_min2 ?_
  | with_reducible exact trivial
  | with_reducible refine iteT ?_
  | with_reducible refine iteF ?_
  | with_reducible refine i_isstr ?_
  | with_reducible refine i_lc ?_
  | ((with_reducible refine i_cat (xs := ?xs) (zs := ?zs) ?ha ?hb ?hz ?_); (case ha => walk_at "hp"); (case hb => walk_at "hp"); (case hz => walk_at "len"))
  | ((with_reducible refine i_tyL (xs := ?xs) ?ha ?_); (case ha => walk_at "hp"))
  | with_reducible refine i_list ?_
  | with_reducible refine i_disp ?_
  | with_reducible refine i_pairs0 ?_
  | with_reducible refine i_pairs ?_
  | with_reducible refine i_newK ?_
  | with_reducible refine i_gcons ?_
  | with_reducible refine i_gnil ?_
  | with_reducible refine i_revL ?_
  | with_reducible refine i_rng1 ?_
  | ((with_reducible refine i_wipe ?hw ?_); (case hw => exact rfl))
  | with_reducible refine iteNT ?_
  | with_reducible refine iteNF ?_)
local macro_rules | `(tactic| walk_at "sx") => `(tactic| first
  | walk_at "st"
  | with_reducible refine i_kinit ?_
  | with_reducible refine i_ost ?_
  | with_reducible refine i_mkO ?_
  | with_reducible refine i_callE ?_
  | with_reducible refine i_makeE ?_
  | with_reducible refine i_xf ?_
  | with_reducible refine i_sfld ?_
  | with_reducible refine i_fld ?_
  | ((with_reducible refine i_ixT (xs := ?xs) (v := ?vv) ?hS ?he ?_); (case hS => exact SqT.tup (by walk_at "hp")); (case he => exact rfl))
  | with_reducible refine i_intB ?_
  | with_reducible refine i_runS ?_
  | with_reducible refine i_runN ?_
  | ((with_reducible refine i_xf1 (fs := ?ff) (v := ?vv) ?hx ?hl ?_); (case hx => walk_at "hp"); (case hl => exact rfl))
  | with_reducible refine i_methE ?_
  | with_reducible refine i_meth ?_
  | with_reducible refine i_make ?_
  | ((with_reducible refine i_obj (dx := ?dd) (fs := ?ff) ?hx ?hl ?_); (case hx => walk_at "hp"); (case hl => exact rfl))
  | ((with_reducible refine i_fld1 (C := ?CC) (dx := ?dd) (fs := ?ff) (v := ?vv) ?hx ?cl ?na ?hl ?_); (case hx => walk_at "hp"); (case cl => assumption); (case na => assumption); (case hl => exact rfl)))
local macro_rules | `(tactic| walk_at "sy") => `(tactic| first
  | walk_at "sx"
  | with_reducible refine i_dget ?_
  | with_reducible refine i_dget2 ?_
  | with_reducible refine i_dput ?_
  | with_reducible refine i_din ?_
  | ((with_reducible refine i_aug (x := ?vv) ?hx ?_); (case hx => exact rfl)))
local macro_rules | `(tactic| walk_at "rd") => `(tactic| repeat (walk_at "sy"))
def topS (i : Nat) : Stmt := PySem.Challenge.pw_iceopened_k83_lines_read.main.body.getD i (.Pass ⟨0, 0, 0, 0⟩)
abbrev s_number_of : Stmt := topS 5
theorem sc_number_of : FnScope ["word"] ["word"] (defScope s_number_of) := ⟨rfl, rfl, rfl, by decide +kernel, rfl, by decide +kernel, by decide +kernel⟩
abbrev s_all_between : Stmt := topS 6
theorem sc_all_between : FnScope ["text", "low", "high", "sign"] ["text", "low", "high"] (defScope s_all_between) := ⟨rfl, rfl, rfl, by decide +kernel, rfl, by decide +kernel, by decide +kernel⟩
abbrev s_read_line : Stmt := topS 9
theorem sc_read_line : FnScope ["line", "kind", "blank", "rest", "words", "forms", "things", "form", "word"] ["line"] (defScope s_read_line) := ⟨rfl, rfl, rfl, by decide +kernel, rfl, by decide +kernel, by decide +kernel⟩
abbrev s_thing_of : Stmt := topS 10
theorem sc_thing_of : FnScope ["form", "word"] ["form", "word"] (defScope s_thing_of) := ⟨rfl, rfl, rfl, by decide +kernel, rfl, by decide +kernel, by decide +kernel⟩
abbrev s_cell : Stmt := topS 12
theorem sc_cell : FnScope ["_law_script", "_law_k"] ["_law_script", "_law_k"] (defScope s_cell) := ⟨rfl, rfl, rfl, by decide +kernel, rfl, by decide +kernel, by decide +kernel⟩
abbrev s_box : Stmt := topS 13
theorem sc_box : FnScope ["_law_cell_here"] ["_law_cell_here"] (defScope s_box) := ⟨rfl, rfl, rfl, by decide +kernel, rfl, by decide +kernel, by decide +kernel⟩
abbrev s_take : Stmt := topS 14
theorem sc_take : FnScope ["_law_box_here", "_law_many", "_law_digit", "_law_one", "_law_other"] ["_law_box_here", "_law_many"] (defScope s_take) := ⟨rfl, rfl, rfl, by decide +kernel, rfl, by decide +kernel, by decide +kernel⟩
abbrev s_form : Stmt := topS 15
theorem sc_form : FnScope ["_law_word", "_law_forms", "_law_one"] ["_law_word"] (defScope s_form) := ⟨rfl, rfl, rfl, by decide +kernel, rfl, by decide +kernel, by decide +kernel⟩
abbrev s_figures : Stmt := topS 16
theorem sc_figures : FnScope ["_law_word", "_law_sign"] ["_law_word"] (defScope s_figures) := ⟨rfl, rfl, rfl, by decide +kernel, rfl, by decide +kernel, by decide +kernel⟩
abbrev s_rows_of : Stmt := topS 17
theorem sc_rows_of : FnScope ["_law_text", "_law_found_here", "_law_at"] ["_law_text"] (defScope s_rows_of) := ⟨rfl, rfl, rfl, by decide +kernel, rfl, by decide +kernel, by decide +kernel⟩
abbrev s_read : Stmt := topS 18
theorem sc_read : FnScope ["_law_line_here", "_law_words", "_law_form_here", "_law_found_here", "_law_sign", "_law_word"] ["_law_line_here"] (defScope s_read) := ⟨rfl, rfl, rfl, by decide +kernel, rfl, by decide +kernel, by decide +kernel⟩
abbrev s_line : Stmt := topS 19
theorem sc_line : FnScope ["_law_box_here", "_law_words", "_law_word", "_law_letters", "_law_found_here", "_law_sign", "_law_size", "_law_parts", "_law_some", "_law_k"] ["_law_box_here"] (defScope s_line) := ⟨rfl, rfl, rfl, by decide +kernel, rfl, by decide +kernel, by decide +kernel⟩
abbrev s_spoilt : Stmt := topS 20
theorem sc_spoilt : FnScope ["_law_box_here", "_law_line_here", "_law_signs", "_law_way", "_law_at", "_law_sign", "_law_words", "_law_place"] ["_law_box_here", "_law_line_here"] (defScope s_spoilt) := ⟨rfl, rfl, rfl, by decide +kernel, rfl, by decide +kernel, by decide +kernel⟩
abbrev s_found : Stmt := topS 21
theorem sc_found : FnScope ["_law_line_here", "_law_found_here", "e", "_law_shown"] ["_law_line_here"] (defScope s_found) := ⟨rfl, rfl, rfl, by decide +kernel, rfl, by decide +kernel, by decide +kernel⟩
abbrev s_right : Stmt := topS 22
theorem sc_right : FnScope ["_law_line_here", "_law_told", "_law_due"] ["_law_line_here"] (defScope s_right) := ⟨rfl, rfl, rfl, by decide +kernel, rfl, by decide +kernel, by decide +kernel⟩
abbrev s_law : Stmt := topS 23
theorem sc_law : FnScope ["_law_script", "_law_k", "_law_box_here", "_law_many", "_law_line_here", "_law_turn", "_law_thing"] ["_law_script"] (defScope s_law) := ⟨rfl, rfl, rfl, by decide +kernel, rfl, by decide +kernel, by decide +kernel⟩
abbrev s_NoLine___init__ : Stmt := inClass (topS 2) 0
theorem sc_NoLine___init__ : FnScope ["self", "found"] ["self", "found"] (defScope s_NoLine___init__) := ⟨rfl, rfl, rfl, by decide +kernel, rfl, by decide +kernel, by decide +kernel⟩

set_option genInjectivity false in
set_option genSizeOf false in
structure Top (w : World) (K : PySem.W.Frag) (mg : Str → Option Value) where
  a_number_of : Addr
  d_number_of : FuncData
  F_number_of : Fun K "number_of" "number_of" s_number_of a_number_of d_number_of
  b_number_of : Binds K d_number_of ["word"] []
  m_number_of : mg "number_of" = some (.ref a_number_of)
  a_all_between : Addr
  d_all_between : FuncData
  F_all_between : Fun K "_all_between" "_all_between" s_all_between a_all_between d_all_between
  b_all_between : Binds K d_all_between ["text", "low", "high"] []
  m_all_between : mg "_all_between" = some (.ref a_all_between)
  a_read_line : Addr
  d_read_line : FuncData
  F_read_line : Fun K "read_line" "read_line" s_read_line a_read_line d_read_line
  b_read_line : Binds K d_read_line ["line"] []
  m_read_line : mg "read_line" = some (.ref a_read_line)
  a_thing_of : Addr
  d_thing_of : FuncData
  F_thing_of : Fun K "_thing_of" "_thing_of" s_thing_of a_thing_of d_thing_of
  b_thing_of : Binds K d_thing_of ["form", "word"] []
  m_thing_of : mg "_thing_of" = some (.ref a_thing_of)
  a_cell : Addr
  d_cell : FuncData
  F_cell : Fun K "_law_cell" "_law_cell" s_cell a_cell d_cell
  b_cell : Binds K d_cell ["_law_script", "_law_k"] []
  m_cell : mg "_law_cell" = some (.ref a_cell)
  a_box : Addr
  d_box : FuncData
  F_box : Fun K "_law_box" "_law_box" s_box a_box d_box
  b_box : Binds K d_box ["_law_cell_here"] []
  m_box : mg "_law_box" = some (.ref a_box)
  a_take : Addr
  d_take : FuncData
  F_take : Fun K "_law_take" "_law_take" s_take a_take d_take
  b_take : Binds K d_take ["_law_box_here", "_law_many"] []
  m_take : mg "_law_take" = some (.ref a_take)
  a_form : Addr
  d_form : FuncData
  F_form : Fun K "_law_form" "_law_form" s_form a_form d_form
  b_form : Binds K d_form ["_law_word"] []
  m_form : mg "_law_form" = some (.ref a_form)
  a_figures : Addr
  d_figures : FuncData
  F_figures : Fun K "_law_figures" "_law_figures" s_figures a_figures d_figures
  b_figures : Binds K d_figures ["_law_word"] []
  m_figures : mg "_law_figures" = some (.ref a_figures)
  a_rows_of : Addr
  d_rows_of : FuncData
  F_rows_of : Fun K "_law_rows_of" "_law_rows_of" s_rows_of a_rows_of d_rows_of
  b_rows_of : Binds K d_rows_of ["_law_text"] []
  m_rows_of : mg "_law_rows_of" = some (.ref a_rows_of)
  a_read : Addr
  d_read : FuncData
  F_read : Fun K "_law_read" "_law_read" s_read a_read d_read
  b_read : Binds K d_read ["_law_line_here"] []
  m_read : mg "_law_read" = some (.ref a_read)
  a_line : Addr
  d_line : FuncData
  F_line : Fun K "_law_line" "_law_line" s_line a_line d_line
  b_line : Binds K d_line ["_law_box_here"] []
  m_line : mg "_law_line" = some (.ref a_line)
  a_spoilt : Addr
  d_spoilt : FuncData
  F_spoilt : Fun K "_law_spoilt" "_law_spoilt" s_spoilt a_spoilt d_spoilt
  b_spoilt : Binds K d_spoilt ["_law_box_here", "_law_line_here"] []
  m_spoilt : mg "_law_spoilt" = some (.ref a_spoilt)
  a_found : Addr
  d_found : FuncData
  F_found : Fun K "_law_found" "_law_found" s_found a_found d_found
  b_found : Binds K d_found ["_law_line_here"] []
  m_found : mg "_law_found" = some (.ref a_found)
  a_right : Addr
  d_right : FuncData
  F_right : Fun K "_law_right" "_law_right" s_right a_right d_right
  b_right : Binds K d_right ["_law_line_here"] []
  m_right : mg "_law_right" = some (.ref a_right)
  a_law : Addr
  d_law : FuncData
  F_law : Fun K "law" "law" s_law a_law d_law
  b_law : Binds K d_law ["_law_script"] []
  m_law : mg "law" = some (.ref a_law)
  a_NoLine___init__ : Addr
  d_NoLine___init__ : FuncData
  F_NoLine___init__ : Fun K "__init__" "NoLine.__init__" s_NoLine___init__ a_NoLine___init__ d_NoLine___init__
  b_NoLine___init__ : Binds K d_NoLine___init__ ["self", "found"] []
  a_IceError : Addr
  c_IceError : mg "IceError" = some (.ref a_IceError)
  sp_IceError : PySem.W.specialIn K (.ref a_IceError) "__getattribute__" = some (some (.builtin "type.__getattribute__"))
  ty_IceError : PySem.W.typeIn K (.ref a_IceError) = some (.type "type")
  rd_IceError : PySem.W.readsIn K a_IceError (.type "type") = true
  fc_IceError : PySem.W.findCls K (.ref a_IceError) (.type "type") "__init__" = some (.val (.builtin "ValueError.__init__"))
  a_NoLine : Addr
  c_NoLine : mg "NoLine" = some (.ref a_NoLine)
  ox_NoLine : OexC K a_NoLine
  xf_NoLine : XfC K a_NoLine
  in_NoLine : PySem.W.findIn K (.ref a_NoLine) "__init__" = some (some (.ref a_NoLine___init__))
  tf_NoLine : PySem.W.typeIn K (.ref a_NoLine___init__) = some (.type "function")
  nf_NoLine_found : PySem.W.findIn K (.ref a_NoLine) "found" = some none
  ex_NoLine_NoLine : PySem.W.exmOne K (.ref a_NoLine) (.ref a_NoLine) = some true
  ex_NoLine_IceError : PySem.W.exmOne K (.ref a_NoLine) (.ref a_IceError) = some true
  t_FIGURES_MOST : Tok
  c_FIGURES_MOST : mg "FIGURES_MOST" = some (.int 12 t_FIGURES_MOST)
  a_LINE_FORMS : Addr
  c_LINE_FORMS : mg "LINE_FORMS" = some (.ref a_LINE_FORMS)
  v_LINE_FORMS_go : Addr
  q_LINE_FORMS_go : ∀ H, SqT K H v_LINE_FORMS_go [.str (Str.ofString "word"), .str (Str.ofString "number"), .str (Str.ofString "word")]
  v_LINE_FORMS_back : Addr
  q_LINE_FORMS_back : ∀ H, SqT K H v_LINE_FORMS_back [.str (Str.ofString "word")]
  v_LINE_FORMS_late : Addr
  q_LINE_FORMS_late : ∀ H, SqT K H v_LINE_FORMS_late [.str (Str.ofString "word"), .str (Str.ofString "number"), .str (Str.ofString "number")]
  v_LINE_FORMS_undo : Addr
  q_LINE_FORMS_undo : ∀ H, SqT K H v_LINE_FORMS_undo []
  v_LINE_FORMS_redo : Addr
  q_LINE_FORMS_redo : ∀ H, SqT K H v_LINE_FORMS_redo []
  v_LINE_FORMS_show : Addr
  q_LINE_FORMS_show : ∀ H, SqT K H v_LINE_FORMS_show []
  v_LINE_FORMS_table : Addr
  q_LINE_FORMS_table : ∀ H, SqT K H v_LINE_FORMS_table []
  v_LINE_FORMS_whole : Addr
  q_LINE_FORMS_whole : ∀ H, SqT K H v_LINE_FORMS_whole []
  v_LINE_FORMS_led : Addr
  q_LINE_FORMS_led : ∀ H, SqT K H v_LINE_FORMS_led []
  v_LINE_FORMS_price : Addr
  q_LINE_FORMS_price : ∀ H, SqT K H v_LINE_FORMS_price []
  v_LINE_FORMS_standing : Addr
  q_LINE_FORMS_standing : ∀ H, SqT K H v_LINE_FORMS_standing []
  v_LINE_FORMS_stuck : Addr
  q_LINE_FORMS_stuck : ∀ H, SqT K H v_LINE_FORMS_stuck []
  v_LINE_FORMS_ice : Addr
  q_LINE_FORMS_ice : ∀ H, SqT K H v_LINE_FORMS_ice [.str (Str.ofString "word"), .str (Str.ofString "number")]
  v_LINE_FORMS_where : Addr
  q_LINE_FORMS_where : ∀ H, SqT K H v_LINE_FORMS_where [.str (Str.ofString "word"), .str (Str.ofString "number")]
  v_LINE_FORMS_last : Addr
  q_LINE_FORMS_last : ∀ H, SqT K H v_LINE_FORMS_last [.str (Str.ofString "word"), .str (Str.ofString "number")]
  v_LINE_FORMS_way : Addr
  q_LINE_FORMS_way : ∀ H, SqT K H v_LINE_FORMS_way [.str (Str.ofString "word")]
  v_LINE_FORMS_free : Addr
  q_LINE_FORMS_free : ∀ H, SqT K H v_LINE_FORMS_free [.str (Str.ofString "word")]
  v_LINE_FORMS_out : Addr
  q_LINE_FORMS_out : ∀ H, SqT K H v_LINE_FORMS_out [.str (Str.ofString "word")]
  v_LINE_FORMS_best : Addr
  q_LINE_FORMS_best : ∀ H, SqT K H v_LINE_FORMS_best [.str (Str.ofString "number")]
  v_LINE_FORMS_barred : Addr
  q_LINE_FORMS_barred : ∀ H, SqT K H v_LINE_FORMS_barred [.str (Str.ofString "word")]
  es_LINE_FORMS : Array DictEntry
  nn_LINE_FORMS : Nat
  kd_LINE_FORMS : KDict K w a_LINE_FORMS es_LINE_FORMS nn_LINE_FORMS
  in_LINE_FORMS : ∀ z, PySem.W.nsIn K a_LINE_FORMS z = some (tabV [(Str.ofString "go", .ref v_LINE_FORMS_go), (Str.ofString "back", .ref v_LINE_FORMS_back), (Str.ofString "late", .ref v_LINE_FORMS_late), (Str.ofString "undo", .ref v_LINE_FORMS_undo), (Str.ofString "redo", .ref v_LINE_FORMS_redo), (Str.ofString "show", .ref v_LINE_FORMS_show), (Str.ofString "table", .ref v_LINE_FORMS_table), (Str.ofString "whole", .ref v_LINE_FORMS_whole), (Str.ofString "led", .ref v_LINE_FORMS_led), (Str.ofString "price", .ref v_LINE_FORMS_price), (Str.ofString "standing", .ref v_LINE_FORMS_standing), (Str.ofString "stuck", .ref v_LINE_FORMS_stuck), (Str.ofString "ice", .ref v_LINE_FORMS_ice), (Str.ofString "where", .ref v_LINE_FORMS_where), (Str.ofString "last", .ref v_LINE_FORMS_last), (Str.ofString "way", .ref v_LINE_FORMS_way), (Str.ofString "free", .ref v_LINE_FORMS_free), (Str.ofString "out", .ref v_LINE_FORMS_out), (Str.ofString "best", .ref v_LINE_FORMS_best), (Str.ofString "barred", .ref v_LINE_FORMS_barred)] z)
  n_int : mg "int" = none
  n_isinstance : mg "isinstance" = none
  n_str : mg "str" = none
  n_len : mg "len" = none
  n_zip : mg "zip" = none
  n_max : mg "max" = none
  n_range : mg "range" = none
  n_repr : mg "repr" = none
  n_tuple : mg "tuple" = none
  n_list : mg "list" = none
  n_bool : mg "bool" = none
  n_min : mg "min" = none
  xi_NoLine : ExcI K a_NoLine
  eq_NoLine : PySem.W.findIn K (.ref a_NoLine) "__eq__" = some (some (.builtin "object.__eq__"))
  io_NoLine_list : PySem.W.kitOne K (.ref a_NoLine) (.type "list") = some false
  io_NoLine_tuple : PySem.W.kitOne K (.ref a_NoLine) (.type "tuple") = some false
  io_NoLine_str : PySem.W.kitOne K (.ref a_NoLine) (.type "str") = some false
  io_NoLine_bool : PySem.W.kitOne K (.ref a_NoLine) (.type "bool") = some false
theorem all_mk {l : PySem.W.OpenLaw} {w : World} {K : PySem.W.Frag} {h : Heap} {mg : Str → Option Value} {fa : Addr} (hL : ∀ (P : Program) (w : World) (K : PySem.W.Frag) (mg : Str → Option Value) (base : Heap) (T : Top w K mg), FnG P w K mg base CX0 7 T.a_law T.d_law ["_law_script"] (spLaw K)) (X : K.In h) (G : h.Ns mainGlobals mg) (hfa : mg "law" = some (.ref fa))
    {f0 : Addr} {od0 an0 : Option Addr} {sl0 : Array (Option Value)} {oc0 kV0 dc0 pm0 cd0 ct0 : Value}
    {f1 : Addr} {od1 an1 : Option Addr} {sl1 : Array (Option Value)} {oc1 kV1 dc1 pm1 cd1 ct1 : Value}
    {f2 : Addr} {od2 an2 : Option Addr} {sl2 : Array (Option Value)} {oc2 kV2 dc2 pm2 cd2 ct2 : Value}
    {f3 : Addr} {od3 an3 : Option Addr} {sl3 : Array (Option Value)} {oc3 kV3 dc3 pm3 cd3 ct3 : Value}
    {f4 : Addr} {od4 an4 : Option Addr} {sl4 : Array (Option Value)} {oc4 kV4 dc4 pm4 cd4 ct4 : Value}
    {f5 : Addr} {od5 an5 : Option Addr} {sl5 : Array (Option Value)} {oc5 kV5 dc5 pm5 cd5 ct5 : Value}
    {f6 : Addr} {od6 an6 : Option Addr} {sl6 : Array (Option Value)} {oc6 kV6 dc6 pm6 cd6 ct6 : Value}
    {f7 : Addr} {od7 an7 : Option Addr} {sl7 : Array (Option Value)} {oc7 kV7 dc7 pm7 cd7 ct7 : Value}
    {f8 : Addr} {od8 an8 : Option Addr} {sl8 : Array (Option Value)} {oc8 kV8 dc8 pm8 cd8 ct8 : Value}
    {f9 : Addr} {od9 an9 : Option Addr} {sl9 : Array (Option Value)} {oc9 kV9 dc9 pm9 cd9 ct9 : Value}
    {f10 : Addr} {od10 an10 : Option Addr} {sl10 : Array (Option Value)} {oc10 kV10 dc10 pm10 cd10 ct10 : Value}
    {f11 : Addr} {od11 an11 : Option Addr} {sl11 : Array (Option Value)} {oc11 kV11 dc11 pm11 cd11 ct11 : Value}
    {f12 : Addr} {od12 an12 : Option Addr} {sl12 : Array (Option Value)} {oc12 kV12 dc12 pm12 cd12 ct12 : Value}
    {f13 : Addr} {od13 an13 : Option Addr} {sl13 : Array (Option Value)} {oc13 kV13 dc13 pm13 cd13 ct13 : Value}
    {f14 : Addr} {od14 an14 : Option Addr} {sl14 : Array (Option Value)} {oc14 kV14 dc14 pm14 cd14 ct14 : Value}
    {f15 : Addr} {od15 an15 : Option Addr} {sl15 : Array (Option Value)} {oc15 kV15 dc15 pm15 cd15 ct15 : Value}
    {f16 : Addr} {od16 an16 : Option Addr} {sl16 : Array (Option Value)} {oc16 kV16 dc16 pm16 cd16 ct16 : Value}
    {t_FIGURES_MOST : Tok}
    {C_IceError : Addr}
    {C_NoLine : Addr}
    {nm_NoLine q_NoLine : Str} {N_NoLine : Addr} {bs_NoLine bm_NoLine : List Value} {sn_NoLine : List Str} {su_NoLine : List Value} {ab_NoLine : Bool} {co_NoLine : Option Bool} {dd_NoLine : Option Addr} {m0_NoLine m1_NoLine m2_NoLine m3_NoLine m5_NoLine : Option Value}
    {C_LINE_FORMS : Addr}
    {V_LINE_FORMS_go : Addr}
    {k0_LINE_FORMS : Tok} {h0_LINE_FORMS : Int}
    {V_LINE_FORMS_back : Addr}
    {k1_LINE_FORMS : Tok} {h1_LINE_FORMS : Int}
    {V_LINE_FORMS_late : Addr}
    {k2_LINE_FORMS : Tok} {h2_LINE_FORMS : Int}
    {V_LINE_FORMS_undo : Addr}
    {k3_LINE_FORMS : Tok} {h3_LINE_FORMS : Int}
    {V_LINE_FORMS_redo : Addr}
    {k4_LINE_FORMS : Tok} {h4_LINE_FORMS : Int}
    {V_LINE_FORMS_show : Addr}
    {k5_LINE_FORMS : Tok} {h5_LINE_FORMS : Int}
    {V_LINE_FORMS_table : Addr}
    {k6_LINE_FORMS : Tok} {h6_LINE_FORMS : Int}
    {V_LINE_FORMS_whole : Addr}
    {k7_LINE_FORMS : Tok} {h7_LINE_FORMS : Int}
    {V_LINE_FORMS_led : Addr}
    {k8_LINE_FORMS : Tok} {h8_LINE_FORMS : Int}
    {V_LINE_FORMS_price : Addr}
    {k9_LINE_FORMS : Tok} {h9_LINE_FORMS : Int}
    {V_LINE_FORMS_standing : Addr}
    {k10_LINE_FORMS : Tok} {h10_LINE_FORMS : Int}
    {V_LINE_FORMS_stuck : Addr}
    {k11_LINE_FORMS : Tok} {h11_LINE_FORMS : Int}
    {V_LINE_FORMS_ice : Addr}
    {k12_LINE_FORMS : Tok} {h12_LINE_FORMS : Int}
    {V_LINE_FORMS_where : Addr}
    {k13_LINE_FORMS : Tok} {h13_LINE_FORMS : Int}
    {V_LINE_FORMS_last : Addr}
    {k14_LINE_FORMS : Tok} {h14_LINE_FORMS : Int}
    {V_LINE_FORMS_way : Addr}
    {k15_LINE_FORMS : Tok} {h15_LINE_FORMS : Int}
    {V_LINE_FORMS_free : Addr}
    {k16_LINE_FORMS : Tok} {h16_LINE_FORMS : Int}
    {V_LINE_FORMS_out : Addr}
    {k17_LINE_FORMS : Tok} {h17_LINE_FORMS : Int}
    {V_LINE_FORMS_best : Addr}
    {k18_LINE_FORMS : Tok} {h18_LINE_FORMS : Int}
    {V_LINE_FORMS_barred : Addr}
    {k19_LINE_FORMS : Tok} {h19_LINE_FORMS : Int}
    {n_LINE_FORMS : Nat}
    {n_LINE_FORMS_go : Nat} {sl_LINE_FORMS_go : Array (Option Value)} {t0_LINE_FORMS_go t1_LINE_FORMS_go t2_LINE_FORMS_go : Tok}
    {n_LINE_FORMS_back : Nat} {sl_LINE_FORMS_back : Array (Option Value)} {t0_LINE_FORMS_back : Tok}
    {n_LINE_FORMS_late : Nat} {sl_LINE_FORMS_late : Array (Option Value)} {t0_LINE_FORMS_late t1_LINE_FORMS_late t2_LINE_FORMS_late : Tok}
    {n_LINE_FORMS_undo : Nat} {sl_LINE_FORMS_undo : Array (Option Value)}
    {n_LINE_FORMS_redo : Nat} {sl_LINE_FORMS_redo : Array (Option Value)}
    {n_LINE_FORMS_show : Nat} {sl_LINE_FORMS_show : Array (Option Value)}
    {n_LINE_FORMS_table : Nat} {sl_LINE_FORMS_table : Array (Option Value)}
    {n_LINE_FORMS_whole : Nat} {sl_LINE_FORMS_whole : Array (Option Value)}
    {n_LINE_FORMS_led : Nat} {sl_LINE_FORMS_led : Array (Option Value)}
    {n_LINE_FORMS_price : Nat} {sl_LINE_FORMS_price : Array (Option Value)}
    {n_LINE_FORMS_standing : Nat} {sl_LINE_FORMS_standing : Array (Option Value)}
    {n_LINE_FORMS_stuck : Nat} {sl_LINE_FORMS_stuck : Array (Option Value)}
    {n_LINE_FORMS_ice : Nat} {sl_LINE_FORMS_ice : Array (Option Value)} {t0_LINE_FORMS_ice t1_LINE_FORMS_ice : Tok}
    {n_LINE_FORMS_where : Nat} {sl_LINE_FORMS_where : Array (Option Value)} {t0_LINE_FORMS_where t1_LINE_FORMS_where : Tok}
    {n_LINE_FORMS_last : Nat} {sl_LINE_FORMS_last : Array (Option Value)} {t0_LINE_FORMS_last t1_LINE_FORMS_last : Tok}
    {n_LINE_FORMS_way : Nat} {sl_LINE_FORMS_way : Array (Option Value)} {t0_LINE_FORMS_way : Tok}
    {n_LINE_FORMS_free : Nat} {sl_LINE_FORMS_free : Array (Option Value)} {t0_LINE_FORMS_free : Tok}
    {n_LINE_FORMS_out : Nat} {sl_LINE_FORMS_out : Array (Option Value)} {t0_LINE_FORMS_out : Tok}
    {n_LINE_FORMS_best : Nat} {sl_LINE_FORMS_best : Array (Option Value)} {t0_LINE_FORMS_best : Tok}
    {n_LINE_FORMS_barred : Nat} {sl_LINE_FORMS_barred : Array (Option Value)} {t0_LINE_FORMS_barred : Tok}
    (g_IceError : PySem.W.nsIn K mainGlobals "IceError" = some (some (.ref C_IceError)))
    (sp_IceError : PySem.W.specialIn K (.ref C_IceError) "__getattribute__" = some (some (.builtin "type.__getattribute__")))
    (ty_IceError : PySem.W.typeIn K (.ref C_IceError) = some (.type "type"))
    (rd_IceError : PySem.W.readsIn K C_IceError (.type "type") = true)
    (fc_IceError : PySem.W.findCls K (.ref C_IceError) (.type "type") "__init__" = some (.val (.builtin "ValueError.__init__")))
    (g_NoLine : PySem.W.nsIn K mainGlobals "NoLine" = some (some (.ref C_NoLine)))
    (xl_NoLine : K.lookup C_NoLine = some (excClassObj nm_NoLine q_NoLine C_NoLine N_NoLine bs_NoLine bm_NoLine true sn_NoLine su_NoLine ab_NoLine co_NoLine dd_NoLine m0_NoLine m1_NoLine m2_NoLine m3_NoLine m5_NoLine "ValueError.__new__"))
    (hb_NoLine : PySem.HandSPX.refsVE bm_NoLine = true)
    (sa_NoLine : PySem.W.findIn K (.ref C_NoLine) "__setattr__" = some (some (.builtin "object.__setattr__")))
    (ec_NoLine : PySem.W.subIn K (.ref C_NoLine) (.type "BaseException") = some true)
    (tc_NoLine : PySem.W.typeIn K (.ref C_NoLine) = some (.type "type"))
    (kc_NoLine : PySem.W.keepIn K (.ref C_NoLine) = true)
    (ga_NoLine : PySem.W.findIn K (.ref C_NoLine) "__getattribute__" = some (some (.builtin "BaseException.__getattribute__")))
    (gg_NoLine : PySem.W.findIn K (.ref C_NoLine) "__getattr__" = some none)
    (hd_NoLine : PySem.W.hasDictIn K C_NoLine = true)
    (in_NoLine : PySem.W.findIn K (.ref C_NoLine) "__init__" = some (some (.ref f16)))
    (tf_NoLine : PySem.W.typeIn K (.ref f16) = some (.type "function"))
    (nf_NoLine_found : PySem.W.findIn K (.ref C_NoLine) "found" = some none)
    (ex_NoLine_NoLine : PySem.W.exmOne K (.ref C_NoLine) (.ref C_NoLine) = some true)
    (ex_NoLine_IceError : PySem.W.exmOne K (.ref C_NoLine) (.ref C_IceError) = some true)
    (sgc : PySem.W.specialIn K (.builtin "object.__class__") "__get__" = some (some (.builtin "getset_descriptor.__get__")))
    (tkc : PySem.W.takesIn K (.builtin "object.__class__") = some true)
    (ca_NoLine : PySem.W.findIn K (.ref C_NoLine) "__class__" = some (some (.builtin "object.__class__")))
    (mo_NoLine : PySem.W.mroIn K C_NoLine (.type "object") = some true)
    (eq_NoLine : PySem.W.findIn K (.ref C_NoLine) "__eq__" = some (some (.builtin "object.__eq__")))
    (io_NoLine_list : PySem.W.kitOne K (.ref C_NoLine) (.type "list") = some false)
    (io_NoLine_tuple : PySem.W.kitOne K (.ref C_NoLine) (.type "tuple") = some false)
    (io_NoLine_str : PySem.W.kitOne K (.ref C_NoLine) (.type "str") = some false)
    (io_NoLine_bool : PySem.W.kitOne K (.ref C_NoLine) (.type "bool") = some false)
    (a0 : PySem.W.nsIn K mainGlobals "number_of" = some (some (.ref f0)))
    (l0 : K.lookup f0 = some ⟨oc0, od0, .func (PySem.W.fnOf "number_of" "number_of" (defArgs s_number_of) (defBody s_number_of) (defScope s_number_of) .none kV0 dc0 pm0 an0 cd0 ct0), sl0⟩)
    (p0 : PySem.W.codeIn K cd0 "number_of" = true)
    (k0 : PySem.W.keepIn K (.ref f0) = true)
    (a1 : PySem.W.nsIn K mainGlobals "_all_between" = some (some (.ref f1)))
    (l1 : K.lookup f1 = some ⟨oc1, od1, .func (PySem.W.fnOf "_all_between" "_all_between" (defArgs s_all_between) (defBody s_all_between) (defScope s_all_between) .none kV1 dc1 pm1 an1 cd1 ct1), sl1⟩)
    (p1 : PySem.W.codeIn K cd1 "_all_between" = true)
    (k1 : PySem.W.keepIn K (.ref f1) = true)
    (a2 : PySem.W.nsIn K mainGlobals "read_line" = some (some (.ref f2)))
    (l2 : K.lookup f2 = some ⟨oc2, od2, .func (PySem.W.fnOf "read_line" "read_line" (defArgs s_read_line) (defBody s_read_line) (defScope s_read_line) .none kV2 dc2 pm2 an2 cd2 ct2), sl2⟩)
    (p2 : PySem.W.codeIn K cd2 "read_line" = true)
    (k2 : PySem.W.keepIn K (.ref f2) = true)
    (a3 : PySem.W.nsIn K mainGlobals "_thing_of" = some (some (.ref f3)))
    (l3 : K.lookup f3 = some ⟨oc3, od3, .func (PySem.W.fnOf "_thing_of" "_thing_of" (defArgs s_thing_of) (defBody s_thing_of) (defScope s_thing_of) .none kV3 dc3 pm3 an3 cd3 ct3), sl3⟩)
    (p3 : PySem.W.codeIn K cd3 "_thing_of" = true)
    (k3 : PySem.W.keepIn K (.ref f3) = true)
    (a4 : PySem.W.nsIn K mainGlobals "_law_cell" = some (some (.ref f4)))
    (l4 : K.lookup f4 = some ⟨oc4, od4, .func (PySem.W.fnOf "_law_cell" "_law_cell" (defArgs s_cell) (defBody s_cell) (defScope s_cell) .none kV4 dc4 pm4 an4 cd4 ct4), sl4⟩)
    (p4 : PySem.W.codeIn K cd4 "_law_cell" = true)
    (k4 : PySem.W.keepIn K (.ref f4) = true)
    (a5 : PySem.W.nsIn K mainGlobals "_law_box" = some (some (.ref f5)))
    (l5 : K.lookup f5 = some ⟨oc5, od5, .func (PySem.W.fnOf "_law_box" "_law_box" (defArgs s_box) (defBody s_box) (defScope s_box) .none kV5 dc5 pm5 an5 cd5 ct5), sl5⟩)
    (p5 : PySem.W.codeIn K cd5 "_law_box" = true)
    (k5 : PySem.W.keepIn K (.ref f5) = true)
    (a6 : PySem.W.nsIn K mainGlobals "_law_take" = some (some (.ref f6)))
    (l6 : K.lookup f6 = some ⟨oc6, od6, .func (PySem.W.fnOf "_law_take" "_law_take" (defArgs s_take) (defBody s_take) (defScope s_take) .none kV6 dc6 pm6 an6 cd6 ct6), sl6⟩)
    (p6 : PySem.W.codeIn K cd6 "_law_take" = true)
    (k6 : PySem.W.keepIn K (.ref f6) = true)
    (a7 : PySem.W.nsIn K mainGlobals "_law_form" = some (some (.ref f7)))
    (l7 : K.lookup f7 = some ⟨oc7, od7, .func (PySem.W.fnOf "_law_form" "_law_form" (defArgs s_form) (defBody s_form) (defScope s_form) .none kV7 dc7 pm7 an7 cd7 ct7), sl7⟩)
    (p7 : PySem.W.codeIn K cd7 "_law_form" = true)
    (k7 : PySem.W.keepIn K (.ref f7) = true)
    (a8 : PySem.W.nsIn K mainGlobals "_law_figures" = some (some (.ref f8)))
    (l8 : K.lookup f8 = some ⟨oc8, od8, .func (PySem.W.fnOf "_law_figures" "_law_figures" (defArgs s_figures) (defBody s_figures) (defScope s_figures) .none kV8 dc8 pm8 an8 cd8 ct8), sl8⟩)
    (p8 : PySem.W.codeIn K cd8 "_law_figures" = true)
    (k8 : PySem.W.keepIn K (.ref f8) = true)
    (a9 : PySem.W.nsIn K mainGlobals "_law_rows_of" = some (some (.ref f9)))
    (l9 : K.lookup f9 = some ⟨oc9, od9, .func (PySem.W.fnOf "_law_rows_of" "_law_rows_of" (defArgs s_rows_of) (defBody s_rows_of) (defScope s_rows_of) .none kV9 dc9 pm9 an9 cd9 ct9), sl9⟩)
    (p9 : PySem.W.codeIn K cd9 "_law_rows_of" = true)
    (k9 : PySem.W.keepIn K (.ref f9) = true)
    (a10 : PySem.W.nsIn K mainGlobals "_law_read" = some (some (.ref f10)))
    (l10 : K.lookup f10 = some ⟨oc10, od10, .func (PySem.W.fnOf "_law_read" "_law_read" (defArgs s_read) (defBody s_read) (defScope s_read) .none kV10 dc10 pm10 an10 cd10 ct10), sl10⟩)
    (p10 : PySem.W.codeIn K cd10 "_law_read" = true)
    (k10 : PySem.W.keepIn K (.ref f10) = true)
    (a11 : PySem.W.nsIn K mainGlobals "_law_line" = some (some (.ref f11)))
    (l11 : K.lookup f11 = some ⟨oc11, od11, .func (PySem.W.fnOf "_law_line" "_law_line" (defArgs s_line) (defBody s_line) (defScope s_line) .none kV11 dc11 pm11 an11 cd11 ct11), sl11⟩)
    (p11 : PySem.W.codeIn K cd11 "_law_line" = true)
    (k11 : PySem.W.keepIn K (.ref f11) = true)
    (a12 : PySem.W.nsIn K mainGlobals "_law_spoilt" = some (some (.ref f12)))
    (l12 : K.lookup f12 = some ⟨oc12, od12, .func (PySem.W.fnOf "_law_spoilt" "_law_spoilt" (defArgs s_spoilt) (defBody s_spoilt) (defScope s_spoilt) .none kV12 dc12 pm12 an12 cd12 ct12), sl12⟩)
    (p12 : PySem.W.codeIn K cd12 "_law_spoilt" = true)
    (k12 : PySem.W.keepIn K (.ref f12) = true)
    (a13 : PySem.W.nsIn K mainGlobals "_law_found" = some (some (.ref f13)))
    (l13 : K.lookup f13 = some ⟨oc13, od13, .func (PySem.W.fnOf "_law_found" "_law_found" (defArgs s_found) (defBody s_found) (defScope s_found) .none kV13 dc13 pm13 an13 cd13 ct13), sl13⟩)
    (p13 : PySem.W.codeIn K cd13 "_law_found" = true)
    (k13 : PySem.W.keepIn K (.ref f13) = true)
    (a14 : PySem.W.nsIn K mainGlobals "_law_right" = some (some (.ref f14)))
    (l14 : K.lookup f14 = some ⟨oc14, od14, .func (PySem.W.fnOf "_law_right" "_law_right" (defArgs s_right) (defBody s_right) (defScope s_right) .none kV14 dc14 pm14 an14 cd14 ct14), sl14⟩)
    (p14 : PySem.W.codeIn K cd14 "_law_right" = true)
    (k14 : PySem.W.keepIn K (.ref f14) = true)
    (a15 : PySem.W.nsIn K mainGlobals "law" = some (some (.ref f15)))
    (l15 : K.lookup f15 = some ⟨oc15, od15, .func (PySem.W.fnOf "law" "law" (defArgs s_law) (defBody s_law) (defScope s_law) .none kV15 dc15 pm15 an15 cd15 ct15), sl15⟩)
    (p15 : PySem.W.codeIn K cd15 "law" = true)
    (k15 : PySem.W.keepIn K (.ref f15) = true)
    (l16 : K.lookup f16 = some ⟨oc16, od16, .func (PySem.W.fnOf "__init__" "NoLine.__init__" (defArgs s_NoLine___init__) (defBody s_NoLine___init__) (defScope s_NoLine___init__) .none kV16 dc16 pm16 an16 cd16 ct16), sl16⟩)
    (p16 : PySem.W.codeIn K cd16 "NoLine.__init__" = true)
    (k16 : PySem.W.keepIn K (.ref f16) = true)
    (c_LINE_FORMS : PySem.W.nsIn K mainGlobals "LINE_FORMS" = some (some (.ref C_LINE_FORMS)))
    (l_LINE_FORMS : K.lookup C_LINE_FORMS = some ⟨.type "dict", none, .dict #[⟨h0_LINE_FORMS, .str (Str.ofString "go") k0_LINE_FORMS, .ref V_LINE_FORMS_go⟩, ⟨h1_LINE_FORMS, .str (Str.ofString "back") k1_LINE_FORMS, .ref V_LINE_FORMS_back⟩, ⟨h2_LINE_FORMS, .str (Str.ofString "late") k2_LINE_FORMS, .ref V_LINE_FORMS_late⟩, ⟨h3_LINE_FORMS, .str (Str.ofString "undo") k3_LINE_FORMS, .ref V_LINE_FORMS_undo⟩, ⟨h4_LINE_FORMS, .str (Str.ofString "redo") k4_LINE_FORMS, .ref V_LINE_FORMS_redo⟩, ⟨h5_LINE_FORMS, .str (Str.ofString "show") k5_LINE_FORMS, .ref V_LINE_FORMS_show⟩, ⟨h6_LINE_FORMS, .str (Str.ofString "table") k6_LINE_FORMS, .ref V_LINE_FORMS_table⟩, ⟨h7_LINE_FORMS, .str (Str.ofString "whole") k7_LINE_FORMS, .ref V_LINE_FORMS_whole⟩, ⟨h8_LINE_FORMS, .str (Str.ofString "led") k8_LINE_FORMS, .ref V_LINE_FORMS_led⟩, ⟨h9_LINE_FORMS, .str (Str.ofString "price") k9_LINE_FORMS, .ref V_LINE_FORMS_price⟩, ⟨h10_LINE_FORMS, .str (Str.ofString "standing") k10_LINE_FORMS, .ref V_LINE_FORMS_standing⟩, ⟨h11_LINE_FORMS, .str (Str.ofString "stuck") k11_LINE_FORMS, .ref V_LINE_FORMS_stuck⟩, ⟨h12_LINE_FORMS, .str (Str.ofString "ice") k12_LINE_FORMS, .ref V_LINE_FORMS_ice⟩, ⟨h13_LINE_FORMS, .str (Str.ofString "where") k13_LINE_FORMS, .ref V_LINE_FORMS_where⟩, ⟨h14_LINE_FORMS, .str (Str.ofString "last") k14_LINE_FORMS, .ref V_LINE_FORMS_last⟩, ⟨h15_LINE_FORMS, .str (Str.ofString "way") k15_LINE_FORMS, .ref V_LINE_FORMS_way⟩, ⟨h16_LINE_FORMS, .str (Str.ofString "free") k16_LINE_FORMS, .ref V_LINE_FORMS_free⟩, ⟨h17_LINE_FORMS, .str (Str.ofString "out") k17_LINE_FORMS, .ref V_LINE_FORMS_out⟩, ⟨h18_LINE_FORMS, .str (Str.ofString "best") k18_LINE_FORMS, .ref V_LINE_FORMS_best⟩, ⟨h19_LINE_FORMS, .str (Str.ofString "barred") k19_LINE_FORMS, .ref V_LINE_FORMS_barred⟩] n_LINE_FORMS, #[]⟩)
    (l_LINE_FORMS_go : K.lookup V_LINE_FORMS_go = some ⟨.type "tuple", none, .seq #[.str (Str.ofString "word") t0_LINE_FORMS_go, .str (Str.ofString "number") t1_LINE_FORMS_go, .str (Str.ofString "word") t2_LINE_FORMS_go] n_LINE_FORMS_go, sl_LINE_FORMS_go⟩)
    (l_LINE_FORMS_back : K.lookup V_LINE_FORMS_back = some ⟨.type "tuple", none, .seq #[.str (Str.ofString "word") t0_LINE_FORMS_back] n_LINE_FORMS_back, sl_LINE_FORMS_back⟩)
    (l_LINE_FORMS_late : K.lookup V_LINE_FORMS_late = some ⟨.type "tuple", none, .seq #[.str (Str.ofString "word") t0_LINE_FORMS_late, .str (Str.ofString "number") t1_LINE_FORMS_late, .str (Str.ofString "number") t2_LINE_FORMS_late] n_LINE_FORMS_late, sl_LINE_FORMS_late⟩)
    (l_LINE_FORMS_undo : K.lookup V_LINE_FORMS_undo = some ⟨.type "tuple", none, .seq #[] n_LINE_FORMS_undo, sl_LINE_FORMS_undo⟩)
    (l_LINE_FORMS_redo : K.lookup V_LINE_FORMS_redo = some ⟨.type "tuple", none, .seq #[] n_LINE_FORMS_redo, sl_LINE_FORMS_redo⟩)
    (l_LINE_FORMS_show : K.lookup V_LINE_FORMS_show = some ⟨.type "tuple", none, .seq #[] n_LINE_FORMS_show, sl_LINE_FORMS_show⟩)
    (l_LINE_FORMS_table : K.lookup V_LINE_FORMS_table = some ⟨.type "tuple", none, .seq #[] n_LINE_FORMS_table, sl_LINE_FORMS_table⟩)
    (l_LINE_FORMS_whole : K.lookup V_LINE_FORMS_whole = some ⟨.type "tuple", none, .seq #[] n_LINE_FORMS_whole, sl_LINE_FORMS_whole⟩)
    (l_LINE_FORMS_led : K.lookup V_LINE_FORMS_led = some ⟨.type "tuple", none, .seq #[] n_LINE_FORMS_led, sl_LINE_FORMS_led⟩)
    (l_LINE_FORMS_price : K.lookup V_LINE_FORMS_price = some ⟨.type "tuple", none, .seq #[] n_LINE_FORMS_price, sl_LINE_FORMS_price⟩)
    (l_LINE_FORMS_standing : K.lookup V_LINE_FORMS_standing = some ⟨.type "tuple", none, .seq #[] n_LINE_FORMS_standing, sl_LINE_FORMS_standing⟩)
    (l_LINE_FORMS_stuck : K.lookup V_LINE_FORMS_stuck = some ⟨.type "tuple", none, .seq #[] n_LINE_FORMS_stuck, sl_LINE_FORMS_stuck⟩)
    (l_LINE_FORMS_ice : K.lookup V_LINE_FORMS_ice = some ⟨.type "tuple", none, .seq #[.str (Str.ofString "word") t0_LINE_FORMS_ice, .str (Str.ofString "number") t1_LINE_FORMS_ice] n_LINE_FORMS_ice, sl_LINE_FORMS_ice⟩)
    (l_LINE_FORMS_where : K.lookup V_LINE_FORMS_where = some ⟨.type "tuple", none, .seq #[.str (Str.ofString "word") t0_LINE_FORMS_where, .str (Str.ofString "number") t1_LINE_FORMS_where] n_LINE_FORMS_where, sl_LINE_FORMS_where⟩)
    (l_LINE_FORMS_last : K.lookup V_LINE_FORMS_last = some ⟨.type "tuple", none, .seq #[.str (Str.ofString "word") t0_LINE_FORMS_last, .str (Str.ofString "number") t1_LINE_FORMS_last] n_LINE_FORMS_last, sl_LINE_FORMS_last⟩)
    (l_LINE_FORMS_way : K.lookup V_LINE_FORMS_way = some ⟨.type "tuple", none, .seq #[.str (Str.ofString "word") t0_LINE_FORMS_way] n_LINE_FORMS_way, sl_LINE_FORMS_way⟩)
    (l_LINE_FORMS_free : K.lookup V_LINE_FORMS_free = some ⟨.type "tuple", none, .seq #[.str (Str.ofString "word") t0_LINE_FORMS_free] n_LINE_FORMS_free, sl_LINE_FORMS_free⟩)
    (l_LINE_FORMS_out : K.lookup V_LINE_FORMS_out = some ⟨.type "tuple", none, .seq #[.str (Str.ofString "word") t0_LINE_FORMS_out] n_LINE_FORMS_out, sl_LINE_FORMS_out⟩)
    (l_LINE_FORMS_best : K.lookup V_LINE_FORMS_best = some ⟨.type "tuple", none, .seq #[.str (Str.ofString "number") t0_LINE_FORMS_best] n_LINE_FORMS_best, sl_LINE_FORMS_best⟩)
    (l_LINE_FORMS_barred : K.lookup V_LINE_FORMS_barred = some ⟨.type "tuple", none, .seq #[.str (Str.ofString "word") t0_LINE_FORMS_barred] n_LINE_FORMS_barred, sl_LINE_FORMS_barred⟩)
    (y0_LINE_FORMS : h0_LINE_FORMS = PyData.keyHash w.params (Str.ofString "go"))
    (y1_LINE_FORMS : h1_LINE_FORMS = PyData.keyHash w.params (Str.ofString "back"))
    (y2_LINE_FORMS : h2_LINE_FORMS = PyData.keyHash w.params (Str.ofString "late"))
    (y3_LINE_FORMS : h3_LINE_FORMS = PyData.keyHash w.params (Str.ofString "undo"))
    (y4_LINE_FORMS : h4_LINE_FORMS = PyData.keyHash w.params (Str.ofString "redo"))
    (y5_LINE_FORMS : h5_LINE_FORMS = PyData.keyHash w.params (Str.ofString "show"))
    (y6_LINE_FORMS : h6_LINE_FORMS = PyData.keyHash w.params (Str.ofString "table"))
    (y7_LINE_FORMS : h7_LINE_FORMS = PyData.keyHash w.params (Str.ofString "whole"))
    (y8_LINE_FORMS : h8_LINE_FORMS = PyData.keyHash w.params (Str.ofString "led"))
    (y9_LINE_FORMS : h9_LINE_FORMS = PyData.keyHash w.params (Str.ofString "price"))
    (y10_LINE_FORMS : h10_LINE_FORMS = PyData.keyHash w.params (Str.ofString "standing"))
    (y11_LINE_FORMS : h11_LINE_FORMS = PyData.keyHash w.params (Str.ofString "stuck"))
    (y12_LINE_FORMS : h12_LINE_FORMS = PyData.keyHash w.params (Str.ofString "ice"))
    (y13_LINE_FORMS : h13_LINE_FORMS = PyData.keyHash w.params (Str.ofString "where"))
    (y14_LINE_FORMS : h14_LINE_FORMS = PyData.keyHash w.params (Str.ofString "last"))
    (y15_LINE_FORMS : h15_LINE_FORMS = PyData.keyHash w.params (Str.ofString "way"))
    (y16_LINE_FORMS : h16_LINE_FORMS = PyData.keyHash w.params (Str.ofString "free"))
    (y17_LINE_FORMS : h17_LINE_FORMS = PyData.keyHash w.params (Str.ofString "out"))
    (y18_LINE_FORMS : h18_LINE_FORMS = PyData.keyHash w.params (Str.ofString "best"))
    (y19_LINE_FORMS : h19_LINE_FORMS = PyData.keyHash w.params (Str.ofString "barred"))
    (y_LINE_FORMS : (C_LINE_FORMS == sysModules) = false)
    (c_FIGURES_MOST : PySem.W.nsIn K mainGlobals "FIGURES_MOST" = some (some (.int 12 t_FIGURES_MOST)))
    (n_int : PySem.W.nsIn K mainGlobals "int" = some none)
    (n_isinstance : PySem.W.nsIn K mainGlobals "isinstance" = some none)
    (n_str : PySem.W.nsIn K mainGlobals "str" = some none)
    (n_len : PySem.W.nsIn K mainGlobals "len" = some none)
    (n_zip : PySem.W.nsIn K mainGlobals "zip" = some none)
    (n_max : PySem.W.nsIn K mainGlobals "max" = some none)
    (n_range : PySem.W.nsIn K mainGlobals "range" = some none)
    (n_repr : PySem.W.nsIn K mainGlobals "repr" = some none)
    (n_tuple : PySem.W.nsIn K mainGlobals "tuple" = some none)
    (n_list : PySem.W.nsIn K mainGlobals "list" = some none)
    (n_bool : PySem.W.nsIn K mainGlobals "bool" = some none)
    (n_min : PySem.W.nsIn K mainGlobals "min" = some none)
    : ∃ fd : FuncData, (∀ (s : Shared) (v : Value), BindsTo s fd ⟨[v], []⟩ [("_law_script", v)]) ∧ ∀ base : Heap, K.In base → base.Ns mainGlobals mg → FnG l.prog w K mg base CX0 7 fa fd ["_law_script"] (spLaw K) := by
  cases hfa.symm.trans (PySem.W.mg_of X G a15)
  have F0 := fun_mk (st := s_number_of) l0 p0 k0
  have b0 := F0.binds (ps := ["word"]) fun _ _ _ _ _ _ us hl => match us, hl with | [_], _ => rfl
  have F1 := fun_mk (st := s_all_between) l1 p1 k1
  have b1 := F1.binds (ps := ["text", "low", "high"]) fun _ _ _ _ _ _ us hl => match us, hl with | [_, _, _], _ => rfl
  have F2 := fun_mk (st := s_read_line) l2 p2 k2
  have b2 := F2.binds (ps := ["line"]) fun _ _ _ _ _ _ us hl => match us, hl with | [_], _ => rfl
  have F3 := fun_mk (st := s_thing_of) l3 p3 k3
  have b3 := F3.binds (ps := ["form", "word"]) fun _ _ _ _ _ _ us hl => match us, hl with | [_, _], _ => rfl
  have F4 := fun_mk (st := s_cell) l4 p4 k4
  have b4 := F4.binds (ps := ["_law_script", "_law_k"]) fun _ _ _ _ _ _ us hl => match us, hl with | [_, _], _ => rfl
  have F5 := fun_mk (st := s_box) l5 p5 k5
  have b5 := F5.binds (ps := ["_law_cell_here"]) fun _ _ _ _ _ _ us hl => match us, hl with | [_], _ => rfl
  have F6 := fun_mk (st := s_take) l6 p6 k6
  have b6 := F6.binds (ps := ["_law_box_here", "_law_many"]) fun _ _ _ _ _ _ us hl => match us, hl with | [_, _], _ => rfl
  have F7 := fun_mk (st := s_form) l7 p7 k7
  have b7 := F7.binds (ps := ["_law_word"]) fun _ _ _ _ _ _ us hl => match us, hl with | [_], _ => rfl
  have F8 := fun_mk (st := s_figures) l8 p8 k8
  have b8 := F8.binds (ps := ["_law_word"]) fun _ _ _ _ _ _ us hl => match us, hl with | [_], _ => rfl
  have F9 := fun_mk (st := s_rows_of) l9 p9 k9
  have b9 := F9.binds (ps := ["_law_text"]) fun _ _ _ _ _ _ us hl => match us, hl with | [_], _ => rfl
  have F10 := fun_mk (st := s_read) l10 p10 k10
  have b10 := F10.binds (ps := ["_law_line_here"]) fun _ _ _ _ _ _ us hl => match us, hl with | [_], _ => rfl
  have F11 := fun_mk (st := s_line) l11 p11 k11
  have b11 := F11.binds (ps := ["_law_box_here"]) fun _ _ _ _ _ _ us hl => match us, hl with | [_], _ => rfl
  have F12 := fun_mk (st := s_spoilt) l12 p12 k12
  have b12 := F12.binds (ps := ["_law_box_here", "_law_line_here"]) fun _ _ _ _ _ _ us hl => match us, hl with | [_, _], _ => rfl
  have F13 := fun_mk (st := s_found) l13 p13 k13
  have b13 := F13.binds (ps := ["_law_line_here"]) fun _ _ _ _ _ _ us hl => match us, hl with | [_], _ => rfl
  have F14 := fun_mk (st := s_right) l14 p14 k14
  have b14 := F14.binds (ps := ["_law_line_here"]) fun _ _ _ _ _ _ us hl => match us, hl with | [_], _ => rfl
  have F15 := fun_mk (st := s_law) l15 p15 k15
  have b15 := F15.binds (ps := ["_law_script"]) fun _ _ _ _ _ _ us hl => match us, hl with | [_], _ => rfl
  have F16 := fun_mk (st := s_NoLine___init__) l16 p16 k16
  have b16 := F16.binds (ps := ["self", "found"]) fun _ _ _ _ _ _ us hl => match us, hl with | [_, _], _ => rfl
  let T : Top w K mg := { a_IceError := C_IceError, c_IceError := PySem.W.mg_of X G g_IceError, sp_IceError := sp_IceError, ty_IceError := ty_IceError, rd_IceError := rd_IceError, fc_IceError := fc_IceError, a_NoLine := C_NoLine, c_NoLine := PySem.W.mg_of X G g_NoLine, ox_NoLine := ⟨⟨nm_NoLine, q_NoLine, N_NoLine, bs_NoLine, bm_NoLine, sn_NoLine, su_NoLine, ab_NoLine, co_NoLine, dd_NoLine, m0_NoLine, m1_NoLine, m2_NoLine, m3_NoLine, m5_NoLine, xl_NoLine, hb_NoLine⟩, sa_NoLine, ec_NoLine, tc_NoLine, kc_NoLine⟩, xf_NoLine := ⟨ga_NoLine, gg_NoLine, ec_NoLine, hd_NoLine⟩, in_NoLine := in_NoLine, tf_NoLine := tf_NoLine, nf_NoLine_found := nf_NoLine_found, ex_NoLine_NoLine := ex_NoLine_NoLine, ex_NoLine_IceError := ex_NoLine_IceError, xi_NoLine := ⟨⟨ga_NoLine, gg_NoLine, ec_NoLine, hd_NoLine⟩, ca_NoLine, sgc, tkc, mo_NoLine⟩, eq_NoLine := eq_NoLine, io_NoLine_list := io_NoLine_list, io_NoLine_tuple := io_NoLine_tuple, io_NoLine_str := io_NoLine_str, io_NoLine_bool := io_NoLine_bool, a_number_of := f0, d_number_of := _, F_number_of := F0, b_number_of := b0, m_number_of := PySem.W.mg_of X G a0, a_all_between := f1, d_all_between := _, F_all_between := F1, b_all_between := b1, m_all_between := PySem.W.mg_of X G a1, a_read_line := f2, d_read_line := _, F_read_line := F2, b_read_line := b2, m_read_line := PySem.W.mg_of X G a2, a_thing_of := f3, d_thing_of := _, F_thing_of := F3, b_thing_of := b3, m_thing_of := PySem.W.mg_of X G a3, a_cell := f4, d_cell := _, F_cell := F4, b_cell := b4, m_cell := PySem.W.mg_of X G a4, a_box := f5, d_box := _, F_box := F5, b_box := b5, m_box := PySem.W.mg_of X G a5, a_take := f6, d_take := _, F_take := F6, b_take := b6, m_take := PySem.W.mg_of X G a6, a_form := f7, d_form := _, F_form := F7, b_form := b7, m_form := PySem.W.mg_of X G a7, a_figures := f8, d_figures := _, F_figures := F8, b_figures := b8, m_figures := PySem.W.mg_of X G a8, a_rows_of := f9, d_rows_of := _, F_rows_of := F9, b_rows_of := b9, m_rows_of := PySem.W.mg_of X G a9, a_read := f10, d_read := _, F_read := F10, b_read := b10, m_read := PySem.W.mg_of X G a10, a_line := f11, d_line := _, F_line := F11, b_line := b11, m_line := PySem.W.mg_of X G a11, a_spoilt := f12, d_spoilt := _, F_spoilt := F12, b_spoilt := b12, m_spoilt := PySem.W.mg_of X G a12, a_found := f13, d_found := _, F_found := F13, b_found := b13, m_found := PySem.W.mg_of X G a13, a_right := f14, d_right := _, F_right := F14, b_right := b14, m_right := PySem.W.mg_of X G a14, a_law := fa, d_law := _, F_law := F15, b_law := b15, m_law := PySem.W.mg_of X G a15, a_NoLine___init__ := f16, d_NoLine___init__ := _, F_NoLine___init__ := F16, b_NoLine___init__ := b16, a_LINE_FORMS := C_LINE_FORMS, c_LINE_FORMS := PySem.W.mg_of X G c_LINE_FORMS, v_LINE_FORMS_go := V_LINE_FORMS_go, v_LINE_FORMS_back := V_LINE_FORMS_back, v_LINE_FORMS_late := V_LINE_FORMS_late, v_LINE_FORMS_undo := V_LINE_FORMS_undo, v_LINE_FORMS_redo := V_LINE_FORMS_redo, v_LINE_FORMS_show := V_LINE_FORMS_show, v_LINE_FORMS_table := V_LINE_FORMS_table, v_LINE_FORMS_whole := V_LINE_FORMS_whole, v_LINE_FORMS_led := V_LINE_FORMS_led, v_LINE_FORMS_price := V_LINE_FORMS_price, v_LINE_FORMS_standing := V_LINE_FORMS_standing, v_LINE_FORMS_stuck := V_LINE_FORMS_stuck, v_LINE_FORMS_ice := V_LINE_FORMS_ice, v_LINE_FORMS_where := V_LINE_FORMS_where, v_LINE_FORMS_last := V_LINE_FORMS_last, v_LINE_FORMS_way := V_LINE_FORMS_way, v_LINE_FORMS_free := V_LINE_FORMS_free, v_LINE_FORMS_out := V_LINE_FORMS_out, v_LINE_FORMS_best := V_LINE_FORMS_best, v_LINE_FORMS_barred := V_LINE_FORMS_barred, q_LINE_FORMS_go := fun _ => .inr ⟨_, _, _, l_LINE_FORMS_go, rfl, rfl, (by rw [sizeLine_eq]; show 3 ≤ _; decide), (.cons ⟨_, rfl⟩ (.cons ⟨_, rfl⟩ (.cons ⟨_, rfl⟩ .nil)))⟩, q_LINE_FORMS_back := fun _ => .inr ⟨_, _, _, l_LINE_FORMS_back, rfl, rfl, (by rw [sizeLine_eq]; show 1 ≤ _; decide), (.cons ⟨_, rfl⟩ .nil)⟩, q_LINE_FORMS_late := fun _ => .inr ⟨_, _, _, l_LINE_FORMS_late, rfl, rfl, (by rw [sizeLine_eq]; show 3 ≤ _; decide), (.cons ⟨_, rfl⟩ (.cons ⟨_, rfl⟩ (.cons ⟨_, rfl⟩ .nil)))⟩, q_LINE_FORMS_undo := fun _ => .inr ⟨_, _, _, l_LINE_FORMS_undo, rfl, rfl, (by rw [sizeLine_eq]; show 0 ≤ _; decide), .nil⟩, q_LINE_FORMS_redo := fun _ => .inr ⟨_, _, _, l_LINE_FORMS_redo, rfl, rfl, (by rw [sizeLine_eq]; show 0 ≤ _; decide), .nil⟩, q_LINE_FORMS_show := fun _ => .inr ⟨_, _, _, l_LINE_FORMS_show, rfl, rfl, (by rw [sizeLine_eq]; show 0 ≤ _; decide), .nil⟩, q_LINE_FORMS_table := fun _ => .inr ⟨_, _, _, l_LINE_FORMS_table, rfl, rfl, (by rw [sizeLine_eq]; show 0 ≤ _; decide), .nil⟩, q_LINE_FORMS_whole := fun _ => .inr ⟨_, _, _, l_LINE_FORMS_whole, rfl, rfl, (by rw [sizeLine_eq]; show 0 ≤ _; decide), .nil⟩, q_LINE_FORMS_led := fun _ => .inr ⟨_, _, _, l_LINE_FORMS_led, rfl, rfl, (by rw [sizeLine_eq]; show 0 ≤ _; decide), .nil⟩, q_LINE_FORMS_price := fun _ => .inr ⟨_, _, _, l_LINE_FORMS_price, rfl, rfl, (by rw [sizeLine_eq]; show 0 ≤ _; decide), .nil⟩, q_LINE_FORMS_standing := fun _ => .inr ⟨_, _, _, l_LINE_FORMS_standing, rfl, rfl, (by rw [sizeLine_eq]; show 0 ≤ _; decide), .nil⟩, q_LINE_FORMS_stuck := fun _ => .inr ⟨_, _, _, l_LINE_FORMS_stuck, rfl, rfl, (by rw [sizeLine_eq]; show 0 ≤ _; decide), .nil⟩, q_LINE_FORMS_ice := fun _ => .inr ⟨_, _, _, l_LINE_FORMS_ice, rfl, rfl, (by rw [sizeLine_eq]; show 2 ≤ _; decide), (.cons ⟨_, rfl⟩ (.cons ⟨_, rfl⟩ .nil))⟩, q_LINE_FORMS_where := fun _ => .inr ⟨_, _, _, l_LINE_FORMS_where, rfl, rfl, (by rw [sizeLine_eq]; show 2 ≤ _; decide), (.cons ⟨_, rfl⟩ (.cons ⟨_, rfl⟩ .nil))⟩, q_LINE_FORMS_last := fun _ => .inr ⟨_, _, _, l_LINE_FORMS_last, rfl, rfl, (by rw [sizeLine_eq]; show 2 ≤ _; decide), (.cons ⟨_, rfl⟩ (.cons ⟨_, rfl⟩ .nil))⟩, q_LINE_FORMS_way := fun _ => .inr ⟨_, _, _, l_LINE_FORMS_way, rfl, rfl, (by rw [sizeLine_eq]; show 1 ≤ _; decide), (.cons ⟨_, rfl⟩ .nil)⟩, q_LINE_FORMS_free := fun _ => .inr ⟨_, _, _, l_LINE_FORMS_free, rfl, rfl, (by rw [sizeLine_eq]; show 1 ≤ _; decide), (.cons ⟨_, rfl⟩ .nil)⟩, q_LINE_FORMS_out := fun _ => .inr ⟨_, _, _, l_LINE_FORMS_out, rfl, rfl, (by rw [sizeLine_eq]; show 1 ≤ _; decide), (.cons ⟨_, rfl⟩ .nil)⟩, q_LINE_FORMS_best := fun _ => .inr ⟨_, _, _, l_LINE_FORMS_best, rfl, rfl, (by rw [sizeLine_eq]; show 1 ≤ _; decide), (.cons ⟨_, rfl⟩ .nil)⟩, q_LINE_FORMS_barred := fun _ => .inr ⟨_, _, _, l_LINE_FORMS_barred, rfl, rfl, (by rw [sizeLine_eq]; show 1 ≤ _; decide), (.cons ⟨_, rfl⟩ .nil)⟩, es_LINE_FORMS := _, nn_LINE_FORMS := _, kd_LINE_FORMS := ⟨l_LINE_FORMS, Ents.lit (P := w.params) (.cons y0_LINE_FORMS (.cons y1_LINE_FORMS (.cons y2_LINE_FORMS (.cons y3_LINE_FORMS (.cons y4_LINE_FORMS (.cons y5_LINE_FORMS (.cons y6_LINE_FORMS (.cons y7_LINE_FORMS (.cons y8_LINE_FORMS (.cons y9_LINE_FORMS (.cons y10_LINE_FORMS (.cons y11_LINE_FORMS (.cons y12_LINE_FORMS (.cons y13_LINE_FORMS (.cons y14_LINE_FORMS (.cons y15_LINE_FORMS (.cons y16_LINE_FORMS (.cons y17_LINE_FORMS (.cons y18_LINE_FORMS (.cons y19_LINE_FORMS .nil)))))))))))))))))))), y_LINE_FORMS⟩, in_LINE_FORMS := Ents.nsIn l_LINE_FORMS (P := w.params) (.cons y0_LINE_FORMS (.cons y1_LINE_FORMS (.cons y2_LINE_FORMS (.cons y3_LINE_FORMS (.cons y4_LINE_FORMS (.cons y5_LINE_FORMS (.cons y6_LINE_FORMS (.cons y7_LINE_FORMS (.cons y8_LINE_FORMS (.cons y9_LINE_FORMS (.cons y10_LINE_FORMS (.cons y11_LINE_FORMS (.cons y12_LINE_FORMS (.cons y13_LINE_FORMS (.cons y14_LINE_FORMS (.cons y15_LINE_FORMS (.cons y16_LINE_FORMS (.cons y17_LINE_FORMS (.cons y18_LINE_FORMS (.cons y19_LINE_FORMS .nil)))))))))))))))))))), t_FIGURES_MOST := t_FIGURES_MOST, c_FIGURES_MOST := PySem.W.mg_of X G c_FIGURES_MOST, n_int := PySem.W.mg_none_of X G n_int, n_isinstance := PySem.W.mg_none_of X G n_isinstance, n_str := PySem.W.mg_none_of X G n_str, n_len := PySem.W.mg_none_of X G n_len, n_zip := PySem.W.mg_none_of X G n_zip, n_max := PySem.W.mg_none_of X G n_max, n_range := PySem.W.mg_none_of X G n_range, n_repr := PySem.W.mg_none_of X G n_repr, n_tuple := PySem.W.mg_none_of X G n_tuple, n_list := PySem.W.mg_none_of X G n_list, n_bool := PySem.W.mg_none_of X G n_bool, n_min := PySem.W.mg_none_of X G n_min }
  exact ⟨_, fun s v => .of_eq rfl, fun base _ _ => hL (P := l.prog) (w := w) (K := K) (mg := mg) (base := base) T⟩
end Ice
namespace HeadI
open PySem PySem.W PySem.Calls PyProof.Rows
abbrev R : OpenRow := OpenLaw.row PySem.Challenge.rw_iceopened_k83_lines_read
abbrev qv : Program := view R.prog [23]
def loose : List PySem.Str := (["IceError", "NoLine", "FIGURES_MOST", "number_of", "_all_between", "LINE_FORMS", "read_line", "_thing_of", "_law_cell", "_law_box", "_law_take", "_law_form", "_law_figures", "_law_rows_of", "_law_read", "_law_line", "_law_spoilt", "_law_found", "_law_right"] : List PySem.Str)
end HeadI
section
open PySem PySem.W PySem.Calls PyProof.Rows
set_option maxHeartbeats 0
local macro_rules | `(tactic| o_headL ($f $k $a $e)) => `(tactic| refine HandSHeadRun.head_any (r := HeadI.R) (q := HeadI.qv) (H := $f $k $a $e) (ob := fun s => List.map (HandSHeadRun.getT s) $a) (M := 40000) (loose := HeadI.loose) (d := HandSHeadRun.topDef HeadI.R.prog 23) (kwd := []) (fun s => List.map_congr_left fun a _ => HandSHeadRun.getT_eq s a) (by kernel_rfl) (fun s => by kernel_rfl) (fun w => byRow2 "special-get-raises" (fun w => by intro os; kernel_rfl) (fun w => by intro os; kernel_rfl) w) (by kernel_rfl) (by kernel_rfl) (by kernel_rfl) (by rfl) (by first | assumption | decide +kernel) (by decide +kernel) ⟨rfl, rfl, rfl, rfl, rfl, by decide +kernel⟩ ?hw ?hc)
set_option maxRecDepth 100000 in
set_option maxHeartbeats 0 in
theorem Ice.head_of (hL : ∀ (P : Program) (w : World) (K : PySem.W.Frag) (mg : Str → Option Value) (base : Heap) (T : Ice.Top w K mg), Ice.FnG P w K mg base L2.CX0 7 T.a_law T.d_law ["_law_script"] (Ice.spLaw K)) : PySem.Challenge.rw_iceopened_k83_lines_read.Holds := by
  w_on; o_law; k_headL; (case hw => w_witness2)
  k_fill
  refine Ice.walkG (l := PySem.Challenge.rw_iceopened_k83_lines_read) (n := 63) (k := 7) (x := "_law_script") (sp := Ice.spLaw) rfl (by decide) rfl ⟨rfl, by decide, by decide⟩ (fun w h Y => PySem.W.kIn_of Y) ?F Ice.law_sp
  case F =>
    intro w mg fa h KX G hmg
    refine' Ice.all_mk hL KX G hmg ?g_IceError ?sp_IceError ?ty_IceError ?rd_IceError ?fc_IceError ?g_NoLine ?xl_NoLine ?hb_NoLine ?sa_NoLine ?ec_NoLine ?tc_NoLine ?kc_NoLine ?ga_NoLine ?gg_NoLine ?hd_NoLine ?in_NoLine ?tf_NoLine ?nf_NoLine_found ?ex_NoLine_NoLine ?ex_NoLine_IceError ?sgc ?tkc ?ca_NoLine ?mo_NoLine ?eq_NoLine ?io_NoLine_list ?io_NoLine_tuple ?io_NoLine_str ?io_NoLine_bool ?a0 ?l0 ?p0 ?k0 ?a1 ?l1 ?p1 ?k1 ?a2 ?l2 ?p2 ?k2 ?a3 ?l3 ?p3 ?k3 ?a4 ?l4 ?p4 ?k4 ?a5 ?l5 ?p5 ?k5 ?a6 ?l6 ?p6 ?k6 ?a7 ?l7 ?p7 ?k7 ?a8 ?l8 ?p8 ?k8 ?a9 ?l9 ?p9 ?k9 ?a10 ?l10 ?p10 ?k10 ?a11 ?l11 ?p11 ?k11 ?a12 ?l12 ?p12 ?k12 ?a13 ?l13 ?p13 ?k13 ?a14 ?l14 ?p14 ?k14 ?a15 ?l15 ?p15 ?k15 ?l16 ?p16 ?k16 ?c_LINE_FORMS ?l_LINE_FORMS ?l_LINE_FORMS_go ?l_LINE_FORMS_back ?l_LINE_FORMS_late ?l_LINE_FORMS_undo ?l_LINE_FORMS_redo ?l_LINE_FORMS_show ?l_LINE_FORMS_table ?l_LINE_FORMS_whole ?l_LINE_FORMS_led ?l_LINE_FORMS_price ?l_LINE_FORMS_standing ?l_LINE_FORMS_stuck ?l_LINE_FORMS_ice ?l_LINE_FORMS_where ?l_LINE_FORMS_last ?l_LINE_FORMS_way ?l_LINE_FORMS_free ?l_LINE_FORMS_out ?l_LINE_FORMS_best ?l_LINE_FORMS_barred ?y0_LINE_FORMS ?y1_LINE_FORMS ?y2_LINE_FORMS ?y3_LINE_FORMS ?y4_LINE_FORMS ?y5_LINE_FORMS ?y6_LINE_FORMS ?y7_LINE_FORMS ?y8_LINE_FORMS ?y9_LINE_FORMS ?y10_LINE_FORMS ?y11_LINE_FORMS ?y12_LINE_FORMS ?y13_LINE_FORMS ?y14_LINE_FORMS ?y15_LINE_FORMS ?y16_LINE_FORMS ?y17_LINE_FORMS ?y18_LINE_FORMS ?y19_LINE_FORMS ?y_LINE_FORMS ?c_FIGURES_MOST ?n_int ?n_isinstance ?n_str ?n_len ?n_zip ?n_max ?n_range ?n_repr ?n_tuple ?n_list ?n_bool ?n_min
    (case g_IceError => k_is)
    (case sp_IceError => k_is)
    (case ty_IceError => k_is)
    (case rd_IceError => k_is)
    (case fc_IceError => k_is)
    (case g_NoLine => k_is)
    (case xl_NoLine => k_is)
    (case hb_NoLine => decide +kernel)
    (case sa_NoLine => k_is)
    (case ec_NoLine => k_is)
    (case tc_NoLine => k_is)
    (case kc_NoLine => k_is)
    (case ga_NoLine => k_is)
    (case gg_NoLine => k_is)
    (case hd_NoLine => k_is)
    (case in_NoLine => k_is)
    (case tf_NoLine => k_is)
    (case nf_NoLine_found => k_is)
    (case ex_NoLine_NoLine => first | k_is | (first | rfl | decide +kernel))
    (case ex_NoLine_IceError => first | k_is | (first | rfl | decide +kernel))
    (case sgc => k_is)
    (case tkc => k_is)
    (case ca_NoLine => k_is)
    (case mo_NoLine => k_is)
    (case eq_NoLine => k_is)
    (case io_NoLine_list => kit_is)
    (case io_NoLine_tuple => kit_is)
    (case io_NoLine_str => kit_is)
    (case io_NoLine_bool => kit_is)
    (case a0 => k_is)
    (case l0 => k_is)
    (case p0 => k_is)
    (case k0 => k_is)
    (case a1 => k_is)
    (case l1 => k_is)
    (case p1 => k_is)
    (case k1 => k_is)
    (case a2 => k_is)
    (case l2 => k_is)
    (case p2 => k_is)
    (case k2 => k_is)
    (case a3 => k_is)
    (case l3 => k_is)
    (case p3 => k_is)
    (case k3 => k_is)
    (case a4 => k_is)
    (case l4 => k_is)
    (case p4 => k_is)
    (case k4 => k_is)
    (case a5 => k_is)
    (case l5 => k_is)
    (case p5 => k_is)
    (case k5 => k_is)
    (case a6 => k_is)
    (case l6 => k_is)
    (case p6 => k_is)
    (case k6 => k_is)
    (case a7 => k_is)
    (case l7 => k_is)
    (case p7 => k_is)
    (case k7 => k_is)
    (case a8 => k_is)
    (case l8 => k_is)
    (case p8 => k_is)
    (case k8 => k_is)
    (case a9 => k_is)
    (case l9 => k_is)
    (case p9 => k_is)
    (case k9 => k_is)
    (case a10 => k_is)
    (case l10 => k_is)
    (case p10 => k_is)
    (case k10 => k_is)
    (case a11 => k_is)
    (case l11 => k_is)
    (case p11 => k_is)
    (case k11 => k_is)
    (case a12 => k_is)
    (case l12 => k_is)
    (case p12 => k_is)
    (case k12 => k_is)
    (case a13 => k_is)
    (case l13 => k_is)
    (case p13 => k_is)
    (case k13 => k_is)
    (case a14 => k_is)
    (case l14 => k_is)
    (case p14 => k_is)
    (case k14 => k_is)
    (case a15 => k_is)
    (case l15 => k_is)
    (case p15 => k_is)
    (case k15 => k_is)
    (case l16 => k_is)
    (case p16 => k_is)
    (case k16 => k_is)
    (case c_LINE_FORMS => k_is)
    (case l_LINE_FORMS => k_is)
    (case l_LINE_FORMS_go => k_is)
    (case l_LINE_FORMS_back => k_is)
    (case l_LINE_FORMS_late => k_is)
    (case l_LINE_FORMS_undo => k_is)
    (case l_LINE_FORMS_redo => k_is)
    (case l_LINE_FORMS_show => k_is)
    (case l_LINE_FORMS_table => k_is)
    (case l_LINE_FORMS_whole => k_is)
    (case l_LINE_FORMS_led => k_is)
    (case l_LINE_FORMS_price => k_is)
    (case l_LINE_FORMS_standing => k_is)
    (case l_LINE_FORMS_stuck => k_is)
    (case l_LINE_FORMS_ice => k_is)
    (case l_LINE_FORMS_where => k_is)
    (case l_LINE_FORMS_last => k_is)
    (case l_LINE_FORMS_way => k_is)
    (case l_LINE_FORMS_free => k_is)
    (case l_LINE_FORMS_out => k_is)
    (case l_LINE_FORMS_best => k_is)
    (case l_LINE_FORMS_barred => k_is)
    (case y0_LINE_FORMS => first | rfl | decide +kernel)
    (case y1_LINE_FORMS => first | rfl | decide +kernel)
    (case y2_LINE_FORMS => first | rfl | decide +kernel)
    (case y3_LINE_FORMS => first | rfl | decide +kernel)
    (case y4_LINE_FORMS => first | rfl | decide +kernel)
    (case y5_LINE_FORMS => first | rfl | decide +kernel)
    (case y6_LINE_FORMS => first | rfl | decide +kernel)
    (case y7_LINE_FORMS => first | rfl | decide +kernel)
    (case y8_LINE_FORMS => first | rfl | decide +kernel)
    (case y9_LINE_FORMS => first | rfl | decide +kernel)
    (case y10_LINE_FORMS => first | rfl | decide +kernel)
    (case y11_LINE_FORMS => first | rfl | decide +kernel)
    (case y12_LINE_FORMS => first | rfl | decide +kernel)
    (case y13_LINE_FORMS => first | rfl | decide +kernel)
    (case y14_LINE_FORMS => first | rfl | decide +kernel)
    (case y15_LINE_FORMS => first | rfl | decide +kernel)
    (case y16_LINE_FORMS => first | rfl | decide +kernel)
    (case y17_LINE_FORMS => first | rfl | decide +kernel)
    (case y18_LINE_FORMS => first | rfl | decide +kernel)
    (case y19_LINE_FORMS => first | rfl | decide +kernel)
    (case y_LINE_FORMS => first | rfl | decide +kernel)
    (case c_FIGURES_MOST => k_is)
    (case n_int => k_is)
    (case n_isinstance => k_is)
    (case n_str => k_is)
    (case n_len => k_is)
    (case n_zip => k_is)
    (case n_max => k_is)
    (case n_range => k_is)
    (case n_repr => k_is)
    (case n_tuple => k_is)
    (case n_list => k_is)
    (case n_bool => k_is)
    (case n_min => k_is)
end
set_option Elab.async false
set_option linter.all false
set_option maxRecDepth 100000
set_option maxHeartbeats 4000000
set_option autoImplicit true
namespace Ice
open PySem PySem.Spec PyProof.Rows L2 TL
/-! side conditions, heaps, one step of a reading, and many -/
local macro_rules | `(tactic| walk_at "hp") => `(tactic| first | assumption | exact upd_same | exact New.at_ (by assumption) | (refine keepU ?_ (by assumption); walk_at "hp") | (refine New.app (by assumption) ?_; walk_at "hp") | (refine Same.app (by assumption) ?_; walk_at "hp") | (refine But.app (by assumption) (by assumption) ?_; walk_at "hp"))
local macro_rules | `(tactic| walk_at "sq") => `(tactic| first | assumption | exact SqL.lst (by walk_at "hp") | exact L2.Same.seq (New.same (by assumption)) (by assumption) | exact L2.Same.seq (by assumption) (by assumption))
local macro_rules | `(tactic| walk_at "len") => `(tactic| first | assumption | (simp only [List.length_cons, List.length_nil, List.length_append, List.length_map]; decide) | (refine Ice.sz_of ?_; simp only [List.length_cons, List.length_nil, List.length_append, List.length_map]; omega))
local macro_rules | `(tactic| walk_at "fresh") => `(tactic| (simp only [List.map_append, List.map_cons, List.map_nil, List.nil_append, List.cons_append]; decide +kernel))
local macro_rules | `(tactic| walk_at "sd") => `(tactic| first | assumption | (show _ ≠ _; omega) | exact Or.inl ⟨by omega, by omega⟩ | exact Or.inr ⟨by omega, by omega⟩ | exact ⟨by decide, by decide⟩ | exact ⟨by decide, by decide, by decide⟩ | exact ⟨by omega, by omega, by omega⟩)
/-! one step of a reading, and many -/
local macro_rules | `(tactic| walk_at "st") => `(tactic| first
  | with_reducible refine i_seq ?_
  | with_reducible refine i_if ?_
  | with_reducible refine i_next ?_
  | with_reducible refine i_ret ?_
  | with_reducible refine i_retN ?_
  | with_reducible refine i_drop ?_
  | with_reducible refine i_asg ?_
  | with_reducible refine i_gname ?_
  | with_reducible refine i_gsub ?_
  | ((with_reducible refine i_var (v := ?vv) ?hv ?_); (case hv => exact rfl))
  | with_reducible refine i_c ?_
  | with_reducible refine i_op ?_
  | with_reducible refine i_un ?_
  | with_reducible refine i_test ?_
  | with_reducible refine i_tB ?_
  | with_reducible refine i_and ?_
  | with_reducible refine i_or ?_
  | with_reducible refine i_not ?_
  | with_reducible refine i_andV ?_
  | with_reducible refine i_orV ?_
  | with_reducible refine i_notV ?_
  | with_reducible refine i_ifE ?_
  | with_reducible refine i_chain ?_
  | with_reducible refine i_bl ?_
  | with_reducible refine i_nil ?_
  | with_reducible refine i_cons ?_
  | with_reducible refine i_call ?_
  | with_reducible refine i_cb ?_
  | with_reducible refine i_rI0 ?_
  | with_reducible refine i_rU ?_
  | ((with_reducible refine i_rEq ?hs ?_); (case hs => exact rfl))
  | ((with_reducible refine i_rNe ?hs ?_); (case hs => exact rfl))
  | ((with_reducible refine i_rI ?hc ?_); (case hc => walk_at "sd"))
  | ((with_reducible refine i_ixL (xs := ?xs) (v := ?vv) ?hS ?he ?_); (case hS => walk_at "sq"); (case he => exact rfl))
  | ((with_reducible refine i_setL (xs := ?xs) (j := ?jj) ?hS ?he ?_); (case hS => walk_at "hp"); (case he => exact rfl))
  | with_reducible refine i_tup ?_
  | with_reducible refine i_lst ?_
  | with_reducible refine i_bm ?_
  | with_reducible refine i_bm0 ?_
  | with_reducible refine i_m1 ?_
  | with_reducible refine i_sl ?_
  | with_reducible refine i_nopart ?_
  | with_reducible refine i_part ?_
  | with_reducible refine i_int ?_
  | with_reducible refine i_str ?_
  | with_reducible refine i_for ?_
  | with_reducible refine i_yes ?_
  | ((with_reducible refine i_lenL (xs := ?xs) ?hS ?_); (case hS => walk_at "sq"))
  | ((with_reducible refine i_room ?hz ?_); (case hz => walk_at "len"))
  | with_reducible refine i_leT ?_
  | with_reducible refine i_notInS ?_
  | with_reducible refine i_inS ?_
  | with_reducible refine i_find ?_
  | with_reducible refine i_isB ?_
  | with_reducible refine i_max2 ?_
  | with_reducible refine i_min2 ?_
  | with_reducible exact trivial
  | with_reducible refine iteT ?_
  | with_reducible refine iteF ?_
  | with_reducible refine i_isstr ?_
  | with_reducible refine i_lc ?_
  | ((with_reducible refine i_cat (xs := ?xs) (zs := ?zs) ?ha ?hb ?hz ?_); (case ha => walk_at "hp"); (case hb => walk_at "hp"); (case hz => walk_at "len"))
  | ((with_reducible refine i_tyL (xs := ?xs) ?ha ?_); (case ha => walk_at "hp"))
  | with_reducible refine i_list ?_
  | with_reducible refine i_disp ?_
  | with_reducible refine i_pairs0 ?_
  | with_reducible refine i_pairs ?_
  | with_reducible refine i_newK ?_
  | with_reducible refine i_gcons ?_
  | with_reducible refine i_gnil ?_
  | with_reducible refine i_revL ?_
  | with_reducible refine i_rng1 ?_
  | ((with_reducible refine i_wipe ?hw ?_); (case hw => exact rfl))
  | with_reducible refine iteNT ?_
  | with_reducible refine iteNF ?_)
local macro_rules | `(tactic| walk_at "sx") => `(tactic| first
  | walk_at "st"
  | with_reducible refine i_kinit ?_
  | with_reducible refine i_ost ?_
  | with_reducible refine i_mkO ?_
  | with_reducible refine i_callE ?_
  | with_reducible refine i_makeE ?_
  | with_reducible refine i_xf ?_
  | with_reducible refine i_sfld ?_
  | with_reducible refine i_fld ?_
  | ((with_reducible refine i_ixT (xs := ?xs) (v := ?vv) ?hS ?he ?_); (case hS => exact SqT.tup (by walk_at "hp")); (case he => exact rfl))
  | with_reducible refine i_intB ?_
  | with_reducible refine i_runS ?_
  | with_reducible refine i_runN ?_
  | ((with_reducible refine i_xf1 (fs := ?ff) (v := ?vv) ?hx ?hl ?_); (case hx => walk_at "hp"); (case hl => exact rfl))
  | with_reducible refine i_methE ?_
  | with_reducible refine i_meth ?_
  | with_reducible refine i_make ?_
  | ((with_reducible refine i_obj (dx := ?dd) (fs := ?ff) ?hx ?hl ?_); (case hx => walk_at "hp"); (case hl => exact rfl))
  | ((with_reducible refine i_fld1 (C := ?CC) (dx := ?dd) (fs := ?ff) (v := ?vv) ?hx ?cl ?na ?hl ?_); (case hx => walk_at "hp"); (case cl => assumption); (case na => assumption); (case hl => exact rfl)))
local macro_rules | `(tactic| walk_at "sy") => `(tactic| first
  | walk_at "sx"
  | with_reducible refine i_dget ?_
  | with_reducible refine i_dget2 ?_
  | with_reducible refine i_dput ?_
  | with_reducible refine i_din ?_
  | ((with_reducible refine i_aug (x := ?vv) ?hx ?_); (case hx => exact rfl)))
local macro_rules | `(tactic| walk_at "rd") => `(tactic| repeat (walk_at "sy"))

section
variable {P : Program} {w : World} {K : PySem.W.Frag} {mg : Str → Option Value} {base : Heap}
def spCell (K : PySem.W.Frag) : Sp := fun vs H Q _ => ∃ (a : Addr) (ns : List Int) (k : Int), vs = [.ref a, .int k] ∧ SqL K H a (ns.map V.int) ∧ 0 ≤ k ∧ k ≤ 1000 ∧ ∀ z : Int, Q (.int z) H
theorem ok_cell (T : Top w K mg) : FnG P w K mg base CX0 1 T.a_cell T.d_cell ["_law_script", "_law_k"] (spCell K) := by
  refine okG T.F_cell sc_cell (fun vs H Q E h => ?_) (fun cdv A outer s H vs Q E hr hgd h => ?_)
  · obtain ⟨a, ns, k, rfl, _⟩ := h
    rfl
  · obtain ⟨a, ns, k, rfl, hS, k0, hk, q⟩ := h
    obtain ⟨k, rfl⟩ := Int.eq_ofNat_of_zero_le k0
    refine ⟨_, (pss_cons (ps_if (pt_cmpR op_lt (pv 1) (pe_callB c_len (by rfl) T.n_len (by decide +kernel) (pa_cons (pv 0) pa_nil)) (nomark _))
        (pss_one (ps_ret (pe_ix ix_list (pv 0) (pv 1) (fun _ _ => rfl))))
        pss_nil)
      (pss_one (ps_ret (pe_op op_add (pe_op op_mul pe_int (pv 1)) pe_int)))), ?_⟩
    walk_at "rd"
    refine ifs (fun hc => ?_) (fun hc => ?_)
    · walk_at "rd"
      simp only [decide_eq_true_eq, List.length_map] at hc
      have hc' : k < ns.length := by omega
      exact i_ixL hS (atI_nat (by rw [List.getElem?_map, List.getElem?_eq_getElem hc']; rfl)) (q _)
    · walk_at "rd"
      exact q _
def spBox : Sp := fun vs H Q _ => ∃ z : Int, vs = [.int z] ∧ ∀ (p : Addr) (H' : Hp), H p = none → Same H H' → Box H' p 0 → Q (.ref p) H'
theorem ok_box (T : Top w K mg) : FnG P w K mg base CX0 1 T.a_box T.d_box ["_law_cell_here"] spBox := by
  refine okG T.F_box sc_box (fun vs H Q E h => ?_) (fun cdv A outer s H vs Q E hr hgd h => ?_)
  · obtain ⟨z, rfl, _⟩ := h
    rfl
  · obtain ⟨z, rfl, q⟩ := h
    refine ⟨_, (pss_one (ps_ret (pe_lst (pa_cons (pe_callB (c_max2) (by rfl) T.n_max (by decide +kernel) (pa_cons pe_int (pa_cons (pe_op op_sub (pv 0) (pe_op op_pow pe_int pe_int)) pa_nil))) (pa_cons (pe_op op_modN (pv 0) pe_int) (pa_cons pe_int pa_nil)))))), ?_⟩
    walk_at "rd"
    (intro p hp; generalize ep : upd _ p _ = J; have N := New.of ep hp; clear ep hp)
    walk_at "rd"
    refine q p _ N.free N.same ⟨_, _, _, N.at_, ?_, Int.fmod_nonneg_of_pos _ (by decide), Int.fmod_lt_of_pos _ (by decide), by omega, by omega⟩
    split <;> omega
theorem sq_bound {z : Int} (h0 : 0 ≤ z) (h1 : z ≤ 1000) : 0 ≤ 104729 * (z + 1) * (z + 1) ∧ 104729 * (z + 1) * (z + 1) ≤ 104729 * 1001 * 1001 := by
  have a : 0 ≤ (z + 1) * (z + 1) := Int.mul_nonneg (by omega) (by omega)
  have b : (z + 1) * (z + 1) ≤ 1001 * 1001 := Int.mul_le_mul (by omega) (by omega) (by omega) (by omega)
  rw [Int.mul_assoc]
  omega
def spTake : Sp := fun vs H Q _ => ∃ (b : Addr) (m : Int) (n : Nat), vs = [.ref b, .int m] ∧ Box H b n ∧ n ≤ 900 ∧ 0 < m ∧ m.natAbs < 2 ^ 100 ∧
  ∀ (d : Int) (H' : Hp), 0 ≤ d → d < m → But b H H' → Box H' b (n + 1) → Q (.int d) H'
theorem ok_take (T : Top w K mg) : FnG P w K mg base CX0 1 T.a_take T.d_take ["_law_box_here", "_law_many"] spTake := by
  refine okG T.F_take sc_take (fun vs H Q E h => ?_) (fun cdv A outer s H vs Q E hr hgd h => ?_)
  · obtain ⟨b, m, n, rfl, _⟩ := h
    rfl
  · obtain ⟨b, m, n, rfl, ⟨x, y, z, hb, x0, y0, y1, z0, z1⟩, hn, m0, m1, q⟩ := h
    refine ⟨_, (pss_cons (ps_if (pt_cmpR op_gt (pe_ix ix_list (pv 0) pe_int (fun _ _ => rfl)) pe_int (nomark _))
        (pss_cons (ps_set (i := 2) sc_take.nd rfl (by first | exact Or.inl rfl | exact Or.inr rfl) (pe_op op_modN (pe_ix ix_list (pv 0) pe_int (fun _ _ => rfl)) (pv 1)))
      (pss_cons (ps_asg (pe_op op_fdivW (pe_ix ix_list (pv 0) pe_int (fun _ _ => rfl)) (pv 1)) (pg_sub (pv 0) pe_int set_list))
      (pss_one (ps_ret (pv 2)))))
        pss_nil)
      (pss_cons (ps_asg (pe_op op_add (pe_ix ix_list (pv 0) pe_int (fun _ _ => rfl)) pe_int) (pg_sub (pv 0) pe_int set_list))
      (pss_cons (ps_set (i := 3) sc_take.nd rfl (by first | exact Or.inl rfl | exact Or.inr rfl) (pe_op op_modN (pe_op op_pow (pe_op op_add (pe_op op_add (pe_ix ix_list (pv 0) pe_int (fun _ _ => rfl)) (pe_op op_mul pe_int (pe_ix ix_list (pv 0) pe_int (fun _ _ => rfl)))) pe_int) pe_int) pe_int))
      (pss_cons (ps_set (i := 4) sc_take.nd rfl (by first | exact Or.inl rfl | exact Or.inr rfl) (pe_op op_modN (pe_op op_pow (pe_op op_add (pe_op op_add (pe_op op_fdivN (pv 3) pe_int) (pe_op op_mul (pe_op op_mul pe_int (pe_ix ix_list (pv 0) pe_int (fun _ _ => rfl))) (pe_ix ix_list (pv 0) pe_int (fun _ _ => rfl)))) pe_int) pe_int) pe_int))
      (pss_one (ps_ret (pe_op op_modN (pe_op op_add (pe_op op_fdivN (pv 3) pe_int) (pe_op op_mul pe_int (pe_op op_fdivN (pv 4) pe_int))) (pv 1)))))))), ?_⟩
    walk_at "rd"
    refine ifs (fun hc => ?_) (fun hc => ?_)
    · have hx : 0 < x := of_decide_eq_true hc
      walk_at "rd"
      refine i_rI (wide_div m0 m1 (by decide) (by decide)) ?_
      walk_at "rd"
      exact q _ _ (Int.fmod_nonneg_of_pos _ m0) (Int.fmod_lt_of_pos _ m0) (But.set _) ⟨_, _, _, upd_same, Int.ediv_nonneg x0 (by omega), y0, y1, z0, by omega⟩
    · walk_at "rd"
      have o0 : 0 ≤ ((y + 7919 * (z + 1) + 101) ^ Int.toNat 5).fmod 2147483647 := Int.fmod_nonneg_of_pos _ (by decide)
      have o1 : ((y + 7919 * (z + 1) + 101) ^ Int.toNat 5).fmod 2147483647 < 2147483647 := Int.fmod_lt_of_pos _ (by decide)
      have s2 := sq_bound z0 (by omega)
      refine i_rI ⟨by decide, by decide, ?_⟩ ?_
      · generalize ((y + 7919 * (z + 1) + 101) ^ Int.toNat 5).fmod 2147483647 = o at o0 o1 ⊢
        rw [Int.fdiv_eq_ediv_of_nonneg _ (by decide)]
        omega
      · walk_at "rd"
        exact q _ _ (Int.fmod_nonneg_of_pos _ m0) (Int.fmod_lt_of_pos _ m0) (But.set _) ⟨_, _, _, upd_same, x0, y0, y1, by omega, by omega⟩
end

section
variable {P : Program} {w : World} {K : PySem.W.Frag} {mg : Str → Option Value} {base : Heap}
def spBetween : Sp := fun vs H Q _ => ∃ (s lo hi : Str) (l h : Nat), vs = [.str s, .str lo, .str hi] ∧ tl lo = [l] ∧ tl hi = [h] ∧ Q (.bl (decide (∀ c ∈ tl s, l ≤ c ∧ c ≤ h))) H
theorem ok_all_between (T : Top w K mg) : FnG P w K mg base CX0 1 T.a_all_between T.d_all_between ["text", "low", "high"] spBetween := by
  refine okG T.F_all_between sc_all_between (fun vs H Q E h => ?_) (fun cdv A outer s H vs Q E hr hgd h => ?_)
  · obtain ⟨s, lo, hi, l, h, rfl, _⟩ := h
    rfl
  · obtain ⟨s, lo, hi, l, h, rfl, hl, hh, q⟩ := h
    refine ⟨_, (pss_cons (ps_for PassesOwn.never rfl (pi_str (pv 0)) (pg_name (i := 3) sc_all_between.nd rfl (by first | exact Or.inl rfl | exact Or.inr rfl))
        (pss_one (ps_if (pt_not (pt_chain o_leT o_leT (pv 1) (pv 3) (pv 2)))
        (pss_one (ps_ret pe_bl))
        pss_nil)))
      (pss_one (ps_ret pe_bl))), ?_⟩
    walk_at "rd"
    refine ⟨.str s, rfl, s, rfl, for_text (fun i σ H' => H' = H ∧ (∃ v, σ = [some (.str s), some (.str lo), some (.str hi), v]) ∧ ∀ c ∈ (tl s).take i, l ≤ c ∧ c ≤ h) ⟨rfl, ⟨none, rfl⟩, by simp⟩ ?_ ?_⟩
    · rintro i c σ H' hc ⟨rfl, ⟨v, rfl⟩, hi'⟩
      have mem : c ∈ tl s := List.mem_of_getElem? hc
      have no : ¬ (l ≤ c ∧ c ≤ h) → Q (.bl false) H' := fun n => by rw [decide_eq_false (fun z => n (z c mem))] at q; exact q
      walk_at "rd"
      have e1 : (tl { cps := #[c] } < tl lo) ↔ c < l := by rw [hl]; exact one_lt c l
      have e2 : (tl hi < tl { cps := #[c] }) ↔ h < c := by rw [hh]; exact one_lt h c
      simp only [e1]
      refine ifs (fun h1 => ?_) (fun h1 => ?_)
      · walk_at "rd"
        simp only [e2]
        refine ifs (fun h2 => ?_) (fun h2 => ?_)
        · walk_at "rd"
          exact no (by simp at h1 h2; omega)
        · refine ⟨rfl, ⟨_, rfl⟩, take_all hi' hc ?_⟩
          simp at h1 h2; omega
      · walk_at "rd"
        exact no (by simp at h1; omega)
    · rintro σ H' ⟨rfl, ⟨v, rfl⟩, hi'⟩
      walk_at "rd"
      rw [List.take_length] at hi'
      rw [decide_eq_true hi'] at q
      exact q
end

open PySem.NumText
theorem str0 : (Str.ofString "0") = ⟨#[48]⟩ := by decide +kernel
/-- the number that a text writes -/
def numV (s : Str) : V :=
  if s.length = 0 ∨ 12 < s.length then .non else if 1 < s.length ∧ (tl s)[0]? = some 48 then .non
  else if ∀ c ∈ tl s, 48 ≤ c ∧ c ≤ 57 then .int (digitsVal (tl s) : Nat) else .non
theorem due_none {s : Str} (h : s.length = 0 ∨ 12 < s.length) : numV s = .non := by unfold numV; rw [if_pos h]
theorem due_zero {s : Str} (h : 1 < s.length) (h0 : (tl s)[0]? = some 48) : numV s = .non := by
  unfold numV
  by_cases z : s.length = 0 ∨ 12 < s.length
  · rw [if_pos z]
  · rw [if_neg z, if_pos ⟨h, h0⟩]
theorem due_num {s : Str} (h : ¬ (s.length = 0 ∨ 12 < s.length)) (h0 : ¬ (1 < s.length ∧ (tl s)[0]? = some 48)) (ha : ∀ c ∈ tl s, 48 ≤ c ∧ c ≤ 57) : numV s = .int (digitsVal (tl s) : Nat) := by
  unfold numV; rw [if_neg h, if_neg h0, if_pos ha]
theorem first_of {s : Str} (h : s.length ≠ 0) : ∃ c, (tl s)[0]? = some c ∧ atI s.cps.toList 0 = some c := by
  have h1 : 0 < (tl s).length := by rw [tl_len]; omega
  exact ⟨(tl s)[0], List.getElem?_eq_getElem h1, atI_nat (j := 0) (List.getElem?_eq_getElem h1)⟩
theorem zero_eq (s : Str) (c : Nat) (h : (tl s)[0]? = some c) : (V.str s = V.str (Str.ofString "0")) ↔ s.length = 1 ∧ c = 48 := by
  constructor
  · intro e; injection e with e; subst e
    refine ⟨by decide +kernel, ?_⟩
    have : (tl (Str.ofString "0"))[0]? = some 48 := by decide +kernel
    rw [this] at h; exact (Option.some.inj h).symm
  · rintro ⟨h1, rfl⟩
    rw [str0]
    have l1 : (tl s).length = 1 := by rw [tl_len]; exact h1
    match hs : tl s, l1 with
    | [d], _ =>
      rw [hs] at h
      have : d = 48 := by simpa using h
      subst this
      rw [str_ext (x := s) (y := ⟨#[48]⟩) hs]
theorem numV_cases (s : Str) : numV s = .non ∨ ∃ n : Nat, numV s = .int n := by
  unfold numV
  split
  · exact .inl rfl
  · split
    · exact .inl rfl
    · split
      · exact .inr ⟨_, rfl⟩
      · exact .inl rfl
theorem numL_head (n : Nat) (h : n ≠ 0) : (numL n)[0]? ≠ some 48 := by
  induction n using Nat.strongRecOn with
  | _ n ih =>
    by_cases l : n < 10
    · rw [numL_lt l]; simp; omega
    · rw [numL_step (by omega)]
      have := ih (n / 10) (by omega) (by omega)
      rw [List.getElem?_append_left (List.length_pos_iff.mpr (numL_ne _))]
      exact this
theorem numV_back {i : Int} (h0 : 0 ≤ i) (h1 : i < 10 ^ 12) : numV (Str.ofString (toString i)) = .int i := by
  obtain ⟨n, rfl⟩ := Int.eq_ofNat_of_zero_le h0
  have e : tl (Str.ofString (toString ((n : Nat) : Int))) = numL n := tl_num n
  have el : (Str.ofString (toString ((n : Nat) : Int))).length = (numL n).length := by rw [← tl_len, e]
  have l := numL_len (n := n) (k := 12) (by decide) (by omega)
  have l0 : (numL n).length ≠ 0 := fun z => numL_ne n (List.eq_nil_of_length_eq_zero z)
  rw [due_num (by rw [el]; omega) ?_ (by rw [e]; exact numL_digits n), e, numL_val]
  rw [el, e]
  rintro ⟨a, b⟩
  by_cases z : n = 0
  · subst z; rw [numL_lt (by decide)] at a; simp at a
  · exact numL_head n z b
section
variable {P : Program} {w : World} {K : PySem.W.Frag} {mg : Str → Option Value} {base : Heap}
def spNumT : Sp := fun vs H Q _ => ∃ s : Str, vs = [.str s] ∧ s.length ≤ 100000 ∧ Q (numV s) H
theorem ok_number_of (T : Top w K mg) : FnG P w K mg base CX0 2 T.a_number_of T.d_number_of ["word"] spNumT := by
  have G_all_between := ok_all_between (P := P) (w := w) (base := base) T
  refine okG T.F_number_of sc_number_of (fun vs H Q E h => ?_) (fun cdv A outer s H vs Q E hr hgd h => ?_)
  · obtain ⟨s, rfl, _⟩ := h
    rfl
  · obtain ⟨s, rfl, hs, q⟩ := h
    refine ⟨_, (pss_cons (ps_if (PW.pt (pw_or (pt_not (pt_val (pe_callB c_isi (by rfl) T.n_isinstance (by decide +kernel) (pa_cons (pv 0) (pa_cons (pe_bltn (v := .ty "str") (by rfl) T.n_str (by decide +kernel) rfl) pa_nil))))) (pw_or1 (pt_not (pt_chain op_le op_le pe_int (pe_callB c_lenS (by rfl) T.n_len (by decide +kernel) (pa_cons (pv 0) pa_nil)) (pe_glob (v := .int 12) (by rfl) T.c_FIGURES_MOST ⟨_, rfl⟩))))))
        (pss_one (ps_ret pe_non))
        pss_nil)
      (pss_cons (ps_if (pt_not (pt_val (g_call G_all_between (hr.mono (by decide)) hgd (by rfl) T.m_all_between T.F_all_between.kp T.b_all_between .nil pass0 (pa_cons (pv 0) (pa_cons pe_str (pa_cons pe_str pa_nil))))))
        (pss_one (ps_ret pe_non))
        pss_nil)
      (pss_cons (ps_if (PW.pt (pw_and (pt_cmpR op_eq (pe_ix ix_str (pv 0) pe_int (fun _ _ => rfl)) pe_str (nomark _)) (pw_and1 (pt_cmpR op_ne (pv 0) pe_str (nomark _)))))
        (pss_one (ps_ret pe_non))
        pss_nil)
      (pss_one (ps_ret (pe_callTy c_intS (by rfl) T.n_int (by decide +kernel) (pa_cons (pv 0) pa_nil))))))), ?_⟩
    have hz : s.length ≤ sizeLine := sz_of (by omega)
    walk_at "rd"
    refine i_isi ty_str (b := true) (by decide +kernel) ?_
    walk_at "rd"
    refine i_lenS hz ?_
    walk_at "rd"
    refine ifs (fun h1 => ?_) (fun h1 => ?_)
    · walk_at "rd"
      refine ifs (fun h2 => ?_) (fun h2 => ?_)
      · walk_at "rd"
        rw [due_none (by simp at h1 h2; omega)] at q
        exact q
      · walk_at "rd"
        have len1 : ¬ (s.length = 0 ∨ 12 < s.length) := by simp at h1 h2; omega
        refine ⟨s, _, _, 48, 57, rfl, by decide +kernel, by decide +kernel, ?_⟩
        walk_at "rd"
        refine ifs (fun h3 => ?_) (fun h3 => ?_)
        · walk_at "rd"
          have : ¬ ∀ c ∈ tl s, 48 ≤ c ∧ c ≤ 57 := by simpa using h3
          have e : numV s = .non := by
            unfold numV; rw [if_neg len1]
            by_cases y : 1 < s.length ∧ (tl s)[0]? = some 48
            · rw [if_pos y]
            · rw [if_neg y, if_neg this]
          rw [e] at q; exact q
        · have all : ∀ c ∈ tl s, 48 ≤ c ∧ c ≤ 57 := by simpa using h3
          obtain ⟨c, hc, hat⟩ := first_of (s := s) (by omega)
          walk_at "rd"
          refine i_ixS hz hat ?_
          walk_at "rd"
          have e48 : (V.str ⟨#[c]⟩ = V.str (Str.ofString "0")) ↔ c = 48 := by rw [str0]; exact sign_eq c 48
          simp only [e48]
          have last : ¬ (c = 48 ∧ 1 < s.length) → ∃ a n, [V.str s] = [V.str a] ∧ PySem.intText? a = some n ∧ a.length ≤ 640 ∧ Q (.int n) H := fun z => by
            refine ⟨s, _, rfl, intText_digits all ?_ (by omega), by omega, ?_⟩
            · intro e; have := tl_len s; rw [show tl s = [] from e] at this; simp at this; omega
            · rw [due_num len1 (fun y => z ⟨by have := y.2; rw [hc] at this; exact Option.some.inj this, y.1⟩) all] at q; exact q
          refine ifs (fun h4 => ?_) (fun h4 => ?_)
          · walk_at "rd"
            simp only [zero_eq s c hc]
            refine ifs (fun h5 => ?_) (fun h5 => ?_)
            · walk_at "rd"
              have c48 : c = 48 := by simpa using h4
              rw [due_zero (by simp [c48] at h5; omega) (by rw [hc, c48])] at q
              exact q
            · walk_at "rd"
              exact last (by simp at h4 h5; omega)
          · walk_at "rd"
            exact last (by simp at h4; omega)
    · walk_at "rd"
      rw [due_none (by simp at h1; omega)] at q
      exact q
end

section
variable {P : Program} {w : World} {K : PySem.W.Frag} {mg : Str → Option Value} {base : Heap}
theorem ok_NoLine___init__ (T : Top w K mg) : FnOk P w K mg base CX0 1 T.a_NoLine___init__ T.d_NoLine___init__ ["self", "found"] (spErr K "found") := by
  refine T.F_NoLine___init__.ok sc_NoLine___init__ (fun vs H Q E h => ?_) (fun cdv A outer s H vs Q E hr h => ?_)
  · obtain ⟨a, C, v, rfl, _⟩ := h
    rfl
  · obtain ⟨a, C, v, rfl, O, hno, ha, q⟩ := h
    refine ⟨_, (pss_cons (ps_expr (pe_kinit (by rfl) T.c_IceError T.sp_IceError T.ty_IceError T.rd_IceError T.fc_IceError (pa_cons (pv 0) (pa_cons pe_str pa_nil))))
      (pss_one (ps_ost (pv 0) (pv 1)))), ?_⟩
    walk_at "rd"
    refine ⟨a, C, _, rfl, by show 1 ≤ 1000; decide, O, ha, ?_⟩
    walk_at "rd"
    exact ⟨a, C, rfl, O, hno, .inl ⟨ha, q⟩⟩

end
end Ice

set_option Elab.async false
set_option linter.all false
set_option maxRecDepth 100000
set_option maxHeartbeats 4000000
set_option autoImplicit true
namespace Ice
open PySem PySem.Spec PyProof.Rows L2 TL
/-! side conditions, heaps, one step of a reading, and many -/
local macro_rules | `(tactic| walk_at "hp") => `(tactic| first | assumption | exact upd_same | exact New.at_ (by assumption) | (refine keepU ?_ (by assumption); walk_at "hp") | (refine New.app (by assumption) ?_; walk_at "hp") | (refine Same.app (by assumption) ?_; walk_at "hp") | (refine But.app (by assumption) (by assumption) ?_; walk_at "hp"))
local macro_rules | `(tactic| walk_at "sq") => `(tactic| first | assumption | exact SqL.lst (by walk_at "hp") | exact L2.Same.seq (New.same (by assumption)) (by assumption) | exact L2.Same.seq (by assumption) (by assumption))
local macro_rules | `(tactic| walk_at "len") => `(tactic| first | assumption | (simp only [List.length_cons, List.length_nil, List.length_append, List.length_map]; decide) | (refine Ice.sz_of ?_; simp only [List.length_cons, List.length_nil, List.length_append, List.length_map]; omega))
local macro_rules | `(tactic| walk_at "fresh") => `(tactic| (simp only [List.map_append, List.map_cons, List.map_nil, List.nil_append, List.cons_append]; decide +kernel))
local macro_rules | `(tactic| walk_at "sd") => `(tactic| first | assumption | (show _ ≠ _; omega) | exact Or.inl ⟨by omega, by omega⟩ | exact Or.inr ⟨by omega, by omega⟩ | exact ⟨by decide, by decide⟩ | exact ⟨by decide, by decide, by decide⟩ | exact ⟨by omega, by omega, by omega⟩)
/-! one step of a reading, and many -/
local macro_rules | `(tactic| walk_at "st") => `(tactic| first
  | with_reducible refine i_seq ?_
  | with_reducible refine i_if ?_
  | with_reducible refine i_next ?_
  | with_reducible refine i_ret ?_
  | with_reducible refine i_retN ?_
  | with_reducible refine i_drop ?_
  | with_reducible refine i_asg ?_
  | with_reducible refine i_gname ?_
  | with_reducible refine i_gsub ?_
  | ((with_reducible refine i_var (v := ?vv) ?hv ?_); (case hv => exact rfl))
  | with_reducible refine i_c ?_
  | with_reducible refine i_op ?_
  | with_reducible refine i_un ?_
  | with_reducible refine i_test ?_
  | with_reducible refine i_tB ?_
  | with_reducible refine i_and ?_
  | with_reducible refine i_or ?_
  | with_reducible refine i_not ?_
  | with_reducible refine i_andV ?_
  | with_reducible refine i_orV ?_
  | with_reducible refine i_notV ?_
  | with_reducible refine i_ifE ?_
  | with_reducible refine i_chain ?_
  | with_reducible refine i_bl ?_
  | with_reducible refine i_nil ?_
  | with_reducible refine i_cons ?_
  | with_reducible refine i_call ?_
  | with_reducible refine i_cb ?_
  | with_reducible refine i_rI0 ?_
  | with_reducible refine i_rU ?_
  | ((with_reducible refine i_rEq ?hs ?_); (case hs => exact rfl))
  | ((with_reducible refine i_rNe ?hs ?_); (case hs => exact rfl))
  | ((with_reducible refine i_rI ?hc ?_); (case hc => walk_at "sd"))
  | ((with_reducible refine i_ixL (xs := ?xs) (v := ?vv) ?hS ?he ?_); (case hS => walk_at "sq"); (case he => exact rfl))
  | ((with_reducible refine i_setL (xs := ?xs) (j := ?jj) ?hS ?he ?_); (case hS => walk_at "hp"); (case he => exact rfl))
  | with_reducible refine i_tup ?_
  | with_reducible refine i_lst ?_
  | with_reducible refine i_bm ?_
  | with_reducible refine i_bm0 ?_
  | with_reducible refine i_m1 ?_
  | with_reducible refine i_sl ?_
  | with_reducible refine i_nopart ?_
  | with_reducible refine i_part ?_
  | with_reducible refine i_int ?_
  | with_reducible refine i_str ?_
  | with_reducible refine i_for ?_
  | with_reducible refine i_yes ?_
  | ((with_reducible refine i_lenL (xs := ?xs) ?hS ?_); (case hS => walk_at "sq"))
  | ((with_reducible refine i_room ?hz ?_); (case hz => walk_at "len"))
  | with_reducible refine i_leT ?_
  | with_reducible refine i_notInS ?_
  | with_reducible refine i_inS ?_
  | with_reducible refine i_find ?_
  | with_reducible refine i_isB ?_
  | with_reducible refine i_max2 ?_
  | with_reducible refine i_min2 ?_
  | with_reducible exact trivial
  | with_reducible refine iteT ?_
  | with_reducible refine iteF ?_
  | with_reducible refine i_isstr ?_
  | with_reducible refine i_lc ?_
  | ((with_reducible refine i_cat (xs := ?xs) (zs := ?zs) ?ha ?hb ?hz ?_); (case ha => walk_at "hp"); (case hb => walk_at "hp"); (case hz => walk_at "len"))
  | ((with_reducible refine i_tyL (xs := ?xs) ?ha ?_); (case ha => walk_at "hp"))
  | with_reducible refine i_list ?_
  | with_reducible refine i_disp ?_
  | with_reducible refine i_pairs0 ?_
  | with_reducible refine i_pairs ?_
  | with_reducible refine i_newK ?_
  | with_reducible refine i_gcons ?_
  | with_reducible refine i_gnil ?_
  | with_reducible refine i_revL ?_
  | with_reducible refine i_rng1 ?_
  | ((with_reducible refine i_wipe ?hw ?_); (case hw => exact rfl))
  | with_reducible refine iteNT ?_
  | with_reducible refine iteNF ?_)
local macro_rules | `(tactic| walk_at "sx") => `(tactic| first
  | walk_at "st"
  | with_reducible refine i_kinit ?_
  | with_reducible refine i_ost ?_
  | with_reducible refine i_mkO ?_
  | with_reducible refine i_callE ?_
  | with_reducible refine i_makeE ?_
  | with_reducible refine i_xf ?_
  | with_reducible refine i_sfld ?_
  | with_reducible refine i_fld ?_
  | ((with_reducible refine i_ixT (xs := ?xs) (v := ?vv) ?hS ?he ?_); (case hS => exact SqT.tup (by walk_at "hp")); (case he => exact rfl))
  | with_reducible refine i_intB ?_
  | with_reducible refine i_runS ?_
  | with_reducible refine i_runN ?_
  | ((with_reducible refine i_xf1 (fs := ?ff) (v := ?vv) ?hx ?hl ?_); (case hx => walk_at "hp"); (case hl => exact rfl))
  | with_reducible refine i_methE ?_
  | with_reducible refine i_meth ?_
  | with_reducible refine i_make ?_
  | ((with_reducible refine i_obj (dx := ?dd) (fs := ?ff) ?hx ?hl ?_); (case hx => walk_at "hp"); (case hl => exact rfl))
  | ((with_reducible refine i_fld1 (C := ?CC) (dx := ?dd) (fs := ?ff) (v := ?vv) ?hx ?cl ?na ?hl ?_); (case hx => walk_at "hp"); (case cl => assumption); (case na => assumption); (case hl => exact rfl)))
local macro_rules | `(tactic| walk_at "sy") => `(tactic| first
  | walk_at "sx"
  | with_reducible refine i_dget ?_
  | with_reducible refine i_dget2 ?_
  | with_reducible refine i_dput ?_
  | with_reducible refine i_din ?_
  | ((with_reducible refine i_aug (x := ?vv) ?hx ?_); (case hx => exact rfl)))
local macro_rules | `(tactic| walk_at "rd") => `(tactic| repeat (walk_at "sy"))

section
variable {P : Program} {w : World} {K : PySem.W.Frag} {mg : Str → Option Value} {base : Heap}
theorem un64 {k : Nat} {A : Around} (hr : Room k A) : A.units + 64 < cLine := by have := hr.un; omega
theorem un1 {k : Nat} {A : Around} (hr : Room k A) : A.units + 1 < cLine := by have := hr.un; omega
/-- a word as its form asks -/
def thV (b : Bool) (s : Str) : V := if b = true then numV s else .str s
def fmS (b : Bool) : Str := if b = true then Str.ofString "number" else Str.ofString "word"
def spThing : Sp := fun vs H Q _ => ∃ (b : Bool) (s : Str), vs = [.str (fmS b), .str s] ∧ s.length ≤ 100000 ∧ Q (thV b s) H
theorem ok_thing_of (T : Top w K mg) : FnG P w K mg base CX0 3 T.a_thing_of T.d_thing_of ["form", "word"] spThing := by
  have G_number_of := ok_number_of (P := P) (w := w) (base := base) T
  refine okG T.F_thing_of sc_thing_of (fun vs H Q E h => ?_) (fun cdv A outer s H vs Q E hr hgd h => ?_)
  · obtain ⟨b, s', rfl, _⟩ := h
    rfl
  · obtain ⟨b, s', rfl, ls, q⟩ := h
    refine ⟨_, (pss_cons (ps_if (pt_cmpR op_eq (pv 0) pe_str (nomark _))
        (pss_one (ps_ret (g_call G_number_of (hr.mono (by decide)) hgd (by rfl) T.m_number_of T.F_number_of.kp T.b_number_of .nil pass0 (pa_cons (pv 1) pa_nil))))
        pss_nil)
      (pss_one (ps_ret (pv 1)))), ?_⟩
    walk_at "rd"
    cases b with
    | true =>
      refine ifs (fun h1 => ?_) (fun h1 => by simp [fmS] at h1)
      walk_at "rd"
      exact ⟨s', rfl, ls, q⟩
    | false =>
      refine ifs (fun h1 => absurd (by simpa [fmS] using h1) (by decide +kernel : ¬ (Str.ofString "word" = Str.ofString "number"))) (fun h1 => ?_)
      walk_at "rd"
      exact q
end

end Ice

set_option Elab.async false
set_option linter.all false
set_option maxRecDepth 100000
set_option maxHeartbeats 4000000
set_option autoImplicit true
namespace Ice
open PySem PySem.Spec PyProof.Rows L2 TL
/-! side conditions, heaps, one step of a reading, and many -/
local macro_rules | `(tactic| walk_at "hp") => `(tactic| first | assumption | exact upd_same | exact New.at_ (by assumption) | (refine keepU ?_ (by assumption); walk_at "hp") | (refine New.app (by assumption) ?_; walk_at "hp") | (refine Same.app (by assumption) ?_; walk_at "hp") | (refine But.app (by assumption) (by assumption) ?_; walk_at "hp"))
local macro_rules | `(tactic| walk_at "sq") => `(tactic| first | assumption | exact SqL.lst (by walk_at "hp") | exact L2.Same.seq (New.same (by assumption)) (by assumption) | exact L2.Same.seq (by assumption) (by assumption))
local macro_rules | `(tactic| walk_at "len") => `(tactic| first | assumption | (simp only [List.length_cons, List.length_nil, List.length_append, List.length_map]; decide) | (refine Ice.sz_of ?_; simp only [List.length_cons, List.length_nil, List.length_append, List.length_map]; omega))
local macro_rules | `(tactic| walk_at "fresh") => `(tactic| (simp only [List.map_append, List.map_cons, List.map_nil, List.nil_append, List.cons_append]; decide +kernel))
local macro_rules | `(tactic| walk_at "sd") => `(tactic| first | assumption | (show _ ≠ _; omega) | exact Or.inl ⟨by omega, by omega⟩ | exact Or.inr ⟨by omega, by omega⟩ | exact ⟨by decide, by decide⟩ | exact ⟨by decide, by decide, by decide⟩ | exact ⟨by omega, by omega, by omega⟩)
/-! one step of a reading, and many -/
local macro_rules | `(tactic| walk_at "st") => `(tactic| first
  | with_reducible refine i_seq ?_
  | with_reducible refine i_if ?_
  | with_reducible refine i_next ?_
  | with_reducible refine i_ret ?_
  | with_reducible refine i_retN ?_
  | with_reducible refine i_drop ?_
  | with_reducible refine i_asg ?_
  | with_reducible refine i_gname ?_
  | with_reducible refine i_gsub ?_
  | ((with_reducible refine i_var (v := ?vv) ?hv ?_); (case hv => exact rfl))
  | with_reducible refine i_c ?_
  | with_reducible refine i_op ?_
  | with_reducible refine i_un ?_
  | with_reducible refine i_test ?_
  | with_reducible refine i_tB ?_
  | with_reducible refine i_and ?_
  | with_reducible refine i_or ?_
  | with_reducible refine i_not ?_
  | with_reducible refine i_andV ?_
  | with_reducible refine i_orV ?_
  | with_reducible refine i_notV ?_
  | with_reducible refine i_ifE ?_
  | with_reducible refine i_chain ?_
  | with_reducible refine i_bl ?_
  | with_reducible refine i_nil ?_
  | with_reducible refine i_cons ?_
  | with_reducible refine i_call ?_
  | with_reducible refine i_cb ?_
  | with_reducible refine i_rI0 ?_
  | with_reducible refine i_rU ?_
  | ((with_reducible refine i_rEq ?hs ?_); (case hs => exact rfl))
  | ((with_reducible refine i_rNe ?hs ?_); (case hs => exact rfl))
  | ((with_reducible refine i_rI ?hc ?_); (case hc => walk_at "sd"))
  | ((with_reducible refine i_ixL (xs := ?xs) (v := ?vv) ?hS ?he ?_); (case hS => walk_at "sq"); (case he => exact rfl))
  | ((with_reducible refine i_setL (xs := ?xs) (j := ?jj) ?hS ?he ?_); (case hS => walk_at "hp"); (case he => exact rfl))
  | with_reducible refine i_tup ?_
  | with_reducible refine i_lst ?_
  | with_reducible refine i_bm ?_
  | with_reducible refine i_bm0 ?_
  | with_reducible refine i_m1 ?_
  | with_reducible refine i_sl ?_
  | with_reducible refine i_nopart ?_
  | with_reducible refine i_part ?_
  | with_reducible refine i_int ?_
  | with_reducible refine i_str ?_
  | with_reducible refine i_for ?_
  | with_reducible refine i_yes ?_
  | ((with_reducible refine i_lenL (xs := ?xs) ?hS ?_); (case hS => walk_at "sq"))
  | ((with_reducible refine i_room ?hz ?_); (case hz => walk_at "len"))
  | with_reducible refine i_leT ?_
  | with_reducible refine i_notInS ?_
  | with_reducible refine i_inS ?_
  | with_reducible refine i_find ?_
  | with_reducible refine i_isB ?_
  | with_reducible refine i_max2 ?_
  | with_reducible refine i_min2 ?_
  | with_reducible exact trivial
  | with_reducible refine iteT ?_
  | with_reducible refine iteF ?_
  | with_reducible refine i_isstr ?_
  | with_reducible refine i_lc ?_
  | ((with_reducible refine i_cat (xs := ?xs) (zs := ?zs) ?ha ?hb ?hz ?_); (case ha => walk_at "hp"); (case hb => walk_at "hp"); (case hz => walk_at "len"))
  | ((with_reducible refine i_tyL (xs := ?xs) ?ha ?_); (case ha => walk_at "hp"))
  | with_reducible refine i_list ?_
  | with_reducible refine i_disp ?_
  | with_reducible refine i_pairs0 ?_
  | with_reducible refine i_pairs ?_
  | with_reducible refine i_newK ?_
  | with_reducible refine i_gcons ?_
  | with_reducible refine i_gnil ?_
  | with_reducible refine i_revL ?_
  | with_reducible refine i_rng1 ?_
  | ((with_reducible refine i_wipe ?hw ?_); (case hw => exact rfl))
  | with_reducible refine iteNT ?_
  | with_reducible refine iteNF ?_)
local macro_rules | `(tactic| walk_at "sx") => `(tactic| first
  | walk_at "st"
  | with_reducible refine i_kinit ?_
  | with_reducible refine i_ost ?_
  | with_reducible refine i_mkO ?_
  | with_reducible refine i_callE ?_
  | with_reducible refine i_makeE ?_
  | with_reducible refine i_xf ?_
  | with_reducible refine i_sfld ?_
  | with_reducible refine i_fld ?_
  | ((with_reducible refine i_ixT (xs := ?xs) (v := ?vv) ?hS ?he ?_); (case hS => exact SqT.tup (by walk_at "hp")); (case he => exact rfl))
  | with_reducible refine i_intB ?_
  | with_reducible refine i_runS ?_
  | with_reducible refine i_runN ?_
  | ((with_reducible refine i_xf1 (fs := ?ff) (v := ?vv) ?hx ?hl ?_); (case hx => walk_at "hp"); (case hl => exact rfl))
  | with_reducible refine i_methE ?_
  | with_reducible refine i_meth ?_
  | with_reducible refine i_make ?_
  | ((with_reducible refine i_obj (dx := ?dd) (fs := ?ff) ?hx ?hl ?_); (case hx => walk_at "hp"); (case hl => exact rfl))
  | ((with_reducible refine i_fld1 (C := ?CC) (dx := ?dd) (fs := ?ff) (v := ?vv) ?hx ?cl ?na ?hl ?_); (case hx => walk_at "hp"); (case cl => assumption); (case na => assumption); (case hl => exact rfl)))
local macro_rules | `(tactic| walk_at "sy") => `(tactic| first
  | walk_at "sx"
  | with_reducible refine i_dget ?_
  | with_reducible refine i_dget2 ?_
  | with_reducible refine i_dput ?_
  | with_reducible refine i_din ?_
  | ((with_reducible refine i_aug (x := ?vv) ?hx ?_); (case hx => exact rfl)))
local macro_rules | `(tactic| walk_at "rd") => `(tactic| repeat (walk_at "sy"))

section
theorem spl1 (s : Nat) : ∀ (L acc : List Nat), TL.spl [s] 0 acc L ≠ [] ∧ TL.joinL [s] (TL.spl [s] 0 acc L) = acc ++ L ∧ (TL.spl [s] 0 acc L).length ≤ L.length + 1 ∧ ∀ p ∈ TL.spl [s] 0 acc L, p.length ≤ acc.length + L.length
  | [], acc => by
    rw [TL.spl_nil]
    exact ⟨by simp, by show acc = acc ++ []; rw [List.append_nil], by simp, fun p h => by obtain rfl := List.mem_singleton.mp h; simp⟩
  | c :: r, acc => by
    by_cases h : c = s
    · subst h
      have hp : TL.pre [c] (c :: r) = true := by simp [TL.pre]
      rw [TL.spl_hit hp]
      show (acc :: TL.spl [c] 0 [] r ≠ []) ∧ TL.joinL [c] (acc :: TL.spl [c] 0 [] r) = _ ∧ _
      obtain ⟨i1, i2, i3, i4⟩ := spl1 c r []
      refine ⟨by simp, ?_, ?_, ?_⟩
      · cases hs : TL.spl [c] 0 [] r with
        | nil => exact absurd hs i1
        | cons q m =>
          rw [hs] at i2
          show acc ++ ([c] ++ TL.joinL [c] (q :: m)) = _
          rw [i2]; simp
      · show (acc :: TL.spl [c] 0 [] r).length ≤ _
        rw [List.length_cons, List.length_cons]; omega
      · intro p hp
        have hp : p ∈ acc :: TL.spl [c] 0 [] r := hp
        rcases List.mem_cons.mp hp with rfl | hp
        · omega
        · have := i4 p hp
          simp at this ⊢; omega
    · have hp : TL.pre [s] (c :: r) = false := by simp [TL.pre]; first | exact h | exact fun z => h z.symm
      rw [TL.spl_miss hp]
      obtain ⟨i1, i2, i3, i4⟩ := spl1 s r (acc ++ [c])
      refine ⟨i1, by rw [i2]; simp, by rw [List.length_cons]; omega, fun p hp => ?_⟩
      have := i4 p hp
      simp at this ⊢; omega
theorem kind_low {x y : Str} (hk : (y.cps.all fun x => decide (x < 256)) = true) : ¬ Builtin.Str.strKind x < Builtin.Str.strKind y := by
  have e : Builtin.Str.strKind y = 1 := by unfold Builtin.Str.strKind; rw [if_pos hk]
  rw [e]
  unfold Builtin.Str.strKind
  split
  · omega
  · split <;> omega
theorem split1 {x y : Str} {s : Nat} (h : TL.tl y = [s]) (hk : (y.cps.all fun x => decide (x < 256)) = true) : (Txt.split x y ≠ [] ∧ (Txt.split x y).length ≤ x.length + 1 ∧ ∀ r ∈ Txt.split x y, r.length ≤ x.length) ∧ Txt.join y (Txt.split x y) = x := by
  obtain ⟨i1, i2, i3, i4⟩ := spl1 s (TL.tl x) []
  have e := TL.split_spl x y (by rw [h]; simp) (kind_low hk)
  rw [h] at e
  have l : (TL.tl x).length = x.length := tl_len x
  refine ⟨⟨fun z => ?_, ?_, fun r hr => ?_⟩, ?_⟩
  · rw [z] at e; exact i1 e.symm
  · rw [← e, List.length_map] at i3; omega
  · have := i4 (TL.tl r) (by rw [← e]; exact List.mem_map.mpr ⟨r, hr, rfl⟩)
    have lr : (TL.tl r).length = r.length := tl_len r
    rw [List.length_nil] at this; omega
  · refine str_ext ?_
    show TL.tl _ = TL.tl _
    rw [TL.join_eq, TL.tl_join, h, e, i2]; rfl
theorem tl_bl : TL.tl (Str.ofString " ") = [32] := by decide +kernel
theorem tl_fd : TL.tl (Str.ofString "\n") = [10] := by decide +kernel
theorem spl_no (s : Nat) : ∀ (L acc : List Nat), s ∉ acc → ∀ p ∈ TL.spl [s] 0 acc L, s ∉ p
  | [], acc, ha, p, h => by
    rw [TL.spl_nil] at h
    rw [List.mem_singleton.mp h]; exact ha
  | c :: r, acc, ha, p, h => by
    by_cases hc : c = s
    · subst hc
      have hp : TL.pre [c] (c :: r) = true := by simp [TL.pre]
      rw [TL.spl_hit hp] at h
      have h : p ∈ acc :: TL.spl [c] 0 [] r := h
      rcases List.mem_cons.mp h with rfl | h
      · exact ha
      · exact spl_no c r [] (by simp) p h
    · have hp : TL.pre [s] (c :: r) = false := by simp [TL.pre]; first | exact hc | exact fun z => hc z.symm
      rw [TL.spl_miss hp] at h
      exact spl_no s r (acc ++ [c]) (by simp [ha]; exact fun z => hc z.symm) p h
theorem split_no {x y : Str} {s : Nat} (h : TL.tl y = [s]) (hk : (y.cps.all fun x => decide (x < 256)) = true) : ∀ r ∈ Txt.split x y, s ∉ tl r := fun r hr => by
  have e := TL.split_spl x y (by rw [h]; simp) (kind_low hk)
  rw [h] at e
  exact spl_no s (TL.tl x) [] (by simp) (tl r) (by rw [← e]; exact List.mem_map.mpr ⟨r, hr, rfl⟩)
/-- what partition finds at the first blank -/
theorem part_of {x k : Str} {r : List Str} (h : Txt.split x (Str.ofString " ") = k :: r) : Txt.partition x (Str.ofString " ") = if r = [] then (k, Str.empty, Str.empty) else (k, Str.ofString " ", Txt.join (Str.ofString " ") r) := by
  have j := (split1 (x := x) tl_bl (by decide +kernel)).2
  rw [h] at j
  have nk : 32 ∉ tl k := split_no (x := x) tl_bl (by decide +kernel) k (by rw [h]; exact List.mem_cons_self ..)
  cases r with
  | nil =>
    rw [if_pos rfl]
    have e : x = k := by rw [← j]; refine str_ext ?_; show TL.tl _ = TL.tl _; rw [TL.join_eq, TL.tl_join]; rfl
    rw [e]
    exact partition_none tl_bl nk
  | cons q m =>
    rw [if_neg (by simp)]
    have e : x = k ++ Str.ofString " " ++ Txt.join (Str.ofString " ") (q :: m) := by
      rw [← j]
      refine str_ext ?_
      rw [tl_append, tl_append]
      show TL.tl _ = TL.tl k ++ TL.tl _ ++ TL.tl _
      rw [TL.join_eq, TL.tl_join, TL.join_eq, TL.tl_join, tl_bl]
      show TL.tl k ++ ([32] ++ TL.joinL [32] ((q :: m).map TL.tl)) = _
      simp
    rw [e]
    exact partition_app tl_bl nk
theorem join_tail (k : Str) (r : List Str) : (Txt.join (Str.ofString " ") r).length ≤ (Txt.join (Str.ofString " ") (k :: r)).length := by
  cases r with
  | nil =>
    rw [← tl_len]
    show (TL.tl _).length ≤ _
    rw [TL.join_eq, TL.tl_join]
    exact Nat.zero_le _
  | cons q m =>
    rw [← tl_len, ← tl_len]
    show (TL.tl _).length ≤ (TL.tl _).length
    rw [TL.join_eq, TL.tl_join, TL.join_eq, TL.tl_join, tl_bl]
    show _ ≤ (TL.tl k ++ ([32] ++ TL.joinL [32] ((q :: m).map TL.tl))).length
    rw [List.length_append, List.length_append]
    omega
end

section
variable {P : Program} {w : World} {K : PySem.W.Frag} {mg : Str → Option Value} {base : Heap}
def fmL : List (Str × List Bool) := [(Str.ofString "go", [false, true, false]), (Str.ofString "back", [false]), (Str.ofString "late", [false, true, true]), (Str.ofString "undo", []), (Str.ofString "redo", []), (Str.ofString "show", []), (Str.ofString "table", []), (Str.ofString "whole", []), (Str.ofString "led", []), (Str.ofString "price", []), (Str.ofString "standing", []), (Str.ofString "stuck", []), (Str.ofString "ice", [false, true]), (Str.ofString "where", [false, true]), (Str.ofString "last", [false, true]), (Str.ofString "way", [false]), (Str.ofString "free", [false]), (Str.ofString "out", [false]), (Str.ofString "best", [true]), (Str.ofString "barred", [false])]
def fm (k : Str) : Option (List Bool) := (fmL.find? fun p => p.1 == k).map (·.2)
def lineD (s : Str) : Option (Str × List V) :=
  if 10 ∈ tl s then none else match Txt.split s (Str.ofString " ") with
    | [] => none
    | k :: r => if k = Str.ofString "open" ∧ r ≠ [] then some (k, [.str (Txt.replace (Txt.join (Str.ofString " ") r) (Str.ofString " / ") (Str.ofString "\n"))])
      else match fm k with
        | none => none
        | some bs => if bs.length ≠ r.length then none else if V.non ∈ List.zipWith thV bs r then none else some (k, List.zipWith thV bs r)
def NoL (T : Top w K mg) (E : XK) (H : Hp) (v : V) : Prop := ∀ d H', Same H H' → H' d = some (.xd [(Str.ofString "found", v)]) → E (.ref T.a_NoLine) (some d) H'
theorem i_noL {T : Top w K mg} {E : XK} {H : Hp} {v : V} (a : NoL T E H v) : ∀ d, H d = none → E (.ref T.a_NoLine) (some d) (upd H d (.xd [(Str.ofString "found", v)])) := fun d hd => a d _ (Same.new _ hd) upd_same
theorem sfree {H H' : Hp} {p : Addr} (s : Same H H') (h : H' p = none) : H p = none := by
  cases e : H p with
  | none => rfl
  | some o => rw [s _ _ e] at h; cases h
def Top.trip (T : Top w K mg) : List (Str × Addr × List Bool) := [(Str.ofString "go", T.v_LINE_FORMS_go, [false, true, false]), (Str.ofString "back", T.v_LINE_FORMS_back, [false]), (Str.ofString "late", T.v_LINE_FORMS_late, [false, true, true]), (Str.ofString "undo", T.v_LINE_FORMS_undo, []), (Str.ofString "redo", T.v_LINE_FORMS_redo, []), (Str.ofString "show", T.v_LINE_FORMS_show, []), (Str.ofString "table", T.v_LINE_FORMS_table, []), (Str.ofString "whole", T.v_LINE_FORMS_whole, []), (Str.ofString "led", T.v_LINE_FORMS_led, []), (Str.ofString "price", T.v_LINE_FORMS_price, []), (Str.ofString "standing", T.v_LINE_FORMS_standing, []), (Str.ofString "stuck", T.v_LINE_FORMS_stuck, []), (Str.ofString "ice", T.v_LINE_FORMS_ice, [false, true]), (Str.ofString "where", T.v_LINE_FORMS_where, [false, true]), (Str.ofString "last", T.v_LINE_FORMS_last, [false, true]), (Str.ofString "way", T.v_LINE_FORMS_way, [false]), (Str.ofString "free", T.v_LINE_FORMS_free, [false]), (Str.ofString "out", T.v_LINE_FORMS_out, [false]), (Str.ofString "best", T.v_LINE_FORMS_best, [true]), (Str.ofString "barred", T.v_LINE_FORMS_barred, [false])]
theorem Top.trip_sq (T : Top w K mg) : ∀ t ∈ T.trip, ∀ H, SqT K H t.2.1 (t.2.2.map fun b => V.str (fmS b)) := by
  intro t ht
  unfold Top.trip at ht
  simp only [List.mem_cons, List.not_mem_nil, or_false] at ht
  rcases ht with rfl | rfl | rfl | rfl | rfl | rfl | rfl | rfl | rfl | rfl | rfl | rfl | rfl | rfl | rfl | rfl | rfl | rfl | rfl | rfl
  · exact T.q_LINE_FORMS_go
  · exact T.q_LINE_FORMS_back
  · exact T.q_LINE_FORMS_late
  · exact T.q_LINE_FORMS_undo
  · exact T.q_LINE_FORMS_redo
  · exact T.q_LINE_FORMS_show
  · exact T.q_LINE_FORMS_table
  · exact T.q_LINE_FORMS_whole
  · exact T.q_LINE_FORMS_led
  · exact T.q_LINE_FORMS_price
  · exact T.q_LINE_FORMS_standing
  · exact T.q_LINE_FORMS_stuck
  · exact T.q_LINE_FORMS_ice
  · exact T.q_LINE_FORMS_where
  · exact T.q_LINE_FORMS_last
  · exact T.q_LINE_FORMS_way
  · exact T.q_LINE_FORMS_free
  · exact T.q_LINE_FORMS_out
  · exact T.q_LINE_FORMS_best
  · exact T.q_LINE_FORMS_barred
theorem find_trip {L : List (Str × Addr × List Bool)} (z : Str) : tabV (L.map fun t => (t.1, Value.ref t.2.1)) z = (L.find? fun p => p.1 == z).map (fun t => Value.ref t.2.1) ∧ ((L.map fun t => (t.1, t.2.2)).find? fun p => p.1 == z).map (·.2) = (L.find? fun p => p.1 == z).map (·.2.2) := by
  unfold tabV
  rw [List.find?_map, List.find?_map, Option.map_map, Option.map_map]
  exact ⟨rfl, rfl⟩
/-- the table of forms: what it has of a word -/
theorem Top.forms (T : Top w K mg) (z : Str) : ∃ (r : Option Value) (v : V), PySem.W.nsIn K T.a_LINE_FORMS z = some r ∧ RelV v (r.getD .none) ∧ ((v = .non ∧ fm z = none) ∨ ∃ (a : Addr) (bs : List Bool), v = .ref a ∧ fm z = some bs ∧ bs.length ≤ 3 ∧ ∀ H, SqT K H a (bs.map fun b => V.str (fmS b))) := by
  obtain ⟨f1, f2⟩ := find_trip (L := T.trip) z
  have e1 : PySem.W.nsIn K T.a_LINE_FORMS z = some (tabV (T.trip.map fun t => (t.1, Value.ref t.2.1)) z) := T.in_LINE_FORMS z
  have e2 : fm z = (T.trip.find? fun p => p.1 == z).map (·.2.2) := by rw [← f2]; rfl
  rw [f1] at e1
  cases hf : T.trip.find? fun p => p.1 == z with
  | none => rw [hf] at e1 e2; exact ⟨_, .non, e1, rfl, .inl ⟨rfl, e2⟩⟩
  | some t =>
    rw [hf] at e1 e2
    have tm := List.mem_of_find?_eq_some hf
    refine ⟨_, .ref t.2.1, e1, rfl, .inr ⟨_, _, rfl, e2, ?_, T.trip_sq t tm⟩⟩
    have : ∀ t ∈ T.trip, t.2.2.length ≤ 3 := by unfold Top.trip; simp
    exact this t tm
theorem cutV_from (xs : List V) {a : Nat} (h : a ≤ xs.length) : cutV xs (some (a : Int)) none = xs.drop a := by
  unfold cutV
  rw [HT.sIx_nat, Nat.min_eq_left h]
  show (xs.drop a).take (xs.length - a) = xs.drop a
  exact List.take_of_length_le (by rw [List.length_drop]; exact Nat.le_refl _)
theorem thV_cases (b : Bool) (s : Str) : thV b s = .non ∨ (∃ n : Nat, thV b s = .int n) ∨ thV b s = .str s := by
  cases b with
  | false => exact .inr (.inr rfl)
  | true =>
    show numV s = _ ∨ _
    rcases numV_cases s with h | ⟨n, h⟩
    · exact .inl h
    · exact .inr (.inl ⟨n, h⟩)
theorem th_flat : ∀ (bs : List Bool) (r : List Str), (List.zipWith thV bs r).all flatV = true
  | [], _ => by simp
  | _ :: _, [] => by simp
  | b :: bs, s :: r => by
    rw [List.zipWith_cons_cons, List.all_cons, th_flat bs r, Bool.and_true]
    rcases thV_cases b s with h | ⟨n, h⟩ | h <;> rw [h] <;> rfl
theorem non_inT : ∀ (bs : List Bool) (r : List Str), inV .non (List.zipWith thV bs r) = decide (V.non ∈ List.zipWith thV bs r)
  | [], _ => by simp; rfl
  | _ :: _, [] => by simp; rfl
  | b :: bs, s :: r => by
    rw [List.zipWith_cons_cons]
    show (_ || inV .non (List.zipWith thV bs r)) = _
    rw [non_inT bs r]
    rcases thV_cases b s with h | ⟨n, h⟩ | h <;> rw [h] <;> simp
    · exact .inl rfl
    · exact fun z => absurd (show false = true from z) (by decide)
    · exact fun z => absurd (show false = true from z) (by decide)
def spReadL (T : Top w K mg) : Sp := fun vs H Q E => ∃ s : Str, vs = [.str s] ∧ s.length ≤ 2000 ∧ (∀ k ths p l H', lineD s = some (k, ths) → Same H H' → H p = none → H l = none → H' p = some (.tup [.str k, .ref l]) → H' l = some (.lst ths) → Q (.ref p) H') ∧ (lineD s = none → NoL T E H (.str s))
theorem ok_read_line (T : Top w K mg) : FnG P w K mg base (L2.CX P w) 4 T.a_read_line T.d_read_line ["line"] (spReadL T) := by
  have G_thing_of := ok_thing_of (P := P) (w := w) (base := base) T
  have G_NoLine___init__ := ok_NoLine___init__ (P := P) (w := w) (base := base) T
  have G_NoLine___init__ := ok_NoLine___init__ (P := P) (w := w) (base := base) T
  have G_NoLine___init__ := ok_NoLine___init__ (P := P) (w := w) (base := base) T
  refine okGTX T.F_read_line sc_read_line (by decide +kernel) (by decide) (fun vs H Q E h => ?_) (fun cdv A outer s H vs Q E hr hgd h => ?_)
  · obtain ⟨s', rfl, _⟩ := h
    rfl
  · obtain ⟨s', rfl, ls, q, no⟩ := h
    have hu : _ := un1 hr
    have hu64 := un64 hr
    refine ⟨_, (psst_cons (PST.of (ps_if (PW.pt (pw_or (pt_not (pt_val (pe_callB (c_isiO T.xi_NoLine) (by rfl) T.n_isinstance (by decide +kernel) (pa_cons (pv 0) (pa_cons (pe_bltn (v := .ty "str") (by rfl) T.n_str (by decide +kernel) rfl) pa_nil))))) (pw_or1 (pt_cmpR op_inS pe_str (pv 0) (by rfl)))))
        (pss_one (ps_raise rfl (takes_of rfl rfl rfl rfl) (pmk_oex T.ox_NoLine T.in_NoLine T.tf_NoLine G_NoLine___init__ (hr.mono (by decide)) T.b_NoLine___init__ .nil pass0 (by rfl) T.c_NoLine (pa_cons (pv 0) pa_nil))))
        pss_nil))
      (psst_cons (PST.of (ps_asg (pe_partition (pv 0) pe_str) (pg_tup rfl (pgs_cons (pg_name (i := 1) sc_read_line.nd rfl (by first | exact Or.inl rfl | exact Or.inr rfl)) (pgs_cons (pg_name (i := 2) sc_read_line.nd rfl (by first | exact Or.inl rfl | exact Or.inr rfl)) (pgs_cons (pg_name (i := 3) sc_read_line.nd rfl (by first | exact Or.inl rfl | exact Or.inr rfl)) pgs_nil))))))
      (psst_cut (CwR.pst_if (PW.pt (pw_and (pt_cmpR op_eq (pv 1) pe_str (nomark _)) (pw_and1 (pt_truth (pv 2) (by intro _; rfl))))) (CwR.psst_one (CwR.pst_ret (pet_tup (pat_cons (CwR.PET.of (pv 1)) (pat_cons (pet_lst (pat_cons (CwR.pet_replC (pv 3)) pat_nil)) pat_nil))))) (PSsT.of pss_nil))
      (psst_cons (PST.of (ps_set (i := 4) sc_read_line.nd rfl (by first | exact Or.inl rfl | exact Or.inr rfl) (pe_split (pv 0) pe_str)))
      (psst_cons (PST.of (ps_set (i := 5) sc_read_line.nd rfl (by first | exact Or.inl rfl | exact Or.inr rfl) (pe_kget T.kd_LINE_FORMS (pe_glob (v := .ref T.a_LINE_FORMS) (by rfl) T.c_LINE_FORMS rfl) (pv 1) ⟨rfl, rfl, rfl, rfl⟩)))
      (psst_cons (PST.of (ps_if (PW.pt (pw_or (pt_cmpR op_isN1 (pv 5) pe_non (nomark _)) (pw_or1 (pt_cmpR op_ne (pe_callB c_len (by rfl) T.n_len (by decide +kernel) (pa_cons (pv 5) pa_nil)) (pe_op op_sub (pe_callB c_len (by rfl) T.n_len (by decide +kernel) (pa_cons (pv 4) pa_nil)) pe_int) (nomark _)))))
        (pss_one (ps_raise rfl (takes_of rfl rfl rfl rfl) (pmk_oex T.ox_NoLine T.in_NoLine T.tf_NoLine G_NoLine___init__ (hr.mono (by decide)) T.b_NoLine___init__ .nil pass0 (by rfl) T.c_NoLine (pa_cons (pv 0) pa_nil))))
        pss_nil))
      (psst_cons (PST.of (ps_setLc (i := 6) (own := [("form", 7), ("word", 8)]) rfl sc_read_line.nd rfl rfl (sw_true rfl rfl rfl (by decide +kernel)) (pi_zipM (by rfl) T.n_zip (pa_cons (pv 5) (pa_cons (pe_slice sl_list (pv 4) (po_some pe_int) po_none) pa_nil))) (blkOk_by (own := [("form", 7), ("word", 8)]) (N := ["line", "kind", "blank", "rest", "words", "forms", "things", "form", "word"]) (sc := defScope s_read_line) (by decide +kernel)) (fun _ _ _ _ _ => (show PG _ _ (gTup K 2 _) from (pg_tup rfl (pgs_cons (pg_name (i := 7) sc_read_line.nd rfl (by first | exact Or.inl rfl | exact Or.inr rfl)) (pgs_cons (pg_name (i := 8) sc_read_line.nd rfl (by first | exact Or.inl rfl | exact Or.inr rfl)) pgs_nil))))) (fun _ _ _ _ _ => pts_nil) (fun _ _ _ _ _ => (g_call G_thing_of (hr.mono (by decide)) hgd (by rfl) T.m_thing_of T.F_thing_of.kp T.b_thing_of .nil pass0 (pa_cons (pv 7) (pa_cons (pv 8) pa_nil))))))
      (psst_cons (PST.of (ps_if (pt_cmpR op_in_seq pe_non (pv 6) (by rfl))
        (pss_one (ps_raise rfl (takes_of rfl rfl rfl rfl) (pmk_oex T.ox_NoLine T.in_NoLine T.tf_NoLine G_NoLine___init__ (hr.mono (by decide)) T.b_NoLine___init__ .nil pass0 (by rfl) T.c_NoLine (pa_cons (pv 0) pa_nil))))
        pss_nil))
      (CwR.psst_one (PST.of (ps_ret (pe_tup (pa_cons (pv 1) (pa_cons (pv 6) pa_nil)))))))))))))), ?_⟩
    walk_at "rd"
    refine .inl (i_isiC (b := true) ty_str (kit_ty (by decide +kernel)) ?_)
    walk_at "rd"
    refine ⟨10, s', by rw [show Str.ofString "\n" = ⟨#[10]⟩ by decide +kernel], rfl, ?_⟩
    have hT : s'.cps.toList = tl s' := rfl
    rw [hT]
    walk_at "rd"
    refine ifs (fun h1 => ?_) (fun h1 => ?_)
    · have h1 : 10 ∈ tl s' := of_decide_eq_true h1
      walk_at "rd"
      exact i_mkE T.ox_NoLine T.nf_NoLine_found (i_noL (no (by unfold lineD; rw [if_pos h1])))
    have h1 : ¬ 10 ∈ tl s' := of_decide_eq_false h1
    obtain ⟨k, r, hsp⟩ : ∃ k r, Txt.split s' (Str.ofString " ") = k :: r := by
      cases e : Txt.split s' (Str.ofString " ") with
      | nil => exact absurd e (split1 (x := s') tl_bl (by decide +kernel)).1.1
      | cons k r => exact ⟨k, r, rfl⟩
    have ld : lineD s' = if k = Str.ofString "open" ∧ r ≠ [] then some (k, [.str (Txt.replace (Txt.join (Str.ofString " ") r) (Str.ofString " / ") (Str.ofString "\n"))])
      else match fm k with
        | none => none
        | some bs => if bs.length ≠ r.length then none else if V.non ∈ List.zipWith thV bs r then none else some (k, List.zipWith thV bs r) := by
      unfold lineD; rw [if_neg h1, hsp]
    have pt := part_of hsp
    walk_at "rd"
    refine ⟨_, _, rfl, rfl, by decide +kernel, by have : (2000 : Nat) ≤ sizeLine := sz_of (by decide); omega, ?_⟩
    obtain ⟨bl, rs, ep, c1, c2⟩ : ∃ bl rs, (if r = [] then (k, Str.empty, Str.empty) else (k, Str.ofString " ", Txt.join (Str.ofString " ") r)) = (k, bl, rs) ∧ (r = [] → bl = Str.empty) ∧ (r ≠ [] → bl = Str.ofString " " ∧ rs = Txt.join (Str.ofString " ") r) := by
      by_cases z : r = []
      · rw [if_pos z]; exact ⟨_, _, rfl, fun _ => rfl, fun h => absurd z h⟩
      · rw [if_neg z]; exact ⟨_, _, rfl, fun h => absurd h z, fun _ => ⟨rfl, rfl⟩⟩
    rw [pt, ep]
    (intro p hp; generalize ep : upd _ p _ = J; have N := New.of ep hp; clear ep hp)
    refine i_gtup (SqT.tup N.at_) rfl ?_
    walk_at "rd"
    refine i_cut (fun σ H' => H' = J ∧ ¬ (k = Str.ofString "open" ∧ r ≠ []) ∧ σ = [some (.str s'), some (.str k), some (.str bl), some (.str rs), none, none, none, none, none]) ?_ ?_
    · walk_at "rd"
      refine ifs (fun h2 => ?_) (fun h2 => ?_)
      · have h2 : k = Str.ofString "open" := by simpa using h2
        walk_at "rd"
        by_cases z : r = []
        · refine ⟨false, ?_, ?_⟩
          · have e0 := c1 z
            subst e0
            exact ⟨Nat.le_trans (show (Str.empty).length ≤ 0 by decide +kernel) (Nat.zero_le _), (by decide +kernel : false = (((Str.empty).length : Int) != 0))⟩
          · walk_at "rd"
            exact ⟨rfl, fun y => y.2 z, rfl⟩
        · obtain ⟨c3, c4⟩ := c2 z
          refine ⟨true, ?_, ?_⟩
          · subst c3
            exact ⟨Nat.le_trans (show (Str.ofString " ").length ≤ 1 by decide +kernel) (sz_of (by decide)), (by decide +kernel : true = (((Str.ofString " ").length : Int) != 0))⟩
          · walk_at "rd"
            refine i_tReplC ?_
            refine i_var (v := .str rs) rfl ?_
            refine ⟨rs, rfl, ?_, ?_⟩
            · have e1 : (Str.ofString "\n").length = 1 := by decide +kernel
              have jt := join_tail k r
              have jj := (split1 (x := s') tl_bl (by decide +kernel)).2
              rw [hsp] at jj
              rw [jj, ← c4] at jt
              rw [e1]; omega
            walk_at "rd"
            (intro l2 hl2; generalize el2 : upd _ l2 _ = J2; have N2 := New.of el2 hl2; clear el2 hl2)
            walk_at "rd"
            (intro p2 hp2; generalize ep2 : upd _ p2 _ = J3; have N3 := New.of ep2 hp2; clear ep2 hp2)
            walk_at "rd"
            rw [if_pos ⟨h2, z⟩, ← c4] at ld
            exact q k _ p2 l2 J3 ld (N.same.trans (N2.same.trans N3.same)) (sfree (N.same.trans N2.same) N3.free) (sfree N.same N2.free) N3.at_ (N3.app N2.at_)
      · have h2 : ¬ k = Str.ofString "open" := by simpa using h2
        exact ⟨rfl, fun y => h2 y.1, rfl⟩
    · rintro σ H1 ⟨rfl, no1, rfl⟩
      rw [if_neg no1] at ld
      walk_at "rd"
      refine ⟨s', _, rfl, rfl, by decide +kernel, by have : (100000 : Nat) ≤ sizeLine := sz_of (by decide); omega, ?_⟩
      rw [hsp]
      show ∀ p, _
      (intro wl hwl; generalize ewl : upd _ wl _ = J2; have N2 := New.of ewl hwl; clear ewl hwl)
      walk_at "rd"
      refine i_kget ?_
      walk_at "rd"
      refine ⟨rfl, ?_⟩
      walk_at "rd"
      obtain ⟨rr, vv, hin, hrv, hcase⟩ := T.forms k
      refine ⟨k, rr, vv, rfl, hin, hrv, ?_⟩
      have no2 : ∀ {H' : Hp}, Same H1 H' → lineD s' = none → ∀ d, H' d = none → E (.ref T.a_NoLine) (some d) (upd H' d (.xd [(Str.ofString "found", .str s')])) := fun s e => i_noL (fun d H2 s2 k2 => no e d H2 ((N.same.trans s).trans s2) k2)
      rcases hcase with ⟨rfl, hf⟩ | ⟨fa, bs, rfl, hf, b3, hfs⟩
      · rw [hf] at ld
        walk_at "rd"
        refine ⟨rfl, ?_⟩
        walk_at "rd"
        refine ifs (fun _ => ?_) (fun h => absurd h (by decide))
        walk_at "rd"
        exact i_mkE T.ox_NoLine T.nf_NoLine_found (no2 N2.same ld)
      rw [hf] at ld
      have ld : lineD s' = if bs.length ≠ r.length then none else if V.non ∈ List.zipWith thV bs r then none else some (k, List.zipWith thV bs r) := ld
      have lw : ((k :: r).map V.str).length = r.length + 1 := by simp
      have lb : (bs.map fun b => V.str (fmS b)).length = bs.length := List.length_map ..
      walk_at "rd"
      refine ⟨rfl, ?_⟩
      walk_at "rd"
      refine ifs (fun h => by simp at h) (fun _ => ?_)
      walk_at "rd"
      refine i_lenT (hfs J2) ?_
      walk_at "rd"
      rw [lb, lw]
      refine ifs (fun h => ?_) (fun h => ?_)
      · have h : bs.length ≠ r.length := fun z => by rw [z] at h; simp at h
        rw [if_pos h] at ld
        walk_at "rd"
        exact i_mkE T.ox_NoLine T.nf_NoLine_found (no2 N2.same ld)
      have h : bs.length = r.length := by
        have : ((bs.length : Int)) = ((r.length + 1 : Nat) : Int) - 1 := by simpa using h
        omega
      rw [if_neg (by omega)] at ld
      walk_at "rd"
      refine i_zipM' ?_
      walk_at "rd"
      refine ⟨wl, _, rfl, SqL.lst N2.at_, ?_⟩
      (intro wl2 hwl2; generalize ewl2 : upd _ wl2 _ = J3; have N3 := New.of ewl2 hwl2; clear ewl2 hwl2)
      rw [show (1 : Int) = ((1 : Nat) : Int) from rfl, cutV_from _ (by rw [lw]; omega), ← List.map_drop] at N3
      have N3 : New J2 wl2 (.lst (r.map V.str)) J3 := N3
      walk_at "rd"
      have lr1 : (r.map V.str).length = r.length := List.length_map ..
      have hrl : ∀ x ∈ r, x.length ≤ s'.length := fun x hx => (split1 (x := s') tl_bl (by decide +kernel)).1.2.2 x (by rw [hsp]; exact List.mem_cons_of_mem _ hx)
      refine ⟨fa, wl2, _, _, rfl, hfs J3, SqL.lst N3.at_, fun D hD => ?_⟩
      refine lc_zipM (xs := bs.map fun b => V.str (fmS b)) (ys := r.map V.str) (by rw [lb, lr1, h]; exact Nat.le_refl _) (fun i H' => Same J3 H' ∧ H' D = some (.lst ((List.zipWith thV bs r).take i))) ⟨Same.new _ hD, by rw [upd_same]; simp⟩ (fun i H' p => ⟨hfs H', SqL.lst (p.1 _ _ N3.at_)⟩) ?_ ?_
      · rintro i x y Tt H' hx hy ⟨s4, kD⟩ hT
        rw [List.getElem?_map, Option.map_eq_some_iff] at hx hy
        obtain ⟨bb, hb, rfl⟩ := hx
        obtain ⟨ww, hw, rfl⟩ := hy
        generalize eT : upd H' Tt (HO.tup [V.str (fmS bb), V.str ww]) = H5
        have nT := New.of eT hT
        clear eT
        refine i_gtup (SqT.tup nT.at_) rfl ?_
        walk_at "rd"
        have wl' := hrl ww (List.mem_of_getElem? hw)
        have ii := (List.getElem?_eq_some_iff.mp hb).1
        have zi : (List.zipWith thV bs r)[i]? = some (thV bb ww) := by rw [List.getElem?_zipWith, hb, hw]
        have lz : ((List.zipWith thV bs r).take i).length ≤ 3 := by rw [List.length_take, List.length_zipWith]; omega
        refine ⟨bb, ww, rfl, by omega, _, nT.app kD, Nat.lt_of_le_of_lt lz (by rw [sizeLine_eq]; decide), fun c o hc => ?_, ?_⟩
        · rw [upd_ne (ne_of_none hc hD)]
          exact nT.app (s4 _ _ hc)
        · rw [upd_same, List.take_add_one, zi]; rfl
      · rintro H' ⟨s4, kD⟩
        have lzz : (List.zipWith thV bs r).length = bs.length := by rw [List.length_zipWith]; omega
        rw [lb, ← lzz, List.take_length] at kD
        walk_at "rd"
        refine ⟨D, _, rfl, .inl (SqL.lst kD), rfl, th_flat bs r, ?_⟩
        rw [if_neg (by decide), non_inT]
        walk_at "rd"
        refine ifs (fun h5 => ?_) (fun h5 => ?_)
        · have h5 : V.non ∈ List.zipWith thV bs r := of_decide_eq_true h5
          rw [if_pos h5] at ld
          walk_at "rd"
          exact i_mkE T.ox_NoLine T.nf_NoLine_found (no2 (N2.same.trans (N3.same.trans s4)) ld)
        · have h5 : ¬ V.non ∈ List.zipWith thV bs r := of_decide_eq_false h5
          rw [if_neg h5] at ld
          walk_at "rd"
          (intro p4 hp4; generalize ep4 : upd _ p4 _ = J5; have N5 := New.of ep4 hp4; clear ep4 hp4)
          walk_at "rd"
          have s05 := N.same.trans (N2.same.trans (N3.same.trans s4))
          exact q k _ p4 D J5 ld (s05.trans N5.same) (sfree s05 N5.free) (sfree (N.same.trans (N2.same.trans N3.same)) hD) N5.at_ (N5.app kD)
end

end Ice

set_option Elab.async false
set_option linter.all false
set_option maxRecDepth 100000
set_option maxHeartbeats 4000000
set_option autoImplicit true
namespace Ice
open PySem PySem.Spec PyProof.Rows L2 TL
/-! side conditions, heaps, one step of a reading, and many -/
local macro_rules | `(tactic| walk_at "hp") => `(tactic| first | assumption | exact upd_same | exact New.at_ (by assumption) | (refine keepU ?_ (by assumption); walk_at "hp") | (refine New.app (by assumption) ?_; walk_at "hp") | (refine Same.app (by assumption) ?_; walk_at "hp") | (refine But.app (by assumption) (by assumption) ?_; walk_at "hp"))
local macro_rules | `(tactic| walk_at "sq") => `(tactic| first | assumption | exact SqL.lst (by walk_at "hp") | exact L2.Same.seq (New.same (by assumption)) (by assumption) | exact L2.Same.seq (by assumption) (by assumption))
local macro_rules | `(tactic| walk_at "len") => `(tactic| first | assumption | (simp only [List.length_cons, List.length_nil, List.length_append, List.length_map]; decide) | (refine Ice.sz_of ?_; simp only [List.length_cons, List.length_nil, List.length_append, List.length_map]; omega))
local macro_rules | `(tactic| walk_at "fresh") => `(tactic| (simp only [List.map_append, List.map_cons, List.map_nil, List.nil_append, List.cons_append]; decide +kernel))
local macro_rules | `(tactic| walk_at "sd") => `(tactic| first | assumption | (show _ ≠ _; omega) | exact Or.inl ⟨by omega, by omega⟩ | exact Or.inr ⟨by omega, by omega⟩ | exact ⟨by decide, by decide⟩ | exact ⟨by decide, by decide, by decide⟩ | exact ⟨by omega, by omega, by omega⟩)
/-! one step of a reading, and many -/
local macro_rules | `(tactic| walk_at "st") => `(tactic| first
  | with_reducible refine i_seq ?_
  | with_reducible refine i_if ?_
  | with_reducible refine i_next ?_
  | with_reducible refine i_ret ?_
  | with_reducible refine i_retN ?_
  | with_reducible refine i_drop ?_
  | with_reducible refine i_asg ?_
  | with_reducible refine i_gname ?_
  | with_reducible refine i_gsub ?_
  | ((with_reducible refine i_var (v := ?vv) ?hv ?_); (case hv => exact rfl))
  | with_reducible refine i_c ?_
  | with_reducible refine i_op ?_
  | with_reducible refine i_un ?_
  | with_reducible refine i_test ?_
  | with_reducible refine i_tB ?_
  | with_reducible refine i_and ?_
  | with_reducible refine i_or ?_
  | with_reducible refine i_not ?_
  | with_reducible refine i_andV ?_
  | with_reducible refine i_orV ?_
  | with_reducible refine i_notV ?_
  | with_reducible refine i_ifE ?_
  | with_reducible refine i_chain ?_
  | with_reducible refine i_bl ?_
  | with_reducible refine i_nil ?_
  | with_reducible refine i_cons ?_
  | with_reducible refine i_call ?_
  | with_reducible refine i_cb ?_
  | with_reducible refine i_rI0 ?_
  | with_reducible refine i_rU ?_
  | ((with_reducible refine i_rEq ?hs ?_); (case hs => exact rfl))
  | ((with_reducible refine i_rNe ?hs ?_); (case hs => exact rfl))
  | ((with_reducible refine i_rI ?hc ?_); (case hc => walk_at "sd"))
  | ((with_reducible refine i_ixL (xs := ?xs) (v := ?vv) ?hS ?he ?_); (case hS => walk_at "sq"); (case he => exact rfl))
  | ((with_reducible refine i_setL (xs := ?xs) (j := ?jj) ?hS ?he ?_); (case hS => walk_at "hp"); (case he => exact rfl))
  | with_reducible refine i_tup ?_
  | with_reducible refine i_lst ?_
  | with_reducible refine i_bm ?_
  | with_reducible refine i_bm0 ?_
  | with_reducible refine i_m1 ?_
  | with_reducible refine i_sl ?_
  | with_reducible refine i_nopart ?_
  | with_reducible refine i_part ?_
  | with_reducible refine i_int ?_
  | with_reducible refine i_str ?_
  | with_reducible refine i_for ?_
  | with_reducible refine i_yes ?_
  | ((with_reducible refine i_lenL (xs := ?xs) ?hS ?_); (case hS => walk_at "sq"))
  | ((with_reducible refine i_room ?hz ?_); (case hz => walk_at "len"))
  | with_reducible refine i_leT ?_
  | with_reducible refine i_notInS ?_
  | with_reducible refine i_inS ?_
  | with_reducible refine i_find ?_
  | with_reducible refine i_isB ?_
  | with_reducible refine i_max2 ?_
  | with_reducible refine i_min2 ?_
  | with_reducible exact trivial
  | with_reducible refine iteT ?_
  | with_reducible refine iteF ?_
  | with_reducible refine i_isstr ?_
  | with_reducible refine i_lc ?_
  | ((with_reducible refine i_cat (xs := ?xs) (zs := ?zs) ?ha ?hb ?hz ?_); (case ha => walk_at "hp"); (case hb => walk_at "hp"); (case hz => walk_at "len"))
  | ((with_reducible refine i_tyL (xs := ?xs) ?ha ?_); (case ha => walk_at "hp"))
  | with_reducible refine i_list ?_
  | with_reducible refine i_disp ?_
  | with_reducible refine i_pairs0 ?_
  | with_reducible refine i_pairs ?_
  | with_reducible refine i_newK ?_
  | with_reducible refine i_gcons ?_
  | with_reducible refine i_gnil ?_
  | with_reducible refine i_revL ?_
  | with_reducible refine i_rng1 ?_
  | ((with_reducible refine i_wipe ?hw ?_); (case hw => exact rfl))
  | with_reducible refine iteNT ?_
  | with_reducible refine iteNF ?_)
local macro_rules | `(tactic| walk_at "sx") => `(tactic| first
  | walk_at "st"
  | with_reducible refine i_kinit ?_
  | with_reducible refine i_ost ?_
  | with_reducible refine i_mkO ?_
  | with_reducible refine i_callE ?_
  | with_reducible refine i_makeE ?_
  | with_reducible refine i_xf ?_
  | with_reducible refine i_sfld ?_
  | with_reducible refine i_fld ?_
  | ((with_reducible refine i_ixT (xs := ?xs) (v := ?vv) ?hS ?he ?_); (case hS => exact SqT.tup (by walk_at "hp")); (case he => exact rfl))
  | with_reducible refine i_intB ?_
  | with_reducible refine i_runS ?_
  | with_reducible refine i_runN ?_
  | ((with_reducible refine i_xf1 (fs := ?ff) (v := ?vv) ?hx ?hl ?_); (case hx => walk_at "hp"); (case hl => exact rfl))
  | with_reducible refine i_methE ?_
  | with_reducible refine i_meth ?_
  | with_reducible refine i_make ?_
  | ((with_reducible refine i_obj (dx := ?dd) (fs := ?ff) ?hx ?hl ?_); (case hx => walk_at "hp"); (case hl => exact rfl))
  | ((with_reducible refine i_fld1 (C := ?CC) (dx := ?dd) (fs := ?ff) (v := ?vv) ?hx ?cl ?na ?hl ?_); (case hx => walk_at "hp"); (case cl => assumption); (case na => assumption); (case hl => exact rfl)))
local macro_rules | `(tactic| walk_at "sy") => `(tactic| first
  | walk_at "sx"
  | with_reducible refine i_dget ?_
  | with_reducible refine i_dget2 ?_
  | with_reducible refine i_dput ?_
  | with_reducible refine i_din ?_
  | ((with_reducible refine i_aug (x := ?vv) ?hx ?_); (case hx => exact rfl)))
local macro_rules | `(tactic| walk_at "rd") => `(tactic| repeat (walk_at "sy"))

section
variable {P : Program} {w : World} {K : PySem.W.Frag} {mg : Str → Option Value} {base : Heap}
def spReadLNo (T : Top w K mg) : Sp := fun vs H Q E => ∃ v, vs = [v] ∧ ((∃ t, TyX K H v t ∧ PySem.W.kitOne K t (.type "str") = some false) ∨ ∃ (a d : Addr) (fs : List (Str × V)), v = .ref a ∧ H a = some (exo a T.a_NoLine (some d)) ∧ H d = some (exd d fs)) ∧ NoL T E H v
theorem ok_readLNo (T : Top w K mg) : FnG P w K mg base (L2.CX P w) 4 T.a_read_line T.d_read_line ["line"] (spReadLNo T) := by
  have G_thing_of := ok_thing_of (P := P) (w := w) (base := base) T
  have G_NoLine___init__ := ok_NoLine___init__ (P := P) (w := w) (base := base) T
  have G_NoLine___init__ := ok_NoLine___init__ (P := P) (w := w) (base := base) T
  have G_NoLine___init__ := ok_NoLine___init__ (P := P) (w := w) (base := base) T
  refine okGTX T.F_read_line sc_read_line (by decide +kernel) (by decide) (fun vs H Q E h => ?_) (fun cdv A outer s H vs Q E hr hgd h => ?_)
  · obtain ⟨v, rfl, _⟩ := h
    rfl
  · obtain ⟨v, rfl, nt, no⟩ := h
    have hu : _ := un1 hr
    have hu64 := un64 hr
    refine ⟨_, (psst_cons (PST.of (ps_if (PW.pt (pw_or (pt_not (pt_val (pe_callB (c_isiO T.xi_NoLine) (by rfl) T.n_isinstance (by decide +kernel) (pa_cons (pv 0) (pa_cons (pe_bltn (v := .ty "str") (by rfl) T.n_str (by decide +kernel) rfl) pa_nil))))) (pw_or1 (pt_cmpR op_inS pe_str (pv 0) (by rfl)))))
        (pss_one (ps_raise rfl (takes_of rfl rfl rfl rfl) (pmk_oex T.ox_NoLine T.in_NoLine T.tf_NoLine G_NoLine___init__ (hr.mono (by decide)) T.b_NoLine___init__ .nil pass0 (by rfl) T.c_NoLine (pa_cons (pv 0) pa_nil))))
        pss_nil))
      (psst_cons (PST.of (ps_asg (pe_partition (pv 0) pe_str) (pg_tup rfl (pgs_cons (pg_name (i := 1) sc_read_line.nd rfl (by first | exact Or.inl rfl | exact Or.inr rfl)) (pgs_cons (pg_name (i := 2) sc_read_line.nd rfl (by first | exact Or.inl rfl | exact Or.inr rfl)) (pgs_cons (pg_name (i := 3) sc_read_line.nd rfl (by first | exact Or.inl rfl | exact Or.inr rfl)) pgs_nil))))))
      (psst_cut (CwR.pst_if (PW.pt (pw_and (pt_cmpR op_eq (pv 1) pe_str (nomark _)) (pw_and1 (pt_truth (pv 2) (by intro _; rfl))))) (CwR.psst_one (CwR.pst_ret (pet_tup (pat_cons (CwR.PET.of (pv 1)) (pat_cons (pet_lst (pat_cons (CwR.pet_replC (pv 3)) pat_nil)) pat_nil))))) (PSsT.of pss_nil))
      (psst_cons (PST.of (ps_set (i := 4) sc_read_line.nd rfl (by first | exact Or.inl rfl | exact Or.inr rfl) (pe_split (pv 0) pe_str)))
      (psst_cons (PST.of (ps_set (i := 5) sc_read_line.nd rfl (by first | exact Or.inl rfl | exact Or.inr rfl) (pe_kget T.kd_LINE_FORMS (pe_glob (v := .ref T.a_LINE_FORMS) (by rfl) T.c_LINE_FORMS rfl) (pv 1) ⟨rfl, rfl, rfl, rfl⟩)))
      (psst_cons (PST.of (ps_if (PW.pt (pw_or (pt_cmpR op_isN1 (pv 5) pe_non (nomark _)) (pw_or1 (pt_cmpR op_ne (pe_callB c_len (by rfl) T.n_len (by decide +kernel) (pa_cons (pv 5) pa_nil)) (pe_op op_sub (pe_callB c_len (by rfl) T.n_len (by decide +kernel) (pa_cons (pv 4) pa_nil)) pe_int) (nomark _)))))
        (pss_one (ps_raise rfl (takes_of rfl rfl rfl rfl) (pmk_oex T.ox_NoLine T.in_NoLine T.tf_NoLine G_NoLine___init__ (hr.mono (by decide)) T.b_NoLine___init__ .nil pass0 (by rfl) T.c_NoLine (pa_cons (pv 0) pa_nil))))
        pss_nil))
      (psst_cons (PST.of (ps_setLc (i := 6) (own := [("form", 7), ("word", 8)]) rfl sc_read_line.nd rfl rfl (sw_true rfl rfl rfl (by decide +kernel)) (pi_zipM (by rfl) T.n_zip (pa_cons (pv 5) (pa_cons (pe_slice sl_list (pv 4) (po_some pe_int) po_none) pa_nil))) (blkOk_by (own := [("form", 7), ("word", 8)]) (N := ["line", "kind", "blank", "rest", "words", "forms", "things", "form", "word"]) (sc := defScope s_read_line) (by decide +kernel)) (fun _ _ _ _ _ => (show PG _ _ (gTup K 2 _) from (pg_tup rfl (pgs_cons (pg_name (i := 7) sc_read_line.nd rfl (by first | exact Or.inl rfl | exact Or.inr rfl)) (pgs_cons (pg_name (i := 8) sc_read_line.nd rfl (by first | exact Or.inl rfl | exact Or.inr rfl)) pgs_nil))))) (fun _ _ _ _ _ => pts_nil) (fun _ _ _ _ _ => (g_call G_thing_of (hr.mono (by decide)) hgd (by rfl) T.m_thing_of T.F_thing_of.kp T.b_thing_of .nil pass0 (pa_cons (pv 7) (pa_cons (pv 8) pa_nil))))))
      (psst_cons (PST.of (ps_if (pt_cmpR op_in_seq pe_non (pv 6) (by rfl))
        (pss_one (ps_raise rfl (takes_of rfl rfl rfl rfl) (pmk_oex T.ox_NoLine T.in_NoLine T.tf_NoLine G_NoLine___init__ (hr.mono (by decide)) T.b_NoLine___init__ .nil pass0 (by rfl) T.c_NoLine (pa_cons (pv 0) pa_nil))))
        pss_nil))
      (CwR.psst_one (PST.of (ps_ret (pe_tup (pa_cons (pv 1) (pa_cons (pv 6) pa_nil)))))))))))))), ?_⟩
    walk_at "rd"
    have isi : ∀ {Q : VK}, Q (.bl false) H → rIsiO K T.a_NoLine [v, .ty "str"] H Q := fun {Q} q => by
      rcases nt with ⟨t, a, b⟩ | ⟨a, d, fs, rfl, h1, h2⟩
      · exact .inl (i_isiC a b q)
      · exact .inr ⟨a, d, fs, .ty "str", .type "str", false, rfl, .ty "str", h1, h2, T.io_NoLine_str, q⟩
    refine isi ?_
    walk_at "rd"
    exact i_mkE T.ox_NoLine T.nf_NoLine_found (i_noL no)
/-- the law's forms: as one text, R of open -/
def fmT (z : Str) : Option Str := if z = Str.ofString "open" then some (Str.ofString "R") else (fm z).map fun bs => ⟨(bs.map fun b => if b = true then 110 else 119).toArray⟩
def kp (s t : String) : Key × V := (Sum.inr (Str.ofString s), .str (Str.ofString t))
def kv0 : List (Key × V) := [kp "open" "R", kp "go" "wnw", kp "back" "w", kp "late" "wnn", kp "ice" "wn", kp "where" "wn", kp "last" "wn"]
def ws1 : List Str := [Str.ofString "undo", Str.ofString "redo", Str.ofString "show", Str.ofString "table", Str.ofString "whole", Str.ofString "led", Str.ofString "price", Str.ofString "standing", Str.ofString "stuck"]
def ws2 : List Str := [Str.ofString "way", Str.ofString "free", Str.ofString "out", Str.ofString "barred"]
def putAll (l : List (Key × V)) (v : V) (ws : List Str) : List (Key × V) := ws.foldl (fun l x => putK l (Sum.inr x) v) l
theorem put_len (l : List (Key × V)) (k : Key) (v : V) : (putK l k v).length ≤ l.length + 1 := by
  unfold putK; split
  · rw [List.length_map]; omega
  · rw [List.length_append]; exact Nat.le_refl _
theorem putAll_len (v : V) : ∀ (ws : List Str) (l : List (Key × V)), (putAll l v ws).length ≤ l.length + ws.length
  | [], l => Nat.le_refl _
  | x :: r, l => by
    have a := putAll_len v r (putK l (Sum.inr x) v)
    have b := put_len l (Sum.inr x) v
    show (putAll (putK l (Sum.inr x) v) v r).length ≤ _
    rw [List.length_cons]; omega
theorem putAll_take {l : List (Key × V)} {v : V} {ws : List Str} {i : Nat} {x : Str} (h : ws[i]? = some x) : putAll l v (ws.take (i + 1)) = putK (putAll l v (ws.take i)) (Sum.inr x) v := by
  unfold putAll
  rw [List.take_add_one, h, List.foldl_append]; rfl
def kvF : List (Key × V) := putK (putAll (putAll (mergeK [] kv0) (.str (Str.ofString "")) ws1) (.str (Str.ofString "w")) ws2) (Sum.inr (Str.ofString "best")) (.str (Str.ofString "n"))
def keysL : List Str := Str.ofString "open" :: fmL.map (·.1)
def dueF (z : Str) : V := match fmT z with
  | none => .non
  | some t => .str t
theorem kvF_mem : ∀ z ∈ keysL, (valV kvF (Sum.inr z)).getD .non = dueF z := by decide +kernel
theorem kvF_keys : (kvF.all fun kv => match kv.1 with
  | .inr y => decide (y ∈ keysL)
  | _ => false) = true := by decide +kernel
theorem kvF_val (z : Str) : (valV kvF (Sum.inr z)).getD .non = dueF z := by
  by_cases h : z ∈ keysL
  · exact kvF_mem z h
  have e1 : valV kvF (Sum.inr z) = none := by
    unfold valV
    rw [List.find?_eq_none.mpr ?_]; rfl
    intro kv hk hz
    have hz : kv.1 = Sum.inr z := of_decide_eq_true hz
    have a := List.all_eq_true.mp kvF_keys kv hk
    rw [hz] at a
    exact h (of_decide_eq_true a)
  have e2 : fmT z = none := by
    unfold fmT fm
    rw [if_neg (fun e => h (by rw [e]; exact List.mem_cons_self ..)), List.find?_eq_none.mpr ?_]; rfl
    intro p hp hz
    have hz : p.1 = z := by simpa using hz
    exact h (List.mem_cons_of_mem _ (List.mem_map.mpr ⟨p, hp, hz⟩))
  rw [e1]
  unfold dueF
  rw [e2]; rfl
def spForm : Sp := fun vs H Q _ => ∃ z : Str, vs = [.str z] ∧ ∀ H', Same H H' → Q (dueF z) H'
theorem ok_form (T : Top w K mg) : FnG P w K mg base CX0 1 T.a_form T.d_form ["_law_word"] spForm := by
  refine okG T.F_form sc_form (fun vs H Q E h => ?_) (fun cdv A outer s H vs Q E hr hgd h => ?_)
  · obtain ⟨z, rfl, _⟩ := h
    rfl
  · obtain ⟨z, rfl, q⟩ := h
    have hu : _ := un1 hr
    have zz : (100 : Nat) < sizeLine := by rw [sizeLine_eq]; decide
    refine ⟨_, (pss_cons (ps_set (i := 1) sc_form.nd rfl (by first | exact Or.inl rfl | exact Or.inr rfl) (pe_disp (pps_cons pe_str pe_str (pps_cons pe_str pe_str (pps_cons pe_str pe_str (pps_cons pe_str pe_str (pps_cons pe_str pe_str (pps_cons pe_str pe_str (pps_cons pe_str pe_str pps_nil))))))) (by rfl) (by rfl) (fun z => by cases z) (by decide)))
      (pss_cons (ps_for PassesOwn.never rfl (pi_list (pe_lst (pa_cons pe_str (pa_cons pe_str (pa_cons pe_str (pa_cons pe_str (pa_cons pe_str (pa_cons pe_str (pa_cons pe_str (pa_cons pe_str (pa_cons pe_str pa_nil))))))))))) (pg_name (i := 2) sc_form.nd rfl (by first | exact Or.inl rfl | exact Or.inr rfl))
        (pss_one (ps_dput hu (pv 1) (pv 2) pe_str rfl)))
      (pss_cons (ps_for PassesOwn.never rfl (pi_list (pe_lst (pa_cons pe_str (pa_cons pe_str (pa_cons pe_str (pa_cons pe_str pa_nil)))))) (pg_name (i := 2) sc_form.nd rfl (by first | exact Or.inl rfl | exact Or.inr rfl))
        (pss_one (ps_dput hu (pv 1) (pv 2) pe_str rfl)))
      (pss_cons (ps_dput hu (pv 1) pe_str pe_str rfl)
      (pss_one (ps_ret (pe_dget1 hu (pv 1) (pv 0) ⟨rfl, rfl, rfl, rfl⟩))))))), ?_⟩
    walk_at "rd"
    (intro d hd; generalize ed : upd _ d _ = J; have N := New.of ed hd; clear ed hd)
    walk_at "rd"
    refine ⟨N.at_, kv0, rfl, by decide, ?_⟩
    have hd : H d = none := N.free
    generalize eJ : upd J d (HO.dK (mergeK [] kv0)) = J1
    have s1 : Same H J1 := fun a o h => by rw [← eJ, upd_ne (ne_of_none h hd)]; exact N.app h
    have k1 : J1 d = some (.dK (mergeK [] kv0)) := by rw [← eJ, upd_same]
    clear eJ
    walk_at "rd"
    (intro l1 hl1; generalize el1 : upd _ l1 _ = J2; have N2 := New.of el1 hl1; clear el1 hl1)
    walk_at "rd"
    refine ⟨l1, rfl, ⟨_, SqL.lst N2.at_⟩, ?_⟩
    have dl : d ≠ l1 := by rintro rfl; rw [N2.free] at k1; cases k1
    refine for_list (K := K) (a := l1) (xs := ws1.map V.str) (fun i σ H' => Same H H' ∧ H' l1 = some (.lst (ws1.map V.str)) ∧ H' d = some (.dK (putAll (mergeK [] kv0) (.str (Str.ofString "")) (ws1.take i))) ∧ ∃ z2, σ = [some (.str z), some (.ref d), z2])
      ⟨s1.trans N2.same, N2.at_, N2.app k1, _, rfl⟩ (fun i σ H' _ h => SqL.lst h.2.1) ?_ ?_
    · rintro i x σ H3 hx ⟨s3, k3, kd3, z2, rfl⟩
      rw [List.getElem?_map, Option.map_eq_some_iff] at hx
      obtain ⟨x, hx, rfl⟩ := hx
      have ll := putAll_len (.str (Str.ofString "")) (ws1.take i) (mergeK [] kv0)
      have l9 : (ws1.take i).length ≤ 9 := by rw [List.length_take]; exact Nat.le_trans (Nat.min_le_right _ _) (by decide)
      have l7 : (mergeK [] kv0).length ≤ 7 := by decide +kernel
      walk_at "rd"
      refine ⟨d, _, rfl, DPut.k (k := Sum.inr x) kd3 (by omega), ?_⟩
      refine ⟨fun a o h => ?_, ?_, ?_, _, rfl⟩
      · rw [upd_ne (ne_of_none h hd)]; exact s3 a o h
      · rw [upd_ne dl.symm]; exact k3
      · rw [upd_same, putAll_take hx]
    · rintro σ H3 ⟨s3, k3, kd3, z2, rfl⟩
      rw [List.length_map, List.take_length] at kd3
      walk_at "rd"
      (intro l2 hl2; generalize el2 : upd _ l2 _ = J4; have N4 := New.of el2 hl2; clear el2 hl2)
      walk_at "rd"
      refine ⟨l2, rfl, ⟨_, SqL.lst N4.at_⟩, ?_⟩
      have dl2 : d ≠ l2 := by rintro rfl; rw [N4.free] at kd3; cases kd3
      refine for_list (K := K) (a := l2) (xs := ws2.map V.str) (fun i σ H' => Same H H' ∧ H' l2 = some (.lst (ws2.map V.str)) ∧ H' d = some (.dK (putAll (putAll (mergeK [] kv0) (.str (Str.ofString "")) ws1) (.str (Str.ofString "w")) (ws2.take i))) ∧ ∃ z2, σ = [some (.str z), some (.ref d), z2])
        ⟨s3.trans N4.same, N4.at_, N4.app kd3, _, rfl⟩ (fun i σ H' _ h => SqL.lst h.2.1) ?_ ?_
      · rintro i x σ H5 hx ⟨s5, k5, kd5, z2', rfl⟩
        rw [List.getElem?_map, Option.map_eq_some_iff] at hx
        obtain ⟨x, hx, rfl⟩ := hx
        have ll := putAll_len (.str (Str.ofString "w")) (ws2.take i) (putAll (mergeK [] kv0) (.str (Str.ofString "")) ws1)
        have l9 : (ws2.take i).length ≤ 4 := by rw [List.length_take]; exact Nat.le_trans (Nat.min_le_right _ _) (by decide)
        have l7 : (putAll (mergeK [] kv0) (.str (Str.ofString "")) ws1).length ≤ 16 := by decide +kernel
        walk_at "rd"
        refine ⟨d, _, rfl, DPut.k (k := Sum.inr x) kd5 (by omega), ?_⟩
        refine ⟨fun a o h => ?_, ?_, ?_, _, rfl⟩
        · rw [upd_ne (ne_of_none h hd)]; exact s5 a o h
        · rw [upd_ne dl2.symm]; exact k5
        · rw [upd_same, putAll_take hx]
      · rintro σ H5 ⟨s5, k5, kd5, z2', rfl⟩
        rw [List.length_map, List.take_length] at kd5
        have l20 : (putAll (putAll (mergeK [] kv0) (.str (Str.ofString "")) ws1) (.str (Str.ofString "w")) ws2).length ≤ 20 := by decide +kernel
        walk_at "rd"
        refine ⟨d, _, rfl, DPut.k (k := Sum.inr (Str.ofString "best")) kd5 (by omega), ?_⟩
        walk_at "rd"
        refine i_dget1 ?_
        walk_at "rd"
        refine ⟨d, rfl, isD upd_same, ?_⟩
        walk_at "rd"
        refine ⟨_, DGet.k (k := Sum.inr z) upd_same, ?_⟩
        rw [show valV (putK (putAll (putAll (mergeK [] kv0) (.str (Str.ofString "")) ws1) (.str (Str.ofString "w")) ws2) (Sum.inr (Str.ofString "best")) (V.str (Str.ofString "n"))) (Sum.inr z) = valV kvF (Sum.inr z) from rfl, kvF_val]
        exact q _ (fun a o h => by rw [upd_ne (ne_of_none h hd)]; exact s5 a o h)
end

end Ice

set_option Elab.async false
set_option linter.all false
set_option maxRecDepth 100000
set_option maxHeartbeats 4000000
set_option autoImplicit true
namespace Ice
open PySem PySem.Spec PyProof.Rows L2 TL
/-! side conditions, heaps, one step of a reading, and many -/
local macro_rules | `(tactic| walk_at "hp") => `(tactic| first | assumption | exact upd_same | exact New.at_ (by assumption) | (refine keepU ?_ (by assumption); walk_at "hp") | (refine New.app (by assumption) ?_; walk_at "hp") | (refine Same.app (by assumption) ?_; walk_at "hp") | (refine But.app (by assumption) (by assumption) ?_; walk_at "hp"))
local macro_rules | `(tactic| walk_at "sq") => `(tactic| first | assumption | exact SqL.lst (by walk_at "hp") | exact L2.Same.seq (New.same (by assumption)) (by assumption) | exact L2.Same.seq (by assumption) (by assumption))
local macro_rules | `(tactic| walk_at "len") => `(tactic| first | assumption | (simp only [List.length_cons, List.length_nil, List.length_append, List.length_map]; decide) | (refine Ice.sz_of ?_; simp only [List.length_cons, List.length_nil, List.length_append, List.length_map]; omega))
local macro_rules | `(tactic| walk_at "fresh") => `(tactic| (simp only [List.map_append, List.map_cons, List.map_nil, List.nil_append, List.cons_append]; decide +kernel))
local macro_rules | `(tactic| walk_at "sd") => `(tactic| first | assumption | (show _ ≠ _; omega) | exact Or.inl ⟨by omega, by omega⟩ | exact Or.inr ⟨by omega, by omega⟩ | exact ⟨by decide, by decide⟩ | exact ⟨by decide, by decide, by decide⟩ | exact ⟨by omega, by omega, by omega⟩)
/-! one step of a reading, and many -/
local macro_rules | `(tactic| walk_at "st") => `(tactic| first
  | with_reducible refine i_seq ?_
  | with_reducible refine i_if ?_
  | with_reducible refine i_next ?_
  | with_reducible refine i_ret ?_
  | with_reducible refine i_retN ?_
  | with_reducible refine i_drop ?_
  | with_reducible refine i_asg ?_
  | with_reducible refine i_gname ?_
  | with_reducible refine i_gsub ?_
  | ((with_reducible refine i_var (v := ?vv) ?hv ?_); (case hv => exact rfl))
  | with_reducible refine i_c ?_
  | with_reducible refine i_op ?_
  | with_reducible refine i_un ?_
  | with_reducible refine i_test ?_
  | with_reducible refine i_tB ?_
  | with_reducible refine i_and ?_
  | with_reducible refine i_or ?_
  | with_reducible refine i_not ?_
  | with_reducible refine i_andV ?_
  | with_reducible refine i_orV ?_
  | with_reducible refine i_notV ?_
  | with_reducible refine i_ifE ?_
  | with_reducible refine i_chain ?_
  | with_reducible refine i_bl ?_
  | with_reducible refine i_nil ?_
  | with_reducible refine i_cons ?_
  | with_reducible refine i_call ?_
  | with_reducible refine i_cb ?_
  | with_reducible refine i_rI0 ?_
  | with_reducible refine i_rU ?_
  | ((with_reducible refine i_rEq ?hs ?_); (case hs => exact rfl))
  | ((with_reducible refine i_rNe ?hs ?_); (case hs => exact rfl))
  | ((with_reducible refine i_rI ?hc ?_); (case hc => walk_at "sd"))
  | ((with_reducible refine i_ixL (xs := ?xs) (v := ?vv) ?hS ?he ?_); (case hS => walk_at "sq"); (case he => exact rfl))
  | ((with_reducible refine i_setL (xs := ?xs) (j := ?jj) ?hS ?he ?_); (case hS => walk_at "hp"); (case he => exact rfl))
  | with_reducible refine i_tup ?_
  | with_reducible refine i_lst ?_
  | with_reducible refine i_bm ?_
  | with_reducible refine i_bm0 ?_
  | with_reducible refine i_m1 ?_
  | with_reducible refine i_sl ?_
  | with_reducible refine i_nopart ?_
  | with_reducible refine i_part ?_
  | with_reducible refine i_int ?_
  | with_reducible refine i_str ?_
  | with_reducible refine i_for ?_
  | with_reducible refine i_yes ?_
  | ((with_reducible refine i_lenL (xs := ?xs) ?hS ?_); (case hS => walk_at "sq"))
  | ((with_reducible refine i_room ?hz ?_); (case hz => walk_at "len"))
  | with_reducible refine i_leT ?_
  | with_reducible refine i_notInS ?_
  | with_reducible refine i_inS ?_
  | with_reducible refine i_find ?_
  | with_reducible refine i_isB ?_
  | with_reducible refine i_max2 ?_
  | with_reducible refine i_min2 ?_
  | with_reducible exact trivial
  | with_reducible refine iteT ?_
  | with_reducible refine iteF ?_
  | with_reducible refine i_isstr ?_
  | with_reducible refine i_lc ?_
  | ((with_reducible refine i_cat (xs := ?xs) (zs := ?zs) ?ha ?hb ?hz ?_); (case ha => walk_at "hp"); (case hb => walk_at "hp"); (case hz => walk_at "len"))
  | ((with_reducible refine i_tyL (xs := ?xs) ?ha ?_); (case ha => walk_at "hp"))
  | with_reducible refine i_list ?_
  | with_reducible refine i_disp ?_
  | with_reducible refine i_pairs0 ?_
  | with_reducible refine i_pairs ?_
  | with_reducible refine i_newK ?_
  | with_reducible refine i_gcons ?_
  | with_reducible refine i_gnil ?_
  | with_reducible refine i_revL ?_
  | with_reducible refine i_rng1 ?_
  | ((with_reducible refine i_wipe ?hw ?_); (case hw => exact rfl))
  | with_reducible refine iteNT ?_
  | with_reducible refine iteNF ?_)
local macro_rules | `(tactic| walk_at "sx") => `(tactic| first
  | walk_at "st"
  | with_reducible refine i_kinit ?_
  | with_reducible refine i_ost ?_
  | with_reducible refine i_mkO ?_
  | with_reducible refine i_callE ?_
  | with_reducible refine i_makeE ?_
  | with_reducible refine i_xf ?_
  | with_reducible refine i_sfld ?_
  | with_reducible refine i_fld ?_
  | ((with_reducible refine i_ixT (xs := ?xs) (v := ?vv) ?hS ?he ?_); (case hS => exact SqT.tup (by walk_at "hp")); (case he => exact rfl))
  | with_reducible refine i_intB ?_
  | with_reducible refine i_runS ?_
  | with_reducible refine i_runN ?_
  | ((with_reducible refine i_xf1 (fs := ?ff) (v := ?vv) ?hx ?hl ?_); (case hx => walk_at "hp"); (case hl => exact rfl))
  | with_reducible refine i_methE ?_
  | with_reducible refine i_meth ?_
  | with_reducible refine i_make ?_
  | ((with_reducible refine i_obj (dx := ?dd) (fs := ?ff) ?hx ?hl ?_); (case hx => walk_at "hp"); (case hl => exact rfl))
  | ((with_reducible refine i_fld1 (C := ?CC) (dx := ?dd) (fs := ?ff) (v := ?vv) ?hx ?cl ?na ?hl ?_); (case hx => walk_at "hp"); (case cl => assumption); (case na => assumption); (case hl => exact rfl)))
local macro_rules | `(tactic| walk_at "sy") => `(tactic| first
  | walk_at "sx"
  | with_reducible refine i_dget ?_
  | with_reducible refine i_dget2 ?_
  | with_reducible refine i_dput ?_
  | with_reducible refine i_din ?_
  | ((with_reducible refine i_aug (x := ?vv) ?hx ?_); (case hx => exact rfl)))
local macro_rules | `(tactic| walk_at "rd") => `(tactic| repeat (walk_at "sy"))

section
variable {P : Program} {w : World} {K : PySem.W.Frag} {mg : Str → Option Value} {base : Heap}
theorem figures_mem (c : Nat) : (c ∈ (Str.ofString "0123456789").cps.toList) ↔ 48 ≤ c ∧ c ≤ 57 := by
  rw [show (Str.ofString "0123456789").cps.toList = List.range' 48 10 by decide +kernel, List.mem_range'_1]
  omega
theorem numV_digits {s : Str} (h1 : ¬ (s.length = 0 ∨ 12 < s.length)) : (∀ c ∈ tl s, 48 ≤ c ∧ c ≤ 57) ∨ numV s = .non := by
  by_cases h : ∀ c ∈ tl s, 48 ≤ c ∧ c ≤ 57
  · exact .inl h
  · refine .inr ?_
    unfold numV; rw [if_neg h1]
    by_cases y : 1 < s.length ∧ (tl s)[0]? = some 48
    · rw [if_pos y]
    · rw [if_neg y, if_neg h]
def numB (s : Str) : Bool := decide (numV s ≠ .non)
theorem numB_no {s : Str} (h : numV s = .non) : numB s = false := by unfold numB; rw [h]; rfl
def spFig : Sp := fun vs H Q _ => ∃ s : Str, vs = [.str s] ∧ s.length ≤ 5000 ∧ ∀ H', Same H H' → Q (.bl (numB s)) H'
theorem ok_figures (T : Top w K mg) : FnG P w K mg base CX0 1 T.a_figures T.d_figures ["_law_word"] spFig := by
  refine okG T.F_figures sc_figures (fun vs H Q E h => ?_) (fun cdv A outer s H vs Q E hr hgd h => ?_)
  · obtain ⟨s, rfl, _⟩ := h
    rfl
  · obtain ⟨s, rfl, hs, q⟩ := h
    have hu64 := un64 hr
    have hz : s.length ≤ sizeLine := sz_of (by omega)
    refine ⟨_, (pss_cons (ps_if (PW.pt (pw_or (pt_cmpR op_eq (pv 0) pe_str (nomark _)) (pw_or (pt_cmpR op_gt (pe_callB c_lenS (by rfl) T.n_len (by decide +kernel) (pa_cons (pv 0) pa_nil)) pe_int (nomark _)) (pw_or1 (pt_cmpR (op_neNil hu64) (pe_lc (own := [("_law_sign", 1)]) (g := gName 1) rfl sc_figures.nd (pi_str (pv 0)) (blkOk_by (own := [("_law_sign", 1)]) (N := ["_law_word", "_law_sign"]) (sc := defScope s_figures) (by decide +kernel)) (fun _ _ _ _ _ => (pg_name (i := 1) sc_figures.nd rfl (by first | exact Or.inl rfl | exact Or.inr rfl))) (fun _ _ _ _ _ => (pts_one (pt_cmpR op_notInS (pv 1) pe_str (by rfl)))) (fun _ _ _ _ _ => (pv 1))) (pe_lst pa_nil) (nomark _))))))
        (pss_one (ps_ret pe_bl))
        pss_nil)
      (pss_one (ps_ret (pe_or (pe_cmpR op_eq (pv 0) pe_str (nomark _)) (pe_one (pe_cmpR op_ne (pe_ix ix_str (pv 0) pe_int (fun _ _ => rfl)) pe_str (nomark _))))))), ?_⟩
    walk_at "rd"
    simp only [empty_eq]
    have no : ∀ {H' : Hp}, Same H H' → numV s = .non → Q (.bl false) H' := fun s' h => by have := q _ s'; rwa [numB_no h] at this
    refine ifs (fun h1 => ?_) (fun h1 => ?_)
    · walk_at "rd"
      exact no (Same.refl _) (due_none (.inl (of_decide_eq_true h1)))
    have h1 : ¬ s.length = 0 := of_decide_eq_false h1
    walk_at "rd"
    refine i_lenS hz ?_
    walk_at "rd"
    refine ifs (fun h2 => ?_) (fun h2 => ?_)
    · walk_at "rd"
      exact no (Same.refl _) (due_none (.inr (by simp at h2; omega)))
    have len1 : ¬ (s.length = 0 ∨ 12 < s.length) := by simp at h2; omega
    walk_at "rd"
    refine ⟨.str s, rfl, s, rfl, lc_sift (fun c => !decide (c ∈ (Str.ofString "0123456789").cps.toList)) (by omega) ?_ ?_⟩
    · intro c H' NY NN hc hy hn
      walk_at "rd"
      refine ifs (fun h3 => ?_) (fun h3 => ?_)
      · walk_at "rd"
        exact hy h3
      · exact hn h3
    · intro D H' hD s' kD
      walk_at "rd"
      (intro D2 hD2; generalize eD2 : upd _ D2 _ = J2; have N2 := New.of eD2 hD2; clear eD2 hD2)
      refine i_neNil (N2.app kD) N2.at_ ?_
      rw [sift_empty]
      have s2 := s'.trans N2.same
      walk_at "rd"
      refine ifs (fun h3 => ?_) (fun h3 => ?_)
      · walk_at "rd"
        have nx : ¬ ∀ c ∈ tl s, 48 ≤ c ∧ c ≤ 57 := fun z => by
          rw [Bool.not_eq_true', decide_eq_false_iff_not] at h3
          exact h3 fun c hc => by rw [decide_eq_true ((figures_mem c).mpr (z c hc))]; rfl
        exact no s2 ((numV_digits len1).resolve_left nx)
      · have all : ∀ c ∈ tl s, 48 ≤ c ∧ c ≤ 57 := fun c hc => by
          rw [Bool.not_eq_false', decide_eq_true_eq] at h3
          have := h3 c hc
          rw [Bool.not_eq_false', decide_eq_true_eq] at this
          exact (figures_mem c).mp this
        obtain ⟨c, hc, hat⟩ := first_of (s := s) h1
        walk_at "rd"
        simp only [zero_eq s c hc]
        have yes : ∀ {H' : Hp}, Same H H' → ¬ (c = 48 ∧ 1 < s.length) → Q (.bl true) H' := fun {H'} s' z => by
          have := q _ s'
          have e : numB s = true := by
            unfold numB
            rw [due_num len1 (fun y => z ⟨by have := y.2; rw [hc] at this; exact Option.some.inj this, y.1⟩) all]
            rfl
          rwa [e] at this
        refine ifs (fun h4 => ?_) (fun h4 => ?_)
        · have h4' : s.length = 1 ∧ c = 48 := of_decide_eq_true h4
          exact yes s2 (by omega)
        · have h4' : ¬ (s.length = 1 ∧ c = 48) := of_decide_eq_false h4
          walk_at "rd"
          refine i_ixS hz hat ?_
          walk_at "rd"
          have e48 : (V.str ⟨#[c]⟩ = V.str (Str.ofString "0")) ↔ c = 48 := by rw [str0]; exact sign_eq c 48
          simp only [e48]
          by_cases c48 : c = 48
          · have := no s2 (due_zero (by omega) (by rw [hc, c48]))
            simpa [c48] using this
          · have := yes s2 (fun z => c48 z.1)
            simpa [c48] using this
end

end Ice

set_option Elab.async false
set_option linter.all false
set_option maxRecDepth 100000
set_option maxHeartbeats 4000000
set_option autoImplicit true
namespace Ice
open PySem PySem.Spec PyProof.Rows L2 TL
/-! side conditions, heaps, one step of a reading, and many -/
local macro_rules | `(tactic| walk_at "hp") => `(tactic| first | assumption | exact upd_same | exact New.at_ (by assumption) | (refine keepU ?_ (by assumption); walk_at "hp") | (refine New.app (by assumption) ?_; walk_at "hp") | (refine Same.app (by assumption) ?_; walk_at "hp") | (refine But.app (by assumption) (by assumption) ?_; walk_at "hp"))
local macro_rules | `(tactic| walk_at "sq") => `(tactic| first | assumption | exact SqL.lst (by walk_at "hp") | exact L2.Same.seq (New.same (by assumption)) (by assumption) | exact L2.Same.seq (by assumption) (by assumption))
local macro_rules | `(tactic| walk_at "len") => `(tactic| first | assumption | (simp only [List.length_cons, List.length_nil, List.length_append, List.length_map]; decide) | (refine Ice.sz_of ?_; simp only [List.length_cons, List.length_nil, List.length_append, List.length_map]; omega))
local macro_rules | `(tactic| walk_at "fresh") => `(tactic| (simp only [List.map_append, List.map_cons, List.map_nil, List.nil_append, List.cons_append]; decide +kernel))
local macro_rules | `(tactic| walk_at "sd") => `(tactic| first | assumption | (show _ ≠ _; omega) | exact Or.inl ⟨by omega, by omega⟩ | exact Or.inr ⟨by omega, by omega⟩ | exact ⟨by decide, by decide⟩ | exact ⟨by decide, by decide, by decide⟩ | exact ⟨by omega, by omega, by omega⟩)
/-! one step of a reading, and many -/
local macro_rules | `(tactic| walk_at "st") => `(tactic| first
  | with_reducible refine i_seq ?_
  | with_reducible refine i_if ?_
  | with_reducible refine i_next ?_
  | with_reducible refine i_ret ?_
  | with_reducible refine i_retN ?_
  | with_reducible refine i_drop ?_
  | with_reducible refine i_asg ?_
  | with_reducible refine i_gname ?_
  | with_reducible refine i_gsub ?_
  | ((with_reducible refine i_var (v := ?vv) ?hv ?_); (case hv => exact rfl))
  | with_reducible refine i_c ?_
  | with_reducible refine i_op ?_
  | with_reducible refine i_un ?_
  | with_reducible refine i_test ?_
  | with_reducible refine i_tB ?_
  | with_reducible refine i_and ?_
  | with_reducible refine i_or ?_
  | with_reducible refine i_not ?_
  | with_reducible refine i_andV ?_
  | with_reducible refine i_orV ?_
  | with_reducible refine i_notV ?_
  | with_reducible refine i_ifE ?_
  | with_reducible refine i_chain ?_
  | with_reducible refine i_bl ?_
  | with_reducible refine i_nil ?_
  | with_reducible refine i_cons ?_
  | with_reducible refine i_call ?_
  | with_reducible refine i_cb ?_
  | with_reducible refine i_rI0 ?_
  | with_reducible refine i_rU ?_
  | ((with_reducible refine i_rEq ?hs ?_); (case hs => exact rfl))
  | ((with_reducible refine i_rNe ?hs ?_); (case hs => exact rfl))
  | ((with_reducible refine i_rI ?hc ?_); (case hc => walk_at "sd"))
  | ((with_reducible refine i_ixL (xs := ?xs) (v := ?vv) ?hS ?he ?_); (case hS => walk_at "sq"); (case he => exact rfl))
  | ((with_reducible refine i_setL (xs := ?xs) (j := ?jj) ?hS ?he ?_); (case hS => walk_at "hp"); (case he => exact rfl))
  | with_reducible refine i_tup ?_
  | with_reducible refine i_lst ?_
  | with_reducible refine i_bm ?_
  | with_reducible refine i_bm0 ?_
  | with_reducible refine i_m1 ?_
  | with_reducible refine i_sl ?_
  | with_reducible refine i_nopart ?_
  | with_reducible refine i_part ?_
  | with_reducible refine i_int ?_
  | with_reducible refine i_str ?_
  | with_reducible refine i_for ?_
  | with_reducible refine i_yes ?_
  | ((with_reducible refine i_lenL (xs := ?xs) ?hS ?_); (case hS => walk_at "sq"))
  | ((with_reducible refine i_room ?hz ?_); (case hz => walk_at "len"))
  | with_reducible refine i_leT ?_
  | with_reducible refine i_notInS ?_
  | with_reducible refine i_inS ?_
  | with_reducible refine i_find ?_
  | with_reducible refine i_isB ?_
  | with_reducible refine i_max2 ?_
  | with_reducible refine i_min2 ?_
  | with_reducible exact trivial
  | with_reducible refine iteT ?_
  | with_reducible refine iteF ?_
  | with_reducible refine i_isstr ?_
  | with_reducible refine i_lc ?_
  | ((with_reducible refine i_cat (xs := ?xs) (zs := ?zs) ?ha ?hb ?hz ?_); (case ha => walk_at "hp"); (case hb => walk_at "hp"); (case hz => walk_at "len"))
  | ((with_reducible refine i_tyL (xs := ?xs) ?ha ?_); (case ha => walk_at "hp"))
  | with_reducible refine i_list ?_
  | with_reducible refine i_disp ?_
  | with_reducible refine i_pairs0 ?_
  | with_reducible refine i_pairs ?_
  | with_reducible refine i_newK ?_
  | with_reducible refine i_gcons ?_
  | with_reducible refine i_gnil ?_
  | with_reducible refine i_revL ?_
  | with_reducible refine i_rng1 ?_
  | ((with_reducible refine i_wipe ?hw ?_); (case hw => exact rfl))
  | with_reducible refine iteNT ?_
  | with_reducible refine iteNF ?_)
local macro_rules | `(tactic| walk_at "sx") => `(tactic| first
  | walk_at "st"
  | with_reducible refine i_kinit ?_
  | with_reducible refine i_ost ?_
  | with_reducible refine i_mkO ?_
  | with_reducible refine i_callE ?_
  | with_reducible refine i_makeE ?_
  | with_reducible refine i_xf ?_
  | with_reducible refine i_sfld ?_
  | with_reducible refine i_fld ?_
  | ((with_reducible refine i_ixT (xs := ?xs) (v := ?vv) ?hS ?he ?_); (case hS => exact SqT.tup (by walk_at "hp")); (case he => exact rfl))
  | with_reducible refine i_intB ?_
  | with_reducible refine i_runS ?_
  | with_reducible refine i_runN ?_
  | ((with_reducible refine i_xf1 (fs := ?ff) (v := ?vv) ?hx ?hl ?_); (case hx => walk_at "hp"); (case hl => exact rfl))
  | with_reducible refine i_methE ?_
  | with_reducible refine i_meth ?_
  | with_reducible refine i_make ?_
  | ((with_reducible refine i_obj (dx := ?dd) (fs := ?ff) ?hx ?hl ?_); (case hx => walk_at "hp"); (case hl => exact rfl))
  | ((with_reducible refine i_fld1 (C := ?CC) (dx := ?dd) (fs := ?ff) (v := ?vv) ?hx ?cl ?na ?hl ?_); (case hx => walk_at "hp"); (case cl => assumption); (case na => assumption); (case hl => exact rfl)))
local macro_rules | `(tactic| walk_at "sy") => `(tactic| first
  | walk_at "sx"
  | with_reducible refine i_dget ?_
  | with_reducible refine i_dget2 ?_
  | with_reducible refine i_dput ?_
  | with_reducible refine i_din ?_
  | ((with_reducible refine i_aug (x := ?vv) ?hx ?_); (case hx => exact rfl)))
local macro_rules | `(tactic| walk_at "rd") => `(tactic| repeat (walk_at "sy"))

section
variable {P : Program} {w : World} {K : PySem.W.Frag} {mg : Str → Option Value} {base : Heap}
def rowsR (s : Str) : Str := Txt.replace s (Str.ofString " / ") (Str.ofString "\n")
theorem tl_sb : (Str.ofString " / ").cps.toList = [32, 47, 32] := by decide +kernel
theorem tl_nl : (Str.ofString "\n").cps.toList = [10] := by decide +kernel
theorem rows_list (s : Str) : tl (rowsR s) = StrLaws.replL [32, 47, 32] [10] (tl s) := by
  have := StrLaws.replace_list (x := s) (y := Str.ofString " / ") (z := Str.ofString "\n") (by decide +kernel)
  rw [tl_sb, tl_nl] at this
  exact this
theorem tl_cut3 (z : Str) {i k : Nat} (h : i ≤ z.length) : tl (cutS z (some (i : Int)) (some ((i : Int) + (k : Int)))) = ((tl z).drop i).take k := by
  rw [tl_cut, show (i : Int) + (k : Int) = ((i + k : Nat) : Int) by omega, HT.sIx_nat, HT.sIx_nat, Nat.min_eq_left h]
  by_cases hk : i + k ≤ z.length
  · rw [Nat.min_eq_left hk, Nat.add_sub_cancel_left]
  · rw [Nat.min_eq_right (by omega), List.take_of_length_le (by rw [List.length_drop, tl_len]; exact Nat.le_refl _), List.take_of_length_le (by rw [List.length_drop, tl_len]; omega)]
def spRows : Sp := fun vs H Q _ => ∃ s : Str, vs = [.str s] ∧ s.length ≤ 5000 ∧ ∀ H', Same H H' → Q (.str (rowsR s)) H'
theorem ok_rows_of (T : Top w K mg) : FnG P w K mg base CX0 1 T.a_rows_of T.d_rows_of ["_law_text"] spRows := by
  refine okG T.F_rows_of sc_rows_of (fun vs H Q E h => ?_) (fun cdv A outer s H vs Q E hr hgd h => ?_)
  · obtain ⟨s, rfl, _⟩ := h
    rfl
  · obtain ⟨s, rfl, hs, q⟩ := h
    have hu64 := un64 hr
    have hz : s.length ≤ sizeLine := sz_of (by omega)
    have ls : (tl s).length = s.length := tl_len s
    refine ⟨_, (pss_cons (ps_set (i := 1) sc_rows_of.nd rfl (by first | exact Or.inl rfl | exact Or.inr rfl) pe_str)
      (pss_cons (ps_set (i := 2) sc_rows_of.nd rfl (by first | exact Or.inl rfl | exact Or.inr rfl) pe_int)
      (pss_cons (ps_while PassesOwn.never (pt_cmpR op_lt (pv 2) (pe_callB c_lenS (by rfl) T.n_len (by decide +kernel) (pa_cons (pv 0) pa_nil)) (nomark _))
        (pss_one (ps_if (pt_cmpR op_eq (pe_slice sl_str (pv 0) (po_some (pv 2)) (po_some (pe_op op_add (pv 2) pe_int))) pe_str (nomark _))
        (pss_cons (ps_set (i := 1) sc_rows_of.nd rfl (by first | exact Or.inl rfl | exact Or.inr rfl) (pe_op o_addT (pv 1) pe_str))
      (pss_one (ps_set (i := 2) sc_rows_of.nd rfl (by first | exact Or.inl rfl | exact Or.inr rfl) (pe_op op_add (pv 2) pe_int))))
        (pss_cons (ps_set (i := 1) sc_rows_of.nd rfl (by first | exact Or.inl rfl | exact Or.inr rfl) (pe_op o_addT (pv 1) (pe_ix ix_str (pv 0) (pv 2) (fun _ _ => rfl))))
      (pss_one (ps_set (i := 2) sc_rows_of.nd rfl (by first | exact Or.inl rfl | exact Or.inr rfl) (pe_op op_add (pv 2) pe_int)))))))
      (pss_one (ps_ret (pv 1)))))), ?_⟩
    walk_at "rd"
    simp only [empty_eq]
    refine ⟨fun m σ H' => H' = H ∧ ∃ (acc : Str) (i : Nat), m = s.length - i ∧ σ = [some (.str s), some (.str acc), some (.int i)] ∧ i ≤ s.length ∧ acc.length ≤ i ∧ tl acc ++ StrLaws.replL [32, 47, 32] [10] ((tl s).drop i) = tl (rowsR s), ⟨_, rfl, Str.empty, 0, rfl, rfl, Nat.zero_le _, Nat.le_refl _, (rows_list s).symm⟩, ?_⟩
    rintro m σ H1 ⟨rfl, acc, i, rfl, rfl, hi, ha, he⟩
    walk_at "rd"
    refine i_lenS hz ?_
    walk_at "rd"
    by_cases h1 : i < s.length
    · rw [show decide ((i : Int) < (s.length : Int)) = true from decide_eq_true (by omega)]
      walk_at "rd"
      refine ⟨fun σ' H' => H' = H1 ∧ ∃ (acc : Str) (j : Nat), i < j ∧ σ' = [some (.str s), some (.str acc), some (.int j)] ∧ j ≤ s.length ∧ acc.length ≤ j ∧ tl acc ++ StrLaws.replL [32, 47, 32] [10] ((tl s).drop j) = tl (rowsR s), ?_, ?_⟩
      · rintro σ' H' ⟨rfl, acc', j, lj, rfl, hj, ha', he'⟩
        exact ⟨_, by omega, rfl, acc', j, rfl, rfl, hj, ha', he'⟩
      obtain ⟨c, hc⟩ : ∃ c, (tl s)[i]? = some c := ⟨_, List.getElem?_eq_getElem (by rw [ls]; exact h1)⟩
      have ed : (tl s).drop i = c :: (tl s).drop (i + 1) := by
        have hi2 : i < (tl s).length := by rw [ls]; exact h1
        rw [List.drop_eq_getElem_cons hi2]
        rw [List.getElem?_eq_getElem hi2] at hc
        rw [Option.some.inj hc]
      walk_at "rd"
      refine i_slS hz ?_
      walk_at "rd"
      refine ifs (fun h2 => ?_) (fun h2 => ?_)
      · have h2 : V.str (cutS s (some (i : Int)) (some ((i : Int) + 3))) = V.str (Str.ofString " / ") := of_decide_eq_true h2
        have e2 : ((tl s).drop i).take 3 = [32, 47, 32] := by
          rw [← tl_cut3 s hi]
          show tl (cutS s (some (i : Int)) (some ((i : Int) + 3))) = _
          rw [V.str.inj h2]; exact tl_sb
        have l3 : i + 3 ≤ s.length := by
          have := congrArg List.length e2
          rw [List.length_take, List.length_drop, ls] at this
          simp at this; omega
        walk_at "rd"
        refine i_addT (sz_of (by rw [show (Str.ofString "\n").length = 1 by decide +kernel]; omega)) ?_
        walk_at "rd"
        refine ⟨rfl, acc ++ Str.ofString "\n", i + 3, by omega, ?_, l3, ?_, ?_⟩
        · rw [show ((i + 3 : Nat) : Int) = (i : Int) + 3 by omega]; rfl
        · rw [len_add, show (Str.ofString "\n").length = 1 by decide +kernel]; omega
        · rw [tl_append, ← he, ed, StrLaws.replL_hit (by simp) (by rw [← ed]; exact e2), List.append_assoc, ← ed, List.drop_drop]
          exact congrArg (tl acc ++ ·) (congrArg (· ++ _) tl_nl)
      · have h2 : ¬ V.str (cutS s (some (i : Int)) (some ((i : Int) + 3))) = V.str (Str.ofString " / ") := of_decide_eq_false h2
        have e2 : ¬ ((tl s).drop i).take 3 = [32, 47, 32] := fun z => h2 (by
          congr 1
          refine str_ext ?_
          show tl (cutS s (some (i : Int)) (some ((i : Int) + ((3 : Nat) : Int)))) = _
          rw [tl_cut3 s hi, z]; exact tl_sb.symm)
        walk_at "rd"
        refine i_ixS hz (atI_nat hc) ?_
        walk_at "rd"
        refine i_addT (sz_of (by show _ + 1 ≤ _; omega)) ?_
        walk_at "rd"
        refine ⟨rfl, acc ++ ⟨#[c]⟩, i + 1, by omega, ?_, by omega, ?_, ?_⟩
        · rw [show ((i + 1 : Nat) : Int) = (i : Int) + 1 by omega]; rfl
        · rw [len_add]; show _ + 1 ≤ _; omega
        · rw [tl_append, ← he, ed, StrLaws.replL_miss (by rw [← ed]; exact e2), List.append_assoc]; rfl
    · rw [show decide ((i : Int) < (s.length : Int)) = false from decide_eq_false (by omega)]
      walk_at "rd"
      have e : acc = rowsR s := by
        refine str_ext ?_
        rw [List.drop_eq_nil_of_le (by rw [ls]; omega), StrLaws.replL_nil, List.append_nil] at he
        exact he
      rw [e]
      exact q _ (Same.refl _)
end

end Ice

set_option Elab.async false
set_option linter.all false
set_option maxRecDepth 100000
set_option maxHeartbeats 4000000
set_option autoImplicit true
namespace Ice
open PySem PySem.Spec PyProof.Rows L2 TL
/-! side conditions, heaps, one step of a reading, and many -/
local macro_rules | `(tactic| walk_at "hp") => `(tactic| first | assumption | exact upd_same | exact New.at_ (by assumption) | (refine keepU ?_ (by assumption); walk_at "hp") | (refine New.app (by assumption) ?_; walk_at "hp") | (refine Same.app (by assumption) ?_; walk_at "hp") | (refine But.app (by assumption) (by assumption) ?_; walk_at "hp"))
local macro_rules | `(tactic| walk_at "sq") => `(tactic| first | assumption | exact SqL.lst (by walk_at "hp") | exact L2.Same.seq (New.same (by assumption)) (by assumption) | exact L2.Same.seq (by assumption) (by assumption))
local macro_rules | `(tactic| walk_at "len") => `(tactic| first | assumption | (simp only [List.length_cons, List.length_nil, List.length_append, List.length_map]; decide) | (refine Ice.sz_of ?_; simp only [List.length_cons, List.length_nil, List.length_append, List.length_map]; omega))
local macro_rules | `(tactic| walk_at "fresh") => `(tactic| (simp only [List.map_append, List.map_cons, List.map_nil, List.nil_append, List.cons_append]; decide +kernel))
local macro_rules | `(tactic| walk_at "sd") => `(tactic| first | assumption | (show _ ≠ _; omega) | exact Or.inl ⟨by omega, by omega⟩ | exact Or.inr ⟨by omega, by omega⟩ | exact ⟨by decide, by decide⟩ | exact ⟨by decide, by decide, by decide⟩ | exact ⟨by omega, by omega, by omega⟩)
/-! one step of a reading, and many -/
local macro_rules | `(tactic| walk_at "st") => `(tactic| first
  | with_reducible refine i_seq ?_
  | with_reducible refine i_if ?_
  | with_reducible refine i_next ?_
  | with_reducible refine i_ret ?_
  | with_reducible refine i_retN ?_
  | with_reducible refine i_drop ?_
  | with_reducible refine i_asg ?_
  | with_reducible refine i_gname ?_
  | with_reducible refine i_gsub ?_
  | ((with_reducible refine i_var (v := ?vv) ?hv ?_); (case hv => exact rfl))
  | with_reducible refine i_c ?_
  | with_reducible refine i_op ?_
  | with_reducible refine i_un ?_
  | with_reducible refine i_test ?_
  | with_reducible refine i_tB ?_
  | with_reducible refine i_and ?_
  | with_reducible refine i_or ?_
  | with_reducible refine i_not ?_
  | with_reducible refine i_andV ?_
  | with_reducible refine i_orV ?_
  | with_reducible refine i_notV ?_
  | with_reducible refine i_ifE ?_
  | with_reducible refine i_chain ?_
  | with_reducible refine i_bl ?_
  | with_reducible refine i_nil ?_
  | with_reducible refine i_cons ?_
  | with_reducible refine i_call ?_
  | with_reducible refine i_cb ?_
  | with_reducible refine i_rI0 ?_
  | with_reducible refine i_rU ?_
  | ((with_reducible refine i_rEq ?hs ?_); (case hs => exact rfl))
  | ((with_reducible refine i_rNe ?hs ?_); (case hs => exact rfl))
  | ((with_reducible refine i_rI ?hc ?_); (case hc => walk_at "sd"))
  | ((with_reducible refine i_ixL (xs := ?xs) (v := ?vv) ?hS ?he ?_); (case hS => walk_at "sq"); (case he => exact rfl))
  | ((with_reducible refine i_setL (xs := ?xs) (j := ?jj) ?hS ?he ?_); (case hS => walk_at "hp"); (case he => exact rfl))
  | with_reducible refine i_tup ?_
  | with_reducible refine i_lst ?_
  | with_reducible refine i_bm ?_
  | with_reducible refine i_bm0 ?_
  | with_reducible refine i_m1 ?_
  | with_reducible refine i_sl ?_
  | with_reducible refine i_nopart ?_
  | with_reducible refine i_part ?_
  | with_reducible refine i_int ?_
  | with_reducible refine i_str ?_
  | with_reducible refine i_for ?_
  | with_reducible refine i_yes ?_
  | ((with_reducible refine i_lenL (xs := ?xs) ?hS ?_); (case hS => walk_at "sq"))
  | ((with_reducible refine i_room ?hz ?_); (case hz => walk_at "len"))
  | with_reducible refine i_leT ?_
  | with_reducible refine i_notInS ?_
  | with_reducible refine i_inS ?_
  | with_reducible refine i_find ?_
  | with_reducible refine i_isB ?_
  | with_reducible refine i_max2 ?_
  | with_reducible refine i_min2 ?_
  | with_reducible exact trivial
  | with_reducible refine iteT ?_
  | with_reducible refine iteF ?_
  | with_reducible refine i_isstr ?_
  | with_reducible refine i_lc ?_
  | ((with_reducible refine i_cat (xs := ?xs) (zs := ?zs) ?ha ?hb ?hz ?_); (case ha => walk_at "hp"); (case hb => walk_at "hp"); (case hz => walk_at "len"))
  | ((with_reducible refine i_tyL (xs := ?xs) ?ha ?_); (case ha => walk_at "hp"))
  | with_reducible refine i_list ?_
  | with_reducible refine i_disp ?_
  | with_reducible refine i_pairs0 ?_
  | with_reducible refine i_pairs ?_
  | with_reducible refine i_newK ?_
  | with_reducible refine i_gcons ?_
  | with_reducible refine i_gnil ?_
  | with_reducible refine i_revL ?_
  | with_reducible refine i_rng1 ?_
  | ((with_reducible refine i_wipe ?hw ?_); (case hw => exact rfl))
  | with_reducible refine iteNT ?_
  | with_reducible refine iteNF ?_)
local macro_rules | `(tactic| walk_at "sx") => `(tactic| first
  | walk_at "st"
  | with_reducible refine i_kinit ?_
  | with_reducible refine i_ost ?_
  | with_reducible refine i_mkO ?_
  | with_reducible refine i_callE ?_
  | with_reducible refine i_makeE ?_
  | with_reducible refine i_xf ?_
  | with_reducible refine i_sfld ?_
  | with_reducible refine i_fld ?_
  | ((with_reducible refine i_ixT (xs := ?xs) (v := ?vv) ?hS ?he ?_); (case hS => exact SqT.tup (by walk_at "hp")); (case he => exact rfl))
  | with_reducible refine i_intB ?_
  | with_reducible refine i_runS ?_
  | with_reducible refine i_runN ?_
  | ((with_reducible refine i_xf1 (fs := ?ff) (v := ?vv) ?hx ?hl ?_); (case hx => walk_at "hp"); (case hl => exact rfl))
  | with_reducible refine i_methE ?_
  | with_reducible refine i_meth ?_
  | with_reducible refine i_make ?_
  | ((with_reducible refine i_obj (dx := ?dd) (fs := ?ff) ?hx ?hl ?_); (case hx => walk_at "hp"); (case hl => exact rfl))
  | ((with_reducible refine i_fld1 (C := ?CC) (dx := ?dd) (fs := ?ff) (v := ?vv) ?hx ?cl ?na ?hl ?_); (case hx => walk_at "hp"); (case cl => assumption); (case na => assumption); (case hl => exact rfl)))
local macro_rules | `(tactic| walk_at "sy") => `(tactic| first
  | walk_at "sx"
  | with_reducible refine i_dget ?_
  | with_reducible refine i_dget2 ?_
  | with_reducible refine i_dput ?_
  | with_reducible refine i_din ?_
  | ((with_reducible refine i_aug (x := ?vv) ?hx ?_); (case hx => exact rfl)))
local macro_rules | `(tactic| walk_at "rd") => `(tactic| repeat (walk_at "sy"))

open PySem.NumText
section
variable {P : Program} {w : World} {K : PySem.W.Frag} {mg : Str → Option Value} {base : Heap}
theorem numB_yes {s : Str} (h : numB s = true) : ∃ n : Nat, numV s = .int n ∧ PySem.intText? s = some (n : Int) ∧ s.length ≤ 640 := by
  have h : numV s ≠ .non := of_decide_eq_true h
  have h1 : ¬ (s.length = 0 ∨ 12 < s.length) := fun z => h (due_none z)
  have h2 : ¬ (1 < s.length ∧ (tl s)[0]? = some 48) := fun z => h (due_zero z.1 z.2)
  have h3 : ∀ c ∈ tl s, 48 ≤ c ∧ c ≤ 57 := (numV_digits h1).resolve_right h
  refine ⟨digitsVal (tl s), due_num h1 h2 h3, intText_digits h3 ?_ (by omega), by omega⟩
  intro e; have := tl_len s; rw [show tl s = [] from e] at this; simp at this; omega
def formT (bs : List Bool) : Str := ⟨(bs.map fun b => if b = true then 110 else 119).toArray⟩
theorem formT_len (bs : List Bool) : (formT bs).length = bs.length := by
  show (formT bs).cps.size = _
  unfold formT; simp
theorem formT_at {bs : List Bool} {i c : Nat} (h : (formT bs).cps[i]? = some c) : ∃ b, bs[i]? = some b ∧ c = if b = true then 110 else 119 := by
  have h : (bs.map fun b => if b = true then 110 else 119).toArray[i]? = some c := h
  rw [List.getElem?_toArray, List.getElem?_map, Option.map_eq_some_iff] at h
  obtain ⟨b, hb, e⟩ := h
  exact ⟨b, hb, e.symm⟩
theorem formT_R (bs : List Bool) : ¬ V.str (formT bs) = V.str (Str.ofString "R") := fun z => by
  have e := V.str.inj z
  have l : bs.length = 1 := by rw [← formT_len, e]; decide +kernel
  match bs, l with
  | [true], _ => exact absurd e (by decide +kernel)
  | [false], _ => exact absurd e (by decide +kernel)
theorem dueF_open : dueF (Str.ofString "open") = .str (Str.ofString "R") := by unfold dueF fmT; rw [if_pos rfl]
theorem fm_open : fm (Str.ofString "open") = none := by decide +kernel
theorem dueF_none {k : Str} (h : ¬ k = Str.ofString "open") (hf : fm k = none) : dueF k = .non := by unfold dueF fmT; rw [if_neg h, hf]; rfl
theorem dueF_some {k : Str} {bs : List Bool} (h : ¬ k = Str.ofString "open") (hf : fm k = some bs) : dueF k = .str (formT bs) := by unfold dueF fmT; rw [if_neg h, hf]; rfl
theorem fm_len {k : Str} {bs : List Bool} (h : fm k = some bs) : bs.length ≤ 3 := by
  unfold fm at h
  rw [Option.map_eq_some_iff] at h
  obtain ⟨p, hp, rfl⟩ := h
  have a : fmL.all (fun p => decide (p.2.length ≤ 3)) = true := by decide +kernel
  exact of_decide_eq_true (List.all_eq_true.mp a p (List.mem_of_find?_eq_some hp))
/-- what stands behind the fifth sign of a line of open -/
theorem open_rest {s : Str} {r : List Str} (h : Txt.split s (Str.ofString " ") = Str.ofString "open" :: r) (hr : r ≠ []) : cutS s (some 5) none = Txt.join (Str.ofString " ") r := by
  have j := (split1 (x := s) tl_bl (by decide +kernel)).2
  rw [h] at j
  refine str_ext ?_
  rw [show (5 : Int) = ((5 : Nat) : Int) from rfl, tl_cut_from, ← j]
  cases r with
  | nil => exact absurd rfl hr
  | cons q m =>
    show (TL.tl (Txt.join (Str.ofString " ") (Str.ofString "open" :: q :: m))).drop 5 = TL.tl (Txt.join (Str.ofString " ") (q :: m))
    rw [TL.join_eq, TL.tl_join, TL.join_eq, TL.tl_join, tl_bl]
    show (TL.tl (Str.ofString "open") ++ ([32] ++ TL.joinL [32] ((q :: m).map TL.tl))).drop 5 = _
    rw [show TL.tl (Str.ofString "open") = [111, 112, 101, 110] by decide +kernel]
    rfl
def spLRead : Sp := fun vs H Q _ => ∃ s : Str, vs = [.str s] ∧ s.length ≤ 2000 ∧ (∀ k ths p l H', lineD s = some (k, ths) → Same H H' → H p = none → H l = none → H' p = some (.tup [.str k, .ref l]) → H' l = some (.lst ths) → Q (.ref p) H') ∧ (lineD s = none → ∀ H', Same H H' → Q .non H')
theorem ok_read (T : Top w K mg) : FnG P w K mg base CX0 2 T.a_read T.d_read ["_law_line_here"] spLRead := by
  have G_form := ok_form (P := P) (w := w) (base := base) T
  have G_figures := ok_figures (P := P) (w := w) (base := base) T
  have G_rows_of := ok_rows_of (P := P) (w := w) (base := base) T
  refine okG T.F_read sc_read (fun vs H Q E h => ?_) (fun cdv A outer s H vs Q E hr hgd h => ?_)
  · obtain ⟨s', rfl, _⟩ := h
    rfl
  · obtain ⟨s', rfl, ls, q, no⟩ := h
    have hu : _ := un1 hr
    have hu64 := un64 hr
    have hz : s'.length ≤ sizeLine := sz_of (by omega)
    refine ⟨_, (pss_cons (ps_if (PW.pt (pw_or (pt_not (pt_val (pe_callB (c_isiO T.xi_NoLine) (by rfl) T.n_isinstance (by decide +kernel) (pa_cons (pv 0) (pa_cons (pe_bltn (v := .ty "str") (by rfl) T.n_str (by decide +kernel) rfl) pa_nil))))) (pw_or1 (pt_cmpR op_inS pe_str (pv 0) (by rfl)))))
        (pss_one (ps_ret pe_non))
        pss_nil)
      (pss_cons (ps_set (i := 1) sc_read.nd rfl (by first | exact Or.inl rfl | exact Or.inr rfl) (pe_split (pv 0) pe_str))
      (pss_cons (ps_set (i := 2) sc_read.nd rfl (by first | exact Or.inl rfl | exact Or.inr rfl) (g_call G_form (hr.mono (by decide)) hgd (by rfl) T.m_form T.F_form.kp T.b_form .nil pass0 (pa_cons (pe_ix ix_list (pv 1) pe_int (fun _ _ => rfl)) pa_nil)))
      (pss_cons (ps_if (pt_cmpR op_isN1 (pv 2) pe_non (nomark _))
        (pss_one (ps_ret pe_non))
        pss_nil)
      (pss_cons (ps_if (pt_cmpR op_eq (pv 2) pe_str (nomark _))
        (pss_one (ps_ret (pe_ifExp (pt_cmpR op_gt (pe_callB c_len (by rfl) T.n_len (by decide +kernel) (pa_cons (pv 1) pa_nil)) pe_int (nomark _)) (pe_tup (pa_cons (pe_ix ix_list (pv 1) pe_int (fun _ _ => rfl)) (pa_cons (pe_lst (pa_cons (g_call G_rows_of (hr.mono (by decide)) hgd (by rfl) T.m_rows_of T.F_rows_of.kp T.b_rows_of .nil pass0 (pa_cons (pe_slice sl_str (pv 0) (po_some pe_int) po_none) pa_nil)) pa_nil)) pa_nil))) pe_non)))
        pss_nil)
      (pss_cons (ps_if (pt_cmpR op_ne (pe_callB c_len (by rfl) T.n_len (by decide +kernel) (pa_cons (pv 1) pa_nil)) (pe_op op_add pe_int (pe_callB c_lenS (by rfl) T.n_len (by decide +kernel) (pa_cons (pv 2) pa_nil))) (nomark _))
        (pss_one (ps_ret pe_non))
        pss_nil)
      (pss_cons (ps_set (i := 3) sc_read.nd rfl (by first | exact Or.inl rfl | exact Or.inr rfl) (pe_lst pa_nil))
      (pss_cons (ps_for PassesOwn.never rfl (pi_zipS (by rfl) T.n_zip (pa_cons (pv 2) (pa_cons (pe_slice sl_list (pv 1) (po_some pe_int) po_none) pa_nil))) (pg_tup rfl (pgs_cons (pg_name (i := 4) sc_read.nd rfl (by first | exact Or.inl rfl | exact Or.inr rfl)) (pgs_cons (pg_name (i := 5) sc_read.nd rfl (by first | exact Or.inl rfl | exact Or.inr rfl)) pgs_nil)))
        (pss_cons (ps_if (PW.pt (pw_and (pt_cmpR op_eq (pv 4) pe_str (nomark _)) (pw_and1 (pt_not (pt_val (g_call G_figures (hr.mono (by decide)) hgd (by rfl) T.m_figures T.F_figures.kp T.b_figures .nil pass0 (pa_cons (pv 5) pa_nil)))))))
        (pss_one (ps_ret pe_non))
        pss_nil)
      (pss_one (ps_expr (pe_bm PySem.F.plainAttrs_list PySem.F.slot_list_append PySem.F.type_list_append mt_append (pv 3) (pa_cons (pe_ifExp (pt_cmpR op_eq (pv 4) pe_str (nomark _)) (pe_callTy c_intS (by rfl) T.n_int (by decide +kernel) (pa_cons (pv 5) pa_nil)) (pv 5)) pa_nil))))))
      (pss_one (ps_ret (pe_tup (pa_cons (pe_ix ix_list (pv 1) pe_int (fun _ _ => rfl)) (pa_cons (pv 3) pa_nil))))))))))))), ?_⟩
    walk_at "rd"
    refine .inl (i_isiC (b := true) ty_str (kit_ty (by decide +kernel)) ?_)
    walk_at "rd"
    refine ⟨10, s', by rw [show Str.ofString "\n" = ⟨#[10]⟩ by decide +kernel], rfl, ?_⟩
    have hT : s'.cps.toList = tl s' := rfl
    rw [hT]
    walk_at "rd"
    refine ifs (fun h1 => ?_) (fun h1 => ?_)
    · have h1 : 10 ∈ tl s' := of_decide_eq_true h1
      walk_at "rd"
      exact no (by unfold lineD; rw [if_pos h1]) _ (Same.refl _)
    have h1 : ¬ 10 ∈ tl s' := of_decide_eq_false h1
    obtain ⟨k, r, hsp⟩ : ∃ k r, Txt.split s' (Str.ofString " ") = k :: r := by
      cases e : Txt.split s' (Str.ofString " ") with
      | nil => exact absurd e (split1 (x := s') tl_bl (by decide +kernel)).1.1
      | cons k r => exact ⟨k, r, rfl⟩
    have ld : lineD s' = if k = Str.ofString "open" ∧ r ≠ [] then some (k, [.str (Txt.replace (Txt.join (Str.ofString " ") r) (Str.ofString " / ") (Str.ofString "\n"))])
      else match fm k with
        | none => none
        | some bs => if bs.length ≠ r.length then none else if V.non ∈ List.zipWith thV bs r then none else some (k, List.zipWith thV bs r) := by
      unfold lineD; rw [if_neg h1, hsp] <;> rfl
    have lw : ((k :: r).map V.str).length = r.length + 1 := by simp
    have hrl : ∀ x ∈ k :: r, x.length ≤ s'.length := fun x hx => (split1 (x := s') tl_bl (by decide +kernel)).1.2.2 x (by rw [hsp]; exact hx)
    walk_at "rd"
    refine ⟨s', _, rfl, rfl, by decide +kernel, by have : (100000 : Nat) ≤ sizeLine := sz_of (by decide); omega, ?_⟩
    rw [hsp]
    show ∀ p, _
    (intro wl hwl; generalize ewl : upd _ wl _ = J2; have N2 := New.of ewl hwl; clear ewl hwl)
    walk_at "rd"
    refine i_ixL (SqL.lst N2.at_) (atI_nat (j := 0) rfl) ?_
    walk_at "rd"
    refine ⟨k, rfl, fun J3 s3 => ?_⟩
    have kwl := s3 _ _ N2.at_
    have s03 := N2.same.trans s3
    by_cases ko : k = Str.ofString "open"
    · subst ko
      rw [dueF_open]
      walk_at "rd"
      refine ⟨rfl, ?_⟩
      walk_at "rd"
      refine ifs (fun h => by simp at h) (fun _ => ?_)
      walk_at "rd"
      refine ifs (fun _ => ?_) (fun h => absurd h (by decide +kernel))
      walk_at "rd"
      rw [lw]
      by_cases hr0 : r = []
      · rw [show decide ((1 : Int) < ((r.length + 1 : Nat) : Int)) = false from decide_eq_false (by rw [hr0]; decide)]
        walk_at "rd"
        rw [if_neg (fun z => z.2 hr0), fm_open] at ld
        exact no ld _ s03
      · have l1 : 0 < r.length := List.length_pos_iff.mpr hr0
        rw [show decide ((1 : Int) < ((r.length + 1 : Nat) : Int)) = true from decide_eq_true (by omega)]
        walk_at "rd"
        refine i_ixL (SqL.lst kwl) (atI_nat (j := 0) rfl) ?_
        walk_at "rd"
        refine i_slS hz ?_
        rw [open_rest hsp hr0]
        walk_at "rd"
        have jt := join_tail (Str.ofString "open") r
        have jj := (split1 (x := s') tl_bl (by decide +kernel)).2
        rw [hsp] at jj
        rw [jj] at jt
        refine ⟨_, rfl, by omega, fun J5 s5 => ?_⟩
        walk_at "rd"
        (intro l6 hl6; generalize el6 : upd _ l6 _ = J6; have N6 := New.of el6 hl6; clear el6 hl6)
        walk_at "rd"
        (intro p7 hp7; generalize ep7 : upd _ p7 _ = J7; have N7 := New.of ep7 hp7; clear ep7 hp7)
        walk_at "rd"
        rw [if_pos ⟨rfl, hr0⟩] at ld
        have s06 := s03.trans (s5.trans N6.same)
        exact q _ _ p7 l6 J7 ld (s06.trans N7.same) (sfree s06 N7.free) (sfree (s03.trans s5) N6.free) N7.at_ (N7.app N6.at_)
    cases hf : fm k with
    | none =>
      rw [dueF_none ko hf]
      rw [if_neg (fun z => ko z.1), hf] at ld
      walk_at "rd"
      refine ⟨rfl, ?_⟩
      walk_at "rd"
      refine ifs (fun _ => ?_) (fun h => absurd h (by decide))
      walk_at "rd"
      exact no ld _ s03
    | some bs =>
      rw [dueF_some ko hf]
      rw [if_neg (fun z => ko z.1), hf] at ld
      have ld : lineD s' = if bs.length ≠ r.length then none else if V.non ∈ List.zipWith thV bs r then none else some (k, List.zipWith thV bs r) := ld
      have b3 := fm_len hf
      have fl := formT_len bs
      walk_at "rd"
      refine ⟨rfl, ?_⟩
      walk_at "rd"
      refine ifs (fun h => by simp at h) (fun _ => ?_)
      walk_at "rd"
      refine ifs (fun h => absurd (of_decide_eq_true h) (formT_R bs)) (fun _ => ?_)
      walk_at "rd"
      refine i_lenS (sz_of (by omega)) ?_
      walk_at "rd"
      rw [lw, fl]
      refine ifs (fun h => ?_) (fun h => ?_)
      · have h : bs.length ≠ r.length := fun z => by rw [z] at h; simp at h; omega
        rw [if_pos h] at ld
        walk_at "rd"
        exact no ld _ s03
      have h : bs.length = r.length := by
        have : (((r.length + 1 : Nat) : Int)) = 1 + (bs.length : Int) := by simpa using h
        omega
      rw [if_neg (by omega)] at ld
      walk_at "rd"
      (intro D hD; generalize eD : upd _ D _ = J4; have N4 := New.of eD hD; clear eD hD)
      walk_at "rd"
      refine i_zipS ?_
      walk_at "rd"
      refine ⟨wl, _, rfl, SqL.lst (N4.app kwl), ?_⟩
      (intro wl2 hwl2; generalize ewl2 : upd _ wl2 _ = J5; have N5 := New.of ewl2 hwl2; clear ewl2 hwl2)
      rw [show (1 : Int) = ((1 : Nat) : Int) from rfl, cutV_from _ (by rw [lw]; omega), ← List.map_drop] at N5
      have N5 : New J4 wl2 (.lst (r.map V.str)) J5 := N5
      walk_at "rd"
      have lr1 : (r.map V.str).length = r.length := List.length_map ..
      have dw : wl2 ≠ D := by rintro rfl; have := N5.free; rw [N4.at_] at this; cases this
      have lzz : (List.zipWith thV bs r).length = bs.length := by rw [List.length_zipWith]; omega
      refine ⟨formT bs, wl2, _, rfl, SqL.lst N5.at_, ?_⟩
      refine for_zipS (ys := r.map V.str) (by rw [lr1]; show (formT bs).length ≤ _; omega) (fun i σ H' => Same J3 H' ∧ H' wl = some (.lst ((k :: r).map V.str)) ∧ H' wl2 = some (.lst (r.map V.str)) ∧ H' D = some (.lst ((List.zipWith thV bs r).take i)) ∧ V.non ∉ (List.zipWith thV bs r).take i ∧ ∃ z4 z5, σ = [some (.str s'), some (.ref wl), some (.str (formT bs)), some (.ref D), z4, z5])
        ⟨N4.same.trans N5.same, N5.app (N4.app kwl), N5.at_, N5.app N4.at_, by simp, _, _, rfl⟩ (fun i σ H' p => SqL.lst p.2.2.1) ?_ ?_
      · rintro i c y Tt σ H' hc hy ⟨sH, kw, kw2, kD, nn, z4, z5, rfl⟩ hT
        rw [List.getElem?_map, Option.map_eq_some_iff] at hy
        obtain ⟨ww, hw, rfl⟩ := hy
        obtain ⟨bb, hb, ec⟩ := formT_at hc
        generalize eT : upd H' Tt (HO.tup [V.str ⟨#[c]⟩, V.str ww]) = H5
        have nT := New.of eT hT
        clear eT
        have zi : (List.zipWith thV bs r)[i]? = some (thV bb ww) := by rw [List.getElem?_zipWith, hb, hw]
        have wl' := hrl ww (List.mem_cons_of_mem _ (List.mem_of_getElem? hw))
        have tk1 : (List.zipWith thV bs r).take (i + 1) = (List.zipWith thV bs r).take i ++ [thV bb ww] := by rw [List.take_add_one, zi]; rfl
        have en : (V.str ⟨#[c]⟩ = V.str (Str.ofString "n")) ↔ bb = true := by
          rw [show Str.ofString "n" = ⟨#[110]⟩ by decide +kernel, sign_eq, ec]
          cases bb <;> simp
        have lz : ((List.zipWith thV bs r).take i).length ≤ 3 := by rw [List.length_take]; omega
        have mz : thV bb ww ∈ List.zipWith thV bs r := List.mem_of_getElem? zi
        have fin : ∀ {H6 : Hp}, Same H5 H6 → thV bb ww ≠ .non → Same J3 (upd H6 D (.lst ((List.zipWith thV bs r).take i ++ [thV bb ww]))) ∧ (upd H6 D (.lst ((List.zipWith thV bs r).take i ++ [thV bb ww]))) wl = some (.lst ((k :: r).map V.str)) ∧ (upd H6 D (.lst ((List.zipWith thV bs r).take i ++ [thV bb ww]))) wl2 = some (.lst (r.map V.str)) ∧ (upd H6 D (.lst ((List.zipWith thV bs r).take i ++ [thV bb ww]))) D = some (.lst ((List.zipWith thV bs r).take (i + 1))) ∧ V.non ∉ (List.zipWith thV bs r).take (i + 1) := fun {H6} s6 nz =>
          ⟨fun a o h => by rw [upd_ne (ne_of_none h N4.free)]; exact s6 _ _ (nT.app (sH _ _ h)), by rw [upd_ne (ne_of_none kwl N4.free)]; exact s6 _ _ (nT.app kw), by rw [upd_ne dw]; exact s6 _ _ (nT.app kw2), by rw [upd_same, tk1], by
            rw [tk1, List.mem_append, List.mem_singleton]
            exact fun z => z.elim nn fun e => nz e.symm⟩
        refine i_gtup (SqT.tup nT.at_) rfl ?_
        walk_at "rd"
        cases bb with
        | false =>
          refine ifs (fun z => absurd (en.mp (of_decide_eq_true z)) (by decide)) (fun _ => ?_)
          walk_at "rd"
          refine ifs (fun z => absurd (en.mp (of_decide_eq_true z)) (by decide)) (fun _ => ?_)
          walk_at "rd"
          refine ⟨D, _, _, rfl, rfl, nT.app kD, by have : (3 : Nat) < sizeLine := (by rw [sizeLine_eq]; decide); omega, ?_⟩
          obtain ⟨f1, f2, f3, f4, f5⟩ := fin (Same.refl _) (show thV false ww ≠ .non from nofun)
          exact ⟨f1, f2, f3, f4, f5, _, _, rfl⟩
        | true =>
          refine ifs (fun _ => ?_) (fun z => absurd (en.mpr rfl) (of_decide_eq_false z))
          walk_at "rd"
          refine ⟨ww, rfl, by omega, fun H6 s6 => ?_⟩
          cases hB : numB ww with
          | false =>
            walk_at "rd"
            have e : numV ww = .non := by
              have : ¬ numV ww ≠ .non := of_decide_eq_false hB
              exact Classical.not_not.mp this
            rw [if_pos (by have := mz; rwa [show thV true ww = .non from e] at this)] at ld
            exact no ld _ (s03.trans (sH.trans (nT.same.trans s6)))
          | true =>
            obtain ⟨n, e1, e2, e3⟩ := numB_yes hB
            walk_at "rd"
            refine ifs (fun _ => ?_) (fun z => absurd (en.mpr rfl) (of_decide_eq_false z))
            walk_at "rd"
            refine ⟨ww, _, rfl, e2, e3, ?_⟩
            walk_at "rd"
            have en2 : thV true ww = .int n := e1
            refine ⟨D, _, _, rfl, rfl, s6 _ _ (nT.app kD), by have : (3 : Nat) < sizeLine := (by rw [sizeLine_eq]; decide); omega, ?_⟩
            obtain ⟨f1, f2, f3, f4, f5⟩ := fin s6 (by rw [en2]; nofun)
            rw [en2] at f1 f2 f3 f4
            exact ⟨f1, f2, f3, f4, f5, _, _, rfl⟩
      · rintro σ H' ⟨sH, kw, kw2, kD, nn, z4, z5, rfl⟩
        rw [show (formT bs).cps.size = (List.zipWith thV bs r).length by rw [lzz]; exact fl, List.take_length] at kD nn
        rw [if_neg nn] at ld
        walk_at "rd"
        refine i_ixL (SqL.lst kw) (atI_nat (j := 0) rfl) ?_
        walk_at "rd"
        (intro p6 hp6; generalize ep6 : upd _ p6 _ = J6; have N6 := New.of ep6 hp6; clear ep6 hp6)
        walk_at "rd"
        have s06 := s03.trans sH
        exact q _ _ p6 D J6 ld (s06.trans N6.same) (sfree s06 N6.free) (sfree s03 N4.free) N6.at_ (N6.app kD)
end

end Ice

set_option Elab.async false
set_option linter.all false
set_option maxRecDepth 100000
set_option maxHeartbeats 4000000
set_option autoImplicit true
namespace Ice
open PySem PySem.Spec PyProof.Rows L2 TL
/-! side conditions, heaps, one step of a reading, and many -/
local macro_rules | `(tactic| walk_at "hp") => `(tactic| first | assumption | exact upd_same | exact New.at_ (by assumption) | (refine keepU ?_ (by assumption); walk_at "hp") | (refine New.app (by assumption) ?_; walk_at "hp") | (refine Same.app (by assumption) ?_; walk_at "hp") | (refine But.app (by assumption) (by assumption) ?_; walk_at "hp"))
local macro_rules | `(tactic| walk_at "sq") => `(tactic| first | assumption | exact SqL.lst (by walk_at "hp") | exact L2.Same.seq (New.same (by assumption)) (by assumption) | exact L2.Same.seq (by assumption) (by assumption))
local macro_rules | `(tactic| walk_at "len") => `(tactic| first | assumption | (simp only [List.length_cons, List.length_nil, List.length_append, List.length_map]; decide) | (refine Ice.sz_of ?_; simp only [List.length_cons, List.length_nil, List.length_append, List.length_map]; omega))
local macro_rules | `(tactic| walk_at "fresh") => `(tactic| (simp only [List.map_append, List.map_cons, List.map_nil, List.nil_append, List.cons_append]; decide +kernel))
local macro_rules | `(tactic| walk_at "sd") => `(tactic| first | assumption | (show _ ≠ _; omega) | exact Or.inl ⟨by omega, by omega⟩ | exact Or.inr ⟨by omega, by omega⟩ | exact ⟨by decide, by decide⟩ | exact ⟨by decide, by decide, by decide⟩ | exact ⟨by omega, by omega, by omega⟩)
/-! one step of a reading, and many -/
local macro_rules | `(tactic| walk_at "st") => `(tactic| first
  | with_reducible refine i_seq ?_
  | with_reducible refine i_if ?_
  | with_reducible refine i_next ?_
  | with_reducible refine i_ret ?_
  | with_reducible refine i_retN ?_
  | with_reducible refine i_drop ?_
  | with_reducible refine i_asg ?_
  | with_reducible refine i_gname ?_
  | with_reducible refine i_gsub ?_
  | ((with_reducible refine i_var (v := ?vv) ?hv ?_); (case hv => exact rfl))
  | with_reducible refine i_c ?_
  | with_reducible refine i_op ?_
  | with_reducible refine i_un ?_
  | with_reducible refine i_test ?_
  | with_reducible refine i_tB ?_
  | with_reducible refine i_and ?_
  | with_reducible refine i_or ?_
  | with_reducible refine i_not ?_
  | with_reducible refine i_andV ?_
  | with_reducible refine i_orV ?_
  | with_reducible refine i_notV ?_
  | with_reducible refine i_ifE ?_
  | with_reducible refine i_chain ?_
  | with_reducible refine i_bl ?_
  | with_reducible refine i_nil ?_
  | with_reducible refine i_cons ?_
  | with_reducible refine i_call ?_
  | with_reducible refine i_cb ?_
  | with_reducible refine i_rI0 ?_
  | with_reducible refine i_rU ?_
  | ((with_reducible refine i_rEq ?hs ?_); (case hs => exact rfl))
  | ((with_reducible refine i_rNe ?hs ?_); (case hs => exact rfl))
  | ((with_reducible refine i_rI ?hc ?_); (case hc => walk_at "sd"))
  | ((with_reducible refine i_ixL (xs := ?xs) (v := ?vv) ?hS ?he ?_); (case hS => walk_at "sq"); (case he => exact rfl))
  | ((with_reducible refine i_setL (xs := ?xs) (j := ?jj) ?hS ?he ?_); (case hS => walk_at "hp"); (case he => exact rfl))
  | with_reducible refine i_tup ?_
  | with_reducible refine i_lst ?_
  | with_reducible refine i_bm ?_
  | with_reducible refine i_bm0 ?_
  | with_reducible refine i_m1 ?_
  | with_reducible refine i_sl ?_
  | with_reducible refine i_nopart ?_
  | with_reducible refine i_part ?_
  | with_reducible refine i_int ?_
  | with_reducible refine i_str ?_
  | with_reducible refine i_for ?_
  | with_reducible refine i_yes ?_
  | ((with_reducible refine i_lenL (xs := ?xs) ?hS ?_); (case hS => walk_at "sq"))
  | ((with_reducible refine i_room ?hz ?_); (case hz => walk_at "len"))
  | with_reducible refine i_leT ?_
  | with_reducible refine i_notInS ?_
  | with_reducible refine i_inS ?_
  | with_reducible refine i_find ?_
  | with_reducible refine i_isB ?_
  | with_reducible refine i_max2 ?_
  | with_reducible refine i_min2 ?_
  | with_reducible exact trivial
  | with_reducible refine iteT ?_
  | with_reducible refine iteF ?_
  | with_reducible refine i_isstr ?_
  | with_reducible refine i_lc ?_
  | ((with_reducible refine i_cat (xs := ?xs) (zs := ?zs) ?ha ?hb ?hz ?_); (case ha => walk_at "hp"); (case hb => walk_at "hp"); (case hz => walk_at "len"))
  | ((with_reducible refine i_tyL (xs := ?xs) ?ha ?_); (case ha => walk_at "hp"))
  | with_reducible refine i_list ?_
  | with_reducible refine i_disp ?_
  | with_reducible refine i_pairs0 ?_
  | with_reducible refine i_pairs ?_
  | with_reducible refine i_newK ?_
  | with_reducible refine i_gcons ?_
  | with_reducible refine i_gnil ?_
  | with_reducible refine i_revL ?_
  | with_reducible refine i_rng1 ?_
  | ((with_reducible refine i_wipe ?hw ?_); (case hw => exact rfl))
  | with_reducible refine iteNT ?_
  | with_reducible refine iteNF ?_)
local macro_rules | `(tactic| walk_at "sx") => `(tactic| first
  | walk_at "st"
  | with_reducible refine i_kinit ?_
  | with_reducible refine i_ost ?_
  | with_reducible refine i_mkO ?_
  | with_reducible refine i_callE ?_
  | with_reducible refine i_makeE ?_
  | with_reducible refine i_xf ?_
  | with_reducible refine i_sfld ?_
  | with_reducible refine i_fld ?_
  | ((with_reducible refine i_ixT (xs := ?xs) (v := ?vv) ?hS ?he ?_); (case hS => exact SqT.tup (by walk_at "hp")); (case he => exact rfl))
  | with_reducible refine i_intB ?_
  | with_reducible refine i_runS ?_
  | with_reducible refine i_runN ?_
  | ((with_reducible refine i_xf1 (fs := ?ff) (v := ?vv) ?hx ?hl ?_); (case hx => walk_at "hp"); (case hl => exact rfl))
  | with_reducible refine i_methE ?_
  | with_reducible refine i_meth ?_
  | with_reducible refine i_make ?_
  | ((with_reducible refine i_obj (dx := ?dd) (fs := ?ff) ?hx ?hl ?_); (case hx => walk_at "hp"); (case hl => exact rfl))
  | ((with_reducible refine i_fld1 (C := ?CC) (dx := ?dd) (fs := ?ff) (v := ?vv) ?hx ?cl ?na ?hl ?_); (case hx => walk_at "hp"); (case cl => assumption); (case na => assumption); (case hl => exact rfl)))
local macro_rules | `(tactic| walk_at "sy") => `(tactic| first
  | walk_at "sx"
  | with_reducible refine i_dget ?_
  | with_reducible refine i_dget2 ?_
  | with_reducible refine i_dput ?_
  | with_reducible refine i_din ?_
  | ((with_reducible refine i_aug (x := ?vv) ?hx ?_); (case hx => exact rfl)))
local macro_rules | `(tactic| walk_at "rd") => `(tactic| repeat (walk_at "sy"))

section
def Asc (u : Str) : Prop := ∀ c ∈ tl u, c < 128
theorem Asc.add {x y : Str} (a : Asc x) (b : Asc y) : Asc (x ++ y) := fun c hc => by
  rw [tl_append] at hc
  exact (List.mem_append.mp hc).elim (a c) (b c)
theorem Asc.cut {z : Str} {lo hi : Option Int} (a : Asc z) : Asc (cutS z lo hi) := cut_all a
theorem asc_joinL {S : List Nat} (hS : ∀ c ∈ S, c < 128) : ∀ L : List (List Nat), (∀ l ∈ L, ∀ c ∈ l, c < 128) → ∀ c ∈ TL.joinL S L, c < 128
  | [], _, c, hc => by cases hc
  | [p], h, c, hc => h p (List.mem_cons_self ..) c hc
  | p :: q :: r, h, c, hc => by
    have hc : c ∈ p ++ (S ++ TL.joinL S (q :: r)) := hc
    rcases List.mem_append.mp hc with z | z
    · exact h p (List.mem_cons_self ..) c z
    · rcases List.mem_append.mp z with z | z
      · exact hS c z
      · exact asc_joinL hS (q :: r) (fun l hl => h l (List.mem_cons_of_mem _ hl)) c z
theorem tl_joinS (y : Str) (xs : List Str) : tl (Txt.join y xs) = TL.joinL (tl y) (xs.map tl) := by
  show TL.tl (Txt.join y xs) = TL.joinL (TL.tl y) (xs.map TL.tl)
  rw [TL.join_eq, TL.tl_join]
theorem Asc.join {y : Str} {xs : List Str} (a : Asc y) (h : ∀ x ∈ xs, Asc x) : Asc (Txt.join y xs) := by
  intro c hc
  rw [tl_joinS] at hc
  refine asc_joinL a _ ?_ c hc
  intro l hl
  obtain ⟨x, hx, rfl⟩ := List.mem_map.mp hl
  exact h x hx
theorem joinL_mem {S : List Nat} : ∀ (L : List (List Nat)) (l : List Nat), l ∈ L → ∀ c ∈ l, c ∈ TL.joinL S L
  | [p], l, hl, c, hc => by obtain rfl := List.mem_singleton.mp hl; exact hc
  | p :: q :: r, l, hl, c, hc => by
    show c ∈ p ++ (S ++ TL.joinL S (q :: r))
    rcases List.mem_cons.mp hl with rfl | hl
    · exact List.mem_append_left _ hc
    · exact List.mem_append_right _ (List.mem_append_right _ (joinL_mem (q :: r) l hl c hc))
theorem Asc.split {x y : Str} {s : Nat} (h : TL.tl y = [s]) (hk : (y.cps.all fun x => decide (x < 256)) = true) (a : Asc x) : ∀ r ∈ Txt.split x y, Asc r := by
  intro r hr c hc
  have j := (split1 (x := x) h hk).2
  refine a c ?_
  rw [← j, tl_joinS]
  exact joinL_mem _ _ (List.mem_map.mpr ⟨r, hr, rfl⟩) c hc
theorem asc_of (s : Str) (h : (s.cps.toList.all fun c => decide (c < 128)) = true) : Asc s := fun c hc => of_decide_eq_true (List.all_eq_true.mp h c hc)
theorem asc_bl : Asc (Str.ofString " ") := asc_of _ (by decide +kernel)
theorem replL_ok : ∀ (n : Nat) (l : List Nat), l.length ≤ n → (∀ c ∈ l, c < 128) → (StrLaws.replL [32, 47, 32] [10] l).length ≤ l.length ∧ ∀ c ∈ StrLaws.replL [32, 47, 32] [10] l, c < 128
  | _, [], _, _ => by rw [StrLaws.replL_nil]; exact ⟨Nat.le_refl _, fun c h => nomatch h⟩
  | n + 1, c :: r, hl, ha => by
    rw [List.length_cons] at hl
    by_cases h : (c :: r).take 3 = [32, 47, 32]
    · have l3 : 3 ≤ (c :: r).length := by
        have := congrArg List.length h
        rw [List.length_take] at this
        simp only [List.length_cons, List.length_nil] at this ⊢; omega
      have ld : ((c :: r).drop 3).length ≤ n := by rw [List.length_drop, List.length_cons]; omega
      obtain ⟨i1, i2⟩ := replL_ok n ((c :: r).drop 3) ld fun x hx => ha x (List.mem_of_mem_drop hx)
      have e : StrLaws.replL [32, 47, 32] [10] (c :: r) = [10] ++ StrLaws.replL [32, 47, 32] [10] ((c :: r).drop 3) := StrLaws.replL_hit (y := [32, 47, 32]) (by simp) h
      rw [e]
      show ([10] ++ StrLaws.replL [32, 47, 32] [10] ((c :: r).drop 3)).length ≤ _ ∧ _
      refine ⟨?_, fun x hx => ?_⟩
      · rw [List.length_append]
        rw [List.length_drop] at i1
        show 1 + _ ≤ _
        omega
      · rcases List.mem_append.mp hx with z | z
        · rw [List.mem_singleton.mp z]; decide
        · exact i2 x z
    · obtain ⟨i1, i2⟩ := replL_ok n r (by omega) fun x hx => ha x (List.mem_cons_of_mem _ hx)
      have e : StrLaws.replL [32, 47, 32] [10] (c :: r) = c :: StrLaws.replL [32, 47, 32] [10] r := StrLaws.replL_miss (y := [32, 47, 32]) h
      rw [e]
      refine ⟨by rw [List.length_cons, List.length_cons]; omega, fun x hx => ?_⟩
      rcases List.mem_cons.mp hx with rfl | z
      · exact ha _ (List.mem_cons_self ..)
      · exact i2 x z
  | 0, c :: r, hl, _ => absurd hl (by simp)
theorem rowsR_ok {s : Str} (a : Asc s) : (rowsR s).length ≤ s.length ∧ Asc (rowsR s) := by
  obtain ⟨i1, i2⟩ := replL_ok _ (tl s) (Nat.le_refl _) a
  refine ⟨?_, fun c hc => i2 c (by rw [← rows_list]; exact hc)⟩
  rw [← rows_list, tl_len, tl_len] at i1
  exact i1
theorem digits_lt : ∀ (cs : List Nat) (a : Nat), (∀ c ∈ cs, c ≤ 57) → List.foldl (fun acc c => acc * 10 + (c - 48)) a cs < (a + 1) * 10 ^ cs.length
  | [], a, _ => by simp
  | c :: r, a, h => by
    rw [List.foldl_cons]
    have ih := digits_lt r (a * 10 + (c - 48)) (fun x hx => h x (List.mem_cons_of_mem _ hx))
    have hc := h c (List.mem_cons_self ..)
    have e : a * 10 + (c - 48) + 1 ≤ (a + 1) * 10 := by omega
    refine Nat.lt_of_lt_of_le ih (Nat.le_trans (Nat.mul_le_mul_right _ e) ?_)
    rw [List.length_cons, Nat.pow_succ, Nat.mul_assoc, Nat.mul_comm 10]
    exact Nat.le_refl _
theorem numV_lt {s : Str} {n : Int} (h : numV s = .int n) : 0 ≤ n ∧ n < 10 ^ 12 := by
  unfold numV at h
  split at h
  · cases h
  · rename_i c1
    split at h
    · cases h
    · split at h
      · rename_i c3
        have e : (PySem.NumText.digitsVal (tl s) : Int) = n := by injection h
        have b := digits_lt (tl s) 0 (fun c hc => (c3 c hc).2)
        have l : (tl s).length ≤ 12 := by rw [tl_len]; omega
        have p : 10 ^ (tl s).length ≤ 10 ^ 12 := Nat.pow_le_pow_right (by decide) l
        have b' : PySem.NumText.digitsVal (tl s) < 10 ^ 12 := Nat.lt_of_lt_of_le b (by rw [Nat.zero_add, Nat.one_mul]; exact p)
        have p12 : (10 : Nat) ^ 12 = 1000000000000 := by decide
        have p12' : (10 : Int) ^ 12 = 1000000000000 := by decide
        rw [p12] at b'
        rw [p12']
        omega
      · cases h
def ShV (n : Nat) (v : V) : Prop := (∃ z, v = .str z ∧ z.length ≤ n ∧ Asc z) ∨ ∃ i : Int, v = .int i ∧ i.natAbs < 10 ^ 60
theorem ShV.mono {n m : Nat} {v : V} (h : ShV n v) (l : n ≤ m) : ShV m v := by
  rcases h with ⟨z, e, a, b⟩ | h
  · exact .inl ⟨z, e, Nat.le_trans a l, b⟩
  · exact .inr h
theorem zip_mem {bs : List Bool} {r : List Str} {v : V} (h : v ∈ List.zipWith thV bs r) : ∃ bb ww, ww ∈ r ∧ v = thV bb ww := by
  obtain ⟨i, hi, rfl⟩ := List.mem_iff_getElem.mp h
  rw [List.length_zipWith] at hi
  exact ⟨bs[i]'(by omega), r[i]'(by omega), List.getElem_mem _, by rw [List.getElem_zipWith]⟩
theorem lineD_ok {s k : Str} {ths : List V} (h : lineD s = some (k, ths)) (a : Asc s) : k.length ≤ s.length ∧ Asc k ∧ ths.length ≤ 3 ∧ ∀ v ∈ ths, ShV s.length v := by
  unfold lineD at h
  split at h
  · cases h
  · have ss := (split1 (x := s) tl_bl (by decide +kernel)).1.2.2
    have sa := Asc.split (x := s) tl_bl (by decide +kernel) a
    have jj := (split1 (x := s) tl_bl (by decide +kernel)).2
    cases e : Txt.split s (Str.ofString " ") with
    | nil => rw [e] at h; cases h
    | cons kk r =>
      rw [e] at h ss sa jj
      have s1 := ss kk (List.mem_cons_self ..)
      have s2 := sa kk (List.mem_cons_self ..)
      have h : (if kk = Str.ofString "open" ∧ r ≠ [] then some (kk, [.str (rowsR (Txt.join (Str.ofString " ") r))])
        else match fm kk with
          | none => none
          | some bs => if bs.length ≠ r.length then none else if V.non ∈ List.zipWith thV bs r then none else some (kk, List.zipWith thV bs r)) = some (k, ths) := h
      split at h
      · cases h
        have jt := join_tail k r
        rw [jj] at jt
        have ra := rowsR_ok (Asc.join asc_bl (fun x hx => sa x (List.mem_cons_of_mem _ hx)))
        refine ⟨s1, s2, by simp, fun v hv => ?_⟩
        obtain rfl := List.mem_singleton.mp hv
        exact .inl ⟨_, rfl, Nat.le_trans ra.1 jt, ra.2⟩
      · cases hf : fm kk with
        | none => rw [hf] at h; cases h
        | some bs =>
          rw [hf] at h
          have h : (if bs.length ≠ r.length then none else if V.non ∈ List.zipWith thV bs r then none else some (kk, List.zipWith thV bs r)) = some (k, ths) := h
          split at h
          · cases h
          · split at h
            · cases h
            · rename_i nn
              cases h
              refine ⟨s1, s2, by rw [List.length_zipWith]; have := fm_len hf; omega, fun v hv => ?_⟩
              have hv' := hv
              obtain ⟨bb, ww, hw, rfl⟩ := zip_mem hv
              cases bb with
              | false => exact .inl ⟨ww, rfl, ss _ (List.mem_cons_of_mem _ hw), sa _ (List.mem_cons_of_mem _ hw)⟩
              | true =>
                rcases numV_cases ww with z | ⟨n, z⟩
                · exact absurd (show V.non ∈ _ from (show thV true ww = .non from z) ▸ hv') nn
                · have := numV_lt z
                  refine .inr ⟨n, z, ?_⟩
                  have p12' : (10 : Int) ^ 12 = 1000000000000 := by decide
                  have : (1000000000000 : Nat) < 10 ^ 60 := by decide
                  omega
/-- the datum that repr shows -/
def pdV : V → PyData
  | .str s => .str s
  | .int i => .int i
  | _ => .none
def dataL (k : Str) (ths : List V) : PyData := .tuple [.str k, .list (ths.map pdV)]
theorem str_sm {K : PySem.W.Frag} {H : Hp} {z : Str} (l : z.length ≤ 500) (a : Asc z) : Sm K H 0 6000 (.str z) (.str z) := by
  have b := PySem.StrLaws.reprText_len z (fun c h => Nat.lt_trans (a c h) (by decide))
  refine ⟨.str _, rfl, Nat.le_refl _, ?_⟩
  show (reprText z).length ≤ _
  omega
theorem shv_sm {K : PySem.W.Frag} {H : Hp} {v : V} (h : ShV 500 v) : Sm K H 0 6000 v (pdV v) := by
  rcases h with ⟨z, rfl, l, a⟩ | ⟨i, rfl, b⟩
  · exact str_sm l a
  · exact ((Ps.int b).sm (k := 0)).mono (Nat.le_refl _) (by decide)
theorem smAll_map {K : PySem.W.Frag} {H : Hp} {k L : Nat} {α : Type} {f : α → V} {g : α → PyData} : ∀ {xs : List α}, (∀ x ∈ xs, Sm K H k L (f x) (g x)) → SmAll K H k L (xs.map f) (xs.map g)
  | [], _ => .nil
  | x :: r, h => .cons (h x (List.mem_cons_self ..)) (smAll_map fun y hy => h y (List.mem_cons_of_mem _ hy))
theorem line_rp {K : PySem.W.Frag} {H : Hp} {p l : Addr} {k : Str} {ths : List V} (hp : H p = some (.tup [.str k, .ref l])) (hl : H l = some (.lst ths)) (k5 : k.length ≤ 500) (ka : Asc k) (t3 : ths.length ≤ 3) (hv : ∀ v ∈ ths, ShV 500 v) : Rp K H (.ref p) (dataL k ths) := by
  have a := Sm.lst (K := K) (k := 0) (L := 6000) hl (by have := smAll_map (K := K) (H := H) (k := 0) (L := 6000) (f := id) (g := pdV) (xs := ths) fun v h => shv_sm (hv v h); rwa [List.map_id] at this)
  have a' : Sm K H 1 18009 (.ref l) (.list (ths.map pdV)) := a.mono (Nat.le_refl _) (by omega)
  have b := Sm.tup (K := K) (k := 1) (L := 18009) hp (.cons ((str_sm (K := K) k5 ka).mono (by omega) (by omega)) (.cons a' .nil))
  exact b.rp (by omega) (Nat.le_trans (show 18009 * 2 + 2 * 2 + 3 ≤ 100000 by decide) (sz_of (by decide)))
end

section
variable {P : Program} {w : World} {K : PySem.W.Frag} {mg : Str → Option Value} {base : Heap}
/-- a thing that is no text: one of the usual, or an error of the program's own -/
def NoText (T : Top w K mg) (H : Hp) (v : V) : Prop := (∃ t, TyX K H v t ∧ PySem.W.kitOne K t (.type "str") = some false) ∨ ∃ (a d : Addr) (fs : List (Str × V)), v = .ref a ∧ H a = some (exo a T.a_NoLine (some d)) ∧ H d = some (exd d fs)
theorem NoText.isi {T : Top w K mg} {H : Hp} {v : V} (nt : NoText T H v) {Q : VK} (q : Q (.bl false) H) : rIsiO K T.a_NoLine [v, .ty "str"] H Q := by
  rcases nt with ⟨t, a, b⟩ | ⟨a, d, fs, rfl, h1, h2⟩
  · exact .inl (i_isiC a b q)
  · exact .inr ⟨a, d, fs, .ty "str", .type "str", false, rfl, .ty "str", h1, h2, T.io_NoLine_str, q⟩
def spLReadNo (T : Top w K mg) : Sp := fun vs H Q _ => ∃ v, vs = [v] ∧ NoText T H v ∧ ∀ H', Same H H' → Q .non H'
theorem ok_lreadNo (T : Top w K mg) : FnG P w K mg base CX0 2 T.a_read T.d_read ["_law_line_here"] (spLReadNo T) := by
  have G_form := ok_form (P := P) (w := w) (base := base) T
  have G_figures := ok_figures (P := P) (w := w) (base := base) T
  have G_rows_of := ok_rows_of (P := P) (w := w) (base := base) T
  refine okG T.F_read sc_read (fun vs H Q E h => ?_) (fun cdv A outer s H vs Q E hr hgd h => ?_)
  · obtain ⟨v, rfl, _⟩ := h
    rfl
  · obtain ⟨v, rfl, nt, q⟩ := h
    have hu : _ := un1 hr
    have hu64 := un64 hr
    refine ⟨_, (pss_cons (ps_if (PW.pt (pw_or (pt_not (pt_val (pe_callB (c_isiO T.xi_NoLine) (by rfl) T.n_isinstance (by decide +kernel) (pa_cons (pv 0) (pa_cons (pe_bltn (v := .ty "str") (by rfl) T.n_str (by decide +kernel) rfl) pa_nil))))) (pw_or1 (pt_cmpR op_inS pe_str (pv 0) (by rfl)))))
        (pss_one (ps_ret pe_non))
        pss_nil)
      (pss_cons (ps_set (i := 1) sc_read.nd rfl (by first | exact Or.inl rfl | exact Or.inr rfl) (pe_split (pv 0) pe_str))
      (pss_cons (ps_set (i := 2) sc_read.nd rfl (by first | exact Or.inl rfl | exact Or.inr rfl) (g_call G_form (hr.mono (by decide)) hgd (by rfl) T.m_form T.F_form.kp T.b_form .nil pass0 (pa_cons (pe_ix ix_list (pv 1) pe_int (fun _ _ => rfl)) pa_nil)))
      (pss_cons (ps_if (pt_cmpR op_isN1 (pv 2) pe_non (nomark _))
        (pss_one (ps_ret pe_non))
        pss_nil)
      (pss_cons (ps_if (pt_cmpR op_eq (pv 2) pe_str (nomark _))
        (pss_one (ps_ret (pe_ifExp (pt_cmpR op_gt (pe_callB c_len (by rfl) T.n_len (by decide +kernel) (pa_cons (pv 1) pa_nil)) pe_int (nomark _)) (pe_tup (pa_cons (pe_ix ix_list (pv 1) pe_int (fun _ _ => rfl)) (pa_cons (pe_lst (pa_cons (g_call G_rows_of (hr.mono (by decide)) hgd (by rfl) T.m_rows_of T.F_rows_of.kp T.b_rows_of .nil pass0 (pa_cons (pe_slice sl_str (pv 0) (po_some pe_int) po_none) pa_nil)) pa_nil)) pa_nil))) pe_non)))
        pss_nil)
      (pss_cons (ps_if (pt_cmpR op_ne (pe_callB c_len (by rfl) T.n_len (by decide +kernel) (pa_cons (pv 1) pa_nil)) (pe_op op_add pe_int (pe_callB c_lenS (by rfl) T.n_len (by decide +kernel) (pa_cons (pv 2) pa_nil))) (nomark _))
        (pss_one (ps_ret pe_non))
        pss_nil)
      (pss_cons (ps_set (i := 3) sc_read.nd rfl (by first | exact Or.inl rfl | exact Or.inr rfl) (pe_lst pa_nil))
      (pss_cons (ps_for PassesOwn.never rfl (pi_zipS (by rfl) T.n_zip (pa_cons (pv 2) (pa_cons (pe_slice sl_list (pv 1) (po_some pe_int) po_none) pa_nil))) (pg_tup rfl (pgs_cons (pg_name (i := 4) sc_read.nd rfl (by first | exact Or.inl rfl | exact Or.inr rfl)) (pgs_cons (pg_name (i := 5) sc_read.nd rfl (by first | exact Or.inl rfl | exact Or.inr rfl)) pgs_nil)))
        (pss_cons (ps_if (PW.pt (pw_and (pt_cmpR op_eq (pv 4) pe_str (nomark _)) (pw_and1 (pt_not (pt_val (g_call G_figures (hr.mono (by decide)) hgd (by rfl) T.m_figures T.F_figures.kp T.b_figures .nil pass0 (pa_cons (pv 5) pa_nil)))))))
        (pss_one (ps_ret pe_non))
        pss_nil)
      (pss_one (ps_expr (pe_bm PySem.F.plainAttrs_list PySem.F.slot_list_append PySem.F.type_list_append mt_append (pv 3) (pa_cons (pe_ifExp (pt_cmpR op_eq (pv 4) pe_str (nomark _)) (pe_callTy c_intS (by rfl) T.n_int (by decide +kernel) (pa_cons (pv 5) pa_nil)) (pv 5)) pa_nil))))))
      (pss_one (ps_ret (pe_tup (pa_cons (pe_ix ix_list (pv 1) pe_int (fun _ _ => rfl)) (pa_cons (pv 3) pa_nil))))))))))))), ?_⟩
    walk_at "rd"
    refine nt.isi ?_
    walk_at "rd"
    exact q _ (Same.refl _)
end

end Ice

set_option Elab.async false
set_option linter.all false
set_option maxRecDepth 100000
set_option maxHeartbeats 4000000
set_option autoImplicit true
namespace Ice
open PySem PySem.Spec PyProof.Rows L2 TL
/-! side conditions, heaps, one step of a reading, and many -/
local macro_rules | `(tactic| walk_at "hp") => `(tactic| first | assumption | exact upd_same | exact New.at_ (by assumption) | (refine keepU ?_ (by assumption); walk_at "hp") | (refine New.app (by assumption) ?_; walk_at "hp") | (refine Same.app (by assumption) ?_; walk_at "hp") | (refine But.app (by assumption) (by assumption) ?_; walk_at "hp"))
local macro_rules | `(tactic| walk_at "sq") => `(tactic| first | assumption | exact SqL.lst (by walk_at "hp") | exact L2.Same.seq (New.same (by assumption)) (by assumption) | exact L2.Same.seq (by assumption) (by assumption))
local macro_rules | `(tactic| walk_at "len") => `(tactic| first | assumption | (simp only [List.length_cons, List.length_nil, List.length_append, List.length_map]; decide) | (refine Ice.sz_of ?_; simp only [List.length_cons, List.length_nil, List.length_append, List.length_map]; omega))
local macro_rules | `(tactic| walk_at "fresh") => `(tactic| (simp only [List.map_append, List.map_cons, List.map_nil, List.nil_append, List.cons_append]; decide +kernel))
local macro_rules | `(tactic| walk_at "sd") => `(tactic| first | assumption | (show _ ≠ _; omega) | exact Or.inl ⟨by omega, by omega⟩ | exact Or.inr ⟨by omega, by omega⟩ | exact ⟨by decide, by decide⟩ | exact ⟨by decide, by decide, by decide⟩ | exact ⟨by omega, by omega, by omega⟩)
/-! one step of a reading, and many -/
local macro_rules | `(tactic| walk_at "st") => `(tactic| first
  | with_reducible refine i_seq ?_
  | with_reducible refine i_if ?_
  | with_reducible refine i_next ?_
  | with_reducible refine i_ret ?_
  | with_reducible refine i_retN ?_
  | with_reducible refine i_drop ?_
  | with_reducible refine i_asg ?_
  | with_reducible refine i_gname ?_
  | with_reducible refine i_gsub ?_
  | ((with_reducible refine i_var (v := ?vv) ?hv ?_); (case hv => exact rfl))
  | with_reducible refine i_c ?_
  | with_reducible refine i_op ?_
  | with_reducible refine i_un ?_
  | with_reducible refine i_test ?_
  | with_reducible refine i_tB ?_
  | with_reducible refine i_and ?_
  | with_reducible refine i_or ?_
  | with_reducible refine i_not ?_
  | with_reducible refine i_andV ?_
  | with_reducible refine i_orV ?_
  | with_reducible refine i_notV ?_
  | with_reducible refine i_ifE ?_
  | with_reducible refine i_chain ?_
  | with_reducible refine i_bl ?_
  | with_reducible refine i_nil ?_
  | with_reducible refine i_cons ?_
  | with_reducible refine i_call ?_
  | with_reducible refine i_cb ?_
  | with_reducible refine i_rI0 ?_
  | with_reducible refine i_rU ?_
  | ((with_reducible refine i_rEq ?hs ?_); (case hs => exact rfl))
  | ((with_reducible refine i_rNe ?hs ?_); (case hs => exact rfl))
  | ((with_reducible refine i_rI ?hc ?_); (case hc => walk_at "sd"))
  | ((with_reducible refine i_ixL (xs := ?xs) (v := ?vv) ?hS ?he ?_); (case hS => walk_at "sq"); (case he => exact rfl))
  | ((with_reducible refine i_setL (xs := ?xs) (j := ?jj) ?hS ?he ?_); (case hS => walk_at "hp"); (case he => exact rfl))
  | with_reducible refine i_tup ?_
  | with_reducible refine i_lst ?_
  | with_reducible refine i_bm ?_
  | with_reducible refine i_bm0 ?_
  | with_reducible refine i_m1 ?_
  | with_reducible refine i_sl ?_
  | with_reducible refine i_nopart ?_
  | with_reducible refine i_part ?_
  | with_reducible refine i_int ?_
  | with_reducible refine i_str ?_
  | with_reducible refine i_for ?_
  | with_reducible refine i_yes ?_
  | ((with_reducible refine i_lenL (xs := ?xs) ?hS ?_); (case hS => walk_at "sq"))
  | ((with_reducible refine i_room ?hz ?_); (case hz => walk_at "len"))
  | with_reducible refine i_leT ?_
  | with_reducible refine i_notInS ?_
  | with_reducible refine i_inS ?_
  | with_reducible refine i_find ?_
  | with_reducible refine i_isB ?_
  | with_reducible refine i_max2 ?_
  | with_reducible refine i_min2 ?_
  | with_reducible exact trivial
  | with_reducible refine iteT ?_
  | with_reducible refine iteF ?_
  | with_reducible refine i_isstr ?_
  | with_reducible refine i_lc ?_
  | ((with_reducible refine i_cat (xs := ?xs) (zs := ?zs) ?ha ?hb ?hz ?_); (case ha => walk_at "hp"); (case hb => walk_at "hp"); (case hz => walk_at "len"))
  | ((with_reducible refine i_tyL (xs := ?xs) ?ha ?_); (case ha => walk_at "hp"))
  | with_reducible refine i_list ?_
  | with_reducible refine i_disp ?_
  | with_reducible refine i_pairs0 ?_
  | with_reducible refine i_pairs ?_
  | with_reducible refine i_newK ?_
  | with_reducible refine i_gcons ?_
  | with_reducible refine i_gnil ?_
  | with_reducible refine i_revL ?_
  | with_reducible refine i_rng1 ?_
  | ((with_reducible refine i_wipe ?hw ?_); (case hw => exact rfl))
  | with_reducible refine iteNT ?_
  | with_reducible refine iteNF ?_)
local macro_rules | `(tactic| walk_at "sx") => `(tactic| first
  | walk_at "st"
  | with_reducible refine i_kinit ?_
  | with_reducible refine i_ost ?_
  | with_reducible refine i_mkO ?_
  | with_reducible refine i_callE ?_
  | with_reducible refine i_makeE ?_
  | with_reducible refine i_xf ?_
  | with_reducible refine i_sfld ?_
  | with_reducible refine i_fld ?_
  | ((with_reducible refine i_ixT (xs := ?xs) (v := ?vv) ?hS ?he ?_); (case hS => exact SqT.tup (by walk_at "hp")); (case he => exact rfl))
  | with_reducible refine i_intB ?_
  | with_reducible refine i_runS ?_
  | with_reducible refine i_runN ?_
  | ((with_reducible refine i_xf1 (fs := ?ff) (v := ?vv) ?hx ?hl ?_); (case hx => walk_at "hp"); (case hl => exact rfl))
  | with_reducible refine i_methE ?_
  | with_reducible refine i_meth ?_
  | with_reducible refine i_make ?_
  | ((with_reducible refine i_obj (dx := ?dd) (fs := ?ff) ?hx ?hl ?_); (case hx => walk_at "hp"); (case hl => exact rfl))
  | ((with_reducible refine i_fld1 (C := ?CC) (dx := ?dd) (fs := ?ff) (v := ?vv) ?hx ?cl ?na ?hl ?_); (case hx => walk_at "hp"); (case cl => assumption); (case na => assumption); (case hl => exact rfl)))
local macro_rules | `(tactic| walk_at "sy") => `(tactic| first
  | walk_at "sx"
  | with_reducible refine i_dget ?_
  | with_reducible refine i_dget2 ?_
  | with_reducible refine i_dput ?_
  | with_reducible refine i_din ?_
  | ((with_reducible refine i_aug (x := ?vv) ?hx ?_); (case hx => exact rfl)))
local macro_rules | `(tactic| walk_at "rd") => `(tactic| repeat (walk_at "sy"))

section
variable {P : Program} {w : World} {K : PySem.W.Frag} {mg : Str → Option Value} {base : Heap}
/-- the length of words with a sign behind each -/
def wS (xs : List Str) : Nat := (xs.map fun x => x.length + 1).sum
theorem wS_app (a b : List Str) : wS (a ++ b) = wS a + wS b := by unfold wS; rw [List.map_append, List.sum_append]
theorem wS_cons (x : Str) (b : List Str) : wS (x :: b) = x.length + 1 + wS b := by unfold wS; rw [List.map_cons, List.sum_cons]
theorem wS_cut (xs : List Str) (k : Nat) : wS (xs.take k) + wS (xs.drop k) = wS xs := by rw [← wS_app, List.take_append_drop]
theorem joinLW (s : Nat) : ∀ (L : List (List Nat)), L ≠ [] → (TL.joinL [s] L).length + 1 = (L.map fun x => x.length + 1).sum
  | [], h => absurd rfl h
  | [p], _ => by show p.length + 1 = _; simp
  | p :: q :: r, _ => by
    have ih := joinLW s (q :: r) (by simp)
    show (p ++ ([s] ++ TL.joinL [s] (q :: r))).length + 1 = _
    rw [List.map_cons, List.sum_cons, ← ih]
    simp
    omega
theorem join_lenW {y : Str} {s : Nat} (h : TL.tl y = [s]) {xs : List Str} (ne : xs ≠ []) : (Txt.join y xs).length + 1 = wS xs := by
  have e : (TL.tl (Txt.join y xs)).length = (Txt.join y xs).length := tl_len _
  rw [← e, TL.join_eq, TL.tl_join, h, joinLW s _ (by simpa using ne), List.map_map]
  unfold wS
  refine congrArg List.sum ?_
  exact List.map_congr_left fun x _ => by show (TL.tl x).length + 1 = _; rw [show (TL.tl x).length = x.length from tl_len x]
theorem join_le {y : Str} {s : Nat} (h : TL.tl y = [s]) (xs : List Str) : (Txt.join y xs).length ≤ wS xs := by
  cases xs with
  | nil =>
    have e : (TL.tl (Txt.join y [])).length = (Txt.join y []).length := tl_len _
    rw [← e, TL.join_eq, TL.tl_join]; exact Nat.zero_le _
  | cons a r => have := join_lenW h (xs := a :: r) (by simp); omega
theorem split_wS {x y : Str} {s : Nat} (h : TL.tl y = [s]) (hk : (y.cps.all fun x => decide (x < 256)) = true) : wS (Txt.split x y) = x.length + 1 := by
  obtain ⟨⟨a, _, _⟩, e⟩ := split1 (x := x) h hk
  rw [← join_lenW h a, e]
theorem wS_len (xs : List Str) : xs.length ≤ wS xs := by
  induction xs with
  | nil => exact Nat.zero_le _
  | cons a r ih => rw [wS_cons, List.length_cons]; omega
theorem wS_mem {xs : List Str} {x : Str} (h : x ∈ xs) : x.length + 1 ≤ wS xs := by
  induction xs with
  | nil => cases h
  | cons a r ih =>
    rw [wS_cons]
    rcases List.mem_cons.mp h with rfl | h
    · omega
    · have := ih h; omega
theorem wS_sum (xs : List Str) : (xs.map (·.length)).sum + xs.length = wS xs := by
  induction xs with
  | nil => rfl
  | cons a r ih => rw [wS_cons, List.map_cons, List.sum_cons, List.length_cons]; omega
theorem cutV_mid (xs : List V) {a e : Nat} (h : a + e ≤ xs.length) : cutV xs (some (a : Int)) (some ((a + e : Nat) : Int)) = (xs.drop a).take e := by
  unfold cutV
  rw [HT.sIx_nat, HT.sIx_nat, Nat.min_eq_left h, Nat.min_eq_left (by omega : a ≤ xs.length), Nat.add_sub_cancel_left]
end

section
variable {P : Program} {w : World} {K : PySem.W.Frag} {mg : Str → Option Value} {base : Heap}
theorem i_iStr {te : TE} {σ : L2.St} {H : Hp} {R : It → Hp → Prop} (h : te σ H fun v H1 => ∃ x, v = .str x ∧ R (Its x) H1) : iStr te σ H R := h
def wsA : List Str := [Str.ofString "open", Str.ofString "go", Str.ofString "back", Str.ofString "late", Str.ofString "undo", Str.ofString "redo", Str.ofString "show", Str.ofString "table", Str.ofString "whole", Str.ofString "led", Str.ofString "price", Str.ofString "standing"]
def wsB : List Str := [Str.ofString "stuck", Str.ofString "ice", Str.ofString "where", Str.ofString "last", Str.ofString "way", Str.ofString "free", Str.ofString "out", Str.ofString "best", Str.ofString "barred"]
theorem splA : Txt.split (Str.ofString "open go back late undo redo show table whole led price standing") (Str.ofString " ") = wsA := by decide +kernel
theorem splB : Txt.split (Str.ofString "stuck ice where last way free out best barred") (Str.ofString " ") = wsB := by decide +kernel
theorem ws_asc : ∀ x ∈ wsA ++ wsB, Asc x := by
  intro x hx
  have a : ((wsA ++ wsB).all fun x => x.cps.toList.all fun c => decide (c < 128)) = true := by decide +kernel
  exact asc_of x (List.all_eq_true.mp a x hx)
theorem ws_ok : ∀ x ∈ wsA ++ wsB, x.length ≤ 8 ∧ ∃ t, dueF x = .str t ∧ (tl t).length ≤ 3 := by
  intro x hx
  have a : ((wsA ++ wsB).all fun x => decide (x.length ≤ 8) && (match fmT x with | none => false | some t => decide ((tl t).length ≤ 3))) = true := by decide +kernel
  have b := List.all_eq_true.mp a x hx
  rw [Bool.and_eq_true] at b
  refine ⟨of_decide_eq_true b.1, ?_⟩
  unfold dueF
  cases e : fmT x with
  | none => rw [e] at b; exact absurd b.2 (by decide)
  | some t => rw [e] at b; exact ⟨t, rfl, of_decide_eq_true b.2⟩
def spLine : Sp := fun vs H Q _ => ∃ (b : Addr) (n : Nat), vs = [.ref b] ∧ Box H b n ∧ n ≤ 500 ∧ ∀ (u : Str) (H' : Hp), u.length ≤ 400 → Asc u → But b H H' → Box H' b (n + 60) → Q (.str u) H'
theorem ok_line (T : Top w K mg) : FnG P w K mg base CX0 2 T.a_line T.d_line ["_law_box_here"] spLine := by
  have G_form := ok_form (P := P) (w := w) (base := base) T
  have G_take := ok_take (P := P) (w := w) (base := base) T
  refine okG T.F_line sc_line (fun vs H Q E h => ?_) (fun cdv A outer s H vs Q E hr hgd h => ?_)
  · obtain ⟨b, n, rfl, _⟩ := h
    rfl
  · obtain ⟨b, n, rfl, hB, hn, q⟩ := h
    have hu : _ := un1 hr
    have zz : (100000 : Nat) ≤ sizeLine := sz_of (by decide)
    refine ⟨_, (pss_cons (ps_set (i := 1) sc_line.nd rfl (by first | exact Or.inl rfl | exact Or.inr rfl) (pe_split pe_str pe_str))
      (pss_cons (ps_set (i := 2) sc_line.nd rfl (by first | exact Or.inl rfl | exact Or.inr rfl) (pe_ix ix_list (pe_op op_cat (pv 1) (pe_split pe_str pe_str)) (g_call G_take (hr.mono (by decide)) hgd (by rfl) T.m_take T.F_take.kp T.b_take .nil pass0 (pa_cons (pv 0) (pa_cons pe_int pa_nil))) (fun _ _ => rfl)))
      (pss_cons (ps_set (i := 3) sc_line.nd rfl (by first | exact Or.inl rfl | exact Or.inr rfl) pe_str)
      (pss_cons (ps_set (i := 4) sc_line.nd rfl (by first | exact Or.inl rfl | exact Or.inr rfl) (pe_lst (pa_cons (pv 2) pa_nil)))
      (pss_cons (ps_for PassesOwn.never rfl (pi_str (g_call G_form (hr.mono (by decide)) hgd (by rfl) T.m_form T.F_form.kp T.b_form .nil pass0 (pa_cons (pv 2) pa_nil))) (pg_name (i := 5) sc_line.nd rfl (by first | exact Or.inl rfl | exact Or.inr rfl))
        (pss_one (ps_if (pt_cmpR op_eq (pv 5) pe_str (nomark _))
        (pss_cons (ps_set (i := 6) sc_line.nd rfl (by first | exact Or.inl rfl | exact Or.inr rfl) (pe_ix ix_list (pe_lst (pa_cons pe_int (pa_cons pe_int (pa_cons pe_int (pa_cons pe_int (pa_cons pe_int pa_nil)))))) (g_call G_take (hr.mono (by decide)) hgd (by rfl) T.m_take T.F_take.kp T.b_take .nil pass0 (pa_cons (pv 0) (pa_cons pe_int pa_nil))) (fun _ _ => rfl)))
      (pss_one (ps_expr (pe_bm PySem.F.plainAttrs_list PySem.F.slot_list_append PySem.F.type_list_append mt_append (pv 4) (pa_cons (pe_m1 PySem.F.slot_str_join PySem.F.type_str_join m_join pe_str (pe_lc (own := [("_law_k", 9)]) (g := gName 9) rfl sc_line.nd (pi_range1 (by rfl) T.n_range (pa_cons (pv 6) pa_nil)) (blkOk_by (own := [("_law_k", 9)]) (N := ["_law_box_here", "_law_words", "_law_word", "_law_letters", "_law_found_here", "_law_sign", "_law_size", "_law_parts", "_law_some", "_law_k"]) (sc := defScope s_line) (by decide +kernel)) (fun _ _ _ _ _ => (pg_name (i := 9) sc_line.nd rfl (by first | exact Or.inl rfl | exact Or.inr rfl))) (fun _ _ _ _ _ => pts_nil) (fun _ _ _ _ _ => (pe_ix ix_str pe_str (g_call G_take (hr.mono (by decide)) hgd (by rfl) T.m_take T.F_take.kp T.b_take .nil pass0 (pa_cons (pv 0) (pa_cons pe_int pa_nil))) (fun _ _ => rfl))))) pa_nil)))))
        (pss_one (ps_if (pt_cmpR op_eq (pv 5) pe_str (nomark _))
        (pss_one (ps_expr (pe_bm PySem.F.plainAttrs_list PySem.F.slot_list_append PySem.F.type_list_append mt_append (pv 4) (pa_cons (pe_m1 PySem.F.slot_str_join PySem.F.type_str_join m_join pe_str (pe_lc (own := [("_law_k", 9)]) (g := gName 9) rfl sc_line.nd (pi_range1 (by rfl) T.n_range (pa_cons (g_call G_take (hr.mono (by decide)) hgd (by rfl) T.m_take T.F_take.kp T.b_take .nil pass0 (pa_cons (pv 0) (pa_cons pe_int pa_nil))) pa_nil)) (blkOk_by (own := [("_law_k", 9)]) (N := ["_law_box_here", "_law_words", "_law_word", "_law_letters", "_law_found_here", "_law_sign", "_law_size", "_law_parts", "_law_some", "_law_k"]) (sc := defScope s_line) (by decide +kernel)) (fun _ _ _ _ _ => (pg_name (i := 9) sc_line.nd rfl (by first | exact Or.inl rfl | exact Or.inr rfl))) (fun _ _ _ _ _ => pts_nil) (fun _ _ _ _ _ => (pe_ix ix_str (pv 3) (g_call G_take (hr.mono (by decide)) hgd (by rfl) T.m_take T.F_take.kp T.b_take .nil pass0 (pa_cons (pv 0) (pa_cons pe_int pa_nil))) (fun _ _ => rfl))))) pa_nil))))
        (pss_cons (ps_set (i := 7) sc_line.nd rfl (by first | exact Or.inl rfl | exact Or.inr rfl) (pe_lst (pa_cons pe_str (pa_cons pe_str (pa_cons pe_str (pa_cons pe_str (pa_cons pe_str (pa_cons pe_str (pa_cons pe_str (pa_cons pe_str (pa_cons pe_str pa_nil)))))))))))
      (pss_cons (ps_setLc (i := 8) (own := [("_law_k", 9)]) (g := gName 9) rfl sc_line.nd rfl rfl (sw_true rfl rfl rfl (by decide +kernel)) (pi_range1 (by rfl) T.n_range (pa_cons (g_call G_take (hr.mono (by decide)) hgd (by rfl) T.m_take T.F_take.kp T.b_take .nil pass0 (pa_cons (pv 0) (pa_cons pe_int pa_nil))) pa_nil)) (blkOk_by (own := [("_law_k", 9)]) (N := ["_law_box_here", "_law_words", "_law_word", "_law_letters", "_law_found_here", "_law_sign", "_law_size", "_law_parts", "_law_some", "_law_k"]) (sc := defScope s_line) (by decide +kernel)) (fun _ _ _ _ _ => (pg_name (i := 9) sc_line.nd rfl (by first | exact Or.inl rfl | exact Or.inr rfl))) (fun _ _ _ _ _ => pts_nil) (fun _ _ _ _ _ => (pe_ix (show IxR _ (rIxL K) from ix_list) (pe_lst (pa_cons pe_str (pa_cons pe_str (pa_cons (pe_ix (show IxR _ (rIxL K) from ix_list) (pv 7) (g_call G_take (hr.mono (by decide)) hgd (by rfl) T.m_take T.F_take.kp T.b_take .nil pass0 (pa_cons (pv 0) (pa_cons pe_int pa_nil))) (fun _ _ => rfl)) pa_nil)))) (g_call G_take (hr.mono (by decide)) hgd (by rfl) T.m_take T.F_take.kp T.b_take .nil pass0 (pa_cons (pv 0) (pa_cons pe_int pa_nil))) (fun _ _ => rfl))))
      (pss_one (ps_expr (pe_bm PySem.F.plainAttrs_list PySem.F.slot_list_append PySem.F.type_list_append mt_append (pv 4) (pa_cons (pe_m1 PySem.F.slot_str_join PySem.F.type_str_join m_join pe_str (pv 8)) pa_nil)))))))))))
      (pss_one (ps_ret (pe_m1 PySem.F.slot_str_join PySem.F.type_str_join m_join pe_str (pv 4))))))))), ?_⟩
    walk_at "rd"
    refine ⟨_, _, rfl, rfl, by decide +kernel, by have : (Str.ofString "open go back late undo redo show table whole led price standing").length + 2 ≤ 100000 := (by decide +kernel); omega, ?_⟩
    rw [splA]
    show ∀ p, _
    (intro w1 hw1; generalize ew1 : upd _ w1 _ = J1; have N1 := New.of ew1 hw1; clear ew1 hw1)
    walk_at "rd"
    refine ⟨_, _, rfl, rfl, by decide +kernel, by have : (Str.ofString "stuck ice where last way free out best barred").length + 2 ≤ 100000 := (by decide +kernel); omega, ?_⟩
    rw [splB]
    show ∀ p, _
    (intro w2 hw2; generalize ew2 : upd _ w2 _ = J2; have N2 := New.of ew2 hw2; clear ew2 hw2)
    walk_at "rd"
    (intro w3 hw3; generalize ew3 : upd _ w3 _ = J3; have N3 := New.of ew3 hw3; clear ew3 hw3)
    have B3 := ((hB.nw N1).nw N2).nw N3
    walk_at "rd"
    refine ⟨b, 21, n, rfl, B3, by omega, by decide, by decide, fun d0 H4 d00 d01 e4 B4 => ?_⟩
    have k3 := e4 w3 _ (((hB.nw N1).nw N2).off N3) N3.at_
    rw [← List.map_append] at k3
    obtain ⟨v0, hv0, hm0, _⟩ := atI_some (xs := (wsA ++ wsB).map V.str) d00 (by rw [List.length_map]; exact d01)
    obtain ⟨wd, hwd, rfl⟩ := List.mem_map.mp hm0
    obtain ⟨l8, t, ht, l3⟩ := ws_ok wd hwd
    have e04 : But b H H4 := N1.but.trans (N2.but.trans (N3.but.trans e4))
    refine i_ixL (SqL.lst k3) hv0 ?_
    walk_at "rd"
    (intro D hD; generalize eD : upd _ D _ = J5; have N5 := New.of eD hD; clear eD hD)
    walk_at "rd"
    refine i_iStr ?_
    walk_at "rd"
    refine ⟨wd, rfl, fun J6 s6 => ?_⟩
    rw [ht]
    walk_at "rd"
    have bD : D ≠ b := B4.off N5
    refine for_text (fun i σ H' => But b H H' ∧ Box H' b (n + 1 + 17 * i) ∧ (∃ acc : List Str, H' D = some (.lst (acc.map V.str)) ∧ acc.length = i + 1 ∧ ∀ y ∈ acc, y.length ≤ 90 ∧ Asc y) ∧ ∃ z5 z6 z7 z8 z9, σ = [some (.ref b), some (.ref w1), some (.str wd), some (.str (Str.ofString "abcdefghijklmnopqrstuvwxyz")), some (.ref D), z5, z6, z7, z8, z9])
      ⟨e04.trans (N5.but.trans (Same.but s6)), (B4.nw N5).same s6, ⟨[wd], s6 _ _ N5.at_, rfl, fun y hy => by rw [List.mem_singleton.mp hy]; exact ⟨by omega, ws_asc wd hwd⟩⟩, _, _, _, _, _, rfl⟩ ?_ ?_
    · rintro i c σ H' hc ⟨e7, B7, ⟨acc, kD, la, ma⟩, z5, z6, z7, z8, z9, rfl⟩
      have hi : i < 3 := Nat.lt_of_lt_of_le (List.getElem?_eq_some_iff.mp hc).1 l3
      have fin : ∀ (u : Str) (H9 : Hp), u.length ≤ 90 → Asc u → But b H' H9 → Box H9 b (n + 1 + 17 * (i + 1)) → But b H (upd H9 D (.lst (acc.map V.str ++ [.str u]))) ∧ Box (upd H9 D (.lst (acc.map V.str ++ [.str u]))) b (n + 1 + 17 * (i + 1)) ∧ ∃ a2 : List Str, (upd H9 D (.lst (acc.map V.str ++ [.str u]))) D = some (.lst (a2.map V.str)) ∧ a2.length = i + 1 + 1 ∧ ∀ y ∈ a2, y.length ≤ 90 ∧ Asc y := fun u H9 lu au e B =>
        ⟨(e7.trans e).upd (e04.free bD N5.free), B.upd bD, acc ++ [u], by rw [upd_same, List.map_append]; rfl, by rw [List.length_append, la]; rfl, fun y hy => by
          rcases List.mem_append.mp hy with z | z
          · exact ma y z
          · rw [List.mem_singleton.mp z]; exact ⟨lu, au⟩⟩
      walk_at "rd"
      refine ifs (fun h1 => ?_) (fun h1 => ?_)
      · walk_at "rd"
        (intro p1 hp1; generalize ep1 : upd _ p1 _ = J8; have N8 := New.of ep1 hp1; clear ep1 hp1)
        walk_at "rd"
        refine ⟨b, 5, _, rfl, B7.nw N8, by omega, by decide, by decide, fun dd H9 d10 d11 e9 B9 => ?_⟩
        obtain ⟨sz, hat, hm, _⟩ := atI_some (xs := [V.int 1, V.int 1, V.int 2, V.int 12, V.int 13]) d10 (by simpa using d11)
        obtain ⟨size, rfl, s2⟩ : ∃ k : Nat, sz = .int k ∧ k ≤ 13 := by
          simp only [List.mem_cons, List.not_mem_nil, or_false] at hm
          rcases hm with h | h | h | h | h
          · exact ⟨1, h, by decide⟩
          · exact ⟨1, h, by decide⟩
          · exact ⟨2, h, by decide⟩
          · exact ⟨12, h, by decide⟩
          · exact ⟨13, h, by decide⟩
        refine i_ixL (SqL.lst (e9 p1 _ (B7.off N8) N8.at_)) hat ?_
        walk_at "rd"
        refine ⟨size, rfl, by omega, by omega, fun D2 hD2 => ?_⟩
        refine lc_draw (P := fun c => c < 128) B9 hD2 (by omega) ?_ (fun i H N M h => ⟨h.1, h.2⟩) ?_
        · intro j H10 hj e10 B10 N hN
          walk_at "rd"
          refine ⟨b, 10, _, rfl, B10, by omega, by decide, by decide, fun d H11 d0 d1 e11 B11 => ?_⟩
          obtain ⟨c, hc, c1⟩ := sign_at (P := fun c => c < 128) (x := Str.ofString "0123456789") d0 (by rw [show (Str.ofString "0123456789").length = 10 by decide +kernel]; exact d1) (asc_of _ (by decide +kernel))
          exact i_ixS (by decide +kernel) hc (hN c _ c1 e11 B11)
        · intro acc2 H10 e10 B10 hA hl h1
          refine join_draw (e := Str.ofString "") (by decide +kernel) hA (by omega) h1 fun text tlen ta => ?_
          rw [hl] at tlen
          walk_at "rd"
          have eX := N8.but.trans (e9.trans e10)
          refine ⟨D, _, _, rfl, rfl, eX _ _ bD kD, by rw [List.length_map]; omega, ?_⟩
          obtain ⟨f1, f2, f3⟩ := fin text H10 (by omega) ta eX (B10.mono (by omega))
          exact ⟨f1, f2, f3, _, _, _, _, _, rfl⟩
      walk_at "rd"
      refine ifs (fun h2 => ?_) (fun h2 => ?_)
      · walk_at "rd"
        refine ⟨b, 9, _, rfl, B7, by omega, by decide, by decide, fun dd H9 d10 d11 e9 B9 => ?_⟩
        obtain ⟨size, rfl⟩ := Int.eq_ofNat_of_zero_le d10
        walk_at "rd"
        refine ⟨size, rfl, by omega, by omega, fun D2 hD2 => ?_⟩
        refine lc_draw (P := fun c => c < 128) B9 hD2 (by omega) ?_ (fun i H N M h => ⟨h.1, h.2⟩) ?_
        · intro j H10 hj e10 B10 N hN
          walk_at "rd"
          refine ⟨b, 26, _, rfl, B10, by omega, by decide, by decide, fun d H11 d0 d1 e11 B11 => ?_⟩
          obtain ⟨c, hc, c1⟩ := sign_at (P := fun c => c < 128) (x := Str.ofString "abcdefghijklmnopqrstuvwxyz") d0 (by rw [show (Str.ofString "abcdefghijklmnopqrstuvwxyz").length = 26 by decide +kernel]; exact d1) (asc_of _ (by decide +kernel))
          exact i_ixS (by decide +kernel) hc (hN c _ c1 e11 B11)
        · intro acc2 H10 e10 B10 hA hl h1
          refine join_draw (e := Str.ofString "") (by decide +kernel) hA (by omega) h1 fun text tlen ta => ?_
          rw [hl] at tlen
          walk_at "rd"
          have eX := e9.trans e10
          refine ⟨D, _, _, rfl, rfl, eX _ _ bD kD, by rw [List.length_map]; omega, ?_⟩
          obtain ⟨f1, f2, f3⟩ := fin text H10 (by omega) ta eX (B10.mono (by omega))
          exact ⟨f1, f2, f3, _, _, _, _, _, rfl⟩
      · walk_at "rd"
        (intro p1 hp1; generalize ep1 : upd _ p1 _ = J8; have N8 := New.of ep1 hp1; clear ep1 hp1)
        walk_at "rd"
        refine ⟨b, 9, _, rfl, B7.nw N8, by omega, by decide, by decide, fun dd H9 d10 d11 e9 B9 => ?_⟩
        obtain ⟨size, rfl⟩ := Int.eq_ofNat_of_zero_le d10
        have kp := e9 p1 _ (B7.off N8) N8.at_
        walk_at "rd"
        refine ⟨size, rfl, by omega, by omega, fun D2 hD2 => ?_⟩
        have bD2 := B9.ne hD2
        refine lc_range (lo := 0) (n := size) (fun j H' => But b H9 H' ∧ Box H' b (n + 1 + 17 * i + 1 + 2 * j) ∧ ∃ a2 : List Str, H' D2 = some (.lst (a2.map V.str)) ∧ a2.length = j ∧ ∀ y ∈ a2, y.length ≤ 10 ∧ Asc y) ⟨But.new _ hD2, B9.new hD2, [], upd_same, rfl, by simp⟩ ?_ ?_
        · rintro j H10 hj ⟨e10, B10, a2, kA, l2, m2⟩
          walk_at "rd"
          refine ⟨b, 9, _, rfl, B10, by omega, by decide, by decide, fun dd2 H11 d20 d21 e11 B11 => ?_⟩
          obtain ⟨v, hv, hm, _⟩ := atI_some (xs := [V.str (Str.ofString "/"), V.str (Str.ofString "a"), V.str (Str.ofString ""), V.str (Str.ofString " "), V.str (Str.ofString "begin 0"), V.str (Str.ofString "//"), V.str (Str.ofString "/ /"), V.str (Str.ofString "ports aa b"), V.str (Str.ofString " / ")]) d20 (by simpa using d21)
          obtain ⟨y, rfl, hy⟩ : ∃ y, v = .str y ∧ y.length ≤ 10 ∧ Asc y := by
            simp only [List.mem_cons, List.not_mem_nil, or_false] at hm
            rcases hm with h | h | h | h | h | h | h | h | h <;> exact ⟨_, h, by decide +kernel, asc_of _ (by decide +kernel)⟩
          have bp : p1 ≠ b := B7.off N8
          refine i_ixL (SqL.lst (e11 p1 _ bp (e10 p1 _ bp kp))) hv ?_
          walk_at "rd"
          (intro p2 hp2; generalize ep2 : upd _ p2 _ = J12; have N12 := New.of ep2 hp2; clear ep2 hp2)
          walk_at "rd"
          refine ⟨b, 3, _, rfl, B11.nw N12, by omega, by decide, by decide, fun dd3 H13 d30 d31 e13 B13 => ?_⟩
          obtain ⟨v2, hv2, hm2, _⟩ := atI_some (xs := [V.str (Str.ofString " "), V.str (Str.ofString " / "), V.str y]) d30 (by simpa using d31)
          obtain ⟨y2, rfl, hy2⟩ : ∃ y, v2 = .str y ∧ y.length ≤ 10 ∧ Asc y := by
            simp only [List.mem_cons, List.not_mem_nil, or_false] at hm2
            rcases hm2 with h | h | h
            · exact ⟨_, h, by decide +kernel, asc_of _ (by decide +kernel)⟩
            · exact ⟨_, h, by decide +kernel, asc_of _ (by decide +kernel)⟩
            · exact ⟨_, h, hy⟩
          refine i_ixL (SqL.lst (e13 p2 _ (B11.off N12) N12.at_)) hv2 ?_
          have e33 := e11.trans (N12.but.trans e13)
          refine ⟨_, e33 D2 _ bD2 kA, by rw [List.length_map]; omega, fun a o na ha => ?_, (B13.upd bD2).mono (by omega), a2 ++ [y2], by rw [upd_same, List.map_append]; rfl, by simp [l2], ?_⟩
          · rw [upd_ne (ne_of_none ha hD2)]
            exact e33 a o na (e10 a o na ha)
          · intro y hy
            rcases List.mem_append.mp hy with z | z
            · exact m2 y z
            · rw [List.mem_singleton.mp z]; exact hy2
        · rintro H10 ⟨e10, B10, a2, kA, l2, m2⟩
          walk_at "rd"
          have sl := sum_le fun y hy => (m2 y hy).1
          have jl : (Txt.join (Str.ofString "") a2).length = (a2.map (·.length)).sum := by
            rw [← tl_len, tl_joined (by decide +kernel), List.length_flatten, List.map_map]
            exact congrArg List.sum (List.map_congr_left fun x _ => tl_len x)
          refine ⟨Str.ofString "", D2, a2, rfl, rfl, .inl (SqL.lst kA), by rw [show (Str.ofString "").length = 0 by decide +kernel]; omega, ?_⟩
          walk_at "rd"
          have eX := N8.but.trans (e9.trans e10)
          refine ⟨D, _, _, rfl, rfl, eX _ _ bD kD, by rw [List.length_map]; omega, ?_⟩
          obtain ⟨f1, f2, f3⟩ := fin (Txt.join (Str.ofString "") a2) H10 (by omega) (Asc.join (asc_of _ (by decide +kernel)) fun x hx => (m2 x hx).2) eX (B10.mono (by omega))
          exact ⟨f1, f2, f3, _, _, _, _, _, rfl⟩
    · rintro σ H' ⟨e7, B7, ⟨acc, kD, la, ma⟩, z5, z6, z7, z8, z9, rfl⟩
      walk_at "rd"
      have lw : ∀ (l : List Str), (∀ y ∈ l, y.length ≤ 90) → wS l ≤ 91 * l.length := fun l => by
        induction l with
        | nil => intro _; exact Nat.le_refl _
        | cons x r ih =>
          intro h
          rw [wS_cons, List.length_cons]
          have := ih fun y hy => h y (List.mem_cons_of_mem _ hy)
          have := h x (List.mem_cons_self ..)
          omega
      have l1 := lw acc fun y hy => (ma y hy).1
      have l2 := join_le tl_bl acc
      have sl := sum_le fun y hy => (ma y hy).1
      have lt : (tl t).length ≤ 3 := l3
      refine ⟨Str.ofString " ", D, acc, rfl, rfl, .inl (SqL.lst kD), by rw [show (Str.ofString " ").length = 1 by decide +kernel]; omega, ?_⟩
      exact q _ _ (by omega) (Asc.join asc_bl fun x hx => (ma x hx).2) e7 (B7.mono (by omega))
end

end Ice

set_option Elab.async false
set_option linter.all false
set_option maxRecDepth 100000
set_option maxHeartbeats 4000000
set_option autoImplicit true
namespace Ice
open PySem PySem.Spec PyProof.Rows L2 TL
/-! side conditions, heaps, one step of a reading, and many -/
local macro_rules | `(tactic| walk_at "hp") => `(tactic| first | assumption | exact upd_same | exact New.at_ (by assumption) | (refine keepU ?_ (by assumption); walk_at "hp") | (refine New.app (by assumption) ?_; walk_at "hp") | (refine Same.app (by assumption) ?_; walk_at "hp") | (refine But.app (by assumption) (by assumption) ?_; walk_at "hp"))
local macro_rules | `(tactic| walk_at "sq") => `(tactic| first | assumption | exact SqL.lst (by walk_at "hp") | exact L2.Same.seq (New.same (by assumption)) (by assumption) | exact L2.Same.seq (by assumption) (by assumption))
local macro_rules | `(tactic| walk_at "len") => `(tactic| first | assumption | (simp only [List.length_cons, List.length_nil, List.length_append, List.length_map]; decide) | (refine Ice.sz_of ?_; simp only [List.length_cons, List.length_nil, List.length_append, List.length_map]; omega))
local macro_rules | `(tactic| walk_at "fresh") => `(tactic| (simp only [List.map_append, List.map_cons, List.map_nil, List.nil_append, List.cons_append]; decide +kernel))
local macro_rules | `(tactic| walk_at "sd") => `(tactic| first | assumption | (show _ ≠ _; omega) | exact Or.inl ⟨by omega, by omega⟩ | exact Or.inr ⟨by omega, by omega⟩ | exact ⟨by decide, by decide⟩ | exact ⟨by decide, by decide, by decide⟩ | exact ⟨by omega, by omega, by omega⟩)
/-! one step of a reading, and many -/
local macro_rules | `(tactic| walk_at "st") => `(tactic| first
  | with_reducible refine i_seq ?_
  | with_reducible refine i_if ?_
  | with_reducible refine i_next ?_
  | with_reducible refine i_ret ?_
  | with_reducible refine i_retN ?_
  | with_reducible refine i_drop ?_
  | with_reducible refine i_asg ?_
  | with_reducible refine i_gname ?_
  | with_reducible refine i_gsub ?_
  | ((with_reducible refine i_var (v := ?vv) ?hv ?_); (case hv => exact rfl))
  | with_reducible refine i_c ?_
  | with_reducible refine i_op ?_
  | with_reducible refine i_un ?_
  | with_reducible refine i_test ?_
  | with_reducible refine i_tB ?_
  | with_reducible refine i_and ?_
  | with_reducible refine i_or ?_
  | with_reducible refine i_not ?_
  | with_reducible refine i_andV ?_
  | with_reducible refine i_orV ?_
  | with_reducible refine i_notV ?_
  | with_reducible refine i_ifE ?_
  | with_reducible refine i_chain ?_
  | with_reducible refine i_bl ?_
  | with_reducible refine i_nil ?_
  | with_reducible refine i_cons ?_
  | with_reducible refine i_call ?_
  | with_reducible refine i_cb ?_
  | with_reducible refine i_rI0 ?_
  | with_reducible refine i_rU ?_
  | ((with_reducible refine i_rEq ?hs ?_); (case hs => exact rfl))
  | ((with_reducible refine i_rNe ?hs ?_); (case hs => exact rfl))
  | ((with_reducible refine i_rI ?hc ?_); (case hc => walk_at "sd"))
  | ((with_reducible refine i_ixL (xs := ?xs) (v := ?vv) ?hS ?he ?_); (case hS => walk_at "sq"); (case he => exact rfl))
  | ((with_reducible refine i_setL (xs := ?xs) (j := ?jj) ?hS ?he ?_); (case hS => walk_at "hp"); (case he => exact rfl))
  | with_reducible refine i_tup ?_
  | with_reducible refine i_lst ?_
  | with_reducible refine i_bm ?_
  | with_reducible refine i_bm0 ?_
  | with_reducible refine i_m1 ?_
  | with_reducible refine i_sl ?_
  | with_reducible refine i_nopart ?_
  | with_reducible refine i_part ?_
  | with_reducible refine i_int ?_
  | with_reducible refine i_str ?_
  | with_reducible refine i_for ?_
  | with_reducible refine i_yes ?_
  | ((with_reducible refine i_lenL (xs := ?xs) ?hS ?_); (case hS => walk_at "sq"))
  | ((with_reducible refine i_room ?hz ?_); (case hz => walk_at "len"))
  | with_reducible refine i_leT ?_
  | with_reducible refine i_notInS ?_
  | with_reducible refine i_inS ?_
  | with_reducible refine i_find ?_
  | with_reducible refine i_isB ?_
  | with_reducible refine i_max2 ?_
  | with_reducible refine i_min2 ?_
  | with_reducible exact trivial
  | with_reducible refine iteT ?_
  | with_reducible refine iteF ?_
  | with_reducible refine i_isstr ?_
  | with_reducible refine i_lc ?_
  | ((with_reducible refine i_cat (xs := ?xs) (zs := ?zs) ?ha ?hb ?hz ?_); (case ha => walk_at "hp"); (case hb => walk_at "hp"); (case hz => walk_at "len"))
  | ((with_reducible refine i_tyL (xs := ?xs) ?ha ?_); (case ha => walk_at "hp"))
  | with_reducible refine i_list ?_
  | with_reducible refine i_disp ?_
  | with_reducible refine i_pairs0 ?_
  | with_reducible refine i_pairs ?_
  | with_reducible refine i_newK ?_
  | with_reducible refine i_gcons ?_
  | with_reducible refine i_gnil ?_
  | with_reducible refine i_revL ?_
  | with_reducible refine i_rng1 ?_
  | ((with_reducible refine i_wipe ?hw ?_); (case hw => exact rfl))
  | with_reducible refine iteNT ?_
  | with_reducible refine iteNF ?_)
local macro_rules | `(tactic| walk_at "sx") => `(tactic| first
  | walk_at "st"
  | with_reducible refine i_kinit ?_
  | with_reducible refine i_ost ?_
  | with_reducible refine i_mkO ?_
  | with_reducible refine i_callE ?_
  | with_reducible refine i_makeE ?_
  | with_reducible refine i_xf ?_
  | with_reducible refine i_sfld ?_
  | with_reducible refine i_fld ?_
  | ((with_reducible refine i_ixT (xs := ?xs) (v := ?vv) ?hS ?he ?_); (case hS => exact SqT.tup (by walk_at "hp")); (case he => exact rfl))
  | with_reducible refine i_intB ?_
  | with_reducible refine i_runS ?_
  | with_reducible refine i_runN ?_
  | ((with_reducible refine i_xf1 (fs := ?ff) (v := ?vv) ?hx ?hl ?_); (case hx => walk_at "hp"); (case hl => exact rfl))
  | with_reducible refine i_methE ?_
  | with_reducible refine i_meth ?_
  | with_reducible refine i_make ?_
  | ((with_reducible refine i_obj (dx := ?dd) (fs := ?ff) ?hx ?hl ?_); (case hx => walk_at "hp"); (case hl => exact rfl))
  | ((with_reducible refine i_fld1 (C := ?CC) (dx := ?dd) (fs := ?ff) (v := ?vv) ?hx ?cl ?na ?hl ?_); (case hx => walk_at "hp"); (case cl => assumption); (case na => assumption); (case hl => exact rfl)))
local macro_rules | `(tactic| walk_at "sy") => `(tactic| first
  | walk_at "sx"
  | with_reducible refine i_dget ?_
  | with_reducible refine i_dget2 ?_
  | with_reducible refine i_dput ?_
  | with_reducible refine i_din ?_
  | ((with_reducible refine i_aug (x := ?vv) ?hx ?_); (case hx => exact rfl)))
local macro_rules | `(tactic| walk_at "rd") => `(tactic| repeat (walk_at "sy"))

section
variable {P : Program} {w : World} {K : PySem.W.Frag} {mg : Str → Option Value} {base : Heap}
theorem cut_le (z : Str) (lo hi : Option Int) : (cutS z lo hi).length ≤ z.length := by
  show (List.take _ (List.drop _ z.cps.toList)).toArray.size ≤ z.cps.size
  rw [List.size_toArray, List.length_take, List.length_drop, Array.length_toList]
  omega
theorem add_len (x y : Str) : (x ++ y).length = x.length + y.length := by
  rw [← tl_len, ← tl_len, ← tl_len]
  show (x.cps ++ y.cps).toList.length = _
  simp [TL.tl]
theorem cutV_to (xs : List V) {a : Nat} (h : a ≤ xs.length) : cutV xs none (some (a : Int)) = xs.take a := by
  unfold cutV
  rw [HT.sIx_none, HT.sIx_nat, Nat.min_eq_left h, List.drop_zero, Nat.sub_zero]
def spSpoil : Sp := fun vs H Q _ => ∃ (b : Addr) (n : Nat) (t : Str), vs = [.ref b, .str t] ∧ Box H b n ∧ n ≤ 880 ∧ t.length ≤ 1000 ∧ Asc t ∧ ∀ (u : Str) (H' : Hp), u.length ≤ t.length + 20 → Asc u → But b H H' → Box H' b (n + 4) → Q (.str u) H'
theorem ok_spoilt (T : Top w K mg) : FnG P w K mg base CX0 2 T.a_spoilt T.d_spoilt ["_law_box_here", "_law_line_here"] spSpoil := by
  have G_take := ok_take (P := P) (w := w) (base := base) T
  refine okG T.F_spoilt sc_spoilt (fun vs H Q E h => ?_) (fun cdv A outer s H vs Q E hr hgd h => ?_)
  · obtain ⟨b, n, t, rfl, _⟩ := h
    rfl
  · obtain ⟨b, n, t, rfl, hB, hn, lt, at_, q⟩ := h
    have hu : _ := un1 hr
    have zz : (100000 : Nat) ≤ sizeLine := sz_of (by decide)
    have ne : t.length ≤ sizeLine := by omega
    refine ⟨_, (pss_cons (ps_set (i := 2) sc_spoilt.nd rfl (by first | exact Or.inl rfl | exact Or.inr rfl) pe_str)
      (pss_cons (ps_set (i := 3) sc_spoilt.nd rfl (by first | exact Or.inl rfl | exact Or.inr rfl) (g_call G_take (hr.mono (by decide)) hgd (by rfl) T.m_take T.F_take.kp T.b_take .nil pass0 (pa_cons (pv 0) (pa_cons pe_int pa_nil))))
      (pss_cons (ps_set (i := 4) sc_spoilt.nd rfl (by first | exact Or.inl rfl | exact Or.inr rfl) (g_call G_take (hr.mono (by decide)) hgd (by rfl) T.m_take T.F_take.kp T.b_take .nil pass0 (pa_cons (pv 0) (pa_cons (pe_op op_add (pe_callB c_lenS (by rfl) T.n_len (by decide +kernel) (pa_cons (pv 1) pa_nil)) pe_int) pa_nil))))
      (pss_cons (ps_set (i := 5) sc_spoilt.nd rfl (by first | exact Or.inl rfl | exact Or.inr rfl) (pe_ix ix_str (pv 2) (g_call G_take (hr.mono (by decide)) hgd (by rfl) T.m_take T.F_take.kp T.b_take .nil pass0 (pa_cons (pv 0) (pa_cons (pe_callB c_lenS (by rfl) T.n_len (by decide +kernel) (pa_cons (pv 2) pa_nil)) pa_nil))) (fun _ _ => rfl)))
      (pss_cons (ps_set (i := 6) sc_spoilt.nd rfl (by first | exact Or.inl rfl | exact Or.inr rfl) (pe_split (pv 1) pe_str))
      (pss_cons (ps_set (i := 7) sc_spoilt.nd rfl (by first | exact Or.inl rfl | exact Or.inr rfl) (g_call G_take (hr.mono (by decide)) hgd (by rfl) T.m_take T.F_take.kp T.b_take .nil pass0 (pa_cons (pv 0) (pa_cons (pe_callB c_len (by rfl) T.n_len (by decide +kernel) (pa_cons (pv 6) pa_nil)) pa_nil))))
      (pss_cons (ps_if (pt_cmpR op_eq (pv 3) pe_int (nomark _))
        (pss_one (ps_ret (pe_op o_addT (pe_op o_addT (pe_slice sl_str (pv 1) po_none (po_some (pv 4))) (pv 5)) (pe_slice sl_str (pv 1) (po_some (pv 4)) po_none))))
        pss_nil)
      (pss_cons (ps_if (pt_cmpR op_eq (pv 3) pe_int (nomark _))
        (pss_one (ps_ret (pe_op o_addT (pe_slice sl_str (pv 1) po_none (po_some (pv 4))) (pe_slice sl_str (pv 1) (po_some (pe_op op_add (pv 4) pe_int)) po_none))))
        pss_nil)
      (pss_cons (ps_if (pt_cmpR op_eq (pv 3) pe_int (nomark _))
        (pss_one (ps_ret (pe_op o_addT (pe_op o_addT (pe_slice sl_str (pv 1) po_none (po_some (pv 4))) (pv 5)) (pe_slice sl_str (pv 1) (po_some (pe_op op_add (pv 4) pe_int)) po_none))))
        pss_nil)
      (pss_cons (ps_if (pt_cmpR op_eq (pv 3) pe_int (nomark _))
        (pss_one (ps_ret (pe_op o_addT (pe_op o_addT (pe_slice sl_str (pv 1) po_none (po_some (pv 4))) (pe_slice sl_str (pv 1) (po_some (pv 4)) (po_some (pe_op op_add (pv 4) pe_int)))) (pe_slice sl_str (pv 1) (po_some (pv 4)) po_none))))
        pss_nil)
      (pss_cons (ps_if (pt_cmpR op_eq (pv 3) pe_int (nomark _))
        (pss_one (ps_ret (pe_m1 PySem.F.slot_str_join PySem.F.type_str_join m_join pe_str (pe_op op_cat (pe_op op_cat (pe_slice sl_list (pv 6) po_none (po_some (pv 7))) (pe_lst (pa_cons (pe_ix ix_list (pe_lst (pa_cons pe_str (pa_cons pe_str (pa_cons pe_str (pa_cons pe_str pa_nil))))) (pe_op op_modN (pv 4) pe_int) (fun _ _ => rfl)) pa_nil))) (pe_slice sl_list (pv 6) (po_some (pv 7)) po_none)))))
        pss_nil)
      (pss_cons (ps_if (pt_cmpR op_eq (pv 3) pe_int (nomark _))
        (pss_one (ps_ret (pe_m1 PySem.F.slot_str_join PySem.F.type_str_join m_join pe_str (pe_op op_cat (pe_slice sl_list (pv 6) po_none (po_some (pv 7))) (pe_slice sl_list (pv 6) (po_some (pe_op op_add (pv 7) pe_int)) po_none)))))
        pss_nil)
      (pss_one (ps_ret (pe_m1 PySem.F.slot_str_join PySem.F.type_str_join m_join pe_str (pe_op op_cat (pe_op op_cat (pe_slice sl_list (pv 6) po_none (po_some (pv 7))) (pe_lst (pa_cons (pe_ix ix_list (pe_lst (pa_cons pe_str (pa_cons pe_str (pa_cons pe_str (pa_cons pe_str (pa_cons pe_str (pa_cons pe_str pa_nil))))))) (pe_op op_modN (pv 4) pe_int) (fun _ _ => rfl)) pa_nil))) (pe_slice sl_list (pv 6) (po_some (pe_op op_add (pv 7) pe_int)) po_none))))))))))))))))), ?_⟩
    walk_at "rd"
    have sl : (Str.ofString " !\"#$&'()*+,-./0123456789:;<=>?@ABCDEFGHIJKLMNOPQRSTUVWXYZ[\\]^_`abcdefghijklmnopqrstuvwxyz{|}~\n  ").length = 97 := by decide +kernel
    have sasc : Asc (Str.ofString " !\"#$&'()*+,-./0123456789:;<=>?@ABCDEFGHIJKLMNOPQRSTUVWXYZ[\\]^_`abcdefghijklmnopqrstuvwxyz{|}~\n  ") := asc_of _ (by decide +kernel)
    generalize Str.ofString " !\"#$&'()*+,-./0123456789:;<=>?@ABCDEFGHIJKLMNOPQRSTUVWXYZ[\\]^_`abcdefghijklmnopqrstuvwxyz{|}~\n  " = S at sl sasc ⊢
    refine ⟨b, 7, n, rfl, hB, by omega, by decide, by decide, fun way H1 w0 w1 e1 B1 => ?_⟩
    walk_at "rd"
    refine i_lenS ne ?_
    walk_at "rd"
    refine ⟨b, (t.length : Int) + 1, _, rfl, B1, by omega, by omega, by omega, fun at' H2 a0 a1 e2 B2 => ?_⟩
    walk_at "rd"
    refine i_lenS (by omega) ?_
    walk_at "rd"
    refine ⟨b, S.length, _, rfl, B2, by omega, by omega, by omega, fun k H3 k0 k1 e3 B3 => ?_⟩
    obtain ⟨c, hc, hcm, _⟩ := atI_some (xs := S.cps.toList) (i := k) k0 (by rw [Array.length_toList]; exact k1)
    have ca : Asc ⟨#[c]⟩ := fun x hx => by
      obtain rfl : x = c := by simpa [TL.tl] using hx
      exact sasc x hcm
    refine i_ixS (by omega) hc ?_
    walk_at "rd"
    refine ⟨t, _, rfl, rfl, by decide +kernel, by omega, ?_⟩
    obtain ⟨⟨s1, s2, s3⟩, sj⟩ := split1 (x := t) tl_bl (by decide +kernel)
    have wa := Asc.split (x := t) tl_bl (by decide +kernel) at_
    have sw := split_wS (x := t) tl_bl (by decide +kernel)
    generalize Txt.split t (Str.ofString " ") = ws at s1 s2 s3 sj sw wa ⊢
    show ∀ p, _
    (intro wl hwl; generalize ewl : upd _ wl _ = J4; have N4 := New.of ewl hwl; clear ewl hwl)
    have kw := N4.at_
    have l0 : 0 < ws.length := List.length_pos_iff.mpr s1
    have B4 := B3.nw N4
    have lps : (ws.map V.str).length = ws.length := List.length_map ..
    walk_at "rd"
    rw [lps]
    refine ⟨b, ws.length, _, rfl, B4, by omega, by omega, by omega, fun pp H5 p0 p1 e5 B5 => ?_⟩
    obtain ⟨pl, rfl⟩ := Int.eq_ofNat_of_zero_le p0
    have pl1 : pl < ws.length := by omega
    have kw5 := e5 wl _ (B3.off N4) kw
    have e05 := e1.trans (e2.trans (e3.trans (N4.but.trans e5)))
    have d1 := len_cut_to t at'.toNat
    have d2 := len_cut_from t at'.toNat
    have d3 := len_cut_from t (at'.toNat + 1)
    have d4 : (cutS t (some at') (some (at' + 1))).length ≤ 1 := by
      have := tl_cut3 t (i := at'.toNat) (k := 1) (by omega)
      rw [show ((at'.toNat : Nat) : Int) = at' by omega, show ((1 : Nat) : Int) = 1 from rfl] at this
      rw [← tl_len, this, List.length_take]; omega
    rw [show ((at'.toNat + 1 : Nat) : Int) = at' + 1 by omega] at d3
    rw [show ((at'.toNat : Nat) : Int) = at' by omega] at d1 d2
    have cs : (⟨#[c]⟩ : Str).length = 1 := rfl
    have fin : ∀ (K' : PySem.W.Frag) (xs : List Str) (D : Addr) (J : Hp), J D = some (.lst (xs.map V.str)) → wS xs ≤ t.length + 20 → (∀ x ∈ xs, Asc x) → But b H J → Box J b (n + 4) → rJoin K' (V.str (Str.ofString " ")) [.ref D] J Q := fun K' xs D J k l xa e B => by
      have jl := join_le tl_bl xs
      have e1 := wS_sum xs
      refine ⟨Str.ofString " ", D, xs, rfl, rfl, .inl (SqL.lst k), by rw [show (Str.ofString " ").length = 1 by decide +kernel]; omega, ?_⟩
      exact q _ _ (by omega) (Asc.join asc_bl xa) e B
    have wc := wS_cut ws pl
    have wc1 := wS_cut ws (pl + 1)
    have wdd : wS (ws.drop (pl + 1)) ≤ wS (ws.drop pl) := by have := wS_cut (ws.drop pl) 1; rw [List.drop_drop] at this; omega
    have wln := wS_len ws
    walk_at "rd"
    refine ifs (fun h1 => ?_) (fun h1 => ?_)
    · walk_at "rd"
      refine i_slS ne ?_
      walk_at "rd"
      refine i_addT (by omega) ?_
      walk_at "rd"
      refine i_slS ne ?_
      walk_at "rd"
      refine i_addT (by rw [add_len]; omega) ?_
      exact q _ _ (by
        rw [add_len, add_len, d1, d2]; omega) ((at_.cut.add ca).add at_.cut) e05 B5
    walk_at "rd"
    refine ifs (fun h2 => ?_) (fun h2 => ?_)
    · walk_at "rd"
      refine i_slS ne ?_
      walk_at "rd"
      refine i_slS ne ?_
      walk_at "rd"
      refine i_addT (by omega) ?_
      exact q _ _ (by rw [add_len, d1, d3]; omega) (at_.cut.add at_.cut) e05 B5
    walk_at "rd"
    refine ifs (fun h3 => ?_) (fun h3 => ?_)
    · walk_at "rd"
      refine i_slS ne ?_
      walk_at "rd"
      refine i_addT (by omega) ?_
      walk_at "rd"
      refine i_slS ne ?_
      walk_at "rd"
      refine i_addT (by rw [add_len]; omega) ?_
      exact q _ _ (by rw [add_len, add_len, d1, d3]; omega) ((at_.cut.add ca).add at_.cut) e05 B5
    walk_at "rd"
    refine ifs (fun h4 => ?_) (fun h4 => ?_)
    · walk_at "rd"
      refine i_slS ne ?_
      walk_at "rd"
      refine i_slS ne ?_
      walk_at "rd"
      refine i_addT (by omega) ?_
      walk_at "rd"
      refine i_slS ne ?_
      walk_at "rd"
      refine i_addT (by rw [add_len]; omega) ?_
      exact q _ _ (by rw [add_len, add_len, d1, d2]; omega) ((at_.cut.add at_.cut).add at_.cut) e05 B5
    walk_at "rd"
    refine ifs (fun h5 => ?_) (fun h5 => ?_)
    · walk_at "rd"
      refine ⟨wl, _, rfl, SqL.lst kw5, ?_⟩
      (intro u6 hu6; generalize eu6 : upd _ u6 _ = J6; have N6 := New.of eu6 hu6; clear eu6 hu6)
      rw [cutV_to _ (by rw [lps]; omega), ← List.map_take] at N6
      walk_at "rd"
      (intro u7 hu7; generalize eu7 : upd _ u7 _ = J7; have N7 := New.of eu7 hu7; clear eu7 hu7)
      walk_at "rd"
      have m0 : 0 ≤ at'.fmod 4 := Int.fmod_nonneg_of_pos _ (by decide)
      have m1 : at'.fmod 4 < 4 := Int.fmod_lt_of_pos _ (by decide)
      obtain ⟨v, hv, hm, _⟩ := atI_some (xs := [V.str (Str.ofString "7"), V.str (Str.ofString "a"), V.str (Str.ofString ""), V.str (Str.ofString "undo")]) m0 m1
      obtain ⟨y, rfl, hy, ya⟩ : ∃ y, v = .str y ∧ y.length ≤ 13 ∧ Asc y := by
        simp only [List.mem_cons, List.not_mem_nil, or_false] at hm
        rcases hm with h | h | h | h <;> exact ⟨_, h, by decide +kernel, asc_of _ (by decide +kernel)⟩
      refine i_ixL (SqL.lst N7.at_) hv ?_
      walk_at "rd"
      have b7 := (B5.nw N6).nw N7
      (intro u8 hu8; generalize eu8 : upd _ u8 _ = J8; have N8 := New.of eu8 hu8; clear eu8 hu8)
      walk_at "rd"
      refine i_cat (N8.app (N7.app N6.at_)) N8.at_ (by rw [List.length_map, List.length_take]; show _ + 1 ≤ _; omega) ?_
      (intro u9 hu9; generalize eu9 : upd _ u9 _ = J9; have N9 := New.of eu9 hu9; clear eu9 hu9)
      rw [show [V.str y] = [y].map V.str from rfl, ← List.map_append] at N9
      have e59 : But b H5 J9 := N6.but.trans (N7.but.trans (N8.but.trans N9.but))
      have kw9 := e59 wl _ (B3.off N4) kw5
      walk_at "rd"
      refine ⟨wl, _, rfl, SqL.lst kw9, ?_⟩
      (intro uA huA; generalize euA : upd _ uA _ = JA; have NA := New.of euA huA; clear euA huA)
      rw [cutV_from _ (by rw [lps]; omega), ← List.map_drop] at NA
      walk_at "rd"
      refine i_cat (NA.app N9.at_) NA.at_ (by rw [List.length_map, List.length_map, List.length_append, List.length_take, List.length_drop]; show _ + 1 + _ ≤ _; omega) ?_
      (intro uB huB; generalize euB : upd _ uB _ = JB; have NB := New.of euB huB; clear euB huB)
      rw [← List.map_append] at NB
      refine fin _ _ uB JB NB.at_ ?_ ?_ (e05.trans (e59.trans (NA.but.trans NB.but))) ((((b7.nw N8).nw N9).nw NA).nw NB)
      · rw [wS_app, wS_app, wS_cons, show wS [] = 0 from rfl]; omega
      · intro x hx
        rcases List.mem_append.mp hx with hx | hx
        · rcases List.mem_append.mp hx with hx | hx
          · exact wa x (List.mem_of_mem_take hx)
          · rw [List.mem_singleton.mp hx]; exact ya
        · exact wa x (List.mem_of_mem_drop hx)
    walk_at "rd"
    refine ifs (fun h6 => ?_) (fun h6 => ?_)
    · walk_at "rd"
      refine ⟨wl, _, rfl, SqL.lst kw5, ?_⟩
      (intro u6 hu6; generalize eu6 : upd _ u6 _ = J6; have N6 := New.of eu6 hu6; clear eu6 hu6)
      rw [cutV_to _ (by rw [lps]; omega), ← List.map_take] at N6
      walk_at "rd"
      refine ⟨wl, _, rfl, SqL.lst (N6.app kw5), ?_⟩
      (intro u7 hu7; generalize eu7 : upd _ u7 _ = J7; have N7 := New.of eu7 hu7; clear eu7 hu7)
      rw [show (pl : Int) + 1 = ((pl + 1 : Nat) : Int) by omega, cutV_from _ (by rw [lps]; omega), ← List.map_drop] at N7
      walk_at "rd"
      have b6 := B5.nw N6
      refine i_cat (N7.app N6.at_) N7.at_ (by rw [List.length_map, List.length_map, List.length_take, List.length_drop]; omega) ?_
      (intro u8 hu8; generalize eu8 : upd _ u8 _ = J8; have N8 := New.of eu8 hu8; clear eu8 hu8)
      rw [← List.map_append] at N8
      refine fin _ _ u8 J8 N8.at_ ?_ ?_ (e05.trans (N6.but.trans (N7.but.trans N8.but))) ((b6.nw N7).nw N8)
      · rw [wS_app]; omega
      · intro x hx
        rcases List.mem_append.mp hx with hx | hx
        · exact wa x (List.mem_of_mem_take hx)
        · exact wa x (List.mem_of_mem_drop hx)
    · walk_at "rd"
      refine ⟨wl, _, rfl, SqL.lst kw5, ?_⟩
      (intro u6 hu6; generalize eu6 : upd _ u6 _ = J6; have N6 := New.of eu6 hu6; clear eu6 hu6)
      rw [cutV_to _ (by rw [lps]; omega), ← List.map_take] at N6
      walk_at "rd"
      (intro u7 hu7; generalize eu7 : upd _ u7 _ = J7; have N7 := New.of eu7 hu7; clear eu7 hu7)
      walk_at "rd"
      have m0 : 0 ≤ at'.fmod 6 := Int.fmod_nonneg_of_pos _ (by decide)
      have m1 : at'.fmod 6 < 6 := Int.fmod_lt_of_pos _ (by decide)
      obtain ⟨v, hv, hm, _⟩ := atI_some (xs := [V.str (Str.ofString "00"), V.str (Str.ofString "07"), V.str (Str.ofString "1234567890123"), V.str (Str.ofString "Open"), V.str (Str.ofString "go"), V.str (Str.ofString "led")]) m0 m1
      obtain ⟨y, rfl, hy, ya⟩ : ∃ y, v = .str y ∧ y.length ≤ 13 ∧ Asc y := by
        simp only [List.mem_cons, List.not_mem_nil, or_false] at hm
        rcases hm with h | h | h | h | h | h <;> exact ⟨_, h, by decide +kernel, asc_of _ (by decide +kernel)⟩
      refine i_ixL (SqL.lst N7.at_) hv ?_
      walk_at "rd"
      have b7 := (B5.nw N6).nw N7
      (intro u8 hu8; generalize eu8 : upd _ u8 _ = J8; have N8 := New.of eu8 hu8; clear eu8 hu8)
      walk_at "rd"
      refine i_cat (N8.app (N7.app N6.at_)) N8.at_ (by rw [List.length_map, List.length_take]; show _ + 1 ≤ _; omega) ?_
      (intro u9 hu9; generalize eu9 : upd _ u9 _ = J9; have N9 := New.of eu9 hu9; clear eu9 hu9)
      rw [show [V.str y] = [y].map V.str from rfl, ← List.map_append] at N9
      have e59 : But b H5 J9 := N6.but.trans (N7.but.trans (N8.but.trans N9.but))
      have kw9 := e59 wl _ (B3.off N4) kw5
      walk_at "rd"
      refine ⟨wl, _, rfl, SqL.lst kw9, ?_⟩
      (intro uA huA; generalize euA : upd _ uA _ = JA; have NA := New.of euA huA; clear euA huA)
      rw [show (pl : Int) + 1 = ((pl + 1 : Nat) : Int) by omega, cutV_from _ (by rw [lps]; omega), ← List.map_drop] at NA
      walk_at "rd"
      refine i_cat (NA.app N9.at_) NA.at_ (by rw [List.length_map, List.length_map, List.length_append, List.length_take, List.length_drop]; show _ + 1 + _ ≤ _; omega) ?_
      (intro uB huB; generalize euB : upd _ uB _ = JB; have NB := New.of euB huB; clear euB huB)
      rw [← List.map_append] at NB
      refine fin _ _ uB JB NB.at_ ?_ ?_ (e05.trans (e59.trans (NA.but.trans NB.but))) ((((b7.nw N8).nw N9).nw NA).nw NB)
      · rw [wS_app, wS_app, wS_cons, show wS [] = 0 from rfl]; omega
      · intro x hx
        rcases List.mem_append.mp hx with hx | hx
        · rcases List.mem_append.mp hx with hx | hx
          · exact wa x (List.mem_of_mem_take hx)
          · rw [List.mem_singleton.mp hx]; exact ya
        · exact wa x (List.mem_of_mem_drop hx)
end

end Ice

set_option Elab.async false
set_option linter.all false
set_option maxRecDepth 100000
set_option maxHeartbeats 4000000
set_option autoImplicit true
namespace Ice
open PySem PySem.Spec PyProof.Rows L2 TL
/-! side conditions, heaps, one step of a reading, and many -/
local macro_rules | `(tactic| walk_at "hp") => `(tactic| first | assumption | exact upd_same | exact New.at_ (by assumption) | (refine keepU ?_ (by assumption); walk_at "hp") | (refine New.app (by assumption) ?_; walk_at "hp") | (refine Same.app (by assumption) ?_; walk_at "hp") | (refine But.app (by assumption) (by assumption) ?_; walk_at "hp"))
local macro_rules | `(tactic| walk_at "sq") => `(tactic| first | assumption | exact SqL.lst (by walk_at "hp") | exact L2.Same.seq (New.same (by assumption)) (by assumption) | exact L2.Same.seq (by assumption) (by assumption))
local macro_rules | `(tactic| walk_at "len") => `(tactic| first | assumption | (simp only [List.length_cons, List.length_nil, List.length_append, List.length_map]; decide) | (refine Ice.sz_of ?_; simp only [List.length_cons, List.length_nil, List.length_append, List.length_map]; omega))
local macro_rules | `(tactic| walk_at "fresh") => `(tactic| (simp only [List.map_append, List.map_cons, List.map_nil, List.nil_append, List.cons_append]; decide +kernel))
local macro_rules | `(tactic| walk_at "sd") => `(tactic| first | assumption | (show _ ≠ _; omega) | exact Or.inl ⟨by omega, by omega⟩ | exact Or.inr ⟨by omega, by omega⟩ | exact ⟨by decide, by decide⟩ | exact ⟨by decide, by decide, by decide⟩ | exact ⟨by omega, by omega, by omega⟩)
/-! one step of a reading, and many -/
local macro_rules | `(tactic| walk_at "st") => `(tactic| first
  | with_reducible refine i_seq ?_
  | with_reducible refine i_if ?_
  | with_reducible refine i_next ?_
  | with_reducible refine i_ret ?_
  | with_reducible refine i_retN ?_
  | with_reducible refine i_drop ?_
  | with_reducible refine i_asg ?_
  | with_reducible refine i_gname ?_
  | with_reducible refine i_gsub ?_
  | ((with_reducible refine i_var (v := ?vv) ?hv ?_); (case hv => exact rfl))
  | with_reducible refine i_c ?_
  | with_reducible refine i_op ?_
  | with_reducible refine i_un ?_
  | with_reducible refine i_test ?_
  | with_reducible refine i_tB ?_
  | with_reducible refine i_and ?_
  | with_reducible refine i_or ?_
  | with_reducible refine i_not ?_
  | with_reducible refine i_andV ?_
  | with_reducible refine i_orV ?_
  | with_reducible refine i_notV ?_
  | with_reducible refine i_ifE ?_
  | with_reducible refine i_chain ?_
  | with_reducible refine i_bl ?_
  | with_reducible refine i_nil ?_
  | with_reducible refine i_cons ?_
  | with_reducible refine i_call ?_
  | with_reducible refine i_cb ?_
  | with_reducible refine i_rI0 ?_
  | with_reducible refine i_rU ?_
  | ((with_reducible refine i_rEq ?hs ?_); (case hs => exact rfl))
  | ((with_reducible refine i_rNe ?hs ?_); (case hs => exact rfl))
  | ((with_reducible refine i_rI ?hc ?_); (case hc => walk_at "sd"))
  | ((with_reducible refine i_ixL (xs := ?xs) (v := ?vv) ?hS ?he ?_); (case hS => walk_at "sq"); (case he => exact rfl))
  | ((with_reducible refine i_setL (xs := ?xs) (j := ?jj) ?hS ?he ?_); (case hS => walk_at "hp"); (case he => exact rfl))
  | with_reducible refine i_tup ?_
  | with_reducible refine i_lst ?_
  | with_reducible refine i_bm ?_
  | with_reducible refine i_bm0 ?_
  | with_reducible refine i_m1 ?_
  | with_reducible refine i_sl ?_
  | with_reducible refine i_nopart ?_
  | with_reducible refine i_part ?_
  | with_reducible refine i_int ?_
  | with_reducible refine i_str ?_
  | with_reducible refine i_for ?_
  | with_reducible refine i_yes ?_
  | ((with_reducible refine i_lenL (xs := ?xs) ?hS ?_); (case hS => walk_at "sq"))
  | ((with_reducible refine i_room ?hz ?_); (case hz => walk_at "len"))
  | with_reducible refine i_leT ?_
  | with_reducible refine i_notInS ?_
  | with_reducible refine i_inS ?_
  | with_reducible refine i_find ?_
  | with_reducible refine i_isB ?_
  | with_reducible refine i_max2 ?_
  | with_reducible refine i_min2 ?_
  | with_reducible exact trivial
  | with_reducible refine iteT ?_
  | with_reducible refine iteF ?_
  | with_reducible refine i_isstr ?_
  | with_reducible refine i_lc ?_
  | ((with_reducible refine i_cat (xs := ?xs) (zs := ?zs) ?ha ?hb ?hz ?_); (case ha => walk_at "hp"); (case hb => walk_at "hp"); (case hz => walk_at "len"))
  | ((with_reducible refine i_tyL (xs := ?xs) ?ha ?_); (case ha => walk_at "hp"))
  | with_reducible refine i_list ?_
  | with_reducible refine i_disp ?_
  | with_reducible refine i_pairs0 ?_
  | with_reducible refine i_pairs ?_
  | with_reducible refine i_newK ?_
  | with_reducible refine i_gcons ?_
  | with_reducible refine i_gnil ?_
  | with_reducible refine i_revL ?_
  | with_reducible refine i_rng1 ?_
  | ((with_reducible refine i_wipe ?hw ?_); (case hw => exact rfl))
  | with_reducible refine iteNT ?_
  | with_reducible refine iteNF ?_)
local macro_rules | `(tactic| walk_at "sx") => `(tactic| first
  | walk_at "st"
  | with_reducible refine i_kinit ?_
  | with_reducible refine i_ost ?_
  | with_reducible refine i_mkO ?_
  | with_reducible refine i_callE ?_
  | with_reducible refine i_makeE ?_
  | with_reducible refine i_xf ?_
  | with_reducible refine i_sfld ?_
  | with_reducible refine i_fld ?_
  | ((with_reducible refine i_ixT (xs := ?xs) (v := ?vv) ?hS ?he ?_); (case hS => exact SqT.tup (by walk_at "hp")); (case he => exact rfl))
  | with_reducible refine i_intB ?_
  | with_reducible refine i_runS ?_
  | with_reducible refine i_runN ?_
  | ((with_reducible refine i_xf1 (fs := ?ff) (v := ?vv) ?hx ?hl ?_); (case hx => walk_at "hp"); (case hl => exact rfl))
  | with_reducible refine i_methE ?_
  | with_reducible refine i_meth ?_
  | with_reducible refine i_make ?_
  | ((with_reducible refine i_obj (dx := ?dd) (fs := ?ff) ?hx ?hl ?_); (case hx => walk_at "hp"); (case hl => exact rfl))
  | ((with_reducible refine i_fld1 (C := ?CC) (dx := ?dd) (fs := ?ff) (v := ?vv) ?hx ?cl ?na ?hl ?_); (case hx => walk_at "hp"); (case cl => assumption); (case na => assumption); (case hl => exact rfl)))
local macro_rules | `(tactic| walk_at "sy") => `(tactic| first
  | walk_at "sx"
  | with_reducible refine i_dget ?_
  | with_reducible refine i_dget2 ?_
  | with_reducible refine i_dput ?_
  | with_reducible refine i_din ?_
  | ((with_reducible refine i_aug (x := ?vv) ?hx ?_); (case hx => exact rfl)))
local macro_rules | `(tactic| walk_at "rd") => `(tactic| repeat (walk_at "sy"))

section
open SeqAt
variable {X : Cx}
/-- x == x of a thing of any kind, a text or an own error among them -/
def rEqOT (K : PySem.W.Frag) (D : Addr) : R2 := fun x y H Q => rEqO K D x y H Q ∨ ∃ s : Str, x = .str s ∧ y = .str s ∧ Q (.bl true) H
theorem op_eqOT {D : Addr} (hu : X.A.units + 64 < cLine) (E : ExcI X.K D) (he : PySem.W.findIn X.K (.ref D) "__eq__" = some (some (.builtin "object.__eq__"))) : OpR X (compareOp .Eq) (rEqOT X.K D) := by
  intro pins s σ H x y v u Q I rx ry h
  rcases h with h | ⟨z, rfl, rfl, q⟩
  · exact op_eqO hu E he pins s σ H x y v u Q I rx ry h
  · exact op_eq pins s σ H _ _ v u Q I rx ry ⟨rfl, by rw [decide_eq_true rfl]; exact q⟩
/-- two tuples of the same texts and truths -/
def It2 (v : V) : Prop := (∃ s, v = .str s) ∨ ∃ b, v = .bl b
theorem eqAt_item2 {A : Around} {s : Shared} {v : V} {u u' : Value} (h : It2 v) (r : RelV v u) (r' : RelV v u') : EqAt A s u u' true := by
  rcases h with ⟨x, rfl⟩ | ⟨b, rfl⟩
  · obtain ⟨t, rfl⟩ := (show ∃ t, u = .str x t from r)
    obtain ⟨t', rfl⟩ := (show ∃ t, u' = .str x t from r')
    have := (SeqRoads2.EqGives.str x x t t').at A s
    rwa [show (x.cps.toList == x.cps.toList) = true by simp] at this
  · cases (show u = .bool b from r)
    cases (show u' = .bool b from r')
    exact EqAt.same _
theorem eqAt_items2 {A : Around} {s : Shared} {vs : List V} {as bs : List Value} (h : ∀ v ∈ vs, It2 v) (ra : Vals vs as) (rb : Vals vs bs) (j : Nat) (h1 : j < as.toArray.size) (h2 : j < bs.toArray.size) : EqAt A s as.toArray[j] bs.toArray[j] true := by
  have l1 : vs.length = as.length := ra.length
  have hj : j < vs.length := by rw [l1]; simpa using h1
  obtain ⟨u, hu, ru⟩ := ra.get (List.getElem?_eq_getElem hj)
  obtain ⟨u2, hu2, ru2⟩ := rb.get (List.getElem?_eq_getElem hj)
  have e1 : as.toArray[j] = u := by
    have : as[j]? = some as.toArray[j] := by simp
    exact Option.some.inj (this.symm.trans hu)
  have e2 : bs.toArray[j] = u2 := by
    have : bs[j]? = some bs.toArray[j] := by simp
    exact Option.some.inj (this.symm.trans hu2)
  rw [e1, e2]
  exact eqAt_item2 (h _ (List.getElem_mem hj)) ru ru2
def rEqTp (K : PySem.W.Frag) : R2 := fun x y H Q => ∃ a b vs, x = .ref a ∧ y = .ref b ∧ SqT K H a vs ∧ SqT K H b vs ∧ (∀ v ∈ vs, It2 v) ∧ Q (.bl true) H
theorem op_eqTp (hu : X.A.units + 64 < cLine) : OpR X (compareOp .Eq) (rEqTp X.K) := by
  intro pins s σ H x y v u Q I rx ry h
  obtain ⟨a, b, vs, rfl, rfl, ha, hb, hv, q⟩ := h
  cases (show v = .ref a from rx)
  cases (show u = .ref b from ry)
  obtain ⟨as, ra, p1, _⟩ := I.tuple ha
  obtain ⟨bs, rb, p2, _⟩ := I.tuple hb
  have q1 : s.heap.IsTuple a as.toArray := p1
  have q2 : s.heap.IsTuple b bs.toArray := p2
  have hsz : as.toArray.size = bs.toArray.size := by
    have l1 := ra.length; have l2 := rb.length
    simp; omega
  have z := RcAt.tuples (A := X.A) (e := fun _ => true) q1 q2 (by omega) (fun j h1 h2 => eqAt_items2 hv ra rb j h1 h2)
  rw [hsz, all_true] at z
  simp only [beq_self_eq_true, Bool.and_self] at z
  exact z X.prog X.w X.xe _ ⟨.bl true, H, I, rfl, q⟩
end
section
variable {P : Program} {w : World} {K : PySem.W.Frag} {mg : Str → Option Value} {base : Heap}
/-- the odd things that the law asks about -/
inductive Odd (T : Top w K mg) (H : Hp) : V → Prop
  | ps {v : V} {n : String} {d : PyData} : NoTx H v n → Ps v d → Odd T H v
  | lst {p : Addr} {xs : List V} : H p = some (.lst xs) → (∀ v ∈ xs, It1 v) → Odd T H (.ref p)
  | tup {p : Addr} {xs : List V} : H p = some (.tup xs) → (∀ v ∈ xs, It1 v) → Odd T H (.ref p)
  | dct {p : Addr} : H p = some (.dK []) → Odd T H (.ref p)
  | err {a d : Addr} {fs : List (Str × V)} : H a = some (exo a T.a_NoLine (some d)) → H d = some (exd d fs) → Odd T H (.ref a)
theorem Odd.same {T : Top w K mg} {H H' : Hp} {v : V} (e : Same H H') (o : Odd T H v) : Odd T H' v := by
  cases o with
  | ps a b => exact .ps (a.same e) b
  | lst a b => exact .lst (e _ _ a) b
  | tup a b => exact .tup (e _ _ a) b
  | dct a => exact .dct (e _ _ a)
  | err a b => exact .err (e _ _ a) (e _ _ b)
theorem Odd.tx {T : Top w K mg} {H : Hp} {v : V} (o : Odd T H v) : (∃ n, NoTx H v n) ∨ ∃ (a d : Addr) (fs : List (Str × V)), v = .ref a ∧ H a = some (exo a T.a_NoLine (some d)) ∧ H d = some (exd d fs) := by
  cases o with
  | ps a b => exact .inl ⟨_, a⟩
  | lst a b => exact .inl ⟨_, .lst a⟩
  | tup a b => exact .inl ⟨_, .tup a⟩
  | dct a => exact .inl ⟨_, .dct a⟩
  | err a b => exact .inr ⟨_, _, _, rfl, a, b⟩
theorem Odd.nt {T : Top w K mg} {H : Hp} {v : V} (o : Odd T H v) : NoText T H v := by
  rcases o.tx with ⟨n, h⟩ | h
  · exact .inl ⟨_, h.tyx, kit_ty h.noStr⟩
  · exact .inr h
theorem NoTx.isBool {H : Hp} {v : V} {n : String} (h : NoTx H v n) : ∃ b, kitB n "bool" = some b := by cases h <;> first | exact ⟨false, by decide +kernel⟩ | exact ⟨true, by decide +kernel⟩
theorem Odd.isb {T : Top w K mg} {H : Hp} {v : V} (o : Odd T H v) : ∃ b : Bool, ∀ (H' : Hp) (Q : VK), Same H H' → Q (.bl b) H' → rIsiO K T.a_NoLine [v, .ty "bool"] H' Q := by
  rcases o.tx with ⟨n, h⟩ | ⟨a, d, fs, rfl, h1, h2⟩
  · obtain ⟨b, hb⟩ := h.isBool
    exact ⟨b, fun H' Q e q => .inl (i_isi (h.same e).tyx hb q)⟩
  · exact ⟨false, fun H' Q e q => .inr ⟨a, d, fs, .ty "bool", .type "bool", false, rfl, .ty "bool", e _ _ h1, e _ _ h2, T.io_NoLine_bool, q⟩⟩
theorem Odd.eq {T : Top w K mg} {H : Hp} {v : V} (o : Odd T H v) {Q : VK} (q : Q (.bl true) H) : rEqOT K T.a_NoLine v v H Q := by
  cases o with
  | ps a b => exact .inl (.inl ⟨rfl, .ps b, q⟩)
  | lst a b => exact .inl (.inl ⟨rfl, .lst (SqL.lst a) b, q⟩)
  | tup a b => exact .inl (.inl ⟨rfl, .tup (SqT.tup a) b, q⟩)
  | dct a => exact .inl (.inl ⟨rfl, .dct a, q⟩)
  | err a b => exact .inl (.inr ⟨_, _, _, rfl, rfl, a, b, q⟩)
def spFndNo (T : Top w K mg) : Sp := fun vs H Q _ => ∃ v, vs = [v] ∧ Odd T H v ∧ ∀ p H', Same H H' → H p = none → H' p = some (.tup [.str (Str.ofString "none"), .bl true]) → Q (.ref p) H'
theorem ok_lfoundNo (T : Top w K mg) : FnG P w K mg base CX0 5 T.a_found T.d_found ["_law_line_here"] (spFndNo T) := by
  have G_read_line := ok_read_line (P := P) (w := w) (base := base) T
  refine okG T.F_found sc_found (fun vs H Q E h => ?_) (fun cdv A outer s H vs Q E hr hgd h => ?_)
  · obtain ⟨v, rfl, _⟩ := h
    rfl
  · obtain ⟨v, rfl, od, q⟩ := h
    have hu : _ := un1 hr
    have hu64 := un64 hr
    have hu110 : _ := un110 hr
    have G_read_line := ok_readLNo (P := P) (w := w) (base := base) T
    refine ⟨_, (pss_cons (ps_try_hds rfl rfl sc_found.nd takes0 (fun W pn xe tk po => (pss_one (ps_set (i := 1) sc_found.nd rfl (by first | exact Or.inl rfl | exact Or.inr rfl) (g_callE (E := WE _) G_read_line (hr.mono (by decide)) hgd (by rfl) T.m_read_line T.F_read_line.kp T.b_read_line .nil (passAt tk) (pa_cons (pv 0) pa_nil)))))
      (.named (i := 2) rfl rfl ⟨by rfl, by decide, .inl T.c_NoLine⟩ (fun a oe cls d pn hz hf => (pss_one (ps_ret (pe_tup (pa_cons pe_str (pa_cons (pe_and (pe_cmpR (show OpR _ (compareOp .Eq) (rEqOT K T.a_NoLine) from op_eqOT hu64 T.xi_NoLine T.eq_NoLine) (pe_xf T.xf_NoLine T.nf_NoLine_found hz hf (pv 2)) (pv 0) (nomark _)) (pe_one (pe_cmpR op_eq (pe_callB (show CallR _ (.builtin "isinstance") (rIsiO K T.a_NoLine) from c_isiO T.xi_NoLine) (by rfl) T.n_isinstance (by decide +kernel) (pa_cons (pe_xf T.xf_NoLine T.nf_NoLine_found hz hf (pv 2)) (pa_cons (pe_bltn (v := .ty "bool") (by rfl) T.n_bool (by decide +kernel) rfl) pa_nil))) (pe_callB (show CallR _ (.builtin "isinstance") (rIsiO K T.a_NoLine) from c_isiO T.xi_NoLine) (by rfl) T.n_isinstance (by decide +kernel) (pa_cons (pv 0) (pa_cons (pe_bltn (v := .ty "bool") (by rfl) T.n_bool (by decide +kernel) rfl) pa_nil))) (nomark _)))) pa_nil)))))) (.plain ⟨by rfl, by decide, .inl T.c_IceError⟩ (fun a oe cls d pn hz hf => (pss_one (ps_ret (pe_tup (pa_cons pe_str (pa_cons pe_bl pa_nil)))))) .nil)))
      (pss_cons (ps_if (PW.pt (pw_or (pt_not (pt_val (pe_callB c_isi (by rfl) T.n_isinstance (by decide +kernel) (pa_cons (pv 1) (pa_cons (pe_bltn (v := .ty "tuple") (by rfl) T.n_tuple (by decide +kernel) rfl) pa_nil))))) (pw_or (pt_cmpR op_ne (pe_callB c_len (by rfl) T.n_len (by decide +kernel) (pa_cons (pv 1) pa_nil)) pe_int (nomark _)) (pw_or1 (pt_not (pt_val (pe_callB c_isi (by rfl) T.n_isinstance (by decide +kernel) (pa_cons (pe_ix ix_tup (pv 1) pe_int (fun _ _ => rfl)) (pa_cons (pe_bltn (v := .ty "list") (by rfl) T.n_list (by decide +kernel) rfl) pa_nil)))))))))
        (pss_one (ps_ret (pe_tup (pa_cons pe_str (pa_cons pe_bl pa_nil)))))
        pss_nil)
      (pss_cons (ps_set (i := 3) sc_found.nd rfl (by first | exact Or.inl rfl | exact Or.inr rfl) (pe_callB (c_repr hgd hu110) (by rfl) T.n_repr (by decide +kernel) (pa_cons (pv 1) pa_nil)))
      (pss_cons (ps_expr (pe_bm PySem.F.plainAttrs_list PySem.F.slot_list_append PySem.F.type_list_append mt_append (pe_ix ix_tup (pv 1) pe_int (fun _ _ => rfl)) (pa_cons pe_str pa_nil)))
      (pss_one (ps_ret (pe_tup (pa_cons pe_str (pa_cons (pv 3) pa_nil))))))))), ?_⟩
    walk_at "rd"
    refine ⟨v, rfl, od.nt, fun d' H7 s7 k7 => ?_⟩
    refine ⟨true, T.ex_NoLine_NoLine, fun _ a ha => ?_, fun z => by cases z⟩
    walk_at "rd"
    obtain ⟨b, hb⟩ := od.isb
    refine (od.same s7).eq ?_
    walk_at "rd"
    refine hb _ _ s7 ?_
    walk_at "rd"
    refine hb _ _ s7 ?_
    walk_at "rd"
    (intro u hu; generalize eu : upd _ u _ = J8; have N8 := New.of eu hu; clear eu hu)
    dsimp only [goneE]
    walk_at "rd"
    have e8 := N8.at_
    rw [decide_eq_true rfl] at e8
    exact q u _ (s7.trans N8.same) (sfree s7 N8.free) e8
end

end Ice

set_option Elab.async false
set_option linter.all false
set_option maxRecDepth 100000
set_option maxHeartbeats 4000000
set_option autoImplicit true
namespace Ice
open PySem PySem.Spec PyProof.Rows L2 TL
/-! side conditions, heaps, one step of a reading, and many -/
local macro_rules | `(tactic| walk_at "hp") => `(tactic| first | assumption | exact upd_same | exact New.at_ (by assumption) | (refine keepU ?_ (by assumption); walk_at "hp") | (refine New.app (by assumption) ?_; walk_at "hp") | (refine Same.app (by assumption) ?_; walk_at "hp") | (refine But.app (by assumption) (by assumption) ?_; walk_at "hp"))
local macro_rules | `(tactic| walk_at "sq") => `(tactic| first | assumption | exact SqL.lst (by walk_at "hp") | exact L2.Same.seq (New.same (by assumption)) (by assumption) | exact L2.Same.seq (by assumption) (by assumption))
local macro_rules | `(tactic| walk_at "len") => `(tactic| first | assumption | (simp only [List.length_cons, List.length_nil, List.length_append, List.length_map]; decide) | (refine Ice.sz_of ?_; simp only [List.length_cons, List.length_nil, List.length_append, List.length_map]; omega))
local macro_rules | `(tactic| walk_at "fresh") => `(tactic| (simp only [List.map_append, List.map_cons, List.map_nil, List.nil_append, List.cons_append]; decide +kernel))
local macro_rules | `(tactic| walk_at "sd") => `(tactic| first | assumption | (show _ ≠ _; omega) | exact Or.inl ⟨by omega, by omega⟩ | exact Or.inr ⟨by omega, by omega⟩ | exact ⟨by decide, by decide⟩ | exact ⟨by decide, by decide, by decide⟩ | exact ⟨by omega, by omega, by omega⟩)
/-! one step of a reading, and many -/
local macro_rules | `(tactic| walk_at "st") => `(tactic| first
  | with_reducible refine i_seq ?_
  | with_reducible refine i_if ?_
  | with_reducible refine i_next ?_
  | with_reducible refine i_ret ?_
  | with_reducible refine i_retN ?_
  | with_reducible refine i_drop ?_
  | with_reducible refine i_asg ?_
  | with_reducible refine i_gname ?_
  | with_reducible refine i_gsub ?_
  | ((with_reducible refine i_var (v := ?vv) ?hv ?_); (case hv => exact rfl))
  | with_reducible refine i_c ?_
  | with_reducible refine i_op ?_
  | with_reducible refine i_un ?_
  | with_reducible refine i_test ?_
  | with_reducible refine i_tB ?_
  | with_reducible refine i_and ?_
  | with_reducible refine i_or ?_
  | with_reducible refine i_not ?_
  | with_reducible refine i_andV ?_
  | with_reducible refine i_orV ?_
  | with_reducible refine i_notV ?_
  | with_reducible refine i_ifE ?_
  | with_reducible refine i_chain ?_
  | with_reducible refine i_bl ?_
  | with_reducible refine i_nil ?_
  | with_reducible refine i_cons ?_
  | with_reducible refine i_call ?_
  | with_reducible refine i_cb ?_
  | with_reducible refine i_rI0 ?_
  | with_reducible refine i_rU ?_
  | ((with_reducible refine i_rEq ?hs ?_); (case hs => exact rfl))
  | ((with_reducible refine i_rNe ?hs ?_); (case hs => exact rfl))
  | ((with_reducible refine i_rI ?hc ?_); (case hc => walk_at "sd"))
  | ((with_reducible refine i_ixL (xs := ?xs) (v := ?vv) ?hS ?he ?_); (case hS => walk_at "sq"); (case he => exact rfl))
  | ((with_reducible refine i_setL (xs := ?xs) (j := ?jj) ?hS ?he ?_); (case hS => walk_at "hp"); (case he => exact rfl))
  | with_reducible refine i_tup ?_
  | with_reducible refine i_lst ?_
  | with_reducible refine i_bm ?_
  | with_reducible refine i_bm0 ?_
  | with_reducible refine i_m1 ?_
  | with_reducible refine i_sl ?_
  | with_reducible refine i_nopart ?_
  | with_reducible refine i_part ?_
  | with_reducible refine i_int ?_
  | with_reducible refine i_str ?_
  | with_reducible refine i_for ?_
  | with_reducible refine i_yes ?_
  | ((with_reducible refine i_lenL (xs := ?xs) ?hS ?_); (case hS => walk_at "sq"))
  | ((with_reducible refine i_room ?hz ?_); (case hz => walk_at "len"))
  | with_reducible refine i_leT ?_
  | with_reducible refine i_notInS ?_
  | with_reducible refine i_inS ?_
  | with_reducible refine i_find ?_
  | with_reducible refine i_isB ?_
  | with_reducible refine i_max2 ?_
  | with_reducible refine i_min2 ?_
  | with_reducible exact trivial
  | with_reducible refine iteT ?_
  | with_reducible refine iteF ?_
  | with_reducible refine i_isstr ?_
  | with_reducible refine i_lc ?_
  | ((with_reducible refine i_cat (xs := ?xs) (zs := ?zs) ?ha ?hb ?hz ?_); (case ha => walk_at "hp"); (case hb => walk_at "hp"); (case hz => walk_at "len"))
  | ((with_reducible refine i_tyL (xs := ?xs) ?ha ?_); (case ha => walk_at "hp"))
  | with_reducible refine i_list ?_
  | with_reducible refine i_disp ?_
  | with_reducible refine i_pairs0 ?_
  | with_reducible refine i_pairs ?_
  | with_reducible refine i_newK ?_
  | with_reducible refine i_gcons ?_
  | with_reducible refine i_gnil ?_
  | with_reducible refine i_revL ?_
  | with_reducible refine i_rng1 ?_
  | ((with_reducible refine i_wipe ?hw ?_); (case hw => exact rfl))
  | with_reducible refine iteNT ?_
  | with_reducible refine iteNF ?_)
local macro_rules | `(tactic| walk_at "sx") => `(tactic| first
  | walk_at "st"
  | with_reducible refine i_kinit ?_
  | with_reducible refine i_ost ?_
  | with_reducible refine i_mkO ?_
  | with_reducible refine i_callE ?_
  | with_reducible refine i_makeE ?_
  | with_reducible refine i_xf ?_
  | with_reducible refine i_sfld ?_
  | with_reducible refine i_fld ?_
  | ((with_reducible refine i_ixT (xs := ?xs) (v := ?vv) ?hS ?he ?_); (case hS => exact SqT.tup (by walk_at "hp")); (case he => exact rfl))
  | with_reducible refine i_intB ?_
  | with_reducible refine i_runS ?_
  | with_reducible refine i_runN ?_
  | ((with_reducible refine i_xf1 (fs := ?ff) (v := ?vv) ?hx ?hl ?_); (case hx => walk_at "hp"); (case hl => exact rfl))
  | with_reducible refine i_methE ?_
  | with_reducible refine i_meth ?_
  | with_reducible refine i_make ?_
  | ((with_reducible refine i_obj (dx := ?dd) (fs := ?ff) ?hx ?hl ?_); (case hx => walk_at "hp"); (case hl => exact rfl))
  | ((with_reducible refine i_fld1 (C := ?CC) (dx := ?dd) (fs := ?ff) (v := ?vv) ?hx ?cl ?na ?hl ?_); (case hx => walk_at "hp"); (case cl => assumption); (case na => assumption); (case hl => exact rfl)))
local macro_rules | `(tactic| walk_at "sy") => `(tactic| first
  | walk_at "sx"
  | with_reducible refine i_dget ?_
  | with_reducible refine i_dget2 ?_
  | with_reducible refine i_dput ?_
  | with_reducible refine i_din ?_
  | ((with_reducible refine i_aug (x := ?vv) ?hx ?_); (case hx => exact rfl)))
local macro_rules | `(tactic| walk_at "rd") => `(tactic| repeat (walk_at "sy"))

section
variable {P : Program} {w : World} {K : PySem.W.Frag} {mg : Str → Option Value} {base : Heap}
def dueV (u : Str) : List V := match lineD u with
  | none => [.str (Str.ofString "none"), .bl true]
  | some z => [.str (Str.ofString "read"), .str (dataL z.1 z.2).shown]
def spFnd : Sp := fun vs H Q _ => ∃ u : Str, vs = [.str u] ∧ u.length ≤ 500 ∧ Asc u ∧ ∀ p H', Same H H' → H p = none → H' p = some (.tup (dueV u)) → Q (.ref p) H'
theorem ok_found (T : Top w K mg) : FnG P w K mg base CX0 5 T.a_found T.d_found ["_law_line_here"] spFnd := by
  have G_read_line := ok_read_line (P := P) (w := w) (base := base) T
  refine okG T.F_found sc_found (fun vs H Q E h => ?_) (fun cdv A outer s H vs Q E hr hgd h => ?_)
  · obtain ⟨u, rfl, _⟩ := h
    rfl
  · obtain ⟨u, rfl, lu, au, q⟩ := h
    have hu : _ := un1 hr
    have hu64 := un64 hr
    have hu110 : _ := un110 hr
    refine ⟨_, (pss_cons (ps_try_hds rfl rfl sc_found.nd takes0 (fun W pn xe tk po => (pss_one (ps_set (i := 1) sc_found.nd rfl (by first | exact Or.inl rfl | exact Or.inr rfl) (g_callE (E := WE _) G_read_line (hr.mono (by decide)) hgd (by rfl) T.m_read_line T.F_read_line.kp T.b_read_line .nil (passAt tk) (pa_cons (pv 0) pa_nil)))))
      (.named (i := 2) rfl rfl ⟨by rfl, by decide, .inl T.c_NoLine⟩ (fun a oe cls d pn hz hf => (pss_one (ps_ret (pe_tup (pa_cons pe_str (pa_cons (pe_and (pe_cmpR (show OpR _ (compareOp .Eq) (rEqOT K T.a_NoLine) from op_eqOT hu64 T.xi_NoLine T.eq_NoLine) (pe_xf T.xf_NoLine T.nf_NoLine_found hz hf (pv 2)) (pv 0) (nomark _)) (pe_one (pe_cmpR op_eq (pe_callB (show CallR _ (.builtin "isinstance") (rIsiO K T.a_NoLine) from c_isiO T.xi_NoLine) (by rfl) T.n_isinstance (by decide +kernel) (pa_cons (pe_xf T.xf_NoLine T.nf_NoLine_found hz hf (pv 2)) (pa_cons (pe_bltn (v := .ty "bool") (by rfl) T.n_bool (by decide +kernel) rfl) pa_nil))) (pe_callB (show CallR _ (.builtin "isinstance") (rIsiO K T.a_NoLine) from c_isiO T.xi_NoLine) (by rfl) T.n_isinstance (by decide +kernel) (pa_cons (pv 0) (pa_cons (pe_bltn (v := .ty "bool") (by rfl) T.n_bool (by decide +kernel) rfl) pa_nil))) (nomark _)))) pa_nil)))))) (.plain ⟨by rfl, by decide, .inl T.c_IceError⟩ (fun a oe cls d pn hz hf => (pss_one (ps_ret (pe_tup (pa_cons pe_str (pa_cons pe_bl pa_nil)))))) .nil)))
      (pss_cons (ps_if (PW.pt (pw_or (pt_not (pt_val (pe_callB c_isi (by rfl) T.n_isinstance (by decide +kernel) (pa_cons (pv 1) (pa_cons (pe_bltn (v := .ty "tuple") (by rfl) T.n_tuple (by decide +kernel) rfl) pa_nil))))) (pw_or (pt_cmpR op_ne (pe_callB c_len (by rfl) T.n_len (by decide +kernel) (pa_cons (pv 1) pa_nil)) pe_int (nomark _)) (pw_or1 (pt_not (pt_val (pe_callB c_isi (by rfl) T.n_isinstance (by decide +kernel) (pa_cons (pe_ix ix_tup (pv 1) pe_int (fun _ _ => rfl)) (pa_cons (pe_bltn (v := .ty "list") (by rfl) T.n_list (by decide +kernel) rfl) pa_nil)))))))))
        (pss_one (ps_ret (pe_tup (pa_cons pe_str (pa_cons pe_bl pa_nil)))))
        pss_nil)
      (pss_cons (ps_set (i := 3) sc_found.nd rfl (by first | exact Or.inl rfl | exact Or.inr rfl) (pe_callB (c_repr hgd hu110) (by rfl) T.n_repr (by decide +kernel) (pa_cons (pv 1) pa_nil)))
      (pss_cons (ps_expr (pe_bm PySem.F.plainAttrs_list PySem.F.slot_list_append PySem.F.type_list_append mt_append (pe_ix ix_tup (pv 1) pe_int (fun _ _ => rfl)) (pa_cons pe_str pa_nil)))
      (pss_one (ps_ret (pe_tup (pa_cons pe_str (pa_cons (pv 3) pa_nil))))))))), ?_⟩
    walk_at "rd"
    refine ⟨u, rfl, by omega, fun k ths p l H7 ld s7 np nl kp kl => ?_, fun ld => ?_⟩
    · obtain ⟨o1, o2, o3, o4⟩ := lineD_ok ld au
      have e : dueV u = [.str (Str.ofString "read"), .str (dataL k ths).shown] := by unfold dueV; rw [ld]
      rw [e] at q
      walk_at "rd"
      refine i_isi (n := "tuple") (b := true) (.base (.tup kp)) (by decide +kernel) ?_
      walk_at "rd"
      refine i_lenT (SqT.tup kp) ?_
      walk_at "rd"
      refine ifs (fun h => absurd h (by simp)) (fun _ => ?_)
      walk_at "rd"
      refine i_isi (n := "list") (b := true) (.base (.lst kl)) (by decide +kernel) ?_
      walk_at "rd"
      refine i_repr (line_rp kp kl (by omega) o2 o3 (fun v hv => (o4 v hv).mono lu)) ?_
      walk_at "rd"
      refine ⟨l, ths, _, rfl, rfl, kl, by have : (3 : Nat) < sizeLine := (by rw [sizeLine_eq]; decide); omega, ?_⟩
      have sL : Same H (upd H7 l (.lst (ths ++ [.str (Str.ofString "more")]))) := fun a o h => by rw [upd_ne (ne_of_none h nl)]; exact s7 _ _ h
      walk_at "rd"
      (intro u2 hu2; generalize eu2 : upd _ u2 _ = J8; have N8 := New.of eu2 hu2; clear eu2 hu2)
      walk_at "rd"
      exact q u2 _ (sL.trans N8.same) (sfree sL N8.free) N8.at_
    · have e : dueV u = [.str (Str.ofString "none"), .bl true] := by unfold dueV; rw [ld]
      rw [e] at q
      intro d' H7 s7 k7
      refine ⟨true, T.ex_NoLine_NoLine, fun _ a ha => ?_, fun z => by cases z⟩
      walk_at "rd"
      refine .inr ⟨u, rfl, rfl, ?_⟩
      walk_at "rd"
      refine .inl (i_isi (n := "str") (b := false) ty_str (by decide +kernel) ?_)
      walk_at "rd"
      refine .inl (i_isi (n := "str") (b := false) ty_str (by decide +kernel) ?_)
      walk_at "rd"
      (intro u2 hu2; generalize eu2 : upd _ u2 _ = J8; have N8 := New.of eu2 hu2; clear eu2 hu2)
      dsimp only [goneE]
      walk_at "rd"
      have e8 := N8.at_
      rw [decide_eq_true rfl] at e8
      exact q u2 _ (s7.trans N8.same) (sfree s7 N8.free) e8
end

end Ice

set_option Elab.async false
set_option linter.all false
set_option maxRecDepth 100000
set_option maxHeartbeats 4000000
set_option autoImplicit true
namespace Ice
open PySem PySem.Spec PyProof.Rows L2 TL
/-! side conditions, heaps, one step of a reading, and many -/
local macro_rules | `(tactic| walk_at "hp") => `(tactic| first | assumption | exact upd_same | exact New.at_ (by assumption) | (refine keepU ?_ (by assumption); walk_at "hp") | (refine New.app (by assumption) ?_; walk_at "hp") | (refine Same.app (by assumption) ?_; walk_at "hp") | (refine But.app (by assumption) (by assumption) ?_; walk_at "hp"))
local macro_rules | `(tactic| walk_at "sq") => `(tactic| first | assumption | exact SqL.lst (by walk_at "hp") | exact L2.Same.seq (New.same (by assumption)) (by assumption) | exact L2.Same.seq (by assumption) (by assumption))
local macro_rules | `(tactic| walk_at "len") => `(tactic| first | assumption | (simp only [List.length_cons, List.length_nil, List.length_append, List.length_map]; decide) | (refine Ice.sz_of ?_; simp only [List.length_cons, List.length_nil, List.length_append, List.length_map]; omega))
local macro_rules | `(tactic| walk_at "fresh") => `(tactic| (simp only [List.map_append, List.map_cons, List.map_nil, List.nil_append, List.cons_append]; decide +kernel))
local macro_rules | `(tactic| walk_at "sd") => `(tactic| first | assumption | (show _ ≠ _; omega) | exact Or.inl ⟨by omega, by omega⟩ | exact Or.inr ⟨by omega, by omega⟩ | exact ⟨by decide, by decide⟩ | exact ⟨by decide, by decide, by decide⟩ | exact ⟨by omega, by omega, by omega⟩)
/-! one step of a reading, and many -/
local macro_rules | `(tactic| walk_at "st") => `(tactic| first
  | with_reducible refine i_seq ?_
  | with_reducible refine i_if ?_
  | with_reducible refine i_next ?_
  | with_reducible refine i_ret ?_
  | with_reducible refine i_retN ?_
  | with_reducible refine i_drop ?_
  | with_reducible refine i_asg ?_
  | with_reducible refine i_gname ?_
  | with_reducible refine i_gsub ?_
  | ((with_reducible refine i_var (v := ?vv) ?hv ?_); (case hv => exact rfl))
  | with_reducible refine i_c ?_
  | with_reducible refine i_op ?_
  | with_reducible refine i_un ?_
  | with_reducible refine i_test ?_
  | with_reducible refine i_tB ?_
  | with_reducible refine i_and ?_
  | with_reducible refine i_or ?_
  | with_reducible refine i_not ?_
  | with_reducible refine i_andV ?_
  | with_reducible refine i_orV ?_
  | with_reducible refine i_notV ?_
  | with_reducible refine i_ifE ?_
  | with_reducible refine i_chain ?_
  | with_reducible refine i_bl ?_
  | with_reducible refine i_nil ?_
  | with_reducible refine i_cons ?_
  | with_reducible refine i_call ?_
  | with_reducible refine i_cb ?_
  | with_reducible refine i_rI0 ?_
  | with_reducible refine i_rU ?_
  | ((with_reducible refine i_rEq ?hs ?_); (case hs => exact rfl))
  | ((with_reducible refine i_rNe ?hs ?_); (case hs => exact rfl))
  | ((with_reducible refine i_rI ?hc ?_); (case hc => walk_at "sd"))
  | ((with_reducible refine i_ixL (xs := ?xs) (v := ?vv) ?hS ?he ?_); (case hS => walk_at "sq"); (case he => exact rfl))
  | ((with_reducible refine i_setL (xs := ?xs) (j := ?jj) ?hS ?he ?_); (case hS => walk_at "hp"); (case he => exact rfl))
  | with_reducible refine i_tup ?_
  | with_reducible refine i_lst ?_
  | with_reducible refine i_bm ?_
  | with_reducible refine i_bm0 ?_
  | with_reducible refine i_m1 ?_
  | with_reducible refine i_sl ?_
  | with_reducible refine i_nopart ?_
  | with_reducible refine i_part ?_
  | with_reducible refine i_int ?_
  | with_reducible refine i_str ?_
  | with_reducible refine i_for ?_
  | with_reducible refine i_yes ?_
  | ((with_reducible refine i_lenL (xs := ?xs) ?hS ?_); (case hS => walk_at "sq"))
  | ((with_reducible refine i_room ?hz ?_); (case hz => walk_at "len"))
  | with_reducible refine i_leT ?_
  | with_reducible refine i_notInS ?_
  | with_reducible refine i_inS ?_
  | with_reducible refine i_find ?_
  | with_reducible refine i_isB ?_
  | with_reducible refine i_max2 ?_
  | with_reducible refine i_min2 ?_
  | with_reducible exact trivial
  | with_reducible refine iteT ?_
  | with_reducible refine iteF ?_
  | with_reducible refine i_isstr ?_
  | with_reducible refine i_lc ?_
  | ((with_reducible refine i_cat (xs := ?xs) (zs := ?zs) ?ha ?hb ?hz ?_); (case ha => walk_at "hp"); (case hb => walk_at "hp"); (case hz => walk_at "len"))
  | ((with_reducible refine i_tyL (xs := ?xs) ?ha ?_); (case ha => walk_at "hp"))
  | with_reducible refine i_list ?_
  | with_reducible refine i_disp ?_
  | with_reducible refine i_pairs0 ?_
  | with_reducible refine i_pairs ?_
  | with_reducible refine i_newK ?_
  | with_reducible refine i_gcons ?_
  | with_reducible refine i_gnil ?_
  | with_reducible refine i_revL ?_
  | with_reducible refine i_rng1 ?_
  | ((with_reducible refine i_wipe ?hw ?_); (case hw => exact rfl))
  | with_reducible refine iteNT ?_
  | with_reducible refine iteNF ?_)
local macro_rules | `(tactic| walk_at "sx") => `(tactic| first
  | walk_at "st"
  | with_reducible refine i_kinit ?_
  | with_reducible refine i_ost ?_
  | with_reducible refine i_mkO ?_
  | with_reducible refine i_callE ?_
  | with_reducible refine i_makeE ?_
  | with_reducible refine i_xf ?_
  | with_reducible refine i_sfld ?_
  | with_reducible refine i_fld ?_
  | ((with_reducible refine i_ixT (xs := ?xs) (v := ?vv) ?hS ?he ?_); (case hS => exact SqT.tup (by walk_at "hp")); (case he => exact rfl))
  | with_reducible refine i_intB ?_
  | with_reducible refine i_runS ?_
  | with_reducible refine i_runN ?_
  | ((with_reducible refine i_xf1 (fs := ?ff) (v := ?vv) ?hx ?hl ?_); (case hx => walk_at "hp"); (case hl => exact rfl))
  | with_reducible refine i_methE ?_
  | with_reducible refine i_meth ?_
  | with_reducible refine i_make ?_
  | ((with_reducible refine i_obj (dx := ?dd) (fs := ?ff) ?hx ?hl ?_); (case hx => walk_at "hp"); (case hl => exact rfl))
  | ((with_reducible refine i_fld1 (C := ?CC) (dx := ?dd) (fs := ?ff) (v := ?vv) ?hx ?cl ?na ?hl ?_); (case hx => walk_at "hp"); (case cl => assumption); (case na => assumption); (case hl => exact rfl)))
local macro_rules | `(tactic| walk_at "sy") => `(tactic| first
  | walk_at "sx"
  | with_reducible refine i_dget ?_
  | with_reducible refine i_dget2 ?_
  | with_reducible refine i_dput ?_
  | with_reducible refine i_din ?_
  | ((with_reducible refine i_aug (x := ?vv) ?hx ?_); (case hx => exact rfl)))
local macro_rules | `(tactic| walk_at "rd") => `(tactic| repeat (walk_at "sy"))

section
variable {P : Program} {w : World} {K : PySem.W.Frag} {mg : Str → Option Value} {base : Heap}
def spRight (T : Top w K mg) : Sp := fun vs H Q _ => ∃ v, vs = [v] ∧ (Odd T H v ∨ ∃ u : Str, v = .str u ∧ u.length ≤ 500 ∧ Asc u) ∧ ∀ H', Same H H' → Q (.bl true) H'
theorem it2_no : ∀ v ∈ [V.str (Str.ofString "none"), V.bl true], It2 v := fun v h => by
  simp only [List.mem_cons, List.not_mem_nil, or_false] at h
  rcases h with rfl | rfl
  · exact .inl ⟨_, rfl⟩
  · exact .inr ⟨_, rfl⟩
theorem it2_rd {z : Str} : ∀ v ∈ [V.str (Str.ofString "read"), V.str z], It2 v := fun v h => by
  simp only [List.mem_cons, List.not_mem_nil, or_false] at h
  rcases h with rfl | rfl <;> exact .inl ⟨_, rfl⟩
theorem ok_right (T : Top w K mg) : FnG P w K mg base CX0 6 T.a_right T.d_right ["_law_line_here"] (spRight T) := by
  have G_read := ok_read (P := P) (w := w) (base := base) T
  have G_found := ok_found (P := P) (w := w) (base := base) T
  refine okG T.F_right sc_right (fun vs H Q E h => ?_) (fun cdv A outer s H vs Q E hr hgd h => ?_)
  · obtain ⟨v, rfl, _⟩ := h
    rfl
  · obtain ⟨v, rfl, cs, q⟩ := h
    have hu : _ := un1 hr
    have hu64 := un64 hr
    have hu110 : _ := un110 hr
    rcases cs with od | ⟨u, rfl, lu, au⟩
    · have G_read := ok_lreadNo (P := P) (w := w) (base := base) T
      have G_found := ok_lfoundNo (P := P) (w := w) (base := base) T
      refine ⟨_, (pss_cons (ps_set (i := 1) sc_right.nd rfl (by first | exact Or.inl rfl | exact Or.inr rfl) (g_call G_read (hr.mono (by decide)) hgd (by rfl) T.m_read T.F_read.kp T.b_read .nil pass0 (pa_cons (pv 0) pa_nil)))
      (pss_cons (ps_set (i := 2) sc_right.nd rfl (by first | exact Or.inl rfl | exact Or.inr rfl) (pe_tup (pa_cons pe_str (pa_cons pe_bl pa_nil))))
      (pss_cons (ps_if (pt_cmpR op_notN1 (pv 1) pe_non (nomark _))
        (pss_one (ps_set (i := 2) sc_right.nd rfl (by first | exact Or.inl rfl | exact Or.inr rfl) (pe_tup (pa_cons pe_str (pa_cons (pe_callB (c_repr hgd hu110) (by rfl) T.n_repr (by decide +kernel) (pa_cons (pv 1) pa_nil)) pa_nil)))))
        pss_nil)
      (pss_one (ps_ret (pe_and (pe_cmpR (show OpR _ (compareOp .Eq) (rEqTp K) from op_eqTp hu64) (g_call G_found (hr.mono (by decide)) hgd (by rfl) T.m_found T.F_found.kp T.b_found .nil pass0 (pa_cons (pv 0) pa_nil)) (pv 2) (nomark _)) (pe_one (pe_cmpR (show OpR _ (compareOp .Eq) (rEqTp K) from op_eqTp hu64) (g_call G_found (hr.mono (by decide)) hgd (by rfl) T.m_found T.F_found.kp T.b_found .nil pass0 (pa_cons (pv 0) pa_nil)) (pv 2) (nomark _))))))))), ?_⟩
      walk_at "rd"
      refine ⟨v, rfl, od.nt, fun H1 s1 => ?_⟩
      walk_at "rd"
      (intro p0 hp0; generalize ep0 : upd _ p0 _ = J0; have N0 := New.of ep0 hp0; clear ep0 hp0)
      walk_at "rd"
      refine ⟨rfl, ?_⟩
      walk_at "rd"
      refine ifs (fun h => absurd h (by decide)) (fun _ => ?_)
      walk_at "rd"
      have s10 := s1.trans N0.same
      refine ⟨v, rfl, od.same s10, fun p1 H2 s2 np1 kp1 => ?_⟩
      walk_at "rd"
      refine ⟨p1, p0, _, rfl, rfl, SqT.tup kp1, SqT.tup (s2 _ _ N0.at_), it2_no, ?_⟩
      walk_at "rd"
      refine ⟨v, rfl, od.same (s10.trans s2), fun p3 H3 s3 np3 kp3 => ?_⟩
      walk_at "rd"
      refine ⟨p3, p0, _, rfl, rfl, SqT.tup kp3, SqT.tup (s3 _ _ (s2 _ _ N0.at_)), it2_no, ?_⟩
      walk_at "rd"
      exact q _ (s10.trans (s2.trans s3))
    · refine ⟨_, (pss_cons (ps_set (i := 1) sc_right.nd rfl (by first | exact Or.inl rfl | exact Or.inr rfl) (g_call G_read (hr.mono (by decide)) hgd (by rfl) T.m_read T.F_read.kp T.b_read .nil pass0 (pa_cons (pv 0) pa_nil)))
      (pss_cons (ps_set (i := 2) sc_right.nd rfl (by first | exact Or.inl rfl | exact Or.inr rfl) (pe_tup (pa_cons pe_str (pa_cons pe_bl pa_nil))))
      (pss_cons (ps_if (pt_cmpR op_notN1 (pv 1) pe_non (nomark _))
        (pss_one (ps_set (i := 2) sc_right.nd rfl (by first | exact Or.inl rfl | exact Or.inr rfl) (pe_tup (pa_cons pe_str (pa_cons (pe_callB (c_repr hgd hu110) (by rfl) T.n_repr (by decide +kernel) (pa_cons (pv 1) pa_nil)) pa_nil)))))
        pss_nil)
      (pss_one (ps_ret (pe_and (pe_cmpR (show OpR _ (compareOp .Eq) (rEqTp K) from op_eqTp hu64) (g_call G_found (hr.mono (by decide)) hgd (by rfl) T.m_found T.F_found.kp T.b_found .nil pass0 (pa_cons (pv 0) pa_nil)) (pv 2) (nomark _)) (pe_one (pe_cmpR (show OpR _ (compareOp .Eq) (rEqTp K) from op_eqTp hu64) (g_call G_found (hr.mono (by decide)) hgd (by rfl) T.m_found T.F_found.kp T.b_found .nil pass0 (pa_cons (pv 0) pa_nil)) (pv 2) (nomark _))))))))), ?_⟩
      walk_at "rd"
      refine ⟨u, rfl, by omega, fun k ths p l H1 ld s1 np nl kp kl => ?_, fun ld H1 s1 => ?_⟩
      · obtain ⟨o1, o2, o3, o4⟩ := lineD_ok ld au
        have e : dueV u = [.str (Str.ofString "read"), .str (dataL k ths).shown] := by unfold dueV; rw [ld]
        walk_at "rd"
        (intro p0 hp0; generalize ep0 : upd _ p0 _ = J0; have N0 := New.of ep0 hp0; clear ep0 hp0)
        walk_at "rd"
        refine ⟨rfl, ?_⟩
        walk_at "rd"
        refine ifs (fun _ => ?_) (fun h => absurd h (by simp))
        walk_at "rd"
        refine i_repr (line_rp (N0.app kp) (N0.app kl) (by omega) o2 o3 (fun v hv => (o4 v hv).mono lu)) ?_
        walk_at "rd"
        (intro p5 hp5; generalize ep5 : upd _ p5 _ = J5; have N5 := New.of ep5 hp5; clear ep5 hp5)
        walk_at "rd"
        have s10 := s1.trans (N0.same.trans N5.same)
        refine ⟨u, rfl, lu, au, fun p1 H2 s2 np1 kp1 => ?_⟩
        walk_at "rd"
        rw [e] at kp1
        refine ⟨p1, p5, _, rfl, rfl, SqT.tup kp1, SqT.tup (s2 _ _ N5.at_), it2_rd, ?_⟩
        walk_at "rd"
        refine ⟨u, rfl, lu, au, fun p3 H3 s3 np3 kp3 => ?_⟩
        walk_at "rd"
        rw [e] at kp3
        refine ⟨p3, p5, _, rfl, rfl, SqT.tup kp3, SqT.tup (s3 _ _ (s2 _ _ N5.at_)), it2_rd, ?_⟩
        walk_at "rd"
        exact q _ (s10.trans (s2.trans s3))
      · have e : dueV u = [.str (Str.ofString "none"), .bl true] := by unfold dueV; rw [ld]
        walk_at "rd"
        (intro p0 hp0; generalize ep0 : upd _ p0 _ = J0; have N0 := New.of ep0 hp0; clear ep0 hp0)
        walk_at "rd"
        refine ⟨rfl, ?_⟩
        walk_at "rd"
        refine ifs (fun h => absurd h (by decide)) (fun _ => ?_)
        walk_at "rd"
        have s10 := s1.trans N0.same
        refine ⟨u, rfl, lu, au, fun p1 H2 s2 np1 kp1 => ?_⟩
        walk_at "rd"
        rw [e] at kp1
        refine ⟨p1, p0, _, rfl, rfl, SqT.tup kp1, SqT.tup (s2 _ _ N0.at_), it2_no, ?_⟩
        walk_at "rd"
        refine ⟨u, rfl, lu, au, fun p3 H3 s3 np3 kp3 => ?_⟩
        walk_at "rd"
        rw [e] at kp3
        refine ⟨p3, p0, _, rfl, rfl, SqT.tup kp3, SqT.tup (s3 _ _ (s2 _ _ N0.at_)), it2_no, ?_⟩
        walk_at "rd"
        exact q _ (s10.trans (s2.trans s3))
end

end Ice

set_option Elab.async false
set_option linter.all false
set_option maxRecDepth 100000
set_option maxHeartbeats 4000000
set_option autoImplicit true
namespace Ice
open PySem PySem.Spec PyProof.Rows L2 TL
/-! side conditions, heaps, one step of a reading, and many -/
local macro_rules | `(tactic| walk_at "hp") => `(tactic| first | assumption | exact upd_same | exact New.at_ (by assumption) | (refine keepU ?_ (by assumption); walk_at "hp") | (refine New.app (by assumption) ?_; walk_at "hp") | (refine Same.app (by assumption) ?_; walk_at "hp") | (refine But.app (by assumption) (by assumption) ?_; walk_at "hp"))
local macro_rules | `(tactic| walk_at "sq") => `(tactic| first | assumption | exact SqL.lst (by walk_at "hp") | exact L2.Same.seq (New.same (by assumption)) (by assumption) | exact L2.Same.seq (by assumption) (by assumption))
local macro_rules | `(tactic| walk_at "len") => `(tactic| first | assumption | (simp only [List.length_cons, List.length_nil, List.length_append, List.length_map]; decide) | (refine Ice.sz_of ?_; simp only [List.length_cons, List.length_nil, List.length_append, List.length_map]; omega))
local macro_rules | `(tactic| walk_at "fresh") => `(tactic| (simp only [List.map_append, List.map_cons, List.map_nil, List.nil_append, List.cons_append]; decide +kernel))
local macro_rules | `(tactic| walk_at "sd") => `(tactic| first | assumption | (show _ ≠ _; omega) | exact Or.inl ⟨by omega, by omega⟩ | exact Or.inr ⟨by omega, by omega⟩ | exact ⟨by decide, by decide⟩ | exact ⟨by decide, by decide, by decide⟩ | exact ⟨by omega, by omega, by omega⟩)
/-! one step of a reading, and many -/
local macro_rules | `(tactic| walk_at "st") => `(tactic| first
  | with_reducible refine i_seq ?_
  | with_reducible refine i_if ?_
  | with_reducible refine i_next ?_
  | with_reducible refine i_ret ?_
  | with_reducible refine i_retN ?_
  | with_reducible refine i_drop ?_
  | with_reducible refine i_asg ?_
  | with_reducible refine i_gname ?_
  | with_reducible refine i_gsub ?_
  | ((with_reducible refine i_var (v := ?vv) ?hv ?_); (case hv => exact rfl))
  | with_reducible refine i_c ?_
  | with_reducible refine i_op ?_
  | with_reducible refine i_un ?_
  | with_reducible refine i_test ?_
  | with_reducible refine i_tB ?_
  | with_reducible refine i_and ?_
  | with_reducible refine i_or ?_
  | with_reducible refine i_not ?_
  | with_reducible refine i_andV ?_
  | with_reducible refine i_orV ?_
  | with_reducible refine i_notV ?_
  | with_reducible refine i_ifE ?_
  | with_reducible refine i_chain ?_
  | with_reducible refine i_bl ?_
  | with_reducible refine i_nil ?_
  | with_reducible refine i_cons ?_
  | with_reducible refine i_call ?_
  | with_reducible refine i_cb ?_
  | with_reducible refine i_rI0 ?_
  | with_reducible refine i_rU ?_
  | ((with_reducible refine i_rEq ?hs ?_); (case hs => exact rfl))
  | ((with_reducible refine i_rNe ?hs ?_); (case hs => exact rfl))
  | ((with_reducible refine i_rI ?hc ?_); (case hc => walk_at "sd"))
  | ((with_reducible refine i_ixL (xs := ?xs) (v := ?vv) ?hS ?he ?_); (case hS => walk_at "sq"); (case he => exact rfl))
  | ((with_reducible refine i_setL (xs := ?xs) (j := ?jj) ?hS ?he ?_); (case hS => walk_at "hp"); (case he => exact rfl))
  | with_reducible refine i_tup ?_
  | with_reducible refine i_lst ?_
  | with_reducible refine i_bm ?_
  | with_reducible refine i_bm0 ?_
  | with_reducible refine i_m1 ?_
  | with_reducible refine i_sl ?_
  | with_reducible refine i_nopart ?_
  | with_reducible refine i_part ?_
  | with_reducible refine i_int ?_
  | with_reducible refine i_str ?_
  | with_reducible refine i_for ?_
  | with_reducible refine i_yes ?_
  | ((with_reducible refine i_lenL (xs := ?xs) ?hS ?_); (case hS => walk_at "sq"))
  | ((with_reducible refine i_room ?hz ?_); (case hz => walk_at "len"))
  | with_reducible refine i_leT ?_
  | with_reducible refine i_notInS ?_
  | with_reducible refine i_inS ?_
  | with_reducible refine i_find ?_
  | with_reducible refine i_isB ?_
  | with_reducible refine i_max2 ?_
  | with_reducible refine i_min2 ?_
  | with_reducible exact trivial
  | with_reducible refine iteT ?_
  | with_reducible refine iteF ?_
  | with_reducible refine i_isstr ?_
  | with_reducible refine i_lc ?_
  | ((with_reducible refine i_cat (xs := ?xs) (zs := ?zs) ?ha ?hb ?hz ?_); (case ha => walk_at "hp"); (case hb => walk_at "hp"); (case hz => walk_at "len"))
  | ((with_reducible refine i_tyL (xs := ?xs) ?ha ?_); (case ha => walk_at "hp"))
  | with_reducible refine i_list ?_
  | with_reducible refine i_disp ?_
  | with_reducible refine i_pairs0 ?_
  | with_reducible refine i_pairs ?_
  | with_reducible refine i_newK ?_
  | with_reducible refine i_gcons ?_
  | with_reducible refine i_gnil ?_
  | with_reducible refine i_revL ?_
  | with_reducible refine i_rng1 ?_
  | ((with_reducible refine i_wipe ?hw ?_); (case hw => exact rfl))
  | with_reducible refine iteNT ?_
  | with_reducible refine iteNF ?_)
local macro_rules | `(tactic| walk_at "sx") => `(tactic| first
  | walk_at "st"
  | with_reducible refine i_kinit ?_
  | with_reducible refine i_ost ?_
  | with_reducible refine i_mkO ?_
  | with_reducible refine i_callE ?_
  | with_reducible refine i_makeE ?_
  | with_reducible refine i_xf ?_
  | with_reducible refine i_sfld ?_
  | with_reducible refine i_fld ?_
  | ((with_reducible refine i_ixT (xs := ?xs) (v := ?vv) ?hS ?he ?_); (case hS => exact SqT.tup (by walk_at "hp")); (case he => exact rfl))
  | with_reducible refine i_intB ?_
  | with_reducible refine i_runS ?_
  | with_reducible refine i_runN ?_
  | ((with_reducible refine i_xf1 (fs := ?ff) (v := ?vv) ?hx ?hl ?_); (case hx => walk_at "hp"); (case hl => exact rfl))
  | with_reducible refine i_methE ?_
  | with_reducible refine i_meth ?_
  | with_reducible refine i_make ?_
  | ((with_reducible refine i_obj (dx := ?dd) (fs := ?ff) ?hx ?hl ?_); (case hx => walk_at "hp"); (case hl => exact rfl))
  | ((with_reducible refine i_fld1 (C := ?CC) (dx := ?dd) (fs := ?ff) (v := ?vv) ?hx ?cl ?na ?hl ?_); (case hx => walk_at "hp"); (case cl => assumption); (case na => assumption); (case hl => exact rfl)))
local macro_rules | `(tactic| walk_at "sy") => `(tactic| first
  | walk_at "sx"
  | with_reducible refine i_dget ?_
  | with_reducible refine i_dget2 ?_
  | with_reducible refine i_dput ?_
  | with_reducible refine i_din ?_
  | ((with_reducible refine i_aug (x := ?vv) ?hx ?_); (case hx => exact rfl)))
local macro_rules | `(tactic| walk_at "rd") => `(tactic| repeat (walk_at "sy"))

section
variable {P : Program} {w : World} {K : PySem.W.Frag} {mg : Str → Option Value} {base : Heap}
theorem ok_law (T : Top w K mg) : FnG P w K mg base CX0 7 T.a_law T.d_law ["_law_script"] (spLaw K) := by
  have G_box := ok_box (P := P) (w := w) (base := base) T
  have G_line := ok_line (P := P) (w := w) (base := base) T
  have G_cell := ok_cell (P := P) (w := w) (base := base) T
  have G_take := ok_take (P := P) (w := w) (base := base) T
  have G_right := ok_right (P := P) (w := w) (base := base) T
  have G_spoilt := ok_spoilt (P := P) (w := w) (base := base) T
  have G_NoLine___init__ := ok_NoLine___init__ (P := P) (w := w) (base := base) T
  refine okG T.F_law sc_law (fun vs H Q E h => ?_) (fun cdv A outer s H vs Q E hr hgd h => ?_)
  · obtain ⟨a, ns, rfl, _⟩ := h
    rfl
  · obtain ⟨a, ns, rfl, hS, hlen, _, hO, q⟩ := h
    have hu110 := un110 hr
    have hu64 := un64 hr
    have hu : _ := un1 hr
    have zz : (60000 : Nat) ≤ sizeLine := sz_of (by decide)
    refine ⟨_, (pss_cons (ps_for PassesOwn.never rfl (pi_range1 (by rfl) T.n_range (pa_cons (pe_callB (c_max2) (by rfl) T.n_max (by decide +kernel) (pa_cons pe_int (pa_cons (pe_callB (c_min2) (by rfl) T.n_min (by decide +kernel) (pa_cons pe_int (pa_cons (pe_callB c_len (by rfl) T.n_len (by decide +kernel) (pa_cons (pv 0) pa_nil)) pa_nil))) pa_nil))) pa_nil)) (pg_name (i := 1) sc_law.nd rfl (by first | exact Or.inl rfl | exact Or.inr rfl))
        (pss_cons (ps_set (i := 2) sc_law.nd rfl (by first | exact Or.inl rfl | exact Or.inr rfl) (g_call G_box (hr.mono (by decide)) hgd (by rfl) T.m_box T.F_box.kp T.b_box .nil pass0 (pa_cons (g_call G_cell (hr.mono (by decide)) hgd (by rfl) T.m_cell T.F_cell.kp T.b_cell .nil pass0 (pa_cons (pv 0) (pa_cons (pv 1) pa_nil))) pa_nil)))
      (pss_cons (ps_set (i := 3) sc_law.nd rfl (by first | exact Or.inl rfl | exact Or.inr rfl) (pe_ix ix_list (pe_lst (pa_cons pe_int (pa_cons pe_int (pa_cons pe_int (pa_cons pe_int (pa_cons pe_int pa_nil)))))) (g_call G_take (hr.mono (by decide)) hgd (by rfl) T.m_take T.F_take.kp T.b_take .nil pass0 (pa_cons (pv 2) (pa_cons pe_int pa_nil))) (fun _ _ => rfl)))
      (pss_cons (ps_set (i := 4) sc_law.nd rfl (by first | exact Or.inl rfl | exact Or.inr rfl) (g_call G_line (hr.mono (by decide)) hgd (by rfl) T.m_line T.F_line.kp T.b_line .nil pass0 (pa_cons (pv 2) pa_nil)))
      (pss_cons (ps_if (pt_not (pt_val (g_call G_right (hr.mono (by decide)) hgd (by rfl) T.m_right T.F_right.kp T.b_right .nil pass0 (pa_cons (pv 4) pa_nil))))
        (pss_one (ps_ret pe_bl))
        pss_nil)
      (pss_one (ps_for PassesOwn.never rfl (pi_range1 (by rfl) T.n_range (pa_cons (pv 3) pa_nil)) (pg_name (i := 5) sc_law.nd rfl (by first | exact Or.inl rfl | exact Or.inr rfl))
        (pss_cons (ps_set (i := 4) sc_law.nd rfl (by first | exact Or.inl rfl | exact Or.inr rfl) (g_call G_spoilt (hr.mono (by decide)) hgd (by rfl) T.m_spoilt T.F_spoilt.kp T.b_spoilt .nil pass0 (pa_cons (pv 2) (pa_cons (pv 4) pa_nil))))
      (pss_one (ps_if (pt_not (pt_val (g_call G_right (hr.mono (by decide)) hgd (by rfl) T.m_right T.F_right.kp T.b_right .nil pass0 (pa_cons (pv 4) pa_nil))))
        (pss_one (ps_ret pe_bl))
        pss_nil))))))))))
      (pss_cons (ps_for PassesOwn.never rfl (pi_list (pe_lst (pa_cons pe_non (pa_cons pe_int (pa_cons pe_bl (pa_cons (pe_lst (pa_cons pe_str pa_nil)) (pa_cons (pe_tup (pa_cons pe_str pa_nil)) (pa_cons pe_dnewK (pa_cons (pe_oex T.ox_NoLine T.in_NoLine T.tf_NoLine G_NoLine___init__ (hr.mono (by decide)) T.b_NoLine___init__ .nil pass0 (by rfl) T.c_NoLine (pa_cons pe_str pa_nil)) (pa_cons pe_str (pa_cons pe_str (pa_cons pe_str (pa_cons pe_str (pa_cons pe_str pa_nil)))))))))))))) (pg_name (i := 6) sc_law.nd rfl (by first | exact Or.inl rfl | exact Or.inr rfl))
        (pss_one (ps_if (pt_not (pt_val (g_call G_right (hr.mono (by decide)) hgd (by rfl) T.m_right T.F_right.kp T.b_right .nil pass0 (pa_cons (pv 6) pa_nil))))
        (pss_one (ps_ret pe_bl))
        pss_nil)))
      (pss_one (ps_ret pe_bl)))), ?_⟩
    walk_at "rd"
    generalize hN : (if (if ((ns.map V.int).length : Int) < 12 then ((ns.map V.int).length : Int) else 12) > 3 then (if ((ns.map V.int).length : Int) < 12 then ((ns.map V.int).length : Int) else 12) else 3) = N
    have hN2 : 3 ≤ N ∧ N ≤ 12 := by rw [← hN]; split <;> split <;> omega
    refine ⟨N, rfl, by omega, by omega, ?_⟩
    refine for_range (lo := 0) (n := N.toNat) (fun i σ H' => Same H H' ∧ ∃ z1 z2 z3 z4 z5 z6, σ = [some (.ref a), z1, z2, z3, z4, z5, z6])
      ⟨Same.refl _, _, _, _, _, _, _, rfl⟩ ?_ ?_
    · rintro i σ H1 hi ⟨s1, z1, z2, z3, z4, z5, z6, rfl⟩
      have hi10 : i < 12 := by omega
      walk_at "rd"
      refine ⟨a, ns, _, rfl, s1.seq hS, by omega, by omega, fun z => ?_⟩
      walk_at "rd"
      refine ⟨z, rfl, fun b H2 hb s12 B2 => ?_⟩
      walk_at "rd"
      (intro l1 hl1; generalize el1 : upd _ l1 _ = J3; have N3 := New.of el1 hl1; clear el1 hl1)
      walk_at "rd"
      refine ⟨b, 5, _, rfl, B2.nw N3, by omega, by decide, by decide, fun dd H4 d0 d1 e4 B4 => ?_⟩
      obtain ⟨mv, hat, hm, _⟩ := atI_some (xs := [V.int 0, V.int 1, V.int 1, V.int 2, V.int 3]) d0 (by simpa using d1)
      obtain ⟨many, rfl, m3⟩ : ∃ k : Nat, mv = .int k ∧ k ≤ 3 := by
        simp only [List.mem_cons, List.not_mem_nil, or_false] at hm
        rcases hm with h | h | h | h | h
        · exact ⟨0, h, by decide⟩
        · exact ⟨1, h, by decide⟩
        · exact ⟨1, h, by decide⟩
        · exact ⟨2, h, by decide⟩
        · exact ⟨3, h, by decide⟩
      refine i_ixL (SqL.lst (e4 l1 _ (B2.off N3) N3.at_)) hat ?_
      walk_at "rd"
      refine ⟨b, _, rfl, B4, by omega, fun u H5 lu au e5 B5 => ?_⟩
      have e25 : But b H2 H5 := N3.but.trans (e4.trans e5)
      walk_at "rd"
      refine ⟨_, rfl, .inr ⟨u, rfl, by omega, au⟩, fun H6 s6 => ?_⟩
      walk_at "rd"
      refine ⟨many, rfl, by omega, by omega, ?_⟩
      refine for_range (lo := 0) (n := many) (fun j σ H' => But b H2 H' ∧ Box H' b (70 + 4 * j) ∧ ∃ (u : Str) (z5 : Option V), u.length ≤ 400 + 20 * j ∧ Asc u ∧ σ = [some (.ref a), some (.int (0 + (i : Int))), some (.ref b), some (.int many), some (.str u), z5, z6])
        ⟨e25.trans (Same.but s6), (B5.same s6).mono (by omega), u, _, by omega, au, rfl⟩ ?_ ?_
      · rintro j σ H7 hj ⟨e7, B7, u, z5, lu, au, rfl⟩
        walk_at "rd"
        refine ⟨b, _, u, rfl, B7, by omega, by omega, au, fun u2 H8 lu2 au2 e8 B8 => ?_⟩
        walk_at "rd"
        refine ⟨_, rfl, .inr ⟨u2, rfl, by omega, au2⟩, fun H9 s9 => ?_⟩
        walk_at "rd"
        exact ⟨e7.trans (e8.trans (Same.but s9)), (B8.same s9).mono (by omega), u2, _, by omega, au2, rfl⟩
      · rintro σ H7 ⟨e7, B7, u, z5, lu, au, rfl⟩
        walk_at "rd"
        exact ⟨s1.trans (But.to s12 e7 hb), _, _, _, _, _, _, rfl⟩
    · rintro σ H1 ⟨s1, z1, z2, z3, z4, z5, z6, rfl⟩
      walk_at "rd"
      (intro l1 hl1; generalize el1 : upd _ l1 _ = J2; have N2 := New.of el1 hl1; clear el1 hl1)
      walk_at "rd"
      (intro t1 ht1; generalize et1 : upd _ t1 _ = J3; have N3 := New.of et1 ht1; clear et1 ht1)
      walk_at "rd"
      (intro d1 hd1; generalize ed1 : upd _ d1 _ = J4; have N4 := New.of ed1 hd1; clear ed1 hd1)
      walk_at "rd"
      refine i_oex ?_
      walk_at "rd"
      refine ⟨by show 1 ≤ 1000; decide, fun e he => ⟨e, T.a_NoLine, .str (Str.ofString "undo"), rfl, T.ox_NoLine, T.nf_NoLine_found, upd_same, fun dx hdx ne => ⟨rfl, ?_⟩⟩⟩
      have hdx5 : J4 dx = none := by rw [upd_ne ne] at hdx; exact hdx
      generalize eJ : upd (upd (upd J4 e (exo e T.a_NoLine none)) dx (exd dx [(Str.ofString "found", V.str (Str.ofString "undo"))])) e (exo e T.a_NoLine (some dx)) = J6
      have s46 : Same J4 J6 := fun y o h => by
        rw [← eJ, upd_ne (ne_of_none h he), upd_ne (ne_of_none h hdx5), upd_ne (ne_of_none h he)]; exact h
      have ke6 : J6 e = some (exo e T.a_NoLine (some dx)) := by rw [← eJ, upd_same]
      have kx6 : J6 dx = some (exd dx [(Str.ofString "found", V.str (Str.ofString "undo"))]) := by rw [← eJ, upd_ne ne, upd_same]
      clear eJ
      walk_at "rd"
      (intro L hL; generalize eL : upd _ L _ = J7; have N7 := New.of eL hL; clear eL hL)
      have s67 := N7.same
      have s47 : Same J4 J7 := s46.trans s67
      have txt : ∀ {z : Str}, z.length ≤ 500 → Asc z → (Odd T J7 (.str z) ∨ ∃ u : Str, V.str z = .str u ∧ u.length ≤ 500 ∧ Asc u) := fun a b => .inr ⟨_, rfl, a, b⟩
      have all : ∀ v ∈ [V.non, V.int 7, V.bl true, V.ref l1, V.ref t1, V.ref d1, V.ref e, V.str (Str.ofString ""), V.str (Str.ofString " "), V.str (Str.ofString "open"), V.str (Str.ofString "undo "), V.str (Str.ofString " undo")], Odd T J7 v ∨ ∃ u : Str, v = .str u ∧ u.length ≤ 500 ∧ Asc u := by
        intro v hv
        have i1 : ∀ v ∈ [V.str (Str.ofString "undo")], It1 v := fun v h => by
          rw [List.mem_singleton.mp h]
          exact .inr ⟨_, .str (by decide +kernel) (by decide +kernel)⟩
        simp only [List.mem_cons, List.not_mem_nil, or_false] at hv
        rcases hv with rfl | rfl | rfl | rfl | rfl | rfl | rfl | rfl | rfl | rfl | rfl | rfl
        · exact .inl (.ps .non .non)
        · exact .inl (.ps (.int _) (.int (by decide)))
        · exact .inl (.ps (.bl _) (.bl _))
        · exact .inl (.lst (s47 _ _ (N4.app (N3.app N2.at_))) i1)
        · exact .inl (.tup (s47 _ _ (N4.app N3.at_)) i1)
        · exact .inl (.dct (s47 _ _ N4.at_))
        · exact .inl (.err (s67 _ _ ke6) (s67 _ _ kx6))
        · exact txt (by decide +kernel) (asc_of _ (by decide +kernel))
        · exact txt (by decide +kernel) (asc_of _ (by decide +kernel))
        · exact txt (by decide +kernel) (asc_of _ (by decide +kernel))
        · exact txt (by decide +kernel) (asc_of _ (by decide +kernel))
        · exact txt (by decide +kernel) (asc_of _ (by decide +kernel))
      refine ⟨L, rfl, ⟨_, SqL.lst N7.at_⟩, ?_⟩
      have kL := N7.at_
      generalize [V.non, V.int 7, V.bl true, V.ref l1, V.ref t1, V.ref d1, V.ref e, V.str (Str.ofString ""), V.str (Str.ofString " "), V.str (Str.ofString "open"), V.str (Str.ofString "undo "), V.str (Str.ofString " undo")] = xs at all kL
      refine for_list (K := K) (a := L) (xs := xs) (fun i σ H' => Same J7 H' ∧ ∃ z1 z2 z3 z4 z5 z6, σ = [some (.ref a), z1, z2, z3, z4, z5, z6])
        ⟨Same.refl _, _, _, _, _, _, _, rfl⟩ (fun i σ H' _ h => SqL.lst (h.1 _ _ kL)) ?_ ?_
      · rintro i v σ H8 hx ⟨s8, z1, z2, z3, z4, z5, z6, rfl⟩
        walk_at "rd"
        refine ⟨v, rfl, ?_, fun H9 s9 => ?_⟩
        · rcases all v (List.mem_of_getElem? hx) with h | h
          · exact .inl (h.same s8)
          · exact .inr h
        walk_at "rd"
        exact ⟨s8.trans s9, _, _, _, _, _, _, rfl⟩
      · rintro σ H8 ⟨s8, z1, z2, z3, z4, z5, z6, rfl⟩
        walk_at "rd"
        exact q _
end

end Ice

set_option Elab.async false
set_option linter.all false
set_option maxRecDepth 100000
set_option maxHeartbeats 4000000
set_option autoImplicit true
namespace Ice
open PySem PySem.Spec PyProof.Rows L2 TL
/-! side conditions, heaps, one step of a reading, and many -/
local macro_rules | `(tactic| walk_at "hp") => `(tactic| first | assumption | exact upd_same | exact New.at_ (by assumption) | (refine keepU ?_ (by assumption); walk_at "hp") | (refine New.app (by assumption) ?_; walk_at "hp") | (refine Same.app (by assumption) ?_; walk_at "hp") | (refine But.app (by assumption) (by assumption) ?_; walk_at "hp"))
local macro_rules | `(tactic| walk_at "sq") => `(tactic| first | assumption | exact SqL.lst (by walk_at "hp") | exact L2.Same.seq (New.same (by assumption)) (by assumption) | exact L2.Same.seq (by assumption) (by assumption))
local macro_rules | `(tactic| walk_at "len") => `(tactic| first | assumption | (simp only [List.length_cons, List.length_nil, List.length_append, List.length_map]; decide) | (refine Ice.sz_of ?_; simp only [List.length_cons, List.length_nil, List.length_append, List.length_map]; omega))
local macro_rules | `(tactic| walk_at "fresh") => `(tactic| (simp only [List.map_append, List.map_cons, List.map_nil, List.nil_append, List.cons_append]; decide +kernel))
local macro_rules | `(tactic| walk_at "sd") => `(tactic| first | assumption | (show _ ≠ _; omega) | exact Or.inl ⟨by omega, by omega⟩ | exact Or.inr ⟨by omega, by omega⟩ | exact ⟨by decide, by decide⟩ | exact ⟨by decide, by decide, by decide⟩ | exact ⟨by omega, by omega, by omega⟩)
/-! one step of a reading, and many -/
local macro_rules | `(tactic| walk_at "st") => `(tactic| first
  | with_reducible refine i_seq ?_
  | with_reducible refine i_if ?_
  | with_reducible refine i_next ?_
  | with_reducible refine i_ret ?_
  | with_reducible refine i_retN ?_
  | with_reducible refine i_drop ?_
  | with_reducible refine i_asg ?_
  | with_reducible refine i_gname ?_
  | with_reducible refine i_gsub ?_
  | ((with_reducible refine i_var (v := ?vv) ?hv ?_); (case hv => exact rfl))
  | with_reducible refine i_c ?_
  | with_reducible refine i_op ?_
  | with_reducible refine i_un ?_
  | with_reducible refine i_test ?_
  | with_reducible refine i_tB ?_
  | with_reducible refine i_and ?_
  | with_reducible refine i_or ?_
  | with_reducible refine i_not ?_
  | with_reducible refine i_andV ?_
  | with_reducible refine i_orV ?_
  | with_reducible refine i_notV ?_
  | with_reducible refine i_ifE ?_
  | with_reducible refine i_chain ?_
  | with_reducible refine i_bl ?_
  | with_reducible refine i_nil ?_
  | with_reducible refine i_cons ?_
  | with_reducible refine i_call ?_
  | with_reducible refine i_cb ?_
  | with_reducible refine i_rI0 ?_
  | with_reducible refine i_rU ?_
  | ((with_reducible refine i_rEq ?hs ?_); (case hs => exact rfl))
  | ((with_reducible refine i_rNe ?hs ?_); (case hs => exact rfl))
  | ((with_reducible refine i_rI ?hc ?_); (case hc => walk_at "sd"))
  | ((with_reducible refine i_ixL (xs := ?xs) (v := ?vv) ?hS ?he ?_); (case hS => walk_at "sq"); (case he => exact rfl))
  | ((with_reducible refine i_setL (xs := ?xs) (j := ?jj) ?hS ?he ?_); (case hS => walk_at "hp"); (case he => exact rfl))
  | with_reducible refine i_tup ?_
  | with_reducible refine i_lst ?_
  | with_reducible refine i_bm ?_
  | with_reducible refine i_bm0 ?_
  | with_reducible refine i_m1 ?_
  | with_reducible refine i_sl ?_
  | with_reducible refine i_nopart ?_
  | with_reducible refine i_part ?_
  | with_reducible refine i_int ?_
  | with_reducible refine i_str ?_
  | with_reducible refine i_for ?_
  | with_reducible refine i_yes ?_
  | ((with_reducible refine i_lenL (xs := ?xs) ?hS ?_); (case hS => walk_at "sq"))
  | ((with_reducible refine i_room ?hz ?_); (case hz => walk_at "len"))
  | with_reducible refine i_leT ?_
  | with_reducible refine i_notInS ?_
  | with_reducible refine i_inS ?_
  | with_reducible refine i_find ?_
  | with_reducible refine i_isB ?_
  | with_reducible refine i_max2 ?_
  | with_reducible refine i_min2 ?_
  | with_reducible exact trivial
  | with_reducible refine iteT ?_
  | with_reducible refine iteF ?_
  | with_reducible refine i_isstr ?_
  | with_reducible refine i_lc ?_
  | ((with_reducible refine i_cat (xs := ?xs) (zs := ?zs) ?ha ?hb ?hz ?_); (case ha => walk_at "hp"); (case hb => walk_at "hp"); (case hz => walk_at "len"))
  | ((with_reducible refine i_tyL (xs := ?xs) ?ha ?_); (case ha => walk_at "hp"))
  | with_reducible refine i_list ?_
  | with_reducible refine i_disp ?_
  | with_reducible refine i_pairs0 ?_
  | with_reducible refine i_pairs ?_
  | with_reducible refine i_newK ?_
  | with_reducible refine i_gcons ?_
  | with_reducible refine i_gnil ?_
  | with_reducible refine i_revL ?_
  | with_reducible refine i_rng1 ?_
  | ((with_reducible refine i_wipe ?hw ?_); (case hw => exact rfl))
  | with_reducible refine iteNT ?_
  | with_reducible refine iteNF ?_)
local macro_rules | `(tactic| walk_at "rd") => `(tactic| repeat (walk_at "st"))

end Ice
set_option maxHeartbeats 0 in
theorem PySem.Challenge.cw_iceopened_k83_lines_read_holds : PySem.Challenge.rw_iceopened_k83_lines_read.Holds := by
  exact Ice.head_of fun _ _ _ _ _ T => Ice.ok_law T

