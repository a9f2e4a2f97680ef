import PyProof.Rows.All
import Wide.All
import OpenK.AllK
import Wide.FinOn
import HandS.ForMost
import HandS.Exc
import HandS.TryOnly
import HandS.WordsExc
import HandS.IsInst
import HandS.ExcInit
import HandS.ExcSuper
import HandS.ExcField
import HandS.Nested
import KE.KExcSuper
import HandS.Defaults
import HandS.CallSlots
import HandS.MakeKwOnly
import HandS.OwnEq
import HandS.SlotsOwn
import HandS.More
import HandS.Walk
import KE.Datum
import HandS.Wide
import HandS.Head0
import HandS.Head1
import HandS.Head2
import HandS.HeadEnd
import HandS.HeadHook1
import HandS.HeadHook2
import KE.KStateDown
import KE.DataCmp
import HandS.Deep
import HandS.Codes
import HandS.DictComp
import HandS.Iter
import HandS.TryMany
import HandS.Style
import HandS.Dict
import HandS.Conv
import HandS.TupLen
import HandS.RevRange
import KE.KListMore
import HandS.SetFor
import HandS.TupLe
import HandS.ExcIs
import HandS.HotCalls
import PySem.Challenge.RW_pairorder_k52_counting_refused
set_option Elab.async false
set_option linter.all false
set_option maxRecDepth 100000
/-! What the laws of this program share: the reading's steps, the heap but for one object, the pool of draws. -/
namespace Pk
open PySem L2

/-! ### steps of a reading -/
section
variable {K : PySem.W.Frag} {σ : L2.St} {H : Hp} {Q : VK} {D : Ends} {ta tb te to ti : TE} {t u : TS} {tt tu : TT} {tr : TA} {i j : Nat} {v w : V} {a b : Int}
theorem r_seq (h : t { D with nx := u D } σ H) : tSeq t u D σ H := h
theorem r_nxt (h : D.nx σ H) : tNext D σ H := h
theorem r_asg {g : TG} (h : te σ H fun x H1 => g x σ H1 D.nx) : tAsg te g D σ H := h
theorem r_to {P : L2.St → Hp → Prop} (h : P (σ.set i (some v)) H) : gName i v σ H P := h
theorem r_for {wi : TI} {g : TG} (h : wi σ H fun J H1 => ∃ W : Nat → Nat → L2.St → Hp → Prop, (∃ m, W 0 m σ H1) ∧ ∀ i m σ H, W i m σ H →
    (J.stop i H ∧ D.nx σ H) ∨ (J.go i H ∧ ∃ N : L2.St → Hp → Prop, (∀ σ' H', N σ' H' → ∃ m', m' < m ∧ W (i + 1) m' σ' H') ∧ ∀ x H', J.yld i H x H' → g x σ H' fun σ2 H2 => t { D with nx := N, ct := N, bk := D.nx } σ2 H2)) : tFor wi g t D σ H := h
theorem r_lc {wi : TI} {g : TG} {vs : List Nat} (h : wi σ H fun J H1 => ∀ D, H1 D = none → ∃ W : Nat → Nat → Hp → Prop, (∃ m, W 0 m (upd H1 D (.lst []))) ∧ ∀ i m H, W i m H →
    (J.stop i H ∧ Q (.ref D) H) ∨ (J.go i H ∧ ∃ Nx : Hp → Prop, (∀ H', Nx H' → ∃ m', m' < m ∧ W (i + 1) m' H') ∧ ∀ x H', J.yld i H x H' → g x (wipe σ vs) H' fun σ2 H2 => wipe σ2 vs = wipe σ vs ∧ tt σ2 H2 fun b H3 =>
      if b = true then te σ2 H3 fun y H4 => ∃ acc, H4 D = some (.lst acc) ∧ acc.length < sizeLine ∧ Nx (upd H4 D (.lst (acc ++ [y]))) else Nx H3)) : tLc wi g tt te vs σ H Q := h
theorem r_tupI {R : It → Hp → Prop} (h : te σ H fun x H1 => ∃ l, x = .ref l ∧ (∃ xs, SqT K H1 l xs) ∧ R (Itt K l) H1) : iTup K te σ H R := h
theorem r_yes {P : Bool → Hp → Prop} (h : P true H) : tYes σ H P := h
theorem r_B {P : Bool → Hp → Prop} (h : te σ H fun x H1 => ∃ c, x = .bl c ∧ P c H1) : tB te σ H P := h
theorem r_rng1 {R : It → Hp → Prop} (h : tr σ H fun vs H1 => ∃ j : Int, vs = [.int j] ∧ -(2 ^ 62) ≤ j ∧ j < 2 ^ 62 ∧ R (Itr 0 j.toNat) H1) : iRng1 tr σ H R := h
theorem r_list {R : It → Hp → Prop} (h : te σ H fun x H1 => ∃ l, x = .ref l ∧ (∃ xs, SqL K H1 l xs) ∧ R (Itl K l) H1) : iList K te σ H R := h
theorem r_ret (h : te σ H D.rt) : tRet te D σ H := h
theorem r_drop (h : te σ H fun _ H1 => D.nx σ H1) : tDrop te D σ H := h
theorem r_ifs (h : tt σ H fun c H1 => if c = true then t D σ H1 else u D σ H1) : tIfS tt t u D σ H := h
theorem r_var (e : σ[i]? = some (some v)) (h : Q v H) : tVar i σ H Q := ⟨v, e, h⟩
theorem r_c (h : Q v H) : tC v σ H Q := h
theorem r_op {r : R2} (h : ta σ H fun x H1 => tb σ H1 fun y H2 => r x y H2 Q) : tOp r ta tb σ H Q := h
theorem r_un {r : V → Hp → VK → Prop} (h : ta σ H fun x H1 => r x H1 Q) : tUn r ta σ H Q := h
theorem r_U {g : Int → V} (h : Q (g a) H) : rU g (.int a) H Q := ⟨a, rfl, h⟩
theorem r_make {C : Addr} {sp : Sp} {dvs : List V} {E : XK} (h : tr σ H fun vs H1 => ∀ x dx, H1 x = none → H1 dx = none → dx ≠ x → sp (.ref x :: (vs ++ dvs)) (upd (upd H1 dx (.own x)) x (.ins C dx [])) (fun v H2 => v = .non ∧ Q (.ref x) H2) E) : tMake C sp dvs E tr σ H Q := h
theorem r_cat {l m : Addr} {xs zs : List V} (hl : H l = some (.lst xs)) (hm : H m = some (.lst zs)) (hz : xs.length + zs.length ≤ sizeLine) (h : ∀ p, H p = none → Q (.ref p) (upd H p (.lst (xs ++ zs)))) : rCat (.ref l) (.ref m) H Q := ⟨l, m, xs, zs, rfl, rfl, hl, hm, hz, h⟩
theorem r_sum {l : Addr} {ns : List Int} (hl : SqL K H l (ns.map V.int)) (h : Q (.int ns.sum) H) : rSum K [.ref l] H Q := ⟨l, ns, rfl, hl, h⟩
theorem r_I0 {g : Int → Int → V} (h : Q (g a b) H) : rI0 g (.int a) (.int b) H Q := ⟨a, b, rfl, rfl, h⟩
theorem r_I {C : Int → Int → Prop} {g : Int → Int → V} (c : C a b) (h : Q (g a b) H) : rI C g (.int a) (.int b) H Q := ⟨a, b, rfl, rfl, c, h⟩
theorem r_mod (c : 0 < b) (h : Q (.int (a % b)) H) : rI (fun _ j => 0 < j) (fun i j => .int (i % j)) (.int a) (.int b) H Q := r_I c h
theorem r_div (c : 0 < b) (d : b < 1073741824) (h : Q (.int (a / b)) H) : rI CDiv (fun i j => .int (i / j)) (.int a) (.int b) H Q := r_I ⟨c, d⟩ h
theorem r_mulL (c : -(2 ^ 64) < a) (d : a < 2 ^ 64) (h : Q (.int (a * b)) H) : rI CMul (fun i j => .int (i * j)) (.int a) (.int b) H Q := r_I (.inl ⟨c, d⟩) h
theorem r_mulR (c : -(2 ^ 64) < b) (d : b < 2 ^ 64) (h : Q (.int (a * b)) H) : rI CMul (fun i j => .int (i * j)) (.int a) (.int b) H Q := r_I (.inr ⟨c, d⟩) h
theorem r_pow (c : 0 ≤ b) (d : b ≤ 1000000) (e : a.natAbs < 2 ^ 64) (h : Q (.int (a ^ b.toNat)) H) : rI CPow (fun i j => .int (i ^ j.toNat)) (.int a) (.int b) H Q := r_I ⟨c, d, e⟩ h
theorem r_ixL {p : Addr} {xs : List V} (hs : SqL K H p xs) (he : atI xs a = some v) (h : Q v H) : rIxL K (.ref p) (.int a) H Q := ⟨p, xs, a, v, rfl, rfl, hs, he, h⟩
theorem r_ixT {p : Addr} {xs : List V} (hs : SqT K H p xs) (he : atI xs a = some v) (h : Q v H) : rIxT K (.ref p) (.int a) H Q := ⟨p, xs, a, v, rfl, rfl, hs, he, h⟩
theorem r_sub {s : TSet} {P : L2.St → Hp → Prop} (h : to σ H fun o H1 => ti σ H1 fun k H2 => s o k v H2 fun H3 => P σ H3) : gSub to ti s v σ H P := h
theorem r_setL {p : Addr} {xs : List V} {P : Hp → Prop} (hp : H p = some (.lst xs)) (hj : ixN xs.length a = some j) (h : P (upd H p (.lst (xs.set j v)))) : rSetL (.ref p) (.int a) v H P := ⟨p, xs, a, j, rfl, rfl, hp, hj, h⟩
theorem r_nil {R : List V → Hp → Prop} (h : R [] H) : tNil σ H R := h
theorem r_cons {R : List V → Hp → Prop} (h : ta σ H fun x H1 => tr σ H1 fun xs H2 => R (x :: xs) H2) : tCons ta tr σ H R := h
theorem r_cb {r : List V → Hp → VK → Prop} (h : tr σ H fun vs H1 => r vs H1 Q) : tCB r tr σ H Q := h
theorem r_call {sp : Sp} {dvs : List V} {E : XK} (h : tr σ H fun vs H1 => sp (vs ++ dvs) H1 Q E) : tCall sp dvs E tr σ H Q := h
theorem r_sl {r : V → Option Int → Option Int → Hp → VK → Prop} {tl th : TO} (h : te σ H fun x H1 => tl σ H1 fun l H2 => th σ H2 fun u H3 => r x l u H3 Q) : tSl r te tl th σ H Q := h
theorem r_noP {P : Option Int → Hp → Prop} (h : P none H) : tNoPart σ H P := h
theorem r_part {P : Option Int → Hp → Prop} (h : te σ H fun x H1 => ∃ i, x = .int i ∧ P (some i) H1) : tPart te σ H P := h
theorem r_isI {P : Int → Prop} (h : P a) : ∃ i, V.int a = .int i ∧ P i := ⟨a, rfl, h⟩
theorem r_lst (h : tr σ H fun xs H1 => xs.length ≤ sizeLine ∧ ∀ p, H1 p = none → Q (.ref p) (upd H1 p (.lst xs))) : tLst tr σ H Q := h
theorem r_tup (h : tr σ H fun xs H1 => xs.length ≤ sizeLine ∧ ∀ p, H1 p = none → Q (.ref p) (upd H1 p (.tup xs))) : tTup tr σ H Q := h
theorem r_test {P : Bool → Hp → Prop} (h : te σ H fun x H' => ∃ k, x = .bl k ∧ P k H') : tTest te σ H P := h
theorem r_and {P : Bool → Hp → Prop} (h : tt σ H fun c H1 => if c = true then tu σ H1 P else P false H1) : tAnd tt tu σ H P := h
theorem r_or {P : Bool → Hp → Prop} (h : tt σ H fun c H1 => if c = true then P true H1 else tu σ H1 P) : tOr tt tu σ H P := h
theorem r_not {P : Bool → Hp → Prop} (h : tt σ H fun c H1 => P (!c) H1) : tNot tt σ H P := h
theorem r_bl {P : Bool → Prop} {k : Bool} (h : P k) : ∃ c, V.bl k = .bl c ∧ P c := ⟨k, rfl, h⟩
theorem r_eq (hs : scal v w = true) (h : Q (.bl (decide (v = w))) H) : rEq v w H Q := ⟨hs, h⟩
theorem r_eqT (hs : scal v v = true) (h : Q (.bl true) H) : rEq v v H Q := ⟨hs, by rw [decide_eq_true (rfl : v = v)]; exact h⟩
theorem r_andV (h : ta σ H fun x H1 => ∃ c, x = .bl c ∧ if c = true then tb σ H1 Q else Q (.bl false) H1) : tAndV ta tb σ H Q := h
theorem r_orV (h : ta σ H fun x H1 => ∃ c, x = .bl c ∧ if c = true then Q (.bl true) H1 else tb σ H1 Q) : tOrV ta tb σ H Q := h
theorem r_notV (h : ta σ H fun x H1 => ∃ c, x = .bl c ∧ Q (.bl (!c)) H1) : tNotV ta σ H Q := h
theorem r_ne (hs : scal v w = true) (h : Q (.bl (!decide (v = w))) H) : rNe v w H Q := ⟨hs, h⟩
theorem ite_nF {A B : Prop} (h : A) : if (!false) = true then A else B := by rw [show (!false) = true from rfl, if_pos rfl]; exact h
theorem ite_nT {A B : Prop} (h : B) : if (!true) = true then A else B := by rw [show (!true) = false from rfl, if_neg Bool.false_ne_true]; exact h
theorem ite_no {c : Prop} [Decidable c] {A B : Prop} (h1 : c → A) (h2 : ¬ c → B) : if (!decide c) = true then B else A := by
  by_cases h : c
  · rw [decide_eq_true h]; exact h1 h
  · rw [decide_eq_false h]; exact h2 h
theorem ite_dec {c : Prop} [Decidable c] {A B : Prop} (h1 : c → A) (h2 : ¬ c → B) : if decide c = true then A else B := by
  by_cases h : c
  · rw [decide_eq_true h, if_pos rfl]; exact h1 h
  · rw [decide_eq_false h, if_neg Bool.false_ne_true]; exact h2 h
end

/-! ### built-ins by readings with a name -/
def rIs0 : R2 := fun x y H Q => y = .non ∧ Q (.bl (decide (x = .non))) H
def rIs1 : R2 := fun x y H Q => y = .non ∧ Q (.bl (!decide (x = .non))) H
theorem op_is0 {X : Cx} : OpR X (compareOp .Is) rIs0 := op_isN
theorem op_is1 {X : Cx} : OpR X (compareOp .IsNot) rIs1 := op_notN
theorem r_is0 {x : V} {H : Hp} {Q : VK} (h : Q (.bl (decide (x = .non))) H) : rIs0 x .non H Q := ⟨rfl, h⟩
theorem r_is1 {x : V} {H : Hp} {Q : VK} (h : Q (.bl (!decide (x = .non))) H) : rIs1 x .non H Q := ⟨rfl, h⟩
def rInt : List V → Hp → VK → Prop := fun xs H Q => ∃ n, xs = [.int n] ∧ Q (.int n) H
def rIntB : List V → Hp → VK → Prop := fun xs H Q => ∃ b, xs = [.bl b] ∧ Q (.int (if b then 1 else 0)) H
def rLen (K : PySem.W.Frag) : List V → Hp → VK → Prop := fun xs H Q => ∃ l ys, xs = [.ref l] ∧ (SqL K H l ys ∨ SqT K H l ys) ∧ Q (.int ys.length) H
theorem cl_int {X : Cx} : CallR X (.type "int") rInt := fun pins s σ H xs us Q I r h => by
  obtain ⟨n, e, q⟩ := h
  exact call_int1 pins s σ H xs us Q I r (.inl ⟨n, e, q⟩)
theorem cl_intB {X : Cx} : CallR X (.type "int") rIntB := fun pins s σ H xs us Q I r h => by
  obtain ⟨b, e, q⟩ := h
  exact call_int1 pins s σ H xs us Q I r (.inr ⟨b, e, q⟩)
def rTupOf (K : PySem.W.Frag) : List V → Hp → VK → Prop := fun xs H Q => ∃ l ys, xs = [.ref l] ∧ SqL K H l ys ∧ ∀ q, H q = none → Q (.ref q) (upd H q (.tup ys))
def rLstOf (K : PySem.W.Frag) : List V → Hp → VK → Prop := fun xs H Q => ∃ l ys, xs = [.ref l] ∧ (SqL K H l ys ∨ SqT K H l ys) ∧ ∀ q, H q = none → Q (.ref q) (upd H q (.lst ys))
theorem cl_tup {X : Cx} : CallR X (.type "tuple") (rTupOf X.K) := fun pins s σ H xs us Q I r h => by
  obtain ⟨l, ys, e, hs, q⟩ := h
  exact call_tuple_of pins s σ H xs us Q I r ⟨l, ys, e, .inl ⟨hs, q⟩⟩
theorem cl_lst {X : Cx} : CallR X (.type "list") (rLstOf X.K) := fun pins s σ H xs us Q I r h => call_list_of pins s σ H xs us Q I r h
theorem cl_len {X : Cx} : CallR X (.builtin "len") (rLen X.K) := fun pins s σ H xs us Q I r h => call_len_seq pins s σ H xs us Q I r h
section
variable {K : PySem.W.Frag} {H : Hp} {Q : VK} {l : Addr} {ys : List V}
theorem r_int {n : Int} (h : Q (.int n) H) : rInt [.int n] H Q := ⟨n, rfl, h⟩
theorem r_intB {b : Bool} (h : Q (.int (if b then 1 else 0)) H) : rIntB [.bl b] H Q := ⟨b, rfl, h⟩
theorem r_tupOf (hs : SqL K H l ys) (h : ∀ q, H q = none → Q (.ref q) (upd H q (.tup ys))) : rTupOf K [.ref l] H Q := ⟨l, ys, rfl, hs, h⟩
theorem r_lstOf (hs : SqL K H l ys) (h : ∀ q, H q = none → Q (.ref q) (upd H q (.lst ys))) : rLstOf K [.ref l] H Q := ⟨l, ys, rfl, .inl hs, h⟩
theorem r_lenL (hs : SqL K H l ys) (h : Q (.int ys.length) H) : rLen K [.ref l] H Q := ⟨l, ys, rfl, .inl hs, h⟩
theorem r_lenT (hs : SqT K H l ys) (h : Q (.int ys.length) H) : rLen K [.ref l] H Q := ⟨l, ys, rfl, .inr hs, h⟩
end

/-! ### the heap but for one object -/
/-- all that was tracked, the object at p aside, is as it was -/
def Keep (p : Addr) (H H' : Hp) : Prop := ∀ b o, b ≠ p → H b = some o → H' b = some o
section
variable {p q : Addr} {H H' H1 H2 : Hp} {o u : HO}
theorem Keep.refl : Keep p H H := fun _ _ _ h => h
theorem Keep.trans (a : Keep p H H1) (b : Keep p H1 H2) : Keep p H H2 := fun c o n h => b c o n (a c o n h)
theorem Keep.own (a : Keep p H H1) : Keep p H (upd H1 p o) := fun c v n h => by rw [upd_ne n]; exact a c v n h
theorem Keep.new (a : Keep p H H1) (hq : H1 q = none) : Keep p H (upd H1 q o) := fun c v n h => by
  have e := a c v n h
  rw [upd_ne (ne_of_none e hq)]; exact e
theorem Keep.same (s : Same H H1) : Keep p H H1 := fun c v _ h => s c v h
theorem Keep.seq {K : PySem.W.Frag} (a : Keep p H H1) {l : Addr} {xs : List V} (n : l ≠ p) (h : SqL K H l xs) : SqL K H1 l xs := by
  rcases h with (h | ⟨v, h⟩) | h
  · exact .inl (.inl (a l _ n h))
  · exact .inl (.inr ⟨v, a l _ n h⟩)
  · exact .inr h
theorem Same.up (s : Same H H1) (hq : H1 q = none) : Same H (upd H1 q o) := fun c v h => by
  have e := s c v h
  rw [upd_ne (ne_of_none e hq)]; exact e
end

/-! ### the pool of draws: at p a list of the cells' list (at c) and four ints -/
def PoolAt (H : Hp) (p c : Addr) (ns : List Int) : Prop :=
  ∃ a b s n : Int, 0 ≤ a ∧ H p = some (.lst [.ref c, .int a, .int b, .int s, .int n]) ∧ H c = some (.lst (ns.map V.int))
theorem PoolAt.ne {H : Hp} {p c : Addr} {ns : List Int} (h : PoolAt H p c ns) : c ≠ p := by
  obtain ⟨a, b, s, n, _, h1, h2⟩ := h
  intro e
  rw [e, h1] at h2
  cases ns with
  | nil => cases h2
  | cons x r =>
    have z := HO.lst.inj (Option.some.inj h2)
    rw [List.map_cons] at z
    cases (List.cons.inj z).1
/-- a store into one of its places -/
theorem PoolAt.put {H : Hp} {p c : Addr} {ns : List Int} {a b s n : Int} (ha : 0 ≤ a) (hc : H c = some (.lst (ns.map V.int))) (ne : c ≠ p) :
    PoolAt (upd H p (.lst [.ref c, .int a, .int b, .int s, .int n])) p c ns := ⟨a, b, s, n, ha, upd_same, by rw [upd_ne ne]; exact hc⟩

theorem later {H : Hp} {a q : Addr} {o u : HO} (h : H a = some o) (hq : H q = none) : upd H q u a = some o := by
  rw [upd_ne (ne_of_none h hq)]; exact h
theorem PoolAt.new {H : Hp} {p c q : Addr} {ns : List Int} {o : HO} (h : PoolAt H p c ns) (hq : H q = none) : PoolAt (upd H q o) p c ns := by
  obtain ⟨a, b, z, n, ha, hP, hC⟩ := h
  exact ⟨a, b, z, n, ha, later hP hq, later hC hq⟩
theorem PoolAt.apart {H : Hp} {p c q : Addr} {ns : List Int} (h : PoolAt H p c ns) (hq : H q = none) : q ≠ p := by
  obtain ⟨a, b, z, n, ha, hP, hC⟩ := h
  exact fun e => by rw [e, hP] at hq; cases hq
theorem PoolAt.apartC {H : Hp} {p c q : Addr} {ns : List Int} (h : PoolAt H p c ns) (hq : H q = none) : q ≠ c := by
  obtain ⟨a, b, z, n, ha, hP, hC⟩ := h
  exact fun e => by rw [e, hC] at hq; cases hq
theorem log_small {i : Int} (h : -8 < i ∧ i < 8) : i.natAbs.log2 < 1920 := by
  have e : i.natAbs < 8 := by omega
  exact Nat.lt_of_le_of_lt (Nat.log2_le_self _) (by omega)
/-- _law_mixed(pool, cell) -/
def spMix : Sp := fun vs H Q _ => ∃ (p c : Addr) (ns : List Int) (x : Int), vs = [.ref p, .int x] ∧ PoolAt H p c ns ∧
  ∀ (r : Int) (H' : Hp), 0 ≤ r → Keep p H H' → PoolAt H' p c ns → Q (.int r) H'
/-- _law_draw(pool, size) -/
def spDraw : Sp := fun vs H Q _ => ∃ (p c : Addr) (ns : List Int) (z : Int), vs = [.ref p, .int z] ∧ PoolAt H p c ns ∧ 0 < z ∧ z < 1073741824 ∧
  ∀ (r : Int) (H' : Hp), 0 ≤ r → r < z → Keep p H H' → PoolAt H' p c ns → Q (.int r) H'
/-- _law_number(pool, parts) -/
def spNum : Sp := fun vs H Q _ => ∃ (p c : Addr) (ns : List Int) (k : Int), vs = [.ref p, .int k] ∧ PoolAt H p c ns ∧ 0 ≤ k ∧ k ≤ 1000 ∧
  ∀ (r : Int) (H' : Hp), 0 ≤ r → r < 1000000 ^ k.toNat → Keep p H H' → PoolAt H' p c ns → Q (.int r) H'
/-- _law_pool(script) -/
def spPool (K : PySem.W.Frag) : Sp := fun vs H Q _ => ∃ (l : Addr) (ns : List Int), vs = [.ref l] ∧ SqL K H l (ns.map V.int) ∧ ns.length ≤ 63 ∧
  ∀ (p c : Addr) (H' : Hp), H p = none → H c = none → Same H H' → PoolAt H' p c ns → Q (.ref p) H'
theorem take_snoc {α : Type} : ∀ {l : List α} {i : Nat} {x : α}, l[i]? = some x → l.take (i + 1) = l.take i ++ [x]
  | [], i, x, h => by simp at h
  | a :: l, 0, x, h => by
    have e : a = x := Option.some.inj h
    rw [e]; rfl
  | a :: l, i + 1, x, h => by
    have ih := take_snoc (l := l) (i := i) (x := x) h
    rw [List.take_succ_cons, ih]; rfl
theorem ixN_last {α : Type} (xs : List α) (v : α) : ixN (xs ++ [v]).length (-1) = some xs.length := by
  have hl : (xs ++ [v]).length = xs.length + 1 := by simp
  unfold ixN
  rw [hl, if_neg (by decide), if_pos (by omega)]
  congr 1
  omega
theorem ixN_nat {n j : Nat} (h : j < n) : ixN n (j : Int) = some j := by
  unfold ixN
  rw [if_pos (by omega), if_pos (by omega)]
  simp
theorem set_last {α : Type} (xs : List α) (v u : α) : (xs ++ [v]).set xs.length u = xs ++ [u] := by simp
theorem cut_all {xs : List V} {n : Nat} (h : xs.length ≤ n) : cutV xs none (some (n : Int)) = xs := by
  have e1 : HT.sIx xs.length 0 none = 0 := rfl
  have e2 : HT.sIx xs.length xs.length (some (n : Int)) = xs.length := by
    rw [HT.sIx_nat]
    exact Nat.min_eq_right h
  unfold cutV
  rw [e1, e2, Nat.sub_zero, List.drop_zero, List.take_length]
end Pk
set_option Elab.async false
set_option linter.all false
set_option maxRecDepth 100000
set_option maxHeartbeats 1000000
/-! Error classes two steps below ArithmeticError, made by an __init__ that calls super().__init__ first and then stores fields. -/
namespace Pk
open PySem L2 PySem.Spec PyProof.Rows
abbrev arT : List Value := [.type "ArithmeticError", .type "Exception", .type "BaseException", .type "object"]
theorem arT_has {C pe : Addr} {z : String} (h : arT.contains (.type z) = true) : (Value.ref C :: .ref pe :: arT).contains (.type z) = true := by
  rw [List.contains_cons, List.contains_cons, h, Bool.or_true, Bool.or_true]
theorem arT_same {pe : Addr} (z : String) : (Value.ref pe :: arT).contains (.type z) = arT.contains (.type z) := by
  rw [List.contains_cons]
  simp
section
open PySem.W PySem.Calls Builtin Builtin.ObjectAttr
variable {prog : Program} {w : World} {A : Around} {R : Result → Shared → Prop} {hp : Heap} {g : Array GenState} {dn : Drawn} {tk : Nat} {os : OsState} {K : W.Frag} {nm : Str} {nt : Tok} {v : Value} {x C pe : Addr} {cd : ClassData}
/-- object.__setattr__ of such an error, up to the store in its own dict -/
theorem sa_head {ox : Obj} {od : Option Obj} (kin : K.In hp) (inst : W.InstAt hp x ox C od) (hcd : W.clsIn K C = some cd) (mro : cd.mro = .ref C :: .ref pe :: arT) (free : W.findIn K (.ref C) nm = some none)
    (go : wpAny (model prog w) A.in1 (storeInOwnDict (.ref x) (.ref C) (.str nm nt) nm v false) (fun fn st => match fn with
        | .done r => R (.ok r) st
        | .again c => c.quiet = true ∧ codeAny (model prog w) A c R st) (fun er st => R (.error er) st) ⟨hp, g, dn, tk, os⟩) :
    codeAny (model prog w) A (.call (.builtin "object.__setattr__") ⟨[.ref x, .str nm nt, v], []⟩) R ⟨hp, g, dn, tk, os⟩ := by
  have so := PySem.F.store_object
  have isO : W.mroIn K C (.type "object") = some true := by
    unfold W.mroIn
    rw [hcd, Option.bind_some, mro, if_neg (show ¬ (List.isEmpty (Value.ref C :: .ref pe :: arT) = true) from Bool.false_ne_true), arT_has (by decide +kernel)]
  have below : W.Looks (model prog w) hp (isInstance (.ref x) (.type "object")) true := inst.type.andThen (W.looks_mroIn kin isO)
  have line : W.Looks (model prog w) hp (mroOf (.ref C)) cd.mro := (W.looks_clsIn kin hcd).andThen .now
  have loop : refuseLoop (.ref x) "__setattr__" cd.mro = pure () := by
    rw [mro, refuseLoop_ref, refuseLoop_ref]
    exact PySem.F.store_ArithmeticError.passes _
  have no3 : W.Looks (model prog w) hp (storeTaker? none) none := .now
  refine codeAny_call_builtin so.slot.plain so.entry (@W.check_slot (model prog w) _ _ ⟨hp, g, dn, tk, os⟩ "object.__setattr__" "object" "__setattr__" (.ref x) [.str nm nt, v] [] _ so.kind so.split below (so.args (.ref x) (.str nm nt) v) ?_)
  rw [W.osa_eq, refuse_eq]
  refine wpAny_bind (wpAny_bind (inst.type.at (wpAny_bind (line.at ?_)))); rw [loop]
  exact wpAny_pure (wpAny_bind (inst.type.at (wpAny_bind ((W.looks_findIn kin free).at (wpAny_bind (no3.at go))))))
/-- the first field: the dict is made -/
theorem sa_first {fv : Array Value} (kin : K.In hp) (hx : hp.get? x = some { cls := .ref C, data := .fields fv }) (hcd : W.clsIn K C = some cd) (mro : cd.mro = .ref C :: .ref pe :: arT) (hasD : cd.hasDict = true) (free : W.findIn K (.ref C) nm = some none)
    (done : ∀ h2 t2 dx, (∀ b o, b ≠ x → hp.get? b = some o → h2.get? b = some o) → hp.objs.size ≤ dx → dx ≠ x → h2.get? x = some { cls := .ref C, dict := some dx, data := .fields fv } →
      h2.Ns1 dx (fun y => if y = nm then some v else none) → R (.ok (.ret .none)) ⟨h2, g, dn, t2, os⟩) :
    codeAny (model prog w) A (.call (.builtin "object.__setattr__") ⟨[.ref x, .str nm nt, v], []⟩) R ⟨hp, g, dn, tk, os⟩ := by
  have away : x ≠ hp.objs.size := Nat.ne_of_lt (Heap.lt_size hx)
  refine sa_head kin (ox := { cls := .ref C, data := .fields fv }) (od := none) ⟨hx, rfl, rfl, trivial⟩ hcd mro free ?_
  have look : W.Looks (model prog w) hp (classData C) cd := W.looks_clsIn kin hcd
  obtain ⟨c1, c2, c3, c4, c5, hd, c7, c8, c9, c10, c11⟩ := cd
  dsimp only at hasD
  subst hasD
  unfold storeInOwnDict ownDictForStores
  repeat (first | with_reducible refine HandSPX.store_in_new ?_ ?_ | with_reducible refine wpAny_loadPart_at hx ?_ | with_reducible refine look.at ?_ | wp_step)
  · exact ⟨_, #[], _, (Heap.get?_update_ne _ _ _ _ away.symm).trans (Heap.get?_push_at rfl rfl), rfl, fun e he => absurd he (by simp), fun _ => rfl⟩
  · intro h2 t2 ns sb
    have pushed : (hp.push { cls := .type "dict", data := .dict #[] }).get? x = some { cls := .ref C, data := .fields fv } := Heap.get?_push_of_some _ hx
    exact done h2 t2 hp.objs.size (fun b o hb ho => (sb.2 b (Nat.ne_of_lt (Heap.lt_size ho))).trans ((Heap.get?_update_ne _ _ _ _ hb).trans (Heap.get?_push_of_some _ ho))) (Nat.le_refl _) away.symm ((sb.2 x away).trans (Heap.get?_update_self _ pushed rfl)) ns
/-- a further field -/
theorem sa_more {fv : Array Value} {dx : Addr} {m0 : Str → Option Value} {nl : List Str} (kin : K.In hp) (hx : hp.get? x = some { cls := .ref C, dict := some dx, data := .fields fv }) (ns : hp.Ns1 dx m0) (wi : Within m0 nl) (few : nl.length ≤ 1000)
    (hcd : W.clsIn K C = some cd) (mro : cd.mro = .ref C :: .ref pe :: arT) (hasD : cd.hasDict = true) (free : W.findIn K (.ref C) nm = some none)
    (done : ∀ h2 t2, (∀ b o, b ≠ dx → hp.get? b = some o → h2.get? b = some o) → h2.Ns1 dx (fun y => if y = nm then some v else m0 y) → R (.ok (.ret .none)) ⟨h2, g, dn, t2, os⟩) :
    codeAny (model prog w) A (.call (.builtin "object.__setattr__") ⟨[.ref x, .str nm nt, v], []⟩) R ⟨hp, g, dn, tk, os⟩ := by
  obtain ⟨oD, _, _, hoD, _, _⟩ := ns.count wi
  refine sa_head kin (ox := { cls := .ref C, dict := some dx, data := .fields fv }) (od := some oD) ⟨hx, rfl, rfl, hoD⟩ hcd mro free ?_
  have look : W.Looks (model prog w) hp (classData C) cd := W.looks_clsIn kin hcd
  obtain ⟨c1, c2, c3, c4, c5, hd, c7, c8, c9, c10, c11⟩ := cd
  dsimp only at hasD
  subst hasD
  unfold storeInOwnDict ownDictForStores
  repeat (first | with_reducible refine PySem.ESX.store_in_old ns wi few ?_ | with_reducible refine wpAny_loadPart_at hx ?_ | with_reducible refine look.at ?_ | wp_step)
  exact fun h2 t2 n2 sb => done h2 t2 (fun b o hb ho => (sb.2 b hb).trans ho) n2
end

/-- what the written part says of an error class at C -/
structure ErrC (K : PySem.W.Frag) (C : Addr) : Prop where
  cls : ∃ pe nm q N bs sn sub ab col dd k0 k1 k2 k3 k5, K.lookup C = some (excClassObj nm q C N bs (.ref pe :: arT) true sn sub ab col dd k0 k1 k2 k3 k5 "ArithmeticError.__new__")
  sa : PySem.W.findIn K (.ref C) "__setattr__" = some (some (.builtin "object.__setattr__"))
  exB : PySem.W.subIn K (.ref C) (.type "BaseException") = some true
  exA : PySem.W.subIn K (.ref C) (.type "ArithmeticError") = some true
  ty : PySem.W.typeIn K (.ref C) = some (.type "type")
  kp : PySem.W.keepIn K (.ref C) = true
section
variable {X : Cx} {pins : List (Addr × Obj)} {σ : L2.St} {H : Hp} {s : Shared} {a C dx : Addr} {f : Str} {y : V} {u : Value} {fs : List (Str × V)} {Q : Unit → Shared → Prop} {E : Value → Shared → Prop} {A : Around}
theorem ErrC.data {K : PySem.W.Frag} (T : ErrC K C) : ∃ pe cd, PySem.W.clsIn K C = some cd ∧ cd.mro = .ref C :: .ref pe :: arT ∧ cd.hasDict = true := by
  obtain ⟨pe, nm, q, N, bs, sn, sub, ab, col, dd, k0, k1, k2, k3, k5, hC⟩ := T.cls
  exact ⟨pe, { name := nm, bases := bs, mro := .ref C :: .ref pe :: arT, ns := N, qualname := q, hasDict := true, slotNames := sn, subclasses := sub, abstract := ab, collection := col, hasDel := false }, by unfold PySem.W.clsIn; rw [hC] <;> rfl, rfl, rfl⟩
theorem not_at {H : Hp} {b c : Addr} {o : HO} (h : H b = some o) (n : H c = none) : c ≠ b := fun z => by
  rw [z, h] at n
  cases n
/-- self.f = y where the error has no dict as yet -/
theorem err_first (T : ErrC X.K C) (I : Inv X pins σ H s) (e : H a = some (exo a C none)) (free : PySem.W.findIn X.K (.ref C) f = some none) (ry : RelV y u)
    (go : ∀ dx st, H dx = none → dx ≠ a → Inv X pins σ (upd (upd H dx (exd dx [(f, y)])) a (exo a C (some dx))) st → Q () st) : wpAny (model X.prog X.w) A (setAttr (.ref a) f u) Q E s := by
  obtain ⟨pe, cd, hcl, hm, hh⟩ := T.data
  obtain ⟨t1, ho⟩ := exo_at I.hok e
  obtain ⟨hp, g, d, t, os⟩ := s
  refine PySem.W.set_plain I.kIn (od := none) (ox := { cls := .ref C, dict := none, data := .fields #[.ref t1, .none, .none, .none, .bool false, .none] }) ⟨ho, rfl, rfl, trivial⟩ T.sa (sa_first I.kIn ho hcl hm hh free fun h2 t2 dx k lt ne hx hn => ?_)
  have hnd : H dx = none := I.hok.fresh lt
  have old : ∀ {b : Addr} {o : Obj}, hp.get? b = some o → b ≠ dx := fun {b o} q => Nat.ne_of_lt (Nat.lt_of_lt_of_le (Heap.lt_size q) lt)
  have stay : ∀ {b : Addr} {o : HO}, H b = some o → exo a C none ≠ o → upd (upd H dx (exd dx [(f, y)])) a (exo a C (some dx)) b = some o := fun {b o} q ne => by
    rw [upd_ne (at_ne e q ne), upd_ne (ne_of_none q hnd)]; exact q
  have U : Un X.fs [] H (upd (upd H dx (exd dx [(f, y)])) a (exo a C (some dx))) hp h2 := {
    keep := fun b o q n _ _ => k b o (not_at e n) q
    slot := fun b o q n _ _ => ⟨o.slots, k b o (not_at e n) q⟩
    free := fun b o q n _ => by rw [upd_ne (not_at e n), upd_ne (old q)]; exact n
    there := fun b o q _ => by
      by_cases hb : b = a
      · exact ⟨_, hb ▸ hx⟩
      · exact ⟨o, k b o hb q⟩
    tups := fun b xs q => stay q exo_tup
    frzs := fun b o v q => stay q exo_frz
    tbls := fun b ps q => ⟨#[], by rw [stay q exo_tbl]; simp⟩ }
  refine go dx _ hnd ne (I.un (t' := t2) U fun b o q => ?_)
  by_cases hb : b = a
  · subst hb; rw [upd_same] at q; cases q; exact exo_ok hx
  · rw [upd_ne hb] at q
    by_cases hd : b = dx
    · subst hd; rw [upd_same] at q; cases q
      exact exd_ok hn (relO_put (fs := []) ry fun _ => True.intro)
    · rw [upd_ne hd] at q
      refine (I.hok b o q).stay (fun c v hc z => k c v ?_ z) (fun c hc => stay hc exo_own) fun c xs hc => stay hc exo_tup
      rcases hc with hc | hc
      · exact hc ▸ hb
      · exact at_ne e hc exo_own
/-- self.f = y, a further field -/
theorem err_more (T : ErrC X.K C) (I : Inv X pins σ H s) (e : H a = some (exo a C (some dx))) (ed : H dx = some (exd dx fs)) (few : fs.length ≤ 900) (free : PySem.W.findIn X.K (.ref C) f = some none) (ry : RelV y u)
    (go : ∀ st, Inv X pins σ (upd H dx (exd dx ((f, y) :: fs))) st → Q () st) : wpAny (model X.prog X.w) A (setAttr (.ref a) f u) Q E s := by
  obtain ⟨pe, cd, hcl, hm, hh⟩ := T.data
  obtain ⟨t1, ho⟩ := exo_at I.hok e
  obtain ⟨mA, hns, rel⟩ := exd_at I.hok ed
  have hw := within_of rel
  obtain ⟨hp, g, d, t, os⟩ := s
  obtain ⟨oD, _, _, hoD, _, _⟩ := hns.count hw
  refine PySem.W.set_plain I.kIn (od := some oD) (ox := { cls := .ref C, dict := some dx, data := .fields #[.ref t1, .none, .none, .none, .bool false, .none] }) ⟨ho, rfl, rfl, hoD⟩ T.sa (sa_more I.kIn ho hns hw (by rw [List.length_map]; omega) hcl hm hh free fun h2 t2 k hn => ?_)
  have there : ∃ o, h2.get? dx = some o := ⟨_, hn.choose_spec.choose_spec.choose_spec.1⟩
  exact go _ (I.write (t' := t2) (x := dx) (e := dx) (o := exd dx ((f, y) :: fs)) (by rw [ed]; exact True.intro) (.inl rfl) k there (exd_ok hn (relO_put ry rel)))
end
/-- self.f = e in the __init__ of such an error -/
def tErrSet (K : PySem.W.Frag) (f : Str) (to te : TE) : TS := fun D σ H => te σ H fun y H1 => to σ H1 fun x H2 => ∃ a C : Addr, x = .ref a ∧ ErrC K C ∧ PySem.W.findIn K (.ref C) f = some none ∧
  ((H2 a = some (exo a C none) ∧ ∀ dx, H2 dx = none → dx ≠ a → D.nx σ (upd (upd H2 dx (exd dx [(f, y)])) a (exo a C (some dx)))) ∨
   (∃ (dx : Addr) (fs : List (Str × V)), H2 a = some (exo a C (some dx)) ∧ H2 dx = some (exd dx fs) ∧ fs.length ≤ 900 ∧ D.nx σ (upd H2 dx (exd dx ((f, y) :: fs)))))
theorem ps_errSet {X : Cx} {o e : Expr} {to te : TE} {f : Str} {p' pos : Pos} (ho : PE X o to) (he : PE X e te) (hs : swapsWith e (some (.Attribute o f p')) pos.line X.env = pure false := by rfl) : PS X (.Assign [.Attribute o f p'] e pos) (tErrSet X.K f to te) := by
  refine ⟨fun pins s σ H D I h => plainObj_wpAny_Assign_Attribute (thn (he.run pins s σ H _ I h) fun v s1 ⟨y, H1, I1, r1, q1⟩ => thn (ho.run pins s1 σ H1 _ I1 q1) fun u s2 ⟨x, H2, I2, r2, a, C, ex, T, free, q⟩ => ?_) hs⟩
  subst ex
  obtain rfl : u = Value.ref a := r2
  rcases q with ⟨ea, q⟩ | ⟨dx, fs, ea, ed, few, q⟩
  · exact err_first T I2 ea free r1 fun dx st n ne J => ⟨σ, _, J, q dx n ne⟩
  · exact err_more T I2 ea ed few free r1 fun st J => ⟨σ, _, J, q⟩
end Pk
set_option Elab.async false
set_option linter.all false
set_option maxRecDepth 100000
set_option maxHeartbeats 1000000
namespace Pk
open PySem L2 PySem.Spec PyProof.Rows
/-- the __init__ at fI of the error class at C: F its words, cc the cell of the class -/
structure InitFn (P : Program) (K : PySem.W.Frag) (C fI cc : Addr) (F : NdefX.NF) : Prop where
  fn : ∃ (oc : Value) (od : Option Addr) (kV doc pm : Value) (an : Option Addr) (ct : Value) (osl : Array (Option Value)), K.lookup fI = some ⟨oc, od, .func (PySem.W.fnX F.name F.qual F.params F.body F.scope F.cl .none kV doc pm an (.ref F.c) ct), osl⟩
  code : PySem.W.codeIn K (.ref F.c) F.qual = true
  cl : F.cl = [(("__class__" : Str), cc)]
  cell : ∃ (a : Value) (b : Option Addr) (c : Array (Option Value)), K.lookup cc = some ⟨a, b, .cell (some (.ref C)), c⟩
  file : ∃ (a : Value) (b : Option Addr) (vs : Array Value) (c : Array (Option Value)) (f : Str) (t : Tok), K.lookup F.c = some ⟨a, b, .fields vs, c⟩ ∧ vs[2]? = some (.str f t) ∧ ((P.main.file : Str) == f) = true
  top : (P.main.scope.names.lookup ("super" : Str)).isSome = false
  opq : PySem.W.nsIn K cStatics "thirdparty.any" = some none
  self : ∃ q, (F.params.posonlyargs ++ F.params.args).head? = some { arg := "self", annotation := none, pos := q }
  sup : PySem.W.ks_superIn K C C "__init__" = some (some (.builtin "ArithmeticError.__init__"))
  below : PySem.W.mroIn K C (.ref C) = some true
section
open PySem.W PySem.Calls
variable {P : Program} {w : World} {K : PySem.W.Frag} {mg : Str → Option Value} {base : Heap} {CX : CXT} {C fI cc : Addr} {F : NdefX.NF} {N ps : List Str} {A : Around} {outer : List Env} {s : Shared} {H : Hp} {Q : VK} {E : XK} {k : Nat}
/-- super().__init__(text): the error's own arguments are laid anew, nothing else is changed -/
theorem sup_init {X : Cx} {pins : List (Addr × Obj)} {σ : L2.St} {H : Hp} {s : Shared} {x u : Addr} {us : List Value} {Qv : Value → Shared → Prop} (T : ErrC X.K C) (I : Inv X pins σ H s) (ex : H x = some (exo x C none)) (hu : s.heap.get? u = some (kxs_mw "ArithmeticError.__init__" x)) (hz : us.length ≤ sizeLine)
    (go : ∀ st, Inv X pins σ H st → Qv .none st) : wpAny (model X.prog X.w) X.A (call (.ref u) us) Qv X.xe s := by
  obtain ⟨pe, nm, q, NN, bs, sn, sub, ab, col, dd, k0, k1, k2, k3, k5, hC⟩ := T.cls
  obtain ⟨t1, ho⟩ := exo_at I.hok ex
  have hC' := I.kIn _ _ hC
  have hE := PySem.F.excBase_ArithmeticError
  have fin : ∀ h2, (∀ b o, b ≠ x → s.heap.get? b = some o → h2.get? b = some o) → h2.get? x = some (excObj C s.heap.objs.size none .none) → Qv .none { s with heap := h2 } := fun h2 keep hx => by
    have J := I.write (t' := s.toks) (x := x) (e := x) (o := exo x C none) (by rw [ex]; exact True.intro) (.inl rfl) keep ⟨_, hx⟩ (exo_ok hx)
    have e2 : upd H x (exo x C none) = H := by
      funext b
      by_cases hb : b = x
      · rw [hb, upd_same, ex]
      · rw [upd_ne hb]
    rw [e2] at J
    exact go _ J
  obtain ⟨hp, g, d, tk, os⟩ := s
  refine wpAny_call (codeAny_of_tree ?_)
  show wpAny _ X.A.in1 (callAny (.ref u) ⟨us, []⟩) _ _ _
  simp only [callAny]
  refine wpAny_bind (wpAny_load hu ?_)
  simp only [kxs_mw, show (Value.type "method-wrapper" == Value.type "method" || Value.type "method-wrapper" == Value.type "builtin_function_or_method" || Value.type "method-wrapper" == Value.type "method-wrapper") = true from by decide, if_true]
  refine KFB.if_so (by decide) (wpAny_bind (check_bound_init hE.toExcCallFacts hC' ho rfl (wpAny_bind (wpAny_pure (wpAny_pure ⟨plainId_quiet hE.init.plain _, codeAny_builtin hE.initEntry ?_⟩)))))
  exact exc_init_tree (cls := .ref C) (t0 := t1) (dv := none) (c2 := .none) (c3 := .none) (b4 := .bool false) ho hz fun h2 keep hx _ => fin h2 keep hx

/-- THE RULE of such an __init__: behind its first row the rest of its body runs as a def's body does, the class in its cell -/
theorem init_run {msg : Str} {kd : Nat} {p0 p1 p2 p3 p4 p5 : Pos} {rest : List Stmt} {us : List Value} {vs : List V} {x : Addr} (T : ErrC K C) (J : InitFn P K C fI cc F) (ms : mg "super" = none) (S : NdefX.NScope N ps ["__class__"] F.scope)
    (hB : F.body = .Expr (.Call (.Attribute (.Call (.Name "super" p0) [] [] p1) "__init__" p2) [.Constant (.str msg) kd p3] [] p4) p5 :: rest) (hsg : F.scope.names.lookup ("super" : Str) = some .globalImplicit)
    (hsl : F.scope.names.lookup ("self" : Str) = some .local) (hr : Room (k + 1) A) (e0 : Env0 P w K mg base A outer s H)
    (hb : ∀ (kV doc pm ct : Value) (an : Option Addr), BindsTo s (PySem.W.fnX F.name F.qual F.params F.body F.scope F.cl .none kV doc pm an (.ref F.c) ct) ⟨us, []⟩ (ps.zip us)) (r : Vals vs us) (hl : vs.length = ps.length)
    (hs0 : ps[0]? = some ("self" : Str)) (hv0 : vs[0]? = some (.ref x)) (ex : H x = some (exo x C none))
    {pl : Sem Bool} (he : ∀ env : Env, eval (.Call (.Attribute (.Call (.Name "super" p0) [] [] p1) "__init__" p2) [.Constant (.str msg) kd p3] [] p4) env = (do
      let ov ← attributeBase (.Call (.Name "super" p0) [] [] p1) "__init__" env (eval (.Call (.Name "super" p0) [] [] p1) env)
      standAt p2.atName
      let (f, first) ← holding [ov] (getMethod ov "__init__" pl)
      callWith p4 f first (backTo p4 (starEach [.Constant (.str msg) kd p3] env)) []))
    (hq : Room k (A.deeper (NdefX.envF F fI s.heap.objs.size)) → ∃ t, PSs (NdefX.ncx CX P w K mg base N F fI A outer s H E) rest t ∧ t { nx := fun _ H' => Q .non H', rt := Q } (NdefX.startF N vs [some (.ref C)]) H) :
    codeAny (model P w) A (.call (.ref fI) ⟨us, []⟩) (CR CX outer P w H s Q E) s := by
  obtain ⟨oc, od, kV, doc, pm, an, ct, osl, lk⟩ := J.fn
  obtain ⟨ca, cb, ccs, hcell⟩ := J.cell
  obtain ⟨fa, fb, fvs, fc, ff, ft, hcode, hvs, hfile⟩ := J.file
  obtain ⟨aq, hself⟩ := J.self
  obtain ⟨pe, cd, hcd, hmro, hhd⟩ := T.data
  have kin0 : K.In s.heap := e0.mod.kin.keeps fun b o e => (e0.bs b o e).1
  have lim : s.heap.NoLimit := e0.mod.nolimit.keeps fun b o e => (e0.bs b o e).1
  have cells : NdefX.CellsAt F.cl ["__class__"] [some (.ref C)] s.heap H := by
    have there : s.heap.IsCell cc (some (.ref C)) := ⟨_, kin0 _ _ hcell, rfl⟩
    have one : ∀ (y : Str) (c : Addr), F.cl.lookup y = some c → y = "__class__" ∧ c = cc := fun y c e => by
      rw [J.cl] at e
      have m := PySem.mem_of_lookup e
      simp only [List.mem_singleton, Prod.mk.injEq] at m
      exact m
    refine ⟨rfl, fun y c e => ?_, fun y z c e1 e2 => (one y c e1).1.trans (one z c e2).1.symm, fun i y e => ?_⟩
    · obtain ⟨_, rfl⟩ := one y c e
      exact ⟨(e0.bs _ _ (e0.mod.kin _ _ hcell)).2, _, there⟩
    · have ey : y = "__class__" := by
        match i, e with
        | 0, e => exact (Option.some.inj e).symm
        | i + 1, e => simp at e
      subst ey
      refine ⟨cc, by rw [J.cl]; simp [List.lookup], fun v e => ?_⟩
      match i, e with
      | 0, e => exact ⟨.ref C, by have z := Option.some.inj (Option.some.inj e); subst z; rfl, there⟩
      | i + 1, e => simp at e
  have ndP : ps.Nodup := by
    have q := S.nd.sublist (List.take_sublist (ps.length + [("__class__" : Str)].length) N)
    rw [S.pre] at q
    exact (List.nodup_append.mp q).1
  have hu0 : us[0]? = some (.ref x) := by
    obtain ⟨u, hu, ru⟩ := r.get hv0
    rw [hu]
    exact congrArg some ru
  refine ks_codeAny_call_defAt (fd := PySem.W.fnX F.name F.qual F.params F.body F.scope F.cl .none kV doc pm an (.ref F.c) ct) (body := F.body) (binds := ps.zip us) hr.depth (kin0 _ _ lk) rfl lim (PySem.W.codeRec_of kin0 J.code) rfl (hb kV doc pm ct an) S.nocell
    (fun ⟨n, v⟩ hy => S.par n (List.of_mem_zip hy).1) (fun h₁ hns hk₁ => ?_) S.co S.gen S.kind
  have I : Inv (NdefX.ncx CX P w K mg base N F fI A outer s H E) [] (NdefX.startF N vs [some (.ref C)]) H { s with heap := h₁, toks := s.toks + (ps.zip us).length } := NdefX.inv_startN S hr.hd e0 hl r cells hns hk₁
  obtain ⟨t, ht, hgo⟩ := hq (hr.deeper _)
  show PySem.wpAt _ (A.deeper (NdefX.envF F fI s.heap.objs.size)) (.func F.body (NdefX.envF F fI s.heap.objs.size)) (execs F.body (NdefX.envF F fI s.heap.objs.size)) _ _ _
  rw [hB]
  have hx1 : ∃ t1, h₁.get? x = some (excObj C t1 none .none) := exo_at I.hok ex
  obtain ⟨t1, hx1⟩ := hx1
  have kin1 : K.In h₁ := I.kIn
  obtain ⟨oD, hD1, hD2⟩ : ∃ oD, h₁.get? C = some oD ∧ oD.data = .cls cd := by
    have q := hcd
    unfold PySem.W.clsIn at q
    split at q
    · rename_i c' d' cd' sl' ho
      cases q
      exact ⟨_, kin1 _ _ ho, rfl⟩
    · cases q
  have fin : ∀ st, Inv (NdefX.ncx CX P w K mg base N F fI A outer s H E) [] (NdefX.startF N vs [some (.ref C)]) H st →
      wpAny (model P w) (A.deeper (NdefX.envF F fI s.heap.objs.size)) (execs rest (NdefX.envF F fI s.heap.objs.size)) (fun f s' => CR CX outer P w H s Q E (.ok (.ret (match f with | .ret v => v | _ => .none))) s')
        (fun e s' => wpAny (model P w) (A.deeper (NdefX.envF F fI s.heap.objs.size)) (leaving (NdefX.envF F fI s.heap.objs.size) e) (fun _ s'' => CR CX outer P w H s Q E (.error e) s'') (fun e' s'' => CR CX outer P w H s Q E (.error e') s'') s') st := fun st I2 => by
    refine wpAny_mono (ht.run [] st _ H _ I2 hgo) (fun fl s' hs => ?_) fun e s' hs => hs
    have close : ∀ {σ' : L2.St} {H' : Hp} {v : V} {u : Value}, Inv (NdefX.ncx CX P w K mg base N F fI A outer s H E) [] σ' H' s' → L2.RelV v u → Q v H' → CE outer P w H s Q u s' := fun {σ' H' v u} Z rv q => ⟨v, H', Z.os, Z.bare, Z.base, Z.hok, rv, q⟩
    cases fl with
    | ret u =>
      obtain ⟨v, σ', H', Z, rv, q⟩ := hs
      exact close Z rv q
    | next =>
      obtain ⟨σ', H', Z, q⟩ := hs
      exact close (v := V.non) (u := Value.none) Z rfl q
    | brk => exact (hs.choose_spec.choose_spec.2 : False).elim
    | cont => exact (hs.choose_spec.choose_spec.2 : False).elim
  refine ks_wpAt_execs_cons (ks_wpAt_Expr_any (ks_wpAt_MethodCall (ks_wpAt_super_base (cc := F.c) (f := fI) (ar := { arg := "self", annotation := none, pos := aq }) hsg (S.frk _ (by simp)) (by decide) rfl (kin1 _ _ lk) rfl hself rfl (kin1 _ _ hcode) rfl hvs hfile J.top ?_) (he _)) I.quiet ?sw)
  case sw => rfl
  obtain ⟨mb, hm1, hm2⟩ := e0.mod.blt
  refine ks_loadName_global S.kind hsg (loadGlobal_builtin (env := NdefX.envF F fI s.heap.objs.size) (e0.mod.glob.keeps I.bk) ms (hm1.keeps I.bk) ((hm2 "super" (by decide)).trans (by decide +kernel)) ⟨rfl, ?_⟩)
  refine wpAny_loadName_free S.kind (S.frk _ (by simp)) (show F.cl.lookup ("__class__" : Str) = some cc by rw [J.cl]; simp [List.lookup]) ⟨_, kin1 _ _ hcell, rfl⟩ ?_
  refine wpAny_loadName_local S.kind hsl hns (NdefX.zip_look ndP hs0 hu0) (ks_wpAny_isType_cls hD1 hD2 ⟨rfl, ?_⟩)
  have nocls : ∀ c, (excObj C t1 none .none).data ≠ .cls c := fun c z => by cases z
  refine ks_wpAny_call_super hD1 hD2 hx1 rfl nocls (PySem.W.looks_mroIn kin1 J.below) (fun h2 eso k2 => ?_)
  have I2 := I.kept (t' := s.toks + (ps.zip us).length) k2
  have kin2 : K.In h2 := I2.kIn
  have inst : PySem.W.InstAt h2 x (excObj C t1 none .none) C none := ⟨k2 _ _ hx1, rfl, rfl, trivial⟩
  have along : PySem.W.alongIn K "__init__" ((cd.mro.dropWhile (· != .ref C)).drop 1) = some (some (.builtin "ArithmeticError.__init__")) := by
    have q := J.sup
    unfold PySem.W.ks_superIn at q
    rw [hcd] at q
    exact q
  refine kxs_getMethod kxs_ArithmeticError eso (PySem.W.looks_opaque kin2 J.opq) ((PySem.W.looks_clsIn kin2 hcd).andThen .now) rfl kin2 along (inst.type.andThen (PySem.W.looks_subIn kin2 T.exA)) (PySem.W.ks_ne kin2 inst hcd) (by decide) ?_
  refine kxs_callWith (i := "ArithmeticError.__init__") (x := x) rfl ?_
  have hu : (h2.push (kxs_mw "ArithmeticError.__init__" x)).get? h2.objs.size = some (kxs_mw "ArithmeticError.__init__" x) := Heap.get?_push_at rfl rfl
  have fr : H h2.objs.size = none := I2.hok.fresh (Nat.le_refl _)
  have I3 := I2.kept (t' := s.toks + (ps.zip us).length + 1) (h' := h2.push (kxs_mw "ArithmeticError.__init__" x)) fun b o e => Heap.get?_push_of_some _ e
  have I4 : Inv (NdefX.ncx CX P w K mg base N F fI A outer s H E) [(h2.objs.size, kxs_mw "ArithmeticError.__init__" x)] (NdefX.startF N vs [some (.ref C)]) H { s with heap := h2.push (kxs_mw "ArithmeticError.__init__" x), toks := s.toks + (ps.zip us).length + 1 } :=
    ⟨I3.ok, I3.os, I3.bare, I3.base, I3.loc, I3.cell, I3.free, I3.freeC, fun p hp => by
      have e : p = (h2.objs.size, kxs_mw "ArithmeticError.__init__" x) := by
        have q : p ∈ [] ++ [(h2.objs.size, kxs_mw "ArithmeticError.__init__" x)] := hp
        simpa using q
      subst e
      exact ⟨hu, fr, Nat.ne_of_gt I2.lt, I2.nofs (Nat.le_refl _), fun v z => by cases z⟩, I3.hok, I3.len⟩
  have arg : PA (NdefX.ncx CX P w K mg base N F fI A outer s H E) [.Constant (.str msg) kd p3] (tCons (tC (.str msg)) tNil) := pa_cons pe_str pa_nil
  refine evalArgs_plain (thn (arg.run p4 _ _ _ H (fun us2 H2 => us2 = [.str msg] ∧ H2 = H) I4 ⟨rfl, rfl⟩) fun us2 s3 h3 => ?_)
  obtain ⟨vs2, H3, I5, r5, rfl, rfl⟩ := h3
  have mu : s3.heap.get? h2.objs.size = some (kxs_mw "ArithmeticError.__init__" x) := (I5.pin (h2.objs.size, kxs_mw "ArithmeticError.__init__" x) (List.mem_append_right _ (List.mem_singleton.mpr rfl))).1
  have one : us2.length ≤ sizeLine := by
    have z := Paired.length r5
    rw [← z, sizeLine_eq]
    show 1 ≤ 16777216
    decide
  refine ⟨mu, sup_init (us := us2) T I5 ex mu one fun st I6 => ?_⟩
  refine wpAt_of_wpAny (fin st ⟨I6.ok, I6.os, I6.bare, I6.base, I6.loc, I6.cell, I6.free, I6.freeC, fun p hp => I6.pin p (List.mem_append_left _ ?_), I6.hok, I6.len⟩)
  have q : p ∈ [] ++ [] := hp
  simpa using q
end
end Pk
set_option Elab.async false
set_option linter.all false
set_option maxRecDepth 100000
set_option maxHeartbeats 1000000
/-! Data of lists and tuples of bounded depth; copies of it that share no list. -/
namespace Pk
open PySem L2
/-- nested at most n deep, no list or tuple longer than 1000 -/
inductive Deep : Nat → PyData → Prop
  | non {n : Nat} : Deep n .none
  | bl {n : Nat} (b : Bool) : Deep n (.bool b)
  | int {n : Nat} (i : Int) : Deep n (.int i)
  | str {n : Nat} (z : Str) : Deep n (.str z)
  | lst {n : Nat} {ds : List PyData} (h : ∀ d ∈ ds, Deep n d) (z : ds.length ≤ 1000) : Deep (n + 1) (.list ds)
  | tup {n : Nat} {ds : List PyData} (h : ∀ d ∈ ds, Deep n d) (z : ds.length ≤ 1000) : Deep (n + 1) (.tuple ds)
theorem Deep.mono {n m : Nat} {d : PyData} (h : Deep n d) (l : n ≤ m) : Deep m d := by
  induction h generalizing m with
  | non => exact .non
  | bl b => exact .bl b
  | int i => exact .int i
  | str z => exact .str z
  | lst h z ih =>
    obtain ⟨k, rfl⟩ : ∃ k, m = k + 1 := ⟨m - 1, by omega⟩
    exact .lst (fun d hd => ih d hd (by omega)) z
  | tup h z ih =>
    obtain ⟨k, rfl⟩ : ∃ k, m = k + 1 := ⟨m - 1, by omega⟩
    exact .tup (fun d hd => ih d hd (by omega)) z
/-- v is the data d in H, and every list and tuple of it is new: not tracked in H0 -/
inductive Own (H0 H : Hp) : V → PyData → Prop
  | non : Own H0 H .non .none
  | bl (b : Bool) : Own H0 H (.bl b) (.bool b)
  | int (i : Int) : Own H0 H (.int i) (.int i)
  | str (z : Str) : Own H0 H (.str z) (.str z)
  | lst {a : Addr} {xs : List V} {ds : List PyData} (n : H0 a = none) (h : H a = some (.lst xs)) (hl : xs.length = ds.length) (hs : ∀ (i : Nat) (v : V) (d : PyData), xs[i]? = some v → ds[i]? = some d → Own H0 H v d) : Own H0 H (.ref a) (.list ds)
  | tup {a : Addr} {xs : List V} {ds : List PyData} (n : H0 a = none) (h : H a = some (.tup xs)) (hl : xs.length = ds.length) (hs : ∀ (i : Nat) (v : V) (d : PyData), xs[i]? = some v → ds[i]? = some d → Own H0 H v d) : Own H0 H (.ref a) (.tuple ds)
theorem Own.mono {H0 H H0' H' : Hp} {v : V} {d : PyData} (o : Own H0 H v d) (f : ∀ a, H0 a = none → H a ≠ none → H0' a = none) (k : ∀ a u, H0 a = none → H a = some u → (∃ xs, u = .lst xs ∨ u = .tup xs) → H' a = some u) : Own H0' H' v d := by
  induction o with
  | non => exact .non
  | bl b => exact .bl b
  | int i => exact .int i
  | str z => exact .str z
  | lst n h hl _ ih => exact .lst (f _ n (by rw [h]; exact Option.some_ne_none _)) (k _ _ n h ⟨_, .inl rfl⟩) hl fun i v d e1 e2 => ih i v d e1 e2
  | tup n h hl _ ih => exact .tup (f _ n (by rw [h]; exact Option.some_ne_none _)) (k _ _ n h ⟨_, .inr rfl⟩) hl fun i v d e1 e2 => ih i v d e1 e2
theorem Own.later {H0 H H' : Hp} {v : V} {d : PyData} (o : Own H0 H v d) (s : Same H H') : Own H0 H' v d := o.mono (fun _ n _ => n) fun a u _ h _ => s a u h
/-- made later than H0, so also later than what H0 has grown from -/
theorem Own.back {H0 H1 H : Hp} {v : V} {d : PyData} (o : Own H1 H v d) (s : Same H0 H1) : Own H0 H v d := by
  induction o with
  | non => exact .non
  | bl b => exact .bl b
  | int i => exact .int i
  | str z => exact .str z
  | lst n h hl _ ih => exact .lst (s.free n) h hl ih
  | tup n h hl _ ih => exact .tup (s.free n) h hl ih
theorem dpAll_of {K : PySem.W.Frag} {H : Hp} : ∀ {xs : List V} {ds : List PyData}, xs.length = ds.length → (∀ (i : Nat) (v : V) (d : PyData), xs[i]? = some v → ds[i]? = some d → Dp K H v d) → DpAll K H xs ds
  | [], [], _, _ => .nil
  | [], _ :: _, h, _ => by cases h
  | _ :: _, [], h, _ => by cases h
  | x :: xs, d :: ds, h, k => .cons (k 0 x d rfl rfl) (dpAll_of (Nat.succ.inj h) fun i v e e1 e2 => k (i + 1) v e e1 e2)
theorem dpAll_len {K : PySem.W.Frag} {H : Hp} : ∀ {xs : List V} {ds : List PyData}, DpAll K H xs ds → xs.length = ds.length
  | _, _, .nil => rfl
  | _, _, .cons _ t => congrArg Nat.succ (dpAll_len t)
theorem dpAll_at {K : PySem.W.Frag} {H : Hp} : ∀ {xs : List V} {ds : List PyData} {i : Nat} {v : V}, DpAll K H xs ds → xs[i]? = some v → ∃ d, ds[i]? = some d ∧ Dp K H v d
  | _, _, _, _, .nil, e => by simp at e
  | _, _, 0, _, .cons h _, e => ⟨_, rfl, by have z := Option.some.inj e; subst z; exact h⟩
  | _, _, i + 1, _, .cons _ t, e => dpAll_at (i := i) t e
theorem Own.dp {K : PySem.W.Frag} {H0 H : Hp} {v : V} {d : PyData} (o : Own H0 H v d) : Dp K H v d := by
  induction o with
  | non => exact .non
  | bl b => exact .bl b
  | int i => exact .int i
  | str z => exact .str z
  | lst n h hl _ ih => exact .lst (SqL.of h) (dpAll_of hl ih)
  | tup n h hl _ ih => exact .tup (SqT.of h) (dpAll_of hl ih)
/-- lists, tuples and what is locked -/
def IsLT (u : HO) : Prop := (∃ xs, u = .lst xs) ∨ (∃ xs, u = .tup xs) ∨ ∃ o z, u = .frz o z
/-- these are as they were -/
def SameD (H H' : Hp) : Prop := ∀ a u, IsLT u → H a = some u → H' a = some u
theorem SameD.of {H H' : Hp} (s : Same H H') : SameD H H' := fun a u _ h => s a u h
theorem SameD.trans {H H1 H2 : Hp} (a : SameD H H1) (b : SameD H1 H2) : SameD H H2 := fun c u l h => b c u l (a c u l h)
theorem SameD.seqL {K : PySem.W.Frag} {H H' : Hp} (s : SameD H H') {a : Addr} {xs : List V} (h : SqL K H a xs) : SqL K H' a xs := by
  rcases h with (h | ⟨o, h⟩) | h
  · exact .inl (.inl (s _ _ (.inl ⟨_, rfl⟩) h))
  · exact .inl (.inr ⟨o, s _ _ (.inr (.inr ⟨_, _, rfl⟩)) h⟩)
  · exact .inr h
theorem SameD.seqT {K : PySem.W.Frag} {H H' : Hp} (s : SameD H H') {a : Addr} {xs : List V} (h : SqT K H a xs) : SqT K H' a xs := by
  rcases h with (h | ⟨o, h⟩) | h
  · exact .inl (.inl (s _ _ (.inr (.inl ⟨_, rfl⟩)) h))
  · exact .inl (.inr ⟨o, s _ _ (.inr (.inr ⟨_, _, rfl⟩)) h⟩)
  · exact .inr h
mutual
theorem Dp.laterD {K : PySem.W.Frag} {H H' : Hp} (s : SameD H H') : ∀ {v : V} {d : PyData}, Dp K H v d → Dp K H' v d
  | _, _, .non => .non
  | _, _, .bl b => .bl b
  | _, _, .int i => .int i
  | _, _, .str z => .str z
  | _, _, .lst h t => .lst (s.seqL h) (DpAll.laterD s t)
  | _, _, .tup h t => .tup (s.seqT h) (DpAll.laterD s t)
theorem DpAll.laterD {K : PySem.W.Frag} {H H' : Hp} (s : SameD H H') : ∀ {xs : List V} {ds : List PyData}, DpAll K H xs ds → DpAll K H' xs ds
  | _, _, .nil => .nil
  | _, _, .cons h t => .cons (Dp.laterD s h) (DpAll.laterD s t)
end
theorem Dp.later {K : PySem.W.Frag} {H H' : Hp} (s : Same H H') {v : V} {d : PyData} (h : Dp K H v d) : Dp K H' v d := Dp.laterD (.of s) h
theorem DpAll.later {K : PySem.W.Frag} {H H' : Hp} (s : Same H H') {xs : List V} {ds : List PyData} (h : DpAll K H xs ds) : DpAll K H' xs ds := DpAll.laterD (.of s) h
/-- the built-in class of a piece of data -/
def kindOf : PyData → String
  | .none => "NoneType" | .bool _ => "bool" | .int _ => "int" | .str _ => "str" | .list _ => "list" | .tuple _ => "tuple" | _ => "object"
theorem Dp.kind {K : PySem.W.Frag} {H : Hp} {v : V} {d : PyData} (h : Dp K H v d) : TyX K H v (.type (kindOf d)) := by
  cases h with
  | non => exact .base .non
  | bl b => exact .base (.bl b)
  | int i => exact .base (.int i)
  | str z => exact .base (.str z)
  | lst h _ =>
    rcases h with (h | ⟨o, h⟩) | ⟨o, its, n, h, c, _⟩
    · exact .base (.lst h)
    · exact .base (.frz h)
    · exact .kList h c
  | tup h _ =>
    rcases h with (h | ⟨o, h⟩) | ⟨o, its, n, h, c, _⟩
    · exact .base (.tup h)
    · exact .fTuple h
    · exact .kTuple h c
/-- isinstance(x, T), T a built-in class -/
theorem r_isi {K : PySem.W.Frag} {H : Hp} {Q : VK} {x : V} {a b : String} {r : Bool} (t : TyX K H x (.type a)) (e : kitB a b = some r) (h : Q (.bl r) H) : rIsi K [x, .ty b] H Q := ⟨x, .ty b, _, _, r, rfl, .ty b, t, kit_ty e, h⟩
/-- own_copy(value), for data at most n deep -/
def spCopy (K : PySem.W.Frag) (n : Nat) : Sp := fun vs H Q _ => ∃ (v : V) (d : PyData), vs = [v] ∧ Dp K H v d ∧ Deep n d ∧ ∀ (v' : V) (H' : Hp), Same H H' → Own H H' v' d → Q v' H'
/-- _law_same(a, b) of two values that are the same data -/
def spSame (K : PySem.W.Frag) (n : Nat) : Sp := fun vs H Q _ => ∃ (a b : V) (d : PyData), vs = [a, b] ∧ Dp K H a d ∧ Dp K H b d ∧ Deep n d ∧ Q (.bl true) H
theorem kit_list (d : PyData) : ∃ r, kitB (kindOf d) "list" = some r ∧ (r = true ↔ ∃ ds, d = .list ds) := by
  cases d with
  | none => exact ⟨false, (by decide +kernel : kitB "NoneType" "list" = some false), ⟨(fun z => by cases z), (fun z => by obtain ⟨_, z⟩ := z; cases z)⟩⟩
  | bool b => exact ⟨false, (by decide +kernel : kitB "bool" "list" = some false), ⟨(fun z => by cases z), (fun z => by obtain ⟨_, z⟩ := z; cases z)⟩⟩
  | int i => exact ⟨false, (by decide +kernel : kitB "int" "list" = some false), ⟨(fun z => by cases z), (fun z => by obtain ⟨_, z⟩ := z; cases z)⟩⟩
  | str z => exact ⟨false, (by decide +kernel : kitB "str" "list" = some false), ⟨(fun z => by cases z), (fun z => by obtain ⟨_, z⟩ := z; cases z)⟩⟩
  | list ds => exact ⟨true, (by decide +kernel : kitB "list" "list" = some true), ⟨fun _ => ⟨ds, rfl⟩, fun _ => rfl⟩⟩
  | tuple ds => exact ⟨false, (by decide +kernel : kitB "tuple" "list" = some false), ⟨(fun z => by cases z), (fun z => by obtain ⟨_, z⟩ := z; cases z)⟩⟩
  | dict kv => exact ⟨false, (by decide +kernel : kitB "object" "list" = some false), ⟨(fun z => by cases z), (fun z => by obtain ⟨_, z⟩ := z; cases z)⟩⟩
theorem kit_tuple (d : PyData) : ∃ r, kitB (kindOf d) "tuple" = some r ∧ (r = true ↔ ∃ ds, d = .tuple ds) := by
  cases d with
  | none => exact ⟨false, (by decide +kernel : kitB "NoneType" "tuple" = some false), ⟨(fun z => by cases z), (fun z => by obtain ⟨_, z⟩ := z; cases z)⟩⟩
  | bool b => exact ⟨false, (by decide +kernel : kitB "bool" "tuple" = some false), ⟨(fun z => by cases z), (fun z => by obtain ⟨_, z⟩ := z; cases z)⟩⟩
  | int i => exact ⟨false, (by decide +kernel : kitB "int" "tuple" = some false), ⟨(fun z => by cases z), (fun z => by obtain ⟨_, z⟩ := z; cases z)⟩⟩
  | str z => exact ⟨false, (by decide +kernel : kitB "str" "tuple" = some false), ⟨(fun z => by cases z), (fun z => by obtain ⟨_, z⟩ := z; cases z)⟩⟩
  | list ds => exact ⟨false, (by decide +kernel : kitB "list" "tuple" = some false), ⟨(fun z => by cases z), (fun z => by obtain ⟨_, z⟩ := z; cases z)⟩⟩
  | tuple ds => exact ⟨true, (by decide +kernel : kitB "tuple" "tuple" = some true), ⟨fun _ => ⟨ds, rfl⟩, fun _ => rfl⟩⟩
  | dict kv => exact ⟨false, (by decide +kernel : kitB "object" "tuple" = some false), ⟨(fun z => by cases z), (fun z => by obtain ⟨_, z⟩ := z; cases z)⟩⟩
theorem kit_dict {n : Nat} {d : PyData} (h : Deep n d) : kitB (kindOf d) "dict" = some false := by
  cases h with
  | non => exact (by decide +kernel : kitB "NoneType" "dict" = some false)
  | bl b => exact (by decide +kernel : kitB "bool" "dict" = some false)
  | int i => exact (by decide +kernel : kitB "int" "dict" = some false)
  | str z => exact (by decide +kernel : kitB "str" "dict" = some false)
  | lst h z => exact (by decide +kernel : kitB "list" "dict" = some false)
  | tup h z => exact (by decide +kernel : kitB "tuple" "dict" = some false)
end Pk
set_option Elab.async false
set_option linter.all false
set_option maxRecDepth 100000
set_option maxHeartbeats 1000000
namespace Pk
open PySem L2 PySem.Spec PyProof.Rows
/-- the __init__ at fI keeps sp, its first argument an error that is being made -/
structure ErrOk (P : Program) (w : World) (K : PySem.W.Frag) (mg : Str → Option Value) (base : Heap) (k : Nat) (C fI : Addr) (sp : Sp) : Prop where
  run : ∀ (A : Around) (outer : List Env) (s : Shared) (H : Hp) (us : List Value) (vs : List V) (x : Addr) (Q : VK), Room k A → Env0 P w K mg base A outer s H → Vals (.ref x :: vs) us → H x = some (exo x C none) → sp (.ref x :: vs) H Q (fun _ _ _ => False) →
    codeAny (model P w) A (.call (.ref fI) ⟨us, []⟩) (CR CX0 outer P w H s Q (fun _ _ _ => False)) s
/-- C(e, ..) -/
def tMkErr (C : Addr) (sp : Sp) (ta : TA) : L2.St → Hp → XK → Prop := fun σ H Q => ta σ H fun vs H1 => vs.length ≤ 1000 ∧ ∀ x, H1 x = none →
  sp (.ref x :: vs) (upd H1 x (exo x C none)) (fun v H2 => v = .non ∧ ∃ (d : Addr) (fs : List (Str × V)), H2 x = some (exo x C (some d)) ∧ H2 d = some (exd d fs) ∧ H1 d = none ∧ Q (.ref C) (some d) (upd (del H2 x) d (.xd fs))) (fun _ _ _ => False)
theorem pmk_err {X : Cx} {x : Str} {C fI : Addr} {k : Nat} {sp : Sp} {p pos : Pos} {e : Expr} {es : List Expr} {ta : TA} (T : ErrC X.K C) (iC : PySem.W.findIn X.K (.ref C) "__init__" = some (some (.ref fI))) (tI : PySem.W.typeIn X.K (.ref fI) = some (.type "function"))
    (G : ErrOk X.prog X.w X.K X.mg X.base k C fI sp) (hr : Room (k + 1) X.A) (hg : Gl X x) (hm : X.mg x = some (.ref C)) (ha : PA X (e :: es) ta)
    (hdb : (x == ("__debug__" : Str)) = false := by decide) (he : starEach (e :: es) X.env = (false, eval e X.env) :: starEach es X.env := by rfl) (hpl : (backTo pos (starEach es X.env)).any (·.1) = false := by rfl) : PMk X (.Call (.Name x p) (e :: es) [] pos) (tMkErr C sp ta) := by
  intro pins s σ H Q I h
  obtain ⟨pe, nm, q, N, bs, sn, sub, ab, col, dd, k0, k1, k2, k3, k5, hC⟩ := T.cls
  refine wpAny_Call_Name_kw (ld_glob I hg hm (PySem.W.callWith_K (h₀ := X.base) I.ok.mod.kin T.kp (thn (ha.run pos pins s σ H _ I h) fun us s1 ⟨vs, H1, I1, r1, hz, q1⟩ => ⟨I1.kIn, ?_⟩) he hpl) hdb)
  show wpAny _ _ (call (.ref C) us) _ _ _
  obtain ⟨hp, g, dr, tk, os⟩ := s1
  have up := Nat.le_succ hp.objs.size
  have hq := q1 (hp.objs.size + 1) (I1.hok.fresh up)
  have kk : ∀ b o, hp.get? b = some o → ((hp.push (PySem.W.kdv_tup us)).push (PySem.HandSPX.excO C hp.objs.size)).get? b = some o := fun b o z => Heap.get?_push_of_some _ (Heap.get?_push_of_some _ z)
  have made : ((hp.push (PySem.W.kdv_tup us)).push (PySem.HandSPX.excO C hp.objs.size)).get? (hp.objs.size + 1) = some (PySem.HandSPX.excO C hp.objs.size) := by heap_get
  have I2 := I1.laid (t' := tk) (a := hp.objs.size + 1) (o := exo (hp.objs.size + 1) C none) kk up (exo_ok made)
  have short : us.length ≤ sizeLine := by
    rw [← Paired.length r1, sizeLine_eq]; omega
  refine wpAny_call (PySem.HandSPX.call_own PySem.F.excBase_ArithmeticError arT_same (I1.kIn _ _ hC) (PySem.W.looks_findIn I1.kIn iC) (fun z => PySem.W.bind_fn I1.kIn z tI) short
    (codeAny_mono (G.run _ X.stack _ _ (Value.ref (hp.objs.size + 1) :: us) vs (hp.objs.size + 1) _ (hr.make C us []) (I2.env0.make C us []) (.cons rfl r1) upd_same hq) fun r st z => ?_))
  cases r with
  | error er => exact (show False from z).elim
  | ok fl =>
    cases fl with
    | ret u =>
      obtain ⟨v, H2, os2, bare2, un2, hok2, rv, ev, d, fs, ea, ed, hd1, q2⟩ := z
      subst ev
      obtain ⟨h2, g2, d2, t2, os'⟩ := st
      exact ⟨rv, mk_end (raises_own T.exB T.ty) I1 up kk un2 hok2 os2 bare2 ea ed hd1 q2⟩
    | next => exact False.elim z
    | brk => exact False.elim z
    | cont => exact False.elim z

theorem r_errSet {K : PySem.W.Frag} {f : Str} {to te : TE} {D : Ends} {σ : L2.St} {H : Hp} (h : te σ H fun y H1 => to σ H1 fun x H2 => ∃ a C : Addr, x = .ref a ∧ ErrC K C ∧ PySem.W.findIn K (.ref C) f = some none ∧
  ((H2 a = some (exo a C none) ∧ ∀ dx, H2 dx = none → dx ≠ a → D.nx σ (upd (upd H2 dx (exd dx [(f, y)])) a (exo a C (some dx)))) ∨
   (∃ (dx : Addr) (fs : List (Str × V)), H2 a = some (exo a C (some dx)) ∧ H2 dx = some (exd dx fs) ∧ fs.length ≤ 900 ∧ D.nx σ (upd H2 dx (exd dx ((f, y) :: fs)))))) : tErrSet K f to te D σ H := h
/-- an __init__ of one field, a copy of what it is passed -/
def spErr1 (K : PySem.W.Frag) (n : Nat) (C : Addr) (f : Str) : Sp := fun vs H Q _ => ∃ (x : Addr) (v : V) (d : PyData), vs = [.ref x, v] ∧ H x = some (exo x C none) ∧ Dp K H v d ∧ Deep n d ∧
  ∀ (dx : Addr) (v' : V) (H' : Hp), H' x = some (exo x C (some dx)) → H' dx = some (exd dx [(f, v')]) → H dx = none → dx ≠ x → Keep x H H' → Own H H' v' d → Q .non H'
/-- .. of two fields, in this sequence -/
def spErr2 (K : PySem.W.Frag) (n : Nat) (C : Addr) (f g : Str) : Sp := fun vs H Q _ => ∃ (x : Addr) (v u : V) (d e : PyData), vs = [.ref x, v, u] ∧ H x = some (exo x C none) ∧ Dp K H v d ∧ Deep n d ∧ Dp K H u e ∧ Deep n e ∧
  ∀ (dx : Addr) (v' u' : V) (H' : Hp), H' x = some (exo x C (some dx)) → H' dx = some (exd dx [(g, u'), (f, v')]) → H dx = none → dx ≠ x → Keep x H H' → Own H H' v' d → Own H H' u' e → Q .non H'
theorem exd_lt {dx : Addr} {fs : List (Str × V)} {u : HO} (h : ∃ xs, u = .lst xs ∨ u = .tup xs) : exd dx fs ≠ u := fun z => by
  obtain ⟨xs, e | e⟩ := h
  · rw [e] at z; cases (show HO.ext _ = HO.lst xs from z)
  · rw [e] at z; cases (show HO.ext _ = HO.tup xs from z)
/-- what is new stays so when the error, which is known, and its new dict are written -/
theorem Own.stored {H H1 : Hp} {v : V} {d : PyData} {x dx : Addr} {o u : HO} (w : Own H H1 v d) (hx : H x ≠ none) (hd : H1 dx = none) : Own H (upd (upd H1 dx o) x u) v d :=
  w.mono (fun _ n _ => n) fun a z n q _ => by
    have na : a ≠ x := fun e => hx (e ▸ n)
    rw [upd_ne na, upd_ne (ne_of_none q hd)]
    exact q
section
variable {P : Program} {w : World} {K : PySem.W.Frag} {mg : Str → Option Value} {base : Heap} {C fI cc fc : Addr} {fdc : FuncData} {F : NdefX.NF} {n : Nat} {f g : Str}
theorem err_one {msg : Str} {kd : Nat} {p0 p1 p2 p3 p4 p5 q0 q1 q2 q3 q4 q5 : Pos} (T : ErrC K C) (J : InitFn P K C fI cc F) (ms : mg "super" = none) (G : FnOk P w K mg base CX0 (n + 1) fc fdc ["value"] (spCopy K n)) (mc : mg "own_copy" = some (.ref fc)) (kc : PySem.W.keepIn K (.ref fc) = true)
    (bc : Binds K fdc ["value"] []) (S : NdefX.NScope ["self", f, "__class__"] ["self", f] ["__class__"] F.scope)
    (hB : F.body = .Expr (.Call (.Attribute (.Call (.Name "super" p0) [] [] p1) "__init__" p2) [.Constant (.str msg) kd p3] [] p4) p5 :: [.Assign [.Attribute (.Name "self" q0) f q1] (.Call (.Name "own_copy" q2) [.Name f q3] [] q4) q5])
    (hsg : F.scope.names.lookup ("super" : Str) = some .globalImplicit) (hog : F.scope.names.lookup ("own_copy" : Str) = some .globalImplicit) (free : PySem.W.findIn K (.ref C) f = some none)
    (hb : ∀ (kV doc pm ct : Value) (an : Option Addr) (us : List Value), us.length = 2 → bindArgs (PySem.W.fnX F.name F.qual F.params F.body F.scope F.cl .none kV doc pm an (.ref F.c) ct) ⟨us, []⟩ = pure ((["self", f] : List Str).zip us))
    {pl : Sem Bool} (he : ∀ env : Env, eval (.Call (.Attribute (.Call (.Name "super" p0) [] [] p1) "__init__" p2) [.Constant (.str msg) kd p3] [] p4) env = (do
      let ov ← attributeBase (.Call (.Name "super" p0) [] [] p1) "__init__" env (eval (.Call (.Name "super" p0) [] [] p1) env)
      standAt p2.atName
      let (f, first) ← holding [ov] (getMethod ov "__init__" pl)
      callWith p4 f first (backTo p4 (starEach [.Constant (.str msg) kd p3] env)) []))
    (fd : (f == ("__debug__" : Str)) = false) (fcd : (f == ("__classdict__" : Str)) = false) : ErrOk P w K mg base (n + 2) C fI (spErr1 K n C f) := by
  refine ⟨fun A outer s H us vs x Q hr e0 r ex hsp => ?_⟩
  obtain ⟨x', v, d, evs, _, hv, hd, k⟩ := hsp
  obtain ⟨rfl, rfl⟩ : x = x' ∧ vs = [v] := by
    have z := List.cons.inj evs
    exact ⟨V.ref.inj z.1, z.2⟩
  have lu : us.length = 2 := by rw [← r.length]; rfl
  refine init_run (k := n + 1) (rest := [.Assign [.Attribute (.Name "self" q0) f q1] (.Call (.Name "own_copy" q2) [.Name f q3] [] q4) q5]) (x := x) T J ms S hB hsg (S.par _ (by simp)) hr e0 (fun kV doc pm ct an => BindsTo.of_eq (hb kV doc pm ct an us lu)) r rfl rfl rfl ex he fun hr' => ?_
  refine ⟨_, pss_one (ps_errSet (pe_var (i := 0) rfl (.inl (S.par _ (by simp)))) (pe_call G hr' hog mc kc bc .nil pass0 (pa_cons (pe_var (i := 1) rfl (.inl (S.par _ (by simp))) fd fcd) pa_nil)) ?sw), ?_⟩
  case sw => rfl
  refine r_errSet ?_
  refine r_call ?_
  refine r_cons ?_
  refine r_var rfl ?_
  refine r_nil ?_
  refine ⟨v, d, rfl, hv, hd, fun v' H1 s1 o1 => ?_⟩
  refine r_var rfl ?_
  refine ⟨x, C, rfl, T, free, .inl ⟨s1 _ _ ex, fun dx hdx ne => ?_⟩⟩
  refine k dx v' _ upd_same (by rw [upd_ne ne, upd_same]) (s1.free hdx) ne (Keep.own (Keep.new (Keep.same s1) hdx)) (o1.stored (by rw [ex]; exact Option.some_ne_none _) hdx)

theorem exo_lt {x : Addr} {C : Addr} {d : Option Addr} {u : HO} (h : IsLT u) : exo x C d ≠ u := fun z => by
  rcases h with ⟨_, e⟩ | ⟨_, e⟩ | ⟨_, _, e⟩
  · rw [e] at z; exact exo_lt' z
  · exact exo_tup (z.trans e)
  · exact exo_frz (z.trans e)
where exo_lt' {x C : Addr} {d : Option Addr} {xs : List V} (z : exo x C d = .lst xs) : False := by cases (show HO.ext _ = HO.lst xs from z)
/-- behind the stores into the error at x lists and tuples are as they were -/
theorem sameD_err {H : Hp} {x C dx : Addr} {d : Option Addr} {o u : HO} (hx : H x = some (exo x C d)) (hd : H dx = none) : SameD H (upd (upd H dx o) x u) := fun a z l h => by
  rw [upd_ne (at_ne hx h (exo_lt l)), upd_ne (ne_of_none h hd)]
  exact h
theorem err_two {msg : Str} {kd : Nat} {p0 p1 p2 p3 p4 p5 q0 q1 q2 q3 q4 q5 z0 z1 z2 z3 z4 z5 : Pos} (T : ErrC K C) (J : InitFn P K C fI cc F) (ms : mg "super" = none) (G : FnOk P w K mg base CX0 (n + 1) fc fdc ["value"] (spCopy K n)) (mc : mg "own_copy" = some (.ref fc)) (kc : PySem.W.keepIn K (.ref fc) = true)
    (bc : Binds K fdc ["value"] []) (S : NdefX.NScope ["self", f, g, "__class__"] ["self", f, g] ["__class__"] F.scope)
    (hB : F.body = .Expr (.Call (.Attribute (.Call (.Name "super" p0) [] [] p1) "__init__" p2) [.Constant (.str msg) kd p3] [] p4) p5 ::
      [.Assign [.Attribute (.Name "self" q0) f q1] (.Call (.Name "own_copy" q2) [.Name f q3] [] q4) q5, .Assign [.Attribute (.Name "self" z0) g z1] (.Call (.Name "own_copy" z2) [.Name g z3] [] z4) z5])
    (hsg : F.scope.names.lookup ("super" : Str) = some .globalImplicit) (hog : F.scope.names.lookup ("own_copy" : Str) = some .globalImplicit) (free : PySem.W.findIn K (.ref C) f = some none) (freeg : PySem.W.findIn K (.ref C) g = some none)
    (hb : ∀ (kV doc pm ct : Value) (an : Option Addr) (us : List Value), us.length = 3 → bindArgs (PySem.W.fnX F.name F.qual F.params F.body F.scope F.cl .none kV doc pm an (.ref F.c) ct) ⟨us, []⟩ = pure ((["self", f, g] : List Str).zip us))
    {pl : Sem Bool} (he : ∀ env : Env, eval (.Call (.Attribute (.Call (.Name "super" p0) [] [] p1) "__init__" p2) [.Constant (.str msg) kd p3] [] p4) env = (do
      let ov ← attributeBase (.Call (.Name "super" p0) [] [] p1) "__init__" env (eval (.Call (.Name "super" p0) [] [] p1) env)
      standAt p2.atName
      let (f, first) ← holding [ov] (getMethod ov "__init__" pl)
      callWith p4 f first (backTo p4 (starEach [.Constant (.str msg) kd p3] env)) []))
    (fd : (f == ("__debug__" : Str)) = false) (fcd : (f == ("__classdict__" : Str)) = false) (gd : (g == ("__debug__" : Str)) = false) (gcd : (g == ("__classdict__" : Str)) = false) : ErrOk P w K mg base (n + 2) C fI (spErr2 K n C f g) := by
  refine ⟨fun A outer s H us vs x Q hr e0 r ex hsp => ?_⟩
  obtain ⟨x', v, u, d, e, evs, _, hv, hd, hu, hde, k⟩ := hsp
  obtain ⟨rfl, rfl⟩ : x = x' ∧ vs = [v, u] := by
    have z := List.cons.inj evs
    exact ⟨V.ref.inj z.1, z.2⟩
  have lu : us.length = 3 := by rw [← r.length]; rfl
  refine init_run (k := n + 1) (rest := [.Assign [.Attribute (.Name "self" q0) f q1] (.Call (.Name "own_copy" q2) [.Name f q3] [] q4) q5, .Assign [.Attribute (.Name "self" z0) g z1] (.Call (.Name "own_copy" z2) [.Name g z3] [] z4) z5]) (x := x) T J ms S hB hsg (S.par _ (by simp)) hr e0
    (fun kV doc pm ct an => BindsTo.of_eq (hb kV doc pm ct an us lu)) r rfl rfl rfl ex he fun hr' => ?_
  refine ⟨_, pss_cons (ps_errSet (pe_var (i := 0) rfl (.inl (S.par _ (by simp)))) (pe_call G hr' hog mc kc bc .nil pass0 (pa_cons (pe_var (i := 1) rfl (.inl (S.par _ (by simp))) fd fcd) pa_nil)) ?sw)
    (pss_one (ps_errSet (pe_var (i := 0) rfl (.inl (S.par _ (by simp)))) (pe_call G hr' hog mc kc bc .nil pass0 (pa_cons (pe_var (i := 2) rfl (.inl (S.par _ (by simp))) gd gcd) pa_nil)) ?sv)), ?_⟩
  case sw => rfl
  case sv => rfl
  refine r_seq ?_
  refine r_errSet ?_
  refine r_call ?_
  refine r_cons ?_
  refine r_var rfl ?_
  refine r_nil ?_
  refine ⟨v, d, rfl, hv, hd, fun v' H1 s1 o1 => ?_⟩
  refine r_var rfl ?_
  refine ⟨x, C, rfl, T, free, .inl ⟨s1 _ _ ex, fun dx hdx ne => ?_⟩⟩
  have o2 := o1.stored (o := exd dx [(f, v')]) (u := exo x C (some dx)) (by rw [ex]; exact Option.some_ne_none _) hdx
  have sd : SameD H (upd (upd H1 dx (exd dx [(f, v')])) x (exo x C (some dx))) := (SameD.of s1).trans (sameD_err (s1 _ _ ex) hdx)
  show tErrSet K g (tVar 0) (tCall (spCopy K n) [] E0 (tCons (tVar 2) tNil)) { nx := fun _ H2 => Q .non H2, rt := Q } _ _
  refine r_errSet ?_
  refine r_call ?_
  refine r_cons ?_
  refine r_var rfl ?_
  refine r_nil ?_
  refine ⟨u, e, rfl, Dp.laterD sd hu, hde, fun u' H2 s2 o3 => ?_⟩
  refine r_var rfl ?_
  have ed2 : H2 dx = some (exd dx [(f, v')]) := s2 _ _ (by rw [upd_ne ne, upd_same])
  refine ⟨x, C, rfl, T, freeg, .inr ⟨dx, [(f, v')], s2 _ _ upd_same, ed2, by show 1 ≤ 900; decide, ?_⟩⟩
  have hdx0 : H dx = none := s1.free hdx
  have kp : Keep x H H2 := (Keep.own (Keep.new (Keep.same s1) hdx)).trans (Keep.same s2)
  have ndx : ∀ {a : Addr} {z : HO}, (∃ xs, z = .lst xs ∨ z = .tup xs) → H2 a = some z → a ≠ dx := fun {a z} l h => at_ne ed2 h (exd_lt l)
  refine k dx v' u' _ (by rw [upd_ne (Ne.symm ne)]; exact s2 _ _ upd_same) upd_same hdx0 ne (fun b o nb hbo => ?_) ((o2.later s2).mono (fun _ n _ => n) fun a z n q l => by rw [upd_ne (ndx l q)]; exact q) ?_
  · rw [upd_ne (ne_of_none hbo hdx0)]
    exact kp b o nb hbo
  · refine o3.mono (fun a n _ => ?_) fun a z n q l => by rw [upd_ne (ndx l q)]; exact q
    have na : a ≠ x := fun z => by rw [z, upd_same] at n; cases n
    have nd : a ≠ dx := fun z => by rw [z, upd_ne ne, upd_same] at n; cases n
    rw [upd_ne na, upd_ne nd] at n
    exact s1.free n
/-- C(e) in the raiser's heap: a new dict with a copy -/
theorem r_err1 {σ : L2.St} {H : Hp} {Q : XK} {v : V} {d : PyData} (hv : Dp K H v d) (hd : Deep n d) (q : ∀ (dd : Addr) (v' : V) (H' : Hp), Same H H' → H dd = none → H' dd = some (.xd [(f, v')]) → Own H H' v' d → Q (.ref C) (some dd) H') :
    [v].length ≤ 1000 ∧ ∀ x, H x = none → spErr1 K n C f (.ref x :: [v]) (upd H x (exo x C none)) (fun v H2 => v = .non ∧ ∃ (d : Addr) (fs : List (Str × V)), H2 x = some (exo x C (some d)) ∧ H2 d = some (exd d fs) ∧ H d = none ∧ Q (.ref C) (some d) (upd (del H2 x) d (.xd fs))) (fun _ _ _ => False) := by
  refine ⟨by show 1 ≤ 1000; decide, fun x hx => ?_⟩
  have s0 : Same H (upd H x (exo x C none)) := Same.up (Same.refl H) hx
  refine ⟨x, v, d, rfl, upd_same, Dp.later s0 hv, hd, fun dx v' H' h1 h2 h3 ne h4 h5 => ⟨rfl, dx, _, h1, h2, ?_, ?_⟩⟩
  · rw [upd_ne ne] at h3; exact h3
  · rw [upd_ne ne] at h3
    refine q dx v' _ (fun b o e => ?_) h3 upd_same (h5.mono (fun a n _ => s0.free n) fun a z n e l => ?_)
    · have nb : b ≠ x := ne_of_none e hx
      rw [upd_ne (ne_of_none e h3), del_ne nb]
      exact h4 b o nb (s0 b o e)
    · have na : a ≠ x := fun z => by rw [z, upd_same] at n; cases n
      rw [upd_ne (at_ne h2 e (exd_lt l)), del_ne na]
      exact e
theorem r_err2 {σ : L2.St} {H : Hp} {Q : XK} {v u : V} {d e : PyData} (hv : Dp K H v d) (hd : Deep n d) (hu : Dp K H u e) (he : Deep n e)
    (q : ∀ (dd : Addr) (v' u' : V) (H' : Hp), Same H H' → H dd = none → H' dd = some (.xd [(g, u'), (f, v')]) → Own H H' v' d → Own H H' u' e → Q (.ref C) (some dd) H') :
    [v, u].length ≤ 1000 ∧ ∀ x, H x = none → spErr2 K n C f g (.ref x :: [v, u]) (upd H x (exo x C none)) (fun v H2 => v = .non ∧ ∃ (d : Addr) (fs : List (Str × V)), H2 x = some (exo x C (some d)) ∧ H2 d = some (exd d fs) ∧ H d = none ∧ Q (.ref C) (some d) (upd (del H2 x) d (.xd fs))) (fun _ _ _ => False) := by
  refine ⟨by show 2 ≤ 1000; decide, fun x hx => ?_⟩
  have s0 : Same H (upd H x (exo x C none)) := Same.up (Same.refl H) hx
  refine ⟨x, v, u, d, e, rfl, upd_same, Dp.later s0 hv, hd, Dp.later s0 hu, he, fun dx v' u' H' h1 h2 h3 ne h4 h5 h6 => ⟨rfl, dx, _, h1, h2, ?_, ?_⟩⟩
  · rw [upd_ne ne] at h3; exact h3
  · rw [upd_ne ne] at h3
    have keep : ∀ a z, upd H x (exo x C none) a = none → H' a = some z → (∃ xs, z = .lst xs ∨ z = .tup xs) → upd (del H' x) dx (.xd [(g, u'), (f, v')]) a = some z := fun a z n e l => by
      have na : a ≠ x := fun z => by rw [z, upd_same] at n; cases n
      rw [upd_ne (at_ne h2 e (exd_lt l)), del_ne na]
      exact e
    refine q dx v' u' _ (fun b o e => ?_) h3 upd_same (h5.mono (fun a n _ => s0.free n) keep) (h6.mono (fun a n _ => s0.free n) keep)
    have nb : b ≠ x := ne_of_none e hx
    rw [upd_ne (ne_of_none e h3), del_ne nb]
    exact h4 b o nb (s0 b o e)
end
end Pk
set_option Elab.async false
set_option linter.all false
set_option maxRecDepth 100000
set_option maxHeartbeats 1000000
namespace Pk
open PySem L2 PySem.Spec PyProof.Rows
/-- a def x of the text, at f, with its promise -/
structure Df1 (P : Program) (w : World) (K : PySem.W.Frag) (mg : Str → Option Value) (base : Heap) (CX : CXT) (x : Str) (k : Nat) (ps : List Str) (sp : Sp) (f : Addr) (fd : FuncData) : Prop where
  at_ : mg x = some (.ref f)
  kp : PySem.W.keepIn K (.ref f) = true
  bd : Binds K fd ps []
  ok : FnOk P w K mg base CX k f fd ps sp
/-- an error class x of the text, at C, with the promise of its __init__ -/
structure De1 (P : Program) (w : World) (K : PySem.W.Frag) (mg : Str → Option Value) (base : Heap) (x : Str) (k : Nat) (sp : Sp) (C fI : Addr) : Prop where
  at_ : mg x = some (.ref C)
  cls : ErrC K C
  ini : PySem.W.findIn K (.ref C) "__init__" = some (some (.ref fI))
  fn : PySem.W.typeIn K (.ref fI) = some (.type "function")
  ok : ErrOk P w K mg base k C fI sp
  xf : XfC K C
  xm : PySem.W.exmOne K (.ref C) (.ref C) = some true
abbrev Df (P : Program) (w : World) (K : PySem.W.Frag) (mg : Str → Option Value) (base : Heap) (CX : CXT) (x : Str) (k : Nat) (ps : List Str) (sp : Sp) : Prop := ∃ f fd, Df1 P w K mg base CX x k ps sp f fd
abbrev De (P : Program) (w : World) (K : PySem.W.Frag) (mg : Str → Option Value) (base : Heap) (x : Str) (k : Nat) (sp : Sp) (C : Addr) : Prop := ∃ fI, De1 P w K mg base x k sp C fI
section
variable {X : Cx} {CX : CXT} {x : Str} {k j : Nat} {ps : List Str} {sp : Sp} {e : Expr} {es : List Expr} {t : TA} {p pos : Pos} {W : WX} {C : Addr}
/-- a call of what raises nothing -/
theorem pe_df (D : Df X.prog X.w X.K X.mg X.base CX0 x k ps sp) (hr : Room j X.A) (l : k ≤ j) (ha : PA X (e :: es) t) (hg : Gl X x := by rfl) (hdb : (x == ("__debug__" : Str)) = false := by decide)
    (he : starEach (e :: es) X.env = (false, eval e X.env) :: starEach es X.env := by rfl) (hpl : (backTo pos (starEach es X.env)).any (·.1) = false := by rfl) : PE X (.Call (.Name x p) (e :: es) [] pos) (tCall sp [] E0 t) :=
  let ⟨_, _, D⟩ := D; pe_call D.ok (hr.mono l) hg D.at_ D.kp D.bd .nil pass0 ha hdb he hpl
/-- .. of what may raise, and does not here -/
theorem pe_dfL (D : Df X.prog X.w X.K X.mg X.base (L2.CX X.prog X.w) x k ps sp) (hr : Room j X.A) (l : k ≤ j) (ha : PA X (e :: es) t) (hg : Gl X x := by rfl) (hdb : (x == ("__debug__" : Str)) = false := by decide)
    (he : starEach (e :: es) X.env = (false, eval e X.env) :: starEach es X.env := by rfl) (hpl : (backTo pos (starEach es X.env)).any (·.1) = false := by rfl) : PE X (.Call (.Name x p) (e :: es) [] pos) (tCall sp [] E0 t) :=
  let ⟨_, _, D⟩ := D; pe_call D.ok (hr.mono l) hg D.at_ D.kp D.bd .nil passL ha hdb he hpl
/-- .. where what is raised is taken: within a try, or by a def that lets it out -/
theorem pe_dfS (tk : Takes X W) (D : Df X.prog X.w X.K X.mg X.base (L2.CX X.prog X.w) x k ps sp) (hr : Room j X.A) (l : k ≤ j) (ha : PA X (e :: es) t) (hg : Gl X x := by rfl) (hdb : (x == ("__debug__" : Str)) = false := by decide)
    (he : starEach (e :: es) X.env = (false, eval e X.env) :: starEach es X.env := by rfl) (hpl : (backTo pos (starEach es X.env)).any (·.1) = false := by rfl) : PE X (.Call (.Name x p) (e :: es) [] pos) (tCallS sp (WE W) t) :=
  let ⟨_, _, D⟩ := D; pe_callS D.ok (hr.mono l) hg D.at_ D.kp D.bd (fun σ => passAt tk σ) ha hdb he hpl
/-- raise x(e, ..) -/
theorem ps_rse {spos : Pos} (hc : X.calm = true) (tk : Takes X W) (D : De X.prog X.w X.K X.mg X.base x k sp C) (hr : Room j X.A) (l : k + 1 ≤ j) (ha : PA X (e :: es) t) (hg : Gl X x := by rfl) (hdb : (x == ("__debug__" : Str)) = false := by decide)
    (he : starEach (e :: es) X.env = (false, eval e X.env) :: starEach es X.env := by rfl) (hpl : (backTo pos (starEach es X.env)).any (·.1) = false := by rfl) :
    PS X (.Raise (some (.Call (.Name x p) (e :: es) [] pos)) none spos) (fun _ σ H => tMkErr C sp t σ H fun cls d H' => W cls d σ H') := let ⟨_, D⟩ := D; ps_raise hc tk (pmk_err D.cls D.ini D.fn D.ok (hr.mono l) hg D.at_ ha hdb he hpl)
end
section
variable {σ : L2.St} {H : Hp} {Q : VK} {ta tk : TA} {sp : Sp} {E : L2.St → XK} {D : Ends}
theorem r_callS (h : ta σ H fun vs H1 => sp vs H1 Q (E σ)) : tCallS sp E ta σ H Q := h
theorem r_callN {n m : Nat} {gV : List V → List V → List V} {E : XK} (h : ta σ H fun vs H1 => tk σ H1 fun zs H2 => vs.length = n ∧ zs.length = m ∧ sp (gV vs zs) H2 Q E) : tCallN n m sp gV E ta tk σ H Q := h
theorem r_mkErr {C : Addr} {R : XK} (h : ta σ H fun vs H1 => vs.length ≤ 1000 ∧ ∀ x, H1 x = none →
  sp (.ref x :: vs) (upd H1 x (exo x C none)) (fun v H2 => v = .non ∧ ∃ (d : Addr) (fs : List (Str × V)), H2 x = some (exo x C (some d)) ∧ H2 d = some (exd d fs) ∧ H1 d = none ∧ R (.ref C) (some d) (upd (del H2 x) d (.xd fs))) (fun _ _ _ => False)) : tMkErr C sp ta σ H R := h
theorem r_xf {a : Addr} {C dd : Addr} {f : Str} {te : TE} {fs : List (Str × V)} {v : V} (h : te σ H fun x H1 => x = .ref a ∧ Value.ref C = .ref C ∧ ∃ (d2 : Addr) (fs : List (Str × V)) (v : V), some dd = some d2 ∧ H1 d2 = some (.xd fs) ∧ fs.lookup f = some v ∧ Q v H1) : tXf a (.ref C) (some dd) C f te σ H Q := h
end
/-- f(e, .., k = v, ..) where what is raised is wished for at the caller's slots -/
def tKwS (n m : Nat) (sp : Sp) (gV : List V → List V → List V) (E : L2.St → XK) (t tk : TA) : TE := fun σ H Q => t σ H fun vs H1 => tk σ H1 fun zs H2 => vs.length = n ∧ zs.length = m ∧ sp (gV vs zs) H2 Q (E σ)
theorem r_kwS {σ : L2.St} {H : Hp} {Q : VK} {ta tk : TA} {sp : Sp} {n m : Nat} {gV : List V → List V → List V} {E : L2.St → XK} (h : ta σ H fun vs H1 => tk σ H1 fun zs H2 => vs.length = n ∧ zs.length = m ∧ sp (gV vs zs) H2 Q (E σ)) : tKwS n m sp gV E ta tk σ H Q := h
theorem pe_kwS {X : Cx} {CX : CXT} {k n : Nat} {f : Addr} {fd : FuncData} {ps ks : List Str} {sp : Sp} {E : L2.St → XK} {x : Str} {p pos : Pos} {e : Expr} {es : List Expr} {kws : List Keyword} {t tk : TA} {g : List Value → List Value → List Value} {gV : List V → List V → List V}
    (F : FnOk X.prog X.w X.K X.mg X.base CX k f fd ps sp) (hr : Room k X.A) (hm : X.mg x = some (.ref f)) (hk : PySem.W.keepIn X.K (.ref f) = true) (hb : KBn X.K fd ps n ks g gV) (hx : ∀ σ, PassesAt CX X σ (E σ)) (ha : PA X (e :: es) t) (hkw : PK X kws tk) (hg : Gl X x := by rfl)
    (hall : (backToKw pos (keywordEach kws X.env)).all (·.1.isSome) = true := by rfl) (hks : (backToKw pos (keywordEach kws X.env)).filterMap (·.1) = ks := by rfl) (hdb : (x == ("__debug__" : Str)) = false := by decide)
    (he : starEach (e :: es) X.env = (false, eval e X.env) :: starEach es X.env := by rfl) (hpl : ((backTo pos (starEach (e :: es) X.env)).any (·.1) || (backToKw pos (keywordEach kws X.env)).any (·.1.isNone)) = false := by rfl) :
    PE X (.Call (.Name x p) (e :: es) kws pos) (tKwS n ks.length sp gV E t tk) := by
  refine ⟨fun pins s σ H Q I h => wpAny_Call_Name_kw (ld_glob I hg hm (PySem.W.callWith_KW (h₀ := X.base) I.ok.mod.kin hk hall (thn (ha.run pos pins s σ H _ I h) fun us s1 ⟨vs, H1, I1, r, q⟩ => thn (hkw.run pos pins s1 σ H1 _ I1 q) fun ws s2 ⟨zs, H2, I2, rz, l1, l2, q2⟩ => ⟨I2.kIn, ?_⟩) hpl he) hdb)⟩
  rw [hks]
  refine wpAny_call (codeAny_mono (F.run X.A X.stack s2 H2 ⟨us, ks.zip ws⟩ (g us ws) (gV vs zs) Q (E σ) hr I2.env0 (hb.to s2 us ws I2.kIn (r.length.symm.trans l1) (rz.length.symm.trans l2)) (hb.rel r rz) q2) fun r s' hq => ?_)
  cases r with
  | error er => exact hx σ pins H2 s2 er s' I2 hq
  | ok fl =>
    cases fl with
    | ret u => exact I2.after hq
    | next => exact False.elim hq
    | brk => exact False.elim hq
    | cont => exact False.elim hq
/-- an own class x of the text, made by its __init__ -/
structure Dk1 (P : Program) (w : World) (K : PySem.W.Frag) (mg : Str → Option Value) (base : Heap) (CX : CXT) (x : Str) (k : Nat) (ps : List Str) (sp : Sp) (C fI : Addr) (fd : FuncData) : Prop where
  at_ : mg x = some (.ref C)
  mkc : Mk K C fI
  bd : Binds K fd ps []
  ok : FnOk P w K mg base CX k fI fd ps sp
abbrev Dk (P : Program) (w : World) (K : PySem.W.Frag) (mg : Str → Option Value) (base : Heap) (CX : CXT) (x : Str) (k : Nat) (ps : List Str) (sp : Sp) (C : Addr) : Prop := ∃ fI fd, Dk1 P w K mg base CX x k ps sp C fI fd
theorem pe_dkL {X : Cx} {x : Str} {k j : Nat} {ps : List Str} {sp : Sp} {e : Expr} {es : List Expr} {t : TA} {p pos : Pos} {C : Addr} (D : Dk X.prog X.w X.K X.mg X.base (L2.CX X.prog X.w) x k ps sp C) (hr : Room j X.A) (l : k + 1 ≤ j) (ha : PA X (e :: es) t) (hg : Gl X x := by rfl)
    (hdb : (x == ("__debug__" : Str)) = false := by decide) (he : starEach (e :: es) X.env = (false, eval e X.env) :: starEach es X.env := by rfl) (hpl : (backTo pos (starEach es X.env)).any (·.1) = false := by rfl) : PE X (.Call (.Name x p) (e :: es) [] pos) (tMake C sp [] E0 t) :=
  let ⟨_, _, D⟩ := D; pe_make D.mkc D.ok (hr.mono l) hg D.at_ D.bd .nil passL ha hdb he hpl
theorem look1 (f : Str) (v : V) : List.lookup f [(f, v)] = some v := by simp [List.lookup]
theorem look2 (f g : Str) (v u : V) (h : (f == g) = false) : List.lookup f [(g, u), (f, v)] = some v := by simp [List.lookup, h]
theorem look2' (f g : Str) (v u : V) : List.lookup g [(g, u), (f, v)] = some u := by simp [List.lookup]
/-- built-ins that the text does not name anew -/
structure Bt (mg : Str → Option Value) : Prop where
  int : mg "int" = none
  str : mg "str" = none
  bool : mg "bool" = none
  list : mg "list" = none
  tuple : mg "tuple" = none
  dict : mg "dict" = none
  len : mg "len" = none
  range : mg "range" = none
  isinstance : mg "isinstance" = none
  sum : mg "sum" = none
  max : mg "max" = none
  min : mg "min" = none
  sorted : mg "sorted" = none
  set : mg "set" = none
  super : mg "super" = none
  enumerate : mg "enumerate" = none
  zip : mg "zip" = none
  abs : mg "abs" = none
end Pk
set_option Elab.async false
set_option linter.all false
set_option maxRecDepth 100000
set_option maxHeartbeats 1000000
namespace Pk
open PySem L2 PySem.Spec PyProof.Rows PySem.W
/-- what the top holds of a def x -/
def DefAt (K : PySem.W.Frag) (x : Str) (st : Stmt) : Prop := ∃ (f : Addr) (oc : Value) (od : Option Addr) (kV dc pm : Value) (an : Option Addr) (cd ct : Value) (sl : Array (Option Value)),
  PySem.W.nsIn K mainGlobals x = some (some (.ref f)) ∧ K.lookup f = some ⟨oc, od, .func (PySem.W.fnOf x x (defArgs st) (defBody st) (defScope st) .none kV dc pm an cd ct), sl⟩ ∧ PySem.W.codeIn K cd x = true ∧ PySem.W.keepIn K (.ref f) = true
theorem DefAt.fn {K : PySem.W.Frag} {h : Heap} {mg : Str → Option Value} {x : Str} {st : Stmt} (X : K.In h) (G : h.Ns mainGlobals mg) (d : DefAt K x st) : ∃ f fd, Fun K x x st f fd ∧ mg x = some (.ref f) := by
  obtain ⟨f, oc, od, kV, dc, pm, an, cd, ct, sl, a, l, c, k⟩ := d
  exact ⟨f, _, fun_mk (st := st) l c k, PySem.W.mg_of X G a⟩
/-- .. of a method x of the class at C -/
def MethAt (K : PySem.W.Frag) (C : Addr) (x q : Str) (st : Stmt) : Prop := ∃ (f : Addr) (oc : Value) (od : Option Addr) (kV dc pm : Value) (an : Option Addr) (cd ct : Value) (sl : Array (Option Value)),
  PySem.W.findIn K (.ref C) x = some (some (.ref f)) ∧ K.lookup f = some ⟨oc, od, .func (PySem.W.fnOf x q (defArgs st) (defBody st) (defScope st) .none kV dc pm an cd ct), sl⟩ ∧ PySem.W.codeIn K cd q = true ∧ PySem.W.keepIn K (.ref f) = true ∧ PySem.W.isFn K (.ref f) = true
theorem MethAt.fn {K : PySem.W.Frag} {C : Addr} {x q : Str} {st : Stmt} (d : MethAt K C x q st) : ∃ f fd, Fun K x q st f fd ∧ Meth K C x f := by
  obtain ⟨f, oc, od, kV, dc, pm, an, cd, ct, sl, a, l, c, k, i⟩ := d
  exact ⟨f, _, fun_mk (st := st) l c k, ⟨a, i, k⟩⟩
/-- .. of a def x with one keyword-only default, a text -/
def DefAtK (K : PySem.W.Frag) (x k : Str) (z : Str) (st : Stmt) : Prop := ∃ (f D : Addr) (oc : Value) (od : Option Addr) (dc pm : Value) (an : Option Addr) (cd ct : Value) (sl : Array (Option Value)) (t : Tok),
  PySem.W.nsIn K mainGlobals x = some (some (.ref f)) ∧ K.lookup f = some ⟨oc, od, .func (PySem.W.fnOf x x (defArgs st) (defBody st) (defScope st) .none (.ref D) dc pm an cd ct), sl⟩ ∧ PySem.W.codeIn K cd x = true ∧ PySem.W.keepIn K (.ref f) = true ∧ PySem.W.nsIn K D k = some (some (.str z t))
theorem DefAtK.fn {K : PySem.W.Frag} {h : Heap} {mg : Str → Option Value} {x k z : Str} {st : Stmt} (X : K.In h) (G : h.Ns mainGlobals mg) (d : DefAtK K x k z st) : ∃ f fd, FunD K x x (defArgs st) (defBody st) (defScope st) [] [(k, .str z)] f fd ∧ mg x = some (.ref f) := by
  obtain ⟨f, D, oc, od, dc, pm, an, cd, ct, sl, t, a, l, c, kp, n⟩ := d
  refine ⟨f, _, ⟨⟨oc, od, .none, .ref D, dc, pm, an, cd, ct, sl, rfl, l, c, .inl ⟨rfl, rfl⟩, .inr ⟨D, rfl, fun q hq => ?_⟩⟩, kp⟩, PySem.W.mg_of X G a⟩
  rw [List.mem_singleton.mp hq]
  exact ⟨_, n, t, rfl⟩
/-- what the top holds of an error class x with an __init__ of its own (st) -/
structure ErrAt1 (P : Program) (K : PySem.W.Frag) (x q : Str) (st : Stmt) (C fI cc c : Addr) : Prop where
  at_ : PySem.W.nsIn K mainGlobals x = some (some (.ref C))
  cls : ∃ pe nm qn N bs sn sub ab col dd k0 k1 k2 k3 k5, K.lookup C = some (excClassObj nm qn C N bs (.ref pe :: arT) true sn sub ab col dd k0 k1 k2 k3 k5 "ArithmeticError.__new__")
  sa : PySem.W.findIn K (.ref C) "__setattr__" = some (some (.builtin "object.__setattr__"))
  exB : PySem.W.subIn K (.ref C) (.type "BaseException") = some true
  exA : PySem.W.subIn K (.ref C) (.type "ArithmeticError") = some true
  ty : PySem.W.typeIn K (.ref C) = some (.type "type")
  kp : PySem.W.keepIn K (.ref C) = true
  ini : PySem.W.findIn K (.ref C) "__init__" = some (some (.ref fI))
  fnt : PySem.W.typeIn K (.ref fI) = some (.type "function")
  fn : ∃ (oc : Value) (od : Option Addr) (kV doc pm : Value) (an : Option Addr) (ct : Value) (osl : Array (Option Value)), K.lookup fI = some ⟨oc, od, .func (PySem.W.fnX "__init__" q (defArgs st) (defBody st) (defScope st) [(("__class__" : Str), cc)] .none kV doc pm an (.ref c) ct), osl⟩
  code : PySem.W.codeIn K (.ref c) q = true
  cell : ∃ (a : Value) (b : Option Addr) (d : Array (Option Value)), K.lookup cc = some ⟨a, b, .cell (some (.ref C)), d⟩
  file : ∃ (a : Value) (b : Option Addr) (vs : Array Value) (d : Array (Option Value)) (f : Str) (t : Tok), K.lookup c = some ⟨a, b, .fields vs, d⟩ ∧ vs[2]? = some (.str f t) ∧ ((P.main.file : Str) == f) = true
  opq : PySem.W.nsIn K cStatics "thirdparty.any" = some none
  sup : PySem.W.ks_superIn K C C "__init__" = some (some (.builtin "ArithmeticError.__init__"))
  below : PySem.W.mroIn K C (.ref C) = some true
  ga : PySem.W.findIn K (.ref C) "__getattribute__" = some (some (.builtin "BaseException.__getattribute__"))
  gg : PySem.W.findIn K (.ref C) "__getattr__" = some none
  hd : PySem.W.hasDictIn K C = true
  isC : PySem.W.isClsIn K C = true
  own : PySem.W.subIn K (.ref C) (.ref C) = some true
theorem err_self {K : PySem.W.Frag} {S : Addr} (h1 : PySem.W.subIn K (.ref S) (.type "BaseException") = some true) (h2 : PySem.W.isClsIn K S = true) (h3 : PySem.W.typeIn K (.ref S) = some (.type "type")) (h4 : PySem.W.subIn K (.ref S) (.ref S) = some true) : PySem.W.exmOne K (.ref S) (.ref S) = some true := by
  have h5 : (PySem.W.clsIn K S).isSome = true := h2
  unfold PySem.W.exmOne PySem.W.kitCls
  simp only [h1, h3, h4, h5]
  rfl
section
variable {P : Program} {w : World} {K : PySem.W.Frag} {h : Heap} {mg : Str → Option Value} {base : Heap} {x q : Str} {st : Stmt} {C fI cc c : Addr}
theorem ErrAt1.errC (e : ErrAt1 P K x q st C fI cc c) : ErrC K C := ⟨e.cls, e.sa, e.exB, e.exA, e.ty, e.kp⟩
theorem ErrAt1.init (e : ErrAt1 P K x q st C fI cc c) (top : (P.main.scope.names.lookup ("super" : Str)).isSome = false) (self : ∃ q, ((defArgs st).posonlyargs ++ (defArgs st).args).head? = some { arg := "self", annotation := none, pos := q }) :
    InitFn P K C fI cc { name := "__init__", qual := q, params := defArgs st, body := defBody st, scope := defScope st, cl := [(("__class__" : Str), cc)], c := c } :=
  ⟨e.fn, e.code, rfl, e.cell, e.file, top, e.opq, self, e.sup, e.below⟩
theorem ErrAt1.de {k : Nat} {sp : Sp} (e : ErrAt1 P K x q st C fI cc c) (X : K.In h) (G : h.Ns mainGlobals mg) (o : ErrOk P w K mg base k C fI sp) : De P w K mg base x k sp C :=
  ⟨fI, PySem.W.mg_of X G e.at_, e.errC, e.ini, e.fnt, o, ⟨e.ga, e.gg, e.exB, e.hd⟩, err_self e.exB e.isC e.ty e.own⟩
end
def BtIn (K : PySem.W.Frag) : Prop := ∀ x, x ∈ (["int", "str", "bool", "list", "tuple", "dict", "len", "range", "isinstance", "sum", "max", "min", "sorted", "set", "super", "enumerate", "zip", "abs"] : List Str) → PySem.W.nsIn K mainGlobals x = some none
theorem BtIn.bt {K : PySem.W.Frag} {h : Heap} {mg : Str → Option Value} (X : K.In h) (G : h.Ns mainGlobals mg) (b : BtIn K) : Bt mg := by
  have g : ∀ x, x ∈ (["int", "str", "bool", "list", "tuple", "dict", "len", "range", "isinstance", "sum", "max", "min", "sorted", "set", "super", "enumerate", "zip", "abs"] : List Str) → mg x = none := fun x hx => PySem.W.mg_none_of X G (b x hx)
  constructor <;> exact g _ (by decide)
theorem DefAt.of {K : PySem.W.Frag} {x : Str} {st : Stmt} {f : Addr} {oc : Value} {od : Option Addr} {kV dc pm : Value} {an : Option Addr} {cd ct : Value} {sl : Array (Option Value)} (a : PySem.W.nsIn K mainGlobals x = some (some (.ref f)))
    (l : K.lookup f = some ⟨oc, od, .func (PySem.W.fnOf x x (defArgs st) (defBody st) (defScope st) .none kV dc pm an cd ct), sl⟩) (c : PySem.W.codeIn K cd x = true) (k : PySem.W.keepIn K (.ref f) = true) : DefAt K x st := ⟨_, _, _, _, _, _, _, _, _, _, a, l, c, k⟩
theorem DefAtK.of {K : PySem.W.Frag} {x y z : Str} {st : Stmt} {f D : Addr} {oc : Value} {od : Option Addr} {dc pm : Value} {an : Option Addr} {cd ct : Value} {sl : Array (Option Value)} {t : Tok} (a : PySem.W.nsIn K mainGlobals x = some (some (.ref f)))
    (l : K.lookup f = some ⟨oc, od, .func (PySem.W.fnOf x x (defArgs st) (defBody st) (defScope st) .none (.ref D) dc pm an cd ct), sl⟩) (c : PySem.W.codeIn K cd x = true) (k : PySem.W.keepIn K (.ref f) = true) (n : PySem.W.nsIn K D y = some (some (.str z t))) : DefAtK K x y z st := ⟨_, _, _, _, _, _, _, _, _, _, _, a, l, c, k, n⟩
theorem MethAt.of {K : PySem.W.Frag} {C : Addr} {x q : Str} {st : Stmt} {f : Addr} {oc : Value} {od : Option Addr} {kV dc pm : Value} {an : Option Addr} {cd ct : Value} {sl : Array (Option Value)} (a : PySem.W.findIn K (.ref C) x = some (some (.ref f)))
    (l : K.lookup f = some ⟨oc, od, .func (PySem.W.fnOf x q (defArgs st) (defBody st) (defScope st) .none kV dc pm an cd ct), sl⟩) (c : PySem.W.codeIn K cd q = true) (k : PySem.W.keepIn K (.ref f) = true) (i : PySem.W.isFn K (.ref f) = true) : MethAt K C x q st := ⟨_, _, _, _, _, _, _, _, _, _, a, l, c, k, i⟩
theorem ErrAt1.of {P : Program} {K : PySem.W.Frag} {x q : Str} {st : Stmt} {C fI cc c pe : Addr} {nm qn : Str} {N : Addr} {bs sn sub ab col dd k0 k1 k2 k3 k5} {oc1 : Value} {od1 : Option Addr} {kV dc pm : Value} {an : Option Addr} {ct : Value} {sl1 sl2 sl3 : Array (Option Value)} {v2 v3 : Value} {o2 o3 : Option Addr} {vs : Array Value} {fl : Str} {t : Tok}
    (at_ : PySem.W.nsIn K mainGlobals x = some (some (.ref C))) (cls : K.lookup C = some (excClassObj nm qn C N bs (.ref pe :: arT) true sn sub ab col dd k0 k1 k2 k3 k5 "ArithmeticError.__new__"))
    (sa : PySem.W.findIn K (.ref C) "__setattr__" = some (some (.builtin "object.__setattr__"))) (exB : PySem.W.subIn K (.ref C) (.type "BaseException") = some true) (exA : PySem.W.subIn K (.ref C) (.type "ArithmeticError") = some true) (ty : PySem.W.typeIn K (.ref C) = some (.type "type")) (kp : PySem.W.keepIn K (.ref C) = true)
    (ini : PySem.W.findIn K (.ref C) "__init__" = some (some (.ref fI))) (fnt : PySem.W.typeIn K (.ref fI) = some (.type "function")) (fn : K.lookup fI = some ⟨oc1, od1, .func (PySem.W.fnX "__init__" q (defArgs st) (defBody st) (defScope st) [(("__class__" : Str), cc)] .none kV dc pm an (.ref c) ct), sl1⟩)
    (code : PySem.W.codeIn K (.ref c) q = true) (cell : K.lookup cc = some ⟨v2, o2, .cell (some (.ref C)), sl2⟩) (file : K.lookup c = some ⟨v3, o3, .fields vs, sl3⟩) (file2 : vs[2]? = some (.str fl t)) (file3 : ((P.main.file : Str) == fl) = true) (opq : PySem.W.nsIn K cStatics "thirdparty.any" = some none)
    (sup : PySem.W.ks_superIn K C C "__init__" = some (some (.builtin "ArithmeticError.__init__"))) (below : PySem.W.mroIn K C (.ref C) = some true) (ga : PySem.W.findIn K (.ref C) "__getattribute__" = some (some (.builtin "BaseException.__getattribute__"))) (gg : PySem.W.findIn K (.ref C) "__getattr__" = some none)
    (hd : PySem.W.hasDictIn K C = true) (isC : PySem.W.isClsIn K C = true) (own : PySem.W.subIn K (.ref C) (.ref C) = some true) : ErrAt1 P K x q st C fI cc c :=
  ⟨at_, ⟨_, _, _, _, _, _, _, _, _, _, _, _, _, _, _, cls⟩, sa, exB, exA, ty, kp, ini, fnt, ⟨_, _, _, _, _, _, _, _, fn⟩, code, ⟨_, _, _, cell⟩, ⟨_, _, _, _, _, _, file, file2, file3⟩, opq, sup, below, ga, gg, hd, isC, own⟩
end Pk
set_option Elab.async false
set_option linter.all false
set_option maxRecDepth 100000
set_option maxHeartbeats 1000000
namespace Pk
open PySem L2 PySem.Spec PyProof.Rows
/-! ### operators of an own class, by its own methods -/
section
variable {X : Cx} {CX : CXT} {pins : List (Addr × Obj)} {σ : L2.St} {H : Hp} {s : Shared} {k : Nat} {f C : Addr} {fd : FuncData} {ps : List Str} {sp : Sp} {E : L2.St → XK} {Q : VK} {us : List Value} {vs : List V} {A' : Around}
/-- the run of a method in a room around -/
theorem own_run (F : FnOk X.prog X.w X.K X.mg X.base CX k f fd ps sp) (hr : Room k A') (e0 : Env0 X.prog X.w X.K X.mg X.base A' X.stack s H) (hb : Binds X.K fd ps []) (hx : PassesAt CX X σ (E σ)) (I : Inv X pins σ H s) (r : Vals vs us) (h : sp vs H Q (E σ)) :
    wpAny (model X.prog X.w) A' (call (.ref f) us) (EP X pins σ Q) X.xe s := by
  have n : us.length = ps.length := r.length ▸ F.len _ _ _ _ h
  have b := hb s us I.kIn (by simpa using n)
  rw [List.append_nil] at b
  refine wpAny_call (codeAny_mono (F.run A' X.stack s H ⟨us, []⟩ us vs Q (E σ) hr e0 b r h) ?_)
  intro z s' hz
  rcases z with e | fl
  · exact hx pins H s e s' I hz
  · cases fl with
    | ret u => exact I.after hz
    | next => exact hz.elim
    | brk => exact hz.elim
    | cont => exact hz.elim
/-- the instance that stands at a -/
theorem own_at {a dx : Addr} {fs : List (Str × V)} (I : Inv X pins σ H s) (ha : H a = some (.ins C dx fs)) : ∃ ox od, PySem.W.InstAt s.heap a ox C (some od) := by
  obtain ⟨mA, J, _⟩ := ins_get I.hok ha
  obtain ⟨od, J, _⟩ := J.look
  exact ⟨_, od, J⟩
/-- e1 ⊕ e2, at the slots -/
def tOp2 (r : (L2.St → XK) → L2.St → V → V → Hp → VK → Prop) (E : L2.St → XK) (ta tb : TE) : TE := fun σ H Q => ta σ H fun x H1 => tb σ H1 fun y H2 => r E σ x y H2 Q
/-- the method's promise, of the instance x of C and y -/
def rOwn2 (C : Addr) (sp : Sp) : (L2.St → XK) → L2.St → V → V → Hp → VK → Prop := fun E σ x y H Q => ∃ a dx fs, x = .ref a ∧ H a = some (.ins C dx fs) ∧ sp [x, y] H Q (E σ)
/-- .. and the two are of the one class, or y is of a class that C is no base of -/
def OtherT (K : PySem.W.Frag) (C : Addr) (H : Hp) (y : V) : Prop := (∃ b dy gs, y = .ref b ∧ H b = some (.ins C dy gs)) ∨ (∃ T : String, TyX K H y (.type T) ∧ PySem.W.subIn K (.type T) (.ref C) = some false)
theorem ty_looks {y : V} {u t : Value} {M : Model} (I : Inv X pins σ H s) (ry : RelV y u) (ty : TyX X.K H y t) : PySem.W.Looks M s.heap (typeOf u) t := by
  obtain ⟨P, kx, hp, _⟩ := kit_of I ry ty
  exact kx.ty M s.heap I.kIn hp
theorem other_looks {y : V} {u : Value} {M : Model} (I : Inv X pins σ H s) (ry : RelV y u) (o : OtherT X.K C H y) (one : ∀ b dy gs, y = .ref b → H b = some (.ins C dy gs) → True) : ∃ tb, PySem.W.Looks M s.heap (typeOf u) tb ∧ PySem.W.notFirst X.K C tb = true := by
  rcases o with ⟨b, dy, gs, rfl, hb⟩ | ⟨T, ty, hs⟩
  · cases ry
    obtain ⟨ox, od, J⟩ := own_at I hb
    exact ⟨.ref C, J.type, by simp [PySem.W.notFirst]⟩
  · exact ⟨.type T, ty_looks I ry ty, by simp [PySem.W.notFirst, hs]⟩
/-- what an own method of two places must be -/
structure Two (X : Cx) (CX : CXT) (k : Nat) (C : Addr) (m : Str) (sp : Sp) : Prop where
  ex : ∃ (f : Addr) (fd : FuncData) (ps : List Str), Meth X.K C m f ∧ FnOk X.prog X.w X.K X.mg X.base CX k f fd ps sp ∧ Binds X.K fd ps []
/-- x == y, x < y, .. by the own method -/
def rOwnC (K : PySem.W.Frag) (C : Addr) (sp : Sp) : (L2.St → XK) → L2.St → V → V → Hp → VK → Prop := fun E σ x y H Q => ∃ a dx fs, x = .ref a ∧ H a = some (.ins C dx fs) ∧ OtherT K C H y ∧ sp [x, y] H Q (E σ)
theorem pe_cmpOwn {op : CmpOp} {a b : Expr} {ta tb : TE} {pos : Pos} (hop : ∀ a b, compareOp op a b = richCompare op a b) (F : Two X CX k C (cmpInfo op).2.1 sp) (hr : Room k X.A) (hx : ∀ σ, PassesAt CX X σ (E σ)) (ha : PE X a ta) (hb : PE X b tb) (hm : behindInMarks op b = false) :
    PE X (.Compare a [op] [b] pos) (tOp2 (rOwnC X.K C sp) E ta tb) := by
  obtain ⟨f, fd, ps, M, F, B⟩ := F.ex
  refine ⟨fun pins s σ H Q I h => ?_⟩
  refine wpAny_Compare1 (binT ha hb I h fun v u s2 x y H2 I2 rx ry q => ?_) hm
  obtain ⟨a, dx, fs, rfl, e, o, q⟩ := q
  cases rx
  obtain ⟨ox, od, J⟩ := own_at I2 e
  obtain ⟨tb, L, nf⟩ := other_looks (M := model X.prog X.w) I2 ry o fun _ _ _ _ _ => trivial
  obtain ⟨m, hF⟩ := I2.fr
  rw [hop]
  refine PySem.W.cmp_K (op := op) hr.units0 hF I2.ok.mod.kin J L nf M.at_ M.fn ?_
  refine wpAny_mono (own_run (us := [.ref a, u]) (vs := [.ref a, y]) F hr I2.env0 B (hx σ) I2 (.cons rfl (.cons ry .nil)) q) (fun w s' z => ?_) fun _ _ z => z
  obtain ⟨z, H3, I3, rz, qz⟩ := z
  exact SlX.cmpback rz ⟨z, H3, I3, rz, qz⟩
/-- y in x by the own __contains__ -/
def rOwnIn (C : Addr) (sp : Sp) (neg : Bool) : (L2.St → XK) → L2.St → V → V → Hp → VK → Prop := fun E σ y x H Q => ∃ a dx fs, x = .ref a ∧ H a = some (.ins C dx fs) ∧ sp [x, y] H (fun z H' => ∃ c, z = .bl c ∧ Q (.bl (if neg then !c else c)) H') (E σ)
theorem pe_inOwn {a b : Expr} {ta tb : TE} {pos : Pos} (F : Two X CX k C "__contains__" sp) (hr : Room k X.A) (hx : ∀ σ, PassesAt CX X σ (E σ)) (ha : PE X a ta) (hb : PE X b tb) (hm : behindInMarks .In b = false) :
    PE X (.Compare a [.In] [b] pos) (tOp2 (rOwnIn C sp false) E ta tb) := by
  obtain ⟨f, fd, ps, M, F, B⟩ := F.ex
  refine ⟨fun pins s σ H Q I h => ?_⟩
  refine wpAny_Compare1 (binT ha hb I h fun v u s2 y x H2 I2 ry rx q => ?_) hm
  obtain ⟨a, dx, fs, rfl, e, q⟩ := q
  cases rx
  obtain ⟨ox, od, J⟩ := own_at I2 e
  obtain ⟨m, hF⟩ := I2.fr
  refine PySem.W.in_K hF I2.ok.mod.kin J M.at_ M.fn ?_
  refine wpAny_mono (own_run (us := [.ref a, v]) (vs := [.ref a, y]) F hr I2.env0 B (hx σ) I2 (.cons rfl (.cons ry .nil)) q) (fun w s' z => ?_) fun _ _ z => z
  obtain ⟨z, H3, I3, rz, c, rfl, qz⟩ := z
  cases (show w = Value.bool c from rz)
  exact wpAny_pure ⟨.bl c, H3, I3, rfl, qz⟩
/-- len(x) by the own __len__ -/
def rOwnLen (C : Addr) (sp : Sp) : (L2.St → XK) → L2.St → List V → Hp → VK → Prop := fun E σ xs H Q => ∃ a dx fs, xs = [.ref a] ∧ H a = some (.ins C dx fs) ∧ sp xs H (fun z H' => ∃ n : Nat, z = .int n ∧ n < 2 ^ 63 ∧ Q (.int n) H') (E σ)
theorem call_lenOwn {D : XK} (F : Two X CX k C "__len__" sp) (hr : Room (k + 1) X.A) (hx : Passes CX X D) : CallR X (.builtin "len") (rOwnLen C sp (fun _ => D) []) := by
  obtain ⟨f, fd, ps, M, F, B⟩ := F.ex
  intro pins s σ H xs us Q I r q
  obtain ⟨a, dx, fs, rfl, e, q⟩ := q
  cases r with
  | cons r1 r2 =>
    cases r2
    cases r1
    obtain ⟨ox, od, J⟩ := own_at I e
    obtain ⟨m, hF⟩ := I.fr
    refine PySem.W.len_K hF I.ok.mod.kin J M.at_ M.fn ?_
    refine wpAny_mono (own_run (us := [.ref a]) (vs := [.ref a]) (E := fun _ => D) F hr.in1 I.env0.in1 B (fun pins H s e s' I z => hx pins σ H s e s' I z) I (.cons rfl .nil) q) (fun w s' z => ?_) fun _ _ z => z
    obtain ⟨z, H3, I3, rz, n, rfl, hn, qz⟩ := z
    obtain ⟨t, rfl⟩ := (show ∃ t, w = Value.int n t from rz)
    refine ⟨⟨by omega, by omega⟩, ?_⟩
    exact ⟨.int n, H3, I3.tok _, ⟨_, rfl⟩, qz⟩
/-- x[y] by the own __getitem__ -/
theorem pe_ixOwn {a b : Expr} {ta tb : TE} {pos : Pos} (F : Two X CX k C "__getitem__" sp) (fi : ∀ f, PySem.W.findIn X.K (.ref C) "__getitem__" = some (some (.ref f)) → PySem.W.fnIn X.K f = true) (hr : Room (k + 1) X.A) (hx : ∀ σ, PassesAt CX X σ (E σ)) (ha : PE X a ta) (hb : PE X b tb)
    (hs : ∀ x i, subscripted b true (.ref x) i = runValue (.builtin "lifetime.subscript" ⟨[.ref x, i], []⟩)) :
    PE X (.Subscript a b pos) (tOp2 (rOwn2 C sp) E ta tb) := by
  obtain ⟨f, fd, ps, M, F, B⟩ := F.ex
  refine ⟨fun pins s σ H Q I h => ?_⟩
  refine Subscript_ (binT ha hb I h fun v u s2 x y H2 I2 rx ry q => ?_)
  obtain ⟨c, dx, fs, rfl, e, q⟩ := q
  cases rx
  obtain ⟨ox, od, J⟩ := own_at I2 e
  obtain ⟨m, hF⟩ := I2.fr
  refine PySem.W.sub_K hF I2.ok.mod.kin J M.at_ (fi f M.at_) M.fn ?_ (hs _ _)
  exact own_run (us := [.ref c, u]) (vs := [.ref c, y]) F hr.in1 I2.env0.in1 B (hx σ) I2 (.cons rfl (.cons ry .nil)) q
end
section
open PySem.W PySem.Calls
variable {prog : Program} {w : World} {A : Around} {E : Value → Shared → Prop} {s : Shared} {K : Frag} {x f C : Addr} {ox : Obj} {od : Option Obj}
/-- x ⊕ b by the own method: b is of the one class, or of a built-in one -/
theorem bin_by_own {op : Operator} {b tb : Value} {Q : Value → Shared → Prop} (X : K.In s.heap) (I : InstAt s.heap x ox C od) (hb : Looks (model prog w) s.heap (typeOf b) tb) (hc : selfFirst K C = true)
    (hs : findIn K (.ref C) (PySem.dunder op.info.2) = some (some (.ref f))) (hf : isFn K (.ref f) = true) (hr : ∃ rc, findIn K (.ref C) (dunderR op.info.2) = some rc ∧ (rc = none ∨ ∃ g : Addr, rc = some (.ref g)))
    (ht : tb = .ref C ∨ ∃ (T : String) (fo ro : Option Value), tb = .type T ∧ findIn K (.type T) (PySem.dunder op.info.2) = some fo ∧ findIn K (.type T) (dunderR op.info.2) = some ro ∧ subIn K (.type T) (.ref C) = some false)
    (h : wpAny (model prog w) A (call (.ref f) [.ref x, b]) (PySem.W.CmpBack Q) E s) : wpAny (model prog w) A (binaryOp op (.ref x) b) Q E s := by
  obtain ⟨cd, rest, hcd, hm⟩ := ksp_first hc
  obtain ⟨rc, hr, hp⟩ := hr
  rcases hi : op.info with ⟨sym, nm'⟩
  rw [hi] at hs hr ht
  dsimp only at hs hr ht
  have one := ksp_try X I hs hf h
  obtain ⟨hh, g, d, tt, os⟩ := s
  have a1 : Looks (model prog w) hh (typeOf (.ref x)) (.ref C) := I.type
  have a2 : Looks (model prog w) hh (typeOf b) tb := hb
  have a3 : Looks (model prog w) hh (fillsNumberSlot (.ref C) nm') true := fills_K X hcd hm hs
  have a6 : Looks (model prog w) hh (numberSlotInPython (.ref C) nm') true := ksp_inPy X hs hr hp
  simp only [binaryOp, hi]
  refine wpAny_holding (wpAny_bind ?_)
  unfold binaryOp1
  refine wpAny_bind (a1.at (wpAny_bind (a2.at (wpAny_bind (a3.at ?_)))))
  rcases ht with rfl | ⟨T, fo, ro, rfl, h1, h2, hsub⟩
  · simp only [beq_self_eq_true, if_true]
    ksp_lk
    refine wpAny_mono one (fun r s' hr' => ?_) fun _ _ e => e
    obtain ⟨v, rfl, hq⟩ := hr'
    ksp_lk
    exact hq
  · have a4 := ksp_fillsT (M := model prog w) X h1 h2
    have a5 : Looks (model prog w) hh (isSubtype (.type T) (.ref C)) false := looks_subIn X hsub
    have a7 : Looks (model prog w) hh (numberSlotInPython (.type T) nm') false := Looks.of_pure rfl
    have a8 : Looks (model prog w) hh (typeLookup (.type T) (dunderR nm')) ro := looks_findIn X h2
    generalize ((fo.isSome && !isSeqSlot fo) || (ro.isSome && !isSeqSlot ro)) = right at a4
    have ne : (Value.ref C == Value.type T) = false := Bool.eq_false_iff.mpr fun q => by cases beq_iff_eq.mp q
    simp only [ne, Bool.false_eq_true, if_false]
    cases right with
    | false =>
      ksp_lk
      refine wpAny_mono one (fun r s' hr' => ?_) fun _ _ e => e
      obtain ⟨v, rfl, hq⟩ := hr'
      ksp_lk
      exact hq
    | true =>
      ksp_lk
      refine wpAny_mono one (fun r s' hr' => ?_) fun _ _ e => e
      obtain ⟨v, rfl, hq⟩ := hr'
      ksp_lk
      exact hq
end
section
variable {X : Cx} {CX : CXT} {k : Nat} {C : Addr} {sp : Sp} {E : L2.St → XK}
/-- what the other one may be in x ⊕ y -/
def OtherB (K : PySem.W.Frag) (C : Addr) (H : Hp) (nm : String) (y : V) : Prop := (∃ b dy gs, y = .ref b ∧ H b = some (.ins C dy gs)) ∨
  (∃ (T : String) (fo ro : Option Value), TyX K H y (.type T) ∧ PySem.W.findIn K (.type T) (PySem.dunder nm) = some fo ∧ PySem.W.findIn K (.type T) (dunderR nm) = some ro ∧ PySem.W.subIn K (.type T) (.ref C) = some false)
def rOwnB (K : PySem.W.Frag) (C : Addr) (nm : String) (sp : Sp) : (L2.St → XK) → L2.St → V → V → Hp → VK → Prop := fun E σ x y H Q => ∃ a dx fs, x = .ref a ∧ H a = some (.ins C dx fs) ∧ OtherB K C H nm y ∧ sp [x, y] H Q (E σ)
/-- x ⊕ y by the own method -/
theorem pe_binOwn {op : Operator} {a b : Expr} {ta tb : TE} {pos : Pos} (F : Two X CX k C (PySem.dunder op.info.2) sp) (hc : PySem.W.selfFirst X.K C = true) (hrc : ∃ rc, PySem.W.findIn X.K (.ref C) (dunderR op.info.2) = some rc ∧ (rc = none ∨ ∃ g : Addr, rc = some (.ref g)))
    (hr : Room k X.A) (hx : ∀ σ, PassesAt CX X σ (E σ)) (ha : PE X a ta) (hb : PE X b tb) : PE X (.BinOp a op b pos) (tOp2 (rOwnB X.K C op.info.2 sp) E ta tb) := by
  obtain ⟨f, fd, ps, M, F, B⟩ := F.ex
  refine ⟨fun pins s σ H Q I h => ?_⟩
  refine wpAny_BinOp (binT ha hb I h fun v u s2 x y H2 I2 rx ry q => ?_)
  obtain ⟨a, dx, fs, rfl, e, o, q⟩ := q
  cases rx
  obtain ⟨ox, od, J⟩ := own_at I2 e
  have run := wpAny_mono (own_run (us := [.ref a, u]) (vs := [.ref a, y]) F hr I2.env0 B (hx σ) I2 (.cons rfl (.cons ry .nil)) q) (Q' := PySem.W.CmpBack (EP X pins σ Q)) (fun w s' z => by
    obtain ⟨z, H3, I3, rz, qz⟩ := z
    exact SlX.cmpback rz ⟨z, H3, I3, rz, qz⟩) fun _ _ z => z
  rcases o with ⟨b, dy, gs, rfl, eb⟩ | ⟨T, fo, ro, ty, h1, h2, h3⟩
  · cases ry
    obtain ⟨oy, oe, J'⟩ := own_at I2 eb
    exact bin_by_own I2.kIn J J'.type hc M.at_ M.fn hrc (.inl rfl) run
  · exact bin_by_own I2.kIn J (ty_looks I2 ry ty) hc M.at_ M.fn hrc (.inr ⟨T, fo, ro, rfl, h1, h2, h3⟩) run
/-- what raises nothing here -/
theorem passN (hx : Passes CX X E0) : ∀ σ, PassesAt CX X σ ((fun _ => E0 : L2.St → XK) σ) := fun σ pins H s e s' I c => hx pins σ H s e s' I c
end
section
open PySem.W PySem.Calls
variable {prog : Program} {w : World} {A : Around} {E : Value → Shared → Prop} {s : Shared} {K : Frag} {x f C : Addr} {ox : Obj} {od : Option Obj} {b tb : Value}
/-- what object's != does where an own == stands -/
theorem ne_body (hu : A.units < cLine) (X : K.In s.heap) (I : InstAt s.heap x ox C od) (he : findIn K (.ref C) "__eq__" = some (some (.ref f))) (hf : isFn K (.ref f) = true) {Q : Fin → Shared → Prop}
    (h : wpAny (model prog w) A (call (.ref f) [.ref x, b]) (fun v s' => ∃ c, v = .bool c ∧ Q (.done (.ret (.bool (!c)))) s') E s) : wpAny (model prog w) A (Builtin.«object.__ne__» ⟨[.ref x, b], []⟩) Q E s := by
  unfold Builtin.«object.__ne__»
  repeat (first
    | with_reducible refine wpAny_cRoomFor hu ?_
    | (refine wpAny_bind (m := callSpecialIfBound? (.ref x) (Str.ofString "__eq__") [b]) (ifBound_K X I he hf (wpAny_mono h (fun r s' hr => by
          obtain ⟨c, rfl, hq⟩ := hr
          repeat (first | exact hq | exact wpAny_pure hq | exact wpAny_truthy_bool hq | (refine wpAny_bind (m := truthy (.bool _)) (wpAny_truthy_bool ?_)) | wp_step)) fun _ _ e => e)))
    | wp_step)
/-- x != b by the own == -/
theorem ne_by_eq (hu : A.in1.units < cLine) (hu0 : A.units < cLine) (X : K.In s.heap) (I : InstAt s.heap x ox C od) (hb : Looks (model prog w) s.heap (typeOf b) tb) (hn : notFirst K C tb = true) (hm : mroIn K C (.type "object") = some true)
    (hs : findIn K (.ref C) "__ne__" = some (some (.builtin "object.__ne__"))) (he : findIn K (.ref C) "__eq__" = some (some (.ref f))) (hf : isFn K (.ref f) = true) {Q : Value → Shared → Prop}
    (h : wpAny (model prog w) A.in1 (call (.ref f) [.ref x, b]) (fun v s' => ∃ c, v = .bool c ∧ Q (.bool (!c)) s') E s) : wpAny (model prog w) A (richCompare .NotEq (.ref x) b) Q E s := by
  have inner : ∀ {R : Value → Shared → Prop}, (∀ c s', Q (.bool c) s' → R (.bool c) s') → wpAny (model prog w) A (call (.builtin "object.__ne__") [.ref x, b]) R E s := fun {R} hR =>
    wpAny_call (codeAny_call_builtin F.cmp_object.ne.plain F.cmpEntry_ne (check_slot F.cmpKind_ne F.cmpSplit_ne (I.type.andThen (looks_mroIn X hm)) (F.cmpArgs_ne _ _)
      (ne_body hu X I he hf (wpAny_mono h (fun v s' z => by
        obtain ⟨c, e, q⟩ := z
        exact ⟨c, e, hR _ _ q⟩) fun _ _ e => e))))
  have one : wpAny (model prog w) A (tryCompare (.ref x) "__ne__" b) (fun r s' => ∃ v, r = some v ∧ Q v s') E s := by
    unfold tryCompare
    simp only [callSpecialIfBound?, bindSpecialIfBound?]
    refine wpAny_bind (wpAny_holding (wpAny_bind (wpAny_bind (wpAny_bind (I.type.here ((looks_findIn X hs).here ?_))))))
    refine wpAny_bind (wpAny_askSetting (wpAny_ite ?_))
    have fin := inner (R := fun v s' => wpAny (model prog w) A (pure (some v)) (fun r s'' => wpAny (model prog w) A (match r with | some .notImplemented | none => pure none | some v => pure (some v)) (fun r s' => ∃ v, r = some v ∧ Q v s') E s'') E s') (fun c s' q => wpAny_pure (wpAny_pure ⟨_, rfl, q⟩))
    split
    · exact wpAny_bind (wpAny_of_eq (F.cmp_object.ne.bind _) (wpAny_pure (by exact wpAny_bind fin)))
    · exact wpAny_tryCatch (wpAny_bind (wpAny_of_eq (F.cmp_object.ne.bind _) (wpAny_pure (by exact wpAny_bind fin))))
  unfold richCompare
  simp only [oneThing_ref]
  refine wpAny_holding (wpAny_bind (wpAny_cRoomFor hu0 ?_))
  refine wpAny_bind (I.type.here (wpAny_bind (hb.here ?_)))
  split
  · rename_i q
    have e : subIn K tb (.ref C) = some false := by
      rcases Bool.or_eq_true_iff.mp hn with e | e
      · rw [beq_iff_eq.mp e] at q; simp at q
      · exact beq_iff_eq.mp e
    refine wpAny_bind ((looks_subIn X e).here ?_)
    simp only [Bool.false_eq_true, if_false]
    refine wpAny_bind (wpAny_mono one (fun r s' z => ?_) fun _ _ e => e)
    obtain ⟨v, rfl, hq⟩ := z
    exact wpAny_pure hq
  · refine wpAny_bind (wpAny_pure ?_)
    simp only [Bool.false_eq_true, if_false]
    refine wpAny_bind (wpAny_mono one (fun r s' z => ?_) fun _ _ e => e)
    obtain ⟨v, rfl, hq⟩ := z
    exact wpAny_pure hq
end
section
variable {X : Cx} {CX : CXT} {k : Nat} {C : Addr} {sp : Sp} {E : L2.St → XK}
/-- x != y, where the class has an == of its own and no != -/
def rOwnNe (K : PySem.W.Frag) (C : Addr) (sp : Sp) : (L2.St → XK) → L2.St → V → V → Hp → VK → Prop := fun E σ x y H Q => ∃ a dx fs, x = .ref a ∧ H a = some (.ins C dx fs) ∧ OtherT K C H y ∧ sp [x, y] H (fun z H' => ∃ c, z = .bl c ∧ Q (.bl (!c)) H') (E σ)
theorem pe_neOwn {a b : Expr} {ta tb : TE} {pos : Pos} (F : Two X CX k C "__eq__" sp) (hs : PySem.W.findIn X.K (.ref C) "__ne__" = some (some (.builtin "object.__ne__"))) (ho : PySem.W.mroIn X.K C (.type "object") = some true) (hr : Room (k + 1) X.A) (hx : ∀ σ, PassesAt CX X σ (E σ)) (ha : PE X a ta) (hb : PE X b tb) (hm : behindInMarks .NotEq b = false) :
    PE X (.Compare a [.NotEq] [b] pos) (tOp2 (rOwnNe X.K C sp) E ta tb) := by
  obtain ⟨f, fd, ps, M, F, B⟩ := F.ex
  refine ⟨fun pins s σ H Q I h => ?_⟩
  refine wpAny_Compare1 (binT ha hb I h fun v u s2 x y H2 I2 rx ry q => ?_) hm
  obtain ⟨a, dx, fs, rfl, e, o, q⟩ := q
  cases rx
  obtain ⟨ox, od, J⟩ := own_at I2 e
  obtain ⟨tb, L, nf⟩ := other_looks (M := model X.prog X.w) I2 ry o fun _ _ _ _ _ => trivial
  show wpAny _ _ (richCompare .NotEq _ _) _ _ _
  refine ne_by_eq hr.in1.units0 hr.units0 I2.kIn J L nf ho hs M.at_ M.fn ?_
  refine wpAny_mono (own_run (us := [.ref a, u]) (vs := [.ref a, y]) F hr.in1 I2.env0.in1 B (hx σ) I2 (.cons rfl (.cons ry .nil)) q) (fun w s' z => ?_) fun _ _ z => z
  obtain ⟨z, H3, I3, rz, c, rfl, qz⟩ := z
  cases (show w = Value.bool c from rz)
  exact ⟨c, rfl, .bl (!c), H3, I3, rfl, qz⟩
end
/-! readings, step by step -/
section
variable {K : PySem.W.Frag} {C a dx : Addr} {fs : List (Str × V)} {sp : Sp} {E : L2.St → XK} {σ : L2.St} {y : V} {H : Hp} {Q : VK} {nm : String}
theorem r_op2 {r : (L2.St → XK) → L2.St → V → V → Hp → VK → Prop} {ta tb : TE} (h : ta σ H fun x H1 => tb σ H1 fun y H2 => r E σ x y H2 Q) : tOp2 r E ta tb σ H Q := h
theorem r_own2 (e : H a = some (.ins C dx fs)) (h : sp [.ref a, y] H Q (E σ)) : rOwn2 C sp E σ (.ref a) y H Q := ⟨a, dx, fs, rfl, e, h⟩
theorem r_ownC (e : H a = some (.ins C dx fs)) (o : OtherT K C H y) (h : sp [.ref a, y] H Q (E σ)) : rOwnC K C sp E σ (.ref a) y H Q := ⟨a, dx, fs, rfl, e, o, h⟩
theorem r_ownB (e : H a = some (.ins C dx fs)) (o : OtherB K C H nm y) (h : sp [.ref a, y] H Q (E σ)) : rOwnB K C nm sp E σ (.ref a) y H Q := ⟨a, dx, fs, rfl, e, o, h⟩
theorem r_ownNe (e : H a = some (.ins C dx fs)) (o : OtherT K C H y) (h : sp [.ref a, y] H (fun z H' => ∃ c, z = .bl c ∧ Q (.bl (!c)) H') (E σ)) : rOwnNe K C sp E σ (.ref a) y H Q := ⟨a, dx, fs, rfl, e, o, h⟩
theorem r_ownIn (e : H a = some (.ins C dx fs)) (h : sp [.ref a, y] H (fun z H' => ∃ c, z = .bl c ∧ Q (.bl c) H') (E σ)) : rOwnIn C sp false E σ y (.ref a) H Q := ⟨a, dx, fs, rfl, e, h⟩
theorem r_ownLen (e : H a = some (.ins C dx fs)) (h : sp [.ref a] H (fun z H' => ∃ n : Nat, z = .int n ∧ n < 2 ^ 63 ∧ Q (.int n) H') (E σ)) : rOwnLen C sp E σ [.ref a] H Q := ⟨a, dx, fs, rfl, e, h⟩
end
end Pk
set_option Elab.async false
set_option linter.all false
set_option maxRecDepth 100000
set_option maxHeartbeats 200000
namespace Pk
open PySem L2 PySem.Spec PyProof.Rows
section
open PySem.W PySem.Calls
variable {prog : Program} {w : World} {A : Around} {E : Value → Shared → Prop} {s : Shared} {K : Frag} {x f C : Addr} {ox : Obj} {od : Option Obj} {i : Int} {t : Tok}
/-- int's product with an instance: declined -/
theorem mul_no {c : Value} {dd : Option Addr} {sl : Array (Option Value)} {Q : Value → Shared → Prop} (hx : s.heap.get? x = some ⟨c, dd, .plain, sl⟩) (h : Q .notImplemented s) : wpAny (model prog w) A (call (.builtin "int.__mul__") [.int i t, .ref x]) Q E s := by
  refine wpAny_call (codeAny_call_builtin F.slot_int_mul.plain F.entry_int_mul (F.slot_int_mul.check _ _ _ _ _ _ _ _ (typeIs_int s i t) (F.args_int_mul_2 _ _) ?_))
  obtain ⟨hp, g, d, tk, os⟩ := s
  unfold Builtin.«int.__mul__» Builtin.Int.intBinary
  repeat (first
    | exact h
    | with_reducible refine wpAny_load hx ?_
    | wp_step)
theorem try_mul_int {nm : Str} {c : Value} {dd : Option Addr} {sl : Array (Option Value)} {Q : Option Value → Shared → Prop} (L : Slot "int" nm "int.__mul__") (hx : s.heap.get? x = some ⟨c, dd, .plain, sl⟩) (h : Q none s) : wpAny (model prog w) A (tryMethod (.int i t) nm (.ref x)) Q E s :=
  wpAny_tryMethod_declines (typeIs_int s i t) L (mul_no hx ⟨rfl, h⟩)
/-- a ⊕ x by x's own reflected method, a of a built-in class that has none of its own, or declines -/
theorem bin_back {op : Operator} {a : Value} {T : String} {lb : Bool} {g0 : Addr} {Q : Value → Shared → Prop} (X : K.In s.heap) (I : InstAt s.heap x ox C od) (hta : typeOf a = pure (.type T)) (hl : fillsNumberSlot (.type T) op.info.2 = pure lb) (hc : selfFirst K C = true)
    (hs : findIn K (.ref C) (PySem.dunder op.info.2) = some (some (.ref g0))) (hr : findIn K (.ref C) (dunderR op.info.2) = some (some (.ref f))) (hf : isFn K (.ref f) = true) (hsub : subIn K (.ref C) (.type T) = some false)
    (no : lb = true → ∀ {R : Option Value → Shared → Prop}, R none s → wpAny (model prog w) A (tryMethod a (PySem.dunder op.info.2) (.ref x)) R E s)
    (h : wpAny (model prog w) A (call (.ref f) [.ref x, a]) (PySem.W.CmpBack Q) E s) : wpAny (model prog w) A (binaryOp op a (.ref x)) Q E s := by
  obtain ⟨cd, rest, hcd, hm⟩ := ksp_first hc
  rcases hi : op.info with ⟨sym, nm'⟩
  rw [hi] at hs hr hl no
  dsimp only at hs hr hl no
  have one := ksp_try X I hr hf h
  obtain ⟨hh, g, d, tt, os⟩ := s
  have a1 : Looks (model prog w) hh (typeOf (.ref x)) (.ref C) := I.type
  have a2 : Looks (model prog w) hh (typeOf a) (.type T) := Looks.of_pure hta
  have a3 : Looks (model prog w) hh (fillsNumberSlot (.ref C) nm') true := fills_K X hcd hm hs
  have a4 : Looks (model prog w) hh (fillsNumberSlot (.type T) nm') lb := Looks.of_pure hl
  have a5 : Looks (model prog w) hh (isSubtype (.ref C) (.type T)) false := looks_subIn X hsub
  have a7 : Looks (model prog w) hh (numberSlotInPython (.type T) nm') false := Looks.of_pure rfl
  have ne : (Value.type T == Value.ref C) = false := Bool.eq_false_iff.mpr fun q => by cases beq_iff_eq.mp q
  simp only [binaryOp, hi]
  refine wpAny_holding (wpAny_bind ?_)
  unfold binaryOp1
  refine wpAny_bind (a2.at (wpAny_bind (a1.at (wpAny_bind (a4.at ?_)))))
  simp only [ne, Bool.false_eq_true, if_false]
  cases lb with
  | false =>
    ksp_lk
    refine wpAny_mono one (fun r s' hr' => ?_) fun _ _ e => e
    obtain ⟨v, rfl, hq⟩ := hr'
    ksp_lk
    exact hq
  | true =>
    ksp_lk
    refine no rfl ?_
    ksp_lk
    refine wpAny_mono one (fun r s' hr' => ?_) fun _ _ e => e
    obtain ⟨v, rfl, hq⟩ := hr'
    ksp_lk
    exact hq
end
theorem slot_mul_lit : Slot "int" ("__mul__" : Str) "int.__mul__" := by
  have e : PySem.dunder "mul" = ("__mul__" : Str) := by decide +kernel
  rw [← e]
  exact PySem.F.slot_int_mul
section
variable {X : Cx} {CX : CXT} {k : Nat} {C g0 : Addr} {sp : Sp} {E : L2.St → XK}
/-- i * x by the own __rmul__, i an int -/
def rMulBack (C : Addr) (sp : Sp) : (L2.St → XK) → L2.St → V → V → Hp → VK → Prop := fun E σ y x H Q => ∃ a dx fs i, x = .ref a ∧ y = .int i ∧ H a = some (.ins C dx fs) ∧ sp [x, y] H Q (E σ)
theorem pe_mulBack {op : Operator} {a b : Expr} {ta tb : TE} {pos : Pos} (hop : op = .Mult) (F : Two X CX k C "__rmul__" sp) (hc : PySem.W.selfFirst X.K C = true) (hs : PySem.W.findIn X.K (.ref C) "__mul__" = some (some (.ref g0))) (hsub : PySem.W.subIn X.K (.ref C) (.type "int") = some false)
    (hr : Room k X.A) (hx : ∀ σ, PassesAt CX X σ (E σ)) (ha : PE X a ta) (hb : PE X b tb) : PE X (.BinOp a op b pos) (tOp2 (rMulBack C sp) E ta tb) := by
  obtain ⟨f, fd, ps, M, F, B⟩ := F.ex
  refine ⟨fun pins s σ H Q I h => ?_⟩
  refine wpAny_BinOp (binT ha hb I h fun v u s2 y x H2 I2 ry rx q => ?_)
  obtain ⟨a, dx, fs, i, rfl, rfl, e, q⟩ := q
  cases rx
  obtain ⟨t, rfl⟩ := (show ∃ t, v = Value.int i t from ry)
  obtain ⟨mA, J0, _⟩ := ins_get I2.hok e
  obtain ⟨od, J, _⟩ := J0.look
  have run := wpAny_mono (own_run (us := [.ref a, .int i t]) (vs := [.ref a, .int i]) F hr I2.env0 B (hx σ) I2 (.cons rfl (.cons ⟨t, rfl⟩ .nil)) q) (Q' := PySem.W.CmpBack (EP X pins σ Q)) (fun w s' z => by
    obtain ⟨z, H3, I3, rz, qz⟩ := z
    exact SlX.cmpback rz ⟨z, H3, I3, rz, qz⟩) fun _ _ z => z
  have e0 : op.info.2 = "mul" := by rw [hop]; rfl
  have e1 : PySem.dunder op.info.2 = ("__mul__" : Str) := by rw [e0]; decide +kernel
  have e2 : dunderR op.info.2 = ("__rmul__" : Str) := by rw [e0]; decide +kernel
  have k1 : PySem.W.findIn X.K (.ref C) (PySem.dunder op.info.2) = some (some (.ref g0)) := by rw [e1]; exact hs
  have k2 : PySem.W.findIn X.K (.ref C) (dunderR op.info.2) = some (some (.ref f)) := by rw [e2]; exact M.at_
  have k3 : fillsNumberSlot (.type "int") op.info.2 = pure true := by rw [e0]; exact PySem.F.fills_int_mul
  have k5 : Slot "int" (PySem.dunder op.info.2) "int.__mul__" := by rw [e1]; exact slot_mul_lit
  have kT : typeOf (.int i t) = pure (.type "int") := rfl
  exact bin_back I2.kIn J kT k3 hc k1 k2 M.fn hsub (fun _ {R} hR => try_mul_int k5 J0.obj hR) run
theorem r_mulBack {σ : L2.St} {H : Hp} {Q : VK} {a dx : Addr} {fs : List (Str × V)} {i : Int} (e : H a = some (.ins C dx fs)) (h : sp [.ref a, .int i] H Q (E σ)) : rMulBack C sp E σ (.int i) (.ref a) H Q := ⟨a, dx, fs, i, rfl, rfl, e, h⟩
end
section
open PySem.W PySem.Calls
variable {prog : Program} {w : World} {A : Around} {E : Value → Shared → Prop} {s : Shared} {x : Addr} {b : Bool}
/-- a bool's product with an instance: declined -/
theorem mul_noB {c : Value} {dd : Option Addr} {sl : Array (Option Value)} {Q : Value → Shared → Prop} (hx : s.heap.get? x = some ⟨c, dd, .plain, sl⟩) (h : Q .notImplemented s) : wpAny (model prog w) A (call (.builtin "int.__mul__") [.bool b, .ref x]) Q E s := by
  refine wpAny_call (codeAny_call_builtin PySem.F.slot_int_mul.plain PySem.F.entry_int_mul (PySem.F.slot_bool_mul.check _ _ _ _ _ _ _ _ (PySem.typeIs_bool s b) (PySem.F.args_int_mul_2 _ _) ?_))
  obtain ⟨hp, g, d, tk, os⟩ := s
  unfold Builtin.«int.__mul__» Builtin.Int.intBinary
  repeat (first
    | exact h
    | with_reducible refine wpAny_load hx ?_
    | wp_step)
theorem try_mul_bool {nm : Str} {c : Value} {dd : Option Addr} {sl : Array (Option Value)} {Q : Option Value → Shared → Prop} (L : Slot "bool" nm "int.__mul__") (hx : s.heap.get? x = some ⟨c, dd, .plain, sl⟩) (h : Q none s) : wpAny (model prog w) A (tryMethod (.bool b) nm (.ref x)) Q E s :=
  wpAny_tryMethod_declines (PySem.typeIs_bool s b) L (mul_noB hx ⟨rfl, h⟩)
theorem slot_mul_litB : Slot "bool" ("__mul__" : Str) "int.__mul__" := by
  have e : PySem.dunder "mul" = ("__mul__" : Str) := by decide +kernel
  rw [← e]
  exact PySem.F.slot_bool_mul
end
section
variable {X : Cx} {CX : CXT} {k : Nat} {C g0 : Addr} {sp : Sp} {E : L2.St → XK}
/-- y * x by the own __rmul__, y a number, a truth, a text or none -/
def Plain1 (y : V) : Prop := (∃ i, y = .int i) ∨ (∃ b, y = .bl b) ∨ (∃ z, y = .str z) ∨ y = .non
def rMulAny (C : Addr) (sp : Sp) : (L2.St → XK) → L2.St → V → V → Hp → VK → Prop := fun E σ y x H Q => ∃ a dx fs, x = .ref a ∧ Plain1 y ∧ H a = some (.ins C dx fs) ∧ sp [x, y] H Q (E σ)
theorem none_mul : fillsNumberSlot (.type "NoneType") "mul" = pure false := by
  unfold fillsNumberSlot
  have a : typeLookup (.type "NoneType") (PySem.dunder "mul") = pure none := by rw [typeLookup_type, builtinLookup_eq_fast]; kernel_rfl
  have b : typeLookup (.type "NoneType") (dunderR "mul") = pure none := by rw [typeLookup_type, builtinLookup_eq_fast]; kernel_rfl
  simp only [a, b, pure_bind]
  rfl
theorem pe_mulAny {op : Operator} {a b : Expr} {ta tb : TE} {pos : Pos} (hop : op = .Mult) (F : Two X CX k C "__rmul__" sp) (hc : PySem.W.selfFirst X.K C = true) (hs : PySem.W.findIn X.K (.ref C) "__mul__" = some (some (.ref g0)))
    (hi : PySem.W.subIn X.K (.ref C) (.type "int") = some false) (hbo : PySem.W.subIn X.K (.ref C) (.type "bool") = some false) (hst : PySem.W.subIn X.K (.ref C) (.type "str") = some false) (hno : PySem.W.subIn X.K (.ref C) (.type "NoneType") = some false)
    (hr : Room k X.A) (hx : ∀ σ, PassesAt CX X σ (E σ)) (ha : PE X a ta) (hb : PE X b tb) : PE X (.BinOp a op b pos) (tOp2 (rMulAny C sp) E ta tb) := by
  obtain ⟨f, fd, ps, M, F, B⟩ := F.ex
  refine ⟨fun pins s σ H Q I h => ?_⟩
  refine wpAny_BinOp (binT ha hb I h fun v u s2 y x H2 I2 ry rx q => ?_)
  obtain ⟨a, dx, fs, rfl, py, e, q⟩ := q
  cases rx
  obtain ⟨mA, J0, _⟩ := ins_get I2.hok e
  obtain ⟨od, J, _⟩ := J0.look
  have run := wpAny_mono (own_run (us := [.ref a, v]) (vs := [.ref a, y]) F hr I2.env0 B (hx σ) I2 (.cons rfl (.cons ry .nil)) q) (Q' := PySem.W.CmpBack (EP X pins σ Q)) (fun w s' z => by
    obtain ⟨z, H3, I3, rz, qz⟩ := z
    exact SlX.cmpback rz ⟨z, H3, I3, rz, qz⟩) fun _ _ z => z
  have e0 : op.info.2 = "mul" := by rw [hop]; rfl
  have e1 : PySem.dunder op.info.2 = ("__mul__" : Str) := by rw [e0]; decide +kernel
  have e2 : dunderR op.info.2 = ("__rmul__" : Str) := by rw [e0]; decide +kernel
  have k1 : PySem.W.findIn X.K (.ref C) (PySem.dunder op.info.2) = some (some (.ref g0)) := by rw [e1]; exact hs
  have k2 : PySem.W.findIn X.K (.ref C) (dunderR op.info.2) = some (some (.ref f)) := by rw [e2]; exact M.at_
  rcases py with ⟨i, rfl⟩ | ⟨i, rfl⟩ | ⟨i, rfl⟩ | rfl
  · obtain ⟨t, rfl⟩ := (show ∃ t, v = Value.int i t from ry)
    have k3 : fillsNumberSlot (.type "int") op.info.2 = pure true := by rw [e0]; exact PySem.F.fills_int_mul
    have k5 : Slot "int" (PySem.dunder op.info.2) "int.__mul__" := by rw [e1]; exact slot_mul_lit
    have kT : typeOf (.int i t) = pure (.type "int") := rfl
    exact bin_back I2.kIn J kT k3 hc k1 k2 M.fn hi (fun _ {R} hR => try_mul_int k5 J0.obj hR) run
  · cases (show v = Value.bool i from ry)
    have k3 : fillsNumberSlot (.type "bool") op.info.2 = pure true := by rw [e0]; exact PySem.F.fills_bool_mul
    have k5 : Slot "bool" (PySem.dunder op.info.2) "int.__mul__" := by rw [e1]; exact slot_mul_litB
    have kT : typeOf (.bool i) = pure (.type "bool") := rfl
    exact bin_back I2.kIn J kT k3 hc k1 k2 M.fn hbo (fun _ {R} hR => try_mul_bool k5 J0.obj hR) run
  · obtain ⟨t, rfl⟩ := (show ∃ t, v = Value.str i t from ry)
    have k3 : fillsNumberSlot (.type "str") op.info.2 = pure false := by rw [e0]; exact noFill_str_mul
    have kT : typeOf (.str i t) = pure (.type "str") := rfl
    exact bin_back I2.kIn J kT k3 hc k1 k2 M.fn hst (fun z => Bool.noConfusion z) run
  · cases (show v = Value.none from ry)
    have k3 : fillsNumberSlot (.type "NoneType") op.info.2 = pure false := by rw [e0]; exact none_mul
    have kT : typeOf .none = pure (.type "NoneType") := rfl
    exact bin_back I2.kIn J kT k3 hc k1 k2 M.fn hno (fun z => Bool.noConfusion z) run
theorem r_mulAny {σ : L2.St} {H : Hp} {Q : VK} {a dx : Addr} {fs : List (Str × V)} {y : V} (e : H a = some (.ins C dx fs)) (py : Plain1 y) (h : sp [.ref a, y] H Q (E σ)) : rMulAny C sp E σ y (.ref a) H Q := ⟨a, dx, fs, rfl, py, e, h⟩
end
end Pk
set_option Elab.async false
set_option linter.all false
set_option maxRecDepth 100000
set_option maxHeartbeats 1000000
namespace Pk
open PySem L2
section
variable {K : PySem.W.Frag} {σ : L2.St} {H : Hp} {Q : VK} {D : Ends} {a C dx : Addr} {fs : List (Str × V)} {f g : Str} {v u : V} {i : Nat} {ta tv : TE}
/-- an attribute is read -/
theorem r_fldU (h : ta σ H fun x H1 => ∃ a C dx fs v, x = .ref a ∧ H1 a = some (.ins C dx fs) ∧ Cls K C ∧ NoAttr K C f ∧ fs.lookup f = some v ∧ Q v H1) : tFld K ta f σ H Q := h
theorem r_fld0 (o : H a = some (.ins C dx fs)) (c : Cls K C) (n : NoAttr K C f) (l : fs.lookup f = some v) (h : Q v H) : ∃ b C dx fs v, V.ref a = .ref b ∧ H b = some (.ins C dx fs) ∧ Cls K C ∧ NoAttr K C f ∧ fs.lookup f = some v ∧ Q v H := ⟨a, C, dx, fs, v, rfl, o, c, n, l, h⟩
theorem r_fldV (e : σ[i]? = some (some (.ref a))) (o : H a = some (.ins C dx fs)) (c : Cls K C) (n : NoAttr K C f) (l : fs.lookup f = some v) (h : Q v H) : tFld K (tVar i) f σ H Q := ⟨.ref a, e, a, C, dx, fs, v, rfl, o, c, n, l, h⟩
/-- .. is set -/
theorem r_sFldU (h : tv σ H fun y H1 => ta σ H1 fun x H2 => ∃ a C dx fs, x = .ref a ∧ H2 a = some (.ins C dx fs) ∧ Cls K C ∧ NoAttr K C f ∧ fs.length < 1000 ∧ D.nx σ (upd H2 a (.ins C dx (putF f y fs)))) : sFld K ta tv f D σ H := h
theorem r_sFld0 {P : Hp → Prop} {y : V} (o : H a = some (.ins C dx fs)) (c : Cls K C) (n : NoAttr K C f) (l : fs.length < 1000) (h : P (upd H a (.ins C dx (putF f y fs)))) :
    ∃ b C dx fs, V.ref a = .ref b ∧ H b = some (.ins C dx fs) ∧ Cls K C ∧ NoAttr K C f ∧ fs.length < 1000 ∧ P (upd H b (.ins C dx (putF f y fs))) := ⟨a, C, dx, fs, rfl, o, c, n, l, h⟩
/-- a method of an own class is called -/
theorem r_methU {m : Str} {sp : Sp} {dvs : List V} {E : XK} {t : TA} (h : ta σ H fun x H1 => ∃ a dx fs, x = .ref a ∧ H1 a = some (.ins C dx fs) ∧ fs.lookup m = none ∧ t σ H1 fun vs H2 => sp (x :: (vs ++ dvs)) H2 Q E) : tMeth C m sp dvs E ta t σ H Q := h
/-- a < b < c -/
theorem r_chain {r r' : R2} {tc : TE} (h : ta σ H fun x H1 => tv σ H1 fun y H2 => r x y H2 fun z H3 => ∃ k, z = .bl k ∧ (if k = true then tc σ H3 fun w H4 => r' y w H4 Q else Q (.bl false) H3)) : tChain r r' ta tv tc σ H Q := h
theorem ifT {c : Bool} {A B : Prop} (hc : c = true) (h : A) : if c = true then A else B := by rw [if_pos hc]; exact h
theorem ifF {c : Bool} {A B : Prop} (hc : c = false) (h : B) : if c = true then A else B := by rw [hc, if_neg Bool.false_ne_true]; exact h
/-- enumerate(list) in a for -/
theorem r_enum {ta : TA} {R : It → Hp → Prop} (h : ta σ H fun vs H1 => ∃ a xs, vs = [.ref a] ∧ SqL K H1 a xs ∧ R (Ite K a) H1) : iEnum K ta σ H R := h
theorem r_zip {ta : TA} {R : It → Hp → Prop} (h : ta σ H fun vs H1 => ∃ a b xs ys, vs = [.ref a, .ref b] ∧ SqL K H1 a xs ∧ SqL K H1 b ys ∧ R (Itz K a b) H1) : iZip K ta σ H R := h
theorem r_gtup {n : Nat} {t : TGs} {R : L2.St → Hp → Prop} (h : ∃ a xs, v = .ref a ∧ SqT K H a xs ∧ xs.length = n ∧ t xs σ H R) : gTup K n t v σ H R := h
theorem int_at {ms : List Int} {i : Nat} {y : V} (h : (ms.map V.int)[i]? = some y) : ∃ m, m ∈ ms ∧ y = .int m := by
  rw [List.getElem?_map] at h
  cases e : ms[i]? with
  | none => rw [e] at h; cases h
  | some m => rw [e] at h; exact ⟨m, List.mem_of_getElem? e, (Option.some.inj h).symm⟩
theorem int_get {ms : List Int} {i : Nat} {y : V} (h : (ms.map V.int)[i]? = some y) : y = .int (ms.getD i 0) := by
  rw [List.getElem?_map] at h
  cases e : ms[i]? with
  | none => rw [e] at h; cases h
  | some m => rw [e] at h; rw [List.getD_eq_getElem?_getD, e]; exact (Option.some.inj h).symm
/-- two attributes -/
theorem two_put (hfg : (f == g) = false) (e : ¬ f = g) : putF g u (putF f v []) = [(f, v), (g, u)] := by
  show putF g u [(f, v)] = _
  rw [show putF g u [(f, v)] = (f, v) :: putF g u [] from if_neg e]
  rfl
theorem two_fst : List.lookup f [(f, v), (g, u)] = some v := by simp [List.lookup]
theorem two_snd (hfg : (g == f) = false) : List.lookup g [(f, v), (g, u)] = some u := by simp [List.lookup, hfg]
theorem two_no {m : Str} (h1 : (m == f) = false) (h2 : (m == g) = false) : List.lookup m [(f, v), (g, u)] = none := by simp [List.lookup, h1, h2]
theorem ite_and {c d : Bool} {A B : Prop} (h : if (c && d) = true then A else B) : if c = true then (if d = true then A else B) else B := by
  cases c <;> cases d <;> simpa using h
end
/-- what isinstance asks of an own class -/
structure OwnC (K : PySem.W.Frag) (C : Addr) : Prop where
  cl : Cls K C
  ha : PySem.W.findIn K (.ref C) "__class__" = some (some (.builtin "object.__class__"))
  hn : PySem.W.specialIn K (.builtin "object.__class__") "__get__" = some (some (.builtin "getset_descriptor.__get__"))
  htk : PySem.W.takesIn K (.builtin "object.__class__") = some true
  hm : PySem.W.mroIn K C (.type "object") = some true
  isC : PySem.W.isClsIn K C = true
  ty : PySem.W.typeIn K (.ref C) = some (.type "type")
  sub : ∀ T : String, T ∈ (["NoneType", "int", "bool", "str", "list", "tuple", "dict"] : List String) → PySem.W.subIn K (.type T) (.ref C) = some false
theorem OwnC.of {K : PySem.W.Frag} {C : Addr} (pg : PySem.W.plainGet K C Str.empty = true) (hd : PySem.W.hasDictIn K C = true) (po : PySem.W.plainOver K C = true) (sa : PySem.W.findIn K (.ref C) "__setattr__" = some (some (.builtin "object.__setattr__")))
    (ha : PySem.W.findIn K (.ref C) "__class__" = some (some (.builtin "object.__class__"))) (hn : PySem.W.specialIn K (.builtin "object.__class__") "__get__" = some (some (.builtin "getset_descriptor.__get__"))) (htk : PySem.W.takesIn K (.builtin "object.__class__") = some true)
    (hm : PySem.W.mroIn K C (.type "object") = some true) (isC : PySem.W.isClsIn K C = true) (ty : PySem.W.typeIn K (.ref C) = some (.type "type")) (s1 : PySem.W.subIn K (.type "NoneType") (.ref C) = some false) (s2 : PySem.W.subIn K (.type "int") (.ref C) = some false)
    (s3 : PySem.W.subIn K (.type "bool") (.ref C) = some false) (s4 : PySem.W.subIn K (.type "str") (.ref C) = some false) (s5 : PySem.W.subIn K (.type "list") (.ref C) = some false) (s6 : PySem.W.subIn K (.type "tuple") (.ref C) = some false) (s7 : PySem.W.subIn K (.type "dict") (.ref C) = some false) : OwnC K C :=
  ⟨⟨pg, hd, po, sa⟩, ha, hn, htk, hm, isC, ty, fun T h => by
    simp only [List.mem_cons, List.not_mem_nil, or_false] at h
    rcases h with rfl | rfl | rfl | rfl | rfl | rfl | rfl
    · exact s1
    · exact s2
    · exact s3
    · exact s4
    · exact s5
    · exact s6
    · exact s7⟩
section
variable {K : PySem.W.Frag} {C a dx : Addr} {fs : List (Str × V)} {H : Hp} {Q : VK} {x : V} {T : String}
theorem OwnC.tyx (c : OwnC K C) (e : H a = some (.ins C dx fs)) : TyX K H (.ref a) (.ref C) := .base (.ins e c.cl c.ha c.hn c.htk c.hm)
/-- isinstance(x, the own class) -/
theorem r_isiSelf (c : OwnC K C) (e : H a = some (.ins C dx fs)) (h : Q (.bl true) H) : rIsi K [.ref a, .ref C] H Q :=
  ⟨.ref a, .ref C, _, _, true, rfl, .own C, c.tyx e, by unfold PySem.W.kitOne; rw [if_pos (by simp)], h⟩
theorem OwnC.kit (c : OwnC K C) (h : T ∈ (["NoneType", "int", "bool", "str", "list", "tuple", "dict"] : List String)) : PySem.W.kitOne K (.type T) (.ref C) = some false := by
  unfold PySem.W.kitOne PySem.W.kitCls
  have h1 : (PySem.W.clsIn K C).isSome = true := c.isC
  simp only [h1, c.ty, c.sub T h]
  rfl
theorem r_isiNo (c : OwnC K C) (t : TyX K H x (.type T)) (m : T ∈ (["NoneType", "int", "bool", "str", "list", "tuple", "dict"] : List String)) (h : Q (.bl false) H) : rIsi K [x, .ref C] H Q :=
  ⟨x, .ref C, _, _, false, rfl, .own C, t, c.kit m, h⟩
end
/-! ### lists of ints are compared -/
section
variable {K : PySem.W.Frag} {H : Hp} {Q : VK} {a b : Addr} {ms ns : List Int}
theorem ints_all (ns : List Int) : DpAll K H (ns.map V.int) (ns.map PyData.int) := by
  induction ns with
  | nil => exact .nil
  | cons n r ih => exact .cons (.int n) ih
theorem Dp.ints (h : SqL K H a (ns.map V.int)) : Dp K H (.ref a) (.list (ns.map PyData.int)) := .lst h (ints_all ns)
theorem eqv_ints : PyData.eqv (.list (ms.map PyData.int)) (.list (ns.map PyData.int)) = decide (ms = ns) := by
  have h := PySem.W.eqvAll_map ms ns
  rw [PyData.eqv]
  exact h
theorem r_eqL (h1 : SqL K H a (ms.map V.int)) (h2 : SqL K H b (ns.map V.int)) (h : Q (.bl (decide (ms = ns))) H) : rEqD K (.ref a) (.ref b) H Q :=
  ⟨_, _, Dp.ints h1, Dp.ints h2, PySem.W.ke_shaped_ints ms, PySem.W.ke_shaped_ints ns, by rw [eqv_ints]; exact h⟩
theorem r_neL (h1 : SqL K H a (ms.map V.int)) (h2 : SqL K H b (ns.map V.int)) (h : Q (.bl (!decide (ms = ns))) H) : rNeD K (.ref a) (.ref b) H Q :=
  ⟨_, _, Dp.ints h1, Dp.ints h2, PySem.W.ke_shaped_ints ms, PySem.W.ke_shaped_ints ns, by rw [eqv_ints]; exact h⟩
end
/-! ### a comprehension: the list at D, by its turns -/
def Out (H1 : Hp) (D : Addr) (out : Nat → V) (i : Nat) (H' : Hp) : Prop := Same H1 H' ∧ H' D = some (.lst ((List.range i).map out))
theorem Out.start {H1 : Hp} {D : Addr} {out : Nat → V} (hD : H1 D = none) : Out H1 D out 0 (upd H1 D (.lst [])) := ⟨Same.up (Same.refl H1) hD, upd_same⟩
theorem Out.more {H1 H H4 : Hp} {D : Addr} {out : Nat → V} {i : Nat} (hD : H1 D = none) (o : Out H1 D out i H) (s : Same H H4) (hi : i < sizeLine) :
    ∃ acc, H4 D = some (.lst acc) ∧ acc.length < sizeLine ∧ Out H1 D out (i + 1) (upd H4 D (.lst (acc ++ [out i]))) := by
  refine ⟨_, s _ _ o.2, by simpa using hi, fun c u e => ?_, ?_⟩
  · have n : c ≠ D := fun z => by rw [z, hD] at e; cases e
    rw [upd_ne n]
    exact s _ _ (o.1 _ _ e)
  · rw [upd_same, List.range_succ, List.map_append]
    rfl
/-! ### x ⊕ y by the own method, the other one no number of ours -/
structure BinC (K : PySem.W.Frag) (C : Addr) (nm : String) (Ts : List String) : Prop where
  sf : PySem.W.selfFirst K C = true
  rc : ∃ rc, PySem.W.findIn K (.ref C) (PySem.dunderR nm) = some rc ∧ (rc = none ∨ ∃ g : Addr, rc = some (.ref g))
  oth : ∀ T : String, T ∈ Ts → ∃ fo ro : Option Value, PySem.W.findIn K (.type T) (PySem.dunder nm) = some fo ∧ PySem.W.findIn K (.type T) (PySem.dunderR nm) = some ro
theorem BinC.other {K : PySem.W.Frag} {C : Addr} {nm T : String} {Ts : List String} {H : Hp} {y : V} (b : BinC K C nm Ts) (O : OwnC K C) (t : TyX K H y (.type T)) (m : T ∈ Ts) (m2 : T ∈ (["NoneType", "int", "bool", "str", "list", "tuple", "dict"] : List String)) : OtherB K C H nm y := by
  obtain ⟨fo, ro, h1, h2⟩ := b.oth T m
  exact .inr ⟨T, fo, ro, t, h1, h2, O.sub T m2⟩
theorem Plain1.ty {K : PySem.W.Frag} {H : Hp} {y : V} (h : Plain1 y) : ∃ T : String, TyX K H y (.type T) ∧ T ∈ (["NoneType", "int", "bool", "str"] : List String) := by
  rcases h with ⟨i, rfl⟩ | ⟨b, rfl⟩ | ⟨z, rfl⟩ | rfl
  · exact ⟨"int", .base (.int i), by simp⟩
  · exact ⟨"bool", .base (.bl b), by simp⟩
  · exact ⟨"str", .base (.str z), by simp⟩
  · exact ⟨"NoneType", .base .non, by simp⟩
end Pk
set_option Elab.async false
set_option linter.all false
set_option maxRecDepth 100000
set_option maxHeartbeats 2000000
/-! What the top holds, read off the heap by a Hook: facts in place of a heap written out. -/
namespace Pk
open PySem L2 PySem.Spec PyProof.Rows PySem.W
/-! ### function objects -/
abbrev FnP : Type := Option (Str × Str × Arguments × FuncBody × Scope × Addr × List Str × Value × Addr)
def fnP (K : PySem.W.Frag) (p : Str × Option Str) : FnP := match K.lookup (He.fAd K p) with
  | some ⟨_, _, .func fd, _⟩ => some (fd.name, fd.qualname, fd.params, fd.body, fd.scope, fd.globals, fd.closure.map (·.1), fd.defaults, fd.builtins)
  | _ => none
structure FdP where
  at_ : Str × Option Str
  name : Str
  qual : Str
  st : Stmt
  cl : List Str
def FdP.val (d : FdP) : FnP := some (d.name, d.qual, defArgs d.st, .stmts (defBody d.st), defScope d.st, mainGlobals, d.cl, .none, builtinsNs)
def codeP (K : PySem.W.Frag) (p : Str × Option Str) (q : Str) : Bool := match K.lookup (He.fAd K p) with
  | some ⟨_, _, .func fd, _⟩ => PySem.W.codeIn K fd.code q
  | _ => false
theorem fnP_ok {K : PySem.W.Frag} {p : Str × Option Str} {nm q : Str} {st : Stmt} (e : fnP K p = FdP.val ⟨p, nm, q, st, []⟩) (c : codeP K p q = true) :
    ∃ oc od osl kV doc pm an cdv ct, K.lookup (He.fAd K p) = some ⟨oc, od, .func (PySem.W.fnOf nm q (defArgs st) (defBody st) (defScope st) .none kV doc pm an cdv ct), osl⟩ ∧ PySem.W.codeIn K cdv q = true := by
  unfold fnP FdP.val at e
  unfold codeP at c
  cases h : K.lookup (He.fAd K p) with
  | none =>
    rw [h] at c
    cases c
  | some o =>
    obtain ⟨oc, od, dt, osl⟩ := o
    rw [h] at c e
    cases dt with
    | func fd =>
      obtain ⟨n1, n2, n3, n4, n5, n6, n7, n8, n9, n10, n11, n12, n13, n14, n15⟩ := fd
      have e2 : (some (n1, n2, n3, n4, n5, n6, n7.map (·.1), n8, n15) : FnP) = some (nm, q, defArgs st, .stmts (defBody st), defScope st, mainGlobals, [], .none, builtinsNs) := e
      simp only [Option.some.injEq, Prod.mk.injEq, List.map_eq_nil_iff] at e2
      obtain ⟨h1, h2, h3, h4, h5, h6, h7, h8, h9⟩ := e2
      subst h1 h2 h3 h4 h5 h6 h7 h8 h9
      exact ⟨oc, od, osl, n9, n10, n11, n12, n13, n14, rfl, c⟩
    | _ => cases c
/-! ### the Hook -/
def asP (g : Addr → Option Obj) : Nat → List Addr
  | 0 => [mainGlobals, cStatics]
  | n + 1 => He.growD g (asP g n)
def obsP (fn : List FdP) (ex : PySem.W.Frag → Bool) (K : PySem.W.Frag) : Bool × List FnP := (ex K, fn.map fun d => fnP K d.at_)
def valP (fn : List FdP) : Bool × List FnP := (true, fn.map FdP.val)
def obsPG (n : Nat) (fn : List FdP) (ex : PySem.W.Frag → Bool) (g : Addr → Option Obj) : Bool × List FnP := obsP fn ex (He.frG g (asP g n))
def hookP (n : Nat) (fn : List FdP) (ex : PySem.W.Frag → Bool) : PySem.W.Hook where
  α := Bool × List FnP
  obs := fun s => obsPG n fn ex s.heap.get?
  val := fun _ => valP fn
  says := fun _ h => ∃ K : PySem.W.Frag, K.In h ∧ obsP fn ex K = valP fn
  of := fun _ _ e => ⟨_, He.frG_in, e⟩
  keeps := fun _ _ _ ⟨K, hK, c⟩ k => ⟨K, PySem.W.Frag.In.keeps hK k, c⟩
theorem obsPG_eq {n : Nat} {fn : List FdP} {ex : PySem.W.Frag → Bool} {g : Addr → Option Obj} {s : Shared} (h : ∀ a, g a = s.heap.get? a) : obsPG n fn ex g = (hookP n fn ex).obs s := by
  have e : g = s.heap.get? := funext h
  rw [e] <;> rfl
section
variable {fn : List FdP} {ex : PySem.W.Frag → Bool} {K : PySem.W.Frag}
theorem saysP_ex (c : obsP fn ex K = valP fn) : ex K = true := congrArg (fun z => z.1) c
theorem saysP_fn (c : obsP fn ex K = valP fn) (i : Nat) {d : FdP} (h : fn[i]? = some d) : fnP K d.at_ = d.val := by
  have e : fn.map (fun d => fnP K d.at_) = fn.map FdP.val := congrArg (fun z : Bool × List FnP => z.2) c
  have e2 : (fn.map fun d => fnP K d.at_)[i]? = (fn.map FdP.val)[i]? := by rw [e]
  rw [List.getElem?_map, List.getElem?_map, h] at e2
  exact Option.some.inj e2
end
/-! ### checks -/
def eqB (a b : Option (Option Value)) : Bool := decide (a = b)
def chG (x : Str) (K : PySem.W.Frag) : Bool := eqB (PySem.W.nsIn K mainGlobals x) (some (some (.ref (He.ga K x))))
def chD (x : Str) (K : PySem.W.Frag) : Bool := chG x K && (PySem.W.keepIn K (.ref (He.ga K x)) && codeP K (x, none) x)
def chM (C m q : Str) (K : PySem.W.Frag) : Bool := eqB (PySem.W.findIn K (.ref (He.ga K C)) m) (some (some (.ref (He.ma K (He.ga K C) m)))) && (PySem.W.isFn K (.ref (He.ma K (He.ga K C) m)) && (PySem.W.keepIn K (.ref (He.ma K (He.ga K C) m)) && codeP K (C, some m) q))
def kwV (K : PySem.W.Frag) (k z : Str) : Value → Bool
  | .ref D => (match PySem.W.nsIn K D k with
    | some (some (.str y _)) => decide (y = z)
    | _ => false)
  | _ => false
def kwP (x k z : Str) (K : PySem.W.Frag) : Bool := match K.lookup (He.ga K x) with
  | some ⟨_, _, .func fd, _⟩ => kwV K k z fd.kwdefaults
  | _ => false
def chI (x : Str) (i : Int) (K : PySem.W.Frag) : Bool := match PySem.W.nsIn K mainGlobals x with
  | some (some (.int j _)) => decide (j = i)
  | _ => false
def btNames : List Str := ["int", "str", "bool", "list", "tuple", "dict", "len", "range", "isinstance", "sum", "max", "min", "sorted", "set", "super", "enumerate", "zip", "abs"]
def chBt (K : PySem.W.Frag) : Bool := btNames.all fun x => eqB (PySem.W.nsIn K mainGlobals x) (some none)
def chO (C : Str) (K : PySem.W.Frag) : Bool := PySem.W.plainGet K (He.ga K C) Str.empty && (PySem.W.hasDictIn K (He.ga K C) && (PySem.W.plainOver K (He.ga K C) && (eqB (PySem.W.findIn K (.ref (He.ga K C)) "__setattr__") (some (some (.builtin "object.__setattr__"))) &&
  (eqB (PySem.W.findIn K (.ref (He.ga K C)) "__class__") (some (some (.builtin "object.__class__"))) && (eqB (PySem.W.specialIn K (.builtin "object.__class__") "__get__") (some (some (.builtin "getset_descriptor.__get__"))) && (decide (PySem.W.takesIn K (.builtin "object.__class__") = some true) &&
  (decide (PySem.W.mroIn K (He.ga K C) (.type "object") = some true) && (PySem.W.isClsIn K (He.ga K C) && (decide (PySem.W.typeIn K (.ref (He.ga K C)) = some (.type "type")) &&
  (["NoneType", "int", "bool", "str", "list", "tuple", "dict"] : List String).all fun T => decide (PySem.W.subIn K (.type T) (.ref (He.ga K C)) = some false))))))))))
def chF (C m : Str) (K : PySem.W.Frag) : Bool := PySem.W.fnIn K (He.ma K (He.ga K C) m)
def chB (C : Str) (nm : String) (Ts : List String) (K : PySem.W.Frag) : Bool := PySem.W.selfFirst K (He.ga K C) && ((match PySem.W.findIn K (.ref (He.ga K C)) (PySem.dunderR nm) with
  | some none => true
  | some (some (.ref _)) => true
  | _ => false) && Ts.all fun T => (PySem.W.findIn K (.type T) (PySem.dunder nm)).isSome && (PySem.W.findIn K (.type T) (PySem.dunderR nm)).isSome)
section
variable {K : PySem.W.Frag}
theorem bb {a b : Bool} (h : (a && b) = true) : a = true ∧ b = true := Bool.and_eq_true_iff.mp h
theorem eqB_ok {a b : Option (Option Value)} (h : eqB a b = true) : a = b := of_decide_eq_true h
theorem chG_ok {x : Str} (c : chG x K = true) : PySem.W.nsIn K mainGlobals x = some (some (.ref (He.ga K x))) := eqB_ok c
theorem hk_def {x : Str} {st : Stmt} (e : fnP K (x, none) = FdP.val ⟨(x, none), x, x, st, []⟩) (c : chD x K = true) : DefAt K x st := by
  obtain ⟨c1, c⟩ := bb c
  obtain ⟨c2, c3⟩ := bb c
  obtain ⟨oc, od, osl, kV, doc, pm, an, cdv, ct, l, cc⟩ := fnP_ok e c3
  exact DefAt.of (chG_ok c1) l cc c2
theorem hk_meth {C m q : Str} {st : Stmt} (e : fnP K (C, some m) = FdP.val ⟨(C, some m), m, q, st, []⟩) (c : chM C m q K = true) : MethAt K (He.ga K C) m q st := by
  obtain ⟨c1, c⟩ := bb c
  obtain ⟨c2, c⟩ := bb c
  obtain ⟨c3, c4⟩ := bb c
  obtain ⟨oc, od, osl, kV, doc, pm, an, cdv, ct, l, cc⟩ := fnP_ok e c4
  exact MethAt.of (eqB_ok c1) l cc c3 c2
theorem kwV_ok {k z : Str} {v : Value} (c : kwV K k z v = true) : ∃ D t, v = .ref D ∧ PySem.W.nsIn K D k = some (some (.str z t)) := by
  cases v with
  | ref D =>
    have w : (match PySem.W.nsIn K D k with
      | some (some (.str y _)) => decide (y = z)
      | _ => false) = true := c
    cases h : PySem.W.nsIn K D k with
    | none => rw [h] at w; cases w
    | some o =>
      cases o with
      | none => rw [h] at w; cases w
      | some v =>
        cases v with
        | str y t =>
          rw [h] at w
          have w : y = z := of_decide_eq_true w
          exact ⟨D, t, rfl, by rw [h, w]⟩
        | _ => rw [h] at w; cases w
  | _ => cases c
theorem hk_defK {x k z : Str} {st : Stmt} (e : fnP K (x, none) = FdP.val ⟨(x, none), x, x, st, []⟩) (c : chD x K = true) (w : kwP x k z K = true) : DefAtK K x k z st := by
  obtain ⟨c1, c⟩ := bb c
  obtain ⟨c2, c3⟩ := bb c
  obtain ⟨oc, od, osl, kV, doc, pm, an, cdv, ct, l, cc⟩ := fnP_ok e c3
  have l' : K.lookup (He.ga K x) = some ⟨oc, od, .func (PySem.W.fnOf x x (defArgs st) (defBody st) (defScope st) .none kV doc pm an cdv ct), osl⟩ := l
  unfold kwP at w
  rw [l'] at w
  obtain ⟨D, t, e, h⟩ := kwV_ok (v := kV) w
  subst e
  exact DefAtK.of (chG_ok c1) l' cc c2 h
theorem hk_int {x : Str} {i : Int} (c : chI x i K = true) : ∃ t, PySem.W.nsIn K mainGlobals x = some (some (.int i t)) := by
  unfold chI at c
  cases h : PySem.W.nsIn K mainGlobals x with
  | none => rw [h] at c; cases c
  | some o =>
    cases o with
    | none => rw [h] at c; cases c
    | some v =>
      cases v with
      | int j t =>
        rw [h] at c
        have c : j = i := of_decide_eq_true c
        exact ⟨t, by rw [c]⟩
      | _ => rw [h] at c; cases c
theorem hk_bt (c : chBt K = true) : BtIn K := fun x hx => eqB_ok (List.all_eq_true.mp c x hx)
theorem hk_own {C : Str} (c : chO C K = true) : OwnC K (He.ga K C) := by
  obtain ⟨c1, c⟩ := bb c
  obtain ⟨c2, c⟩ := bb c
  obtain ⟨c3, c⟩ := bb c
  obtain ⟨c4, c⟩ := bb c
  obtain ⟨c5, c⟩ := bb c
  obtain ⟨c6, c⟩ := bb c
  obtain ⟨c7, c⟩ := bb c
  obtain ⟨c8, c⟩ := bb c
  obtain ⟨c9, c⟩ := bb c
  obtain ⟨c10, c⟩ := bb c
  have s : ∀ T : String, T ∈ (["NoneType", "int", "bool", "str", "list", "tuple", "dict"] : List String) → PySem.W.subIn K (.type T) (.ref (He.ga K C)) = some false := fun T h => of_decide_eq_true (List.all_eq_true.mp c T h)
  exact ⟨⟨c1, c2, c3, eqB_ok c4⟩, eqB_ok c5, eqB_ok c6, of_decide_eq_true c7, of_decide_eq_true c8, c9, of_decide_eq_true c10, s⟩
theorem hk_fi {C m q : Str} (c : chM C m q K = true) (d : chF C m K = true) : ∀ f, PySem.W.findIn K (.ref (He.ga K C)) m = some (some (.ref f)) → PySem.W.fnIn K f = true := fun f e => by
  have c1 := eqB_ok (bb c).1
  rw [c1] at e
  have z := Value.ref.inj (Option.some.inj (Option.some.inj e))
  rw [← z]
  exact d
theorem hk_bin {C : Str} {nm : String} {Ts : List String} (c : chB C nm Ts K = true) : BinC K (He.ga K C) nm Ts := by
  obtain ⟨c1, c⟩ := bb c
  obtain ⟨c2, c3⟩ := bb c
  refine ⟨c1, ?_, fun T h => ?_⟩
  · cases e : PySem.W.findIn K (.ref (He.ga K C)) (PySem.dunderR nm) with
    | none => rw [e] at c2; cases c2
    | some o =>
      cases o with
      | none => exact ⟨_, rfl, .inl rfl⟩
      | some v =>
        cases v with
        | ref g => exact ⟨_, rfl, .inr ⟨g, rfl⟩⟩
        | _ => rw [e] at c2; cases c2
  · obtain ⟨a, b⟩ := bb (List.all_eq_true.mp c3 T h)
    obtain ⟨x, hx⟩ := Option.isSome_iff_exists.mp a
    obtain ⟨y, hy⟩ := Option.isSome_iff_exists.mp b
    exact ⟨x, y, hx, hy⟩
end
/-! ### error classes -/
def inA (K : PySem.W.Frag) (x : Str) : Addr := He.ma K (He.ga K x) "__init__"
def ccA (K : PySem.W.Frag) (x : Str) : Addr := match K.lookup (inA K x) with
  | some ⟨_, _, .func fd, _⟩ => (match fd.closure with
    | [(_, a)] => a
    | _ => 0)
  | _ => 0
def cdA (K : PySem.W.Frag) (x : Str) : Addr := match K.lookup (inA K x) with
  | some ⟨_, _, .func fd, _⟩ => (match fd.code with
    | .ref a => a
    | _ => 0)
  | _ => 0
def codeIsRef : Value → Bool
  | .ref _ => true
  | _ => false
def fnE (x : Str) (K : PySem.W.Frag) : Bool := match K.lookup (inA K x) with
  | some ⟨_, _, .func fd, _⟩ => codeIsRef fd.code
  | _ => false
def clsE (C : Addr) (K : PySem.W.Frag) : Bool := match K.lookup C with
  | some ⟨.type "type", _, .cls cd, sl⟩ => (match cd.mro, sl.toList with
    | .ref C' :: .ref _ :: bm, [_, _, _, _, some (.builtin n), _] => C' == C && (n == "ArithmeticError.__new__" && (!cd.hasDel && (cd.hasDict && decide (bm = arT))))
    | _, _ => false)
  | _ => false
def cellE (C cc : Addr) (K : PySem.W.Frag) : Bool := match K.lookup cc with
  | some ⟨_, _, .cell (some (.ref D)), _⟩ => decide (D = C)
  | _ => false
def fileE (fl : Str) (c : Addr) (K : PySem.W.Frag) : Bool := match K.lookup c with
  | some ⟨_, _, .fields vs, _⟩ => (match (vs[2]? : Option Value) with
    | some (Value.str f _) => fl == f
    | _ => false)
  | _ => false
def chE (fl x q : Str) (K : PySem.W.Frag) : Bool := chG x K && (clsE (He.ga K x) K && (eqB (PySem.W.findIn K (.ref (He.ga K x)) "__setattr__") (some (some (.builtin "object.__setattr__"))) && (decide (PySem.W.subIn K (.ref (He.ga K x)) (.type "BaseException") = some true) && (decide (PySem.W.subIn K (.ref (He.ga K x)) (.type "ArithmeticError") = some true) &&
  (decide (PySem.W.typeIn K (.ref (He.ga K x)) = some (.type "type")) && (PySem.W.keepIn K (.ref (He.ga K x)) && (eqB (PySem.W.findIn K (.ref (He.ga K x)) "__init__") (some (some (.ref (inA K x)))) && (decide (PySem.W.typeIn K (.ref (inA K x)) = some (.type "function")) && (fnE x K && (PySem.W.codeIn K (.ref (cdA K x)) q &&
  (cellE (He.ga K x) (ccA K x) K && (fileE fl (cdA K x) K && (eqB (PySem.W.nsIn K cStatics "thirdparty.any") (some none) && (eqB (PySem.W.ks_superIn K (He.ga K x) (He.ga K x) "__init__") (some (some (.builtin "ArithmeticError.__init__"))) && (decide (PySem.W.mroIn K (He.ga K x) (.ref (He.ga K x)) = some true) &&
  (eqB (PySem.W.findIn K (.ref (He.ga K x)) "__getattribute__") (some (some (.builtin "BaseException.__getattribute__"))) && (eqB (PySem.W.findIn K (.ref (He.ga K x)) "__getattr__") (some none) && (PySem.W.hasDictIn K (He.ga K x) && (PySem.W.isClsIn K (He.ga K x) && decide (PySem.W.subIn K (.ref (He.ga K x)) (.ref (He.ga K x)) = some true))))))))))))))))))))
section
variable {K : PySem.W.Frag}
theorem clsE_ok {C : Addr} (c : clsE C K = true) : ∃ pe nm qn N bs sn sub ab col dd k0 k1 k2 k3 k5, K.lookup C = some (excClassObj nm qn C N bs (.ref pe :: arT) true sn sub ab col dd k0 k1 k2 k3 k5 "ArithmeticError.__new__") := by
  unfold clsE at c
  split at c
  · rename_i dd cd sl ho
    split at c
    · rename_i C' pe bm k0 k1 k2 k3 n k5 hm hs
      simp only [Bool.and_eq_true, beq_iff_eq, Bool.not_eq_true', decide_eq_true_eq] at c
      obtain ⟨rfl, rfl, hdel, hdict, rfl⟩ := c
      obtain ⟨nm, bs, mro, ns, qn, hd, sn, sub, ab, col, del⟩ := cd
      dsimp only at hm hdel hdict
      subst hm hdel hdict
      have hsl : sl = #[k0, k1, k2, k3, some (.builtin "ArithmeticError.__new__"), k5] := by
        obtain ⟨l⟩ := sl
        simp only at hs
        rw [hs]
      subst hsl
      exact ⟨pe, nm, qn, ns, bs, sn, sub, ab, col, dd, k0, k1, k2, k3, k5, ho⟩
    · cases c
  · cases c
theorem hk_err {P : Program} {x q : Str} {st : Stmt} (e : fnP K (x, some "__init__") = FdP.val ⟨(x, some "__init__"), "__init__", q, st, ["__class__"]⟩) (c : chE P.main.file x q K = true) : ErrAt1 P K x q st (He.ga K x) (inA K x) (ccA K x) (cdA K x) := by
  obtain ⟨a1, c⟩ := bb c
  obtain ⟨a2, c⟩ := bb c
  obtain ⟨a3, c⟩ := bb c
  obtain ⟨a4, c⟩ := bb c
  obtain ⟨a5, c⟩ := bb c
  obtain ⟨a6, c⟩ := bb c
  obtain ⟨a7, c⟩ := bb c
  obtain ⟨a8, c⟩ := bb c
  obtain ⟨a9, c⟩ := bb c
  obtain ⟨b0, c⟩ := bb c
  obtain ⟨b1, c⟩ := bb c
  obtain ⟨b2, c⟩ := bb c
  obtain ⟨b3, c⟩ := bb c
  obtain ⟨b4, c⟩ := bb c
  obtain ⟨b5, c⟩ := bb c
  obtain ⟨b6, c⟩ := bb c
  obtain ⟨b7, c⟩ := bb c
  obtain ⟨b8, c⟩ := bb c
  obtain ⟨b9, c⟩ := bb c
  obtain ⟨d0, d1⟩ := bb c
  refine ⟨chG_ok a1, clsE_ok a2, eqB_ok a3, of_decide_eq_true a4, of_decide_eq_true a5, of_decide_eq_true a6, a7, eqB_ok a8, of_decide_eq_true a9, ?_, b1, ?_, ?_, eqB_ok b4, eqB_ok b5, of_decide_eq_true b6, eqB_ok b7, eqB_ok b8, b9, d0, of_decide_eq_true d1⟩
  · have e : fnP K (x, some "__init__") = FdP.val ⟨(x, some "__init__"), "__init__", q, st, ["__class__"]⟩ := e
    unfold fnP FdP.val at e
    unfold fnE at b0
    have ei : He.fAd K (x, some "__init__") = inA K x := rfl
    rw [ei] at e
    cases h : K.lookup (inA K x) with
    | none => rw [h] at b0; cases b0
    | some o =>
      obtain ⟨oc, od, dt, osl⟩ := o
      rw [h] at e b0
      cases dt with
      | func fd =>
        obtain ⟨n1, n2, n3, n4, n5, n6, n7, n8, n9, n10, n11, n12, n13, n14, n15⟩ := fd
        have e2 : (some (n1, n2, n3, n4, n5, n6, n7.map (·.1), n8, n15) : FnP) = some (("__init__" : Str), q, defArgs st, .stmts (defBody st), defScope st, mainGlobals, (["__class__"] : List Str), .none, builtinsNs) := e
        simp only [Option.some.injEq, Prod.mk.injEq] at e2
        obtain ⟨h1, h2, h3, h4, h5, h6, h7, h8, h9⟩ := e2
        subst h1 h2 h3 h4 h5 h6 h8 h9
        have b0 : codeIsRef n13 = true := b0
        cases n13 with
        | ref c0 =>
          match n7, h7 with
          | [(y, cc0)], h7 =>
            have h7 : y = "__class__" := by simpa using h7
            subst h7
            have q1 : ccA K x = cc0 := by unfold ccA; rw [h]
            have q2 : cdA K x = c0 := by unfold cdA; rw [h]
            rw [q1, q2]
            exact ⟨oc, od, n9, n10, n11, n12, n14, osl, rfl⟩
        | _ => cases b0
      | _ => cases b0
  · unfold cellE at b2
    split at b2
    · rename_i a b D d h
      have : D = He.ga K x := of_decide_eq_true b2
      rw [this] at h
      exact ⟨a, b, d, h⟩
    · cases b2
  · unfold fileE at b3
    split at b3
    · rename_i a b vs d h
      split at b3
      · rename_i f t hv
        exact ⟨a, b, vs, d, f, t, h, hv, b3⟩
      · cases b3
    · cases b3
end
/-! ### a run's equation from its parts -/
section
variable {α β γ : Type} {o : Option α}
theorem map_pair {f : α → β} {g : α → γ} {a : β} {b : γ} (h1 : o.map f = some a) (h2 : o.map g = some b) : o.map (fun s => (f s, g s)) = some (a, b) := by
  cases o with
  | none => cases h1
  | some s =>
    have h1 : some (f s) = some a := h1
    have h2 : some (g s) = some b := h2
    show some (f s, g s) = some (a, b)
    rw [Option.some.inj h1, Option.some.inj h2]
theorem map_and {f g : α → Bool} (h1 : o.map f = some true) (h2 : o.map g = some true) : o.map (fun s => f s && g s) = some true := by
  cases o with
  | none => cases h1
  | some s =>
    have h1 : some (f s) = some true := h1
    have h2 : some (g s) = some true := h2
    show some (f s && g s) = some true
    rw [Option.some.inj h1, Option.some.inj h2]
    rfl
theorem map_app {L1 L2 : List β} {F : α → β → γ} {v : β → γ} (h1 : o.map (fun s => L1.map (F s)) = some (L1.map v)) (h2 : o.map (fun s => L2.map (F s)) = some (L2.map v)) : o.map (fun s => (L1 ++ L2).map (F s)) = some ((L1 ++ L2).map v) := by
  cases o with
  | none => cases h1
  | some s =>
    have h1 : some (L1.map (F s)) = some (L1.map v) := h1
    have h2 : some (L2.map (F s)) = some (L2.map v) := h2
    show some ((L1 ++ L2).map (F s)) = some ((L1 ++ L2).map v)
    rw [List.map_append, List.map_append, Option.some.inj h1, Option.some.inj h2]
end
end Pk
set_option Elab.async false
set_option linter.all false
set_option maxRecDepth 100000
set_option maxHeartbeats 1000000
namespace Pk
open PySem L2
def top (i : Nat) : Stmt := PySem.Challenge.pw_pairorder_k52_counting_refused.main.body.getD i (.Pass ⟨0, 0, 0, 0⟩)
end Pk
set_option Elab.async false
set_option linter.all false
set_option maxRecDepth 100000
set_option maxHeartbeats 0
namespace Pk
open PySem L2 PySem.Spec PyProof.Rows PySem.W PySem.Calls
/-! ### the head: what is looked at -/
def hkCls (i j : Nat) : Stmt := match top i with
  | .ClassDef (body := b) .. => b.getD j (.Pass ⟨0, 0, 0, 0⟩)
  | _ => .Pass ⟨0, 0, 0, 0⟩
def hkFn0 : List FdP := [⟨("own_copy", none), "own_copy", "own_copy", (top 2), []⟩, ⟨("InvalidTable", some "__init__"), "__init__", "InvalidTable.__init__", (hkCls 4 0), ["__class__"]⟩, ⟨("InvalidOrder", some "__init__"), "__init__", "InvalidOrder.__init__", (hkCls 5 0), ["__class__"]⟩, ⟨("InvalidBound", some "__init__"), "__init__", "InvalidBound.__init__", (hkCls 7 0), ["__class__"]⟩, ⟨("LimitExceeded", some "__init__"), "__init__", "LimitExceeded.__init__", (hkCls 9 0), ["__class__"]⟩, ⟨("NotRight", some "__init__"), "__init__", "NotRight.__init__", (hkCls 8 0), ["__class__"]⟩, ⟨("is_kind", none), "is_kind", "is_kind", (top 12), []⟩, ⟨("check_kind", none), "check_kind", "check_kind", (top 13), []⟩, ⟨("is_integer", none), "is_integer", "is_integer", (top 16), []⟩, ⟨("is_two", none), "is_two", "is_two", (top 18), []⟩, ⟨("is_orderable", none), "is_orderable", "is_orderable", (top 21), []⟩, ⟨("check_pairs", none), "check_pairs", "check_pairs", (top 22), []⟩, ⟨("is_price", none), "is_price", "is_price", (top 52), []⟩, ⟨("is_row", none), "is_row", "is_row", (top 53), []⟩, ⟨("check_rows", none), "check_rows", "check_rows", (top 54), []⟩, ⟨("Table", some "__init__"), "__init__", "Table.__init__", (hkCls 57 0), []⟩, ⟨("Table", some "pairs"), "pairs", "Table.pairs", (hkCls 57 11), []⟩, ⟨("Table", some "stocks"), "stocks", "Table.stocks", (hkCls 57 12), []⟩, ⟨("Table", some "wishes"), "wishes", "Table.wishes", (hkCls 57 13), []⟩, ⟨("Table", some "rows"), "rows", "Table.rows", (hkCls 57 14), []⟩, ⟨("Table", some "__len__"), "__len__", "Table.__len__", (hkCls 57 5), []⟩, ⟨("Order", some "__init__"), "__init__", "Order.__init__", (hkCls 24 0), []⟩, ⟨("Order", some "__len__"), "__len__", "Order.__len__", (hkCls 24 3), []⟩, ⟨("Order", some "__contains__"), "__contains__", "Order.__contains__", (hkCls 24 4), []⟩, ⟨("Order", some "pairs"), "pairs", "Order.pairs", (hkCls 24 14), []⟩, ⟨("is_between", none), "is_between", "is_between", (top 17), []⟩, ⟨("has_columns", none), "has_columns", "has_columns", (top 33), []⟩, ⟨("has_rows", none), "has_rows", "has_rows", (top 34), []⟩, ⟨("stocks_behind", none), "stocks_behind", "stocks_behind", (top 28), []⟩, ⟨("wishes_behind", none), "wishes_behind", "wishes_behind", (top 29), []⟩, ⟨("is_cross", none), "is_cross", "is_cross", (top 27), []⟩, ⟨("marks", none), "marks", "marks", (top 26), []⟩, ⟨("crosses", none), "crosses", "crosses", (top 30), []⟩, ⟨("columns", none), "columns", "columns", (top 31), []⟩, ⟨("lines", none), "lines", "lines", (top 32), []⟩, ⟨("faults_of", none), "faults_of", "faults_of", (top 35), []⟩, ⟨("all_faults", none), "all_faults", "all_faults", (top 36), []⟩, ⟨("earliest", none), "earliest", "earliest", (top 37), []⟩, ⟨("check_order", none), "check_order", "check_order", (top 23), []⟩, ⟨("check_right", none), "check_right", "check_right", (top 38), []⟩, ⟨("set_of", none), "set_of", "set_of", (top 43), []⟩, ⟨("pairs_behind", none), "pairs_behind", "pairs_behind", (top 39), []⟩, ⟨("free_after", none), "free_after", "free_after", (top 45), []⟩, ⟨("ways_after", none), "ways_after", "ways_after", (top 46), []⟩, ⟨("check_countable", none), "check_countable", "check_countable", (top 42), []⟩, ⟨("bars_of", none), "bars_of", "bars_of", (top 44), []⟩, ⟨("turn", none), "turn", "turn", (top 47), []⟩, ⟨("count", none), "count", "count", (top 48), []⟩]
def hkFn1 : List FdP := [⟨("order_at", none), "order_at", "order_at", (top 49), []⟩, ⟨("number_of", none), "number_of", "number_of", (top 50), []⟩, ⟨("_law_cell", none), "_law_cell", "_law_cell", (top 59), []⟩, ⟨("_law_mixed", none), "_law_mixed", "_law_mixed", (top 60), []⟩, ⟨("_law_draws", none), "_law_draws", "_law_draws", (top 61), []⟩, ⟨("_law_spots", none), "_law_spots", "_law_spots", (top 62), []⟩, ⟨("_law_cross", none), "_law_cross", "_law_cross", (top 64), []⟩, ⟨("_law_shuffled", none), "_law_shuffled", "_law_shuffled", (top 63), []⟩, ⟨("_law_call", none), "_law_call", "_law_call", (top 71), []⟩, ⟨("_law_refusal", none), "_law_refusal", "_law_refusal", (top 72), []⟩, ⟨("_law_first_fault", none), "_law_first_fault", "_law_first_fault", (top 73), []⟩, ⟨("_law_refuses_bounds", none), "_law_refuses_bounds", "_law_refuses_bounds", (top 74), []⟩, ⟨("law", none), "law", "law", (top 75), []⟩]
def hkFn : List FdP := hkFn0 ++ (hkFn1)
def hkEx0 (K : PySem.W.Frag) : Bool := chBt K && (chD "own_copy" K && (chE PySem.Challenge.rw_pairorder_k52_counting_refused.prog.main.file "InvalidTable" "InvalidTable.__init__" K && (eqB (PySem.W.findIn K (.ref (He.ga K "InvalidTable")) "at") (some none) && (chE PySem.Challenge.rw_pairorder_k52_counting_refused.prog.main.file "InvalidOrder" "InvalidOrder.__init__" K && (eqB (PySem.W.findIn K (.ref (He.ga K "InvalidOrder")) "at") (some none) && (chE PySem.Challenge.rw_pairorder_k52_counting_refused.prog.main.file "InvalidBound" "InvalidBound.__init__" K && (eqB (PySem.W.findIn K (.ref (He.ga K "InvalidBound")) "name") (some none) && (chE PySem.Challenge.rw_pairorder_k52_counting_refused.prog.main.file "LimitExceeded" "LimitExceeded.__init__" K && (eqB (PySem.W.findIn K (.ref (He.ga K "LimitExceeded")) "limit") (some none) && (chE PySem.Challenge.rw_pairorder_k52_counting_refused.prog.main.file "NotRight" "NotRight.__init__" K && (eqB (PySem.W.findIn K (.ref (He.ga K "NotRight")) "fault") (some none) && (chG "PairError" K && (decide (PySem.W.subIn K (.ref (He.ga K "InvalidBound")) (.ref (He.ga K "LimitExceeded")) = some false) && (decide (PySem.W.subIn K (.ref (He.ga K "InvalidOrder")) (.ref (He.ga K "LimitExceeded")) = some false) && (decide (PySem.W.subIn K (.ref (He.ga K "InvalidOrder")) (.ref (He.ga K "InvalidBound")) = some false) && (true))))))))))))))))
def hkEx1 (K : PySem.W.Frag) : Bool := decide (PySem.W.subIn K (.ref (He.ga K "NotRight")) (.ref (He.ga K "LimitExceeded")) = some false) && (decide (PySem.W.subIn K (.ref (He.ga K "NotRight")) (.ref (He.ga K "InvalidBound")) = some false) && (decide (PySem.W.subIn K (.ref (He.ga K "NotRight")) (.ref (He.ga K "InvalidOrder")) = some false) && (chG "KINDS" K && (He.tupB K "KINDS" [.str "even", .str "stock", .str "wish", .str "any"] && (chD "is_kind" K && (chD "check_kind" K && (chD "is_integer" K && (chD "is_two" K && (chI "MOST_LINES" 8 K && (chI "MOST_PAIRS" 64 K && (chD "is_orderable" K && (chD "check_pairs" K && (eqB (PySem.W.nsIn K mainGlobals "all") (some none) && (chD "is_price" K && (chD "is_row" K && (true))))))))))))))))
def hkEx2 (K : PySem.W.Frag) : Bool := chD "check_rows" K && (chG "Table" K && (chM "Table" "__init__" "Table.__init__" K && (chM "Table" "pairs" "Table.pairs" K && (chM "Table" "stocks" "Table.stocks" K && (chM "Table" "wishes" "Table.wishes" K && (chM "Table" "rows" "Table.rows" K && (chM "Table" "__len__" "Table.__len__" K && (chO "Table" K && (PySem.W.makesIn K (He.ga K "Table") && (PySem.W.keepIn K (.ref (He.ga K "Table")) && (eqB (PySem.W.findIn K (.ref (He.ga K "Table")) "entries") (some none) && (eqB (PySem.W.findIn K (.ref (He.ga K "Table")) "used") (some none) && (chG "Order" K && (chM "Order" "__init__" "Order.__init__" K && (chM "Order" "__len__" "Order.__len__" K && (true))))))))))))))))
def hkEx3 (K : PySem.W.Frag) : Bool := chM "Order" "__contains__" "Order.__contains__" K && (chM "Order" "pairs" "Order.pairs" K && (chO "Order" K && (PySem.W.makesIn K (He.ga K "Order") && (PySem.W.keepIn K (.ref (He.ga K "Order")) && (eqB (PySem.W.findIn K (.ref (He.ga K "Order")) "sequence") (some none) && (chI "MOST_COUNTED" 12 K && (eqB (PySem.W.nsIn K mainGlobals "reversed") (some none) && (chD "is_between" K && (chD "has_columns" K && (chD "has_rows" K && (chD "stocks_behind" K && (chD "wishes_behind" K && (chD "is_cross" K && (chD "marks" K && (chD "crosses" K && (true))))))))))))))))
def hkEx4 (K : PySem.W.Frag) : Bool := chD "columns" K && (chD "lines" K && (chD "faults_of" K && (chD "all_faults" K && (chD "earliest" K && (chD "check_order" K && (chD "check_right" K && (chD "set_of" K && (chD "pairs_behind" K && (chD "free_after" K && (chD "ways_after" K && (chD "check_countable" K && (chD "bars_of" K && (chD "turn" K && (chD "count" K && (kwP "count" "kind" "even" K && (true))))))))))))))))
def hkEx5 (K : PySem.W.Frag) : Bool := chD "order_at" K && (kwP "order_at" "kind" "even" K && (chD "number_of" K && (kwP "number_of" "kind" "even" K && (chD "_law_cell" K && (chD "_law_mixed" K && (chD "_law_draws" K && (chD "_law_spots" K && (chD "_law_cross" K && (chD "_law_shuffled" K && (chD "_law_call" K && (chD "_law_refusal" K && (chD "_law_first_fault" K && (chD "_law_refuses_bounds" K && (chD "law" K && (true)))))))))))))))
def hkEx (K : PySem.W.Frag) : Bool := hkEx0 K && (hkEx1 K && (hkEx2 K && (hkEx3 K && (hkEx4 K && (hkEx5 K)))))
def hkNames0 : List Str := ["_wall", "__name__", "own_copy", "PairError", "InvalidTable", "InvalidOrder", "InvalidPair", "InvalidBound", "NotRight", "LimitExceeded"]
def hkNames1 : List Str := ["KINDS", "is_kind", "check_kind", "MOST_LINES", "is_integer", "is_between", "is_two", "MOST_PAIRS", "is_orderable", "check_pairs"]
def hkNames2 : List Str := ["check_order", "Order", "marks", "is_cross", "stocks_behind", "wishes_behind", "crosses", "columns", "lines", "has_columns"]
def hkNames3 : List Str := ["has_rows", "faults_of", "all_faults", "earliest", "check_right", "pairs_behind", "MOST_COUNTED", "check_countable", "set_of", "bars_of"]
def hkNames4 : List Str := ["free_after", "ways_after", "turn", "count", "order_at", "number_of", "is_price", "is_row", "check_rows", "price_sum"]
def hkNames5 : List Str := ["price_times", "Table", "_law_cell", "_law_mixed", "_law_draws", "_law_spots", "_law_shuffled", "_law_cross", "_law_needs_of", "_law_needs"]
def hkNames6 : List Str := ["_law_met", "_law_open", "_law_is_right", "_law_walk", "_law_call", "_law_refusal", "_law_first_fault", "_law_refuses_bounds"]
def hkNames : List Str := hkNames0 ++ (hkNames1 ++ (hkNames2 ++ (hkNames3 ++ (hkNames4 ++ (hkNames5 ++ (hkNames6))))))
abbrev hkR : PySem.W.OpenRow := PySem.W.OpenLaw.row PySem.Challenge.rw_pairorder_k52_counting_refused
abbrev hkH : PySem.W.Hook := hookP 4 hkFn hkEx
def hkOb (s : PySem.W.SharedT) : Bool × List FnP := obsPG 4 hkFn hkEx (HandSHeadRun.getT s)
theorem hkOb_eq (s : PySem.W.SharedT) : hkOb s = hkH.obs s.abs := obsPG_eq (HandSHeadRun.getT_eq s)
noncomputable abbrev hkS (w : World) (os : OsState) : Option PySem.W.SharedT := HandSHeadRun.endF (HandSHeadRun.stepQ (HandSHeadRun.denQ HandSHeadRun.tabQ) hkR.prog w) 12000 hkR.prog w os
def hkK (s : PySem.W.SharedT) : PySem.W.Frag := He.frG (HandSHeadRun.getT s) (asP (HandSHeadRun.getT s) 4)
theorem hkRunA (w : World) (os : OsState) : (hkS w os).map (fun s => (HandSHeadRun.looksF hkR.prog (boot_heap w.params) s.abs, HandSHeadRun.seenQ (PySem.W.view hkR.prog [75]) hkNames (importedModules hkR.prog.main.body) (fun s => PySem.W.xlAt (PySem.W.view hkR.prog [75]) [] s && PySem.W.recOk hkR.toRowW.records s) s.abs)) = some (true, PySem.W.openGood (PySem.W.view hkR.prog [75]) hkNames) := by kernel_rfl
theorem hkE0 (w : World) (os : OsState) : (hkS w os).map (fun s => hkEx0 (hkK s)) = some true := by kernel_rfl
theorem hkE1 (w : World) (os : OsState) : (hkS w os).map (fun s => hkEx1 (hkK s)) = some true := by kernel_rfl
theorem hkE2 (w : World) (os : OsState) : (hkS w os).map (fun s => hkEx2 (hkK s)) = some true := by kernel_rfl
theorem hkE3 (w : World) (os : OsState) : (hkS w os).map (fun s => hkEx3 (hkK s)) = some true := by kernel_rfl
theorem hkE4 (w : World) (os : OsState) : (hkS w os).map (fun s => hkEx4 (hkK s)) = some true := by kernel_rfl
theorem hkE5 (w : World) (os : OsState) : (hkS w os).map (fun s => hkEx5 (hkK s)) = some true := by kernel_rfl
theorem hkF0 (w : World) (os : OsState) : (hkS w os).map (fun s => hkFn0.map fun d => fnP (hkK s) d.at_) = some (hkFn0.map FdP.val) := by kernel_rfl
theorem hkF1 (w : World) (os : OsState) : (hkS w os).map (fun s => hkFn1.map fun d => fnP (hkK s) d.at_) = some (hkFn1.map FdP.val) := by kernel_rfl
theorem hkRun (w : World) : HandSHeadRun.RunEq hkR (PySem.W.view hkR.prog [75]) hkH hkOb 12000 hkNames w := by
  intro os
  have a := hkRunA w os
  have e : (hkS w os).map (fun s => hkEx (hkK s)) = some true := map_and (hkE0 w os) (map_and (hkE1 w os) (map_and (hkE2 w os) (map_and (hkE3 w os) (map_and (hkE4 w os) (hkE5 w os)))))
  have f : (hkS w os).map (fun s => hkFn.map fun d => fnP (hkK s) d.at_) = some (hkFn.map FdP.val) := map_app (hkF0 w os) (hkF1 w os)
  have o : (hkS w os).map hkOb = some (valP hkFn) := map_pair e f
  cases q : hkS w os with
  | none => rw [q] at a; cases a
  | some s =>
    rw [q] at a o
    have a := Option.some.inj (show some (_, _) = some (_, _) from a)
    have o : hkOb s = valP hkFn := Option.some.inj o
    show (hkS w os).map _ = _
    rw [q]
    show some (_, _, hkOb s) = some (true, _, valP hkFn)
    rw [o, (Prod.mk.inj a).1, (Prod.mk.inj a).2]
end Pk
set_option Elab.async false
set_option linter.all false
set_option maxRecDepth 100000
set_option maxHeartbeats 1000000
namespace Pk
open PySem L2 PySem.Spec PyProof.Rows
/-! ### <, <=, >, >= and in, over data -/
section
variable {X : Cx}
/-- two data that may be compared, of no great depth -/
def Cmpr (K : PySem.W.Frag) (H : Hp) (x y : V) (d e : PyData) : Prop := Dp K H x d ∧ Dp K H y e ∧ PySem.W.alike d e = true ∧ d ≠ .none ∧ d.depth ≤ 32
def rCmpD (K : PySem.W.Frag) (g : PyData → PyData → Bool) : R2 := fun x y H Q => ∃ d e, Cmpr K H x y d e ∧ Q (.bl (g d e)) H
theorem op_ltD (hu : X.A.units + 64 < cLine) : OpR X (compareOp .Lt) (rCmpD X.K fun d e => PySem.W.dataLt d e) := by
  intro pins s σ H x y v u Q I rx ry h
  obtain ⟨d, e, ⟨hd, he, al, nn, dl⟩, q⟩ := h
  obtain ⟨as, r1⟩ := Dp.reads I d x v hd rx
  obtain ⟨bs, r2⟩ := Dp.reads I e y u he ry
  exact PySem.W.lt_data r1 r2 al nn (by omega) ⟨.bl _, H, I, rfl, q⟩
theorem op_gtD (hu : X.A.units + 64 < cLine) : OpR X (compareOp .Gt) (rCmpD X.K fun d e => PySem.W.dataLt e d) := by
  intro pins s σ H x y v u Q I rx ry h
  obtain ⟨d, e, ⟨hd, he, al, nn, dl⟩, q⟩ := h
  obtain ⟨as, r1⟩ := Dp.reads I d x v hd rx
  obtain ⟨bs, r2⟩ := Dp.reads I e y u he ry
  exact PySem.W.gt_data r1 r2 al nn (by omega) ⟨.bl _, H, I, rfl, q⟩
theorem op_leD (hu : X.A.units + 64 < cLine) : OpR X (compareOp .LtE) (rCmpD X.K fun d e => !PySem.W.dataLt e d) := by
  intro pins s σ H x y v u Q I rx ry h
  obtain ⟨d, e, ⟨hd, he, al, nn, dl⟩, q⟩ := h
  obtain ⟨as, r1⟩ := Dp.reads I d x v hd rx
  obtain ⟨bs, r2⟩ := Dp.reads I e y u he ry
  exact PySem.W.le_data r1 r2 al nn (by omega) ⟨.bl _, H, I, rfl, q⟩
theorem op_geD (hu : X.A.units + 64 < cLine) : OpR X (compareOp .GtE) (rCmpD X.K fun d e => !PySem.W.dataLt d e) := by
  intro pins s σ H x y v u Q I rx ry h
  obtain ⟨d, e, ⟨hd, he, al, nn, dl⟩, q⟩ := h
  obtain ⟨as, r1⟩ := Dp.reads I d x v hd rx
  obtain ⟨bs, r2⟩ := Dp.reads I e y u he ry
  exact PySem.W.ge_data r1 r2 al nn (by omega) ⟨.bl _, H, I, rfl, q⟩
end
/-! ### lists of pairs of ints -/
abbrev Pr := Int × Int
def prD (z : Pr) : PyData := .tuple [.int z.1, .int z.2]
def prsD (zs : List Pr) : PyData := .list (zs.map prD)
/-- one pair goes ahead of another -/
def prLt (x y : Pr) : Bool := decide (x.1 < y.1) || (decide (x.1 = y.1) && decide (x.2 < y.2))
def lexB : List Pr → List Pr → Bool
  | [], [] => false
  | [], _ :: _ => true
  | _ :: _, [] => false
  | x :: xs, y :: ys => if x = y then lexB xs ys else prLt x y
theorem pr_alike (x y : Pr) : PySem.W.alike (prD x) (prD y) = true := rfl
theorem prs_alike : ∀ xs ys : List Pr, PySem.W.alikeAll (xs.map prD) (ys.map prD) = true
  | [], _ => by cases ‹List Pr› <;> rfl
  | _ :: _, [] => rfl
  | x :: xs, y :: ys => by
    show (PySem.W.alike (prD x) (prD y) && PySem.W.alikeAll (xs.map prD) (ys.map prD)) = true
    rw [pr_alike, prs_alike xs ys]
    rfl
theorem pr_eqv (x y : Pr) : PyData.eqv (prD x) (prD y) = decide (x = y) := PySem.W.Datum.eqv (α := Int × Int) x y
theorem prs_eqv (xs ys : List Pr) : PyData.eqv (prsD xs) (prsD ys) = decide (xs = ys) := PySem.W.Datum.eqv (α := List (Int × Int)) xs ys
theorem pr_lt (x y : Pr) (n : x ≠ y) : PySem.W.dataLt (prD x) (prD y) = prLt x y := by
  obtain ⟨a, b⟩ := x
  obtain ⟨c, d⟩ := y
  show PySem.W.dataLt (.tuple [.int a, .int b]) (.tuple [.int c, .int d]) = _
  rw [PySem.W.dataLt_tuple]
  by_cases e : a = c
  · subst e
    rw [PySem.W.dataLt_all_yes rfl (by simp [PyData.eqv])]
    have e2 : b ≠ d := fun z => n (by rw [z])
    rw [PySem.W.dataLt_all_no rfl (by simp [PyData.eqv, e2]), PySem.W.dataLt_int]
    simp [prLt]
  · rw [PySem.W.dataLt_all_no rfl (by simp [PyData.eqv, e]), PySem.W.dataLt_int]
    simp [prLt, e]
theorem prs_lt : ∀ xs ys : List Pr, PyProof.Rows.lexLt PyProof.Rows.itemOrd (PySem.W.keyToksAll (xs.map prD)) (PySem.W.keyToksAll (ys.map prD)) = lexB xs ys
  | [], [] => by decide +kernel
  | [], y :: ys => (PyProof.Rows.lex_diff (O := PyProof.Rows.itemOrd) (x := .inl 0) (y := .inl 1) (by decide)).trans rfl
  | x :: xs, [] => (PyProof.Rows.lex_diff (O := PyProof.Rows.itemOrd) (x := .inl 1) (y := .inl 0) (by decide)).trans rfl
  | x :: xs, y :: ys => by
    rw [List.map_cons, List.map_cons, lexB]
    by_cases e : x = y
    · rw [if_pos e, PySem.W.dataLt_all_yes (pr_alike x y) (by rw [pr_eqv, decide_eq_true e]), prs_lt xs ys]
    · rw [if_neg e, PySem.W.dataLt_all_no (pr_alike x y) (by rw [pr_eqv, decide_eq_false e]), pr_lt x y e]
theorem prsLt (xs ys : List Pr) : PySem.W.dataLt (prsD xs) (prsD ys) = lexB xs ys := by
  rw [prsD, prsD, PySem.W.dataLt_list]
  exact prs_lt xs ys
end Pk
set_option Elab.async false
set_option linter.all false
set_option maxRecDepth 100000
set_option maxHeartbeats 1000000
namespace Pk
open PySem L2 PySem.Spec PyProof.Rows
theorem pr_depth (z : Pr) : (prD z).depth ≤ 1 := by
  obtain ⟨a, b⟩ := z
  simp [prD, PyData.depth, PyData.depthAll]
theorem prs_depthAll : ∀ zs : List Pr, PyData.depthAll (zs.map prD) ≤ 1
  | [] => by simp [PyData.depthAll]
  | z :: zs => by
    have h1 := prs_depthAll zs
    have h2 := pr_depth z
    simp only [List.map_cons, PyData.depthAll]
    omega
theorem prs_depth (zs : List Pr) : (prsD zs).depth ≤ 2 := by
  have h := prs_depthAll zs
  simp only [prsD, PyData.depth]
  omega
theorem pr_lay (z : Pr) : (prD z).canLay0 = true := by
  obtain ⟨a, b⟩ := z
  simp [prD, PyData.canLay0, PyData.canLayAll0]
theorem prs_layAll : ∀ zs : List Pr, PyData.canLayAll0 (zs.map prD) = true
  | [] => by simp [PyData.canLayAll0]
  | z :: zs => by simp [PyData.canLayAll0, prs_layAll zs, pr_lay z]
theorem pr_shaped (z : Pr) : SeqAt.shaped (prD z) = true := by
  have h := pr_depth z
  simp only [SeqAt.shaped, pr_lay z, Bool.true_and]
  exact decide_eq_true (by omega)
theorem prs_shaped (zs : List Pr) : SeqAt.shaped (prsD zs) = true := by
  have h := prs_depth zs
  have e : (prsD zs).canLay0 = true := by simp only [prsD, PyData.canLay0]; exact prs_layAll zs
  simp only [SeqAt.shaped, e, Bool.true_and]
  exact decide_eq_true (by omega)
theorem pr_plain (z : Pr) : (prD z).plain = true := PySem.W.Datum.plain (α := Int × Int) z
theorem prs_plainAll (zs : List Pr) : PyData.plainAll (zs.map prD) = true := PySem.W.plainAll_map (α := Int × Int) zs
/-- x in a list of pairs -/
def rInP (K : PySem.W.Frag) : R2 := fun x y H Q => ∃ z zs, Dp K H x (prD z) ∧ Dp K H y (prsD zs) ∧ Q (.bl (decide (z ∈ zs))) H
theorem op_inP {X : Cx} (hu : X.A.units + 64 < cLine) : OpR X (compareOp .In) (rInP X.K) := by
  intro pins s σ H x y v u Q I rx ry h
  obtain ⟨z, zs, hd, he, q⟩ := h
  obtain ⟨as, r1⟩ := Dp.reads I _ x v hd rx
  obtain ⟨bs, r2⟩ := Dp.reads I _ y u he ry
  have h1 := prs_depthAll zs
  refine SeqAt.in_list_data r2 r1 (prs_plainAll zs) (pr_plain z) (by omega) ⟨.bl _, H, I, rfl, ?_⟩
  have e := PySem.W.any_datum (α := Int × Int) zs z
  rw [show ((zs.map prD).any fun y => PyData.eqv y (prD z)) = decide (z ∈ zs) from e.trans (decide_eq_decide.mpr Iff.rfl)]
  exact q
/-! ### pairs on the heap -/
/-- the pair z, none of the pool's -/
def PrAt (p : Addr) (H : Hp) (v : V) (z : Pr) : Prop := ∃ t, v = .ref t ∧ t ≠ p ∧ H t = some (.tup [.int z.1, .int z.2])
inductive PrsAt (p : Addr) (H : Hp) : List V → List Pr → Prop
  | nil : PrsAt p H [] []
  | cons {v : V} {z : Pr} {vs : List V} {zs : List Pr} (h : PrAt p H v z) (r : PrsAt p H vs zs) : PrsAt p H (v :: vs) (z :: zs)
section
variable {p : Addr} {H H' : Hp} {v : V} {z : Pr} {vs us : List V} {zs ys : List Pr} {K : PySem.W.Frag} {i : Nat}
theorem PrAt.keep (h : PrAt p H v z) (k : Keep p H H') : PrAt p H' v z := by
  obtain ⟨t, e, n, h⟩ := h
  exact ⟨t, e, n, k _ _ n h⟩
theorem PrsAt.keep (h : PrsAt p H vs zs) (k : Keep p H H') : PrsAt p H' vs zs := by
  induction h with
  | nil => exact .nil
  | cons h _ ih => exact .cons (h.keep k) ih
theorem PrsAt.mono (h : PrsAt p H vs zs) (k : ∀ t xs, H t = some (.tup xs) → H' t = some (.tup xs)) : PrsAt p H' vs zs := by
  induction h with
  | nil => exact .nil
  | cons h _ ih =>
    obtain ⟨t, e, n, h⟩ := h
    exact .cons ⟨t, e, n, k _ _ h⟩ ih
theorem PrsAt.mono2 (h : PrsAt p H vs zs) (k : ∀ t xs, t ≠ p → H t = some (.tup xs) → H' t = some (.tup xs)) : PrsAt p H' vs zs := by
  induction h with
  | nil => exact .nil
  | cons h _ ih =>
    obtain ⟨t, e, n, h⟩ := h
    exact .cons ⟨t, e, n, k _ _ n h⟩ ih
theorem r_rng3 {σ : L2.St} {ta : TA} {R : It → Hp → Prop} (h : ta σ H fun vs H1 => ∃ (i j c : Int) (n : Nat), vs = [.int i, .int j, .int c] ∧ RgC i j c n ∧ R (Itc i c n) H1) : iRng3 ta σ H R := h
theorem PrsAt.length (h : PrsAt p H vs zs) : vs.length = zs.length := by
  induction h with
  | nil => rfl
  | cons _ _ ih => rw [List.length_cons, List.length_cons, ih]
theorem PrAt.dp (h : PrAt p H v z) : Dp K H v (prD z) := by
  obtain ⟨t, rfl, n, h⟩ := h
  exact .tup (SqT.of h) (.cons (.int _) (.cons (.int _) .nil))
theorem PrsAt.dp (h : PrsAt p H vs zs) : DpAll K H vs (zs.map prD) := by
  induction h with
  | nil => exact .nil
  | cons h _ ih => exact .cons h.dp ih
theorem PrsAt.at (h : PrsAt p H vs zs) : ∀ {i : Nat} {v : V}, vs[i]? = some v → ∃ z, zs[i]? = some z ∧ PrAt p H v z := by
  induction h with
  | nil => intro i v e; simp at e
  | cons h _ ih =>
    intro i v e
    cases i with
    | zero => exact ⟨_, rfl, by cases (Option.some.inj e); exact h⟩
    | succ i => exact ih (by simpa using e)
theorem PrsAt.get (h : PrsAt p H vs zs) : ∀ {i : Nat} {z : Pr}, zs[i]? = some z → ∃ v, vs[i]? = some v ∧ PrAt p H v z := by
  induction h with
  | nil => intro i v e; simp at e
  | cons h _ ih =>
    intro i v e
    cases i with
    | zero => exact ⟨_, rfl, by cases (Option.some.inj e); exact h⟩
    | succ i => exact ih (by simpa using e)
theorem PrsAt.take (h : PrsAt p H vs zs) : ∀ n, PrsAt p H (vs.take n) (zs.take n) := by
  induction h with
  | nil => intro n; cases n <;> exact .nil
  | cons h _ ih =>
    intro n
    cases n with
    | zero => exact .nil
    | succ n => exact .cons h (ih n)
theorem PrsAt.drop (h : PrsAt p H vs zs) : ∀ n, PrsAt p H (vs.drop n) (zs.drop n) := by
  induction h with
  | nil => intro n; cases n <;> exact .nil
  | cons h r ih =>
    intro n
    cases n with
    | zero => exact .cons h r
    | succ n => exact ih n
theorem PrsAt.app (h : PrsAt p H vs zs) (g : PrsAt p H us ys) : PrsAt p H (vs ++ us) (zs ++ ys) := by
  induction h with
  | nil => exact g
  | cons h _ ih => exact .cons h ih
theorem PrsAt.set (h : PrsAt p H vs zs) (g : PrAt p H v z) : ∀ i, PrsAt p H (vs.set i v) (zs.set i z) := by
  induction h with
  | nil => intro i; exact .nil
  | cons h r ih =>
    intro i
    cases i with
    | zero => exact .cons g r
    | succ i => exact .cons h (ih i)
end
/-- a list of pairs, none of the pool's -/
structure PL (p : Addr) (H : Hp) (a : Addr) (zs : List Pr) : Prop where
  ne : a ≠ p
  ex : ∃ vs, H a = some (.lst vs) ∧ PrsAt p H vs zs
section
variable {p a : Addr} {H H' : Hp} {zs : List Pr} {K : PySem.W.Frag}
theorem PL.keep (h : PL p H a zs) (k : Keep p H H') : PL p H' a zs := by
  obtain ⟨n, vs, e, r⟩ := h
  exact ⟨n, vs, k _ _ n e, r.keep k⟩
theorem PL.same (h : PL p H a zs) (k : Same H H') : PL p H' a zs := h.keep (Keep.same k)
theorem PL.dp (h : PL p H a zs) : Dp K H (.ref a) (prsD zs) := by
  obtain ⟨n, vs, e, r⟩ := h
  exact .lst (SqL.of e) r.dp
end
/-! ### the order of lists of pairs -/
theorem prLt_tri (x y : Pr) (n : x ≠ y) : prLt x y = !prLt y x := by
  obtain ⟨a, b⟩ := x
  obtain ⟨c, d⟩ := y
  simp only [prLt]
  by_cases h1 : a < c
  · have : ¬ c < a := by omega
    have : ¬ c = a := by omega
    simp [h1, *]
  · by_cases h2 : a = c
    · subst h2
      have : b ≠ d := fun z => n (by rw [z])
      by_cases h3 : b < d
      · have : ¬ d < b := by omega
        simp [h3, this]
      · have : d < b := by omega
        simp [h3, this]
    · have : c < a := by omega
      simp [h1, h2, this]
theorem prLt_trans {x y z : Pr} (h : prLt x y = true) (g : prLt y z = true) : prLt x z = true := by
  simp only [prLt, Bool.or_eq_true, Bool.and_eq_true, decide_eq_true_eq] at *
  omega
theorem prLt_irr (x : Pr) : prLt x x = false := by simp [prLt]
theorem lexB_self : ∀ xs : List Pr, lexB xs xs = false
  | [] => rfl
  | x :: xs => by rw [lexB, if_pos rfl, lexB_self xs]
theorem lexB_tri : ∀ xs ys : List Pr, xs ≠ ys → lexB xs ys = !lexB ys xs
  | [], [], n => absurd rfl n
  | [], _ :: _, _ => rfl
  | _ :: _, [], _ => rfl
  | x :: xs, y :: ys, n => by
    rw [lexB, lexB]
    by_cases e : x = y
    · subst e
      rw [if_pos rfl, if_pos rfl]
      exact lexB_tri xs ys fun z => n (by rw [z])
    · rw [if_neg e, if_neg (Ne.symm e)]
      exact prLt_tri x y e
theorem lexB_trans : ∀ xs ys zs : List Pr, lexB xs ys = true → lexB ys zs = true → lexB xs zs = true
  | [], [], _, h, _ => by cases h
  | [], _ :: _, [], _, g => by cases g
  | [], _ :: _, _ :: _, _, _ => rfl
  | _ :: _, [], _, h, _ => by cases h
  | _ :: _, _ :: _, [], _, g => by cases g
  | x :: xs, y :: ys, z :: zs, h, g => by
    rw [lexB] at h g ⊢
    by_cases e : x = y
    · subst e
      rw [if_pos rfl] at h
      by_cases e2 : x = z
      · subst e2
        rw [if_pos rfl] at g ⊢
        exact lexB_trans xs ys zs h g
      · rw [if_neg e2] at g ⊢
        exact g
    · rw [if_neg e] at h
      by_cases e2 : y = z
      · subst e2
        rw [if_neg e]
        exact h
      · rw [if_neg e2] at g
        have t := prLt_trans h g
        have : x ≠ z := fun q => by rw [q, prLt_irr] at t; cases t
        rw [if_neg this]
        exact t
end Pk
set_option Elab.async false
set_option linter.all false
set_option maxRecDepth 100000
set_option maxHeartbeats 1000000
namespace Pk
open PySem L2 PySem.Spec PyProof.Rows
/-! ### what kind of data -/
def isID : PyData → Bool | .int _ => true | _ => false
def isIB : PyData → Bool | .int _ => true | .bool _ => true | _ => false
def isBD : PyData → Bool | .bool _ => true | _ => false
def isTD : PyData → Bool | .tuple _ => true | _ => false
def isLD : PyData → Bool | .list _ => true | _ => false
theorem kit_i (d : PyData) : kitB (kindOf d) "int" = some (isIB d) := by
  cases d with
  | none => exact (by decide +kernel : kitB "NoneType" "int" = some false)
  | bool b => exact (by decide +kernel : kitB "bool" "int" = some true)
  | int i => exact (by decide +kernel : kitB "int" "int" = some true)
  | str z => exact (by decide +kernel : kitB "str" "int" = some false)
  | list ds => exact (by decide +kernel : kitB "list" "int" = some false)
  | tuple ds => exact (by decide +kernel : kitB "tuple" "int" = some false)
  | dict kv => exact (by decide +kernel : kitB "object" "int" = some false)
theorem kit_b (d : PyData) : kitB (kindOf d) "bool" = some (isBD d) := by
  cases d with
  | none => exact (by decide +kernel : kitB "NoneType" "bool" = some false)
  | bool b => exact (by decide +kernel : kitB "bool" "bool" = some true)
  | int i => exact (by decide +kernel : kitB "int" "bool" = some false)
  | str z => exact (by decide +kernel : kitB "str" "bool" = some false)
  | list ds => exact (by decide +kernel : kitB "list" "bool" = some false)
  | tuple ds => exact (by decide +kernel : kitB "tuple" "bool" = some false)
  | dict kv => exact (by decide +kernel : kitB "object" "bool" = some false)
theorem kit_t (d : PyData) : kitB (kindOf d) "tuple" = some (isTD d) := by
  cases d with
  | none => exact (by decide +kernel : kitB "NoneType" "tuple" = some false)
  | bool b => exact (by decide +kernel : kitB "bool" "tuple" = some false)
  | int i => exact (by decide +kernel : kitB "int" "tuple" = some false)
  | str z => exact (by decide +kernel : kitB "str" "tuple" = some false)
  | list ds => exact (by decide +kernel : kitB "list" "tuple" = some false)
  | tuple ds => exact (by decide +kernel : kitB "tuple" "tuple" = some true)
  | dict kv => exact (by decide +kernel : kitB "object" "tuple" = some false)
theorem kit_l (d : PyData) : kitB (kindOf d) "list" = some (isLD d) := by
  cases d with
  | none => exact (by decide +kernel : kitB "NoneType" "list" = some false)
  | bool b => exact (by decide +kernel : kitB "bool" "list" = some false)
  | int i => exact (by decide +kernel : kitB "int" "list" = some false)
  | str z => exact (by decide +kernel : kitB "str" "list" = some false)
  | list ds => exact (by decide +kernel : kitB "list" "list" = some true)
  | tuple ds => exact (by decide +kernel : kitB "tuple" "list" = some false)
  | dict kv => exact (by decide +kernel : kitB "object" "list" = some false)
section
variable {K : PySem.W.Frag} {H : Hp} {Q : VK} {v : V} {d : PyData} {ds : List PyData}
theorem r_isDI (h : Dp K H v d) (q : Q (.bl (isIB d)) H) : rIsi K [v, .ty "int"] H Q := r_isi (Dp.kind h) (kit_i d) q
theorem r_isDB (h : Dp K H v d) (q : Q (.bl (isBD d)) H) : rIsi K [v, .ty "bool"] H Q := r_isi (Dp.kind h) (kit_b d) q
theorem r_isDT (h : Dp K H v d) (q : Q (.bl (isTD d)) H) : rIsi K [v, .ty "tuple"] H Q := r_isi (Dp.kind h) (kit_t d) q
theorem r_isDL (h : Dp K H v d) (q : Q (.bl (isLD d)) H) : rIsi K [v, .ty "list"] H Q := r_isi (Dp.kind h) (kit_l d) q
theorem Dp.tupAt (h : Dp K H v (.tuple ds)) : ∃ t vs, v = .ref t ∧ SqT K H t vs ∧ DpAll K H vs ds := by
  cases h with
  | tup h1 h2 => exact ⟨_, _, rfl, h1, h2⟩
theorem Dp.lstAt (h : Dp K H v (.list ds)) : ∃ t vs, v = .ref t ∧ SqL K H t vs ∧ DpAll K H vs ds := by
  cases h with
  | lst h1 h2 => exact ⟨_, _, rfl, h1, h2⟩
theorem DpAll.len : ∀ {vs : List V} {ds : List PyData}, DpAll K H vs ds → vs.length = ds.length
  | _, _, .nil => rfl
  | _, _, .cons _ t => by rw [List.length_cons, List.length_cons, DpAll.len t]
theorem DpAll.at : ∀ {vs : List V} {ds : List PyData}, DpAll K H vs ds → ∀ {i : Nat} {v : V}, vs[i]? = some v → ∃ d, ds[i]? = some d ∧ Dp K H v d
  | _, _, .nil, i, v, e => by simp at e
  | _, _, .cons h t, 0, v, e => ⟨_, rfl, by cases (Option.some.inj e); exact h⟩
  | _, _, .cons h t, i + 1, v, e => DpAll.at t (by simpa using e)
theorem DpAll.get : ∀ {vs : List V} {ds : List PyData}, DpAll K H vs ds → ∀ {i : Nat} {d : PyData}, ds[i]? = some d → ∃ v, vs[i]? = some v ∧ Dp K H v d
  | _, _, .nil, i, v, e => by simp at e
  | _, _, .cons h t, 0, v, e => ⟨_, rfl, by cases (Option.some.inj e); exact h⟩
  | _, _, .cons h t, i + 1, v, e => DpAll.get t (by simpa using e)
theorem DpAll.take : ∀ {vs : List V} {ds : List PyData}, DpAll K H vs ds → ∀ n, DpAll K H (vs.take n) (ds.take n)
  | _, _, .nil, n => by cases n <;> exact .nil
  | _, _, .cons h t, 0 => .nil
  | _, _, .cons h t, n + 1 => .cons h (DpAll.take t n)
theorem DpAll.drop : ∀ {vs : List V} {ds : List PyData}, DpAll K H vs ds → ∀ n, DpAll K H (vs.drop n) (ds.drop n)
  | _, _, .nil, n => by cases n <;> exact .nil
  | _, _, .cons h t, 0 => .cons h t
  | _, _, .cons h t, n + 1 => DpAll.drop t n
theorem DpAll.app : ∀ {vs us : List V} {ds es : List PyData}, DpAll K H vs ds → DpAll K H us es → DpAll K H (vs ++ us) (ds ++ es)
  | _, _, _, _, .nil, g => g
  | _, _, _, _, .cons h t, g => .cons h (DpAll.app t g)
end
/-! ### in a list, over data; a list of data that can be compared -/
structure Small (ds : List PyData) : Prop where
  plain : PyData.plainAll ds = true
  deep : PyData.depthAll ds ≤ 8
def rInD (K : PySem.W.Frag) (neg : Bool) : R2 := fun x y H Q => ∃ d ds, Dp K H x d ∧ Dp K H y (.list ds) ∧ d.plain = true ∧ Small ds ∧ Q (.bl (if neg then !(ds.any fun e => PyData.eqv e d) else ds.any fun e => PyData.eqv e d)) H
theorem op_inD {X : Cx} (hu : X.A.units + 64 < cLine) : OpR X (compareOp .In) (rInD X.K false) := by
  intro pins s σ H x y v u Q I rx ry h
  obtain ⟨d, ds, hd, he, pd, sm, q⟩ := h
  obtain ⟨as, r1⟩ := Dp.reads I _ x v hd rx
  obtain ⟨bs, r2⟩ := Dp.reads I _ y u he ry
  have h1 := sm.deep
  exact SeqAt.in_list_data r2 r1 sm.plain pd (by omega) ⟨.bl _, H, I, rfl, q⟩
end Pk
set_option Elab.async false
set_option linter.all false
set_option maxRecDepth 100000
set_option maxHeartbeats 1000000
namespace Pk
open PySem L2 PySem.Spec PyProof.Rows
/-! ### an object is made where what is raised is wished for at the caller's slots -/
def tMakeS (C : Addr) (sp : Sp) (E : L2.St → XK) (t : TA) : TE := fun σ H Q => t σ H fun zs H1 => ∀ y dy, H1 y = none → H1 dy = none → dy ≠ y →
  sp (.ref y :: zs) (upd (upd H1 dy (.own y)) y (.ins C dy [])) (fun r H2 => r = .non ∧ Q (.ref y) H2) (E σ)
theorem r_makeS {C : Addr} {sp : Sp} {E : L2.St → XK} {t : TA} {σ : L2.St} {H : Hp} {Q : VK} (h : t σ H fun zs H1 => ∀ y dy, H1 y = none → H1 dy = none → dy ≠ y → sp (.ref y :: zs) (upd (upd H1 dy (.own y)) y (.ins C dy [])) (fun r H2 => r = .non ∧ Q (.ref y) H2) (E σ)) : tMakeS C sp E t σ H Q := h
section
variable {X : Cx} {CX : CXT} {k : Nat} {f C : Addr} {fd : FuncData} {ps : List Str} {sp : Sp} {E : L2.St → XK}
theorem made_at {pins : List (Addr × Obj)} {τ : L2.St} {G : Hp} {sh : Shared} {R : VK} {as : List Value} {zs : List V} (mk : Mk X.K C f) (ok : FnOk X.prog X.w X.K X.mg X.base CX k f fd ps sp) (room : Room (k + 1) X.A) (bd : Binds X.K fd ps []) (px : PassesAt CX X τ (E τ)) (J : Inv X pins τ G sh) (rl : Vals zs as)
    (want : ∀ y dy, G y = none → G dy = none → dy ≠ y → sp (.ref y :: zs) (upd (upd G dy (.own y)) y (.ins C dy [])) (fun r H2 => r = .non ∧ R (.ref y) H2) (E τ)) : wpAny (model X.prog X.w) X.A (call (.ref C) as) (EP X pins τ R) X.xe sh := by
  have w1 := want (sh.heap.objs.size + 1) sh.heap.objs.size (J.hok.fresh (Nat.le_succ _)) (J.hok.fresh (Nat.le_refl _)) (Nat.ne_of_lt (Nat.lt_succ_self _))
  have J2 := Inv.made (C := C) J
  have rl2 : Vals (V.ref (sh.heap.objs.size + 1) :: zs) (Value.ref (sh.heap.objs.size + 1) :: as) := .cons rfl rl
  have len : (Value.ref (sh.heap.objs.size + 1) :: as ++ []).length = ps.length := by
    rw [List.append_nil]
    exact rl2.length.symm.trans (ok.len _ _ _ _ w1)
  have b2 := bd _ (Value.ref (sh.heap.objs.size + 1) :: as) J2.kIn len
  rw [List.append_nil] at b2
  refine wpAny_call (make_map (f := f) J.kIn mk.makes mk.init (beq_iff_eq.mp mk.fn) (codeAny_mono (ok.run _ X.stack _ _ ⟨Value.ref (sh.heap.objs.size + 1) :: as, []⟩
    (Value.ref (sh.heap.objs.size + 1) :: as) _ _ (E τ) (room.make C as []) (J2.env0.make C as []) b2 rl2 w1) fun fin t ht => ?_))
  rcases fin with er | fl
  · exact px pins _ _ er t J2 ht
  · cases fl with
    | ret u =>
      obtain ⟨r, G', J3, rr, er, q3⟩ := J2.after ht
      subst er
      exact ⟨rr, ⟨V.ref (sh.heap.objs.size + 1), G', J3, rfl, q3⟩⟩
    | next => exact ht.elim
    | brk => exact ht.elim
    | cont => exact ht.elim
end
theorem pe_dkS {X : Cx} {W : WX} {x : Str} {k j : Nat} {ps : List Str} {sp : Sp} {e : Expr} {es : List Expr} {t : TA} {p pos : Pos} {C : Addr} (tk : Takes X W) (D : Dk X.prog X.w X.K X.mg X.base (L2.CX X.prog X.w) x k ps sp C) (hr : Room j X.A) (l : k + 1 ≤ j) (ha : PA X (e :: es) t) (hg : Gl X x := by rfl)
    (hdb : (x == ("__debug__" : Str)) = false := by decide) (he : starEach (e :: es) X.env = (false, eval e X.env) :: starEach es X.env := by rfl) (hpl : (backTo pos (starEach es X.env)).any (·.1) = false := by rfl) : PE X (.Call (.Name x p) (e :: es) [] pos) (tMakeS C sp (WE W) t) := by
  obtain ⟨_, _, D⟩ := D
  refine ⟨fun pins s σ H Q J h => ?_⟩
  refine wpAny_Call_Name_kw (ld_glob J hg D.at_ ?_ hdb)
  refine PySem.W.callWith_K (h₀ := X.base) J.ok.mod.kin D.mkc.kp (thn (ha.run pos pins s σ H _ J h) fun us s1 ⟨vs, H1, J1, r, q⟩ => ⟨J1.kIn, ?_⟩) he hpl
  exact made_at D.mkc D.ok (hr.mono l) D.bd (passAt tk σ) J1 r q
end Pk
set_option Elab.async false
set_option linter.all false
set_option maxRecDepth 100000
set_option maxHeartbeats 1000000
namespace Pk
open PySem L2 PySem.Spec PyProof.Rows
/-! ### loops, whatever stands in them -/
theorem lc_any {J : It} {n : Nat} {G : Hp → Prop} {Y : Nat → Hp → V → Hp → Prop} (w : Walk J n G Y) {B : (Hp → Prop) → V → Hp → Prop} {H0 : Hp} {Qd : Hp → Prop} (Pv : Nat → Hp → Prop) (h0 : Pv 0 H0) (hG : ∀ i H, i ≤ n → Pv i H → G H)
    (hs : ∀ i x H H', i < n → Pv i H → Y i H x H' → B (Pv (i + 1)) x H') (hd : ∀ H, Pv n H → Qd H) : ∃ W : Nat → Nat → Hp → Prop, (∃ m, W 0 m H0) ∧ ∀ i m H, W i m H →
      (J.stop i H ∧ Qd H) ∨ (J.go i H ∧ ∃ Nx : Hp → Prop, (∀ H', Nx H' → ∃ m', m' < m ∧ W (i + 1) m' H') ∧ ∀ x H', J.yld i H x H' → B Nx x H') := by
  refine ⟨fun i m H => m = n - i ∧ i ≤ n ∧ Pv i H, ⟨n, (Nat.sub_zero n).symm, Nat.zero_le _, h0⟩, fun i m H hw => ?_⟩
  obtain ⟨rfl, hi, p⟩ := hw
  rcases Nat.lt_or_ge i n with lt | ge
  · refine .inr ⟨w.goes i H lt (hG i H hi p), Pv (i + 1), fun H' p' => ⟨n - (i + 1), by omega, rfl, lt, p'⟩, fun x H' y => ?_⟩
    exact hs i x H H' lt p (w.yields i H x H' lt (hG i H hi p) y)
  · obtain rfl : i = n := Nat.le_antisymm hi ge
    exact .inl ⟨w.stops H (hG _ H hi p), hd H p⟩
theorem r_lc2 {wi wi1 : TI} {g g1 : TG} {tt tt1 : TT} {te : TE} {vs vs1 : List Nat} {σ : L2.St} {H : Hp} {Q : VK} (h : wi σ H fun J H1 => ∀ D, H1 D = none → ∃ W : Nat → Nat → Hp → Prop, (∃ m, W 0 m (upd H1 D (.lst []))) ∧ ∀ i m H, W i m H →
  (J.stop i H ∧ Q (.ref D) H) ∨ (J.go i H ∧ ∃ Nx : Hp → Prop, (∀ H', Nx H' → ∃ m', m' < m ∧ W (i + 1) m' H') ∧ ∀ x H', J.yld i H x H' → g x (wipe σ vs) H' fun σ2 H2 => wipe σ2 vs = wipe σ vs ∧ tt σ2 H2 fun b H3 =>
    if b = true then wi1 σ2 H3 fun J1 H4 => ∃ W1 : Nat → Nat → Hp → Prop, (∃ m, W1 0 m H4) ∧ ∀ j k H, W1 j k H →
      (J1.stop j H ∧ Nx H) ∨ (J1.go j H ∧ ∃ Nx1 : Hp → Prop, (∀ H', Nx1 H' → ∃ k', k' < k ∧ W1 (j + 1) k' H') ∧ ∀ x H', J1.yld j H x H' → g1 x (wipe σ2 vs1) H' fun σ3 H5 => wipe σ3 vs1 = wipe σ2 vs1 ∧ tt1 σ3 H5 fun b H6 =>
        if b = true then te σ3 H6 fun y H7 => ∃ acc, H7 D = some (.lst acc) ∧ acc.length < sizeLine ∧ Nx1 (upd H7 D (.lst (acc ++ [y]))) else Nx1 H6)
    else Nx H3)) : tLc2 wi g tt wi1 g1 tt1 te vs vs1 σ H Q := h
/-! ### a part of the heap -/
/-- all of G was not tracked in H -/
def Fresh (H G : Hp) : Prop := ∀ a o, G a = some o → H a = none
theorem Fresh.off {H G : Hp} {b : Addr} {o : HO} (f : Fresh H G) (h : H b = some o) : G b = none := by
  cases e : G b with
  | none => rfl
  | some u => rw [f b u e] at h; cases h
theorem Fresh.back {H0 H G : Hp} (f : Fresh H G) (s : Same H0 H) : Fresh H0 G := fun a o e => s.free (f a o e)
theorem Same.part {G H H' : Hp} {b : Addr} (s : Same G H) (n : G b = none) (k : Keep b H H') : Same G H' := fun a o e => k a o (fun z => by rw [z, n] at e; cases e) (s a o e)
theorem Same.upOff {G H : Hp} {b : Addr} {o : HO} (s : Same G H) (n : G b = none) : Same G (upd H b o) := fun a u e => by
  rw [upd_ne (fun z => by rw [z, n] at e; cases e)]
  exact s a u e
/-! ### tables -/
abbrev Rw := List (List (Option Int))
def pV : Option Int → V
  | .none => .non
  | .some i => .int i
def pD : Option Int → PyData
  | .none => .none
  | .some i => .int i
def rowD (r : List (Option Int)) : PyData := .list (r.map pD)
def rowsD (R : Rw) : PyData := .list (R.map rowD)
def wd (R : Rw) : Nat := (R.headD []).length
def prc (R : Rw) (i j : Nat) : Option Int := (R.getD i []).getD j none
/-- the pairs, in ascending order -/
def cells (R : Rw) : List Pr := (List.range R.length).flatMap fun i => ((List.range (wd R)).filter fun j => (prc R i j).isSome).map fun (j : Nat) => (((i : Nat) : Int), (j : Int))
structure Gt (R : Rw) : Prop where
  h0 : 0 < R.length
  h8 : R.length ≤ 8
  w0 : 0 < wd R
  w8 : wd R ≤ 8
  sq : ∀ r, r ∈ R → r.length = wd R
instance : PySem.W.Datum (Option Int) where
  toD := pD
  plain z := by cases z <;> rfl
  eqv a b := by cases a <;> cases b <;> simp [pD, PyData.eqv, PySem.W.beq_decide]
  depth := 0
  depth_le z := by cases z <;> simp [pD, PyData.depth]
theorem rows_eqv (R S : Rw) : PyData.eqv (rowsD R) (rowsD S) = decide (R = S) := PySem.W.Datum.eqv (α := List (List (Option Int))) R S
theorem row_depthAll : ∀ r : List (Option Int), PyData.depthAll (r.map pD) = 0
  | [] => by simp [PyData.depthAll]
  | z :: r => by cases z <;> simp [PyData.depthAll, PyData.depth, pD, row_depthAll r]
theorem row_depth (r : List (Option Int)) : (rowD r).depth = 1 := by simp [rowD, PyData.depth, row_depthAll r]
theorem rows_depthAll : ∀ R : Rw, PyData.depthAll (R.map rowD) ≤ 1
  | [] => by simp [PyData.depthAll]
  | r :: R => by
    have h1 := rows_depthAll R
    simp only [List.map_cons, PyData.depthAll, row_depth]
    omega
theorem rows_depth (R : Rw) : (rowsD R).depth ≤ 2 := by
  have h := rows_depthAll R
  simp only [rowsD, PyData.depth]
  omega
theorem row_layAll : ∀ r : List (Option Int), PyData.canLayAll0 (r.map pD) = true
  | [] => by simp [PyData.canLayAll0]
  | z :: r => by cases z <;> simp [PyData.canLayAll0, PyData.canLay0, pD, row_layAll r]
theorem row_lay (r : List (Option Int)) : (rowD r).canLay0 = true := by simp [rowD, PyData.canLay0, row_layAll r]
theorem rows_layAll : ∀ R : Rw, PyData.canLayAll0 (R.map rowD) = true
  | [] => by simp [PyData.canLayAll0]
  | r :: R => by simp [PyData.canLayAll0, rows_layAll R, row_lay r]
theorem rows_shaped (R : Rw) : SeqAt.shaped (rowsD R) = true := by
  have h := rows_depth R
  have e : (rowsD R).canLay0 = true := by simp only [rowsD, PyData.canLay0]; exact rows_layAll R
  simp only [SeqAt.shaped, e, Bool.true_and]
  exact decide_eq_true (by omega)
theorem rows_plain (R : Rw) : (rowsD R).plain = true := PySem.W.Datum.plain (α := List (List (Option Int))) R
theorem pV_dp {K : PySem.W.Frag} {H : Hp} (z : Option Int) : Dp K H (pV z) (pD z) := by
  cases z
  · exact .non
  · exact .int _
theorem row_dp {K : PySem.W.Frag} {H : Hp} (r : List (Option Int)) : DpAll K H (r.map pV) (r.map pD) := by
  induction r with
  | nil => exact .nil
  | cons z r ih => exact .cons (pV_dp z) ih
theorem deep_pD (z : Option Int) {n : Nat} : Deep n (pD z) := by
  cases z
  · exact .non
  · exact .int _
theorem deep_row {r : List (Option Int)} (h : r.length ≤ 1000) : Deep 1 (rowD r) := .lst (fun d hd => by
  obtain ⟨z, _, rfl⟩ := List.mem_map.mp hd
  exact deep_pD z) (by rw [List.length_map]; exact h)
theorem Gt.len {R : Rw} (g : Gt R) {i : Nat} (h : i < R.length) : R[i].length = wd R := g.sq _ (List.getElem_mem h)
theorem Gt.getD {R : Rw} (g : Gt R) {i : Nat} (h : i < R.length) : R.getD i [] = R[i] := by
  rw [List.getD_eq_getElem?_getD, List.getElem?_eq_getElem h]
  rfl
theorem deep_rows {R : Rw} (g : Gt R) : Deep 2 (rowsD R) := .lst (fun d hd => by
  obtain ⟨r, hr, rfl⟩ := List.mem_map.mp hd
  have h1 := g.sq r hr
  have h2 := g.w8
  exact deep_row (by omega)) (by rw [List.length_map]; have := g.h8; omega)
/-- a list of rows, each a list of its own -/
structure RL (G : Hp) (e : Addr) (es : List V) (R : Rw) : Prop where
  at_ : G e = some (.lst es)
  len : es.length = R.length
  row : ∀ i v, es[i]? = some v → ∃ a, v = .ref a ∧ G a = some (.lst ((R.getD i []).map pV))
theorem RL.same {G H : Hp} {e : Addr} {es : List V} {R : Rw} (l : RL G e es R) (s : Same G H) : RL H e es R := ⟨s _ _ l.at_, l.len, fun i v h => by
  obtain ⟨a, e1, e2⟩ := l.row i v h
  exact ⟨a, e1, s _ _ e2⟩⟩
theorem RL.get {G : Hp} {e : Addr} {es : List V} {R : Rw} (l : RL G e es R) {i : Nat} (h : i < R.length) : ∃ a, es[i]? = some (.ref a) ∧ G a = some (.lst ((R.getD i []).map pV)) := by
  have hi : i < es.length := by rw [l.len]; exact h
  obtain ⟨a, e1, e2⟩ := l.row i _ (List.getElem?_eq_getElem hi)
  exact ⟨a, by rw [List.getElem?_eq_getElem hi, e1], e2⟩
theorem RL.all {K : PySem.W.Frag} {G : Hp} {e : Addr} {es : List V} {R : Rw} (l : RL G e es R) : DpAll K G es (R.map rowD) := by
  refine dpAll_of (by rw [List.length_map]; exact l.len) fun i v d hv hd => ?_
  obtain ⟨a, rfl, h⟩ := l.row i v hv
  rw [List.getElem?_map] at hd
  cases q : R[i]? with
  | none => rw [q] at hd; cases hd
  | some r =>
    rw [q] at hd
    cases (Option.some.inj hd)
    rw [List.getD_eq_getElem?_getD, q] at h
    exact .lst (SqL.of h) (row_dp r)
theorem RL.dp {K : PySem.W.Frag} {G : Hp} {e : Addr} {es : List V} {R : Rw} (l : RL G e es R) : Dp K G (.ref e) (rowsD R) := .lst (SqL.of l.at_) l.all
/-- the table at x, whose parts are all in G -/
structure TbX (C : Addr) (G : Hp) (x : Addr) (R : Rw) : Prop where
  g : Gt R
  ex : ∃ dx e u es, G x = some (.ins C dx [("entries", .ref e), ("used", .ref u)]) ∧ RL G e es R ∧ PL x G u (cells R)
theorem pr_at {R : Rw} {i j : Nat} (hi : i < R.length) (hj : j < wd R) : (R.getD i []).length = R[i].length := by
  rw [List.getD_eq_getElem?_getD, List.getElem?_eq_getElem hi]
  rfl
theorem prc_get {R : Rw} (g : Gt R) {i j : Nat} (hi : i < R.length) (hj : j < wd R) : ((R.getD i []).map pV)[j]? = some (pV (prc R i j)) := by
  have l : j < (R.getD i []).length := by rw [g.getD hi, g.len hi]; exact hj
  rw [List.getElem?_map, List.getElem?_eq_getElem l, prc, List.getD_eq_getElem?_getD (l := R.getD i []), List.getElem?_eq_getElem l]
  rfl
/-! ### over data -/
def priceD : PyData → Bool
  | .none => true
  | .int _ => true
  | _ => false
theorem price_inv {d : PyData} (h : priceD d = true) : ∃ z, d = pD z := by
  cases d with
  | none => exact ⟨none, rfl⟩
  | int i => exact ⟨some i, rfl⟩
  | _ => cases h
/-- a list of 1 to 8 prices, as many as the other list has entries -/
def rowOk : PyData → PyData → Bool
  | .list ds, .list es => decide (1 ≤ ds.length) && decide (ds.length ≤ 8) && decide (ds.length = es.length) && ds.all priceD
  | _, _ => false
def firstRow (ds : List PyData) : Option Nat := (List.range ds.length).find? fun i => !rowOk (ds.getD i .none) (ds.getD 0 .none)
/-- what is told of a value as rows: none where it is good -/
def badT : PyData → Option Int
  | .list ds => if ds.length = 0 ∨ 8 < ds.length then some (-1) else (firstRow ds).map Int.ofNat
  | _ => some (-1)
theorem badT_no {d : PyData} (h : isLD d = false) : badT d = some (-1) := by
  cases d with
  | list ds => cases h
  | _ => rfl
theorem firstRow_some {ds : List PyData} {i : Nat} (hi : i < ds.length) (h : ∀ j, j < i → rowOk (ds.getD j .none) (ds.getD 0 .none) = true) (b : rowOk (ds.getD i .none) (ds.getD 0 .none) = false) : firstRow ds = some i := by
  unfold firstRow
  rw [List.find?_range_eq_some]
  exact ⟨by rw [b]; rfl, by simpa using hi, fun j hj => by rw [h j hj]; rfl⟩
theorem firstRow_none {ds : List PyData} (h : ∀ j, j < ds.length → rowOk (ds.getD j .none) (ds.getD 0 .none) = true) : firstRow ds = none := by
  unfold firstRow
  rw [List.find?_eq_none]
  intro j hj
  rw [h j (by simpa using hj)]
  decide
theorem firstRow_all {ds : List PyData} (h : firstRow ds = none) {j : Nat} (hj : j < ds.length) : rowOk (ds.getD j .none) (ds.getD 0 .none) = true := by
  unfold firstRow at h
  rw [List.find?_eq_none] at h
  have := h j (by simpa using hj)
  simpa using this
theorem all_prices {r : List (Option Int)} : (r.map pD).all priceD = true := by
  rw [List.all_map, List.all_eq_true]
  intro z _
  cases z <;> rfl
theorem prices_inv {ds : List PyData} (h : ds.all priceD = true) : ∃ r : List (Option Int), ds = r.map pD := by
  induction ds with
  | nil => exact ⟨[], rfl⟩
  | cons d ds ih =>
    rw [List.all_cons, Bool.and_eq_true] at h
    obtain ⟨z, rfl⟩ := price_inv h.1
    obtain ⟨r, rfl⟩ := ih h.2
    exact ⟨z :: r, rfl⟩
theorem row_okD {R : Rw} (g : Gt R) {i : Nat} (hi : i < R.length) : rowOk ((R.map rowD).getD i .none) ((R.map rowD).getD 0 .none) = true := by
  have e : ∀ k (hk : k < R.length), (R.map rowD).getD k .none = rowD R[k] := fun k hk => by
    rw [List.getD_eq_getElem?_getD, List.getElem?_map, List.getElem?_eq_getElem hk]
    rfl
  rw [e i hi, e 0 g.h0]
  have l1 := g.len hi
  have l2 := g.len g.h0
  have h1 := g.w0
  have h2 := g.w8
  simp only [rowD, rowOk, List.length_map, l1, l2, all_prices, Bool.and_eq_true, decide_eq_true_eq, and_true]
  omega
theorem badT_good {R : Rw} (g : Gt R) : badT (rowsD R) = none := by
  have h0 := g.h0
  have h8 := g.h8
  show (if (R.map rowD).length = 0 ∨ 8 < (R.map rowD).length then some (-1) else (firstRow (R.map rowD)).map Int.ofNat) = none
  rw [if_neg (by rw [List.length_map]; omega), firstRow_none (fun j hj => row_okD g (by simpa using hj))]
  rfl
/-- what is good is a table's rows -/
theorem badT_inv {d : PyData} (h : badT d = none) : ∃ R, d = rowsD R ∧ Gt R := by
  cases d with
  | list ds =>
    by_cases c : ds.length = 0 ∨ 8 < ds.length
    · have : badT (.list ds) = some (-1) := if_pos c
      rw [this] at h
      cases h
    · have hb : badT (.list ds) = (firstRow ds).map Int.ofNat := if_neg c
      rw [hb] at h
      have hf : firstRow ds = none := by
        cases e : firstRow ds with
        | none => rfl
        | some k => rw [e] at h; cases h
      have all := fun {j} (hj : j < ds.length) => firstRow_all hf hj
      have rows : ∀ d, d ∈ ds → ∃ r : List (Option Int), d = rowD r ∧ 1 ≤ r.length ∧ r.length ≤ 8 ∧ ∀ es, ds.getD 0 .none = .list es → r.length = es.length := by
        intro d hd
        obtain ⟨j, hj, rfl⟩ := List.getElem_of_mem hd
        have a := all hj
        rw [List.getD_eq_getElem?_getD (l := ds) (i := j), List.getElem?_eq_getElem hj] at a
        simp only [Option.getD_some] at a
        cases e1 : ds[j] with
        | list xs =>
          cases e2 : ds.getD 0 .none with
          | list es =>
            rw [e1, e2] at a
            simp only [rowOk, Bool.and_eq_true, decide_eq_true_eq] at a
            obtain ⟨⟨⟨a1, a2⟩, a3⟩, a4⟩ := a
            obtain ⟨r, rfl⟩ := prices_inv a4
            rw [List.length_map] at a1 a2 a3
            exact ⟨r, rfl, a1, a2, fun fs q => by cases q; exact a3⟩
          | _ => rw [e1, e2] at a; cases a
        | _ => rw [e1] at a; cases a
      have ex : ∃ R : Rw, ds = R.map rowD := by
        have : ∀ es : List PyData, (∀ d, d ∈ es → ∃ r : List (Option Int), d = rowD r) → ∃ R : Rw, es = R.map rowD := by
          intro es
          induction es with
          | nil => intro _; exact ⟨[], rfl⟩
          | cons d es ih =>
            intro k
            obtain ⟨r, rfl⟩ := k d List.mem_cons_self
            obtain ⟨R, rfl⟩ := ih fun e he => k e (List.mem_cons_of_mem _ he)
            exact ⟨r :: R, rfl⟩
        exact this ds fun d hd => by
          obtain ⟨r, e, _⟩ := rows d hd
          exact ⟨r, e⟩
      obtain ⟨R, rfl⟩ := ex
      rw [List.length_map] at c
      refine ⟨R, rfl, ?_⟩
      have hR : 0 < R.length := by omega
      have e0 : (R.map rowD).getD 0 .none = rowD R[0] := by
        rw [List.getD_eq_getElem?_getD, List.getElem?_map, List.getElem?_eq_getElem hR]
        rfl
      have w : wd R = R[0].length := by
        cases R with
        | nil => cases hR
        | cons r R => rfl
      have one : ∀ r, r ∈ R → 1 ≤ r.length ∧ r.length ≤ 8 ∧ r.length = wd R := by
        intro r hr
        obtain ⟨r', e, b1, b2, b3⟩ := rows (rowD r) (List.mem_map.mpr ⟨r, hr, rfl⟩)
        have l : r.length = r'.length := by
          have := PyData.list.inj e
          have := congrArg List.length this
          simpa using this
        have := b3 _ e0
        rw [List.length_map] at this
        exact ⟨by omega, by omega, by omega⟩
      have o := one _ (List.getElem_mem hR)
      exact ⟨hR, by omega, by omega, by omega, fun r hr => (one r hr).2.2⟩
  | _ => cases h
/-- a tuple of two ints -/
def twoD : PyData → Bool
  | .tuple [.int _, .int _] => true
  | _ => false
theorem twoD_inv {d : PyData} (h : twoD d = true) : ∃ a b, d = .tuple [.int a, .int b] := by
  unfold twoD at h
  split at h
  · exact ⟨_, _, rfl⟩
  · cases h
/-- a cell of the table -/
def cellD (R : Rw) : PyData → Bool
  | .tuple [.int a, .int b] => decide (0 ≤ a) && decide (a < R.length) && decide (0 ≤ b) && decide (b < wd R)
  | _ => false
theorem cellD_no {R : Rw} {d : PyData} (h : twoD d = false) : cellD R d = false := by
  unfold cellD
  split
  · rename_i a b
    exact absurd (show twoD (.tuple [.int a, .int b]) = true from rfl) (by rw [h]; decide)
  · rfl
theorem cellD_inv {R : Rw} {d : PyData} (h : cellD R d = true) : ∃ i j : Nat, d = prD ((i : Int), (j : Int)) ∧ i < R.length ∧ j < wd R := by
  unfold cellD at h
  split at h
  · rename_i a b
    simp only [Bool.and_eq_true, decide_eq_true_eq] at h
    obtain ⟨⟨⟨h1, h2⟩, h3⟩, h4⟩ := h
    refine ⟨a.toNat, b.toNat, ?_, by omega, by omega⟩
    rw [show ((a.toNat : Nat) : Int) = a by omega, show ((b.toNat : Nat) : Int) = b by omega]
    rfl
  · cases h
/-- its price, where it is a cell -/
def cellP (R : Rw) : PyData → Option Int
  | .tuple [.int a, .int b] => prc R a.toNat b.toNat
  | _ => none
theorem mem_cells {R : Rw} {i j : Nat} : ((i : Int), (j : Int)) ∈ cells R ↔ i < R.length ∧ j < wd R ∧ (prc R i j).isSome = true := by
  simp only [cells, List.mem_flatMap, List.mem_range, List.mem_map, List.mem_filter, Prod.mk.injEq]
  constructor
  · rintro ⟨a, ha, b, ⟨hb, hp⟩, e1, e2⟩
    have : a = i := by omega
    have : b = j := by omega
    subst_vars
    exact ⟨ha, hb, hp⟩
  · rintro ⟨ha, hb, hp⟩
    exact ⟨i, ha, j, ⟨hb, hp⟩, rfl, rfl⟩
end Pk
set_option Elab.async false
set_option linter.all false
set_option maxRecDepth 100000
set_option maxHeartbeats 1000000
namespace Pk
open PySem L2 PySem.Spec PyProof.Rows
/-! ### a cut behind a statement -/
theorem r_cut {t u : TS} {D : Ends} {σ : L2.St} {H : Hp} (Mid : L2.St → Hp → Prop) (h1 : t { D with nx := Mid } σ H) (h2 : ∀ σ' H', Mid σ' H' → u D σ' H') : C8.tCut t u D σ H := ⟨Mid, h1, h2⟩
/-! ### the pool, further -/
theorem PoolAt.sameS {H H' : Hp} {p c : Addr} {ns : List Int} (h : PoolAt H p c ns) (s : Same H H') : PoolAt H' p c ns := by
  obtain ⟨a, b, z, n, h0, hP, hC⟩ := h
  exact ⟨a, b, z, n, h0, s _ _ hP, s _ _ hC⟩
theorem PoolAt.off {H : Hp} {p c D : Addr} {ns : List Int} {o : HO} (h : PoolAt H p c ns) (n1 : D ≠ p) (n2 : D ≠ c) : PoolAt (upd H D o) p c ns := by
  obtain ⟨a, b, z, n, h0, hP, hC⟩ := h
  exact ⟨a, b, z, n, h0, by rw [upd_ne (Ne.symm n1)]; exact hP, by rw [upd_ne (Ne.symm n2)]; exact hC⟩
theorem PoolAt.ex {H : Hp} {p c : Addr} {ns : List Int} (h : PoolAt H p c ns) : ∃ o, H p = some o := by
  obtain ⟨a, b, z, n, h0, hP, hC⟩ := h
  exact ⟨_, hP⟩
theorem PoolAt.exC {H : Hp} {p c : Addr} {ns : List Int} (h : PoolAt H p c ns) : ∃ o, H c = some o := by
  obtain ⟨a, b, z, n, h0, hP, hC⟩ := h
  exact ⟨_, hC⟩
theorem Keep.free {p a : Addr} {H H' : Hp} (k : Keep p H H') (n : H' a = none) (np : a ≠ p) : H a = none := by
  cases e : H a with
  | none => rfl
  | some o => rw [k a o np e] at n; cases n
theorem Keep.put {p D : Addr} {H H' : Hp} {o : HO} (k : Keep p H H') (n : H D = none) : Keep p H (upd H' D o) := fun b u nb e => by
  rw [upd_ne (fun z => by rw [z, n] at e; cases e)]
  exact k b u nb e
/-! ### prices that are drawn -/
def Sb (i : Int) : Prop := i.natAbs < 2 ^ 100
def Sz (i : Int) : Prop := i.natAbs < 2 ^ 204
theorem Sb.mul {a b : Int} (h : Sb a) (g : Sb b) : (a * b).natAbs < 2 ^ 200 := by
  rw [Int.natAbs_mul]
  have := Nat.mul_lt_mul'' h g
  exact Nat.lt_of_lt_of_le this (by decide)
theorem Sb.wide {a b : Int} (h : Sb a) (g : Sb b) : CMulW a b := wide_mul h g (by decide) (by decide) (by decide)
def Bd (R : Rw) : Prop := ∀ r, r ∈ R → ∀ i : Int, some i ∈ r → Sz i
/-- tops: pairs of prices -/
structure TL (p D : Addr) (tv : List V) (H : Hp) : Prop where
  ne : D ≠ p
  at_ : H D = some (.lst tv)
  all : ∀ (j : Nat) (v : V), tv[j]? = some v → ∃ (t : Addr) (b y : Int), v = .ref t ∧ t ≠ p ∧ H t = some (.tup [.int b, .int y]) ∧ Sb b ∧ Sb y
theorem TL.keep {p D : Addr} {tv : List V} {H H' : Hp} (l : TL p D tv H) (k : Keep p H H') : TL p D tv H' := ⟨l.ne, k _ _ l.ne l.at_, fun j v e => by
  obtain ⟨t, b, y, e1, n, h, h1, h2⟩ := l.all j v e
  exact ⟨t, b, y, e1, n, k _ _ n h, h1, h2⟩⟩
theorem TL.put {p D L : Addr} {tv ws : List V} {H : Hp} {o : HO} (l : TL p D tv H) (hL : H L = some (.lst ws)) (n : D ≠ L) : TL p D tv (upd H L o) := ⟨l.ne, by rw [upd_ne n]; exact l.at_, fun j v e => by
  obtain ⟨t, b, y, e1, m, h, h1, h2⟩ := l.all j v e
  exact ⟨t, b, y, e1, m, by rw [upd_ne (fun z => by rw [z, hL] at h; cases h)]; exact h, h1, h2⟩⟩
/-- no list stands twice -/
def Dist (es : List V) : Prop := ∀ (i j : Nat) (a : Addr), es[i]? = some (V.ref a) → es[j]? = some (V.ref a) → i = j
theorem Dist.nil : Dist [] := fun i j a e _ => by simp at e
theorem Dist.more {es : List V} {b : Addr} (h : Dist es) (m : ∀ (j : Nat) (v : V), es[j]? = some v → v ≠ .ref b) : Dist (es ++ [.ref b]) := fun i j a e1 e2 => by
  have side : ∀ {k : Nat}, (es ++ [V.ref b])[k]? = some (.ref a) → (k < es.length ∧ es[k]? = some (.ref a)) ∨ (k = es.length ∧ a = b) := fun {k} e => by
    by_cases c : k < es.length
    · rw [List.getElem?_append_left c] at e
      exact .inl ⟨c, e⟩
    · rw [List.getElem?_append_right (by omega)] at e
      have : k - es.length = 0 := by
        have := (List.getElem?_eq_some_iff.mp e).1
        simp at this
        omega
      rw [this] at e
      cases (Option.some.inj e)
      exact .inr ⟨by omega, rfl⟩
  rcases side e1 with ⟨c1, f1⟩ | ⟨c1, f1⟩ <;> rcases side e2 with ⟨c2, f2⟩ | ⟨c2, f2⟩
  · exact h i j a f1 f2
  · exact absurd (by rw [f2]) (m i _ f1)
  · exact absurd (by rw [f1]) (m j _ f2)
  · omega
/-- the rows made so far -/
structure RK (p : Addr) (H0 H : Hp) (L : Addr) (es : List V) (R : Rw) : Prop where
  ne : L ≠ p
  nw : H0 L = none
  at_ : H L = some (.lst es)
  len : es.length = R.length
  row : ∀ (j : Nat) (v : V), es[j]? = some v → ∃ a, v = .ref a ∧ a ≠ p ∧ a ≠ L ∧ H0 a = none ∧ H a = some (.lst ((R.getD j []).map pV))
  dist : Dist es
theorem RK.keep {p L : Addr} {H0 H H' : Hp} {es : List V} {R : Rw} (l : RK p H0 H L es R) (k : Keep p H H') : RK p H0 H' L es R := ⟨l.ne, l.nw, k _ _ l.ne l.at_, l.len, fun j v e => by
  obtain ⟨a, e1, n1, n2, n3, h⟩ := l.row j v e
  exact ⟨a, e1, n1, n2, n3, k _ _ n1 h⟩, l.dist⟩
theorem RK.put {p L b : Addr} {H0 H : Hp} {es : List V} {R : Rw} {o : HO} (l : RK p H0 H L es R) (n : L ≠ b) (m : ∀ (j : Nat) (v : V), es[j]? = some v → v ≠ .ref b) : RK p H0 (upd H b o) L es R := ⟨l.ne, l.nw, by rw [upd_ne n]; exact l.at_, l.len, fun j v e => by
  obtain ⟨a, e1, n1, n2, n3, h⟩ := l.row j v e
  exact ⟨a, e1, n1, n2, n3, by rw [upd_ne (fun z => m j v e (by rw [e1, z]))]; exact h⟩, l.dist⟩
theorem RK.more {p L b : Addr} {H0 H : Hp} {es : List V} {R : Rw} {r : List (Option Int)} (l : RK p H0 H L es R) (h1 : b ≠ p) (h2 : b ≠ L) (h3 : H0 b = none) (h4 : H b = some (.lst (r.map pV))) (m : ∀ (j : Nat) (v : V), es[j]? = some v → v ≠ .ref b) : RK p H0 (upd H L (.lst (es ++ [.ref b]))) L (es ++ [.ref b]) (R ++ [r]) := by
  refine ⟨l.ne, l.nw, upd_same, by rw [List.length_append, List.length_append, l.len]; rfl, fun j v e => ?_, l.dist.more m⟩
  by_cases ji : j < es.length
  · rw [List.getElem?_append_left ji] at e
    obtain ⟨a, e1, n1, n2, n3, h⟩ := l.row j v e
    refine ⟨a, e1, n1, n2, n3, ?_⟩
    rw [upd_ne n2, h, List.getD_eq_getElem?_getD, List.getD_eq_getElem?_getD, List.getElem?_append_left (by rw [← l.len]; exact ji)]
  · rw [List.getElem?_append_right (by omega)] at e
    have : j = es.length := by
      have := (List.getElem?_eq_some_iff.mp e).1
      simp at this
      omega
    subst this
    rw [Nat.sub_self] at e
    cases (Option.some.inj e)
    refine ⟨b, rfl, h1, h2, h3, ?_⟩
    rw [upd_ne h2, h4, l.len, List.getD_eq_getElem?_getD, List.getElem?_append_right (Nat.le_refl _), Nat.sub_self]
    rfl
/-- a list of rows, new since H, the pool aside -/
structure NewK (p : Addr) (H H' : Hp) (r : Addr) (es : List V) (R : Rw) : Prop where
  ne : r ≠ p
  nw : H r = none
  rl : RL H' r es R
  rows : ∀ (i : Nat) (c : Addr), es[i]? = some (V.ref c) → H c = none ∧ c ≠ r ∧ c ≠ p
  dist : Dist es
theorem RK.new {p L : Addr} {H0 H : Hp} {es : List V} {R : Rw} (l : RK p H0 H L es R) : NewK p H0 H L es R := ⟨l.ne, l.nw, ⟨l.at_, l.len, fun i v e => by
  obtain ⟨a, e1, n1, n2, n3, h⟩ := l.row i v e
  exact ⟨a, e1, h⟩⟩, fun i c e => by
  obtain ⟨a, e1, n1, n2, n3, h⟩ := l.row i _ e
  cases e1
  exact ⟨n3, n2, n1⟩, l.dist⟩
theorem RL.keepK {p : Addr} {G H : Hp} {e : Addr} {es : List V} {R : Rw} (l : RL G e es R) (k : Keep p G H) (n : e ≠ p) (m : ∀ (i : Nat) (a : Addr), es[i]? = some (V.ref a) → a ≠ p) : RL H e es R := ⟨k _ _ n l.at_, l.len, fun i v h => by
  obtain ⟨a, e1, e2⟩ := l.row i v h
  exact ⟨a, e1, k _ _ (m i a (by rw [h, e1])) e2⟩⟩
abbrev hpOf {H H' : Hp} (_ : Same H H') : Hp := H'
/-- rows that may be read, tracked or written -/
structure RS (K : PySem.W.Frag) (G : Hp) (e : Addr) (es : List V) (R : Rw) : Prop where
  at_ : SqL K G e es
  len : es.length = R.length
  row : ∀ (i : Nat) (v : V), es[i]? = some v → ∃ a, v = .ref a ∧ SqL K G a ((R.getD i []).map pV)
theorem RL.rs {K : PySem.W.Frag} {G : Hp} {e : Addr} {es : List V} {R : Rw} (l : RL G e es R) : RS K G e es R := ⟨SqL.of l.at_, l.len, fun i v h => by
  obtain ⟨a, e1, e2⟩ := l.row i v h
  exact ⟨a, e1, SqL.of e2⟩⟩
theorem RS.get {K : PySem.W.Frag} {G : Hp} {e : Addr} {es : List V} {R : Rw} (l : RS K G e es R) {i : Nat} (h : i < R.length) : ∃ a, es[i]? = some (.ref a) ∧ SqL K G a ((R.getD i []).map pV) := by
  have hi : i < es.length := by rw [l.len]; exact h
  obtain ⟨a, e1, e2⟩ := l.row i _ (List.getElem?_eq_getElem hi)
  exact ⟨a, by rw [List.getElem?_eq_getElem hi, e1], e2⟩
theorem RS.same {K : PySem.W.Frag} {G H : Hp} {e : Addr} {es : List V} {R : Rw} (l : RS K G e es R) (s : Same G H) : RS K H e es R := ⟨s.seq l.at_, l.len, fun i v h => by
  obtain ⟨a, e1, e2⟩ := l.row i v h
  exact ⟨a, e1, s.seq e2⟩⟩
theorem RS.all {K : PySem.W.Frag} {G : Hp} {e : Addr} {es : List V} {R : Rw} (l : RS K G e es R) : DpAll K G es (R.map rowD) := by
  refine dpAll_of (by rw [List.length_map]; exact l.len) fun i v d hv hd => ?_
  obtain ⟨a, rfl, h⟩ := l.row i v hv
  rw [List.getElem?_map] at hd
  cases q : R[i]? with
  | none => rw [q] at hd; cases hd
  | some r =>
    rw [q] at hd
    cases (Option.some.inj hd)
    rw [List.getD_eq_getElem?_getD, q] at h
    exact .lst h (row_dp r)
theorem RS.dp {K : PySem.W.Frag} {G : Hp} {e : Addr} {es : List V} {R : Rw} (l : RS K G e es R) : Dp K G (.ref e) (rowsD R) := .lst l.at_ l.all
theorem dp_pV {K : PySem.W.Frag} {H : Hp} {v : V} {z : Option Int} (h : Dp K H v (pD z)) : v = pV z := by
  cases z with
  | none => cases h; rfl
  | some i => cases h; rfl
theorem dp_pVs {K : PySem.W.Frag} {H : Hp} : ∀ {vs : List V} {r : List (Option Int)}, DpAll K H vs (r.map pD) → vs = r.map pV
  | [], [], _ => rfl
  | _ :: _, [], h => by cases h
  | [], _ :: _, h => by cases h
  | v :: vs, z :: r, h => by
    cases h with
    | cons h1 h2 => rw [dp_pV h1, dp_pVs h2]; rfl
theorem RS.of {K : PySem.W.Frag} {G : Hp} {v : V} {R : Rw} (h : Dp K G v (rowsD R)) : ∃ e es, v = .ref e ∧ RS K G e es R := by
  obtain ⟨e, es, rfl, he, ha⟩ := Dp.lstAt h
  refine ⟨e, es, rfl, he, by have := DpAll.len ha; rwa [List.length_map] at this, fun i v hv => ?_⟩
  obtain ⟨d, hd, pd⟩ := DpAll.at ha hv
  rw [List.getElem?_map] at hd
  cases q : R[i]? with
  | none => rw [q] at hd; cases hd
  | some r =>
    rw [q] at hd
    cases (Option.some.inj hd)
    obtain ⟨a, vs, rfl, h1, h2⟩ := Dp.lstAt pd
    rw [dp_pVs h2] at h1
    exact ⟨a, rfl, by rw [List.getD_eq_getElem?_getD, q]; exact h1⟩
/-! ### small data that can be laid and compared -/
structure Ni (n : Nat) (d : PyData) : Prop where
  lay : d.canLay0 = true
  deep : d.depth ≤ n
  plain : d.plain = true
theorem Ni.mono {n m : Nat} {d : PyData} (h : Ni n d) (l : n ≤ m) : Ni m d := ⟨h.lay, Nat.le_trans h.deep l, h.plain⟩
theorem ni_all {n : Nat} : ∀ {ds : List PyData}, (∀ d, d ∈ ds → Ni n d) → PyData.canLayAll0 ds = true ∧ PyData.depthAll ds ≤ n ∧ PyData.plainAll ds = true
  | [], _ => ⟨by simp [PyData.canLayAll0], by simp [PyData.depthAll], rfl⟩
  | d :: ds, h => by
    obtain ⟨a, b, c⟩ := ni_all (ds := ds) fun e he => h e (List.mem_cons_of_mem _ he)
    have k := h d List.mem_cons_self
    refine ⟨by simp [PyData.canLayAll0, k.lay, a], ?_, by simp [PyData.plainAll, k.plain, c]⟩
    rw [PyData.depthAll]
    exact Nat.max_le.mpr ⟨k.deep, b⟩
theorem Ni.list {n : Nat} {ds : List PyData} (h : ∀ d, d ∈ ds → Ni n d) : Ni (n + 1) (.list ds) := by
  obtain ⟨a, b, c⟩ := ni_all h
  exact ⟨by simp only [PyData.canLay0]; exact a, by simp only [PyData.depth]; omega, by simp only [PyData.plain]; exact c⟩
theorem Ni.tuple {n : Nat} {ds : List PyData} (h : ∀ d, d ∈ ds → Ni n d) : Ni (n + 1) (.tuple ds) := by
  obtain ⟨a, b, c⟩ := ni_all h
  exact ⟨by simp only [PyData.canLay0]; exact a, by simp only [PyData.depth]; omega, by simp only [PyData.plain]; exact c⟩
theorem Ni.int {n : Nat} (i : Int) : Ni n (.int i) := ⟨by simp [PyData.canLay0], by simp [PyData.depth], rfl⟩
theorem Ni.non {n : Nat} : Ni n .none := ⟨by simp [PyData.canLay0], by simp [PyData.depth], rfl⟩
theorem Ni.bl {n : Nat} (b : Bool) : Ni n (.bool b) := ⟨by simp [PyData.canLay0], by simp [PyData.depth], rfl⟩
theorem Ni.pD {n : Nat} (z : Option Int) : Ni n (pD z) := by
  cases z
  · exact .non
  · exact .int _
theorem Ni.row {n : Nat} (r : List (Option Int)) : Ni (n + 1) (rowD r) := Ni.list fun d hd => by
  obtain ⟨z, _, rfl⟩ := List.mem_map.mp hd
  exact .pD z
theorem Ni.rows {n : Nat} (R : Rw) : Ni (n + 2) (rowsD R) := Ni.list fun d hd => by
  obtain ⟨r, _, rfl⟩ := List.mem_map.mp hd
  exact .row r
theorem Ni.shaped {n : Nat} {d : PyData} (h : Ni n d) (l : n ≤ 30) : SeqAt.shaped d = true := by
  have := h.deep
  simp only [SeqAt.shaped, h.lay, Bool.true_and]
  exact decide_eq_true (by omega)
theorem eqv_plain {d : PyData} (h : d.plain = true) : PyData.eqv d d = true := PySem.SeqAt.eqv_refl_plain d h
def spPrc : Sp := fun vs H Q _ => ∃ (p c : Addr) (ns : List Int) (z : Int), vs = [.ref p, .int z] ∧ PoolAt H p c ns ∧ ∀ (r : Int) (H' : Hp), Sb r → Keep p H H' → PoolAt H' p c ns → Q (.int r) H'
def spEnt : Sp := fun vs H Q _ => ∃ st q a b x y : Int, vs = [.int st, .int q, .int a, .int b, .int x, .int y] ∧ Sb q ∧ Sb a ∧ Sb b ∧ Sb x ∧ Sb y ∧ ∀ r : Int, Sz r → Q (.int r) H
/-- _law_rows(pool, most) -/
def spLRws : Sp := fun vs H Q _ => ∃ (p c : Addr) (ns : List Int) (m : Int), vs = [.ref p, .int m] ∧ PoolAt H p c ns ∧ 0 < m ∧ m ≤ 8 ∧
  ∀ (r : Addr) (es : List V) (R : Rw) (H' : Hp), Keep p H H' → PoolAt H' p c ns → NewK p H H' r es R → Gt R → Bd R → (R.length : Int) ≤ m → (wd R : Int) ≤ m → Q (.ref r) H'
/-- _law_copy(rows) -/
def spLCpy (K : PySem.W.Frag) : Sp := fun vs H Q _ => ∃ (a : Addr) (es : List V) (R : Rw), vs = [.ref a] ∧ RS K H a es R ∧ R.length ≤ 8 ∧ ∀ (r : Addr) (fs : List V) (H' : Hp), Same H H' → H r = none → RL H' r fs R → (∀ (i : Nat) (c : Addr), fs[i]? = some (V.ref c) → H c = none ∧ c ≠ r) → Q (.ref r) H'
/-- _law_pairs(rows) -/
def spLPrs (K : PySem.W.Frag) : Sp := fun vs H Q _ => ∃ (a : Addr) (es : List V) (R : Rw), vs = [.ref a] ∧ RS K H a es R ∧ Gt R ∧ ∀ (r : Addr) (us : List V) (H' : Hp), Same H H' → H r = none → H' r = some (.lst us) → PrsAt r H' us (cells R) → Q (.ref r) H'
end Pk
set_option Elab.async false
set_option linter.all false
set_option maxRecDepth 100000
set_option maxHeartbeats 1000000
namespace Pk
open PySem L2 PySem.Spec PyProof.Rows
/-! ### an own comparison as a test -/
section
variable {X : Cx} {CX : CXT} {k : Nat} {C : Addr} {sp : Sp} {E : L2.St → XK} {a b : Expr} {ta tb : TE} {pos : Pos}
theorem core_cmpOwn {op : CmpOp} (hop : ∀ a b, compareOp op a b = richCompare op a b) (F : Two X CX k C (cmpInfo op).2.1 sp) (hr : Room k X.A) (hx : ∀ σ, PassesAt CX X σ (E σ))
    {pins : List (Addr × Obj)} {σ : L2.St} {H2 : Hp} {s2 : Shared} {x y : V} {v u : Value} {Q : VK} (I2 : Inv X pins σ H2 s2) (rx : RelV x v) (ry : RelV y u) (q : rOwnC X.K C sp E σ x y H2 Q) :
    wpAny (model X.prog X.w) X.A (compareOp op v u) (EP X pins σ Q) X.xe s2 := by
  obtain ⟨f, fd, ps, M, F, B⟩ := F.ex
  obtain ⟨a, dx, fs, rfl, e, o, q⟩ := q
  cases rx
  obtain ⟨ox, od, J⟩ := own_at I2 e
  obtain ⟨tb, L, nf⟩ := other_looks (M := model X.prog X.w) I2 ry o fun _ _ _ _ _ => trivial
  obtain ⟨m, hF⟩ := I2.fr
  rw [hop]
  refine PySem.W.cmp_K (op := op) hr.units0 hF I2.ok.mod.kin J L nf M.at_ M.fn ?_
  refine wpAny_mono (own_run (us := [.ref a, u]) (vs := [.ref a, y]) F hr I2.env0 B (hx σ) I2 (.cons rfl (.cons ry .nil)) q) (fun w s' z => ?_) fun _ _ z => z
  obtain ⟨z, H3, I3, rz, qz⟩ := z
  exact SlX.cmpback rz ⟨z, H3, I3, rz, qz⟩
theorem pt_cmpOwn {op : CmpOp} (hop : ∀ a b, compareOp op a b = richCompare op a b) (F : Two X CX k C (cmpInfo op).2.1 sp) (hr : Room k X.A) (hx : ∀ σ, PassesAt CX X σ (E σ)) (ha : PE X a ta) (hb : PE X b tb) (hm : behindInMarks op b = false) :
    PT X (.Compare a [op] [b] pos) (tTest (tOp2 (rOwnC X.K C sp) E ta tb)) := by
  refine ⟨fun pins s σ H Q I h => ?_⟩
  refine wpAny_isTrue_Compare1 (binT ha hb I h fun v u s2 x y H2 I2 rx ry q => ?_) hm
  refine thn (core_cmpOwn hop F hr hx I2 rx ry q) fun c s3 ⟨z, H3, I3, r3, k, e, q3⟩ => ?_
  subst e
  cases r3
  exact wpAny_truthy_bool ⟨H3, I3, q3⟩
theorem core_neOwn (F : Two X CX k C "__eq__" sp) (hs : PySem.W.findIn X.K (.ref C) "__ne__" = some (some (.builtin "object.__ne__"))) (ho : PySem.W.mroIn X.K C (.type "object") = some true) (hr : Room (k + 1) X.A) (hx : ∀ σ, PassesAt CX X σ (E σ))
    {pins : List (Addr × Obj)} {σ : L2.St} {H2 : Hp} {s2 : Shared} {x y : V} {v u : Value} {Q : VK} (I2 : Inv X pins σ H2 s2) (rx : RelV x v) (ry : RelV y u) (q : rOwnNe X.K C sp E σ x y H2 Q) :
    wpAny (model X.prog X.w) X.A (compareOp .NotEq v u) (EP X pins σ Q) X.xe s2 := by
  obtain ⟨f, fd, ps, M, F, B⟩ := F.ex
  obtain ⟨a, dx, fs, rfl, e, o, q⟩ := q
  cases rx
  obtain ⟨ox, od, J⟩ := own_at I2 e
  obtain ⟨tb, L, nf⟩ := other_looks (M := model X.prog X.w) I2 ry o fun _ _ _ _ _ => trivial
  show wpAny _ _ (richCompare .NotEq _ _) _ _ _
  refine ne_by_eq hr.in1.units0 hr.units0 I2.kIn J L nf ho hs M.at_ M.fn ?_
  refine wpAny_mono (own_run (us := [.ref a, u]) (vs := [.ref a, y]) F hr.in1 I2.env0.in1 B (hx σ) I2 (.cons rfl (.cons ry .nil)) q) (fun w s' z => ?_) fun _ _ z => z
  obtain ⟨z, H3, I3, rz, c, rfl, qz⟩ := z
  cases (show w = Value.bool c from rz)
  exact ⟨c, rfl, .bl (!c), H3, I3, rfl, qz⟩
theorem pt_neOwn (F : Two X CX k C "__eq__" sp) (hs : PySem.W.findIn X.K (.ref C) "__ne__" = some (some (.builtin "object.__ne__"))) (ho : PySem.W.mroIn X.K C (.type "object") = some true) (hr : Room (k + 1) X.A) (hx : ∀ σ, PassesAt CX X σ (E σ)) (ha : PE X a ta) (hb : PE X b tb) (hm : behindInMarks .NotEq b = false) :
    PT X (.Compare a [.NotEq] [b] pos) (tTest (tOp2 (rOwnNe X.K C sp) E ta tb)) := by
  refine ⟨fun pins s σ H Q I h => ?_⟩
  refine wpAny_isTrue_Compare1 (binT ha hb I h fun v u s2 x y H2 I2 rx ry q => ?_) hm
  refine thn (core_neOwn F hs ho hr hx I2 rx ry q) fun c s3 ⟨z, H3, I3, r3, k, e, q3⟩ => ?_
  subst e
  cases r3
  exact wpAny_truthy_bool ⟨H3, I3, q3⟩
end
end Pk
set_option Elab.async false
set_option linter.all false
set_option maxRecDepth 100000
set_option maxHeartbeats 1000000
namespace Pk
open PySem L2 PySem.Spec PyProof.Rows
/-! ### either promise of a def -/
def spOr (a b : Sp) : Sp := fun vs H Q E => a vs H Q E ∨ b vs H Q E
theorem _root_.L2.FnOk.or {P : Program} {w : World} {K : PySem.W.Frag} {mg : Str → Option Value} {base : Heap} {CX : CXT} {k : Nat} {f : Addr} {fd : FuncData} {ps : List Str} {a b : Sp} (A : FnOk P w K mg base CX k f fd ps a) (B : FnOk P w K mg base CX k f fd ps b) : FnOk P w K mg base CX k f fd ps (spOr a b) :=
  ⟨fun vs H Q E h => h.elim (A.len vs H Q E) (B.len vs H Q E), fun A' outer s H args us vs Q E hr he hb hv hs => hs.elim (A.run A' outer s H args us vs Q E hr he hb hv) (B.run A' outer s H args us vs Q E hr he hb hv)⟩
theorem ErrOk.or {P : Program} {w : World} {K : PySem.W.Frag} {mg : Str → Option Value} {base : Heap} {k : Nat} {C fI : Addr} {a b : Sp} (A : ErrOk P w K mg base k C fI a) (B : ErrOk P w K mg base k C fI b) : ErrOk P w K mg base k C fI (spOr a b) :=
  ⟨fun A' outer s H us vs x Q hr he hv hx hs => hs.elim (A.run A' outer s H us vs x Q hr he hv hx) (B.run A' outer s H us vs x Q hr he hv hx)⟩
/-! ### the dict {0: 1} -/
abbrev kvs01 : List (Key × V) := [(.inl 0, .int 1)]
def D01 (H : Hp) (v : V) : Prop := ∃ a : Addr, v = .ref a ∧ H a = some (.dK kvs01)
theorem D01.later {H H' : Hp} {v : V} (s : Same H H') (h : D01 H v) : D01 H' v := let ⟨a, e, q⟩ := h; ⟨a, e, s _ _ q⟩
theorem D01.ty {K : PySem.W.Frag} {H : Hp} {v : V} (h : D01 H v) : TyX K H v (.type "dict") := by
  obtain ⟨a, rfl, q⟩ := h
  exact .base (.dK q)
/-- .. new since H0 -/
def D01n (H0 H : Hp) (v : V) : Prop := ∃ a : Addr, v = .ref a ∧ H0 a = none ∧ H a = some (.dK kvs01)
theorem D01n.at_ {H0 H : Hp} {v : V} (h : D01n H0 H v) : D01 H v := let ⟨a, e, _, q⟩ := h; ⟨a, e, q⟩
/-- own_copy of it -/
def spCopyD : Sp := fun vs H Q _ => ∃ v : V, vs = [v] ∧ D01 H v ∧ ∀ (v' : V) (H' : Hp), Same H H' → D01n H H' v' → Q v' H'
/-- an __init__ of one field, a copy of such a dict -/
def spErrD (K : PySem.W.Frag) (C : Addr) (f : Str) : Sp := fun vs H Q _ => ∃ (x : Addr) (v : V), vs = [.ref x, v] ∧ H x = some (exo x C none) ∧ D01 H v ∧
  ∀ (dx : Addr) (v' : V) (H' : Hp), H' x = some (exo x C (some dx)) → H' dx = some (exd dx [(f, v')]) → H dx = none → dx ≠ x → Keep x H H' → D01n H H' v' → Q .non H'
theorem exd_dk {dx : Addr} {fs : List (Str × V)} {kvs : List (Key × V)} : exd dx fs ≠ .dK kvs := fun z => by cases (show HO.ext _ = HO.dK kvs from z)
theorem dc_it {J : It} {n : Nat} {G : Hp → Prop} {Y : Nat → Hp → V → Hp → Prop} (w : Walk J n G Y) {g : TG} {tt : TT} {tk tv : TE} {vs : List Nat} {σ : L2.St} {H1 : Hp} {D : Addr} {Qd : Hp → Prop} (Pv : Nat → Hp → Prop) (h0 : Pv 0 (upd H1 D (.dK []))) (hG : ∀ i H, i ≤ n → Pv i H → G H)
    (hs : ∀ i x H H', i < n → Pv i H → Y i H x H' → g x (wipe σ vs) H' fun σ2 H2 => wipe σ2 vs = wipe σ vs ∧ tt σ2 H2 fun b H3 =>
      if b = true then tk σ2 H3 fun y H4 => tv σ2 H4 fun z H5 => ∃ kvs k, y = kV k ∧ H5 D = some (.dK kvs) ∧ kvs.length < sizeLine ∧ Pv (i + 1) (upd H5 D (.dK (putK kvs k z))) else Pv (i + 1) H3) (hd : ∀ H, Pv n H → Qd H) :
    ∃ W : Nat → Nat → Hp → Prop, (∃ m, W 0 m (upd H1 D (.dK []))) ∧ ∀ i m H, W i m H →
      (J.stop i H ∧ Qd H) ∨ (J.go i H ∧ ∃ Nx : Hp → Prop, (∀ H', Nx H' → ∃ m', m' < m ∧ W (i + 1) m' H') ∧ ∀ x H', J.yld i H x H' → g x (wipe σ vs) H' fun σ2 H2 => wipe σ2 vs = wipe σ vs ∧ tt σ2 H2 fun b H3 =>
        if b = true then tk σ2 H3 fun y H4 => tv σ2 H4 fun z H5 => ∃ kvs k, y = kV k ∧ H5 D = some (.dK kvs) ∧ kvs.length < sizeLine ∧ Nx (upd H5 D (.dK (putK kvs k z))) else Nx H3) :=
  lc_any w (B := fun Nx x H' => g x (wipe σ vs) H' fun σ2 H2 => wipe σ2 vs = wipe σ vs ∧ tt σ2 H2 fun b H3 => if b = true then tk σ2 H3 fun y H4 => tv σ2 H4 fun z H5 => ∃ kvs k, y = kV k ∧ H5 D = some (.dK kvs) ∧ kvs.length < sizeLine ∧ Nx (upd H5 D (.dK (putK kvs k z))) else Nx H3) Pv h0 hG hs hd
section
variable {P : Program} {w : World} {K : PySem.W.Frag} {mg : Str → Option Value} {base : Heap} {C fI cc fc : Addr} {fdc : FuncData} {F : NdefX.NF} {n : Nat} {f g : Str}
theorem err_oneD {msg : Str} {kd : Nat} {p0 p1 p2 p3 p4 p5 q0 q1 q2 q3 q4 q5 : Pos} (T : ErrC K C) (J : InitFn P K C fI cc F) (ms : mg "super" = none) (G : FnOk P w K mg base CX0 (n + 1) fc fdc ["value"] spCopyD) (mc : mg "own_copy" = some (.ref fc)) (kc : PySem.W.keepIn K (.ref fc) = true)
    (bc : Binds K fdc ["value"] []) (S : NdefX.NScope ["self", f, "__class__"] ["self", f] ["__class__"] F.scope)
    (hB : F.body = .Expr (.Call (.Attribute (.Call (.Name "super" p0) [] [] p1) "__init__" p2) [.Constant (.str msg) kd p3] [] p4) p5 :: [.Assign [.Attribute (.Name "self" q0) f q1] (.Call (.Name "own_copy" q2) [.Name f q3] [] q4) q5])
    (hsg : F.scope.names.lookup ("super" : Str) = some .globalImplicit) (hog : F.scope.names.lookup ("own_copy" : Str) = some .globalImplicit) (free : PySem.W.findIn K (.ref C) f = some none)
    (hb : ∀ (kV doc pm ct : Value) (an : Option Addr) (us : List Value), us.length = 2 → bindArgs (PySem.W.fnX F.name F.qual F.params F.body F.scope F.cl .none kV doc pm an (.ref F.c) ct) ⟨us, []⟩ = pure ((["self", f] : List Str).zip us))
    {pl : Sem Bool} (he : ∀ env : Env, eval (.Call (.Attribute (.Call (.Name "super" p0) [] [] p1) "__init__" p2) [.Constant (.str msg) kd p3] [] p4) env = (do
      let ov ← attributeBase (.Call (.Name "super" p0) [] [] p1) "__init__" env (eval (.Call (.Name "super" p0) [] [] p1) env)
      standAt p2.atName
      let (f, first) ← holding [ov] (getMethod ov "__init__" pl)
      callWith p4 f first (backTo p4 (starEach [.Constant (.str msg) kd p3] env)) []))
    (fd : (f == ("__debug__" : Str)) = false) (fcd : (f == ("__classdict__" : Str)) = false) : ErrOk P w K mg base (n + 2) C fI (spErrD K C f) := by
  refine ⟨fun A outer s H us vs x Q hr e0 r ex hsp => ?_⟩
  obtain ⟨x', v, evs, _, hv, k⟩ := hsp
  obtain ⟨rfl, rfl⟩ : x = x' ∧ vs = [v] := by
    have z := List.cons.inj evs
    exact ⟨V.ref.inj z.1, z.2⟩
  have lu : us.length = 2 := by rw [← r.length]; rfl
  refine init_run (k := n + 1) (rest := [.Assign [.Attribute (.Name "self" q0) f q1] (.Call (.Name "own_copy" q2) [.Name f q3] [] q4) q5]) (x := x) T J ms S hB hsg (S.par _ (by simp)) hr e0 (fun kV doc pm ct an => BindsTo.of_eq (hb kV doc pm ct an us lu)) r rfl rfl rfl ex he fun hr' => ?_
  refine ⟨_, pss_one (ps_errSet (pe_var (i := 0) rfl (.inl (S.par _ (by simp)))) (pe_call G hr' hog mc kc bc .nil pass0 (pa_cons (pe_var (i := 1) rfl (.inl (S.par _ (by simp))) fd fcd) pa_nil)) ?sw), ?_⟩
  case sw => rfl
  refine r_errSet ?_
  refine r_call ?_
  refine r_cons ?_
  refine r_var rfl ?_
  refine r_nil ?_
  refine ⟨v, rfl, hv, fun v' H1 s1 o1 => ?_⟩
  refine r_var rfl ?_
  refine ⟨x, C, rfl, T, free, .inl ⟨s1 _ _ ex, fun dx hdx ne => ?_⟩⟩
  obtain ⟨b, e1, n1, h1⟩ := o1
  refine k dx v' _ upd_same (by rw [upd_ne ne, upd_same]) (s1.free hdx) ne (Keep.own (Keep.new (Keep.same s1) hdx)) ⟨b, e1, n1, ?_⟩
  have nx : b ≠ x := fun z => by rw [z, ex] at n1; cases n1
  have nd : b ≠ dx := fun z => by rw [z, hdx] at h1; cases h1
  rw [upd_ne nx, upd_ne nd]
  exact h1
theorem r_errD {σ : L2.St} {H : Hp} {Q : XK} {v : V} (hv : D01 H v) (q : ∀ (dd : Addr) (v' : V) (H' : Hp), Same H H' → H dd = none → H' dd = some (.xd [(f, v')]) → D01n H H' v' → Q (.ref C) (some dd) H') :
    [v].length ≤ 1000 ∧ ∀ x, H x = none → spErrD K C f (.ref x :: [v]) (upd H x (exo x C none)) (fun v H2 => v = .non ∧ ∃ (d : Addr) (fs : List (Str × V)), H2 x = some (exo x C (some d)) ∧ H2 d = some (exd d fs) ∧ H d = none ∧ Q (.ref C) (some d) (upd (del H2 x) d (.xd fs))) (fun _ _ _ => False) := by
  refine ⟨by show 1 ≤ 1000; decide, fun x hx => ?_⟩
  have s0 : Same H (upd H x (exo x C none)) := Same.up (Same.refl H) hx
  refine ⟨x, v, rfl, upd_same, hv.later s0, fun dx v' H' h1 h2 h3 ne h4 h5 => ⟨rfl, dx, _, h1, h2, ?_, ?_⟩⟩
  · rw [upd_ne ne] at h3; exact h3
  · rw [upd_ne ne] at h3
    obtain ⟨b, e1, n1, hb⟩ := h5
    have nx : b ≠ x := fun z => by rw [z, upd_same] at n1; cases n1
    have nd : b ≠ dx := fun z => by
      rw [z, h2] at hb
      exact exd_dk (Option.some.inj hb)
    refine q dx v' _ (fun b o e => ?_) h3 upd_same ⟨b, e1, s0.free n1, ?_⟩
    · have nb : b ≠ x := ne_of_none e hx
      rw [upd_ne (ne_of_none e h3), del_ne nb]
      exact h4 b o nb (s0 b o e)
    · rw [upd_ne nd, del_ne nx]
      exact hb
end
end Pk
set_option Elab.async false
set_option linter.all false
set_option maxRecDepth 100000
set_option maxHeartbeats 1000000
namespace Pk
open PySem L2 PySem.Spec PyProof.Rows
/-- a clause's ends: its name is gone behind it -/
def goneAt (i : Nat) (D : Ends) : Ends := { nx := fun τ G => D.nx (τ.set i none) G, rt := D.rt, bk := fun τ G => D.bk (τ.set i none) G, ct := fun τ G => D.ct (τ.set i none) G }
abbrev Cl := Value × Nat × (Addr → Value → Option Addr → TS)
/-- what several clauses 'except c as n' wish of an exception of the body, one behind another -/
def wAsMany (K : PySem.W.Frag) (Wout : WX) (D : Ends) : List Cl → WX
  | [] => Wout
  | (c, i, ts) :: r => fun k d τ G => ∃ b, PySem.W.exmOne K k c = some b ∧ (b = true → ∀ a, G a = none → ts a k d (goneAt i D) (τ.set i (some (.ref a))) G) ∧ (b = false → wAsMany K Wout D r k d τ G)
inductive ClsOk (X : Cx) : List ExceptHandler → List Cl → Prop
  | nil : ClsOk X [] []
  | cons {x n : Str} {c : Value} {i : Nat} {ts : Addr → Value → Option Addr → TS} {b₀ : Stmt} {su : List Stmt} {np ps : Pos} {hds : List ExceptHandler} {l : List Cl} (hc : Names X x c) (hi : X.N[i]? = some n) (hk : X.env.kindOf n = some .local)
      (hsu : ∀ (a : Addr) (oe : Obj) (k : Value) (d : Option Addr) (pn : List (Addr × Obj)), Zc k d oe → (∃ vs, oe.data = .fields vs) → PSs (X.suite a ((a, oe) :: pn)) (b₀ :: su) (ts a k d)) (r : ClsOk X hds l) :
      ClsOk X (.ExceptHandler (some (.Name x np)) (some n) (b₀ :: su) ps :: hds) ((c, i, ts) :: l)
  /-- a clause that nothing comes to -/
  | never {x : Str} {nm : Option Str} {c : Value} {su : List Stmt} {np ps : Pos} {hds : List ExceptHandler} {l : List Cl} (hc : Names X x c) (r : ClsOk X hds l) :
      ClsOk X (.ExceptHandler (some (.Name x np)) nm su ps :: hds) ((c, 0, fun _ _ _ _ _ _ => False) :: l)
section
variable {X : Cx} {body : List Stmt} {h₀ : ExceptHandler} {hds : List ExceptHandler} {l : List Cl} {pos : Pos} {tb : WX → TS} {Wout : WX}
theorem ps_try_asMany (hs : X.stack = X.env :: X.outer) (hf : X.env.frame = some X.env.locals) (hN : X.N.Nodup) (tk : Takes X Wout)
    (hb : ∀ (W : WX) (pn : List (Addr × Obj)) (xe : Value → Shared → Prop), Takes (X.tr pn xe) W → PassesOwn (model X.prog X.w) X.A X.env xe → PSs (X.tr pn xe) body (tb W)) (hh : ClsOk X (h₀ :: hds) l) :
    PS X (.Try body (h₀ :: hds) [] [] pos) (fun D τ G => tb (wAsMany X.K Wout D l) D τ G) := by
  refine ⟨fun pins s τ G D I h => ?_⟩
  have oki := I.ok
  have frm : X.A.frames = some (X.env :: X.outer) := oki.frames.trans (congrArg some hs)
  refine wpAny_Try_except (wpAny_mono ((hb (wAsMany X.K Wout D l) (X.pn ++ pins) (fun e s₁ => wpAny (model X.prog X.w) X.A (noteFrame e X.env) (fun _ s₂ => wpAny (model X.prog X.w) X.A (setFlight e none)
    (fun _ s₃ => wpAny (model X.prog X.w) X.A (handleBy e X.env (h₀ :: hds)) (SP X pins D) X.xe s₃) X.xe s₂) X.xe s₁) (fun u st xx => ?caught) PassesOwn.looking).run [] s τ G D (I.toTry _) h) (fun fl st hsp => ?through) (fun e st he => he))
  case through =>
    cases fl with
    | next => obtain ⟨τ', G', J, q⟩ := hsp; exact wpAny_execs_nil ⟨τ', G', J.ofTry oki, q⟩
    | brk => obtain ⟨τ', G', J, q⟩ := hsp; exact ⟨τ', G', J.ofTry oki, q⟩
    | cont => obtain ⟨τ', G', J, q⟩ := hsp; exact ⟨τ', G', J.ofTry oki, q⟩
    | ret u => obtain ⟨v, τ', G', J, r, q⟩ := hsp; exact ⟨v, τ', G', J.ofTry oki, r, q⟩
  case caught =>
    obtain ⟨a, B, sI, pins', τ', G', k, d, rfl, J', nb, up, sky, na, os, ag, w⟩ := xx
    have J : Inv X pins τ' G' sI := J'.ofTry oki
    have skyB : Sky B (X.env :: X.outer) a (Zc k d) X.env.locals st.heap := hs ▸ sky
    show wpAny (model X.prog X.w) X.A (noteFrame (.ref a) X.env) _ _ _
    refine Sky.land Zc.steady frm hf skyB fun h3 fl3 up3 => ?_
    have J3 : Inv X pins τ' G' { st with heap := h3 } := J.landed nb fl3.1 (up.trans up3) os ag
    obtain ⟨oe3, vs3, he3, hz3, hd3⟩ := fl3.there
    have off : a ∉ frs (X.env :: X.outer) := fun hm => by
      obtain ⟨_, o', e', hnf⟩ := fl3.2.2.1.mem hm
      cases he3.symm.trans e'; exact hnf _ hd3
    have nL : a ≠ X.env.locals := fun z => off (List.mem_filterMap.mpr ⟨X.env, List.mem_cons_self, by rw [hf, z]⟩)
    have nF : a ∉ X.fs := fun hm => let ⟨e, he, q⟩ := List.mem_filterMap.mp hm; off (List.mem_filterMap.mpr ⟨e, List.mem_cons_of_mem _ he, q⟩)
    have S3 := J3.suite he3 hd3 na nL nF
    suffices go : ∀ {ks : List ExceptHandler} {m : List Cl}, ClsOk X ks m → wAsMany X.K Wout D m k d τ' G' → wpAny (model X.prog X.w) X.A (handleBy (.ref a) X.env ks) (SP X pins D) X.xe { st with heap := h3 } from go hh w
    intro ks m hk
    induction hk with
    | nil =>
      intro w; refine wpAny_handleBy_nil ?_
      obtain ⟨_, _, _, oe, vs, T, oT, tz, he, hz, hd, h1, hr⟩ := id fl3
      unfold PySem.passOn
      refine wpAny_bind (wpAny_field he hd h1 ?_)
      rw [if_neg (by simp : ¬ ((Value.ref T == Value.none) = true))]
      have out : wpAny (model X.prog X.w) X.A (setFlight (.ref a) X.env.frame) (fun _ s4 => wpAny (model X.prog X.w) X.A (throw (.ref a) : Sem Flow) (SP X pins D) X.xe s4) X.xe { st with heap := h3 } := by
        rw [hf]; refine HandSPX.setFlight_upZ fl3 fun h4 hh4 up4 => wpAny_throw (tk _ _ ?_)
        exact ⟨a, B, sI, pins, τ', G', k, d, rfl, J, nb, (up.trans up3).trans up4, .inr (.inr (hs.symm ▸ hh4)), na, os, ag, w⟩
      first | exact wpAny_bind (wpAny_pure (wpAny_bind out)) | exact wpAny_bind out
    | @never x nm c su np ps hds2 l2 hc r ih =>
      intro w
      obtain ⟨b, hb1, yes, no⟩ := w
      refine wpAny_handleBy_cons (codeAny_handlers_test ?_) (by intro q; cases q)
      have tyL : PySem.W.Looks (model X.prog X.w) h3 (typeOf (.ref a)) k := fun A Q E s kk q => wpAny_typeOf_ref (kk _ _ he3) (hz3.1.symm ▸ q)
      have mt := PySem.W.exm_one (M := model X.prog X.w) (J3.kIn) tyL hb1
      have ask : ∀ {Q : Value → Shared → Prop} {E : Value → Shared → Prop}, Q c { st with heap := h3 } → wpAny (model X.prog X.w) (X.A.mark (some (.ref a))) (eval (.Name x np) X.env) Q E { st with heap := h3 } := fun {Q E} q => by
        obtain ⟨hg, hdb, g | ⟨g, hv, hnn⟩⟩ := hc
        · exact ld_glob (X := X.suite a ((a, oe3) :: (X.pn ++ pins))) S3 hg g q hdb
        · exact ld_blt (X := X.suite a ((a, oe3) :: (X.pn ++ pins))) S3 hg g hv q hnn hdb
      refine ask (mt.here ?_)
      cases b with
      | false => show wpAny _ X.A (handleBy (.ref a) X.env hds2) _ _ _; exact ih (no rfl)
      | true => exact (yes rfl a na).elim
    | @cons x n c i ts b₀ su np ps hds2 l2 hc hi hln hsu r ih =>
      intro w
      obtain ⟨b, hb1, yes, no⟩ := w
      refine wpAny_handleBy_cons (codeAny_handlers_test ?_) (by intro q; cases q)
      have tyL : PySem.W.Looks (model X.prog X.w) h3 (typeOf (.ref a)) k := fun A Q E s kk q => wpAny_typeOf_ref (kk _ _ he3) (hz3.1.symm ▸ q)
      have mt := PySem.W.exm_one (M := model X.prog X.w) (J3.kIn) tyL hb1
      have ask : ∀ {Q : Value → Shared → Prop} {E : Value → Shared → Prop}, Q c { st with heap := h3 } → wpAny (model X.prog X.w) (X.A.mark (some (.ref a))) (eval (.Name x np) X.env) Q E { st with heap := h3 } := fun {Q E} q => by
        obtain ⟨hg, hdb, g | ⟨g, hv, hnn⟩⟩ := hc
        · exact ld_glob (X := X.suite a ((a, oe3) :: (X.pn ++ pins))) S3 hg g q hdb
        · exact ld_blt (X := X.suite a ((a, oe3) :: (X.pn ++ pins))) S3 hg g hv q hnn hdb
      refine ask (mt.here ?_)
      cases b with
      | false => show wpAny _ X.A (handleBy (.ref a) X.env hds2) _ _ _; exact ih (no rfl)
      | true =>
        refine codeAny_handlers_suite_as (HandSPX.lands_againZ fl3 fun h4 fl4 up4 => ?_)
        have J4 : Inv X pins τ' G' { st with heap := h4 } := J.landed nb fl4.1 ((up.trans up3).trans up4) os ag
        obtain ⟨oe4, vs4, he4, hz4, hd4⟩ := fl4.there
        have S4 := J4.suite he4 hd4 na nL nF
        refine store_ok (X := X.suite a ((a, oe4) :: (X.pn ++ pins))) (v := .ref a) S4 hN hi (.inl hln) rfl (fun s5 S5 => ?_) (.inr hln)
        refine wpAny_mono ((hsu a oe4 k d (X.pn ++ pins) hz4 ⟨_, hd4⟩).run [] s5 _ G' _ S5 (yes rfl a na)) (fun f s6 hsp => ?_) (fun _ _ z => False.elim z)
        have fin : ∀ {τ6 : L2.St} {G6 : Hp} {Q : Shared → Prop}, Inv (X.suite a ((a, oe4) :: (X.pn ++ pins))) [] τ6 G6 s6 → (∀ s7, Inv X pins (τ6.set i none) G6 s7 → Q s7) →
            wpAny (model X.prog X.w) X.A (do bindName X.env n .none; unbindBehindTheSuite X.env n ps) (fun _ s7 => Q s7) X.xe s6 := fun {τ6 G6 Q} S6 hq => gone_ok (S6.unsuite oki) hN hi hln hq
        cases f with
        | next => obtain ⟨τ6, G6, S6, q6⟩ := hsp; exact fin S6 fun s7 J7 => ⟨_, _, J7, q6⟩
        | brk => obtain ⟨τ6, G6, S6, q6⟩ := hsp; exact fin S6 fun s7 J7 => ⟨_, _, J7, q6⟩
        | cont => obtain ⟨τ6, G6, S6, q6⟩ := hsp; exact fin S6 fun s7 J7 => ⟨_, _, J7, q6⟩
        | ret u => obtain ⟨v6, τ6, G6, S6, r6, q6⟩ := hsp; exact fin S6 fun s7 J7 => ⟨_, _, _, J7, r6, q6⟩
end
end Pk
set_option Elab.async false
set_option linter.all false
set_option maxRecDepth 100000
set_option maxHeartbeats 1000000
namespace Pk
open PySem L2 PySem.Spec PyProof.Rows
/-! ### a method is called where what it raises is wished for at the caller's slots -/
def tMethT (C : Addr) (m : Str) (sp : Sp) (E : L2.St → XK) (ta : TE) (t : TA) : TE := fun σ H Q => ta σ H fun x H1 => ∃ a dx fs, x = .ref a ∧ H1 a = some (.ins C dx fs) ∧ fs.lookup m = none ∧ t σ H1 fun vs H2 => sp (x :: vs) H2 Q (E σ)
theorem r_methT {C : Addr} {m : Str} {sp : Sp} {E : L2.St → XK} {ta : TE} {t : TA} {σ : L2.St} {H : Hp} {Q : VK} (h : ta σ H fun x H1 => ∃ a dx fs, x = .ref a ∧ H1 a = some (.ins C dx fs) ∧ fs.lookup m = none ∧ t σ H1 fun vs H2 => sp (x :: vs) H2 Q (E σ)) : tMethT C m sp E ta t σ H Q := h
theorem pe_methT {X : Cx} {CX : CXT} {k : Nat} {f C : Addr} {fd : FuncData} {ps : List Str} {sp : Sp} {E : L2.St → XK} {m : Str} {pos apos : Pos} {o e : Expr} {es : List Expr} {ta : TE} {t : TA} {pl : Sem Bool} (he : PE X o ta) (c : Cls X.K C) (hm : Meth X.K C m f)
    (F : FnOk X.prog X.w X.K X.mg X.base CX k f fd ps sp) (hr : Room k X.A) (hb : Binds X.K fd ps []) (hx : ∀ σ, PassesAt CX X σ (E σ)) (ha : PA X (e :: es) t)
    (hst : starEach (e :: es) X.env = (false, eval e X.env) :: starEach es X.env := by rfl) (hpl : (backTo pos (starEach es X.env)).any (·.1) = false := by rfl)
    (ht : eval (.Call (.Attribute o m apos) (e :: es) [] pos) X.env = (do
      let ov ← eval o X.env
      standAt apos.atName
      let (f, first) ← holding [ov] (getMethod ov m pl)
      callWith pos f first (backTo pos (starEach (e :: es) X.env)) (backToKw pos (keywordEach [] X.env))) := by rfl) :
    PE X (.Call (.Attribute o m apos) (e :: es) [] pos) (tMethT C m sp E ta t) := by
  refine ⟨fun pins s σ H Q I h => ?_⟩
  refine PySem.W.methodCall_KW (pl := pl) (thn (he.run pins s σ H _ I h) fun u s1 ⟨x, H1, I1, rx, a, dx, fs, ex, ea, l, q⟩ => ?_) ht
  subst ex
  obtain rfl : u = Value.ref a := rx
  refine getmeth_ok I1 ea c hm l ?_
  refine PySem.W.callWith_K (first := [.ref a]) (h₀ := X.base) I.ok.mod.kin hm.kp (thn (ha.run pos pins s1 σ H1 _ I1 q) fun us s2 ⟨vs, H2, I2, r, q2⟩ => ⟨I2.kIn, ?_⟩) hst hpl
  exact run_fnS (us := .ref a :: us) (vs := .ref a :: vs) F hr hb (hx σ) I2 (.cons rfl r) q2
end Pk
set_option Elab.async false
set_option linter.all false
set_option maxRecDepth 100000
set_option maxHeartbeats 1000000
namespace Pk
open PySem L2 PySem.Spec PyProof.Rows
/-- x not in a list of pairs -/
def rNotInP (K : PySem.W.Frag) : R2 := fun x y H Q => ∃ z zs, Dp K H x (prD z) ∧ Dp K H y (prsD zs) ∧ Q (.bl (!decide (z ∈ zs))) H
theorem op_notInP {X : Cx} (room : X.A.units + 64 < cLine) : OpR X (compareOp .NotIn) (rNotInP X.K) := by
  intro pn sh τ G a b va vb R J ra rb want
  obtain ⟨z, zs, da, db, q⟩ := want
  obtain ⟨as, r1⟩ := Dp.reads J _ a va da ra
  obtain ⟨bs, r2⟩ := Dp.reads J _ b vb db rb
  have deep := prs_depthAll zs
  have e := PySem.W.any_datum (α := Int × Int) zs z
  refine SeqAt.notIn_list_data r2 r1 (prs_plainAll zs) (pr_plain z) (by omega) ⟨.bl _, G, J, rfl, ?_⟩
  rw [show ((zs.map prD).any fun y => PyData.eqv y (prD z)) = decide (z ∈ zs) from e.trans (decide_eq_decide.mpr Iff.rfl)]
  exact q
section
variable {X : Cx} {CX : CXT} {k : Nat} {C : Addr} {sp : Sp} {E : L2.St → XK} {a b : Expr} {ta tb : TE} {pos : Pos}
/-- y not in x, x of an own class -/
theorem pt_notIn2 (F : Two X CX k C "__contains__" sp) (hr : Room k X.A) (hx : ∀ σ, PassesAt CX X σ (E σ)) (ha : PE X a ta) (hb : PE X b tb) (hm : behindInMarks .NotIn b = false) :
    PT X (.Compare a [.NotIn] [b] pos) (tTest (tOp2 (rOwnIn C sp true) E ta tb)) := by
  obtain ⟨f, fd, ps, M, F, B⟩ := F.ex
  refine ⟨fun pins s σ H Q I h => ?_⟩
  refine wpAny_isTrue_Compare1 (binT ha hb I h fun v u s2 y x H2 I2 ry rx q => ?_) hm
  obtain ⟨a, dx, fs, rfl, e, q⟩ := q
  cases rx
  obtain ⟨ox, od, J⟩ := own_at I2 e
  obtain ⟨m, hF⟩ := I2.fr
  refine PySem.W.notIn_K hF I2.ok.mod.kin J M.at_ M.fn ?_
  refine wpAny_mono (own_run (us := [.ref a, v]) (vs := [.ref a, y]) F hr I2.env0 B (hx σ) I2 (.cons rfl (.cons ry .nil)) q) (fun w s' z => ?_) fun _ _ z => z
  obtain ⟨z, H3, I3, rz, c, rfl, qz⟩ := z
  cases (show w = Value.bool c from rz)
  obtain ⟨k2, e2, q2⟩ := qz
  cases e2
  exact wpAny_pure (wpAny_truthy_bool ⟨H3, I3, q2⟩)
end
theorem cutAt {vs : List V} {i : Nat} (h : i ≤ vs.length) : cutV vs none (some (i : Int)) = vs.take i := by
  have e : min (i : Int).toNat vs.length = i := by simp; omega
  have n : ¬ (i : Int) < 0 := by omega
  simp only [cutV, HT.sIx, if_neg n, e, List.drop_zero, Nat.sub_zero]
theorem notBefore {zs : List Pr} {z : Pr} {i : Nat} (nd : zs.Nodup) (h : zs[i]? = some z) : z ∉ zs.take i := by
  intro m
  obtain ⟨j, hj, e⟩ := List.getElem_of_mem m
  rw [List.length_take] at hj
  rw [List.getElem_take] at e
  obtain ⟨hi, e2⟩ := List.getElem?_eq_some_iff.mp h
  exact (List.pairwise_iff_getElem.mp nd) j i (by omega) hi (by omega) (by rw [e, e2])
end Pk
set_option Elab.async false
set_option linter.all false
set_option maxRecDepth 100000
set_option maxHeartbeats 1000000
namespace Pk
open PySem L2 PySem.Spec PyProof.Rows
/-- how often a pair is in a list of pairs -/
def rCountP (K : PySem.W.Frag) : V → List V → Hp → VK → Prop := fun x xs H Q => ∃ (a : Addr) (y : V) (z : Pr) (zs : List Pr), x = V.ref a ∧ xs = [y] ∧ Dp K H (V.ref a) (prsD zs) ∧ Dp K H y (prD z) ∧ Q (.int ((zs.countP fun u => decide (u = z) : Nat) : Int)) H
theorem mt_countP {X : Cx} (hu : X.A.units + 64 < cLine) : MtR X "list.count" (rCountP X.K) := by
  intro pins s σ H x xs v us Q I rx rxs h
  obtain ⟨a, y, z, zs, rfl, rfl, hl, hy, q⟩ := h
  cases rx
  cases rxs with
  | cons ry rt =>
    rename_i uy ut
    cases rt
    obtain ⟨bs, r1⟩ := Dp.reads I (prD z) y uy hy ry
    cases hl with
    | lst hs ha =>
      obtain ⟨its, rv, ⟨⟨cls, dd, data, sls⟩, n, ho, hc, hdn, hdt⟩, hlen⟩ := I.list hs
      simp only at hc hdt
      subst hc hdt
      obtain ⟨as, h4⟩ := Dp.readsAll I _ _ its ha rv
      have e : ((zs.map prD).countP fun y => PyData.eqv y (prD z)) = zs.countP fun u => decide (u = z) := PySem.W.count_datum (α := Int × Int) zs z
      have dp := prs_depthAll zs
      refine SeqAt.count_list_data (vs := its.toArray) ⟨_, ho, rfl, n, rfl⟩ (by simpa using h4) r1 (prs_plainAll zs) (pr_plain z) (by omega) ?_
      rw [e]
      exact ⟨.int _, H, I.tok _, ⟨_, rfl⟩, q⟩
theorem cutDrop {vs : List V} {i : Nat} (h : i ≤ vs.length) : cutV vs (some (i : Int)) none = vs.drop i := by
  have e : min (i : Int).toNat vs.length = i := by simp; omega
  have n : ¬ (i : Int) < 0 := by omega
  have e2 : min vs.length vs.length = vs.length := by omega
  simp only [cutV, HT.sIx, if_neg n, e]
  first | rfl | (rw [List.take_of_length_le (by rw [List.length_drop]; omega)]) | simp
/-- a def with one keyword-only parameter, called with it -/
structure Dkw1 (P : Program) (w : World) (K : PySem.W.Frag) (mg : Str → Option Value) (base : Heap) (CX : CXT) (x : Str) (k : Nat) (ps : List Str) (n : Nat) (kw : Str) (sp : Sp) (f : Addr) (fd : FuncData) : Prop where
  at_ : mg x = some (.ref f)
  kp : PySem.W.keepIn K (.ref f) = true
  ok : FnOk P w K mg base CX k f fd ps sp
  kb : KBn K fd ps n [kw] (fun us ws => us ++ ws) (fun vs zs => vs ++ zs)
  dd : ∃ ds, Vals [V.str "even"] ds ∧ Binds K fd ps ds
abbrev Dkw (P : Program) (w : World) (K : PySem.W.Frag) (mg : Str → Option Value) (base : Heap) (CX : CXT) (x : Str) (k : Nat) (ps : List Str) (n : Nat) (kw : Str) (sp : Sp) : Prop := ∃ f fd, Dkw1 P w K mg base CX x k ps n kw sp f fd
theorem pe_kd {X : Cx} {k j n : Nat} {ps : List Str} {kw : Str} {sp : Sp} {x : Str} {p pos : Pos} {e : Expr} {es : List Expr} {kws : List Keyword} {t tk : TA}
    (D : Dkw X.prog X.w X.K X.mg X.base CX0 x k ps n kw sp) (hr : Room j X.A) (l : k ≤ j) (ha : PA X (e :: es) t) (hkw : PK X kws tk) (hg : Gl X x := by rfl)
    (hall : (backToKw pos (keywordEach kws X.env)).all (·.1.isSome) = true := by rfl) (hks : (backToKw pos (keywordEach kws X.env)).filterMap (·.1) = [kw] := by rfl) (hdb : (x == ("__debug__" : Str)) = false := by decide)
    (he : starEach (e :: es) X.env = (false, eval e X.env) :: starEach es X.env := by rfl) (hpl : ((backTo pos (starEach (e :: es) X.env)).any (·.1) || (backToKw pos (keywordEach kws X.env)).any (·.1.isNone)) = false := by rfl) :
    PE X (.Call (.Name x p) (e :: es) kws pos) (tKwS n [kw].length sp (fun vs zs => vs ++ zs) (fun _ => E0) t tk) := by
  obtain ⟨f, fd, D⟩ := D
  exact pe_kwS D.ok (hr.mono l) D.at_ D.kp D.kb (passN pass0) ha hkw hg hall hks hdb he hpl
end Pk
set_option Elab.async false
set_option linter.all false
set_option maxRecDepth 100000
set_option maxHeartbeats 1000000
namespace Pk
open PySem L2
local macro_rules | `(tactic| walk_at "rd") => `(tactic| repeat (first
  | with_reducible refine r_seq ?_ | with_reducible refine r_nxt ?_ | with_reducible refine r_asg ?_ | with_reducible refine r_to ?_ | with_reducible refine r_ret ?_ | with_reducible refine r_for ?_ | with_reducible refine r_lc ?_ | with_reducible refine r_rng1 ?_ | with_reducible refine r_list ?_ | with_reducible refine r_tupI ?_ | with_reducible refine r_drop ?_ | with_reducible refine r_ifs ?_
  | with_reducible refine r_op ?_ | with_reducible refine r_c ?_ | with_reducible refine r_var rfl ?_ | with_reducible refine r_I0 ?_ | with_reducible refine r_un ?_ | with_reducible refine r_U ?_ | with_reducible refine r_make ?_ | with_reducible refine r_sub ?_
  | with_reducible refine r_nil ?_ | with_reducible refine r_cons ?_ | with_reducible refine r_cb ?_ | with_reducible refine r_sl ?_ | with_reducible refine r_noP ?_ | with_reducible refine r_part ?_ | with_reducible refine r_isI ?_ | with_reducible refine r_lst ?_ | with_reducible refine r_tup ?_ | with_reducible refine r_call ?_
  | with_reducible refine r_test ?_ | with_reducible refine r_B ?_ | with_reducible refine r_and ?_ | with_reducible refine r_or ?_ | with_reducible refine r_not ?_ | with_reducible refine r_andV ?_ | with_reducible refine r_orV ?_ | with_reducible refine r_notV ?_ | with_reducible refine r_bl ?_ | with_reducible refine r_yes ?_ | with_reducible refine r_int ?_ | with_reducible refine r_is0 ?_ | with_reducible refine r_is1 ?_ | with_reducible refine iteT ?_ | with_reducible refine iteF ?_ | with_reducible refine ite_nF ?_ | with_reducible refine ite_nT ?_
  | with_reducible refine r_mod (by decide) ?_ | with_reducible refine r_div (by decide) (by decide) ?_ | with_reducible refine r_mulR (by decide) (by decide) ?_ | with_reducible refine r_mulL (by decide) (by decide) ?_ | with_reducible refine r_pow (by decide) (by decide) (by decide) ?_))
abbrev sCopy : Stmt := top 2
section
variable {P : Program} {w : World} {K : PySem.W.Frag} {mg : Str → Option Value} {base : Heap}
/-- the copies made so far stand in the list at D -/
def Copied (H : Hp) (D : Addr) (ds : List PyData) (i : Nat) (H' : Hp) : Prop :=
  ∃ ys, H' D = some (.lst ys) ∧ ys.length = i ∧ Same H H' ∧ ∀ (j : Nat) (v : V) (d : PyData), ys[j]? = some v → ds[j]? = some d → Own (upd H D (.lst [])) H' v d
theorem Copied.start {H : Hp} {D : Addr} {ds : List PyData} (hD : H D = none) : Copied H D ds 0 (upd H D (.lst [])) :=
  ⟨[], upd_same, rfl, fun b o e => by rw [upd_ne (ne_of_none e hD)]; exact e, fun j v d e => by simp at e⟩
theorem Copied.more {H H1 H2 : Hp} {D : Addr} {ds : List PyData} {i : Nat} {v : V} {d : PyData} (hD : H D = none) (c : Copied H D ds i H1) (s : Same H1 H2) (o : Own H1 H2 v d) (hd : ds[i]? = some d) :
    ∃ acc, H2 D = some (.lst acc) ∧ acc.length = i ∧ Copied H D ds (i + 1) (upd H2 D (.lst (acc ++ [v]))) := by
  obtain ⟨ys, h1, h2, h3, h4⟩ := c
  have nD : ∀ {a : Addr}, upd H D (.lst []) a = none → a ≠ D := fun {a} n z => by rw [z, upd_same] at n; cases n
  refine ⟨ys, s _ _ h1, h2, ys ++ [v], upd_same, by rw [List.length_append, h2]; rfl, fun b o e => ?_, fun j u e e1 e2 => ?_⟩
  · have n : b ≠ D := ne_of_none e hD
    rw [upd_ne n]
    exact s _ _ (h3 _ _ e)
  · by_cases hj : j < ys.length
    · rw [List.getElem?_append_left hj] at e1
      exact ((h4 j u e e1 e2).later s).mono (fun a n _ => n) fun a z n q _ => by rw [upd_ne (nD n)]; exact q
    · have ej : j = i := by
        have z := (List.getElem?_eq_some_iff.mp e1).1
        rw [List.length_append, List.length_singleton] at z
        omega
      subst ej
      rw [List.getElem?_append_right (by omega), h2, Nat.sub_self] at e1
      have eu : v = u := Option.some.inj e1
      have ee : d = e := Option.some.inj (hd.symm.trans e2)
      subst eu ee
      refine o.mono (fun a n _ => ?_) fun a z n q _ => ?_
      · have na : a ≠ D := fun z => by rw [z, h1] at n; cases n
        rw [upd_ne na]
        exact h3.free n
      · have na : a ≠ D := fun z => by rw [z, h1] at n; cases n
        rw [upd_ne na]
        exact q
theorem Copied.done {H H' : Hp} {D : Addr} {ds : List PyData} (hD : H D = none) (c : Copied H D ds ds.length H') : ∃ ys, H' D = some (.lst ys) ∧ ys.length = ds.length ∧ Same H H' ∧ ∀ (j : Nat) (v : V) (d : PyData), ys[j]? = some v → ds[j]? = some d → Own H H' v d := by
  obtain ⟨ys, h1, h2, h3, h4⟩ := c
  refine ⟨ys, h1, h2, h3, fun j v d e1 e2 => (h4 j v d e1 e2).mono (fun a n _ => ?_) fun a u _ q _ => q⟩
  have na : a ≠ D := fun z => by rw [z, upd_same] at n; cases n
  rw [upd_ne na] at n
  exact n

theorem scCopy : FnScope ["value", "entry"] ["value"] (defScope sCopy) := ⟨rfl, rfl, rfl, by decide +kernel, rfl, by decide +kernel, by decide +kernel⟩
theorem ok_copy {f : Addr} {fd : FuncData} (F : Fun K "own_copy" "own_copy" sCopy f fd) (T : Bt mg) (me : mg "own_copy" = some (.ref f)) : ∀ n : Nat, FnOk P w K mg base CX0 (n + 1) f fd ["value"] (spCopy K n)
  | 0 => by
    refine F.ok scCopy (fun vs H Q E h => ?_) (fun cdv A outer s H vs Q E hr h => ?_)
    · obtain ⟨v, d, rfl, _⟩ := h
      rfl
    · obtain ⟨v, d, rfl, hv, hd, k⟩ := h
      refine ⟨_, pss_cons (ps_if (pt_val (pe_callB call_isi (by rfl) T.isinstance (by decide +kernel) (pa_cons (pv 0) (pa_cons (pe_bltn (v := .ty "list") (by rfl) T.list (by decide +kernel) rfl) pa_nil)))) pss_never pss_nil)
        (pss_cons (ps_if (pt_val (pe_callB call_isi (by rfl) T.isinstance (by decide +kernel) (pa_cons (pv 0) (pa_cons (pe_bltn (v := .ty "tuple") (by rfl) T.tuple (by decide +kernel) rfl) pa_nil)))) pss_never pss_nil)
        (pss_cons (ps_if (pt_val (pe_callB call_isi (by rfl) T.isinstance (by decide +kernel) (pa_cons (pv 0) (pa_cons (pe_bltn (v := .ty "dict") (by rfl) T.dict (by decide +kernel) rfl) pa_nil)))) pss_never pss_nil)
        (pss_one (ps_ret (pv 0))))), ?_⟩
      obtain ⟨r1, e1, f1⟩ := kit_list d
      obtain ⟨r2, e2, f2⟩ := kit_tuple d
      have n1 : r1 = false := by
        cases r1 with
        | false => rfl
        | true => obtain ⟨ds, rfl⟩ := f1.mp rfl; cases hd
      have n2 : r2 = false := by
        cases r2 with
        | false => rfl
        | true => obtain ⟨ds, rfl⟩ := f2.mp rfl; cases hd
      subst n1 n2
      walk_at "rd"
      refine r_isi (Dp.kind hv) e1 ?_
      walk_at "rd"
      refine r_isi (Dp.kind hv) e2 ?_
      walk_at "rd"
      refine r_isi (Dp.kind hv) (kit_dict hd) ?_
      walk_at "rd"
      refine k v H (Same.refl H) ?_
      cases hd with
      | non => cases hv; exact .non
      | bl b => cases hv; exact .bl b
      | int i => cases hv; exact .int i
      | str z => cases hv; exact .str z
  | n + 1 => by
    have G := ok_copy F T me n
    have b : Binds K fd ["value"] [] := F.binds fun _ _ _ _ _ _ us hl => match us, hl with | [_], _ => rfl
    refine F.ok scCopy (fun vs H Q E h => ?_) (fun cdv A outer s H vs Q E hr h => ?_)
    · obtain ⟨v, d, rfl, _⟩ := h
      rfl
    · obtain ⟨v, d, rfl, hv, hd, k⟩ := h
      refine ⟨_, pss_cons (ps_if (pt_val (pe_callB call_isi (by rfl) T.isinstance (by decide +kernel) (pa_cons (pv 0) (pa_cons (pe_bltn (v := .ty "list") (by rfl) T.list (by decide +kernel) rfl) pa_nil))))
          (pss_one (ps_ret (pe_lc (own := [("entry", 1)]) (g := gName 1) rfl scCopy.nd (pi_list (pv 0)) (blkOk_by (own := [("entry", 1)]) (N := ["value", "entry"]) (sc := defScope sCopy) (by decide +kernel)) (fun _ _ _ _ _ => pg_name (i := 1) scCopy.nd rfl (Or.inl rfl)) (fun _ _ _ _ _ => pts_nil)
            (fun _ _ _ _ _ => pe_call G hr rfl me F.kp b .nil pass0 (pa_cons (pv 1) pa_nil))))) pss_nil)
        (pss_cons (ps_if (pt_val (pe_callB call_isi (by rfl) T.isinstance (by decide +kernel) (pa_cons (pv 0) (pa_cons (pe_bltn (v := .ty "tuple") (by rfl) T.tuple (by decide +kernel) rfl) pa_nil))))
          (pss_one (ps_ret (pe_callTy cl_tup (by rfl) T.tuple (by decide +kernel) (pa_cons (pe_lc (own := [("entry", 1)]) (g := gName 1) rfl scCopy.nd (pi_tup (pv 0)) (blkOk_by (own := [("entry", 1)]) (N := ["value", "entry"]) (sc := defScope sCopy) (by decide +kernel)) (fun _ _ _ _ _ => pg_name (i := 1) scCopy.nd rfl (Or.inl rfl)) (fun _ _ _ _ _ => pts_nil)
            (fun _ _ _ _ _ => pe_call G hr rfl me F.kp b .nil pass0 (pa_cons (pv 1) pa_nil))) pa_nil)))) pss_nil)
        (pss_cons (ps_if (pt_val (pe_callB call_isi (by rfl) T.isinstance (by decide +kernel) (pa_cons (pv 0) (pa_cons (pe_bltn (v := .ty "dict") (by rfl) T.dict (by decide +kernel) rfl) pa_nil)))) pss_never pss_nil)
        (pss_one (ps_ret (pv 0))))), ?_⟩
      obtain ⟨r1, e1, f1⟩ := kit_list d
      obtain ⟨r2, e2, f2⟩ := kit_tuple d
      walk_at "rd"
      refine r_isi (Dp.kind hv) e1 ?_
      walk_at "rd"
      cases r1 with
      | true =>
        obtain ⟨ds, rfl⟩ := f1.mp rfl
        cases hd with
        | lst hds hz =>
          cases hv with
          | @lst a xs _ hS hA =>
            have ln := dpAll_len hA
            walk_at "rd"
            refine ⟨a, rfl, ⟨_, hS⟩, fun D hD => lc_list (K := K) (a := a) (xs := xs) (Copied H D ds) (Copied.start hD) (fun i H' _ c => c.choose_spec.2.2.1.seq hS) (fun i x H' hi c => ?_) (fun H' c => ?_)⟩
            · obtain ⟨d, hd, hx⟩ := dpAll_at hA hi
              have s1 : Same H H' := c.choose_spec.2.2.1
              walk_at "rd"
              refine ⟨rfl, ?_⟩
              walk_at "rd"
              refine ⟨x, d, rfl, Dp.later s1 hx, hds d (List.mem_of_getElem? hd), fun v' H2 s2 o => ?_⟩
              obtain ⟨acc, h1, h2, h3⟩ := c.more hD s2 o hd
              refine ⟨acc, h1, Nat.lt_of_lt_of_le ?_ (show 1001 ≤ sizeLine by decide), h3⟩
              have := (List.getElem?_eq_some_iff.mp hd).1
              omega
            · rw [ln] at c
              obtain ⟨ys, h1, h2, h3, h4⟩ := Copied.done hD c
              exact k _ _ h3 (.lst hD h1 h2 h4)
      | false =>
        walk_at "rd"
        refine r_isi (Dp.kind hv) e2 ?_
        walk_at "rd"
        cases r2 with
        | true =>
          obtain ⟨ds, rfl⟩ := f2.mp rfl
          cases hd with
          | tup hds hz =>
            cases hv with
            | @tup a xs _ hS hA =>
              have ln := dpAll_len hA
              walk_at "rd"
              refine ⟨a, rfl, ⟨_, hS⟩, fun D hD => lc_tup (K := K) (a := a) (xs := xs) (Copied H D ds) (Copied.start hD) (fun i H' _ c => ?_) (fun i x H' hi c => ?_) (fun H' c => ?_)⟩
              · have s1 : Same H H' := c.choose_spec.2.2.1
                rcases hS with (h | ⟨o, h⟩) | h
                · exact .inl (.inl (s1 _ _ h))
                · exact .inl (.inr ⟨o, s1 _ _ h⟩)
                · exact .inr h
              · obtain ⟨d, hd, hx⟩ := dpAll_at hA hi
                have s1 : Same H H' := c.choose_spec.2.2.1
                walk_at "rd"
                refine ⟨rfl, ?_⟩
                walk_at "rd"
                refine ⟨x, d, rfl, Dp.later s1 hx, hds d (List.mem_of_getElem? hd), fun v' H2 s2 o => ?_⟩
                obtain ⟨acc, h1, h2, h3⟩ := c.more hD s2 o hd
                refine ⟨acc, h1, Nat.lt_of_lt_of_le ?_ (show 1001 ≤ sizeLine by decide), h3⟩
                have := (List.getElem?_eq_some_iff.mp hd).1
                omega
              · rw [ln] at c
                obtain ⟨ys, h1, h2, h3, h4⟩ := Copied.done hD c
                walk_at "rd"
                refine r_tupOf (SqL.of h1) fun q hq => ?_
                have s2 : Same H (upd H' q (.tup ys)) := Same.up h3 hq
                exact k _ _ s2 (.tup (h3.free hq) upd_same h2 fun j v d e1 e2 => (h4 j v d e1 e2).later (Same.up (Same.refl H') hq))
        | false =>
          walk_at "rd"
          refine r_isi (Dp.kind hv) (kit_dict hd) ?_
          walk_at "rd"
          refine k v H (Same.refl H) ?_
          cases hd with
          | non => cases hv; exact .non
          | bl b => cases hv; exact .bl b
          | int i => cases hv; exact .int i
          | str z => cases hv; exact .str z
          | lst h z => exact absurd (f1.mpr ⟨_, rfl⟩) Bool.false_ne_true
          | tup h z => exact absurd (f2.mpr ⟨_, rfl⟩) Bool.false_ne_true
end
end Pk
set_option Elab.async false
set_option linter.all false
set_option maxRecDepth 100000
set_option maxHeartbeats 4000000
namespace Pk
open PySem L2
local macro_rules | `(tactic| walk_at "rd") => `(tactic| repeat (first
  | with_reducible refine r_seq ?_ | with_reducible refine r_nxt ?_ | with_reducible refine r_asg ?_ | with_reducible refine r_to ?_ | with_reducible refine r_ret ?_ | with_reducible refine r_for ?_ | with_reducible refine r_lc ?_ | with_reducible refine r_lc2 ?_ | with_reducible refine r_rng1 ?_ | with_reducible refine r_list ?_ | with_reducible refine r_tupI ?_ | with_reducible refine r_drop ?_ | with_reducible refine r_ifs ?_
  | with_reducible refine r_op ?_ | with_reducible refine r_c ?_ | with_reducible refine r_var rfl ?_ | with_reducible refine r_var (by assumption) ?_ | with_reducible refine r_I0 ?_ | with_reducible refine r_un ?_ | with_reducible refine r_U ?_ | with_reducible refine r_make ?_ | with_reducible refine r_makeS ?_ | with_reducible refine r_ifE ?_ | with_reducible refine r_cm ?_ | with_reducible refine r_mkV rfl ?_ | with_reducible refine r_sub ?_
  | with_reducible refine r_nil ?_ | with_reducible refine r_cons ?_ | with_reducible refine r_cb ?_ | with_reducible refine r_sl ?_ | with_reducible refine r_noP ?_ | with_reducible refine r_part ?_ | with_reducible refine r_isI ?_ | with_reducible refine r_lst ?_ | with_reducible refine r_tup ?_ | with_reducible refine r_call ?_ | with_reducible refine r_callS ?_ | with_reducible refine r_sFldU ?_ | with_reducible refine r_chain ?_ | with_reducible refine r_enum ?_ | with_reducible refine r_zip ?_ | with_reducible refine r_rng3 ?_ | with_reducible refine r_gtup ?_ | with_reducible refine r_methU ?_
  | with_reducible refine r_test ?_ | with_reducible refine r_B ?_ | with_reducible refine r_and ?_ | with_reducible refine r_or ?_ | with_reducible refine r_not ?_ | with_reducible refine r_andV ?_ | with_reducible refine r_orV ?_ | with_reducible refine r_notV ?_ | with_reducible refine r_bl ?_ | with_reducible refine r_yes ?_ | with_reducible refine r_int ?_ | with_reducible refine r_is0 ?_ | with_reducible refine r_is1 ?_ | with_reducible refine iteT ?_ | with_reducible refine iteF ?_ | with_reducible refine ite_nF ?_ | with_reducible refine ite_nT ?_
  | with_reducible refine r_mod (by decide) ?_ | with_reducible refine r_div (by decide) (by decide) ?_ | with_reducible refine r_mulR (by decide) (by decide) ?_ | with_reducible refine r_mulL (by decide) (by decide) ?_ | with_reducible refine r_pow (by decide) (by decide) (by decide) ?_))
/-! ### is_integer, is_between, is_two -/
theorem one_fst {f : Str} {v : V} : List.lookup f [(f, v)] = some v := by simp [List.lookup]
theorem one_no {m f : Str} {v : V} (h : (m == f) = false) : List.lookup m [(f, v)] = none := by simp [List.lookup, h]
theorem cut_take {vs : List V} {i : Nat} (h : i ≤ vs.length) : cutV vs none (some (i : Int)) = vs.take i := by
  have e : min (i : Int).toNat vs.length = i := by simp; omega
  have n : ¬ (i : Int) < 0 := by omega
  simp only [cutV, HT.sIx, if_neg n, e, List.drop_zero, Nat.sub_zero]
theorem cut_drop {vs : List V} {i : Nat} (h : i ≤ vs.length) : cutV vs (some (i : Int)) none = vs.drop i := by
  have e : min (i : Int).toNat vs.length = i := by simp; omega
  have n : ¬ (i : Int) < 0 := by omega
  simp only [cutV, HT.sIx, if_neg n, e]
  exact List.take_of_length_le (by rw [List.length_drop]; omega)
theorem two_eq {x y : PyData} (h : isID x = true) : twoD (.tuple [x, y]) = isID y := by
  cases x <;> cases h
  cases y <;> rfl
theorem two_noD {x y : PyData} (h : isID x = false) : twoD (.tuple [x, y]) = false := by
  cases x <;> first | rfl | cases h
theorem len2 {ds : List PyData} (h : ds.length = 2) : ∃ d1 d2, ds = [d1, d2] := by
  match ds, h with
  | [a, b], _ => exact ⟨a, b, rfl⟩
theorem all2 {K : PySem.W.Frag} {H : Hp} {vs : List V} {x y : PyData} (h : DpAll K H vs [x, y]) : ∃ v u, vs = [v, u] ∧ Dp K H v x ∧ Dp K H u y := by
  cases h with
  | cons h1 r => cases r with
    | cons h2 r2 => cases r2; exact ⟨_, _, rfl, h1, h2⟩
def betD (lo hi : Int) : PyData → Bool
  | .int i => decide (lo ≤ i) && decide (i ≤ hi)
  | _ => false
def spIntD (K : PySem.W.Frag) : Sp := fun vs H Q _ => ∃ (v : V) (d : PyData), vs = [v] ∧ Dp K H v d ∧ Q (.bl (isID d)) H
def spTwoD (K : PySem.W.Frag) : Sp := fun vs H Q _ => ∃ (v : V) (d : PyData), vs = [v] ∧ Dp K H v d ∧ Q (.bl (twoD d)) H
def spBetD (K : PySem.W.Frag) : Sp := fun vs H Q _ => ∃ (v : V) (d : PyData) (lo hi : Int), vs = [v, .int lo, .int hi] ∧ Dp K H v d ∧ Q (.bl (betD lo hi d)) H
/-- the def within a class's text -/
def inCls (i j : Nat) : Stmt := match top i with
  | .ClassDef (body := b) .. => b.getD j (.Pass ⟨0, 0, 0, 0⟩)
  | _ => .Pass ⟨0, 0, 0, 0⟩
abbrev slIsInt : Stmt := top 16
abbrev slTwo : Stmt := top 18
section
variable {P : Program} {w : World} {K : PySem.W.Frag} {mg : Str → Option Value} {base : Heap} {C CE f : Addr} {fd : FuncData}
theorem sclIsInt : FnScope ["value"] ["value"] (defScope slIsInt) := ⟨rfl, rfl, rfl, by decide +kernel, rfl, by decide +kernel, by decide +kernel⟩
theorem ok_isInt (F : Fun K "is_integer" "is_integer" slIsInt f fd) (T : Bt mg) : FnOk P w K mg base CX0 1 f fd ["value"] (spIntD K) := by
  refine F.ok sclIsInt (fun vs H Q E h => ?_) (fun cdv A outer s H vs Q E hr h => ?_)
  · obtain ⟨v, d, rfl, _⟩ := h
    rfl
  · obtain ⟨v, d, rfl, hd, k⟩ := h
    refine ⟨_, (pss_one (ps_ret (pe_and (pe_callB call_isi (by rfl) T.isinstance (by decide +kernel) (pa_cons (pv 0) (pa_cons (pe_bltn (v := .ty "int") (by rfl) T.int (by decide +kernel) rfl) pa_nil))) (pe_one (pe_not (pe_callB call_isi (by rfl) T.isinstance (by decide +kernel) (pa_cons (pv 0) (pa_cons (pe_bltn (v := .ty "bool") (by rfl) T.bool (by decide +kernel) rfl) pa_nil)))))))), ?_⟩
    walk_at "rd"
    refine r_isDI hd ?_
    walk_at "rd"
    by_cases e : isIB d = true
    · refine ifT e ?_
      walk_at "rd"
      refine r_isDB hd ?_
      walk_at "rd"
      rw [show isID d = !isBD d from by cases d <;> first | rfl | cases e] at k
      exact k
    · refine ifF (Bool.eq_false_iff.mpr e) ?_
      rw [show isID d = false from by cases d <;> first | exact absurd rfl e | rfl] at k
      exact k
theorem sclTwo : FnScope ["value"] ["value"] (defScope slTwo) := ⟨rfl, rfl, rfl, by decide +kernel, rfl, by decide +kernel, by decide +kernel⟩
theorem ok_two (F : Fun K "is_two" "is_two" slTwo f fd) (T : Bt mg) (DI : Df P w K mg base CX0 "is_integer" 1 ["value"] (spIntD K)) : FnOk P w K mg base CX0 2 f fd ["value"] (spTwoD K) := by
  refine F.ok sclTwo (fun vs H Q E h => ?_) (fun cdv A outer s H vs Q E hr h => ?_)
  · obtain ⟨v, d, rfl, _⟩ := h
    rfl
  · obtain ⟨v, d, rfl, hd, k⟩ := h
    refine ⟨_, (pss_one (ps_ret (pe_and (pe_callB call_isi (by rfl) T.isinstance (by decide +kernel) (pa_cons (pv 0) (pa_cons (pe_bltn (v := .ty "tuple") (by rfl) T.tuple (by decide +kernel) rfl) pa_nil))) (pe_and (pe_cmpR op_eq (pe_callB cl_len (by rfl) T.len PySem.boot_len (pa_cons (pv 0) pa_nil)) pe_int (nomark _)) (pe_and (pe_df DI hr (by decide) (pa_cons (pe_ix ix_tup (pv 0) pe_int (fun _ _ => rfl)) pa_nil)) (pe_one (pe_df DI hr (by decide) (pa_cons (pe_ix ix_tup (pv 0) pe_int (fun _ _ => rfl)) pa_nil)))))))), ?_⟩
    walk_at "rd"
    refine r_isDT hd ?_
    walk_at "rd"
    by_cases e : isTD d = true
    · refine ifT e ?_
      obtain ⟨ds, rfl⟩ : ∃ ds, d = .tuple ds := by cases d <;> first | exact ⟨_, rfl⟩ | cases e
      obtain ⟨t, vs, rfl, ht, hv⟩ := Dp.tupAt hd
      have vl := DpAll.len hv
      walk_at "rd"
      refine r_lenT ht ?_
      walk_at "rd"
      refine r_eq rfl ?_
      walk_at "rd"
      rw [show decide (V.int (vs.length : Int) = V.int 2) = decide (ds.length = 2) from decide_eq_decide.mpr ⟨fun h => by have := V.int.inj h; omega, fun h => by rw [vl, h]; rfl⟩]
      by_cases e2 : ds.length = 2
      · refine ifT (decide_eq_true e2) ?_
        obtain ⟨d1, d2, rfl⟩ : ∃ d1 d2, ds = [d1, d2] := len2 e2
        obtain ⟨v1, v2, rfl, h1, h2⟩ := all2 hv
        walk_at "rd"
        refine r_ixT ht (atI_nat (j := 0) rfl) ?_
        walk_at "rd"
        refine ⟨_, d1, rfl, h1, ?_⟩
        walk_at "rd"
        by_cases e3 : isID d1 = true
        · refine ifT e3 ?_
          walk_at "rd"
          refine r_ixT ht (atI_nat (j := 1) rfl) ?_
          walk_at "rd"
          refine ⟨_, d2, rfl, h2, ?_⟩
          rw [two_eq e3] at k
          exact k
        · refine ifF (Bool.eq_false_iff.mpr e3) ?_
          rw [two_noD (Bool.eq_false_iff.mpr e3)] at k
          exact k
      · refine ifF (decide_eq_false e2) ?_
        have : twoD (.tuple ds) = false := by
          cases q : twoD (.tuple ds) with
          | false => rfl
          | true =>
            obtain ⟨a, b, z⟩ := twoD_inv q
            cases z
            exact absurd rfl e2
        rw [this] at k
        exact k
    · refine ifF (Bool.eq_false_iff.mpr e) ?_
      rw [show twoD d = false from by cases d <;> first | exact absurd rfl e | rfl] at k
      exact k
theorem Dp.intV {H : Hp} {v : V} {i : Int} (h : Dp K H v (.int i)) : v = .int i := by
  cases h
  rfl
end
/-! ### a table is made -/
theorem pV_of {K : PySem.W.Frag} {H : Hp} {v : V} {z : Option Int} (h : Dp K H v (pD z)) : v = pV z := by
  cases z with
  | none => cases h; rfl
  | some i => cases h; rfl
theorem pVs_of {K : PySem.W.Frag} {H : Hp} : ∀ {vs : List V} {r : List (Option Int)}, DpAll K H vs (r.map pD) → vs = r.map pV
  | [], [], _ => rfl
  | _ :: _, [], h => by cases h
  | [], _ :: _, h => by cases h
  | v :: vs, z :: r, h => by
    cases h with
    | cons h1 h2 => rw [pV_of h1, pVs_of h2]; rfl
def isND : PyData → Bool
  | .none => true
  | _ => false
theorem non_iff {K : PySem.W.Frag} {H : Hp} {v : V} {d : PyData} (h : Dp K H v d) : decide (v = .non) = isND d := by
  cases h <;> rfl
def spPrice (K : PySem.W.Frag) : Sp := fun vs H Q _ => ∃ (v : V) (d : PyData), vs = [v] ∧ Dp K H v d ∧ Q (.bl (priceD d)) H
def spRow (K : PySem.W.Frag) : Sp := fun vs H Q _ => ∃ (v u : V) (d e : PyData), vs = [v, u] ∧ Dp K H v d ∧ Dp K H u e ∧ (isLD d = true → isLD e = true) ∧ ∀ H' : Hp, Same H H' → Q (.bl (rowOk d e)) H'
def spChkR (K : PySem.W.Frag) (CE : Addr) : Sp := fun vs H Q E => ∃ (v : V) (d : PyData), vs = [v] ∧ Dp K H v d ∧ (badT d = none → ∀ H' : Hp, Same H H' → Q .non H') ∧
  (∀ k, badT d = some k → ∀ (dd : Addr) (H' : Hp), Same H H' → H dd = none → H' dd = some (.xd [("at", .int k)]) → E (.ref CE) (some dd) H')
/-- Table.__init__ -/
def spTbI (K : PySem.W.Frag) (C CE : Addr) : Sp := fun vs H Q E => ∃ (x dx : Addr) (v : V) (d : PyData), vs = [.ref x, v] ∧ H x = some (.ins C dx []) ∧ H dx = some (.own x) ∧ dx ≠ x ∧ Dp K H v d ∧
  (∀ R, d = rowsD R → Gt R → ∀ (H' G : Hp), TbX C G x R → Same G H' → (∀ a o, G a = some o → a = x ∨ H a = none) → (∀ a o, a ≠ x → H a = some o → H' a = some o) → Q .non H') ∧
  (∀ k, badT d = some k → ∀ (dd : Addr) (H' : Hp), Same H H' → H dd = none → H' dd = some (.xd [("at", .int k)]) → E (.ref CE) (some dd) H')
abbrev slPrice : Stmt := top 52
abbrev slRow : Stmt := top 53
abbrev slChkR : Stmt := top 54
abbrev slTbI : Stmt := inCls 57 0
structure TbC (K : PySem.W.Frag) (C : Addr) : Prop where
  O : OwnC K C
  e : NoAttr K C "entries"
  u : NoAttr K C "used"
section
variable {P : Program} {w : World} {K : PySem.W.Frag} {mg : Str → Option Value} {base : Heap} {C CE f : Addr} {fd : FuncData}
theorem sclPrice : FnScope ["value"] ["value"] (defScope slPrice) := ⟨rfl, rfl, rfl, by decide +kernel, rfl, by decide +kernel, by decide +kernel⟩
theorem ok_price (F : Fun K "is_price" "is_price" slPrice f fd) (DI : Df P w K mg base CX0 "is_integer" 1 ["value"] (spIntD K)) : FnOk P w K mg base CX0 2 f fd ["value"] (spPrice K) := by
  refine F.ok sclPrice (fun vs H Q E h => ?_) (fun cdv A outer s H vs Q E hr h => ?_)
  · obtain ⟨v, d, rfl, _⟩ := h
    rfl
  · obtain ⟨v, d, rfl, hd, k⟩ := h
    refine ⟨_, (pss_one (ps_ret (pe_or (pe_cmpR op_is0 (pv 0) pe_non (nomark _)) (pe_one (pe_df DI hr (by decide) (pa_cons (pv 0) pa_nil)))))), ?_⟩
    walk_at "rd"
    rw [non_iff hd]
    by_cases e : isND d = true
    · refine ifT e ?_
      rw [show priceD d = true from by cases d <;> first | rfl | cases e] at k
      exact k
    · refine ifF (Bool.eq_false_iff.mpr e) ?_
      walk_at "rd"
      refine ⟨v, d, rfl, hd, ?_⟩
      rw [show priceD d = isID d from by cases d <;> first | rfl | exact absurd rfl e] at k
      exact k
theorem sclRow : FnScope ["value", "first", "entry"] ["value", "first"] (defScope slRow) := ⟨rfl, rfl, rfl, by decide +kernel, rfl, by decide +kernel, by decide +kernel⟩
theorem ok_row (F : Fun K "is_row" "is_row" slRow f fd) (T : Bt mg) (tall : mg "all" = none) {tk : Tok} (hM : mg "MOST_LINES" = some (.int 8 tk)) (DP : Df P w K mg base CX0 "is_price" 2 ["value"] (spPrice K)) : FnOk P w K mg base CX0 3 f fd ["value", "first"] (spRow K) := by
  refine F.ok sclRow (fun vs H Q E h => ?_) (fun cdv A outer s H vs Q E hr h => ?_)
  · obtain ⟨v, u, d, e, rfl, _⟩ := h
    rfl
  · obtain ⟨v, u, d, e, rfl, hd, he, hl, k⟩ := h
    refine ⟨_, (pss_cons (ps_if (PW.pt (pw_or (pt_not (pt_val (pe_callB call_isi (by rfl) T.isinstance (by decide +kernel) (pa_cons (pv 0) (pa_cons (pe_bltn (v := .ty "list") (by rfl) T.list (by decide +kernel) rfl) pa_nil))))) (pw_or (pt_not (pt_chain op_le op_le pe_int (pe_callB cl_len (by rfl) T.len PySem.boot_len (pa_cons (pv 0) pa_nil)) (pe_glob (v := .int 8) (by rfl) hM ⟨tk, rfl⟩))) (pw_or1 (pt_cmpR op_ne (pe_callB cl_len (by rfl) T.len PySem.boot_len (pa_cons (pv 0) pa_nil)) (pe_callB cl_len (by rfl) T.len PySem.boot_len (pa_cons (pv 1) pa_nil)) (nomark _)))))) (pss_one (ps_ret pe_bl)) pss_nil)
  (pss_one (ps_ret (pe_callB (cr_all rfl) (by rfl) tall (by decide +kernel) (pa_cons (pe_lc (own := [("entry", 2)]) (g := gName 2) rfl sclRow.nd (pi_list (pv 0)) (blkOk_by (own := [("entry", 2)]) (N := ["value", "first", "entry"]) (sc := defScope slRow) (by decide +kernel)) (fun _ _ _ _ _ => pg_name (i := 2) sclRow.nd rfl (Or.inl rfl)) (fun _ _ _ _ _ => pts_nil) (fun _ _ _ _ _ => (pe_df DP hr (by decide) (pa_cons (pv 2) pa_nil)))) pa_nil))))), ?_⟩
    have no : rowOk d e = false → Q (.bl false) H := fun z => by
      have := k H (Same.refl H)
      rw [z] at this
      exact this
    walk_at "rd"
    refine r_isDL hd ?_
    walk_at "rd"
    by_cases c0 : isLD d = true
    · refine ifF (by rw [c0]; rfl) ?_
      obtain ⟨ds, rfl⟩ : ∃ ds, d = .list ds := by
        cases d with
        | list ds => exact ⟨ds, rfl⟩
        | _ => cases c0
      obtain ⟨es, rfl⟩ : ∃ es, e = .list es := by
        have := hl c0
        cases e with
        | list ds => exact ⟨ds, rfl⟩
        | _ => cases this
      obtain ⟨a, vs, rfl, ha, hv⟩ := Dp.lstAt hd
      obtain ⟨b, us, rfl, hb, hu⟩ := Dp.lstAt he
      have vl := DpAll.len hv
      have ul := DpAll.len hu
      walk_at "rd"
      refine r_lenL ha ?_
      walk_at "rd"
      by_cases c1 : 1 ≤ ds.length
      · refine ifT (decide_eq_true (by omega)) ?_
        walk_at "rd"
        by_cases c2 : ds.length ≤ 8
        · refine ifF (by rw [decide_eq_true (by omega)]; rfl) ?_
          walk_at "rd"
          refine r_lenL ha ?_
          walk_at "rd"
          refine r_lenL hb ?_
          walk_at "rd"
          refine r_ne rfl ?_
          walk_at "rd"
          by_cases c3 : ds.length = es.length
          · refine ifF (by rw [decide_eq_true (by rw [vl, ul, c3])]; rfl) ?_
            walk_at "rd"
            refine ⟨a, rfl, ⟨_, ha⟩, fun D nD => lc_it walk_list (Out H D fun i => V.bl (priceD (ds.getD i .none))) (Out.start nD) (fun i H1 _ o => o.1.seq ha) ?_ ?_⟩
            · rintro i y H1 H2 hi o ⟨rfl, e1⟩
              obtain ⟨dy, hdy, py⟩ := DpAll.at hv e1
              walk_at "rd"
              refine ⟨rfl, ?_⟩
              walk_at "rd"
              refine ⟨y, dy, rfl, Dp.later o.1 py, ?_⟩
              have ey : V.bl (priceD dy) = (fun i => V.bl (priceD (ds.getD i .none))) i := by
                show _ = V.bl (priceD (ds.getD i .none))
                rw [List.getD_eq_getElem?_getD, hdy]
                rfl
              rw [ey]
              exact o.more nD (Same.refl _) (Nat.lt_of_lt_of_le (show i < 9 by omega) (by decide))
            · rintro H1 ⟨s1, hD⟩
              walk_at "rd"
              refine ⟨D, ds.map priceD, rfl, SqL.of (hD.trans ?_), ?_⟩
              · congr 2
                apply List.ext_getElem
                · simp [vl]
                · intro n h1 h2
                  have hn : n < ds.length := by simpa using h2
                  simp [List.getElem?_eq_getElem hn]
              · rw [show ((ds.map priceD).all id) = rowOk (.list ds) (.list es) from by
                  simp only [rowOk, List.all_map]
                  rw [decide_eq_true c1, decide_eq_true c2, decide_eq_true c3]
                  rfl]
                exact k H1 s1
          · refine ifT (by rw [decide_eq_false (fun z => c3 (by have := V.int.inj z; omega))]; rfl) ?_
            walk_at "rd"
            exact no (by simp [rowOk, c3])
        · refine ifT (by rw [decide_eq_false (by omega)]; rfl) ?_
          walk_at "rd"
          exact no (by simp [rowOk, c2])
      · refine ifF (decide_eq_false (by omega)) ?_
        walk_at "rd"
        exact no (by simp [rowOk, c1])
    · refine ifT (by rw [Bool.eq_false_iff.mpr c0]; rfl) ?_
      walk_at "rd"
      exact no (by
        cases d with
        | list ds => exact absurd rfl c0
        | _ => rfl)
theorem sclChkR : FnScope ["rows", "i", "row"] ["rows"] (defScope slChkR) := ⟨rfl, rfl, rfl, by decide +kernel, rfl, by decide +kernel, by decide +kernel⟩
theorem ok_chkR (F : Fun K "check_rows" "check_rows" slChkR f fd) (T : Bt mg) {tk : Tok} (hM : mg "MOST_LINES" = some (.int 8 tk)) (DR : Df P w K mg base CX0 "is_row" 3 ["value", "first"] (spRow K)) (ET : De P w K mg base "InvalidTable" 3 (spErr1 K 1 CE "at") CE) :
    FnOk P w K mg base (L2.CX P w) 6 f fd ["rows"] (spChkR K CE) := by
  refine F.okX sclChkR (fun vs H Q E h => ?_) (fun cdv A outer s H vs Q E hr h => ?_)
  · obtain ⟨v, d, rfl, _⟩ := h
    rfl
  · obtain ⟨v, d, rfl, hd, k1, k2⟩ := h
    refine ⟨_, (pss_cons (ps_if (PW.pt (pw_or (pt_not (pt_val (pe_callB call_isi (by rfl) T.isinstance (by decide +kernel) (pa_cons (pv 0) (pa_cons (pe_bltn (v := .ty "list") (by rfl) T.list (by decide +kernel) rfl) pa_nil))))) (pw_or1 (pt_not (pt_chain op_le op_le pe_int (pe_callB cl_len (by rfl) T.len PySem.boot_len (pa_cons (pv 0) pa_nil)) (pe_glob (v := .int 8) (by rfl) hM ⟨tk, rfl⟩)))))) (pss_one (ps_rse rfl (takes_of rfl rfl rfl rfl) ET hr (by decide) (pa_cons (pe_un un_neg pe_int) pa_nil))) pss_nil)
  (pss_one (ps_for (passes_of rfl) rfl (pi_enum (by rfl) T.enumerate (pa_cons (pv 0) pa_nil)) (pg_tup (by rfl) (pgs_cons (pg_name (i := 1) sclChkR.nd rfl (Or.inl rfl)) (pgs_cons (pg_name (i := 2) sclChkR.nd rfl (Or.inl rfl)) pgs_nil))) (pss_one (ps_if (pt_not (pt_val (pe_df DR hr (by decide) (pa_cons (pv 2) (pa_cons (pe_ix ix_list (pv 0) pe_int (fun _ _ => rfl)) pa_nil))))) (pss_one (ps_rse rfl (takes_of rfl rfl rfl rfl) ET hr (by decide) (pa_cons (pv 1) pa_nil))) pss_nil))))), ?_⟩
    have raise1 : badT d = some (-1) → tMkErr CE (spErr1 K 1 CE "at") (tCons (tUn (rU fun i => .int (-i)) (tC (.int 1))) tNil) [some v, none, none] H (fun cls d H' => E cls d H') := fun b => by
      refine r_mkErr ?_
      walk_at "rd"
      refine r_err1 (σ := []) (.int _) (.int _) fun dd v' H' s1 h1 h2 o1 => ?_
      cases o1
      exact k2 (-1) b dd H' s1 h1 h2
    walk_at "rd"
    refine r_isDL hd ?_
    walk_at "rd"
    by_cases e : isLD d = true
    · refine ifF (by rw [e]; rfl) ?_
      obtain ⟨ds, rfl⟩ : ∃ ds, d = .list ds := by
        cases d with
        | list ds => exact ⟨ds, rfl⟩
        | _ => cases e
      obtain ⟨a, vs, rfl, ha, hv⟩ := Dp.lstAt hd
      have vl := DpAll.len hv
      walk_at "rd"
      refine r_lenL ha ?_
      walk_at "rd"
      by_cases c1 : 1 ≤ ds.length
      · refine ifT (decide_eq_true (by omega)) ?_
        walk_at "rd"
        by_cases c2 : ds.length ≤ 8
        · refine ifF (by rw [decide_eq_true (by omega)]; rfl) ?_
          have bd : badT (.list ds) = (firstRow ds).map Int.ofNat := if_neg (by omega)
          have e0 := List.getElem?_eq_getElem (l := vs) (i := 0) (by omega)
          obtain ⟨d0, hd0, p0⟩ := DpAll.at hv e0
          have g0 : ds.getD 0 .none = d0 := by rw [List.getD_eq_getElem?_getD, hd0]; rfl
          walk_at "rd"
          refine ⟨a, _, rfl, ha, for_it walk_enum (fun i σ H' => ∃ u v, σ = [some (.ref a), u, v] ∧ Same H H' ∧ ∀ j, j < i → rowOk (ds.getD j .none) (ds.getD 0 .none) = true) ⟨none, none, rfl, Same.refl H, fun j hj => by cases hj⟩ (fun i σ H' _ ⟨_, _, _, s, _⟩ => s.seq ha) ?_ ?_⟩
          · rintro i x σ H1 H2 hi ⟨u, v, rfl, s1, prev⟩ ⟨t, i', y, rfl, ht, rfl, e1, e2⟩
            obtain ⟨dy, hdy, py⟩ := DpAll.at hv e2
            cases (Option.some.inj e1)
            have gd : ds.getD i .none = dy := by rw [List.getD_eq_getElem?_getD, hdy]; rfl
            have st : Same H (upd H1 t (.tup [.int (i : Int), y])) := Same.up s1 ht
            refine r_gtup ⟨t, _, rfl, SqT.of upd_same, rfl, _, _, rfl, ?_⟩
            walk_at "rd"
            refine ⟨_, _, rfl, ?_⟩
            walk_at "rd"
            refine ⟨rfl, ?_⟩
            walk_at "rd"
            refine r_ixL (st.seq ha) (atI_nat (j := 0) e0) ?_
            walk_at "rd"
            refine ⟨y, _, dy, d0, rfl, Dp.later st py, Dp.later st p0, fun z => ?_, fun H3 s3 => ?_⟩
            · by_cases i0 : i = 0
              · subst i0
                rw [gd] at g0
                rw [← g0]
                exact z
              · have a0 := prev 0 (by omega)
                rw [g0] at a0
                cases d0 with
                | list es => rfl
                | _ => cases a0
            · walk_at "rd"
              by_cases o : rowOk dy d0 = true
              · refine ifF (by rw [o]; rfl) ?_
                walk_at "rd"
                refine ⟨_, _, rfl, st.trans s3, fun j hj => ?_⟩
                by_cases ji : j < i
                · exact prev j ji
                · have : j = i := by omega
                  rw [this, gd, g0]
                  exact o
              · refine ifT (by rw [Bool.eq_false_iff.mpr o]; rfl) ?_
                walk_at "rd"
                refine r_mkErr ?_
                walk_at "rd"
                refine r_err1 (σ := []) (.int _) (.int _) fun dd v' H' s4 h1 h2 o1 => ?_
                cases o1
                exact k2 (i : Int) (by rw [bd, firstRow_some (by omega) prev (by rw [gd, g0]; exact Bool.eq_false_iff.mpr o)]; rfl) dd H' ((st.trans s3).trans s4) ((st.trans s3).free h1) h2
          · rintro σ H1 ⟨u, v, rfl, s1, prev⟩
            exact k1 (by rw [bd, firstRow_none (fun j hj => prev j (by omega))]; rfl) H1 s1
        · refine ifT (by rw [decide_eq_false (by omega)]; rfl) ?_
          exact raise1 (if_pos (by omega))
      · refine ifF (decide_eq_false (by omega)) ?_
        walk_at "rd"
        exact raise1 (if_pos (by omega))
    · refine ifT (by rw [Bool.eq_false_iff.mpr e]; rfl) ?_
      exact raise1 (badT_no (Bool.eq_false_iff.mpr e))
end
end Pk
set_option Elab.async false
set_option linter.all false
set_option maxRecDepth 100000
set_option maxHeartbeats 4000000
namespace Pk
open PySem L2
local macro_rules | `(tactic| walk_at "rd") => `(tactic| repeat (first
  | with_reducible refine r_seq ?_ | with_reducible refine r_nxt ?_ | with_reducible refine r_asg ?_ | with_reducible refine r_to ?_ | with_reducible refine r_ret ?_ | with_reducible refine r_for ?_ | with_reducible refine r_lc ?_ | with_reducible refine r_lc2 ?_ | with_reducible refine r_rng1 ?_ | with_reducible refine r_list ?_ | with_reducible refine r_tupI ?_ | with_reducible refine r_drop ?_ | with_reducible refine r_ifs ?_
  | with_reducible refine r_op ?_ | with_reducible refine r_c ?_ | with_reducible refine r_var rfl ?_ | with_reducible refine r_var (by assumption) ?_ | with_reducible refine r_I0 ?_ | with_reducible refine r_un ?_ | with_reducible refine r_U ?_ | with_reducible refine r_make ?_ | with_reducible refine r_makeS ?_ | with_reducible refine r_ifE ?_ | with_reducible refine r_cm ?_ | with_reducible refine r_mkV rfl ?_ | with_reducible refine r_sub ?_
  | with_reducible refine r_nil ?_ | with_reducible refine r_cons ?_ | with_reducible refine r_cb ?_ | with_reducible refine r_sl ?_ | with_reducible refine r_noP ?_ | with_reducible refine r_part ?_ | with_reducible refine r_isI ?_ | with_reducible refine r_lst ?_ | with_reducible refine r_tup ?_ | with_reducible refine r_call ?_ | with_reducible refine r_callS ?_ | with_reducible refine r_sFldU ?_ | with_reducible refine r_chain ?_ | with_reducible refine r_enum ?_ | with_reducible refine r_zip ?_ | with_reducible refine r_rng3 ?_ | with_reducible refine r_gtup ?_ | with_reducible refine r_methU ?_
  | with_reducible refine r_test ?_ | with_reducible refine r_B ?_ | with_reducible refine r_and ?_ | with_reducible refine r_or ?_ | with_reducible refine r_not ?_ | with_reducible refine r_andV ?_ | with_reducible refine r_orV ?_ | with_reducible refine r_notV ?_ | with_reducible refine r_bl ?_ | with_reducible refine r_yes ?_ | with_reducible refine r_int ?_ | with_reducible refine r_is0 ?_ | with_reducible refine r_is1 ?_ | with_reducible refine iteT ?_ | with_reducible refine iteF ?_ | with_reducible refine ite_nF ?_ | with_reducible refine ite_nT ?_
  | with_reducible refine r_mod (by decide) ?_ | with_reducible refine r_div (by decide) (by decide) ?_ | with_reducible refine r_mulR (by decide) (by decide) ?_ | with_reducible refine r_mulL (by decide) (by decide) ?_ | with_reducible refine r_pow (by decide) (by decide) (by decide) ?_))
/-! ### Table.__init__ -/
theorem SameD.ofKeep {x C dx : Addr} {fs : List (Str × V)} {H H' : Hp} (k : Keep x H H') (hx : H x = some (.ins C dx fs)) : SameD H H' := fun a u l h => k a u (fun z => by
  rw [z, hx] at h
  cases (Option.some.inj h)
  rcases l with ⟨_, l⟩ | ⟨_, l⟩ | ⟨_, _, l⟩ <;> cases l) h
/-- what is new since H, and x -/
def part (x : Addr) (H H' : Hp) : Hp := fun a => if a = x then H' a else match H a with
  | .none => H' a
  | .some _ => .none
theorem part_sub {x : Addr} {H H' : Hp} : Same (part x H H') H' := fun a o e => by
  unfold part at e
  split at e
  · exact e
  · split at e
    · exact e
    · cases e
theorem part_new {x a : Addr} {H H' : Hp} (n : H a = none) : part x H H' a = H' a := by
  unfold part
  rw [n]
  simp
theorem part_x {x : Addr} {H H' : Hp} : part x H H' x = H' x := by simp [part]
theorem part_off {x : Addr} {H H' : Hp} : ∀ a o, part x H H' a = some o → a = x ∨ H a = none := fun a o e => by
  unfold part at e
  split at e
  · rename_i h; exact .inl h
  · split at e
    · rename_i h; exact .inr h
    · cases e
theorem PrsAt.part {x : Addr} {H H3 H' : Hp} {us : List V} {zs : List Pr} (h : PrsAt x H3 us zs) (fr : ∀ v, v ∈ us → ∀ t, v = .ref t → H t = none) (k : Keep x H3 H') : PrsAt x (Pk.part x H H') us zs := by
  induction h with
  | nil => exact .nil
  | cons h _ ih =>
    obtain ⟨t, rfl, n, h⟩ := h
    refine .cons ⟨t, rfl, n, ?_⟩ (ih fun v hv => fr v (List.mem_cons_of_mem _ hv))
    rw [part_new (fr _ List.mem_cons_self t rfl)]
    exact k _ _ n h
def crow (R : Rw) (i j : Nat) : List Pr := ((List.range j).filter fun j => (prc R i j).isSome).map fun (j : Nat) => (((i : Nat) : Int), (j : Int))
def cpre (R : Rw) (i : Nat) : List Pr := (List.range i).flatMap fun i => crow R i (wd R)
theorem crow_more (R : Rw) (i j : Nat) : crow R i (j + 1) = crow R i j ++ (if (prc R i j).isSome = true then [((i : Int), (j : Int))] else []) := by
  unfold crow
  rw [List.range_succ, List.filter_append, List.map_append]
  congr 1
  cases h : (prc R i j).isSome <;> simp [h]
theorem cpre_more (R : Rw) (i : Nat) : cpre R (i + 1) = cpre R i ++ crow R i (wd R) := by
  unfold cpre
  rw [List.range_succ, List.flatMap_append]
  simp
theorem crow_len (R : Rw) (i : Nat) : ∀ j, (crow R i j).length ≤ j
  | 0 => by simp [crow]
  | j + 1 => by
    have := crow_len R i j
    rw [crow_more, List.length_append]
    split <;> simp <;> omega
theorem cpre_len (R : Rw) : ∀ i, (cpre R i).length ≤ i * wd R
  | 0 => by simp [cpre]
  | i + 1 => by
    have h1 := cpre_len R i
    have h2 := crow_len R i (wd R)
    rw [cpre_more, List.length_append, Nat.succ_mul]
    omega
section
variable {P : Program} {w : World} {K : PySem.W.Frag} {mg : Str → Option Value} {base : Heap} {C CE f : Addr} {fd : FuncData}
theorem sclTbI : FnScope ["self", "rows", "row", "price", "j", "i"] ["self", "rows"] (defScope slTbI) := ⟨rfl, rfl, rfl, by decide +kernel, rfl, by decide +kernel, by decide +kernel⟩
theorem ok_tbI (F : Fun K "__init__" "Table.__init__" slTbI f fd) (T : Bt mg) (A : TbC K C) (DC : Df P w K mg base (L2.CX P w) "check_rows" 6 ["rows"] (spChkR K CE)) : FnOk P w K mg base (L2.CX P w) 8 f fd ["self", "rows"] (spTbI K C CE) := by
  refine F.okX sclTbI (fun vs H Q E h => ?_) (fun cdv A' outer s H vs Q E hr h => ?_)
  · obtain ⟨x, dx, v, d, rfl, _⟩ := h
    rfl
  · obtain ⟨x, dx, v, d, rfl, hx, hdx, ne, hd, kgood, kbad⟩ := h
    refine ⟨_, (pss_cons (ps_expr (pe_dfS (takes_of rfl rfl rfl rfl) DC hr (by decide) (pa_cons (pv 1) pa_nil)))
  (pss_cons (ps_fld (pv 0) (pe_lc (own := [("row", 2)]) (g := gName 2) rfl sclTbI.nd (pi_list (pv 1)) (blkOk_by (own := [("row", 2)]) (N := ["self", "rows", "row", "price", "j", "i"]) (sc := defScope slTbI) (by decide +kernel)) (fun _ _ _ _ _ => pg_name (i := 2) sclTbI.nd rfl (Or.inl rfl)) (fun _ _ _ _ _ => pts_nil) (fun _ _ _ _ _ => (pe_callTy (T := "list") (r := rLstOf K) cl_lst (by rfl) T.list (by decide +kernel) (pa_cons (pv 2) pa_nil)))) rfl)
  (pss_one (ps_fld (pv 0) (pe_lc2 (own := [("i", 5), ("row", 2), ("j", 4), ("price", 3)]) (vs1 := [4, 3]) (g := gTup K 2 (gCons (gName 5) (gCons (gName 2) gNil))) (tt := tYes) (wi1 := iEnum K (tCons (tVar 2) tNil)) (g1 := gTup K 2 (gCons (gName 4) (gCons (gName 3) gNil))) (tt1 := tTest (tOp rIs1 (tVar 3) (tC .non))) (te := tTup (tCons (tVar 5) (tCons (tVar 4) tNil))) rfl sclTbI.nd (pi_enum (by rfl) T.enumerate (pa_cons (pv 1) pa_nil)) (blkOk_by (own := [("i", 5), ("row", 2), ("j", 4), ("price", 3)]) (N := ["self", "rows", "row", "price", "j", "i"]) (sc := defScope slTbI) (by decide +kernel)) (by decide)
    (fun _ _ _ _ _ => pg_tup (by rfl) (pgs_cons (pg_name (i := 5) sclTbI.nd rfl (Or.inl rfl)) (pgs_cons (pg_name (i := 2) sclTbI.nd rfl (Or.inl rfl)) pgs_nil))) (fun _ _ _ _ _ => pts_nil) (fun _ _ _ _ _ => pi_enum (by rfl) T.enumerate (pa_cons (pv 2) pa_nil)) (fun _ _ _ _ _ => pg_tup (by rfl) (pgs_cons (pg_name (i := 4) sclTbI.nd rfl (Or.inl rfl)) (pgs_cons (pg_name (i := 3) sclTbI.nd rfl (Or.inl rfl)) pgs_nil)))
    (fun _ _ _ _ _ => pts_one (pt_cmpR op_is1 (pv 3) pe_non (nomark _))) (fun _ _ _ _ _ => (pe_tup (pa_cons (pv 5) (pa_cons (pv 4) pa_nil))))) rfl)))), ?_⟩
    walk_at "rd"
    refine ⟨v, d, rfl, hd, fun b H1 s1 => ?_, fun k e dd H' s1 h1 h2 => kbad k e dd H' s1 h1 h2⟩
    obtain ⟨R, rfl, g⟩ := badT_inv b
    obtain ⟨a, vs, rfl, ha, hv⟩ := Dp.lstAt hd
    have vl : vs.length = R.length := by have := DpAll.len hv; rwa [List.length_map] at this
    have g8 := g.h8
    have w8 := g.w8
    walk_at "rd"
    refine ⟨a, rfl, ⟨_, s1.seq ha⟩, fun D nD => lc_it walk_list (fun i H' => Same H1 H' ∧ ∃ es, H' D = some (.lst es) ∧ es.length = i ∧ ∀ j v, es[j]? = some v → ∃ c, v = .ref c ∧ c ≠ D ∧ H1 c = none ∧ H' c = some (.lst ((R.getD j []).map pV))) ⟨Same.up (Same.refl H1) nD, [], upd_same, rfl, fun j v e => by simp at e⟩ (fun i H2 _ z => z.1.seq (s1.seq ha)) ?_ ?_⟩
    · rintro i y H2 H3 hi ⟨s2, es, hD, el, er⟩ ⟨rfl, e1⟩
      obtain ⟨dy, hdy, py⟩ := DpAll.at hv e1
      have hi' : i < R.length := by omega
      rw [List.getElem?_map, List.getElem?_eq_getElem hi'] at hdy
      cases (Option.some.inj hdy)
      obtain ⟨b, ws, rfl, hb, hw⟩ := Dp.lstAt py
      obtain rfl := pVs_of hw
      walk_at "rd"
      refine ⟨rfl, ?_⟩
      walk_at "rd"
      refine r_lstOf ((s1.trans s2).seq hb) fun c nc => ?_
      have sc := Same.up (o := .lst (R[i].map pV)) (Same.refl H3) nc
      have cD : c ≠ D := fun z => by rw [z, hD] at nc; cases nc
      refine ⟨es, sc _ _ hD, by rw [el]; exact Nat.lt_of_lt_of_le (show i < 9 by omega) (by decide), fun b o e => ?_, es ++ [.ref c], upd_same, by rw [List.length_append, el]; rfl, fun j v e => ?_⟩
      · have n : b ≠ D := fun z => by rw [z, nD] at e; cases e
        rw [upd_ne n]
        exact sc _ _ (s2 _ _ e)
      · by_cases ji : j < es.length
        · rw [List.getElem?_append_left ji] at e
          obtain ⟨c', rfl, n1, n2, n3⟩ := er j v e
          exact ⟨c', rfl, n1, n2, by rw [upd_ne n1]; exact sc _ _ n3⟩
        · rw [List.getElem?_append_right (by omega)] at e
          have : j = i := by
            have := (List.getElem?_eq_some_iff.mp e).1
            simp at this
            omega
          subst this
          rw [el, Nat.sub_self] at e
          cases (Option.some.inj e)
          exact ⟨c, rfl, cD, s2.free nc, by rw [upd_ne cD, upd_same, g.getD hi']⟩
    · rintro H2 ⟨s2, es, hD, el, er⟩
      have hx2 := s2 _ _ (s1 _ _ hx)
      have xD : x ≠ D := fun z => by rw [← z, s1 _ _ hx] at nD; cases nD
      walk_at "rd"
      refine r_sFld0 (C := C) (dx := dx) (fs := []) hx2 A.O.cl A.e (by decide) ?_
      have kx : Keep x H2 (upd H2 x (.ins C dx (putF "entries" (.ref D) []))) := Keep.refl.own
      have sd : SameD H (upd H2 x (.ins C dx (putF "entries" (.ref D) []))) := (SameD.of (s1.trans s2)).trans (SameD.ofKeep kx hx2)
      obtain ⟨Hx, eHx⟩ : ∃ Hx, Hx = upd H2 x (.ins C dx (putF "entries" (.ref D) [])) := ⟨_, rfl⟩
      rw [← eHx] at kx sd ⊢
      have hxx : Hx x = some (.ins C dx [("entries", .ref D)]) := by rw [eHx, upd_same]; rfl
      have fx : ∀ b, Hx b = none → H b = none := fun b e => by
        by_cases z : b = x
        · rw [z, hxx] at e; cases e
        · cases q : H b with
          | none => rfl
          | some o => rw [kx b o z ((s1.trans s2) _ _ q)] at e; cases e
      have hvx := DpAll.laterD sd hv
      walk_at "rd"
      refine ⟨a, vs, rfl, sd.seqL ha, fun D2 nD2 => lc_any walk_enum (fun i H' => Same Hx H' ∧ ∃ us, H' D2 = some (.lst us) ∧ PrsAt x H' us (cpre R i) ∧ ∀ v, v ∈ us → ∀ t, v = .ref t → Hx t = none ∧ t ≠ D2) ⟨Same.up (Same.refl Hx) nD2, [], upd_same, .nil, fun v hv => by cases hv⟩ (fun i H' _ z => z.1.seq (sd.seqL ha)) ?_ ?_⟩
      · rintro i y H3 H4 hi ⟨s3, us, hD2, hu, fr⟩ ⟨t, i', y', rfl, ht, rfl, e1, e2⟩
        cases (Option.some.inj e1)
        obtain ⟨dy, hdy, py⟩ := DpAll.at hvx e2
        have hi' : i < R.length := by omega
        rw [List.getElem?_map, List.getElem?_eq_getElem hi'] at hdy
        cases (Option.some.inj hdy)
        obtain ⟨b, ws, rfl, hb, hw⟩ := Dp.lstAt py
        obtain rfl := pVs_of hw
        have s4 : Same Hx (upd H3 t (.tup [.int (i : Int), .ref b])) := Same.up s3 ht
        have tD2 : t ≠ D2 := fun z => by rw [z, hD2] at ht; cases ht
        have wl : (R[i].map pV).length = wd R := by rw [List.length_map, g.len hi']
        refine r_gtup ⟨t, _, rfl, SqT.of upd_same, rfl, _, _, rfl, ?_⟩
        walk_at "rd"
        refine ⟨_, _, rfl, ?_⟩
        walk_at "rd"
        refine ⟨rfl, rfl, ?_⟩
        walk_at "rd"
        refine ⟨b, _, rfl, s4.seq hb, lc_any walk_enum (fun j H' => Same Hx H' ∧ ∃ us, H' D2 = some (.lst us) ∧ PrsAt x H' us (cpre R i ++ crow R i j) ∧ ∀ v, v ∈ us → ∀ t, v = .ref t → Hx t = none ∧ t ≠ D2) ⟨s4, us, later hD2 ht, by rw [show crow R i 0 = [] from rfl, List.append_nil]; exact hu.keep (Keep.same (Same.up (Same.refl H3) ht)), fr⟩ (fun j H' _ z => z.1.seq hb) ?_ ?_⟩
        · rintro j y2 H5 H6 hj ⟨s5, us5, hD5, hu5, fr5⟩ ⟨t2, j', z', rfl, ht2, rfl, f1, f2⟩
          cases (Option.some.inj f1)
          have hj' : j < wd R := by omega
          have ez := prc_get g hi' hj'
          rw [g.getD hi', show (R[i].map pV)[j]? = some z' from f2] at ez
          cases (Option.some.inj ez)
          have s6 : Same H5 (upd H5 t2 (.tup [.int (j : Int), pV (prc R i j)])) := Same.up (Same.refl H5) ht2
          refine r_gtup ⟨t2, _, rfl, SqT.of upd_same, rfl, _, _, rfl, ?_⟩
          walk_at "rd"
          refine ⟨_, _, rfl, ?_⟩
          walk_at "rd"
          refine ⟨rfl, rfl, ?_⟩
          walk_at "rd"
          cases q : prc R i j with
          | none =>
            refine ifF rfl ⟨s5.trans ?_, us5, ?_, ?_, fr5⟩
            · rw [q] at s6; exact s6
            · rw [q] at s6; exact s6 _ _ hD5
            · rw [crow_more, q, if_neg (by simp), List.append_nil]
              rw [q] at s6
              exact hu5.keep (Keep.same s6)
          | some m =>
            rw [q] at s6
            refine ifT rfl ?_
            walk_at "rd"
            refine ⟨by show 2 ≤ sizeLine; decide, fun r nr => ?_⟩
            have sr := Same.up (o := .tup [.int (i : Int), .int (j : Int)]) s6 nr
            have r5 : H5 r = none := s6.free nr
            have rx : Hx r = none := s5.free r5
            have rD2 : r ≠ D2 := fun z => by rw [z, hD5] at r5; cases r5
            have xr : r ≠ x := fun z => by rw [z, hxx] at rx; cases rx
            have ul := hu5.length
            have l1 := cpre_len R i
            have l2 := crow_len R i j
            have l3 : i * wd R ≤ 7 * 8 := Nat.mul_le_mul (by omega) w8
            refine ⟨us5, sr _ _ hD5, by rw [ul, List.length_append]; exact Nat.lt_of_lt_of_le (show _ < 65 by omega) (by decide), fun c o e => ?_, us5 ++ [.ref r], upd_same, ?_, fun v hv t' et => ?_⟩
            · have n : c ≠ D2 := fun z => by rw [z, nD2] at e; cases e
              rw [upd_ne n]
              exact sr _ _ (s5 _ _ e)
            · rw [crow_more, q, if_pos (show (some m).isSome = true from rfl), ← List.append_assoc]
              have kD : ∀ c xs, (upd (upd H5 t2 (.tup [.int (j : Int), pV (some m)])) r (.tup [.int (i : Int), .int (j : Int)])) c = some (.tup xs) → (upd (upd (upd H5 t2 (.tup [.int (j : Int), pV (some m)])) r (.tup [.int (i : Int), .int (j : Int)])) D2 (.lst (us5 ++ [.ref r]))) c = some (.tup xs) := fun c xs e => by
                have n : c ≠ D2 := fun z => by rw [z, sr _ _ hD5] at e; cases e
                rw [upd_ne n]
                exact e
              exact ((hu5.keep (Keep.same sr)).mono kD).app (.cons ⟨r, rfl, xr, kD _ _ upd_same⟩ .nil)
            · rcases List.mem_append.mp hv with h | h
              · exact fr5 v h t' et
              · rw [List.mem_singleton] at h
                rw [h] at et
                cases et
                exact ⟨rx, rD2⟩
        · rintro H5 ⟨s5, us5, hD5, hu5, fr5⟩
          rw [wl] at hu5
          exact ⟨s5, us5, hD5, by rw [cpre_more]; exact hu5, fr5⟩
      · rintro H3 ⟨s3, us, hD2, hu, fr⟩
        rw [vl] at hu
        have hx3 := s3 _ _ hxx
        walk_at "rd"
        refine r_sFld0 (C := C) (dx := dx) hx3 A.O.cl A.u (by show 1 < 1000; decide) ?_
        rw [show putF "used" (V.ref D2) [("entries", V.ref D)] = ([("entries", V.ref D), ("used", V.ref D2)] : List (Str × V)) from two_put (f := "entries") (g := "used") (v := .ref D) (u := .ref D2) (by decide +kernel) (by decide +kernel)]
        have x2 : x ≠ D2 := fun z => by rw [← z, hxx] at nD2; cases nD2
        have kf : Keep x H (upd H3 x (.ins C dx [("entries", .ref D), ("used", .ref D2)])) := (((Keep.same (s1.trans s2)).trans kx).trans (Keep.same s3)).own
        have k2 : Keep x H2 (upd H3 x (.ins C dx [("entries", .ref D), ("used", .ref D2)])) := (kx.trans (Keep.same s3)).own
        have nDH : H D = none := s1.free nD
        refine kgood R rfl g _ (part x H (upd H3 x (.ins C dx [("entries", .ref D), ("used", .ref D2)]))) ⟨g, dx, D, D2, es, by rw [part_x, upd_same], ⟨?_, by rw [el, vl], fun i v e => ?_⟩, ⟨Ne.symm x2, us, ?_, hu.part (fun v hv t e => fx t (fr v hv t e).1) Keep.refl.own⟩⟩ part_sub part_off (fun c o n e => kf c o n e)
        · rw [part_new nDH]
          exact k2 _ _ (Ne.symm xD) hD
        · obtain ⟨c, rfl, n1, n2, n3⟩ := er i v e
          have cx : c ≠ x := fun z => by rw [z, s1 _ _ hx] at n2; cases n2
          exact ⟨c, rfl, by rw [part_new (s1.free n2)]; exact k2 _ _ cx n3⟩
        · rw [part_new (fx _ nD2), upd_ne (Ne.symm x2)]
          exact hD2
end
theorem r_ifE {t : TT} {ta tb : TE} {σ : L2.St} {H : Hp} {Q : VK} (h : t σ H fun c H1 => if c = true then ta σ H1 Q else tb σ H1 Q) : tIf t ta tb σ H Q := h
theorem r_bm {K : PySem.W.Frag} {T : String} {r : V → List V → Hp → VK → Prop} {to : TE} {t : TA} {σ : L2.St} {H : Hp} {Q : VK} (h : to σ H fun x H1 => tyV K T x H1 ∧ t σ H1 fun xs H2 => r x xs H2 Q) : tBM K T r to t σ H Q := h
theorem rows_inj {R S : Rw} (h : rowsD R = rowsD S) : R = S := by
  have e := rows_eqv R S
  rw [h, eqv_plain (rows_plain S)] at e
  exact of_decide_eq_true e.symm
/-- a good table is made -/
theorem mk_tb {K : PySem.W.Frag} {C CE : Addr} {H1 : Hp} {x dx : Addr} {v : V} {R : Rw} {Q : VK} {E : XK} (nx : H1 x = none) (nd : H1 dx = none) (ne : dx ≠ x) (hv : Dp K H1 v (rowsD R)) (g : Gt R)
    (k : ∀ (H' G : Hp), Same H1 H' → TbX C G x R → Same G H' → Fresh H1 G → Q (.ref x) H') : spTbI K C CE [.ref x, v] (upd (upd H1 dx (.own x)) x (.ins C dx [])) (fun v H2 => v = .non ∧ Q (.ref x) H2) E := by
  have sy : Same H1 (upd (upd H1 dx (.own x)) x (.ins C dx [])) := fun d o e => by
    have n1 : d ≠ x := fun z => by rw [z, nx] at e; cases e
    have n2 : d ≠ dx := fun z => by rw [z, nd] at e; cases e
    rw [upd_ne n1, upd_ne n2]
    exact e
  refine ⟨x, dx, v, rowsD R, rfl, upd_same, by rw [upd_ne ne, upd_same], ne, Dp.later sy hv, fun R' eR g' H' G t sG fG kp => ⟨rfl, ?_⟩, fun k1 e1 => by rw [badT_good g] at e1; cases e1⟩
  obtain rfl := rows_inj eR
  refine k H' G (fun d o e => kp _ _ (fun z => by rw [z, nx] at e; cases e) (sy _ _ e)) t sG fun a o e => ?_
  rcases fG a o e with z | z
  · rw [z]; exact nx
  · exact sy.free z
def spTStk (C : Addr) : Sp := fun vs H Q _ => ∃ (x : Addr) (G : Hp) (R : Rw), vs = [.ref x] ∧ TbX C G x R ∧ Same G H ∧ Q (.int (R.length : Int)) H
abbrev slTStk : Stmt := inCls 57 12
section
variable {P : Program} {w : World} {K : PySem.W.Frag} {mg : Str → Option Value} {base : Heap} {C CE CP f : Addr} {fd : FuncData}
theorem sclTStk : FnScope ["self"] ["self"] (defScope slTStk) := ⟨rfl, rfl, rfl, by decide +kernel, rfl, by decide +kernel, by decide +kernel⟩
theorem ok_tStk (F : Fun K "stocks" "Table.stocks" slTStk f fd) (T : Bt mg) (A : TbC K C) : FnOk P w K mg base CX0 1 f fd ["self"] (spTStk C) := by
  refine F.ok sclTStk (fun vs H Q E h => ?_) (fun cdv A' outer s H vs Q E hr h => ?_)
  · obtain ⟨x, G, R, rfl, _⟩ := h
    rfl
  · obtain ⟨x, G, R, rfl, ⟨g, dx, e, u, es, ho, hl, hp⟩, sG, k⟩ := h
    refine ⟨_, (pss_one (ps_ret (pe_callB cl_len (by rfl) T.len PySem.boot_len (pa_cons (pe_fld (pv 0) rfl) pa_nil)))), ?_⟩
    walk_at "rd"
    refine r_fldV rfl (sG _ _ ho) A.O.cl A.e two_fst ?_
    walk_at "rd"
    refine r_lenL (SqL.of (sG _ _ hl.at_)) ?_
    rw [hl.len]
    exact k
end
def spTWsh (C : Addr) : Sp := fun vs H Q _ => ∃ (x : Addr) (G : Hp) (R : Rw), vs = [.ref x] ∧ TbX C G x R ∧ Same G H ∧ Q (.int (wd R : Int)) H
abbrev slTWsh : Stmt := inCls 57 13
section
variable {P : Program} {w : World} {K : PySem.W.Frag} {mg : Str → Option Value} {base : Heap} {C CE CP f : Addr} {fd : FuncData}
theorem wd_row {R : Rw} (g : Gt R) {i : Nat} (h : i < R.length) : ((R.getD i []).map pV).length = wd R := by rw [List.length_map, g.getD h, g.len h]
theorem sclTWsh : FnScope ["self"] ["self"] (defScope slTWsh) := ⟨rfl, rfl, rfl, by decide +kernel, rfl, by decide +kernel, by decide +kernel⟩
theorem ok_tWsh (F : Fun K "wishes" "Table.wishes" slTWsh f fd) (T : Bt mg) (A : TbC K C) : FnOk P w K mg base CX0 1 f fd ["self"] (spTWsh C) := by
  refine F.ok sclTWsh (fun vs H Q E h => ?_) (fun cdv A' outer s H vs Q E hr h => ?_)
  · obtain ⟨x, G, R, rfl, _⟩ := h
    rfl
  · obtain ⟨x, G, R, rfl, ⟨g, dx, e, u, es, ho, hl, hp⟩, sG, k⟩ := h
    refine ⟨_, (pss_one (ps_ret (pe_callB cl_len (by rfl) T.len PySem.boot_len (pa_cons (pe_ix ix_list (pe_fld (pv 0) rfl) pe_int (fun _ _ => rfl)) pa_nil)))), ?_⟩
    obtain ⟨a, ea, ha⟩ := hl.get g.h0
    walk_at "rd"
    refine r_fldV rfl (sG _ _ ho) A.O.cl A.e two_fst ?_
    walk_at "rd"
    refine r_ixL (SqL.of (sG _ _ hl.at_)) (atI_nat (j := 0) ea) ?_
    walk_at "rd"
    refine r_lenL (SqL.of (sG _ _ ha)) ?_
    rw [wd_row g g.h0]
    exact k
end
/-- a list of rows, new since H -/
def NewRL (H H' : Hp) (r : Addr) (es : List V) (R : Rw) : Prop := Same H H' ∧ H r = none ∧ RL H' r es R ∧ ∀ (i : Nat) (c : Addr), es[i]? = some (V.ref c) → H c = none ∧ c ≠ r
def spTRws (C : Addr) : Sp := fun vs H Q _ => ∃ (x : Addr) (G : Hp) (R : Rw), vs = [.ref x] ∧ TbX C G x R ∧ Same G H ∧ ∀ r es H', NewRL H H' r es R → Q (.ref r) H'
abbrev slTRws : Stmt := inCls 57 14
section
variable {P : Program} {w : World} {K : PySem.W.Frag} {mg : Str → Option Value} {base : Heap} {C CE CP f : Addr} {fd : FuncData}
theorem sclTRws : FnScope ["self", "row"] ["self"] (defScope slTRws) := ⟨rfl, rfl, rfl, by decide +kernel, rfl, by decide +kernel, by decide +kernel⟩
theorem rl_more {H1 H : Hp} {D c : Addr} {es : List V} {R : Rw} {i : Nat} (nD : H1 D = none) (s2 : Same H1 H) (hD : H D = some (.lst es)) (el : es.length = i) (er : ∀ (j : Nat) (v : V), es[j]? = some v → ∃ c, v = .ref c ∧ c ≠ D ∧ H1 c = none ∧ H c = some (.lst ((R.getD j []).map pV)))
    (nc : H c = none) : Same H1 (upd (upd H c (.lst ((R.getD i []).map pV))) D (.lst (es ++ [V.ref c]))) ∧ ∃ fs : List V, (upd (upd H c (.lst ((R.getD i []).map pV))) D (.lst (es ++ [V.ref c]))) D = some (.lst fs) ∧ fs.length = i + 1 ∧
      ∀ (j : Nat) (v : V), fs[j]? = some v → ∃ b, v = .ref b ∧ b ≠ D ∧ H1 b = none ∧ (upd (upd H c (.lst ((R.getD i []).map pV))) D (.lst (es ++ [V.ref c]))) b = some (.lst ((R.getD j []).map pV)) := by
  have sc := Same.up (o := .lst ((R.getD i []).map pV)) (Same.refl H) nc
  have cD : c ≠ D := fun z => by rw [z, hD] at nc; cases nc
  refine ⟨fun b o e => ?_, es ++ [.ref c], upd_same, by rw [List.length_append, el]; rfl, fun j v e => ?_⟩
  · have n : b ≠ D := fun z => by rw [z, nD] at e; cases e
    rw [upd_ne n]
    exact sc _ _ (s2 _ _ e)
  · by_cases ji : j < es.length
    · rw [List.getElem?_append_left ji] at e
      obtain ⟨b, rfl, n1, n2, n3⟩ := er j v e
      exact ⟨b, rfl, n1, n2, by rw [upd_ne n1]; exact sc _ _ n3⟩
    · rw [List.getElem?_append_right (by omega)] at e
      have : j = i := by
        have := (List.getElem?_eq_some_iff.mp e).1
        simp at this
        omega
      subst this
      rw [el, Nat.sub_self] at e
      cases (Option.some.inj e)
      exact ⟨c, rfl, cD, s2.free nc, by rw [upd_ne cD, upd_same]⟩
theorem ok_tRws (F : Fun K "rows" "Table.rows" slTRws f fd) (T : Bt mg) (A : TbC K C) : FnOk P w K mg base CX0 1 f fd ["self"] (spTRws C) := by
  refine F.ok sclTRws (fun vs H Q E h => ?_) (fun cdv A' outer s H vs Q E hr h => ?_)
  · obtain ⟨x, G, R, rfl, _⟩ := h
    rfl
  · obtain ⟨x, G, R, rfl, ⟨g, dx, e, u, es, ho, hl, hp⟩, sG, k⟩ := h
    have hl := hl.same sG
    have g8 := g.h8
    refine ⟨_, (pss_one (ps_ret (pe_lc (own := [("row", 1)]) (g := gName 1) rfl sclTRws.nd (pi_list (pe_fld (pv 0) rfl)) (blkOk_by (own := [("row", 1)]) (N := ["self", "row"]) (sc := defScope slTRws) (by decide +kernel)) (fun _ _ _ _ _ => pg_name (i := 1) sclTRws.nd rfl (Or.inl rfl)) (fun _ _ _ _ _ => pts_nil) (fun _ _ _ _ _ => (pe_callTy (T := "list") (r := rLstOf K) cl_lst (by rfl) T.list (by decide +kernel) (pa_cons (pv 1) pa_nil)))))), ?_⟩
    walk_at "rd"
    refine r_fldV rfl (sG _ _ ho) A.O.cl A.e two_fst ?_
    refine ⟨e, rfl, ⟨_, SqL.of hl.at_⟩, fun D nD => lc_it walk_list (fun i H' => Same H H' ∧ ∃ es, H' D = some (.lst es) ∧ es.length = i ∧ ∀ j v, es[j]? = some v → ∃ c, v = .ref c ∧ c ≠ D ∧ H c = none ∧ H' c = some (.lst ((R.getD j []).map pV))) ⟨Same.up (Same.refl H) nD, [], upd_same, rfl, fun j v e => by simp at e⟩ (fun i H2 _ z => SqL.of (z.1 _ _ hl.at_)) ?_ ?_⟩
    · rintro i y H2 H3 hi ⟨s2, fs, hD, fl, fr⟩ ⟨rfl, e1⟩
      have hi' : i < R.length := by rw [← hl.len]; exact hi
      obtain ⟨b, rfl, hb⟩ := hl.row i y e1
      walk_at "rd"
      refine ⟨rfl, ?_⟩
      walk_at "rd"
      refine r_lstOf (SqL.of (s2 _ _ hb)) fun c nc => ?_
      exact ⟨fs, later hD nc, by rw [fl]; exact Nat.lt_of_lt_of_le (show i < 9 by omega) (by decide), rl_more nD s2 hD fl fr nc⟩
    · rintro H2 ⟨s2, fs, hD, fl, fr⟩
      rw [hl.len] at fl
      exact k D fs H2 ⟨s2, nD, ⟨hD, fl, fun i v e => by
        obtain ⟨c, e1, n1, n2, n3⟩ := fr i v e
        exact ⟨c, e1, n3⟩⟩, fun i c e => by
        obtain ⟨c', e1, n1, n2, n3⟩ := fr i _ e
        cases e1
        exact ⟨n2, n1⟩⟩
end
def spTPrs (C : Addr) : Sp := fun vs H Q _ => ∃ (x : Addr) (G : Hp) (R : Rw), vs = [.ref x] ∧ TbX C G x R ∧ Same G H ∧ ∀ r us, H r = none → PrsAt x G us (cells R) → Q (.ref r) (upd H r (.lst us))
abbrev slTPrs : Stmt := inCls 57 11
section
variable {P : Program} {w : World} {K : PySem.W.Frag} {mg : Str → Option Value} {base : Heap} {C CE CP f : Addr} {fd : FuncData}
theorem sclTPrs : FnScope ["self"] ["self"] (defScope slTPrs) := ⟨rfl, rfl, rfl, by decide +kernel, rfl, by decide +kernel, by decide +kernel⟩
theorem ok_tPrs (F : Fun K "pairs" "Table.pairs" slTPrs f fd) (T : Bt mg) (A : TbC K C) : FnOk P w K mg base CX0 1 f fd ["self"] (spTPrs C) := by
  refine F.ok sclTPrs (fun vs H Q E h => ?_) (fun cdv A' outer s H vs Q E hr h => ?_)
  · obtain ⟨x, G, R, rfl, _⟩ := h
    rfl
  · obtain ⟨x, G, R, rfl, ⟨g, dx, e, u, es, ho, hl, ⟨nu, us, hu, hp⟩⟩, sG, k⟩ := h
    refine ⟨_, (pss_one (ps_ret (pe_callTy cl_lst (by rfl) T.list (by decide +kernel) (pa_cons (pe_fld (pv 0) rfl) pa_nil)))), ?_⟩
    walk_at "rd"
    refine r_fldV rfl (sG _ _ ho) A.O.cl A.u (two_snd (by decide +kernel)) ?_
    walk_at "rd"
    exact r_lstOf (SqL.of (sG _ _ hu)) fun r nr => k r us nr hp
end
theorem pV_some (z : Option Int) : (!decide (pV z = .non)) = z.isSome := by cases z <;> rfl
def spTLen (C : Addr) : Sp := fun vs H Q _ => ∃ (x : Addr) (G : Hp) (R : Rw), vs = [.ref x] ∧ TbX C G x R ∧ Same G H ∧ Q (.int ((cells R).length : Int)) H
abbrev slTLen : Stmt := inCls 57 5
section
variable {P : Program} {w : World} {K : PySem.W.Frag} {mg : Str → Option Value} {base : Heap} {C CE CP f : Addr} {fd : FuncData}
theorem sclTLen : FnScope ["self"] ["self"] (defScope slTLen) := ⟨rfl, rfl, rfl, by decide +kernel, rfl, by decide +kernel, by decide +kernel⟩
theorem ok_tLen (F : Fun K "__len__" "Table.__len__" slTLen f fd) (T : Bt mg) (A : TbC K C) : FnOk P w K mg base CX0 1 f fd ["self"] (spTLen C) := by
  refine F.ok sclTLen (fun vs H Q E h => ?_) (fun cdv A' outer s H vs Q E hr h => ?_)
  · obtain ⟨x, G, R, rfl, _⟩ := h
    rfl
  · obtain ⟨x, G, R, rfl, ⟨g, dx, e, u, es, ho, hl, ⟨nu, us, hu, hp⟩⟩, sG, k⟩ := h
    refine ⟨_, (pss_one (ps_ret (pe_callB cl_len (by rfl) T.len PySem.boot_len (pa_cons (pe_fld (pv 0) rfl) pa_nil)))), ?_⟩
    walk_at "rd"
    refine r_fldV rfl (sG _ _ ho) A.O.cl A.u (two_snd (by decide +kernel)) ?_
    walk_at "rd"
    refine r_lenL (SqL.of (sG _ _ hu)) ?_
    rw [hp.length]
    exact k
end
end Pk
set_option Elab.async false
set_option linter.all false
set_option maxRecDepth 100000
set_option maxHeartbeats 4000000
namespace Pk
open PySem L2
local macro_rules | `(tactic| walk_at "rd") => `(tactic| repeat (first
  | with_reducible refine r_seq ?_ | with_reducible refine r_nxt ?_ | with_reducible refine r_asg ?_ | with_reducible refine r_to ?_ | with_reducible refine r_ret ?_ | with_reducible refine r_for ?_ | with_reducible refine r_lc ?_ | with_reducible refine r_lc2 ?_ | with_reducible refine r_rng1 ?_ | with_reducible refine r_list ?_ | with_reducible refine r_tupI ?_ | with_reducible refine r_drop ?_ | with_reducible refine r_ifs ?_
  | with_reducible refine r_op ?_ | with_reducible refine r_c ?_ | with_reducible refine r_var rfl ?_ | with_reducible refine r_var (by assumption) ?_ | with_reducible refine r_I0 ?_ | with_reducible refine r_un ?_ | with_reducible refine r_U ?_ | with_reducible refine r_make ?_ | with_reducible refine r_makeS ?_ | with_reducible refine r_ifE ?_ | with_reducible refine r_cm ?_ | with_reducible refine r_mkV rfl ?_ | with_reducible refine r_sub ?_
  | with_reducible refine r_nil ?_ | with_reducible refine r_cons ?_ | with_reducible refine r_cb ?_ | with_reducible refine r_sl ?_ | with_reducible refine r_noP ?_ | with_reducible refine r_part ?_ | with_reducible refine r_isI ?_ | with_reducible refine r_lst ?_ | with_reducible refine r_tup ?_ | with_reducible refine r_call ?_ | with_reducible refine r_callS ?_ | with_reducible refine r_sFldU ?_ | with_reducible refine r_chain ?_ | with_reducible refine r_enum ?_ | with_reducible refine r_zip ?_ | with_reducible refine r_rng3 ?_ | with_reducible refine r_gtup ?_ | with_reducible refine r_methU ?_
  | with_reducible refine r_test ?_ | with_reducible refine r_B ?_ | with_reducible refine r_and ?_ | with_reducible refine r_or ?_ | with_reducible refine r_not ?_ | with_reducible refine r_andV ?_ | with_reducible refine r_orV ?_ | with_reducible refine r_notV ?_ | with_reducible refine r_bl ?_ | with_reducible refine r_yes ?_ | with_reducible refine r_int ?_ | with_reducible refine r_is0 ?_ | with_reducible refine r_is1 ?_ | with_reducible refine iteT ?_ | with_reducible refine iteF ?_ | with_reducible refine ite_nF ?_ | with_reducible refine ite_nT ?_
  | with_reducible refine r_mod (by decide) ?_ | with_reducible refine r_div (by decide) (by decide) ?_ | with_reducible refine r_mulR (by decide) (by decide) ?_ | with_reducible refine r_mulL (by decide) (by decide) ?_ | with_reducible refine r_pow (by decide) (by decide) (by decide) ?_))
/-! ### the drawn numbers of a script, without a pool -/
def cellF (ns : List Int) (k : Nat) : Int := ns.getD k 0
def mixF (c k : Int) : Int :=
  ((((((c + 7919 * k + 1) * 48271) % 2147483647) * ((((c + 7919 * k + 1) * 48271) % 2147483647) / 1009 + 69621)) % 2147483647) * (((((((c + 7919 * k + 1) * 48271) % 2147483647) * ((((c + 7919 * k + 1) * 48271) % 2147483647) / 1009 + 69621)) % 2147483647)) / 2003 + 40692)) % 2147483399
theorem mixF_nn (c k : Int) : 0 ≤ mixF c k := Int.emod_nonneg _ (by decide)
theorem mixF_lt (c k : Int) : mixF c k < 2147483399 := Int.emod_lt_of_pos _ (by decide)
def numF (c sp : Int) (k : Nat) (z : Int) : Int := if z > 10 ^ 8 then mixF c (1009 * sp + k) / 16 * (10 ^ 22 + 9) + mixF (c + 1) (1009 * sp + k) / 16 else mixF c (1009 * sp + k) / 16
def dStep (c sp : Int) (k : Nat) (z l : Int) : Int × Int := if 10 ^ 18 ≤ c ∧ 0 < l then (l % z, l / z) else (numF c sp k z % z, l)
theorem dStep_nn {c sp : Int} {k : Nat} {z l : Int} (h : 0 < z) : 0 ≤ (dStep c sp k z l).1 ∧ (dStep c sp k z l).1 < z := by
  unfold dStep
  by_cases g : 10 ^ 18 ≤ c ∧ 0 < l
  · rw [if_pos g]; exact ⟨Int.emod_nonneg _ (by omega), Int.emod_lt_of_pos _ h⟩
  · rw [if_neg g]; exact ⟨Int.emod_nonneg _ (by omega), Int.emod_lt_of_pos _ h⟩
def dAt (c sp : Int) (zs : List Int) : Nat → List Int × Int
  | 0 => ([], c)
  | m + 1 => match zs[m]? with
    | some z => ((dAt c sp zs m).1 ++ [(dStep c sp m z (dAt c sp zs m).2).1], (dStep c sp m z (dAt c sp zs m).2).2)
    | none => dAt c sp zs m
def drawsF (ns : List Int) (sp : Nat) (zs : List Int) : List Int := (dAt (cellF ns sp) sp zs zs.length).1
theorem dAt_more {c sp : Int} {zs : List Int} {m : Nat} {z : Int} (e : zs[m]? = some z) : dAt c sp zs (m + 1) = ((dAt c sp zs m).1 ++ [(dStep c sp m z (dAt c sp zs m).2).1], (dStep c sp m z (dAt c sp zs m).2).2) := by
  show (match zs[m]? with | some z => _ | none => _) = _
  rw [e]
theorem dAt_len {c sp : Int} {zs : List Int} : ∀ {m : Nat}, m ≤ zs.length → (dAt c sp zs m).1.length = m
  | 0, _ => rfl
  | m + 1, h => by
    rw [dAt_more (List.getElem?_eq_getElem (show m < zs.length by omega))]
    show (_ ++ [_]).length = _
    rw [List.length_append, dAt_len (by omega)]
    rfl
theorem drawsF_len (ns : List Int) (sp : Nat) (zs : List Int) : (drawsF ns sp zs).length = zs.length := dAt_len (Nat.le_refl _)
theorem dAt_get {c sp : Int} {zs : List Int} (pos : ∀ z, z ∈ zs → 0 < z) : ∀ {m i : Nat} {d : Int}, m ≤ zs.length → (dAt c sp zs m).1[i]? = some d → ∃ z, zs[i]? = some z ∧ 0 ≤ d ∧ d < z
  | 0, i, d, _, e => by simp [dAt] at e
  | m + 1, i, d, h, e => by
    have em := List.getElem?_eq_getElem (show m < zs.length by omega)
    rw [dAt_more em] at e
    have l := dAt_len (c := c) (sp := sp) (show m ≤ zs.length by omega)
    by_cases c0 : i < m
    · rw [List.getElem?_append_left (by omega)] at e
      exact dAt_get pos (by omega) e
    · rw [List.getElem?_append_right (by omega), l] at e
      have : i = m := by
        by_cases d0 : i - m = 0
        · omega
        · obtain ⟨q, hq⟩ : ∃ q, i - m = q + 1 := ⟨i - m - 1, by omega⟩
          rw [hq] at e
          simp at e
      subst this
      rw [Nat.sub_self] at e
      cases e
      exact ⟨_, em, dStep_nn (pos _ (List.mem_of_getElem? em))⟩
theorem drawsF_get {ns : List Int} {sp : Nat} {zs : List Int} (pos : ∀ z, z ∈ zs → 0 < z) {i : Nat} {z : Int} (e : zs[i]? = some z) : ∃ d, (drawsF ns sp zs)[i]? = some d ∧ 0 ≤ d ∧ d < z := by
  have hi : i < (drawsF ns sp zs).length := by rw [drawsF_len]; exact (List.getElem?_eq_some_iff.mp e).1
  have e1 := List.getElem?_eq_getElem hi
  obtain ⟨z', ez, h1, h2⟩ := dAt_get pos (Nat.le_refl _) e1
  rw [e] at ez
  cases ez
  exact ⟨_, e1, h1, h2⟩
def spCell2 (K : PySem.W.Frag) : Sp := fun vs H Q _ => ∃ (l : Addr) (ns : List Int) (k : Nat), vs = [.ref l, .int (k : Int)] ∧ SqL K H l (ns.map V.int) ∧ Q (.int (cellF ns k)) H
def spMix2 : Sp := fun vs H Q _ => ∃ c k : Int, vs = [.int c, .int k] ∧ Q (.int (mixF c k)) H
/-- a size that can be drawn from -/
def Szd (z : Int) : Prop := 0 < z ∧ z.natAbs.log2 < 9000
def spDraws (K : PySem.W.Frag) : Sp := fun vs H Q _ => ∃ (l zl : Addr) (ns zs : List Int) (sp : Nat), vs = [.ref l, .int (sp : Int), .ref zl] ∧ SqL K H l (ns.map V.int) ∧ H zl = some (.lst (zs.map V.int)) ∧ (∀ z, z ∈ zs → Szd z) ∧ zs.length ≤ 1000 ∧
  ∀ (r : Addr) (H' : Hp), Same H H' → H r = none → H' r = some (.lst ((drawsF ns sp zs).map V.int)) → Q (.ref r) H'
abbrev slCell2 : Stmt := top 59
abbrev slMix2 : Stmt := top 60
abbrev slDraws : Stmt := top 61
theorem r_aug {i : Nat} {te : TE} {ti : TIp} {D : Ends} {σ : L2.St} {H : Hp} {v : V} (e : σ[i]? = some (some v)) (h : te σ H fun y H1 => ti v y H1 fun z H2 => D.nx (σ.set i (some z)) H2) : tAug i te ti D σ H := ⟨v, e, h⟩
theorem r_divW {a b : Int} {H : Hp} {Q : VK} (c : Szd b) (h : Q (.int (a / b)) H) : rI CDivW (fun i j => .int (i / j)) (.int a) (.int b) H Q := r_I c h
section
variable {P : Program} {w : World} {K : PySem.W.Frag} {mg : Str → Option Value} {base : Heap} {f : Addr} {fd : FuncData}
theorem sclCell2 : FnScope ["_law_script", "_law_k"] ["_law_script", "_law_k"] (defScope slCell2) := ⟨rfl, rfl, rfl, by decide +kernel, rfl, by decide +kernel, by decide +kernel⟩
theorem ok_cell2 (F : Fun K "_law_cell" "_law_cell" slCell2 f fd) (T : Bt mg) : FnOk P w K mg base CX0 1 f fd ["_law_script", "_law_k"] (spCell2 K) := by
  refine F.ok sclCell2 (fun vs H Q E h => ?_) (fun cdv A outer s H vs Q E hr h => ?_)
  · obtain ⟨l, ns, k, rfl, _⟩ := h
    rfl
  · obtain ⟨l, ns, k, rfl, hl, kk⟩ := h
    refine ⟨_, (pss_cons (ps_if (pt_cmpR op_lt (pv 1) (pe_callB cl_len (by rfl) T.len (by decide +kernel) (pa_cons (pv 0) pa_nil)) (nomark _)) (pss_one (ps_ret (pe_callTy cl_int (by rfl) T.int (by decide +kernel) (pa_cons (pe_ix ix_list (pv 0) (pv 1) (fun _ _ => rfl)) pa_nil)))) pss_nil)
  (pss_one (ps_ret pe_int))), ?_⟩
    walk_at "rd"
    refine r_lenL hl ?_
    walk_at "rd"
    by_cases c : k < ns.length
    · refine ifT (decide_eq_true (by rw [List.length_map]; omega)) ?_
      walk_at "rd"
      refine r_ixL hl (v := .int ns[k]) (atI_nat (j := k) (by rw [List.getElem?_map, List.getElem?_eq_getElem c]; rfl)) ?_
      walk_at "rd"
      have e : cellF ns k = ns[k] := by unfold cellF; rw [List.getD_eq_getElem?_getD, List.getElem?_eq_getElem c]; rfl
      rw [← e]
      exact kk
    · refine ifF (decide_eq_false (by rw [List.length_map]; omega)) ?_
      walk_at "rd"
      have e : cellF ns k = 0 := by unfold cellF; rw [List.getD_eq_getElem?_getD, List.getElem?_eq_none (by omega)]; rfl
      rw [← e]
      exact kk
theorem sclMix2 : FnScope ["_law_cell_here", "_law_k", "_law_number"] ["_law_cell_here", "_law_k"] (defScope slMix2) := ⟨rfl, rfl, rfl, by decide +kernel, rfl, by decide +kernel, by decide +kernel⟩
theorem ok_mix2 (F : Fun K "_law_mixed" "_law_mixed" slMix2 f fd) (T : Bt mg) : FnOk P w K mg base CX0 1 f fd ["_law_cell_here", "_law_k"] spMix2 := by
  refine F.ok sclMix2 (fun vs H Q E h => ?_) (fun cdv A outer s H vs Q E hr h => ?_)
  · obtain ⟨c, k, rfl, _⟩ := h
    rfl
  · obtain ⟨c, k, rfl, kk⟩ := h
    refine ⟨_, (pss_cons (ps_set (i := 2) sclMix2.nd rfl (Or.inl rfl) (pe_op op_mod (pe_callTy cl_int (by rfl) T.int (by decide +kernel) (pa_cons (pe_op op_mul (pe_op op_add (pe_op op_add (pv 0) (pe_op op_mul pe_int (pv 1))) pe_int) pe_int) pa_nil)) pe_int))
  (pss_cons (ps_set (i := 2) sclMix2.nd rfl (Or.inl rfl) (pe_op op_mod (pe_callTy cl_int (by rfl) T.int (by decide +kernel) (pa_cons (pe_op op_mul (pv 2) (pe_op op_add (pe_op op_fdiv (pv 2) pe_int) pe_int)) pa_nil)) pe_int))
  (pss_one (ps_ret (pe_op op_mod (pe_callTy cl_int (by rfl) T.int (by decide +kernel) (pa_cons (pe_op op_mul (pv 2) (pe_op op_add (pe_op op_fdiv (pv 2) pe_int) pe_int)) pa_nil)) pe_int))))), ?_⟩
    walk_at "rd"
    obtain ⟨a, ea⟩ : ∃ a, a = ((c + 7919 * k + 1) * 48271) % 2147483647 := ⟨_, rfl⟩
    have a0 : 0 ≤ a := by rw [ea]; exact Int.emod_nonneg _ (by decide)
    have a1 : a < 2147483647 := by rw [ea]; exact Int.emod_lt_of_pos _ (by decide)
    rw [← ea]
    refine r_mulL (Int.lt_of_lt_of_le (by decide) a0) (Int.lt_trans a1 (by decide)) ?_
    walk_at "rd"
    obtain ⟨b, eb⟩ : ∃ b, b = (a * (a / 1009 + 69621)) % 2147483647 := ⟨_, rfl⟩
    have b0 : 0 ≤ b := by rw [eb]; exact Int.emod_nonneg _ (by decide)
    have b1 : b < 2147483647 := by rw [eb]; exact Int.emod_lt_of_pos _ (by decide)
    rw [← eb]
    refine r_mulL (Int.lt_of_lt_of_le (by decide) b0) (Int.lt_trans b1 (by decide)) ?_
    walk_at "rd"
    have e : mixF c k = (b * (b / 2003 + 40692)) % 2147483399 := by rw [eb, ea]; rfl
    rw [← e]
    exact kk
theorem sclDraws : FnScope ["_law_script", "_law_spot", "_law_sizes", "_law_cell_here", "_law_left", "_law_drawn", "_law_k", "_law_size", "_law_number"] ["_law_script", "_law_spot", "_law_sizes"] (defScope slDraws) := ⟨rfl, rfl, rfl, by decide +kernel, rfl, by decide +kernel, by decide +kernel⟩
theorem ok_draws (F : Fun K "_law_draws" "_law_draws" slDraws f fd) (T : Bt mg) (DC : Df P w K mg base CX0 "_law_cell" 1 ["_law_script", "_law_k"] (spCell2 K)) (DM : Df P w K mg base CX0 "_law_mixed" 1 ["_law_cell_here", "_law_k"] spMix2) : FnOk P w K mg base CX0 2 f fd ["_law_script", "_law_spot", "_law_sizes"] (spDraws K) := by
  refine F.ok sclDraws (fun vs H Q E h => ?_) (fun cdv A outer s H vs Q E hr h => ?_)
  · obtain ⟨l, zl, ns, zs, sp, rfl, _⟩ := h
    rfl
  · obtain ⟨l, zl, ns, zs, sp, rfl, hl, hz, sz, z1000, kk⟩ := h
    refine ⟨_, (pss_cons (ps_set (i := 3) sclDraws.nd rfl (Or.inl rfl) (pe_df DC hr (by decide) (pa_cons (pv 0) (pa_cons (pv 1) pa_nil))))
  (pss_cons (ps_set (i := 4) sclDraws.nd rfl (Or.inl rfl) (pv 3))
  (pss_cons (ps_set (i := 5) sclDraws.nd rfl (Or.inl rfl) (pe_lst pa_nil))
  (pss_cons (ps_for PassesOwn.never rfl (pi_enum (by rfl) T.enumerate (pa_cons (pv 2) pa_nil)) (pg_tup (by rfl) (pgs_cons (pg_name (i := 6) sclDraws.nd rfl (Or.inl rfl)) (pgs_cons (pg_name (i := 7) sclDraws.nd rfl (Or.inl rfl)) pgs_nil))) (pss_one (ps_if (PW.pt (pw_and (pt_cmpR op_ge (pv 3) (pe_op op_pow pe_int pe_int) (nomark _)) (pw_and1 (pt_cmpR op_gt (pv 4) pe_int (nomark _))))) (pss_cons (ps_expr (pe_bm PySem.F.plainAttrs_list PySem.F.slot_list_append PySem.F.type_list_append mt_append (pv 5) (pa_cons (pe_op op_mod (pe_callTy cl_int (by rfl) T.int (by decide +kernel) (pa_cons (pv 4) pa_nil)) (pv 7)) pa_nil)))
  (pss_one (ps_set (i := 4) sclDraws.nd rfl (Or.inl rfl) (pe_op op_fdivW (pv 4) (pv 7))))) (pss_cons (ps_set (i := 8) sclDraws.nd rfl (Or.inl rfl) (pe_op op_fdiv (pe_df DM hr (by decide) (pa_cons (pv 3) (pa_cons (pe_op op_add (pe_op op_mul pe_int (pv 1)) (pv 6)) pa_nil))) pe_int))
  (C8.pss_cut (ps_if (pt_cmpR op_gt (pv 7) (pe_op op_pow pe_int pe_int) (nomark _)) (pss_cons (ps_set (i := 8) sclDraws.nd rfl (Or.inl rfl) (pe_op op_mul (pv 8) (pe_op op_add (pe_op op_pow pe_int pe_int) pe_int)))
  (pss_one (ps_aug (i := 8) sclDraws.nd rfl (Or.inl rfl) (pe_op op_fdiv (pe_df DM hr (by decide) (pa_cons (pe_op op_add (pv 3) pe_int) (pa_cons (pe_op op_add (pe_op op_mul pe_int (pv 1)) (pv 6)) pa_nil))) pe_int) ip_add))) pss_nil)
  (pss_one (ps_expr (pe_bm PySem.F.plainAttrs_list PySem.F.slot_list_append PySem.F.type_list_append mt_append (pv 5) (pa_cons (pe_op op_mod (pe_callTy cl_int (by rfl) T.int (by decide +kernel) (pa_cons (pv 8) pa_nil)) (pv 7)) pa_nil)))))))))
  (pss_one (ps_ret (pv 5))))))), ?_⟩
    walk_at "rd"
    refine ⟨l, ns, sp, rfl, hl, ?_⟩
    obtain ⟨c, ec⟩ : ∃ c, c = cellF ns sp := ⟨_, rfl⟩
    rw [← ec]
    walk_at "rd"
    refine ⟨Nat.zero_le _, fun D nD => ?_⟩
    have s1 := Same.up (o := .lst []) (Same.refl H) nD
    have hD1 : upd H D (.lst []) D = some (.lst []) := upd_same
    obtain ⟨H1, eH1⟩ : ∃ H1, H1 = upd H D (.lst []) := ⟨_, rfl⟩
    rw [← eH1] at s1 hD1 ⊢
    walk_at "rd"
    refine ⟨zl, zs.map V.int, rfl, SqL.of (s1 _ _ hz), for_it walk_enum (fun m σ H' => ∃ v6 v7 v8, σ = [some (.ref l), some (.int (sp : Int)), some (.ref zl), some (.int c), some (.int (dAt c sp zs m).2), some (.ref D), v6, v7, v8] ∧ Same H H' ∧ H' D = some (.lst ((dAt c sp zs m).1.map V.int))) ⟨_, _, _, rfl, s1, hD1⟩ (fun m σ H' _ z => by obtain ⟨_, _, _, _, z, _⟩ := z; exact SqL.of (z _ _ hz)) ?_ ?_⟩
    · rintro m y σ H2 H3 hm ⟨v6, v7, v8, rfl, s2, hD2⟩ ⟨t, i', y', rfl, ht, rfl, e1, e2⟩
      cases (Option.some.inj e1)
      have e2 : (zs.map V.int)[m]? = some y' := e2
      rw [List.getElem?_map] at e2
      obtain ⟨z, ez, rfl⟩ := Option.map_eq_some_iff.mp e2
      have sz' := sz z (List.mem_of_getElem? ez)
      have hm' : m < zs.length := (List.getElem?_eq_some_iff.mp ez).1
      have dl := dAt_len (c := c) (sp := sp) (show m ≤ zs.length by omega)
      refine r_gtup ⟨t, _, rfl, SqT.of upd_same, rfl, _, _, rfl, ?_⟩
      have hD3 := Same.up (o := .tup [V.int (m : Int), V.int z]) (Same.refl H2) ht _ _ hD2
      have s3 := s2.trans (Same.up (o := .tup [V.int (m : Int), V.int z]) (Same.refl H2) ht)
      obtain ⟨H3, eH3⟩ : ∃ H3, H3 = upd H2 t (.tup [V.int (m : Int), V.int z]) := ⟨_, rfl⟩
      rw [← eH3] at s3 hD3 ⊢
      have put : ∀ v : V, Same H (upd H3 D (.lst ((dAt c sp zs m).1.map V.int ++ [v]))) := fun v c o e => by
        rw [upd_ne (fun z => by rw [z, nD] at e; cases e)]
        exact s3 _ _ e
      have lD : ((dAt c sp zs m).1.map V.int).length < sizeLine := Nat.lt_of_le_of_lt (show _ ≤ 1000 by rw [List.length_map]; omega) (by decide)
      have dm := dAt_more (c := c) (sp := sp) ez
      walk_at "rd"
      refine ⟨_, _, rfl, ?_⟩
      walk_at "rd"
      refine ⟨rfl, ?_⟩
      walk_at "rd"
      by_cases gd : 10 ^ 18 ≤ c ∧ 0 < (dAt c sp zs m).2
      · have ds : dStep c sp m z (dAt c sp zs m).2 = ((dAt c sp zs m).2 % z, (dAt c sp zs m).2 / z) := by unfold dStep; rw [if_pos gd]
        rw [ds] at dm
        refine ifT (decide_eq_true gd.1) ?_
        walk_at "rd"
        refine ifT (decide_eq_true gd.2) ?_
        walk_at "rd"
        refine r_bm ?_
        walk_at "rd"
        refine ⟨.inl ⟨rfl, _, SqL.of hD3⟩, ?_⟩
        walk_at "rd"
        refine r_mod sz'.1 ?_
        walk_at "rd"
        refine ⟨D, _, _, rfl, rfl, hD3, lD, ?_⟩
        walk_at "rd"
        refine r_divW sz' ?_
        walk_at "rd"
        refine ⟨some (.int (m : Int)), some (.int z), v8, ?_, put _, ?_⟩
        · rw [dm]; rfl
        · rw [dm, upd_same, List.map_append]; rfl
      · have ds : dStep c sp m z (dAt c sp zs m).2 = (numF c sp m z % z, (dAt c sp zs m).2) := by unfold dStep; rw [if_neg gd]
        rw [ds] at dm
        have two : decide (10 ^ (18 : Int).toNat ≤ c) = false ∨ (decide (10 ^ (18 : Int).toNat ≤ c) = true ∧ decide (0 < (dAt c sp zs m).2) = false) := by
          by_cases c18 : 10 ^ 18 ≤ c
          · exact .inr ⟨decide_eq_true c18, decide_eq_false fun z => gd ⟨c18, z⟩⟩
          · exact .inl (decide_eq_false c18)
        rcases two with h | ⟨h, h'⟩
        all_goals
          first
            | refine ifF h ?_
            | (refine ifT h ?_
               walk_at "rd"
               refine ifF h' ?_)
          walk_at "rd"
          refine ⟨c, _, rfl, ?_⟩
          walk_at "rd"
          have b0 := mixF_nn c (1009 * (sp : Int) + (m : Int))
          have b1 := mixF_lt c (1009 * (sp : Int) + (m : Int))
          refine r_cut (fun σ' H' => σ' = [some (.ref l), some (.int (sp : Int)), some (.ref zl), some (.int c), some (.int (dAt c sp zs m).2), some (.ref D), some (.int (m : Int)), some (.int z), some (.int (numF c sp m z))] ∧ H3 = H') ?_ ?_
          · walk_at "rd"
            by_cases z8 : z > 10 ^ 8
            · refine ifT (decide_eq_true z8) ?_
              walk_at "rd"
              refine r_mulL (by omega) (by omega) ?_
              walk_at "rd"
              refine r_aug rfl ?_
              walk_at "rd"
              refine ⟨_, _, rfl, ?_⟩
              walk_at "rd"
              refine ⟨_, _, rfl, rfl, ?_⟩
              refine ⟨?_, rfl⟩
              unfold numF
              rw [if_pos z8]
              rfl
            · refine ifF (decide_eq_false z8) ?_
              refine ⟨?_, rfl⟩
              unfold numF
              rw [if_neg z8]
              rfl
          · rintro σ' H' ⟨rfl, rfl⟩
            walk_at "rd"
            refine r_bm ?_
            walk_at "rd"
            refine ⟨.inl ⟨rfl, _, SqL.of hD3⟩, ?_⟩
            walk_at "rd"
            refine r_mod sz'.1 ?_
            walk_at "rd"
            refine ⟨D, _, _, rfl, rfl, hD3, lD, ?_⟩
            refine ⟨some (.int (m : Int)), some (.int z), some (.int (numF c sp m z)), ?_, put _, ?_⟩
            · rw [dm]
            · rw [dm, upd_same, List.map_append]; rfl
    · rintro σ H2 ⟨v6, v7, v8, rfl, s2, hD2⟩
      rw [List.length_map] at hD2
      walk_at "rd"
      refine kk D H2 s2 nD ?_
      rw [hD2, ec]
      rfl
end
end Pk
set_option Elab.async false
set_option linter.all false
set_option maxRecDepth 100000
set_option maxHeartbeats 4000000
namespace Pk
open PySem L2
local macro_rules | `(tactic| walk_at "rd") => `(tactic| repeat (first
  | with_reducible refine r_seq ?_ | with_reducible refine r_nxt ?_ | with_reducible refine r_asg ?_ | with_reducible refine r_to ?_ | with_reducible refine r_ret ?_ | with_reducible refine r_for ?_ | with_reducible refine r_lc ?_ | with_reducible refine r_lc2 ?_ | with_reducible refine r_rng1 ?_ | with_reducible refine r_list ?_ | with_reducible refine r_tupI ?_ | with_reducible refine r_drop ?_ | with_reducible refine r_ifs ?_
  | with_reducible refine r_op ?_ | with_reducible refine r_c ?_ | with_reducible refine r_var rfl ?_ | with_reducible refine r_var (by assumption) ?_ | with_reducible refine r_I0 ?_ | with_reducible refine r_un ?_ | with_reducible refine r_U ?_ | with_reducible refine r_make ?_ | with_reducible refine r_makeS ?_ | with_reducible refine r_ifE ?_ | with_reducible refine r_cm ?_ | with_reducible refine r_mkV rfl ?_ | with_reducible refine r_sub ?_
  | with_reducible refine r_nil ?_ | with_reducible refine r_cons ?_ | with_reducible refine r_cb ?_ | with_reducible refine r_sl ?_ | with_reducible refine r_noP ?_ | with_reducible refine r_part ?_ | with_reducible refine r_isI ?_ | with_reducible refine r_lst ?_ | with_reducible refine r_tup ?_ | with_reducible refine r_call ?_ | with_reducible refine r_callS ?_ | with_reducible refine r_sFldU ?_ | with_reducible refine r_chain ?_ | with_reducible refine r_enum ?_ | with_reducible refine r_zip ?_ | with_reducible refine r_rng3 ?_ | with_reducible refine r_gtup ?_ | with_reducible refine r_methU ?_
  | with_reducible refine r_test ?_ | with_reducible refine r_B ?_ | with_reducible refine r_and ?_ | with_reducible refine r_or ?_ | with_reducible refine r_not ?_ | with_reducible refine r_andV ?_ | with_reducible refine r_orV ?_ | with_reducible refine r_notV ?_ | with_reducible refine r_bl ?_ | with_reducible refine r_yes ?_ | with_reducible refine r_int ?_ | with_reducible refine r_is0 ?_ | with_reducible refine r_is1 ?_ | with_reducible refine iteT ?_ | with_reducible refine iteF ?_ | with_reducible refine ite_nF ?_ | with_reducible refine ite_nT ?_
  | with_reducible refine r_mod (by decide) ?_ | with_reducible refine r_div (by decide) (by decide) ?_ | with_reducible refine r_mulR (by decide) (by decide) ?_ | with_reducible refine r_mulL (by decide) (by decide) ?_ | with_reducible refine r_pow (by decide) (by decide) (by decide) ?_))
/-! ### the grid of prices of a script -/
structure GK (H0 H : Hp) (L : Addr) (es : List V) (R : Rw) : Prop where
  at_ : H L = some (.lst es)
  len : es.length = R.length
  row : ∀ (i : Nat) (v : V), es[i]? = some v → ∃ a, v = .ref a ∧ a ≠ L ∧ H0 a = none ∧ H a = some (.lst ((R.getD i []).map pV))
  nd : es.Nodup
theorem GK.same {H0 H H' : Hp} {L : Addr} {es : List V} {R : Rw} (g : GK H0 H L es R) (s : Same H H') : GK H0 H' L es R := ⟨s _ _ g.at_, g.len, fun i v e => by
  obtain ⟨a, e1, n1, n2, h⟩ := g.row i v e
  exact ⟨a, e1, n1, n2, s _ _ h⟩, g.nd⟩
theorem GK.put {H0 H : Hp} {L q : Addr} {es : List V} {R : Rw} {o : HO} (g : GK H0 H L es R) (n : L ≠ q) (m : ∀ (j : Nat) (v : V), es[j]? = some v → v ≠ .ref q) : GK H0 (upd H q o) L es R := ⟨by rw [upd_ne n]; exact g.at_, g.len, fun i v e => by
  obtain ⟨a, e1, n1, n2, h⟩ := g.row i v e
  exact ⟨a, e1, n1, n2, by rw [upd_ne (fun z => m i v e (by rw [e1, z]))]; exact h⟩, g.nd⟩
theorem GK.more {H0 H : Hp} {L rw0 : Addr} {es : List V} {R : Rw} {cur : List (Option Int)} (g : GK H0 H L es R) (nl : rw0 ≠ L) (n0 : H0 rw0 = none) (hr : H rw0 = some (.lst (cur.map pV))) (m : ∀ (j : Nat) (v : V), es[j]? = some v → v ≠ .ref rw0) : GK H0 (upd H L (.lst (es ++ [.ref rw0]))) L (es ++ [.ref rw0]) (R ++ [cur]) := by
  refine ⟨upd_same, by rw [List.length_append, List.length_append, g.len]; rfl, fun i v e => ?_, List.nodup_append.mpr ⟨g.nd, List.nodup_cons.mpr ⟨List.not_mem_nil, List.nodup_nil⟩, fun a ha b hb e => by
    obtain ⟨j, hj⟩ := List.mem_iff_getElem?.mp ha
    rw [List.mem_singleton.mp hb] at e
    exact m j a hj e⟩⟩
  have gl := g.len
  by_cases c : i < es.length
  · rw [List.getElem?_append_left c] at e
    obtain ⟨a, e1, n1, n2, h⟩ := g.row i v e
    refine ⟨a, e1, n1, n2, ?_⟩
    rw [upd_ne n1, h]
    congr 3
    rw [List.getD_eq_getElem?_getD, List.getD_eq_getElem?_getD, List.getElem?_append_left (by omega)]
  · rw [List.getElem?_append_right (by omega)] at e
    have : i = es.length := by
      by_cases d0 : i - es.length = 0
      · omega
      · obtain ⟨q, hq⟩ : ∃ q, i - es.length = q + 1 := ⟨i - es.length - 1, by omega⟩
        rw [hq] at e
        simp at e
    subst this
    rw [Nat.sub_self] at e
    cases e
    refine ⟨rw0, rfl, nl, n0, ?_⟩
    rw [upd_ne nl, hr]
    congr 3
    rw [List.getD_eq_getElem?_getD, List.getElem?_append_right (by omega), gl, Nat.sub_self]
    rfl
theorem GK.rl {H0 H : Hp} {L : Addr} {es : List V} {R : Rw} (g : GK H0 H L es R) : RL H L es R := ⟨g.at_, g.len, fun i v e => by
  obtain ⟨a, e1, _, _, h⟩ := g.row i v e
  exact ⟨a, e1, h⟩⟩
/-- prices of at most 120 digits -/
def PB (R : Rw) : Prop := ∀ r, r ∈ R → ∀ i : Int, some i ∈ r → -(10 ^ 120) < i ∧ i < 10 ^ 120
theorem grid_big {h w S : Int} (s : S ≤ 10 ^ 59) (h0 : 0 ≤ h) (h1 : h < S) (w0 : 0 ≤ w) (w1 : w < S) : -(10 ^ 120) < h + 2 * w - h * w ∧ h + 2 * w - h * w < 10 ^ 120 := by
  have a := Int.mul_nonneg h0 w0
  have b := Int.mul_le_mul (show h ≤ 10 ^ 59 by omega) (show w ≤ 10 ^ 59 by omega) w0 (by decide)
  rw [show (10 : Int) ^ 59 * 10 ^ 59 = 10 ^ 118 from by decide] at b
  generalize h * w = q at a b
  omega
theorem log_lt {n : Int} {k : Nat} (h : n.natAbs < 2 ^ k) (k0 : 0 < k) : n.natAbs.log2 < k := by
  by_cases z : n.natAbs = 0
  · rw [z]
    show Nat.log2 0 < k
    rw [show Nat.log2 0 = 0 from by decide]
    exact k0
  · exact (Nat.log2_lt z).mpr h
theorem szd {z : Int} (p : 0 < z) (h : z < 2 ^ 250) : Szd z := ⟨p, Nat.lt_trans (log_lt (k := 250) (by omega) (by decide)) (by decide)⟩
theorem cut_mid {vs : List V} {a b : Nat} (h : a ≤ b) (hb : b ≤ vs.length) : cutV vs (some (a : Int)) (some (b : Int)) = (vs.drop a).take (b - a) := by
  unfold cutV
  rw [HT.sIx_nat, HT.sIx_nat, Nat.min_eq_left hb, Nat.min_eq_left (show a ≤ vs.length by omega)]
end Pk
set_option Elab.async false
set_option linter.all false
set_option maxRecDepth 100000
set_option maxHeartbeats 4000000
namespace Pk
open PySem L2
local macro_rules | `(tactic| walk_at "rd") => `(tactic| repeat (first
  | with_reducible refine r_seq ?_ | with_reducible refine r_nxt ?_ | with_reducible refine r_asg ?_ | with_reducible refine r_to ?_ | with_reducible refine r_ret ?_ | with_reducible refine r_for ?_ | with_reducible refine r_lc ?_ | with_reducible refine r_lc2 ?_ | with_reducible refine r_rng1 ?_ | with_reducible refine r_list ?_ | with_reducible refine r_tupI ?_ | with_reducible refine r_drop ?_ | with_reducible refine r_ifs ?_
  | with_reducible refine r_op ?_ | with_reducible refine r_c ?_ | with_reducible refine r_var rfl ?_ | with_reducible refine r_var (by assumption) ?_ | with_reducible refine r_I0 ?_ | with_reducible refine r_un ?_ | with_reducible refine r_U ?_ | with_reducible refine r_make ?_ | with_reducible refine r_makeS ?_ | with_reducible refine r_ifE ?_ | with_reducible refine r_cm ?_ | with_reducible refine r_mkV rfl ?_ | with_reducible refine r_sub ?_
  | with_reducible refine r_nil ?_ | with_reducible refine r_cons ?_ | with_reducible refine r_cb ?_ | with_reducible refine r_sl ?_ | with_reducible refine r_noP ?_ | with_reducible refine r_part ?_ | with_reducible refine r_isI ?_ | with_reducible refine r_lst ?_ | with_reducible refine r_tup ?_ | with_reducible refine r_call ?_ | with_reducible refine r_callS ?_ | with_reducible refine r_sFldU ?_ | with_reducible refine r_chain ?_ | with_reducible refine r_enum ?_ | with_reducible refine r_zip ?_ | with_reducible refine r_rng3 ?_ | with_reducible refine r_gtup ?_ | with_reducible refine r_methU ?_
  | with_reducible refine r_test ?_ | with_reducible refine r_B ?_ | with_reducible refine r_and ?_ | with_reducible refine r_or ?_ | with_reducible refine r_not ?_ | with_reducible refine r_andV ?_ | with_reducible refine r_orV ?_ | with_reducible refine r_notV ?_ | with_reducible refine r_bl ?_ | with_reducible refine r_yes ?_ | with_reducible refine r_int ?_ | with_reducible refine r_is0 ?_ | with_reducible refine r_is1 ?_ | with_reducible refine iteT ?_ | with_reducible refine iteF ?_ | with_reducible refine ite_nF ?_ | with_reducible refine ite_nT ?_
  | with_reducible refine r_mod (by decide) ?_ | with_reducible refine r_div (by decide) (by decide) ?_ | with_reducible refine r_mulR (by decide) (by decide) ?_ | with_reducible refine r_mulL (by decide) (by decide) ?_ | with_reducible refine r_pow (by decide) (by decide) (by decide) ?_))
/-! ### the spots of a grid; things in a drawn sequence -/
def spSpots (K : PySem.W.Frag) : Sp := fun vs H Q _ => ∃ (p ra : Addr) (es : List V) (R : Rw), vs = [.ref ra] ∧ RS K H ra es R ∧ Gt R ∧ (∃ o, H p = some o) ∧
  ∀ (r : Addr) (us : List V) (H' : Hp), Same H H' → H r = none → H' r = some (.lst us) → PrsAt p H' us (cells R) → Q (.ref r) H'
def spShuf2 : Sp := fun vs H Q _ => ∃ (p a b : Addr) (us : List V) (zs : List Pr) (ps : List Int), vs = [.ref a, .ref b] ∧ H a = some (.lst us) ∧ PrsAt p H us zs ∧ H b = some (.lst (ps.map V.int)) ∧ zs.length ≤ ps.length ∧ zs.length ≤ 64 ∧ ps.length ≤ 1000 ∧
  ∀ (r : Addr) (ws : List V) (ys : List Pr) (H' : Hp), Same H H' → H r = none → H' r = some (.lst ws) → PrsAt p H' ws ys → ys.Perm zs → Q (.ref r) H'
theorem erase_perm : ∀ {l : List Pr} {k : Nat} {z : Pr}, l[k]? = some z → (z :: l.eraseIdx k).Perm l
  | [], k, z, e => by simp at e
  | a :: l, 0, z, e => by cases e; exact .refl _
  | a :: l, k + 1, z, e => by
    have ih := erase_perm (l := l) (k := k) (z := z) e
    exact (List.Perm.swap a z _).trans (List.Perm.cons a ih)
theorem PrsAt.eraseI {p : Addr} {H : Hp} {vs : List V} {zs : List Pr} (h : PrsAt p H vs zs) (j : Nat) : PrsAt p H (vs.eraseIdx j) (zs.eraseIdx j) := by
  rw [List.eraseIdx_eq_take_drop_succ, List.eraseIdx_eq_take_drop_succ]
  exact (h.take j).app (h.drop (j + 1))
abbrev slSpots : Stmt := top 62
abbrev slShuf2 : Stmt := top 63
section
variable {P : Program} {w : World} {K : PySem.W.Frag} {mg : Str → Option Value} {base : Heap} {f : Addr} {fd : FuncData}
theorem sclSpots : FnScope ["_law_grid", "_law_spots_here", "_law_i", "_law_row", "_law_j", "_law_price"] ["_law_grid"] (defScope slSpots) := ⟨rfl, rfl, rfl, by decide +kernel, rfl, by decide +kernel, by decide +kernel⟩
theorem ok_spots (F : Fun K "_law_spots" "_law_spots" slSpots f fd) (T : Bt mg) : FnOk P w K mg base CX0 1 f fd ["_law_grid"] (spSpots K) := by
  refine F.ok sclSpots (fun vs H Q E h => ?_) (fun cdv A outer s H vs Q E hr h => ?_)
  · obtain ⟨p, ra, es, R, rfl, _⟩ := h
    rfl
  · obtain ⟨p, ra, es, R, rfl, rs, g, ⟨op, hop⟩, kk⟩ := h
    have h8 := g.h8
    have w8 := g.w8
    have rl := rs.len
    refine ⟨_, (pss_cons (ps_set (i := 1) sclSpots.nd rfl (Or.inl rfl) (pe_lst pa_nil))
  (pss_cons (ps_for PassesOwn.never rfl (pi_enum (by rfl) T.enumerate (pa_cons (pv 0) pa_nil)) (pg_tup (by rfl) (pgs_cons (pg_name (i := 2) sclSpots.nd rfl (Or.inl rfl)) (pgs_cons (pg_name (i := 3) sclSpots.nd rfl (Or.inl rfl)) pgs_nil))) (pss_one (ps_for PassesOwn.never rfl (pi_enum (by rfl) T.enumerate (pa_cons (pv 3) pa_nil)) (pg_tup (by rfl) (pgs_cons (pg_name (i := 4) sclSpots.nd rfl (Or.inl rfl)) (pgs_cons (pg_name (i := 5) sclSpots.nd rfl (Or.inl rfl)) pgs_nil))) (pss_one (ps_if (pt_cmpR op_is1 (pv 5) pe_non (nomark _)) (pss_one (ps_expr (pe_bm PySem.F.plainAttrs_list PySem.F.slot_list_append PySem.F.type_list_append mt_append (pv 1) (pa_cons (pe_tup (pa_cons (pv 2) (pa_cons (pv 4) pa_nil))) pa_nil)))) pss_nil)))))
  (pss_one (ps_ret (pv 1))))), ?_⟩
    walk_at "rd"
    refine ⟨Nat.zero_le _, fun D nD => ?_⟩
    have s1 := Same.up (o := .lst []) (Same.refl H) nD
    have hD1 : upd H D (.lst []) D = some (.lst []) := upd_same
    obtain ⟨H1, eH1⟩ : ∃ H1, H1 = upd H D (.lst []) := ⟨_, rfl⟩
    rw [← eH1] at s1 hD1 ⊢
    walk_at "rd"
    refine ⟨ra, es, rfl, (rs.same s1).at_, for_it walk_enum (fun m σ H' => ∃ v2 v3 v4 v5 us, σ = [some (.ref ra), some (.ref D), v2, v3, v4, v5] ∧ Same H H' ∧ H' D = some (.lst us) ∧ PrsAt p H' us (cpre R m)) ⟨_, _, _, _, [], rfl, s1, hD1, .nil⟩ (fun m σ H' _ z => by obtain ⟨_, _, _, _, _, _, z, _⟩ := z; exact (rs.same z).at_) ?_ ?_⟩
    · rintro i y σ H2 H3 hi ⟨v2, v3, v4, v5, us, rfl, s2, hD2, hu⟩ ⟨t, i', y', rfl, ht, rfl, e1, e2⟩
      cases (Option.some.inj e1)
      have e2 : es[i]? = some y' := e2
      obtain ⟨b, rfl, hb⟩ := rs.row i _ e2
      have hi' : i < R.length := by rw [← rl]; exact (List.getElem?_eq_some_iff.mp e2).1
      have cl := cpre_len R i
      have sz := Nat.mul_le_mul (show i ≤ 8 by omega) w8
      refine r_gtup ⟨t, _, rfl, SqT.of upd_same, rfl, _, _, rfl, ?_⟩
      have s3' := Same.up (o := .tup [V.int (i : Int), V.ref b]) (Same.refl H2) ht
      have s3 := s2.trans s3'
      have hD3 := s3' _ _ hD2
      have hu3 := hu.keep (Keep.same s3')
      obtain ⟨H3, eH3⟩ : ∃ H3, H3 = upd H2 t (.tup [V.int (i : Int), V.ref b]) := ⟨_, rfl⟩
      rw [← eH3] at s3 hD3 hu3 ⊢
      walk_at "rd"
      refine ⟨_, _, rfl, ?_⟩
      walk_at "rd"
      refine ⟨rfl, ?_⟩
      walk_at "rd"
      have rowl : ((R.getD i []).map pV).length = wd R := by rw [List.length_map, g.getD hi', g.len hi']
      refine ⟨b, (R.getD i []).map pV, rfl, s3.seq hb, for_it walk_enum (fun m σ H' => ∃ v4 v5 us, σ = [some (.ref ra), some (.ref D), some (.int (i : Int)), some (.ref b), v4, v5] ∧ Same H H' ∧ H' D = some (.lst us) ∧ PrsAt p H' us (cpre R i ++ crow R i m)) ⟨_, _, us, rfl, s3, hD3, by rw [show crow R i 0 = [] from rfl, List.append_nil]; exact hu3⟩ (fun m σ H' _ z => by obtain ⟨_, _, _, _, z, _⟩ := z; exact z.seq hb) ?_ ?_⟩
      · rintro j y σ H4 H5 hj ⟨v4, v5, us4, rfl, s4, hD4, hu4⟩ ⟨t5, i5, y5, rfl, ht5, rfl, e3, e4⟩
        cases (Option.some.inj e3)
        have e4 : ((R.getD i []).map pV)[j]? = some y5 := e4
        have hj' : j < wd R := by rw [← rowl]; exact (List.getElem?_eq_some_iff.mp e4).1
        have ey : y5 = pV (prc R i j) := by
          have := prc_get g hi' hj'
          rw [this] at e4
          exact (Option.some.inj e4).symm
        subst ey
        refine r_gtup ⟨t5, _, rfl, SqT.of upd_same, rfl, _, _, rfl, ?_⟩
        have s5' := Same.up (o := .tup [V.int (j : Int), pV (prc R i j)]) (Same.refl H4) ht5
        have s5 := s4.trans s5'
        have hD5 := s5' _ _ hD4
        have hu5 := hu4.keep (Keep.same s5')
        obtain ⟨H5, eH5⟩ : ∃ H5, H5 = upd H4 t5 (.tup [V.int (j : Int), pV (prc R i j)]) := ⟨_, rfl⟩
        rw [← eH5] at s5 hD5 hu5 ⊢
        walk_at "rd"
        refine ⟨_, _, rfl, ?_⟩
        walk_at "rd"
        refine ⟨rfl, ?_⟩
        walk_at "rd"
        rw [pV_some]
        cases q : prc R i j with
        | none =>
          refine ifF rfl ?_
          refine ⟨some (.int (j : Int)), some (pV none), us4, rfl, s5, hD5, ?_⟩
          rw [crow_more, q, if_neg (by simp), List.append_nil]
          exact hu5
        | some x =>
          refine ifT rfl ?_
          walk_at "rd"
          refine r_bm ?_
          walk_at "rd"
          refine ⟨.inl ⟨rfl, _, SqL.of hD5⟩, ?_⟩
          walk_at "rd"
          refine ⟨by show 2 ≤ sizeLine; decide, fun t6 n6 => ?_⟩
          have s6' := Same.up (o := .tup [V.int (i : Int), V.int (j : Int)]) (Same.refl H5) n6
          have s6 := s5.trans s6'
          have hD6 := s6' _ _ hD5
          have hu6 := hu5.keep (Keep.same s6')
          have t6p : t6 ≠ p := fun z => by rw [z, s5 _ _ hop] at n6; cases n6
          have ht6 : upd H5 t6 (.tup [V.int (i : Int), V.int (j : Int)]) t6 = some (.tup [V.int (i : Int), V.int (j : Int)]) := upd_same
          obtain ⟨H6, eH6⟩ : ∃ H6, H6 = upd H5 t6 (.tup [V.int (i : Int), V.int (j : Int)]) := ⟨_, rfl⟩
          rw [← eH6] at s6 hD6 hu6 ht6 ⊢
          walk_at "rd"
          have ul := hu6.length
          have cr := crow_len R i j
          refine ⟨D, us4, _, rfl, rfl, hD6, Nat.lt_of_le_of_lt (show us4.length ≤ 128 by rw [ul, List.length_append]; omega) (by decide), ?_⟩
          have nt : ∀ c xs, H6 c = some (.tup xs) → upd H6 D (.lst (us4 ++ [V.ref t6])) c = some (.tup xs) := fun c xs e => by
            rw [upd_ne (fun z => by rw [z, hD6] at e; cases e)]
            exact e
          refine ⟨some (.int (j : Int)), some (pV (some x)), us4 ++ [.ref t6], rfl, fun c o e => ?_, upd_same, ?_⟩
          · rw [upd_ne (fun z => by rw [z, nD] at e; cases e)]
            exact s6 _ _ e
          · rw [crow_more, q, if_pos (show (some x).isSome = true from rfl), ← List.append_assoc]
            exact (hu6.mono nt).app (.cons ⟨t6, rfl, t6p, nt _ _ ht6⟩ .nil)
      · rintro σ H4 ⟨v4, v5, us4, rfl, s4, hD4, hu4⟩
        rw [rowl] at hu4
        exact ⟨_, _, v4, v5, us4, rfl, s4, hD4, by rw [cpre_more]; exact hu4⟩
    · rintro σ H2 ⟨v2, v3, v4, v5, us, rfl, s2, hD2, hu⟩
      rw [rl] at hu
      walk_at "rd"
      exact kk D us H2 s2 nD hD2 hu
theorem sclShuf2 : FnScope ["_law_things", "_law_picks", "_law_left", "_law_taken", "_law_pick"] ["_law_things", "_law_picks"] (defScope slShuf2) := ⟨rfl, rfl, rfl, by decide +kernel, rfl, by decide +kernel, by decide +kernel⟩
theorem ok_shuf2 (F : Fun K "_law_shuffled" "_law_shuffled" slShuf2 f fd) (T : Bt mg) : FnOk P w K mg base CX0 1 f fd ["_law_things", "_law_picks"] spShuf2 := by
  refine F.ok sclShuf2 (fun vs H Q E h => ?_) (fun cdv A outer s H vs Q E hr h => ?_)
  · obtain ⟨p, a, b, us, zs, ps, rfl, _⟩ := h
    rfl
  · obtain ⟨p, a, b, us, zs, ps, rfl, ha, hu, hb, zp, z64, p1000, kk⟩ := h
    refine ⟨_, (pss_cons (ps_set (i := 2) sclShuf2.nd rfl (Or.inl rfl) (pe_callTy cl_lst (by rfl) T.list (by decide +kernel) (pa_cons (pv 0) pa_nil)))
  (pss_cons (ps_set (i := 3) sclShuf2.nd rfl (Or.inl rfl) (pe_lst pa_nil))
  (pss_cons (ps_for PassesOwn.never rfl (pi_list (pv 1)) (pg_name (i := 4) sclShuf2.nd rfl (Or.inl rfl)) (pss_one (ps_if (pt_cmpR op_gt (pe_callB cl_len (by rfl) T.len (by decide +kernel) (pa_cons (pv 2) pa_nil)) pe_int (nomark _)) (pss_one (ps_expr (pe_bm PySem.F.plainAttrs_list PySem.F.slot_list_append PySem.F.type_list_append mt_append (pv 3) (pa_cons (pe_bm PySem.F.plainAttrs_list PySem.F.slot_list_pop PySem.F.type_list_pop mt_popAt (pv 2) (pa_cons (pe_op op_mod (pe_callTy cl_int (by rfl) T.int (by decide +kernel) (pa_cons (pv 4) pa_nil)) (pe_callB cl_len (by rfl) T.len (by decide +kernel) (pa_cons (pv 2) pa_nil))) pa_nil)) pa_nil)))) pss_nil)))
  (pss_one (ps_ret (pv 3)))))), ?_⟩
    walk_at "rd"
    refine r_lstOf (SqL.of ha) fun q nq => ?_
    have s1 := Same.up (o := .lst us) (Same.refl H) nq
    have hq1 : upd H q (.lst us) q = some (.lst us) := upd_same
    have hu1 := hu.keep (Keep.same s1)
    obtain ⟨H1, eH1⟩ : ∃ H1, H1 = upd H q (.lst us) := ⟨_, rfl⟩
    rw [← eH1] at s1 hq1 hu1 ⊢
    walk_at "rd"
    refine ⟨Nat.zero_le _, fun D nD => ?_⟩
    have Dq : D ≠ q := fun z => by rw [z, hq1] at nD; cases nD
    have nD0 := s1.free nD
    have s2' := Same.up (o := .lst []) (Same.refl H1) nD
    have s2 := s1.trans s2'
    have hq2 := s2' _ _ hq1
    have hu2 := hu1.keep (Keep.same s2')
    have hD2 : upd H1 D (.lst []) D = some (.lst []) := upd_same
    obtain ⟨H2, eH2⟩ : ∃ H2, H2 = upd H1 D (.lst []) := ⟨_, rfl⟩
    rw [← eH2] at s2 hq2 hu2 hD2 ⊢
    walk_at "rd"
    refine ⟨b, rfl, ⟨_, SqL.of (s2 _ _ hb)⟩, for_it walk_list (fun m σ H' => ∃ (v4 : Option V) (lw tw : List V) (lz tz : List Pr), σ = [some (.ref a), some (.ref b), some (.ref q), some (.ref D), v4] ∧ Same H H' ∧ H' q = some (.lst lw) ∧ PrsAt p H' lw lz ∧ H' D = some (.lst tw) ∧ PrsAt p H' tw tz ∧ (tz ++ lz).Perm zs ∧ lz.length + min m zs.length = zs.length) ⟨_, us, [], zs, [], rfl, s2, hq2, hu2, hD2, .nil, .refl _, by omega⟩ (fun m σ H' _ z => by obtain ⟨_, _, _, _, _, _, z, _⟩ := z; exact SqL.of (z _ _ hb)) ?_ ?_⟩
    · rintro m y σ H30 H3 hm ⟨v4, lw, tw, lz, tz, rfl, s3, hq3, hl3, hD3, ht3, pm, ll⟩ ⟨rfl, ey⟩
      rw [List.getElem?_map] at ey
      obtain ⟨pk, ek, rfl⟩ := Option.map_eq_some_iff.mp ey
      have lwl := hl3.length
      have twl := ht3.length
      have tot := pm.length_eq
      rw [List.length_append] at tot
      walk_at "rd"
      refine r_lenL (SqL.of hq3) ?_
      walk_at "rd"
      by_cases c0 : 0 < lw.length
      · refine ifT (decide_eq_true (by omega)) ?_
        walk_at "rd"
        refine r_bm ?_
        walk_at "rd"
        refine ⟨.inl ⟨rfl, _, SqL.of hD3⟩, ?_⟩
        walk_at "rd"
        refine r_bm ?_
        walk_at "rd"
        refine ⟨.inl ⟨rfl, _, SqL.of hq3⟩, ?_⟩
        walk_at "rd"
        refine r_lenL (SqL.of hq3) ?_
        refine r_mod (by omega) ?_
        obtain ⟨k, ek2⟩ : ∃ k : Nat, pk % (lw.length : Int) = (k : Int) := ⟨(pk % (lw.length : Int)).toNat, by have := Int.emod_nonneg pk (show (lw.length : Int) ≠ 0 by omega); omega⟩
        have kl : k < lw.length := by have := Int.emod_lt_of_pos pk (show 0 < (lw.length : Int) by omega); omega
        rw [ek2]
        obtain ⟨z, ez, pz⟩ := hl3.at (List.getElem?_eq_getElem kl)
        walk_at "rd"
        refine ⟨q, lw, (k : Int), k, lw[k], rfl, rfl, hq3, by omega, by omega, ?_, List.getElem?_eq_getElem kl, ?_⟩
        · exact (ixN_seq (ixN_nat kl)).1
        have nt4 : ∀ c xs, H3 c = some (.tup xs) → upd H3 q (.lst (lw.eraseIdx k)) c = some (.tup xs) := fun c xs e => by
          rw [upd_ne (fun z => by rw [z, hq3] at e; cases e)]
          exact e
        have s4 : Same H (upd H3 q (.lst (lw.eraseIdx k))) := fun c o e => by
          rw [upd_ne (fun z => by rw [z, nq] at e; cases e)]
          exact s3 _ _ e
        have hD4 : upd H3 q (.lst (lw.eraseIdx k)) D = some (.lst tw) := by rw [upd_ne Dq]; exact hD3
        have hq4 : upd H3 q (.lst (lw.eraseIdx k)) q = some (.lst (lw.eraseIdx k)) := upd_same
        have hl4 := (hl3.eraseI k).mono nt4
        have ht4 := ht3.mono nt4
        have pz4 : PrAt p (upd H3 q (.lst (lw.eraseIdx k))) lw[k] z := by
          obtain ⟨t, e, n, h⟩ := pz
          exact ⟨t, e, n, nt4 _ _ h⟩
        obtain ⟨H4, eH4⟩ : ∃ H4, H4 = upd H3 q (.lst (lw.eraseIdx k)) := ⟨_, rfl⟩
        rw [← eH4] at s4 hD4 hq4 hl4 ht4 pz4 ⊢
        walk_at "rd"
        refine ⟨D, tw, _, rfl, rfl, hD4, Nat.lt_of_le_of_lt (show tw.length ≤ 64 by omega) (by decide), ?_⟩
        have nt5 : ∀ c xs, H4 c = some (.tup xs) → upd H4 D (.lst (tw ++ [lw[k]])) c = some (.tup xs) := fun c xs e => by
          rw [upd_ne (fun z => by rw [z, hD4] at e; cases e)]
          exact e
        have pz5 : PrAt p (upd H4 D (.lst (tw ++ [lw[k]]))) lw[k] z := by
          obtain ⟨t, e, n, h⟩ := pz4
          exact ⟨t, e, n, nt5 _ _ h⟩
        refine ⟨some (.int pk), lw.eraseIdx k, tw ++ [lw[k]], lz.eraseIdx k, tz ++ [z], rfl, fun c o e => ?_, by rw [upd_ne (Ne.symm Dq)]; exact hq4, hl4.mono nt5, upd_same, (ht4.mono nt5).app (.cons pz5 .nil), ?_, ?_⟩
        · rw [upd_ne (fun z => by rw [z, nD0] at e; cases e)]
          exact s4 _ _ e
        · rw [List.append_assoc]
          exact ((erase_perm ez).append_left tz).trans pm
        · rw [List.length_eraseIdx_of_lt (by omega)]
          omega
      · refine ifF (decide_eq_false (by omega)) ?_
        exact ⟨_, lw, tw, lz, tz, rfl, s3, hq3, hl3, hD3, ht3, pm, by omega⟩
    · rintro σ H3 ⟨v4, lw, tw, lz, tz, rfl, s3, hq3, hl3, hD3, ht3, pm, ll⟩
      rw [List.length_map] at ll
      have l0 : lz = [] := List.eq_nil_of_length_eq_zero (by omega)
      rw [l0, List.append_nil] at pm
      walk_at "rd"
      exact kk D tw tz H3 s3 nD0 hD3 ht3 pm
end
end Pk
set_option Elab.async false
set_option linter.all false
set_option maxRecDepth 100000
set_option maxHeartbeats 4000000
namespace Pk
open PySem L2
local macro_rules | `(tactic| walk_at "rd") => `(tactic| repeat (first
  | with_reducible refine r_seq ?_ | with_reducible refine r_nxt ?_ | with_reducible refine r_asg ?_ | with_reducible refine r_to ?_ | with_reducible refine r_ret ?_ | with_reducible refine r_for ?_ | with_reducible refine r_lc ?_ | with_reducible refine r_lc2 ?_ | with_reducible refine r_rng1 ?_ | with_reducible refine r_list ?_ | with_reducible refine r_tupI ?_ | with_reducible refine r_drop ?_ | with_reducible refine r_ifs ?_
  | with_reducible refine r_op ?_ | with_reducible refine r_c ?_ | with_reducible refine r_var rfl ?_ | with_reducible refine r_var (by assumption) ?_ | with_reducible refine r_I0 ?_ | with_reducible refine r_un ?_ | with_reducible refine r_U ?_ | with_reducible refine r_make ?_ | with_reducible refine r_makeS ?_ | with_reducible refine r_ifE ?_ | with_reducible refine r_cm ?_ | with_reducible refine r_mkV rfl ?_ | with_reducible refine r_sub ?_
  | with_reducible refine r_nil ?_ | with_reducible refine r_cons ?_ | with_reducible refine r_cb ?_ | with_reducible refine r_sl ?_ | with_reducible refine r_noP ?_ | with_reducible refine r_part ?_ | with_reducible refine r_isI ?_ | with_reducible refine r_lst ?_ | with_reducible refine r_tup ?_ | with_reducible refine r_call ?_ | with_reducible refine r_callS ?_ | with_reducible refine r_sFldU ?_ | with_reducible refine r_chain ?_ | with_reducible refine r_enum ?_ | with_reducible refine r_zip ?_ | with_reducible refine r_rng3 ?_ | with_reducible refine r_gtup ?_ | with_reducible refine r_methU ?_
  | with_reducible refine r_test ?_ | with_reducible refine r_B ?_ | with_reducible refine r_and ?_ | with_reducible refine r_or ?_ | with_reducible refine r_not ?_ | with_reducible refine r_andV ?_ | with_reducible refine r_orV ?_ | with_reducible refine r_notV ?_ | with_reducible refine r_bl ?_ | with_reducible refine r_yes ?_ | with_reducible refine r_int ?_ | with_reducible refine r_is0 ?_ | with_reducible refine r_is1 ?_ | with_reducible refine iteT ?_ | with_reducible refine iteF ?_ | with_reducible refine ite_nF ?_ | with_reducible refine ite_nT ?_
  | with_reducible refine r_mod (by decide) ?_ | with_reducible refine r_div (by decide) (by decide) ?_ | with_reducible refine r_mulR (by decide) (by decide) ?_ | with_reducible refine r_mulL (by decide) (by decide) ?_ | with_reducible refine r_pow (by decide) (by decide) (by decide) ?_))
/-! ### kinds -/
def KD (z : Str) : Prop := z = "even" ∨ z = "stock" ∨ z = "wish" ∨ z = "any"
abbrev kinds : List V := [.str "even", .str "stock", .str "wish", .str "any"]
def spIsKG : Sp := fun vs H Q _ => ∃ z : Str, vs = [.str z] ∧ KD z ∧ Q (.bl true) H
def spChKG : Sp := fun vs H Q _ => ∃ z : Str, vs = [.str z] ∧ KD z ∧ Q .non H
def hasC (z : Str) : Bool := decide (z = "stock") || decide (z = "any")
def hasR (z : Str) : Bool := decide (z = "wish") || decide (z = "any")
def spHasK (g : Str → Bool) : Sp := fun vs H Q _ => ∃ z : Str, vs = [.str z] ∧ Q (.bl (g z)) H
abbrev slIsKind : Stmt := top 12
abbrev slChKind : Stmt := top 13
abbrev slHasC : Stmt := top 33
abbrev slHasR : Stmt := top 34
/-! ### what bars a pair -/
def mkB (w : Nat) (f : Nat → Bool) : List V := (List.range w).map fun j => V.bl (f j)
/-- a list of lists of marks -/
structure BS (H : Hp) (b : Addr) (n w : Nat) (B : Nat → Nat → Bool) : Prop where
  ex : ∃ bs : List V, H b = some (.lst bs) ∧ bs.length = n ∧ ∀ (i : Nat) (v : V), bs[i]? = some v → ∃ a, v = .ref a ∧ H a = some (.lst (mkB w (B i)))
theorem BS.same {H H' : Hp} {b : Addr} {n w : Nat} {B : Nat → Nat → Bool} (h : BS H b n w B) (s : Same H H') : BS H' b n w B := by
  obtain ⟨bs, h1, h2, h3⟩ := h
  exact ⟨bs, s _ _ h1, h2, fun i v e => by
    obtain ⟨a, e1, e2⟩ := h3 i v e
    exact ⟨a, e1, s _ _ e2⟩⟩
theorem BS.get {H : Hp} {b : Addr} {n w : Nat} {B : Nat → Nat → Bool} (h : BS H b n w B) : ∃ bs : List V, H b = some (.lst bs) ∧ bs.length = n ∧ ∀ i, i < n → ∃ a, bs[i]? = some (.ref a) ∧ H a = some (.lst (mkB w (B i))) := by
  obtain ⟨bs, h1, h2, h3⟩ := h
  refine ⟨bs, h1, h2, fun i hi => ?_⟩
  obtain ⟨a, e1, e2⟩ := h3 i _ (List.getElem?_eq_getElem (by omega))
  exact ⟨a, by rw [List.getElem?_eq_getElem (by omega), e1], e2⟩
theorem mkB_at {w j : Nat} {f : Nat → Bool} (h : j < w) : (mkB w f)[j]? = some (.bl (f j)) := by
  unfold mkB
  rw [List.getElem?_map, List.getElem?_range h]
  rfl
theorem mkB_len {w : Nat} {f : Nat → Bool} : (mkB w f).length = w := by rw [mkB, List.length_map, List.length_range]
theorem mkB_set {w j : Nat} {f : Nat → Bool} : (mkB w f).set j (.bl true) = mkB w fun k => f k || decide (k = j) := by
  unfold mkB
  refine List.ext_getElem (by simp) fun i h1 h2 => ?_
  simp only [List.getElem_set, List.getElem_map, List.getElem_range]
  by_cases c : j = i
  · subst c
    simp
  · have : ¬ i = j := fun z => c z.symm
    simp [c, this]
/-- marks in the making -/
structure Bk (H0 H : Hp) (b : Addr) (bs : List V) (w : Nat) (B : Nat → Nat → Bool) : Prop where
  nw : H0 b = none
  at_ : H b = some (.lst bs)
  row : ∀ (i : Nat) (v : V), bs[i]? = some v → ∃ a, v = .ref a ∧ a ≠ b ∧ H0 a = none ∧ H a = some (.lst (mkB w (B i)))
  dist : Dist bs
def InR (n w : Nat) (zs : List Pr) : Prop := ∀ z, z ∈ zs → ∃ i j : Nat, z = ((i : Int), (j : Int)) ∧ i < n ∧ j < w
def inB (zs : List Pr) (i j : Nat) : Bool := decide (((i : Int), (j : Int)) ∈ zs)
theorem Bk.bs {H0 H : Hp} {b : Addr} {bs : List V} {n w : Nat} {B : Nat → Nat → Bool} (k : Bk H0 H b bs w B) (l : bs.length = n) : BS H b n w B := ⟨bs, k.at_, l, fun i v e => by
  obtain ⟨a, e1, _, _, h⟩ := k.row i v e
  exact ⟨a, e1, h⟩⟩
def spMarks (C : Addr) : Sp := fun vs H Q _ => ∃ (p x a : Addr) (G : Hp) (R : Rw) (us : List V) (zs : List Pr), vs = [.ref x, .ref a] ∧ TbX C G x R ∧ Same G H ∧ H a = some (.lst us) ∧ PrsAt p H us zs ∧ InR R.length (wd R) zs ∧ zs.length ≤ 64 ∧
  ∀ (b : Addr) (bs : List V) (H' : Hp), Same H H' → Bk H H' b bs (wd R) (inB zs) → bs.length = R.length → Q (.ref b) H'
def stB (B : Nat → Nat → Bool) (n i j : Nat) : List Nat := (List.range n).filter fun r => !decide (r = i) && B r j
def wiB (B : Nat → Nat → Bool) (w i j : Nat) : List Nat := (List.range w).filter fun s => !decide (s = j) && B i s
def nV (l : List Nat) : List V := l.map fun (r : Nat) => V.int (r : Int)
def spStB : Sp := fun vs H Q _ => ∃ (p b : Addr) (n w i j : Nat) (B : Nat → Nat → Bool) (v : V), vs = [.ref b, v] ∧ BS H b n w B ∧ PrAt p H v ((i : Int), (j : Int)) ∧ i < n ∧ j < w ∧ n ≤ 8 ∧ w ≤ 8 ∧
  ∀ (r : Addr) (H' : Hp), Same H H' → H' r = some (.lst (nV (stB B n i j))) → Q (.ref r) H'
def spWiB : Sp := fun vs H Q _ => ∃ (p b : Addr) (n w i j : Nat) (B : Nat → Nat → Bool) (v : V), vs = [.ref b, v] ∧ BS H b n w B ∧ PrAt p H v ((i : Int), (j : Int)) ∧ i < n ∧ j < w ∧ n ≤ 8 ∧ w ≤ 8 ∧
  ∀ (r : Addr) (H' : Hp), Same H H' → H' r = some (.lst (nV (wiB B w i j))) → Q (.ref r) H'
/-- the price of a pair -/
def val (R : Rw) (i j : Nat) : Int := (prc R i j).getD 0
def crB (R : Rw) (i j r s : Nat) : Bool := match prc R r s with
  | none => true
  | some x => decide (val R i s + val R r j < val R i j + x)
def spIsCr (K : PySem.W.Frag) : Sp := fun vs H Q _ => ∃ (p q a : Addr) (es : List V) (R : Rw) (v u : V) (i j r s : Nat), vs = [.ref a, v, u] ∧ RS K H a es R ∧ Gt R ∧ PrAt p H v ((i : Int), (j : Int)) ∧ PrAt q H u ((r : Int), (s : Int)) ∧ i < R.length ∧ j < wd R ∧ r < R.length ∧ s < wd R ∧
  (prc R i j).isSome = true ∧ (prc R i s).isSome = true ∧ (prc R r j).isSome = true ∧ Q (.bl (crB R i j r s)) H
abbrev slMarks : Stmt := top 26
abbrev slIsCr : Stmt := top 27
abbrev slStB : Stmt := top 28
abbrev slWiB : Stmt := top 29
section
variable {P : Program} {w : World} {K : PySem.W.Frag} {mg : Str → Option Value} {base : Heap} {C f aK : Addr} {fd : FuncData}
theorem sclIsKind : FnScope ["value"] ["value"] (defScope slIsKind) := ⟨rfl, rfl, rfl, by decide +kernel, rfl, by decide +kernel, by decide +kernel⟩
theorem ok_isKG (F : Fun K "is_kind" "is_kind" slIsKind f fd) (T : Bt mg) (kin : mg "KINDS" = some (.ref aK)) (tup : ∀ H, SqT K H aK kinds) : FnOk P w K mg base CX0 1 f fd ["value"] spIsKG := by
  refine F.ok sclIsKind (fun vs H Q E h => ?_) (fun cdv A outer s H vs Q E hr h => ?_)
  · obtain ⟨z, rfl, _⟩ := h
    rfl
  · obtain ⟨z, rfl, kd, k⟩ := h
    refine ⟨_, (pss_one (ps_ret (pe_and (pe_callB call_isi (by rfl) T.isinstance (by decide +kernel) (pa_cons (pv 0) (pa_cons (pe_bltn (v := .ty "str") (by rfl) T.str (by decide +kernel) rfl) pa_nil))) (pe_one (pe_cmpR op_in_seq (pv 0) (pe_glob (v := .ref aK) (by rfl) kin rfl) (by rfl)))))), ?_⟩
    walk_at "rd"
    refine r_isi (.base (.str z)) (by decide +kernel : kitB "str" "str" = some true) ?_
    walk_at "rd"
    refine ⟨aK, kinds, rfl, .inr (tup _), rfl, rfl, ?_⟩
    rcases kd with rfl | rfl | rfl | rfl <;> exact k
theorem sclChKind : FnScope ["kind"] ["kind"] (defScope slChKind) := ⟨rfl, rfl, rfl, by decide +kernel, rfl, by decide +kernel, by decide +kernel⟩
theorem ok_chKG (F : Fun K "check_kind" "check_kind" slChKind f fd) (DK : Df P w K mg base CX0 "is_kind" 1 ["value"] spIsKG) : FnOk P w K mg base CX0 2 f fd ["kind"] spChKG := by
  refine F.ok sclChKind (fun vs H Q E h => ?_) (fun cdv A outer s H vs Q E hr h => ?_)
  · obtain ⟨z, rfl, _⟩ := h
    rfl
  · obtain ⟨z, rfl, kd, k⟩ := h
    refine ⟨_, (pss_one (ps_if (pt_not (pt_val (pe_df DK hr (by decide) (pa_cons (pv 0) pa_nil)))) pss_never pss_nil)), ?_⟩
    walk_at "rd"
    refine ⟨z, rfl, kd, ?_⟩
    walk_at "rd"
    exact k
theorem sclHasC : FnScope ["kind"] ["kind"] (defScope slHasC) := ⟨rfl, rfl, rfl, by decide +kernel, rfl, by decide +kernel, by decide +kernel⟩
theorem ok_hasC (F : Fun K "has_columns" "has_columns" slHasC f fd) : FnOk P w K mg base CX0 1 f fd ["kind"] (spHasK hasC) := by
  refine F.ok sclHasC (fun vs H Q E h => ?_) (fun cdv A outer s H vs Q E hr h => ?_)
  · obtain ⟨z, rfl, _⟩ := h
    rfl
  · obtain ⟨z, rfl, k⟩ := h
    refine ⟨_, (pss_one (ps_ret (pe_or (pe_cmpR op_eq (pv 0) pe_str (nomark _)) (pe_one (pe_cmpR op_eq (pv 0) pe_str (nomark _)))))), ?_⟩
    have ve : ∀ x y : Str, decide (V.str x = V.str y) = decide (x = y) := fun x y => decide_eq_decide.mpr ⟨fun h => V.str.inj h, fun h => by rw [h]⟩
    walk_at "rd"
    refine r_eq rfl ?_
    rw [ve]
    walk_at "rd"
    unfold hasC at k
    by_cases c : z = "stock"
    · refine ifT (decide_eq_true c) ?_
      rw [decide_eq_true c, Bool.true_or] at k
      exact k
    · refine ifF (decide_eq_false c) ?_
      rw [decide_eq_false c, Bool.false_or] at k
      walk_at "rd"
      refine r_eq rfl ?_
      rw [ve]
      exact k
theorem sclHasR : FnScope ["kind"] ["kind"] (defScope slHasR) := ⟨rfl, rfl, rfl, by decide +kernel, rfl, by decide +kernel, by decide +kernel⟩
theorem ok_hasR (F : Fun K "has_rows" "has_rows" slHasR f fd) : FnOk P w K mg base CX0 1 f fd ["kind"] (spHasK hasR) := by
  refine F.ok sclHasR (fun vs H Q E h => ?_) (fun cdv A outer s H vs Q E hr h => ?_)
  · obtain ⟨z, rfl, _⟩ := h
    rfl
  · obtain ⟨z, rfl, k⟩ := h
    refine ⟨_, (pss_one (ps_ret (pe_or (pe_cmpR op_eq (pv 0) pe_str (nomark _)) (pe_one (pe_cmpR op_eq (pv 0) pe_str (nomark _)))))), ?_⟩
    have ve : ∀ x y : Str, decide (V.str x = V.str y) = decide (x = y) := fun x y => decide_eq_decide.mpr ⟨fun h => V.str.inj h, fun h => by rw [h]⟩
    walk_at "rd"
    refine r_eq rfl ?_
    rw [ve]
    walk_at "rd"
    unfold hasR at k
    by_cases c : z = "wish"
    · refine ifT (decide_eq_true c) ?_
      rw [decide_eq_true c, Bool.true_or] at k
      exact k
    · refine ifF (decide_eq_false c) ?_
      rw [decide_eq_false c, Bool.false_or] at k
      walk_at "rd"
      refine r_eq rfl ?_
      rw [ve]
      exact k
theorem filt_more {f : Nat → Bool} {i : Nat} : (List.range (i + 1)).filter f = (List.range i).filter f ++ (if f i = true then [i] else []) := by
  rw [List.range_succ, List.filter_append]
  congr 1
  by_cases c : f i = true <;> simp [c]
theorem filt_len {f : Nat → Bool} {n : Nat} : ((List.range n).filter f).length ≤ n := by
  have := List.length_filter_le f (List.range n)
  rwa [List.length_range] at this
theorem sclStB : FnScope ["behind", "pair", "i", "j", "r"] ["behind", "pair"] (defScope slStB) := ⟨rfl, rfl, rfl, by decide +kernel, rfl, by decide +kernel, by decide +kernel⟩
theorem ok_stB (F : Fun K "stocks_behind" "stocks_behind" slStB f fd) (T : Bt mg) : FnOk P w K mg base CX0 1 f fd ["behind", "pair"] spStB := by
  refine F.ok sclStB (fun vs H Q E h => ?_) (fun cdv A outer s H vs Q E hr h => ?_)
  · obtain ⟨p, b, n, w', i, j, B, v, rfl, _⟩ := h
    rfl
  · obtain ⟨p, b, n, w', i, j, B, v, rfl, hb, hp, hi, hj, n8, w8, k⟩ := h
    refine ⟨_, (pss_cons (ps_asg (pv 1) (pg_tup (by rfl) (pgs_cons (pg_name (i := 2) sclStB.nd rfl (Or.inr rfl)) (pgs_cons (pg_name (i := 3) sclStB.nd rfl (Or.inr rfl)) pgs_nil))))
  (pss_one (ps_ret (pe_lc (own := [("r", 4)]) (g := gName 4) rfl sclStB.nd (pi_range1 rfl T.range (pa_cons (pe_callB cl_len (by rfl) T.len (by decide +kernel) (pa_cons (pv 0) pa_nil)) pa_nil)) (blkOk_by (own := [("r", 4)]) (N := ["behind", "pair", "i", "j", "r"]) (sc := defScope slStB) (by decide +kernel)) (fun _ _ _ _ _ => pg_name (i := 4) sclStB.nd rfl (Or.inl rfl))
    (fun _ _ _ _ _ => pts_one (PW.pt (pw_and (pt_cmpR op_ne (pv 4) (pv 2) (nomark _)) (pw_and1 (pt_val (pe_ix (r := rIxL K) ix_list (pe_ix (r := rIxL K) ix_list (pv 0) (pv 4) (fun _ _ => rfl)) (pv 3) (fun _ _ => rfl))))))) (fun _ _ _ _ _ => (pv 4)))))), ?_⟩
    obtain ⟨bs, h1, h2, h3⟩ := hb.get
    obtain ⟨t, rfl, tp, ht⟩ := hp
    walk_at "rd"
    refine r_gtup ⟨t, _, rfl, SqT.of ht, rfl, _, _, rfl, ?_⟩
    walk_at "rd"
    refine ⟨_, _, rfl, ?_⟩
    walk_at "rd"
    refine ⟨rfl, ?_⟩
    walk_at "rd"
    refine r_lenL (SqL.of h1) ?_
    rw [h2]
    walk_at "rd"
    refine ⟨_, rfl, by omega, by omega, fun D nD => lc_it walk_range (fun m H' => Same H H' ∧ H' D = some (.lst (nV ((List.range m).filter fun r => !decide (r = i) && B r j)))) ⟨Same.up (Same.refl H) nD, upd_same⟩ (fun _ _ _ _ => trivial) ?_ ?_⟩
    · rintro m y H1 H2 hm ⟨s1, hD⟩ ⟨rfl, rfl⟩
      have hm : m < n := by have : m < ((n : Nat) : Int).toNat := hm; omega
      obtain ⟨a, ea, ha⟩ := h3 m hm
      show gName 4 (V.int (0 + (m : Int))) _ _ _
      rw [Int.zero_add]
      have fin : ∀ c : Bool, c = (!decide (m = i) && B m j) → (if c = true then tVar 4 ([some (.ref b), some (.ref t), some (.int (i : Int)), some (.int (j : Int)), some (.int (m : Int))]) H2 fun y H4 => ∃ acc, H4 D = some (.lst acc) ∧ acc.length < sizeLine ∧ (Same H (upd H4 D (.lst (acc ++ [y]))) ∧ (upd H4 D (.lst (acc ++ [y]))) D = some (.lst (nV ((List.range (m + 1)).filter fun r => !decide (r = i) && B r j)))) else (Same H H2 ∧ H2 D = some (.lst (nV ((List.range (m + 1)).filter fun r => !decide (r = i) && B r j))))) := fun c e => by
        cases c with
        | true =>
          refine ifT rfl ?_
          refine r_var rfl ?_
          refine ⟨_, hD, ?_, fun c o e2 => ?_, ?_⟩
          · have := filt_len (f := fun r => !decide (r = i) && B r j) (n := m)
            rw [nV, List.length_map]
            exact Nat.lt_of_le_of_lt (show _ ≤ 8 by omega) (by decide)
          · rw [upd_ne (fun z => by rw [z, nD] at e2; cases e2)]
            exact s1 _ _ e2
          · rw [upd_same, filt_more, if_pos e.symm, nV, nV, List.map_append]
            rfl
        | false =>
          refine ifF rfl ?_
          refine ⟨s1, ?_⟩
          rw [filt_more, if_neg (by rw [← e]; decide), List.append_nil]
          exact hD
      walk_at "rd"
      refine ⟨rfl, ?_⟩
      walk_at "rd"
      refine r_ne rfl ?_
      walk_at "rd"
      have de : decide (V.int (m : Int) = V.int (i : Int)) = decide (m = i) := decide_eq_decide.mpr ⟨fun h => Int.ofNat.inj (V.int.inj h), fun h => by rw [h]⟩
      rw [de]
      by_cases c : m = i
      · refine ifF (by rw [decide_eq_true c]; rfl) ?_
        exact fin false (by rw [decide_eq_true c]; rfl)
      · refine ifT (by rw [decide_eq_false c]; rfl) ?_
        walk_at "rd"
        refine r_ixL (SqL.of (s1 _ _ h1)) (atI_nat ea) ?_
        walk_at "rd"
        refine r_ixL (SqL.of (s1 _ _ ha)) (atI_nat (mkB_at hj)) ?_
        walk_at "rd"
        exact fin _ (by rw [decide_eq_false c]; rfl)
    · rintro H1 ⟨s1, hD⟩
      exact k D H1 s1 hD
end
end Pk
set_option Elab.async false
set_option linter.all false
set_option maxRecDepth 100000
set_option maxHeartbeats 4000000
namespace Pk
open PySem L2
local macro_rules | `(tactic| walk_at "rd") => `(tactic| repeat (first
  | with_reducible refine r_seq ?_ | with_reducible refine r_nxt ?_ | with_reducible refine r_asg ?_ | with_reducible refine r_to ?_ | with_reducible refine r_ret ?_ | with_reducible refine r_for ?_ | with_reducible refine r_lc ?_ | with_reducible refine r_lc2 ?_ | with_reducible refine r_rng1 ?_ | with_reducible refine r_list ?_ | with_reducible refine r_tupI ?_ | with_reducible refine r_drop ?_ | with_reducible refine r_ifs ?_
  | with_reducible refine r_op ?_ | with_reducible refine r_c ?_ | with_reducible refine r_var rfl ?_ | with_reducible refine r_var (by assumption) ?_ | with_reducible refine r_I0 ?_ | with_reducible refine r_un ?_ | with_reducible refine r_U ?_ | with_reducible refine r_make ?_ | with_reducible refine r_makeS ?_ | with_reducible refine r_ifE ?_ | with_reducible refine r_cm ?_ | with_reducible refine r_mkV rfl ?_ | with_reducible refine r_sub ?_
  | with_reducible refine r_nil ?_ | with_reducible refine r_cons ?_ | with_reducible refine r_cb ?_ | with_reducible refine r_sl ?_ | with_reducible refine r_noP ?_ | with_reducible refine r_part ?_ | with_reducible refine r_isI ?_ | with_reducible refine r_lst ?_ | with_reducible refine r_tup ?_ | with_reducible refine r_call ?_ | with_reducible refine r_callS ?_ | with_reducible refine r_sFldU ?_ | with_reducible refine r_chain ?_ | with_reducible refine r_enum ?_ | with_reducible refine r_zip ?_ | with_reducible refine r_rng3 ?_ | with_reducible refine r_gtup ?_ | with_reducible refine r_methU ?_
  | with_reducible refine r_test ?_ | with_reducible refine r_B ?_ | with_reducible refine r_and ?_ | with_reducible refine r_or ?_ | with_reducible refine r_not ?_ | with_reducible refine r_andV ?_ | with_reducible refine r_orV ?_ | with_reducible refine r_notV ?_ | with_reducible refine r_bl ?_ | with_reducible refine r_yes ?_ | with_reducible refine r_int ?_ | with_reducible refine r_is0 ?_ | with_reducible refine r_is1 ?_ | with_reducible refine iteT ?_ | with_reducible refine iteF ?_ | with_reducible refine ite_nF ?_ | with_reducible refine ite_nT ?_
  | with_reducible refine r_mod (by decide) ?_ | with_reducible refine r_div (by decide) (by decide) ?_ | with_reducible refine r_mulR (by decide) (by decide) ?_ | with_reducible refine r_mulL (by decide) (by decide) ?_ | with_reducible refine r_pow (by decide) (by decide) (by decide) ?_))
section
variable {P : Program} {w : World} {K : PySem.W.Frag} {mg : Str → Option Value} {base : Heap} {C f aK : Addr} {fd : FuncData}
theorem sclWiB : FnScope ["behind", "pair", "i", "j", "s"] ["behind", "pair"] (defScope slWiB) := ⟨rfl, rfl, rfl, by decide +kernel, rfl, by decide +kernel, by decide +kernel⟩
theorem ok_wiB (F : Fun K "wishes_behind" "wishes_behind" slWiB f fd) (T : Bt mg) : FnOk P w K mg base CX0 1 f fd ["behind", "pair"] spWiB := by
  refine F.ok sclWiB (fun vs H Q E h => ?_) (fun cdv A outer s H vs Q E hr h => ?_)
  · obtain ⟨p, b, n, w', i, j, B, v, rfl, _⟩ := h
    rfl
  · obtain ⟨p, b, n, w', i, j, B, v, rfl, hb, hp, hi, hj, n8, w8, k⟩ := h
    refine ⟨_, (pss_cons (ps_asg (pv 1) (pg_tup (by rfl) (pgs_cons (pg_name (i := 2) sclWiB.nd rfl (Or.inr rfl)) (pgs_cons (pg_name (i := 3) sclWiB.nd rfl (Or.inr rfl)) pgs_nil))))
  (pss_one (ps_ret (pe_lc (own := [("s", 4)]) (g := gName 4) rfl sclWiB.nd (pi_range1 rfl T.range (pa_cons (pe_callB cl_len (by rfl) T.len (by decide +kernel) (pa_cons (pe_ix ix_list (pv 0) pe_int (fun _ _ => rfl)) pa_nil)) pa_nil)) (blkOk_by (own := [("s", 4)]) (N := ["behind", "pair", "i", "j", "s"]) (sc := defScope slWiB) (by decide +kernel)) (fun _ _ _ _ _ => pg_name (i := 4) sclWiB.nd rfl (Or.inl rfl))
    (fun _ _ _ _ _ => pts_one (PW.pt (pw_and (pt_cmpR op_ne (pv 4) (pv 3) (nomark _)) (pw_and1 (pt_val (pe_ix (r := rIxL K) ix_list (pe_ix (r := rIxL K) ix_list (pv 0) (pv 2) (fun _ _ => rfl)) (pv 4) (fun _ _ => rfl))))))) (fun _ _ _ _ _ => (pv 4)))))), ?_⟩
    obtain ⟨bs, h1, h2, h3⟩ := hb.get
    obtain ⟨t, rfl, tp, ht⟩ := hp
    obtain ⟨a0, ea0, ha0⟩ := h3 0 (by omega)
    obtain ⟨ai, eai, hai⟩ := h3 i hi
    walk_at "rd"
    refine r_gtup ⟨t, _, rfl, SqT.of ht, rfl, _, _, rfl, ?_⟩
    walk_at "rd"
    refine ⟨_, _, rfl, ?_⟩
    walk_at "rd"
    refine ⟨rfl, ?_⟩
    walk_at "rd"
    refine r_ixL (SqL.of h1) (atI_nat (j := 0) ea0) ?_
    walk_at "rd"
    refine r_lenL (SqL.of ha0) ?_
    rw [mkB_len]
    walk_at "rd"
    refine ⟨_, rfl, by omega, by omega, fun D nD => lc_it walk_range (fun m H' => Same H H' ∧ H' D = some (.lst (nV ((List.range m).filter fun s => !decide (s = j) && B i s)))) ⟨Same.up (Same.refl H) nD, upd_same⟩ (fun _ _ _ _ => trivial) ?_ ?_⟩
    · rintro m y H1 H2 hm ⟨s1, hD⟩ ⟨rfl, rfl⟩
      have hm : m < w' := by have : m < ((w' : Nat) : Int).toNat := hm; omega
      show gName 4 (V.int (0 + (m : Int))) _ _ _
      rw [Int.zero_add]
      have fin : ∀ c : Bool, c = (!decide (m = j) && B i m) → (if c = true then tVar 4 ([some (.ref b), some (.ref t), some (.int (i : Int)), some (.int (j : Int)), some (.int (m : Int))]) H2 fun y H4 => ∃ acc, H4 D = some (.lst acc) ∧ acc.length < sizeLine ∧ (Same H (upd H4 D (.lst (acc ++ [y]))) ∧ (upd H4 D (.lst (acc ++ [y]))) D = some (.lst (nV ((List.range (m + 1)).filter fun s => !decide (s = j) && B i s)))) else (Same H H2 ∧ H2 D = some (.lst (nV ((List.range (m + 1)).filter fun s => !decide (s = j) && B i s))))) := fun c e => by
        cases c with
        | true =>
          refine ifT rfl ?_
          refine r_var rfl ?_
          refine ⟨_, hD, ?_, fun c o e2 => ?_, ?_⟩
          · have := filt_len (f := fun s => !decide (s = j) && B i s) (n := m)
            rw [nV, List.length_map]
            exact Nat.lt_of_le_of_lt (show _ ≤ 8 by omega) (by decide)
          · rw [upd_ne (fun z => by rw [z, nD] at e2; cases e2)]
            exact s1 _ _ e2
          · rw [upd_same, filt_more, if_pos e.symm, nV, nV, List.map_append]
            rfl
        | false =>
          refine ifF rfl ?_
          refine ⟨s1, ?_⟩
          rw [filt_more, if_neg (by rw [← e]; decide), List.append_nil]
          exact hD
      walk_at "rd"
      refine ⟨rfl, ?_⟩
      walk_at "rd"
      refine r_ne rfl ?_
      walk_at "rd"
      have de : decide (V.int (m : Int) = V.int (j : Int)) = decide (m = j) := decide_eq_decide.mpr ⟨fun h => Int.ofNat.inj (V.int.inj h), fun h => by rw [h]⟩
      rw [de]
      by_cases c : m = j
      · refine ifF (by rw [decide_eq_true c]; rfl) ?_
        exact fin false (by rw [decide_eq_true c]; rfl)
      · refine ifT (by rw [decide_eq_false c]; rfl) ?_
        walk_at "rd"
        refine r_ixL (SqL.of (s1 _ _ h1)) (atI_nat eai) ?_
        walk_at "rd"
        refine r_ixL (SqL.of (s1 _ _ hai)) (atI_nat (mkB_at hm)) ?_
        walk_at "rd"
        exact fin _ (by rw [decide_eq_false c]; rfl)
    · rintro H1 ⟨s1, hD⟩
      exact k D H1 s1 hD
theorem sclIsCr : FnScope ["prices", "pair", "cell", "i", "j", "r", "s"] ["prices", "pair", "cell"] (defScope slIsCr) := ⟨rfl, rfl, rfl, by decide +kernel, rfl, by decide +kernel, by decide +kernel⟩
theorem val_of {R : Rw} {i j : Nat} (h : (prc R i j).isSome = true) : pV (prc R i j) = .int (val R i j) := by
  unfold val
  cases e : prc R i j with
  | none => rw [e] at h; cases h
  | some x => rfl
theorem ok_isCr (F : Fun K "is_cross" "is_cross" slIsCr f fd) : FnOk P w K mg base CX0 1 f fd ["prices", "pair", "cell"] (spIsCr K) := by
  refine F.ok sclIsCr (fun vs H Q E h => ?_) (fun cdv A outer s H vs Q E hr h => ?_)
  · obtain ⟨p, q, a, es, R, v, u, i, j, r, s, rfl, _⟩ := h
    rfl
  · obtain ⟨p, q, a, es, R, v, u, i, j, r, s, rfl, rs, g, hp, hq, hi, hj, hr', hs, pij, pis, prj, k⟩ := h
    refine ⟨_, (pss_cons (ps_asg (pv 1) (pg_tup (by rfl) (pgs_cons (pg_name (i := 3) sclIsCr.nd rfl (Or.inl rfl)) (pgs_cons (pg_name (i := 4) sclIsCr.nd rfl (Or.inl rfl)) pgs_nil))))
  (pss_cons (ps_asg (pv 2) (pg_tup (by rfl) (pgs_cons (pg_name (i := 5) sclIsCr.nd rfl (Or.inl rfl)) (pgs_cons (pg_name (i := 6) sclIsCr.nd rfl (Or.inl rfl)) pgs_nil))))
  (pss_one (ps_ret (pe_or (pe_cmpR op_is0 (pe_ix ix_list (pe_ix ix_list (pv 0) (pv 5) (fun _ _ => rfl)) (pv 6) (fun _ _ => rfl)) pe_non (nomark _)) (pe_one (pe_cmpR op_gt (pe_op op_add (pe_ix ix_list (pe_ix ix_list (pv 0) (pv 3) (fun _ _ => rfl)) (pv 4) (fun _ _ => rfl)) (pe_ix ix_list (pe_ix ix_list (pv 0) (pv 5) (fun _ _ => rfl)) (pv 6) (fun _ _ => rfl))) (pe_op op_add (pe_ix ix_list (pe_ix ix_list (pv 0) (pv 3) (fun _ _ => rfl)) (pv 6) (fun _ _ => rfl)) (pe_ix ix_list (pe_ix ix_list (pv 0) (pv 5) (fun _ _ => rfl)) (pv 4) (fun _ _ => rfl))) (nomark _)))))))), ?_⟩
    obtain ⟨ai, eai, hai⟩ := rs.get hi
    obtain ⟨ar, ear, har⟩ := rs.get hr'
    obtain ⟨t, rfl, tp, ht⟩ := hp
    obtain ⟨t2, rfl, tp2, ht2⟩ := hq
    walk_at "rd"
    refine r_gtup ⟨t, _, rfl, SqT.of ht, rfl, _, _, rfl, ?_⟩
    walk_at "rd"
    refine ⟨_, _, rfl, ?_⟩
    walk_at "rd"
    refine ⟨rfl, ?_⟩
    walk_at "rd"
    refine r_gtup ⟨t2, _, rfl, SqT.of ht2, rfl, _, _, rfl, ?_⟩
    walk_at "rd"
    refine ⟨_, _, rfl, ?_⟩
    walk_at "rd"
    refine ⟨rfl, ?_⟩
    walk_at "rd"
    refine r_ixL rs.at_ (atI_nat ear) ?_
    walk_at "rd"
    refine r_ixL har (atI_nat (prc_get g hr' hs)) ?_
    walk_at "rd"
    cases e : prc R r s with
    | none =>
      refine ifT (decide_eq_true rfl) ?_
      rw [crB, e] at k
      exact k
    | some x =>
      refine ifF (decide_eq_false (fun z => by cases z)) ?_
      rw [crB, e] at k
      walk_at "rd"
      refine r_ixL rs.at_ (atI_nat eai) ?_
      walk_at "rd"
      refine r_ixL hai (atI_nat (prc_get g hi hj)) ?_
      rw [val_of pij]
      walk_at "rd"
      refine r_ixL rs.at_ (atI_nat ear) ?_
      walk_at "rd"
      refine r_ixL har (atI_nat (prc_get g hr' hs)) ?_
      rw [e]
      show rI0 (fun i j => V.int (i + j)) (V.int (val R i j)) (V.int x) _ _
      walk_at "rd"
      refine r_ixL rs.at_ (atI_nat eai) ?_
      walk_at "rd"
      refine r_ixL hai (atI_nat (prc_get g hi hs)) ?_
      rw [val_of pis]
      walk_at "rd"
      refine r_ixL rs.at_ (atI_nat ear) ?_
      walk_at "rd"
      refine r_ixL har (atI_nat (prc_get g hr' hj)) ?_
      rw [val_of prj]
      walk_at "rd"
      exact k
theorem sclMarks : FnScope ["table", "pairs", "rows", "i", "j"] ["table", "pairs"] (defScope slMarks) := ⟨rfl, rfl, rfl, by decide +kernel, rfl, by decide +kernel, by decide +kernel⟩
theorem ok_marks {fS fW : Addr} {fdS fdW : FuncData} (F : Fun K "marks" "marks" slMarks f fd) (T : Bt mg) (A : TbC K C) (mS : Meth K C "stocks" fS) (oS : FnOk P w K mg base CX0 1 fS fdS ["self"] (spTStk C)) (bS : Binds K fdS ["self"] [])
    (mW : Meth K C "wishes" fW) (oW : FnOk P w K mg base CX0 1 fW fdW ["self"] (spTWsh C)) (bW : Binds K fdW ["self"] []) : FnOk P w K mg base CX0 2 f fd ["table", "pairs"] (spMarks C) := by
  refine F.ok sclMarks (fun vs H Q E h => ?_) (fun cdv A' outer s H vs Q E hr h => ?_)
  · obtain ⟨p, x, a, G, R, us, zs, rfl, _⟩ := h
    rfl
  · obtain ⟨p, x, a, G, R, us, zs, rfl, t, sG, ha, hu, inr, z64, k⟩ := h
    have hr1 := hr.mono (show 1 ≤ 1 by decide)
    obtain ⟨g, dx, e0, u0, es, ho, hl, hpl⟩ := id t
    have g8 := g.h8
    have w8 := g.w8
    have ul := hu.length
    refine ⟨_, (pss_cons (ps_setLc (i := 2) (own := [("i", 3)]) (g := gName 3) (te := tOp rRep (tLst (tCons (tC (.bl false)) tNil)) (tMeth C "wishes" (spTWsh C) [] E0 (tVar 0) tNil)) rfl sclMarks.nd rfl rfl (sw_true rfl rfl rfl (by decide +kernel)) (pi_range1 rfl T.range (pa_cons (pe_meth0 (pv 0) A.O.cl mS oS hr1 bS .nil pass0) pa_nil)) (blkOk_by (own := [("i", 3)]) (N := ["table", "pairs", "rows", "i", "j"]) (sc := defScope slMarks) (by decide +kernel)) (fun _ _ _ _ _ => pg_name (i := 3) sclMarks.nd rfl (Or.inl rfl)) (fun _ _ _ _ _ => pts_nil) (fun _ _ _ _ _ => (pe_op op_rep (pe_lst (pa_cons pe_bl pa_nil)) (pe_meth0 (pv 0) A.O.cl mW oW hr1 bW .nil pass0))))
  (pss_cons (ps_for PassesOwn.never rfl (pi_list (pv 1)) (pg_tup (by rfl) (pgs_cons (pg_name (i := 3) sclMarks.nd rfl (Or.inl rfl)) (pgs_cons (pg_name (i := 4) sclMarks.nd rfl (Or.inl rfl)) pgs_nil))) (pss_one (ps_asg pe_bl (pg_sub (pe_ix ix_list (pv 2) (pv 3) (fun _ _ => rfl)) (pv 4) set_list))))
  (pss_one (ps_ret (pv 2))))), ?_⟩
    walk_at "rd"
    refine ⟨x, dx, _, rfl, sG _ _ ho, two_no (by decide +kernel) (by decide +kernel), ?_⟩
    walk_at "rd"
    refine ⟨x, G, R, rfl, t, sG, ?_⟩
    walk_at "rd"
    refine ⟨_, rfl, by omega, by omega, fun D nD => lc_it walk_range (fun m H' => Same H H' ∧ ∃ bs, Bk H H' D bs (wd R) (fun _ _ => false) ∧ bs.length = m) ⟨Same.up (Same.refl H) nD, [], ⟨nD, upd_same, fun i v e => by simp at e, .nil⟩, rfl⟩ (fun _ _ _ _ => trivial) ?_ ?_⟩
    · rintro m y H1 H2 hm ⟨s1, bs, bk, bl⟩ ⟨rfl, rfl⟩
      have hm : m < R.length := by have : m < ((R.length : Nat) : Int).toNat := hm; omega
      walk_at "rd"
      refine ⟨rfl, ?_⟩
      walk_at "rd"
      refine ⟨by show 1 ≤ sizeLine; decide, fun l1 n1 => ?_⟩
      have s2 := Same.up (o := .lst [V.bl false]) (Same.refl H2) n1
      walk_at "rd"
      refine ⟨x, dx, _, rfl, (sG.trans (s1.trans s2)) _ _ ho, two_no (by decide +kernel) (by decide +kernel), ?_⟩
      walk_at "rd"
      refine ⟨x, G, R, rfl, t, sG.trans (s1.trans s2), ?_⟩
      refine ⟨l1, (wd R : Int), [.bl false], rfl, rfl, upd_same, by omega, by omega, Nat.le_trans (show [V.bl false].length * ((wd R : Nat) : Int).toNat ≤ 8 by simp; omega) (by decide), fun q nq => ?_⟩
      have s3 := Same.up (o := .lst (List.replicate ((wd R : Nat) : Int).toNat [V.bl false]).flatten) s2 nq
      have fl : (List.replicate ((wd R : Nat) : Int).toNat [V.bl false]).flatten = mkB (wd R) fun _ => false := by
        rw [Int.toNat_natCast]
        unfold mkB
        generalize wd R = n
        induction n with
        | zero => rfl
        | succ n ih => rw [List.replicate_succ', List.range_succ, List.map_append, List.flatten_append, ih]; rfl
      rw [fl] at s3 ⊢
      have qD : q ≠ D := fun z => by rw [z, s2 _ _ bk.at_] at nq; cases nq
      have nH : H q = none := (s1.trans s2).free nq
      refine ⟨bs, s3 _ _ bk.at_, by rw [bl]; exact Nat.lt_of_lt_of_le (show m < 9 by omega) (by decide), fun c o e => ?_, bs ++ [.ref q], ⟨bk.nw, upd_same, fun i v e => ?_, bk.dist.more fun j v e2 z => ?_⟩, by rw [List.length_append, bl]; rfl⟩
      · rw [upd_ne (fun z => by rw [z, nD] at e; cases e)]
        exact s3 _ _ (s1 _ _ e)
      · by_cases c : i < bs.length
        · rw [List.getElem?_append_left c] at e
          obtain ⟨b', e1, n1', n2', h'⟩ := bk.row i v e
          exact ⟨b', e1, n1', n2', by rw [upd_ne n1']; exact s3 _ _ h'⟩
        · rw [List.getElem?_append_right (by omega)] at e
          have : i - bs.length = 0 := by
            have := (List.getElem?_eq_some_iff.mp e).1
            simp at this
            omega
          rw [this] at e
          cases (Option.some.inj e)
          exact ⟨q, rfl, qD, nH, by rw [upd_ne qD, upd_same]⟩
      · obtain ⟨b', e1, n1', n2', h'⟩ := bk.row j v e2
        rw [e1] at z
        cases z
        rw [s2 _ _ h'] at nq
        cases nq
    · rintro H1 ⟨s1, bs, bk, bl⟩
      have bl : bs.length = R.length := by have : bs.length = ((R.length : Nat) : Int).toNat := bl; omega
      walk_at "rd"
      refine ⟨a, rfl, ⟨_, SqL.of (s1 _ _ ha)⟩, for_it walk_list (fun m σ H' => ∃ v3 v4, σ = [some (.ref x), some (.ref a), some (.ref D), v3, v4] ∧ Same H H' ∧ Bk H H' D bs (wd R) (inB (zs.take m))) ⟨_, _, rfl, s1, ?_⟩ (fun i σ H' _ z => by obtain ⟨_, _, _, s', _⟩ := z; exact SqL.of (s' _ _ ha)) ?_ ?_⟩
      · have e : inB (zs.take 0) = fun _ _ => false := by
          funext i j
          simp [inB]
        rw [e]
        exact bk
      · rintro m y σ H2 H3 hm ⟨v3, v4, rfl, s2, bk2⟩ ⟨rfl, ey⟩
        obtain ⟨z, ez, t', rfl, tp, ht⟩ := hu.at ey
        obtain ⟨i, j, rfl, hi, hj⟩ := inr z (List.mem_of_getElem? ez)
        have hbi : i < bs.length := by omega
        obtain ⟨b', e1, n1', n2', h'⟩ := bk2.row i _ (List.getElem?_eq_getElem hbi)
        have ebi : bs[i]? = some (.ref b') := by rw [List.getElem?_eq_getElem hbi, e1]
        refine r_gtup ⟨t', _, rfl, SqT.of (s2 _ _ ht), rfl, _, _, rfl, ?_⟩
        walk_at "rd"
        refine ⟨_, _, rfl, ?_⟩
        walk_at "rd"
        refine ⟨rfl, ?_⟩
        walk_at "rd"
        refine r_ixL (SqL.of bk2.at_) (atI_nat ebi) ?_
        walk_at "rd"
        refine r_setL h' (ixN_nat (by rw [mkB_len]; exact hj)) ?_
        walk_at "rd"
        rw [mkB_set]
        refine ⟨_, _, rfl, fun c o e => ?_, bk2.nw, by rw [upd_ne (Ne.symm n1')]; exact bk2.at_, fun i2 v e => ?_, bk2.dist⟩
        · rw [upd_ne (fun z => by rw [z, n2'] at e; cases e)]
          exact s2 _ _ e
        · have tk : ∀ a b, inB (zs.take (m + 1)) a b = (inB (zs.take m) a b || (decide (a = i) && decide (b = j))) := fun a b => by
            unfold inB
            rw [List.take_add_one, ez]
            show decide (_ ∈ _ ++ [((i : Int), (j : Int))]) = _
            by_cases c1 : a = i <;> by_cases c2 : b = j <;> simp [c1, c2] <;> omega
          obtain ⟨b2, e2, m1, m2, h2⟩ := bk2.row i2 v e
          by_cases c : i2 = i
          · subst c
            rw [ebi] at e
            cases (Option.some.inj e)
            refine ⟨b', rfl, n1', n2', ?_⟩
            rw [upd_same]
            congr 2
            congr 1
            funext b
            rw [tk, decide_eq_true rfl, Bool.true_and]
          · refine ⟨b2, e2, m1, m2, ?_⟩
            have nb : b2 ≠ b' := fun z => c (bk2.dist i2 i b' (by rw [e, e2, z]) ebi)
            rw [upd_ne nb, h2]
            congr 2
            congr 1
            funext b
            rw [tk, decide_eq_false c, Bool.false_and, Bool.or_false]
      · rintro σ H2 ⟨v3, v4, rfl, s2, bk2⟩
        rw [ul, List.take_length] at bk2
        walk_at "rd"
        exact k D bs H2 s2 bk2 bl
end
end Pk
set_option Elab.async false
set_option linter.all false
set_option maxRecDepth 100000
set_option maxHeartbeats 4000000
namespace Pk
open PySem L2
local macro_rules | `(tactic| walk_at "rd") => `(tactic| repeat (first
  | with_reducible refine r_seq ?_ | with_reducible refine r_nxt ?_ | with_reducible refine r_asg ?_ | with_reducible refine r_to ?_ | with_reducible refine r_ret ?_ | with_reducible refine r_for ?_ | with_reducible refine r_lc ?_ | with_reducible refine r_lc2 ?_ | with_reducible refine r_rng1 ?_ | with_reducible refine r_list ?_ | with_reducible refine r_tupI ?_ | with_reducible refine r_drop ?_ | with_reducible refine r_ifs ?_
  | with_reducible refine r_op ?_ | with_reducible refine r_c ?_ | with_reducible refine r_var rfl ?_ | with_reducible refine r_var (by assumption) ?_ | with_reducible refine r_I0 ?_ | with_reducible refine r_un ?_ | with_reducible refine r_U ?_ | with_reducible refine r_make ?_ | with_reducible refine r_makeS ?_ | with_reducible refine r_ifE ?_ | with_reducible refine r_cm ?_ | with_reducible refine r_mkV rfl ?_ | with_reducible refine r_sub ?_
  | with_reducible refine r_nil ?_ | with_reducible refine r_cons ?_ | with_reducible refine r_cb ?_ | with_reducible refine r_sl ?_ | with_reducible refine r_noP ?_ | with_reducible refine r_part ?_ | with_reducible refine r_isI ?_ | with_reducible refine r_lst ?_ | with_reducible refine r_tup ?_ | with_reducible refine r_call ?_ | with_reducible refine r_callS ?_ | with_reducible refine r_sFldU ?_ | with_reducible refine r_chain ?_ | with_reducible refine r_enum ?_ | with_reducible refine r_zip ?_ | with_reducible refine r_rng3 ?_ | with_reducible refine r_gtup ?_ | with_reducible refine r_methU ?_
  | with_reducible refine r_test ?_ | with_reducible refine r_B ?_ | with_reducible refine r_and ?_ | with_reducible refine r_or ?_ | with_reducible refine r_not ?_ | with_reducible refine r_andV ?_ | with_reducible refine r_orV ?_ | with_reducible refine r_notV ?_ | with_reducible refine r_bl ?_ | with_reducible refine r_yes ?_ | with_reducible refine r_int ?_ | with_reducible refine r_is0 ?_ | with_reducible refine r_is1 ?_ | with_reducible refine iteT ?_ | with_reducible refine iteF ?_ | with_reducible refine ite_nF ?_ | with_reducible refine ite_nT ?_
  | with_reducible refine r_mod (by decide) ?_ | with_reducible refine r_div (by decide) (by decide) ?_ | with_reducible refine r_mulR (by decide) (by decide) ?_ | with_reducible refine r_mulL (by decide) (by decide) ?_ | with_reducible refine r_pow (by decide) (by decide) (by decide) ?_))
/-! ### what bars a pair: crosses, columns, rows -/
def FtAt (p : Addr) (H : Hp) (pv u : V) (f : Str × Pr) : Prop := ∃ (t : Addr) (c : V), u = .ref t ∧ H t = some (.tup [.str f.1, pv, c]) ∧ PrAt p H c f.2
inductive FtsAt (p : Addr) (H : Hp) (pv : V) : List V → List (Str × Pr) → Prop
  | nil : FtsAt p H pv [] []
  | cons {u : V} {f : Str × Pr} {us : List V} {fs : List (Str × Pr)} (h : FtAt p H pv u f) (r : FtsAt p H pv us fs) : FtsAt p H pv (u :: us) (f :: fs)
theorem FtAt.keepT {p : Addr} {H H' : Hp} {pv u : V} {f : Str × Pr} (h : FtAt p H pv u f) (k : ∀ t xs, H t = some (.tup xs) → H' t = some (.tup xs)) : FtAt p H' pv u f := by
  obtain ⟨t, c, e, ht, t2, e2, n2, h2⟩ := h
  exact ⟨t, c, e, k _ _ ht, t2, e2, n2, k _ _ h2⟩
theorem FtsAt.keepT {p : Addr} {H H' : Hp} {pv : V} {us : List V} {fs : List (Str × Pr)} (h : FtsAt p H pv us fs) (k : ∀ t xs, H t = some (.tup xs) → H' t = some (.tup xs)) : FtsAt p H' pv us fs := by
  induction h with
  | nil => exact .nil
  | cons h _ ih => exact .cons (h.keepT k) ih
theorem FtsAt.same {p : Addr} {H H' : Hp} {pv : V} {us : List V} {fs : List (Str × Pr)} (h : FtsAt p H pv us fs) (s : Same H H') : FtsAt p H' pv us fs := h.keepT fun t xs e => s _ _ e
theorem FtsAt.app {p : Addr} {H : Hp} {pv : V} {us ws : List V} {fs gs : List (Str × Pr)} (h : FtsAt p H pv us fs) (g : FtsAt p H pv ws gs) : FtsAt p H pv (us ++ ws) (fs ++ gs) := by
  induction h with
  | nil => exact g
  | cons h _ ih => exact .cons h ih
theorem FtsAt.length {p : Addr} {H : Hp} {pv : V} {us : List V} {fs : List (Str × Pr)} (h : FtsAt p H pv us fs) : us.length = fs.length := by
  induction h with
  | nil => rfl
  | cons _ _ ih => rw [List.length_cons, List.length_cons, ih]
theorem nV_at {l : List Nat} {m : Nat} {y : V} (h : (nV l)[m]? = some y) : ∃ r : Nat, l[m]? = some r ∧ y = .int (r : Int) := by
  unfold nV at h
  rw [List.getElem?_map] at h
  cases e : l[m]? with
  | none => rw [e] at h; cases h
  | some r => rw [e] at h; exact ⟨r, rfl, (Option.some.inj h).symm⟩
theorem nV_len {l : List Nat} : (nV l).length = l.length := List.length_map ..
theorem stB_mem {B : Nat → Nat → Bool} {n i j r : Nat} (h : r ∈ stB B n i j) : r < n ∧ r ≠ i ∧ B r j = true := by
  unfold stB at h
  rw [List.mem_filter, List.mem_range, Bool.and_eq_true, Bool.not_eq_true', decide_eq_false_iff_not] at h
  exact ⟨h.1, h.2.1, h.2.2⟩
theorem wiB_mem {B : Nat → Nat → Bool} {w i j s : Nat} (h : s ∈ wiB B w i j) : s < w ∧ s ≠ j ∧ B i s = true := by
  unfold wiB at h
  rw [List.mem_filter, List.mem_range, Bool.and_eq_true, Bool.not_eq_true', decide_eq_false_iff_not] at h
  exact ⟨h.1, h.2.1, h.2.2⟩
def crRow (R : Rw) (i j r : Nat) (l : List Nat) : List Pr := (l.filter fun s => crB R i j r s).map fun (s : Nat) => ((r : Int), (s : Int))
def crossL (R : Rw) (B : Nat → Nat → Bool) (i j : Nat) : List Pr := (stB B R.length i j).flatMap fun r => crRow R i j r (wiB B (wd R) i j)
def colL (R : Rw) (B : Nat → Nat → Bool) (i j : Nat) : List Pr := ((stB B R.length i j).filter fun r => decide (val R r j < val R i j)).map fun (r : Nat) => ((r : Int), (j : Int))
def rowL (R : Rw) (B : Nat → Nat → Bool) (i j : Nat) : List Pr := ((wiB B (wd R) i j).filter fun s => decide (val R i s < val R i j)).map fun (s : Nat) => ((i : Int), (s : Int))
def wrd (z : Str) (l : List Pr) : List (Str × Pr) := l.map fun c => (z, c)
theorem wrd_app (z : Str) (l m : List Pr) : wrd z (l ++ m) = wrd z l ++ wrd z m := List.map_append ..
/-- what the mark of a bar wants of its surroundings -/
structure Bar (K : PySem.W.Frag) (p : Addr) (H : Hp) (a b : Addr) (v : V) (es : List V) (R : Rw) (B : Nat → Nat → Bool) (i j : Nat) : Prop where
  rs : RS K H a es R
  g : Gt R
  bs : BS H b R.length (wd R) B
  pr : PrAt p H v ((i : Int), (j : Int))
  hi : i < R.length
  hj : j < wd R
  sub : ∀ r s, r < R.length → s < wd R → B r s = true → (prc R r s).isSome = true
  is_ : (prc R i j).isSome = true
  pp : ∃ o, H p = some o
theorem Bar.same {K : PySem.W.Frag} {p : Addr} {H H' : Hp} {a b : Addr} {v : V} {es : List V} {R : Rw} {B : Nat → Nat → Bool} {i j : Nat} (h : Bar K p H a b v es R B i j) (s : Same H H') : Bar K p H' a b v es R B i j :=
  ⟨h.rs.same s, h.g, h.bs.same s, h.pr.keep (Keep.same s), h.hi, h.hj, h.sub, h.is_, by obtain ⟨o, ho⟩ := h.pp; exact ⟨o, s _ _ ho⟩⟩
def spBar (K : PySem.W.Frag) (z : Str) (L : Rw → (Nat → Nat → Bool) → Nat → Nat → List Pr) : Sp := fun vs H Q _ => ∃ (p a b : Addr) (v : V) (es : List V) (R : Rw) (B : Nat → Nat → Bool) (i j : Nat), vs = [.ref a, .ref b, v] ∧ Bar K p H a b v es R B i j ∧
  ∀ (r : Addr) (us : List V) (H' : Hp), Same H H' → H' r = some (.lst us) → us.length ≤ 64 → FtsAt p H' v us (wrd z (L R B i j)) → Q (.ref r) H'
abbrev slCrs : Stmt := top 30
abbrev slCol : Stmt := top 31
abbrev slLin : Stmt := top 32
section
variable {P : Program} {w : World} {K : PySem.W.Frag} {mg : Str → Option Value} {base : Heap} {C f aK : Addr} {fd : FuncData}
theorem sclCrs : FnScope ["prices", "behind", "pair", "stocks", "wishes", "s", "r"] ["prices", "behind", "pair"] (defScope slCrs) := ⟨rfl, rfl, rfl, by decide +kernel, rfl, by decide +kernel, by decide +kernel⟩
theorem ok_crs (F : Fun K "crosses" "crosses" slCrs f fd) (DS : Df P w K mg base CX0 "stocks_behind" 1 ["behind", "pair"] spStB) (DW : Df P w K mg base CX0 "wishes_behind" 1 ["behind", "pair"] spWiB) (DC : Df P w K mg base CX0 "is_cross" 1 ["prices", "pair", "cell"] (spIsCr K)) : FnOk P w K mg base CX0 2 f fd ["prices", "behind", "pair"] (spBar K "cross" crossL) := by
  refine F.ok sclCrs (fun vs H Q E h => ?_) (fun cdv A outer s H vs Q E hr h => ?_)
  · obtain ⟨p, a, b, v, es, R, B, i, j, rfl, _⟩ := h
    rfl
  · obtain ⟨p, a, b, v, es, R, B, i, j, rfl, Z, k⟩ := h
    have g8 := Z.g.h8
    have w8 := Z.g.w8
    have hi := Z.hi
    have hj := Z.hj
    refine ⟨_, (pss_cons (ps_asg (pe_tup (pa_cons (pe_df DS hr (by decide) (pa_cons (pv 1) (pa_cons (pv 2) pa_nil))) (pa_cons (pe_df DW hr (by decide) (pa_cons (pv 1) (pa_cons (pv 2) pa_nil))) pa_nil))) (pg_tup (by rfl) (pgs_cons (pg_name (i := 3) sclCrs.nd rfl (Or.inl rfl)) (pgs_cons (pg_name (i := 4) sclCrs.nd rfl (Or.inr rfl)) pgs_nil))))
  (pss_one (ps_ret (pe_lc2 (own := [("r", 6), ("s", 5)]) (vs1 := [5]) (g := gName 6) (tt := tYes) (wi1 := iList K (tVar 4)) (g1 := gName 5) (tt1 := tB (tCall (spIsCr K) [] E0 (tCons (tVar 0) (tCons (tVar 2) (tCons (tTup (tCons (tVar 6) (tCons (tVar 5) tNil))) tNil))))) (te := tTup (tCons (tC (.str "cross")) (tCons (tVar 2) (tCons (tTup (tCons (tVar 6) (tCons (tVar 5) tNil))) tNil)))) rfl sclCrs.nd (pi_list (pv 3)) (blkOk_by (own := [("r", 6), ("s", 5)]) (N := ["prices", "behind", "pair", "stocks", "wishes", "s", "r"]) (sc := defScope slCrs) (by decide +kernel)) (by decide)
    (fun _ _ _ _ _ => pg_name (i := 6) sclCrs.nd rfl (Or.inl rfl)) (fun _ _ _ _ _ => pts_nil) (fun _ _ _ _ _ => pi_list (pv 4)) (fun _ _ _ _ _ => pg_name (i := 5) sclCrs.nd rfl (Or.inl rfl))
    (fun _ _ _ _ _ => pts_one (pt_val (pe_df DC hr (by decide) (pa_cons (pv 0) (pa_cons (pv 2) (pa_cons (pe_tup (pa_cons (pv 6) (pa_cons (pv 5) pa_nil))) pa_nil)))))) (fun _ _ _ _ _ => (pe_tup (pa_cons pe_str (pa_cons (pv 2) (pa_cons (pe_tup (pa_cons (pv 6) (pa_cons (pv 5) pa_nil))) pa_nil))))))))), ?_⟩
    walk_at "rd"
    refine ⟨p, b, _, _, i, j, B, v, rfl, Z.bs, Z.pr, hi, hj, g8, w8, fun a3 H1 s1 h3 => ?_⟩
    have Z1 := Z.same s1
    walk_at "rd"
    refine ⟨p, b, _, _, i, j, B, v, rfl, Z1.bs, Z1.pr, hi, hj, g8, w8, fun a4 H2 s2 h4 => ?_⟩
    have h3 := s2 _ _ h3
    walk_at "rd"
    refine ⟨by show 2 ≤ sizeLine; decide, fun t0 n0 => ?_⟩
    have s3 := (s1.trans s2).trans (Same.up (o := .tup [V.ref a3, V.ref a4]) (Same.refl H2) n0)
    have h3 := Same.up (o := .tup [V.ref a3, V.ref a4]) (Same.refl H2) n0 _ _ h3
    have h4 := Same.up (o := .tup [V.ref a3, V.ref a4]) (Same.refl H2) n0 _ _ h4
    walk_at "rd"
    refine r_gtup ⟨t0, _, rfl, SqT.of upd_same, rfl, _, _, rfl, ?_⟩
    obtain ⟨H3, eH3⟩ : ∃ H3, H3 = upd H2 t0 (.tup [V.ref a3, V.ref a4]) := ⟨_, rfl⟩
    rw [← eH3] at s3 h3 h4 ⊢
    have Z3 := Z.same s3
    obtain ⟨sl, esl⟩ : ∃ sl, sl = stB B R.length i j := ⟨_, rfl⟩
    obtain ⟨wl, ewl⟩ : ∃ wl, wl = wiB B (wd R) i j := ⟨_, rfl⟩
    rw [← esl] at h3
    rw [← ewl] at h4
    have sl8 : sl.length ≤ 8 := by rw [esl]; exact Nat.le_trans filt_len g8
    have wl8 : wl.length ≤ 8 := by rw [ewl]; exact Nat.le_trans filt_len w8
    obtain ⟨op, hop⟩ := Z3.pp
    walk_at "rd"
    refine ⟨_, _, rfl, ?_⟩
    walk_at "rd"
    refine ⟨rfl, ?_⟩
    walk_at "rd"
    refine ⟨a3, rfl, ⟨_, SqL.of h3⟩, fun D nD => lc_any walk_list (fun m H' => Same H3 H' ∧ ∃ us, H' D = some (.lst us) ∧ us.length ≤ 8 * m ∧ FtsAt p H' v us (wrd "cross" ((sl.take m).flatMap fun r => crRow R i j r wl))) ⟨Same.up (Same.refl H3) nD, [], upd_same, Nat.zero_le _, .nil⟩ (fun m H' _ z => SqL.of (z.1 _ _ h3)) ?_ ?_⟩
    · rintro m y H4 H5 hm ⟨s4, us, hD, ul, hu⟩ ⟨rfl, ey⟩
      rw [nV_len] at hm
      obtain ⟨r, er, rfl⟩ := nV_at ey
      obtain ⟨r1, r2, r3⟩ := stB_mem (esl ▸ List.mem_of_getElem? er)
      walk_at "rd"
      refine ⟨rfl, ?_⟩
      walk_at "rd"
      refine ⟨a4, rfl, ⟨_, SqL.of (s4 _ _ h4)⟩, lc_any walk_list (fun n H' => Same H3 H' ∧ ∃ us, H' D = some (.lst us) ∧ us.length ≤ 8 * m + n ∧ FtsAt p H' v us (wrd "cross" (((sl.take m).flatMap fun r => crRow R i j r wl) ++ crRow R i j r (wl.take n)))) ⟨s4, us, hD, ul, by rw [show crRow R i j r (wl.take 0) = [] from by simp [crRow], List.append_nil]; exact hu⟩ (fun n H' _ z => SqL.of (z.1 _ _ h4)) ?_ ?_⟩
      · rintro n y2 H6 H7 hn ⟨s6, ws, hD6, wl6, hw⟩ ⟨rfl, ey2⟩
        rw [nV_len] at hn
        obtain ⟨s', es', rfl⟩ := nV_at ey2
        obtain ⟨q1, q2, q3⟩ := wiB_mem (ewl ▸ List.mem_of_getElem? es')
        have more : crRow R i j r (wl.take (n + 1)) = crRow R i j r (wl.take n) ++ (if crB R i j r s' = true then [((r : Int), (s' : Int))] else []) := by
          unfold crRow
          rw [List.take_add_one, es']
          show List.map _ (List.filter _ (_ ++ [s'])) = _
          rw [List.filter_append, List.map_append]
          congr 1
          by_cases c : crB R i j r s' = true <;> simp [c]
        walk_at "rd"
        refine ⟨rfl, ?_⟩
        walk_at "rd"
        refine ⟨by show 2 ≤ sizeLine; decide, fun t1 n1 => ?_⟩
        have s7 := s6.trans (Same.up (o := .tup [V.int (r : Int), V.int (s' : Int)]) (Same.refl H7) n1)
        have hD7 := Same.up (o := .tup [V.int (r : Int), V.int (s' : Int)]) (Same.refl H7) n1 _ _ hD6
        have t1p : t1 ≠ p := fun z => by rw [z, s6 _ _ hop] at n1; cases n1
        have Z7 := Z3.same s7
        have hw7 := hw.same (Same.up (o := .tup [V.int (r : Int), V.int (s' : Int)]) (Same.refl H7) n1)
        have pc : PrAt p (upd H7 t1 (.tup [V.int (r : Int), V.int (s' : Int)])) (.ref t1) ((r : Int), (s' : Int)) := ⟨t1, rfl, t1p, upd_same⟩
        obtain ⟨H8, eH8⟩ : ∃ H8, H8 = upd H7 t1 (.tup [V.int (r : Int), V.int (s' : Int)]) := ⟨_, rfl⟩
        rw [← eH8] at s7 hD7 Z7 hw7 pc ⊢
        walk_at "rd"
        refine ⟨p, p, a, es, R, v, _, i, j, r, s', rfl, Z7.rs, Z7.g, Z7.pr, pc, hi, hj, r1, q1, Z7.is_, Z7.sub _ _ hi q1 q3, Z7.sub _ _ r1 hj r3, ?_⟩
        walk_at "rd"
        by_cases c : crB R i j r s' = true
        · refine ifT c ?_
          walk_at "rd"
          refine ⟨by show 2 ≤ sizeLine; decide, fun t2 n2 => ?_⟩
          have u8 := Same.up (o := .tup [V.int (r : Int), V.int (s' : Int)]) (Same.refl H8) n2
          have t2p : t2 ≠ p := fun z => by rw [z, s7 _ _ hop] at n2; cases n2
          have pc2 : PrAt p (upd H8 t2 (.tup [V.int (r : Int), V.int (s' : Int)])) (.ref t2) ((r : Int), (s' : Int)) := ⟨t2, rfl, t2p, upd_same⟩
          obtain ⟨H9, eH9⟩ : ∃ H9, H9 = upd H8 t2 (.tup [V.int (r : Int), V.int (s' : Int)]) := ⟨_, rfl⟩
          rw [← eH9] at u8 pc2 ⊢
          walk_at "rd"
          refine ⟨by show 3 ≤ sizeLine; decide, fun t3 n3 => ?_⟩
          have u9 := Same.up (o := .tup [V.str "cross", v, V.ref t2]) (Same.refl H9) n3
          have hD9 := (u8.trans u9) _ _ hD7
          refine ⟨ws, hD9, Nat.lt_of_le_of_lt (show ws.length ≤ 72 by omega) (by decide), fun b' o e => ?_, ws ++ [.ref t3], upd_same, by rw [List.length_append]; show ws.length + 1 ≤ _; omega, ?_⟩
          · rw [upd_ne (fun z => by rw [z, nD] at e; cases e)]
            exact ((s7.trans u8).trans u9) _ _ e
          · have kD : ∀ t xs, (upd H9 t3 (.tup [V.str "cross", v, V.ref t2])) t = some (.tup xs) → (upd (upd H9 t3 (.tup [V.str "cross", v, V.ref t2])) D (.lst (ws ++ [V.ref t3]))) t = some (.tup xs) := fun t xs e => by
              rw [upd_ne (fun z => by rw [z, hD9] at e; cases e)]
              exact e
            rw [more, if_pos c, ← List.append_assoc, wrd_app]
            refine FtsAt.keepT (.app (hw7.same (u8.trans u9)) (.cons ⟨t3, .ref t2, rfl, upd_same, ?_⟩ .nil)) kD
            exact pc2.keep (Keep.same u9)
        · refine ifF (Bool.eq_false_iff.mpr c) ?_
          refine ⟨s7, ws, hD7, by omega, ?_⟩
          rw [more, if_neg c, List.append_nil]
          exact hw7
      · rintro H6 ⟨s6, ws, hD6, wl6, hw⟩
        rw [nV_len] at wl6 hw
        refine ⟨s6, ws, hD6, by omega, ?_⟩
        rw [List.take_add_one, er]
        show FtsAt p H6 v ws (wrd "cross" (List.flatMap _ (_ ++ [r])))
        rw [List.flatMap_append]
        rw [List.take_length] at hw
        simpa using hw
    · rintro H4 ⟨s4, us, hD, ul, hu⟩
      rw [nV_len] at ul hu
      rw [List.take_length] at hu
      refine k D us H4 (s3.trans s4) hD (by omega) ?_
      rw [crossL, ← esl, ← ewl]
      exact hu
theorem sclCol : FnScope ["prices", "behind", "pair", "i", "j", "r"] ["prices", "behind", "pair"] (defScope slCol) := ⟨rfl, rfl, rfl, by decide +kernel, rfl, by decide +kernel, by decide +kernel⟩
theorem ok_col (F : Fun K "columns" "columns" slCol f fd) (DS : Df P w K mg base CX0 "stocks_behind" 1 ["behind", "pair"] spStB) : FnOk P w K mg base CX0 2 f fd ["prices", "behind", "pair"] (spBar K "column" colL) := by
  refine F.ok sclCol (fun vs H Q E h => ?_) (fun cdv A outer s H vs Q E hr h => ?_)
  · obtain ⟨p, a, b, v, es, R, B, i, j, rfl, _⟩ := h
    rfl
  · obtain ⟨p, a, b, v, es, R, B, i, j, rfl, Z, k⟩ := h
    have g8 := Z.g.h8
    have w8 := Z.g.w8
    have hi := Z.hi
    have hj := Z.hj
    refine ⟨_, (pss_cons (ps_asg (pv 2) (pg_tup (by rfl) (pgs_cons (pg_name (i := 3) sclCol.nd rfl (Or.inr rfl)) (pgs_cons (pg_name (i := 4) sclCol.nd rfl (Or.inr rfl)) pgs_nil))))
  (pss_one (ps_ret (pe_lc (own := [("r", 5)]) (g := gName 5) rfl sclCol.nd (pi_list (pe_df DS hr (by decide) (pa_cons (pv 1) (pa_cons (pv 2) pa_nil)))) (blkOk_by (own := [("r", 5)]) (N := ["prices", "behind", "pair", "i", "j", "r"]) (sc := defScope slCol) (by decide +kernel)) (fun _ _ _ _ _ => pg_name (i := 5) sclCol.nd rfl (Or.inl rfl))
    (fun _ _ _ _ _ => pts_one (pt_cmpR op_gt (pe_ix (r := rIxL K) ix_list (pe_ix (r := rIxL K) ix_list (pv 0) (pv 3) (fun _ _ => rfl)) (pv 4) (fun _ _ => rfl)) (pe_ix (r := rIxL K) ix_list (pe_ix (r := rIxL K) ix_list (pv 0) (pv 5) (fun _ _ => rfl)) (pv 4) (fun _ _ => rfl)) (nomark _))) (fun _ _ _ _ _ => (pe_tup (pa_cons pe_str (pa_cons (pv 2) (pa_cons (pe_tup (pa_cons (pv 5) (pa_cons (pv 4) pa_nil))) pa_nil))))))))), ?_⟩
    obtain ⟨t, ev, tp, ht⟩ := id Z.pr
    subst ev
    obtain ⟨ai, eai, hai⟩ := Z.rs.get hi
    walk_at "rd"
    refine r_gtup ⟨t, _, rfl, SqT.of ht, rfl, _, _, rfl, ?_⟩
    walk_at "rd"
    refine ⟨_, _, rfl, ?_⟩
    walk_at "rd"
    refine ⟨rfl, ?_⟩
    walk_at "rd"
    refine ⟨p, b, _, _, i, j, B, .ref t, rfl, Z.bs, Z.pr, hi, hj, g8, w8, fun a3 H3 s3 h3 => ?_⟩
    have Z3 := Z.same s3
    obtain ⟨sl, esl⟩ : ∃ sl, sl = stB B R.length i j := ⟨_, rfl⟩
    rw [← esl] at h3
    have sl8 : sl.length ≤ 8 := by rw [esl]; exact Nat.le_trans filt_len g8
    obtain ⟨op, hop⟩ := Z3.pp
    walk_at "rd"
    refine ⟨a3, rfl, ⟨_, SqL.of h3⟩, fun D nD => lc_it walk_list (fun m H' => Same H3 H' ∧ ∃ us, H' D = some (.lst us) ∧ us.length ≤ m ∧ FtsAt p H' (.ref t) us (wrd "column" (((sl.take m).filter fun r => decide (val R r j < val R i j)).map fun (r : Nat) => ((r : Int), (j : Int))))) ⟨Same.up (Same.refl H3) nD, [], upd_same, Nat.zero_le _, .nil⟩ (fun m H' _ z => SqL.of (z.1 _ _ h3)) ?_ ?_⟩
    · rintro m y H4 H5 hm ⟨s4, us, hD, ul, hu⟩ ⟨rfl, ey⟩
      rw [nV_len] at hm
      obtain ⟨r, er, rfl⟩ := nV_at ey
      obtain ⟨r1, r2, r3⟩ := stB_mem (esl ▸ List.mem_of_getElem? er)
      have more : ((sl.take (m + 1)).filter fun r => decide (val R r j < val R i j)).map (fun (r : Nat) => ((r : Int), (j : Int))) = ((sl.take m).filter fun r => decide (val R r j < val R i j)).map (fun (r : Nat) => ((r : Int), (j : Int))) ++ (if decide (val R r j < val R i j) = true then [((r : Int), (j : Int))] else []) := by
        rw [List.take_add_one, er]
        show List.map _ (List.filter _ (_ ++ [r])) = _
        rw [List.filter_append, List.map_append]
        congr 1
        by_cases c : val R r j < val R i j <;> simp [c]
      have Z5 := Z3.same s4
      obtain ⟨ar, ear, har⟩ := Z5.rs.get r1
      have s35 := s3.trans s4
      walk_at "rd"
      refine ⟨rfl, ?_⟩
      walk_at "rd"
      refine r_ixL Z5.rs.at_ (atI_nat eai) ?_
      walk_at "rd"
      refine r_ixL (s35.seq hai) (atI_nat (prc_get Z.g hi hj)) ?_
      rw [val_of Z.is_]
      walk_at "rd"
      refine r_ixL Z5.rs.at_ (atI_nat ear) ?_
      walk_at "rd"
      refine r_ixL har (atI_nat (prc_get Z.g r1 hj)) ?_
      rw [val_of (Z.sub _ _ r1 hj r3)]
      walk_at "rd"
      rw [more]
      by_cases c : val R r j < val R i j
      · refine ifT (decide_eq_true c) ?_
        rw [if_pos (decide_eq_true c)]
        walk_at "rd"
        refine ⟨by show 2 ≤ sizeLine; decide, fun t2 n2 => ?_⟩
        have u8 := Same.up (o := .tup [V.int (r : Int), V.int (j : Int)]) (Same.refl H5) n2
        have t2p : t2 ≠ p := fun z => by rw [z, s4 _ _ hop] at n2; cases n2
        have pc2 : PrAt p (upd H5 t2 (.tup [V.int (r : Int), V.int (j : Int)])) (.ref t2) ((r : Int), (j : Int)) := ⟨t2, rfl, t2p, upd_same⟩
        obtain ⟨H9, eH9⟩ : ∃ H9, H9 = upd H5 t2 (.tup [V.int (r : Int), V.int (j : Int)]) := ⟨_, rfl⟩
        rw [← eH9] at u8 pc2 ⊢
        walk_at "rd"
        refine ⟨by show 3 ≤ sizeLine; decide, fun t3 n3 => ?_⟩
        have u9 := Same.up (o := .tup [V.str "column", V.ref t, V.ref t2]) (Same.refl H9) n3
        have hD9 := (u8.trans u9) _ _ hD
        refine ⟨us, hD9, Nat.lt_of_le_of_lt (show us.length ≤ 72 by omega) (by decide), fun b' o e => ?_, us ++ [.ref t3], upd_same, by rw [List.length_append]; show us.length + 1 ≤ _; omega, ?_⟩
        · rw [upd_ne (fun z => by rw [z, nD] at e; cases e)]
          exact ((s4.trans u8).trans u9) _ _ e
        · have kD : ∀ t' xs, (upd H9 t3 (.tup [V.str "column", V.ref t, V.ref t2])) t' = some (.tup xs) → (upd (upd H9 t3 (.tup [V.str "column", V.ref t, V.ref t2])) D (.lst (us ++ [V.ref t3]))) t' = some (.tup xs) := fun t' xs e => by
            rw [upd_ne (fun z => by rw [z, hD9] at e; cases e)]
            exact e
          rw [wrd_app]
          refine FtsAt.keepT (.app (hu.same (u8.trans u9)) (.cons ⟨t3, .ref t2, rfl, upd_same, ?_⟩ .nil)) kD
          exact pc2.keep (Keep.same u9)
      · refine ifF (decide_eq_false c) ?_
        rw [if_neg (by rw [decide_eq_false c]; decide), List.append_nil]
        exact ⟨s4, us, hD, by omega, hu⟩
    · rintro H4 ⟨s4, us, hD, ul, hu⟩
      rw [nV_len] at ul hu
      rw [List.take_length] at hu
      refine k D us H4 (s3.trans s4) hD (by omega) ?_
      rw [colL, ← esl]
      exact hu
theorem sclLin : FnScope ["prices", "behind", "pair", "i", "j", "s"] ["prices", "behind", "pair"] (defScope slLin) := ⟨rfl, rfl, rfl, by decide +kernel, rfl, by decide +kernel, by decide +kernel⟩
theorem ok_lin (F : Fun K "lines" "lines" slLin f fd) (DW : Df P w K mg base CX0 "wishes_behind" 1 ["behind", "pair"] spWiB) : FnOk P w K mg base CX0 2 f fd ["prices", "behind", "pair"] (spBar K "row" rowL) := by
  refine F.ok sclLin (fun vs H Q E h => ?_) (fun cdv A outer s H vs Q E hr h => ?_)
  · obtain ⟨p, a, b, v, es, R, B, i, j, rfl, _⟩ := h
    rfl
  · obtain ⟨p, a, b, v, es, R, B, i, j, rfl, Z, k⟩ := h
    have g8 := Z.g.h8
    have w8 := Z.g.w8
    have hi := Z.hi
    have hj := Z.hj
    refine ⟨_, (pss_cons (ps_asg (pv 2) (pg_tup (by rfl) (pgs_cons (pg_name (i := 3) sclLin.nd rfl (Or.inr rfl)) (pgs_cons (pg_name (i := 4) sclLin.nd rfl (Or.inr rfl)) pgs_nil))))
  (pss_one (ps_ret (pe_lc (own := [("s", 5)]) (g := gName 5) rfl sclLin.nd (pi_list (pe_df DW hr (by decide) (pa_cons (pv 1) (pa_cons (pv 2) pa_nil)))) (blkOk_by (own := [("s", 5)]) (N := ["prices", "behind", "pair", "i", "j", "s"]) (sc := defScope slLin) (by decide +kernel)) (fun _ _ _ _ _ => pg_name (i := 5) sclLin.nd rfl (Or.inl rfl))
    (fun _ _ _ _ _ => pts_one (pt_cmpR op_gt (pe_ix (r := rIxL K) ix_list (pe_ix (r := rIxL K) ix_list (pv 0) (pv 3) (fun _ _ => rfl)) (pv 4) (fun _ _ => rfl)) (pe_ix (r := rIxL K) ix_list (pe_ix (r := rIxL K) ix_list (pv 0) (pv 3) (fun _ _ => rfl)) (pv 5) (fun _ _ => rfl)) (nomark _))) (fun _ _ _ _ _ => (pe_tup (pa_cons pe_str (pa_cons (pv 2) (pa_cons (pe_tup (pa_cons (pv 3) (pa_cons (pv 5) pa_nil))) pa_nil))))))))), ?_⟩
    obtain ⟨t, ev, tp, ht⟩ := id Z.pr
    subst ev
    obtain ⟨ai, eai, hai⟩ := Z.rs.get hi
    walk_at "rd"
    refine r_gtup ⟨t, _, rfl, SqT.of ht, rfl, _, _, rfl, ?_⟩
    walk_at "rd"
    refine ⟨_, _, rfl, ?_⟩
    walk_at "rd"
    refine ⟨rfl, ?_⟩
    walk_at "rd"
    refine ⟨p, b, _, _, i, j, B, .ref t, rfl, Z.bs, Z.pr, hi, hj, g8, w8, fun a3 H3 s3 h3 => ?_⟩
    have Z3 := Z.same s3
    obtain ⟨sl, esl⟩ : ∃ sl, sl = wiB B (wd R) i j := ⟨_, rfl⟩
    rw [← esl] at h3
    have sl8 : sl.length ≤ 8 := by rw [esl]; exact Nat.le_trans filt_len w8
    obtain ⟨op, hop⟩ := Z3.pp
    walk_at "rd"
    refine ⟨a3, rfl, ⟨_, SqL.of h3⟩, fun D nD => lc_it walk_list (fun m H' => Same H3 H' ∧ ∃ us, H' D = some (.lst us) ∧ us.length ≤ m ∧ FtsAt p H' (.ref t) us (wrd "row" (((sl.take m).filter fun s => decide (val R i s < val R i j)).map fun (s : Nat) => ((i : Int), (s : Int))))) ⟨Same.up (Same.refl H3) nD, [], upd_same, Nat.zero_le _, .nil⟩ (fun m H' _ z => SqL.of (z.1 _ _ h3)) ?_ ?_⟩
    · rintro m y H4 H5 hm ⟨s4, us, hD, ul, hu⟩ ⟨rfl, ey⟩
      rw [nV_len] at hm
      obtain ⟨r, er, rfl⟩ := nV_at ey
      obtain ⟨r1, r2, r3⟩ := wiB_mem (esl ▸ List.mem_of_getElem? er)
      have more : ((sl.take (m + 1)).filter fun s => decide (val R i s < val R i j)).map (fun (s : Nat) => ((i : Int), (s : Int))) = ((sl.take m).filter fun s => decide (val R i s < val R i j)).map (fun (s : Nat) => ((i : Int), (s : Int))) ++ (if decide (val R i r < val R i j) = true then [((i : Int), (r : Int))] else []) := by
        rw [List.take_add_one, er]
        show List.map _ (List.filter _ (_ ++ [r])) = _
        rw [List.filter_append, List.map_append]
        congr 1
        by_cases c : val R i r < val R i j <;> simp [c]
      have Z5 := Z3.same s4
      have s35 := s3.trans s4
      walk_at "rd"
      refine ⟨rfl, ?_⟩
      walk_at "rd"
      refine r_ixL Z5.rs.at_ (atI_nat eai) ?_
      walk_at "rd"
      refine r_ixL (s35.seq hai) (atI_nat (prc_get Z.g hi hj)) ?_
      rw [val_of Z.is_]
      walk_at "rd"
      refine r_ixL Z5.rs.at_ (atI_nat eai) ?_
      walk_at "rd"
      refine r_ixL (s35.seq hai) (atI_nat (prc_get Z.g hi r1)) ?_
      rw [val_of (Z.sub _ _ hi r1 r3)]
      walk_at "rd"
      rw [more]
      by_cases c : val R i r < val R i j
      · refine ifT (decide_eq_true c) ?_
        rw [if_pos (decide_eq_true c)]
        walk_at "rd"
        refine ⟨by show 2 ≤ sizeLine; decide, fun t2 n2 => ?_⟩
        have u8 := Same.up (o := .tup [V.int (i : Int), V.int (r : Int)]) (Same.refl H5) n2
        have t2p : t2 ≠ p := fun z => by rw [z, s4 _ _ hop] at n2; cases n2
        have pc2 : PrAt p (upd H5 t2 (.tup [V.int (i : Int), V.int (r : Int)])) (.ref t2) ((i : Int), (r : Int)) := ⟨t2, rfl, t2p, upd_same⟩
        obtain ⟨H9, eH9⟩ : ∃ H9, H9 = upd H5 t2 (.tup [V.int (i : Int), V.int (r : Int)]) := ⟨_, rfl⟩
        rw [← eH9] at u8 pc2 ⊢
        walk_at "rd"
        refine ⟨by show 3 ≤ sizeLine; decide, fun t3 n3 => ?_⟩
        have u9 := Same.up (o := .tup [V.str "row", V.ref t, V.ref t2]) (Same.refl H9) n3
        have hD9 := (u8.trans u9) _ _ hD
        refine ⟨us, hD9, Nat.lt_of_le_of_lt (show us.length ≤ 72 by omega) (by decide), fun b' o e => ?_, us ++ [.ref t3], upd_same, by rw [List.length_append]; show us.length + 1 ≤ _; omega, ?_⟩
        · rw [upd_ne (fun z => by rw [z, nD] at e; cases e)]
          exact ((s4.trans u8).trans u9) _ _ e
        · have kD : ∀ t' xs, (upd H9 t3 (.tup [V.str "row", V.ref t, V.ref t2])) t' = some (.tup xs) → (upd (upd H9 t3 (.tup [V.str "row", V.ref t, V.ref t2])) D (.lst (us ++ [V.ref t3]))) t' = some (.tup xs) := fun t' xs e => by
            rw [upd_ne (fun z => by rw [z, hD9] at e; cases e)]
            exact e
          rw [wrd_app]
          refine FtsAt.keepT (.app (hu.same (u8.trans u9)) (.cons ⟨t3, .ref t2, rfl, upd_same, ?_⟩ .nil)) kD
          exact pc2.keep (Keep.same u9)
      · refine ifF (decide_eq_false c) ?_
        rw [if_neg (by rw [decide_eq_false c]; decide), List.append_nil]
        exact ⟨s4, us, hD, by omega, hu⟩
    · rintro H4 ⟨s4, us, hD, ul, hu⟩
      rw [nV_len] at ul hu
      rw [List.take_length] at hu
      refine k D us H4 (s3.trans s4) hD (by omega) ?_
      rw [rowL, ← esl]
      exact hu
end
end Pk
set_option Elab.async false
set_option linter.all false
set_option maxRecDepth 100000
set_option maxHeartbeats 4000000
namespace Pk
open PySem L2
local macro_rules | `(tactic| walk_at "rd") => `(tactic| repeat (first
  | with_reducible refine r_seq ?_ | with_reducible refine r_nxt ?_ | with_reducible refine r_asg ?_ | with_reducible refine r_to ?_ | with_reducible refine r_ret ?_ | with_reducible refine r_for ?_ | with_reducible refine r_lc ?_ | with_reducible refine r_lc2 ?_ | with_reducible refine r_rng1 ?_ | with_reducible refine r_list ?_ | with_reducible refine r_tupI ?_ | with_reducible refine r_drop ?_ | with_reducible refine r_ifs ?_
  | with_reducible refine r_op ?_ | with_reducible refine r_c ?_ | with_reducible refine r_var rfl ?_ | with_reducible refine r_var (by assumption) ?_ | with_reducible refine r_I0 ?_ | with_reducible refine r_un ?_ | with_reducible refine r_U ?_ | with_reducible refine r_make ?_ | with_reducible refine r_makeS ?_ | with_reducible refine r_ifE ?_ | with_reducible refine r_cm ?_ | with_reducible refine r_mkV rfl ?_ | with_reducible refine r_sub ?_
  | with_reducible refine r_nil ?_ | with_reducible refine r_cons ?_ | with_reducible refine r_cb ?_ | with_reducible refine r_sl ?_ | with_reducible refine r_noP ?_ | with_reducible refine r_part ?_ | with_reducible refine r_isI ?_ | with_reducible refine r_lst ?_ | with_reducible refine r_tup ?_ | with_reducible refine r_call ?_ | with_reducible refine r_callS ?_ | with_reducible refine r_sFldU ?_ | with_reducible refine r_chain ?_ | with_reducible refine r_enum ?_ | with_reducible refine r_zip ?_ | with_reducible refine r_rng3 ?_ | with_reducible refine r_gtup ?_ | with_reducible refine r_methU ?_
  | with_reducible refine r_test ?_ | with_reducible refine r_B ?_ | with_reducible refine r_and ?_ | with_reducible refine r_or ?_ | with_reducible refine r_not ?_ | with_reducible refine r_andV ?_ | with_reducible refine r_orV ?_ | with_reducible refine r_notV ?_ | with_reducible refine r_bl ?_ | with_reducible refine r_yes ?_ | with_reducible refine r_int ?_ | with_reducible refine r_is0 ?_ | with_reducible refine r_is1 ?_ | with_reducible refine iteT ?_ | with_reducible refine iteF ?_ | with_reducible refine ite_nF ?_ | with_reducible refine ite_nT ?_
  | with_reducible refine r_mod (by decide) ?_ | with_reducible refine r_div (by decide) (by decide) ?_ | with_reducible refine r_mulR (by decide) (by decide) ?_ | with_reducible refine r_mulL (by decide) (by decide) ?_ | with_reducible refine r_pow (by decide) (by decide) (by decide) ?_))
/-! ### the bars of a pair; placed pairs -/
def fauL (R : Rw) (B : Nat → Nat → Bool) (i j : Nat) (k : Str) : List (Str × Pr) := (wrd "cross" (crossL R B i j) ++ (if hasC k = true then wrd "column" (colL R B i j) else [])) ++ (if hasR k = true then wrd "row" (rowL R B i j) else [])
def spFau (K : PySem.W.Frag) : Sp := fun vs H Q _ => ∃ (p a b : Addr) (v : V) (es : List V) (R : Rw) (B : Nat → Nat → Bool) (i j : Nat) (z : Str), vs = [.ref a, .ref b, v, .str z] ∧ Bar K p H a b v es R B i j ∧
  ∀ (r : Addr) (us : List V) (H' : Hp), Same H H' → H' r = some (.lst us) → us.length ≤ 200 → FtsAt p H' v us (fauL R B i j z) → Q (.ref r) H'
/-- placed pairs, all good -/
structure PlG (p C : Addr) (H : Hp) (x a : Addr) (G : Hp) (R : Rw) (us : List V) (zs : List Pr) : Prop where
  t : TbX C G x R
  s : Same G H
  off : G p = none
  pp : ∃ o, H p = some o
  at_ : H a = some (.lst us)
  pr : PrsAt p H us zs
  nd : zs.Nodup
  sub : ∀ z, z ∈ zs → z ∈ cells R
theorem PlG.same {p C : Addr} {H H' : Hp} {x a : Addr} {G : Hp} {R : Rw} {us : List V} {zs : List Pr} (h : PlG p C H x a G R us zs) (s : Same H H') : PlG p C H' x a G R us zs :=
  ⟨h.t, h.s.trans s, h.off, by obtain ⟨o, ho⟩ := h.pp; exact ⟨o, s _ _ ho⟩, s _ _ h.at_, h.pr.keep (Keep.same s), h.nd, h.sub⟩
theorem cells_nat {R : Rw} {z : Pr} (h : z ∈ cells R) : ∃ i j : Nat, z = ((i : Int), (j : Int)) ∧ i < R.length ∧ j < wd R ∧ (prc R i j).isSome = true := by
  unfold cells at h
  rw [List.mem_flatMap] at h
  obtain ⟨i, hi, h⟩ := h
  obtain ⟨j, hj, rfl⟩ := List.mem_map.mp h
  rw [List.mem_filter, List.mem_range] at hj
  exact ⟨i, j, rfl, List.mem_range.mp hi, hj.1, hj.2⟩
theorem cells_len {R : Rw} (g : Gt R) : (cells R).length ≤ 64 := by
  have h1 := cpre_len R R.length
  have h2 : R.length * wd R ≤ 8 * 8 := Nat.mul_le_mul g.h8 g.w8
  exact Nat.le_trans h1 h2
theorem crow_nodup (R : Rw) (i n : Nat) : (crow R i n).Nodup := by
  unfold crow
  refine List.Pairwise.map _ ?_ (List.Pairwise.filter _ List.nodup_range)
  intro a b n e
  have := (Prod.mk.inj e).2
  omega
theorem cells_nodup (R : Rw) : (cells R).Nodup := by
  have : ∀ n, (cpre R n).Nodup := by
    intro n
    induction n with
    | zero => exact List.nodup_nil
    | succ n ih =>
      rw [cpre_more, List.nodup_append]
      refine ⟨ih, crow_nodup R n _, fun a ha b hb e => ?_⟩
      subst e
      unfold cpre at ha
      rw [List.mem_flatMap] at ha
      obtain ⟨i, hi, h⟩ := ha
      unfold crow at h hb
      obtain ⟨j, _, rfl⟩ := List.mem_map.mp h
      obtain ⟨j', _, e2⟩ := List.mem_map.mp hb
      have := (Prod.mk.inj e2).1
      have := List.mem_range.mp hi
      omega
  exact this R.length
def spFw (C : Addr) : Sp := fun vs H Q _ => ∃ (p x a : Addr) (G : Hp) (R : Rw) (us : List V) (zs : List Pr), vs = [.ref x, .ref a] ∧ PlG p C H x a G R us zs ∧ ∀ H' : Hp, Same H H' → Q .non H'
/-- the pairs that are not placed -/
def freeL (R : Rw) (zs : List Pr) : List Pr := (cells R).filter fun z => !decide (z ∈ zs)
def spNot (C : Addr) : Sp := fun vs H Q _ => ∃ (p x a : Addr) (G : Hp) (R : Rw) (us : List V) (zs : List Pr), vs = [.ref x, .ref a] ∧ PlG p C H x a G R us zs ∧ ∀ (r : Addr) (ws : List V) (H' : Hp), Same H H' → H' r = some (.lst ws) → PrsAt p H' ws (freeL R zs) → Q (.ref r) H'
abbrev slFau : Stmt := top 35
section
variable {P : Program} {w : World} {K : PySem.W.Frag} {mg : Str → Option Value} {base : Heap} {C f aK : Addr} {fd : FuncData}
theorem sclFau : FnScope ["prices", "behind", "pair", "kind", "found"] ["prices", "behind", "pair", "kind"] (defScope slFau) := ⟨rfl, rfl, rfl, by decide +kernel, rfl, by decide +kernel, by decide +kernel⟩
theorem ok_fau (F : Fun K "faults_of" "faults_of" slFau f fd) (DX : Df P w K mg base CX0 "crosses" 2 ["prices", "behind", "pair"] (spBar K "cross" crossL)) (DC : Df P w K mg base CX0 "columns" 2 ["prices", "behind", "pair"] (spBar K "column" colL)) (DL : Df P w K mg base CX0 "lines" 2 ["prices", "behind", "pair"] (spBar K "row" rowL)) (HC : Df P w K mg base CX0 "has_columns" 1 ["kind"] (spHasK hasC)) (HR : Df P w K mg base CX0 "has_rows" 1 ["kind"] (spHasK hasR)) :
    FnOk P w K mg base CX0 3 f fd ["prices", "behind", "pair", "kind"] (spFau K) := by
  refine F.ok sclFau (fun vs H Q E h => ?_) (fun cdv A outer s H vs Q E hr h => ?_)
  · obtain ⟨p, a, b, v, es, R, B, i, j, z, rfl, _⟩ := h
    rfl
  · obtain ⟨p, a, b, v, es, R, B, i, j, z, rfl, Z, k⟩ := h
    refine ⟨_, (pss_cons (ps_set (i := 4) sclFau.nd rfl (Or.inl rfl) (pe_df DX hr (by decide) (pa_cons (pv 0) (pa_cons (pv 1) (pa_cons (pv 2) pa_nil)))))
  (C8.pss_cut (ps_if (pt_val (pe_df HC hr (by decide) (pa_cons (pv 3) pa_nil))) (pss_one (ps_set (i := 4) sclFau.nd rfl (Or.inl rfl) (pe_op op_cat (pv 4) (pe_df DC hr (by decide) (pa_cons (pv 0) (pa_cons (pv 1) (pa_cons (pv 2) pa_nil))))))) pss_nil)
  (C8.pss_cut (ps_if (pt_val (pe_df HR hr (by decide) (pa_cons (pv 3) pa_nil))) (pss_one (ps_set (i := 4) sclFau.nd rfl (Or.inl rfl) (pe_op op_cat (pv 4) (pe_df DL hr (by decide) (pa_cons (pv 0) (pa_cons (pv 1) (pa_cons (pv 2) pa_nil))))))) pss_nil)
  (pss_one (ps_ret (pv 4)))))), ?_⟩
    walk_at "rd"
    refine ⟨p, a, b, v, es, R, B, i, j, rfl, Z, fun r1 us1 H1 s1 h1 l1 f1 => ?_⟩
    have Z1 := Z.same s1
    walk_at "rd"
    refine r_cut (fun σ' H' => ∃ r us, σ' = [some (.ref a), some (.ref b), some v, some (.str z), some (.ref r)] ∧ Same H H' ∧ H' r = some (.lst us) ∧ us.length ≤ 128 ∧ FtsAt p H' v us (wrd "cross" (crossL R B i j) ++ (if hasC z = true then wrd "column" (colL R B i j) else []))) ?_ ?_
    · walk_at "rd"
      refine ⟨z, rfl, ?_⟩
      walk_at "rd"
      by_cases c : hasC z = true
      · refine ifT c ?_
        rw [if_pos c]
        walk_at "rd"
        refine ⟨p, a, b, v, es, R, B, i, j, rfl, Z1, fun r2 us2 H2 s2 h2 l2 f2 => ?_⟩
        refine r_cat (s2 _ _ h1) h2 (Nat.le_trans (show us1.length + us2.length ≤ 128 by omega) (by decide)) fun q nq => ?_
        have s3 := Same.up (o := .lst (us1 ++ us2)) (Same.refl H2) nq
        walk_at "rd"
        exact ⟨q, _, rfl, (s1.trans s2).trans s3, upd_same, by rw [List.length_append]; omega, ((f1.same s2).same s3).app (f2.same s3)⟩
      · refine ifF (Bool.eq_false_iff.mpr c) ?_
        rw [if_neg c, List.append_nil]
        exact ⟨r1, us1, rfl, s1, h1, by omega, f1⟩
    · rintro σ' H2 ⟨r2, us2, rfl, s2, h2, l2, f2⟩
      have Z2 := Z.same s2
      walk_at "rd"
      refine r_cut (fun σ' H' => ∃ r us, σ' = [some (.ref a), some (.ref b), some v, some (.str z), some (.ref r)] ∧ Same H H' ∧ H' r = some (.lst us) ∧ us.length ≤ 200 ∧ FtsAt p H' v us (fauL R B i j z)) ?_ ?_
      · walk_at "rd"
        refine ⟨z, rfl, ?_⟩
        walk_at "rd"
        unfold fauL
        by_cases c : hasR z = true
        · refine ifT c ?_
          rw [if_pos c]
          walk_at "rd"
          refine ⟨p, a, b, v, es, R, B, i, j, rfl, Z2, fun r3 us3 H3 s3 h3 l3 f3 => ?_⟩
          refine r_cat (s3 _ _ h2) h3 (Nat.le_trans (show us2.length + us3.length ≤ 192 by omega) (by decide)) fun q nq => ?_
          have s4 := Same.up (o := .lst (us2 ++ us3)) (Same.refl H3) nq
          walk_at "rd"
          exact ⟨q, _, rfl, (s2.trans s3).trans s4, upd_same, by rw [List.length_append]; omega, ((f2.same s3).same s4).app (f3.same s4)⟩
        · refine ifF (Bool.eq_false_iff.mpr c) ?_
          rw [if_neg c, List.append_nil]
          exact ⟨r2, us2, rfl, s2, h2, by omega, f2⟩
      · rintro σ' H3 ⟨r3, us3, rfl, s3, h3, l3, f3⟩
        walk_at "rd"
        exact k r3 us3 H3 s3 h3 l3 f3
end
end Pk
set_option Elab.async false
set_option linter.all false
set_option maxRecDepth 100000
set_option maxHeartbeats 4000000
namespace Pk
open PySem L2
local macro_rules | `(tactic| walk_at "rd") => `(tactic| repeat (first
  | with_reducible refine r_seq ?_ | with_reducible refine r_nxt ?_ | with_reducible refine r_asg ?_ | with_reducible refine r_to ?_ | with_reducible refine r_ret ?_ | with_reducible refine r_for ?_ | with_reducible refine r_lc ?_ | with_reducible refine r_lc2 ?_ | with_reducible refine r_rng1 ?_ | with_reducible refine r_list ?_ | with_reducible refine r_tupI ?_ | with_reducible refine r_drop ?_ | with_reducible refine r_ifs ?_
  | with_reducible refine r_op ?_ | with_reducible refine r_c ?_ | with_reducible refine r_var rfl ?_ | with_reducible refine r_var (by assumption) ?_ | with_reducible refine r_I0 ?_ | with_reducible refine r_un ?_ | with_reducible refine r_U ?_ | with_reducible refine r_make ?_ | with_reducible refine r_makeS ?_ | with_reducible refine r_ifE ?_ | with_reducible refine r_cm ?_ | with_reducible refine r_mkV rfl ?_ | with_reducible refine r_sub ?_
  | with_reducible refine r_nil ?_ | with_reducible refine r_cons ?_ | with_reducible refine r_cb ?_ | with_reducible refine r_sl ?_ | with_reducible refine r_noP ?_ | with_reducible refine r_part ?_ | with_reducible refine r_isI ?_ | with_reducible refine r_lst ?_ | with_reducible refine r_tup ?_ | with_reducible refine r_call ?_ | with_reducible refine r_callS ?_ | with_reducible refine r_sFldU ?_ | with_reducible refine r_chain ?_ | with_reducible refine r_enum ?_ | with_reducible refine r_zip ?_ | with_reducible refine r_rng3 ?_ | with_reducible refine r_gtup ?_ | with_reducible refine r_methU ?_
  | with_reducible refine r_test ?_ | with_reducible refine r_B ?_ | with_reducible refine r_and ?_ | with_reducible refine r_or ?_ | with_reducible refine r_not ?_ | with_reducible refine r_andV ?_ | with_reducible refine r_orV ?_ | with_reducible refine r_notV ?_ | with_reducible refine r_bl ?_ | with_reducible refine r_yes ?_ | with_reducible refine r_int ?_ | with_reducible refine r_is0 ?_ | with_reducible refine r_is1 ?_ | with_reducible refine iteT ?_ | with_reducible refine iteF ?_ | with_reducible refine ite_nF ?_ | with_reducible refine ite_nT ?_
  | with_reducible refine r_mod (by decide) ?_ | with_reducible refine r_div (by decide) (by decide) ?_ | with_reducible refine r_mulR (by decide) (by decide) ?_ | with_reducible refine r_mulL (by decide) (by decide) ?_ | with_reducible refine r_pow (by decide) (by decide) (by decide) ?_))
/-! ### class Order, where what is handed in is good -/
def Rg (z : Pr) : Prop := 0 ≤ z.1 ∧ z.1 < 8 ∧ 0 ≤ z.2 ∧ z.2 < 8
structure Gp (zs : List Pr) : Prop where
  nd : zs.Nodup
  rg : ∀ z, z ∈ zs → Rg z
  len : zs.length ≤ 64
structure OrX (p C : Addr) (H : Hp) (x dx q : Addr) (zs : List Pr) : Prop where
  ne : x ≠ p
  o : H x = some (.ins C dx [("sequence", .ref q)])
  l : PL p H q zs
theorem OrX.keep {p C : Addr} {H H' : Hp} {x dx q : Addr} {zs : List Pr} (a : OrX p C H x dx q zs) (s : Keep p H H') : OrX p C H' x dx q zs := ⟨a.ne, s _ _ a.ne a.o, a.l.keep s⟩
theorem OrX.same {p C : Addr} {H H' : Hp} {x dx q : Addr} {zs : List Pr} (a : OrX p C H x dx q zs) (s : Same H H') : OrX p C H' x dx q zs := a.keep (Keep.same s)
theorem not_before {zs : List Pr} {z : Pr} {i : Nat} (nd : zs.Nodup) (h : zs[i]? = some z) : z ∉ zs.take i := by
  intro m
  obtain ⟨j, hj, e⟩ := List.getElem_of_mem m
  rw [List.length_take] at hj
  rw [List.getElem_take] at e
  obtain ⟨hi, e2⟩ := List.getElem?_eq_some_iff.mp h
  have := (List.pairwise_iff_getElem.mp nd) j i (by omega) hi (by omega)
  exact this (by rw [e, e2])
def ordD : PyData → Bool
  | .tuple [.int a, .int b] => decide (0 ≤ a) && decide (a < 8) && decide (0 ≤ b) && decide (b < 8)
  | _ => false
theorem notL {d : PyData} (h : ¬ isLD d = true) (P : PyData → Prop) (g : ∀ e, isLD e = false → P e) : P d := g d (Bool.eq_false_iff.mpr h)
theorem ordD_no {d : PyData} (h : twoD d = false) : ordD d = false := by
  unfold ordD
  split
  · rename_i a b
    exact absurd (show twoD (.tuple [.int a, .int b]) = true from rfl) (by rw [h]; decide)
  · rfl
def badAt (ds : List PyData) (k : Nat) : Bool := !ordD (ds.getD k .none) || (ds.take k).any fun e => PyData.eqv e (ds.getD k .none)
def firstBad (ds : List PyData) : Option Nat := (List.range ds.length).find? (badAt ds)
/-- what is told of a value: -2 where it is good -/
def badD : PyData → Option Int
  | .list ds => if 64 < ds.length then some (-1) else (firstBad ds).map Int.ofNat
  | _ => some (-1)
theorem badD_no {d : PyData} (h : isLD d = false) : badD d = some (-1) := by
  cases d with
  | list ds => cases h
  | _ => rfl
theorem first_some {ds : List PyData} {i : Nat} (hi : i < ds.length) (h : ∀ j, j < i → badAt ds j = false) (b : badAt ds i = true) : firstBad ds = some i := by
  unfold firstBad
  rw [List.find?_range_eq_some]
  exact ⟨b, by simpa using hi, fun j hj => by rw [h j hj]; rfl⟩
theorem first_none {ds : List PyData} (h : ∀ j, j < ds.length → badAt ds j = false) : firstBad ds = none := by
  unfold firstBad
  rw [List.find?_eq_none]
  intro j hj
  rw [h j (by simpa using hj)]
  decide
theorem badAt_good {zs : List Pr} (g : Gp zs) {k : Nat} (hk : k < zs.length) : badAt (zs.map prD) k = false := by
  have e : (zs.map prD).getD k .none = prD zs[k] := by
    rw [List.getD_eq_getElem?_getD, List.getElem?_map, List.getElem?_eq_getElem hk]
    rfl
  have r := g.rg _ (List.getElem_mem hk)
  unfold badAt
  rw [e, ← List.map_take]
  have o : ordD (prD zs[k]) = true := by
    show (decide (0 ≤ zs[k].1) && decide (zs[k].1 < 8) && decide (0 ≤ zs[k].2) && decide (zs[k].2 < 8)) = true
    rw [decide_eq_true r.1, decide_eq_true r.2.1, decide_eq_true r.2.2.1, decide_eq_true r.2.2.2]
    rfl
  rw [o, Bool.not_true, Bool.false_or, List.any_eq_false]
  intro x hx
  obtain ⟨z, hz, rfl⟩ := List.mem_map.mp hx
  rw [pr_eqv]
  have := not_before g.nd (List.getElem?_eq_getElem hk)
  simp only [decide_eq_true_eq]
  exact fun q => this (by rw [← q]; exact hz)
theorem badD_good {zs : List Pr} (g : Gp zs) : badD (prsD zs) = none := by
  show (if 64 < (zs.map prD).length then some (-1) else (firstBad (zs.map prD)).map Int.ofNat) = none
  have := g.len
  rw [if_neg (by rw [List.length_map]; omega), first_none (fun j hj => badAt_good g (by simpa using hj))]
  rfl
def spOrdD (K : PySem.W.Frag) : Sp := fun vs H Q _ => ∃ (v : V) (d : PyData), vs = [v] ∧ Dp K H v d ∧ Q (.bl (ordD d)) H
/-- data that may be handed in -/
def Ok (d : PyData) : Prop := ∀ ds, d = .list ds → Small ds ∧ ds.length ≤ 1000
def spChkD (K : PySem.W.Frag) (CE : Addr) : Sp := fun vs H Q E => ∃ (v : V) (d : PyData), vs = [v] ∧ Dp K H v d ∧ Ok d ∧ (badD d = none → ∀ H' : Hp, Same H H' → Q .non H') ∧
  (∀ k, badD d = some k → ∀ (dd : Addr) (H' : Hp), Same H H' → H dd = none → H' dd = some (.xd [("at", .int k)]) → E (.ref CE) (some dd) H')
abbrev slOrdb : Stmt := top 21
abbrev slChkP : Stmt := top 22
section
variable {P : Program} {w : World} {K : PySem.W.Frag} {mg : Str → Option Value} {base : Heap} {C CE f : Addr} {fd : FuncData}
theorem sclOrdb : FnScope ["value"] ["value"] (defScope slOrdb) := ⟨rfl, rfl, rfl, by decide +kernel, rfl, by decide +kernel, by decide +kernel⟩
theorem ok_ordb (F : Fun K "is_orderable" "is_orderable" slOrdb f fd) {tk : Tok} (hM : mg "MOST_LINES" = some (.int 8 tk)) (DT : Df P w K mg base CX0 "is_two" 2 ["value"] (spTwoD K)) : FnOk P w K mg base CX0 3 f fd ["value"] (spOrdD K) := by
  refine F.ok sclOrdb (fun vs H Q E h => ?_) (fun cdv A outer s H vs Q E hr h => ?_)
  · obtain ⟨v, d, rfl, _⟩ := h
    rfl
  · obtain ⟨v, d, rfl, hd, k⟩ := h
    refine ⟨_, (pss_one (ps_ret (pe_and (pe_df DT hr (by decide) (pa_cons (pv 0) pa_nil)) (pe_and (pe_chain op_le op_lt pe_int (pe_ix ix_tup (pv 0) pe_int (fun _ _ => rfl)) (pe_glob (v := .int 8) (by rfl) hM ⟨tk, rfl⟩)) (pe_one (pe_chain op_le op_lt pe_int (pe_ix ix_tup (pv 0) pe_int (fun _ _ => rfl)) (pe_glob (v := .int 8) (by rfl) hM ⟨tk, rfl⟩))))))), ?_⟩
    walk_at "rd"
    refine ⟨v, d, rfl, hd, ?_⟩
    walk_at "rd"
    by_cases e : twoD d = true
    · refine ifT e ?_
      obtain ⟨a, b, rfl⟩ := twoD_inv e
      obtain ⟨t, vs, rfl, ht, hv⟩ := Dp.tupAt hd
      obtain ⟨rfl⟩ : vs = [.int a, .int b] := by
        cases hv with
        | cons h1 r => cases h1; cases r with
          | cons h2 r2 => cases h2; cases r2; rfl
      walk_at "rd"
      refine r_ixT ht (atI_nat (j := 0) rfl) ?_
      walk_at "rd"
      have kk : ∀ {x : Bool}, x = (decide (0 ≤ a) && decide (a < 8) && decide (0 ≤ b) && decide (b < 8)) → Q (.bl x) H := fun {x} q => by rw [q]; exact k
      by_cases g1 : 0 ≤ a
      · refine ifT (decide_eq_true g1) ?_
        walk_at "rd"
        by_cases g2 : a < 8
        · refine ifT (decide_eq_true g2) ?_
          walk_at "rd"
          refine r_ixT ht (atI_nat (j := 1) rfl) ?_
          walk_at "rd"
          by_cases g3 : 0 ≤ b
          · refine ifT (decide_eq_true g3) ?_
            walk_at "rd"
            exact kk (by simp [g1, g2, g3])
          · refine ifF (decide_eq_false g3) ?_
            exact kk (by simp [g3])
        · refine ifF (decide_eq_false g2) ?_
          exact kk (by simp [g2])
      · refine ifF (decide_eq_false g1) ?_
        exact ⟨false, rfl, ifF rfl (kk (by simp [g1]))⟩
    · refine ifF (Bool.eq_false_iff.mpr e) ?_
      rw [ordD_no (Bool.eq_false_iff.mpr e)] at k
      exact k
end
section
variable {P : Program} {w : World} {K : PySem.W.Frag} {mg : Str → Option Value} {base : Heap} {C CE f : Addr} {fd : FuncData}
theorem sclChkP : FnScope ["pairs", "at", "pair"] ["pairs"] (defScope slChkP) := ⟨rfl, rfl, rfl, by decide +kernel, rfl, by decide +kernel, by decide +kernel⟩
theorem small_at {ds : List PyData} (s : PyData.plainAll ds = true) {i : Nat} {d : PyData} (h : ds[i]? = some d) : d.plain = true := by
  induction ds generalizing i with
  | nil => simp at h
  | cons x r ih =>
    rw [PyData.plainAll, Bool.and_eq_true] at s
    cases i with
    | zero => cases (Option.some.inj h); exact s.1
    | succ i => exact ih s.2 (by simpa using h)
theorem plain_take {ds : List PyData} (s : PyData.plainAll ds = true) : ∀ n, PyData.plainAll (ds.take n) = true := by
  induction ds with
  | nil => intro n; cases n <;> rfl
  | cons x r ih =>
    rw [PyData.plainAll, Bool.and_eq_true] at s
    intro n
    cases n with
    | zero => rfl
    | succ n => rw [List.take_succ_cons, PyData.plainAll, s.1, ih s.2 n]; rfl
theorem depth_take {ds : List PyData} {m : Nat} (s : PyData.depthAll ds ≤ m) : ∀ n, PyData.depthAll (ds.take n) ≤ m := by
  induction ds with
  | nil => intro n; cases n <;> exact s
  | cons x r ih =>
    rw [PyData.depthAll] at s
    intro n
    cases n with
    | zero => exact Nat.zero_le _
    | succ n =>
      rw [List.take_succ_cons, PyData.depthAll]
      have := ih (by omega) n
      omega
theorem Small.take {ds : List PyData} (s : Small ds) (n : Nat) : Small (ds.take n) := ⟨plain_take s.plain n, depth_take s.deep n⟩
end
section
variable {P : Program} {w : World} {K : PySem.W.Frag} {mg : Str → Option Value} {base : Heap} {C CE f : Addr} {fd : FuncData}
theorem ok_chkP (F : Fun K "check_pairs" "check_pairs" slChkP f fd) (T : Bt mg) {tk : Tok} (hM : mg "MOST_PAIRS" = some (.int 64 tk)) (DO : Df P w K mg base CX0 "is_orderable" 3 ["value"] (spOrdD K)) (EO : De P w K mg base "InvalidOrder" 3 (spErr1 K 1 CE "at") CE) :
    FnOk P w K mg base (L2.CX P w) 6 f fd ["pairs"] (spChkD K CE) := by
  refine F.okX sclChkP (fun vs H Q E h => ?_) (fun cdv A outer s H vs Q E hr h => ?_)
  · obtain ⟨v, d, rfl, _⟩ := h
    rfl
  · obtain ⟨v, d, rfl, hd, ok, k1, k2⟩ := h
    refine ⟨_, (pss_cons (ps_if (PW.pt (pw_or (pt_not (pt_val (pe_callB call_isi (by rfl) T.isinstance (by decide +kernel) (pa_cons (pv 0) (pa_cons (pe_bltn (v := .ty "list") (by rfl) T.list (by decide +kernel) rfl) pa_nil))))) (pw_or1 (pt_cmpR op_gt (pe_callB cl_len (by rfl) T.len PySem.boot_len (pa_cons (pv 0) pa_nil)) (pe_glob (v := .int 64) (by rfl) hM ⟨tk, rfl⟩) (nomark _))))) (pss_one (ps_rse rfl (takes_of rfl rfl rfl rfl) EO hr (by decide) (pa_cons (pe_un un_neg pe_int) pa_nil))) pss_nil)
  (pss_one (ps_for (passes_of rfl) rfl (pi_enum (by rfl) T.enumerate (pa_cons (pv 0) pa_nil)) (pg_tup (by rfl) (pgs_cons (pg_name (i := 1) sclChkP.nd rfl (Or.inl rfl)) (pgs_cons (pg_name (i := 2) sclChkP.nd rfl (Or.inl rfl)) pgs_nil))) (pss_one (ps_if (PW.pt (pw_or (pt_not (pt_val (pe_df DO hr (by decide) (pa_cons (pv 2) pa_nil)))) (pw_or1 (pt_cmpR (op_inD hr.units) (pv 2) (pe_slice sl_list (pv 0) po_none (po_some (pv 1))) (by rfl))))) (pss_one (ps_rse rfl (takes_of rfl rfl rfl rfl) EO hr (by decide) (pa_cons (pv 1) pa_nil))) pss_nil))))), ?_⟩
    walk_at "rd"
    refine r_isDL hd ?_
    walk_at "rd"
    by_cases e : isLD d = true
    · refine ifF (by rw [e]; rfl) ?_
      obtain ⟨ds, rfl⟩ : ∃ ds, d = .list ds := by cases d <;> first | exact ⟨_, rfl⟩ | cases e
      obtain ⟨sm, d1000⟩ := ok ds rfl
      obtain ⟨a, vs, rfl, ha, hv⟩ := Dp.lstAt hd
      have vl := DpAll.len hv
      walk_at "rd"
      refine r_lenL ha ?_
      walk_at "rd"
      by_cases e64 : 64 < ds.length
      · refine ifT (decide_eq_true (by omega)) ?_
        walk_at "rd"
        refine r_mkErr ?_
        walk_at "rd"
        refine r_err1 (σ := []) (.int _) (.int _) fun dd v' H' s1 h1 h2 o1 => ?_
        cases o1
        exact k2 (-1) (by show (if 64 < ds.length then some (-1) else _) = _; rw [if_pos e64]) dd H' s1 h1 h2
      · refine ifF (decide_eq_false (by omega)) ?_
        have bd : badD (.list ds) = (firstBad ds).map Int.ofNat := if_neg e64
        walk_at "rd"
        refine ⟨a, _, rfl, ha, for_it walk_enum (fun i σ H' => ∃ u v, σ = [some (.ref a), u, v] ∧ Same H H' ∧ ∀ j, j < i → badAt ds j = false) ⟨none, none, rfl, Same.refl H, fun j hj => by cases hj⟩ (fun i σ H' _ ⟨_, _, _, s, _⟩ => s.seq ha) ?_ ?_⟩
        · rintro i x σ H1 H2 hi ⟨u, v, rfl, s1, prev⟩ ⟨t, i', y, rfl, ht, rfl, e1, e2⟩
          obtain ⟨dy, hdy, py⟩ := DpAll.at hv e2
          cases (Option.some.inj e1)
          have gd : ds.getD i .none = dy := by rw [List.getD_eq_getElem?_getD, hdy]; rfl
          have st : Same H (upd H1 t (.tup [.int (i : Int), y])) := Same.up s1 ht
          refine r_gtup ⟨t, _, rfl, SqT.of upd_same, rfl, _, _, rfl, ?_⟩
          walk_at "rd"
          refine ⟨_, _, rfl, ?_⟩
          walk_at "rd"
          refine ⟨rfl, ?_⟩
          walk_at "rd"
          refine ⟨y, dy, rfl, Dp.later st py, ?_⟩
          walk_at "rd"
          have raise : ∀ (H3 : Hp), Same H H3 → badAt ds i = true → tMkErr CE (spErr1 K 1 CE "at") (tCons (tVar 1) tNil) [some (.ref a), some (.int (i : Int)), some y] H3 fun cls d H' => E cls d H' := fun H3 s3 b => by
            refine r_mkErr ?_
            walk_at "rd"
            refine r_err1 (σ := []) (.int _) (.int _) fun dd v' H' s4 h1 h2 o1 => ?_
            cases o1
            exact k2 (i : Int) (by rw [bd, first_some (by omega) prev b]; rfl) dd H' (s3.trans s4) (s3.free h1) h2
          by_cases o : ordD dy = true
          · refine ifF (by rw [o]; rfl) ?_
            walk_at "rd"
            refine ⟨a, vs, rfl, st.seq ha, fun q nq => ?_⟩
            rw [cut_take (by omega)]
            have sq := Same.up (o := .lst (vs.take i)) st nq
            refine ⟨dy, ds.take i, Dp.later sq py, .lst (SqL.of upd_same) (DpAll.later sq (DpAll.take hv i)), small_at sm.plain hdy, sm.take i, ?_⟩
            walk_at "rd"
            have be : badAt ds i = (ds.take i).any fun e => PyData.eqv e dy := by rw [badAt, gd, o]; rfl
            by_cases inn : ((ds.take i).any fun e => PyData.eqv e dy) = true
            · refine ifT inn ?_
              exact raise _ sq (by rw [be]; exact inn)
            · refine ifF (Bool.eq_false_iff.mpr inn) ?_
              walk_at "rd"
              refine ⟨_, _, rfl, sq, fun j hj => ?_⟩
              by_cases ji : j < i
              · exact prev j ji
              · have : j = i := by omega
                rw [this, be]
                exact Bool.eq_false_iff.mpr inn
          · refine ifT (by rw [Bool.eq_false_iff.mpr o]; rfl) ?_
            exact raise _ st (by rw [badAt, gd, Bool.eq_false_iff.mpr o]; rfl)
        · rintro σ H1 ⟨u, v, rfl, s1, prev⟩
          exact k1 (by rw [bd, first_none (fun j hj => prev j (by omega))]; rfl) H1 s1
    · refine ifT (by rw [Bool.eq_false_iff.mpr e]; rfl) ?_
      walk_at "rd"
      refine r_mkErr ?_
      walk_at "rd"
      refine r_err1 (σ := []) (.int _) (.int _) fun dd v' H' s1 h1 h2 o1 => ?_
      cases o1
      exact k2 (-1) (badD_no (Bool.eq_false_iff.mpr e)) dd H' s1 h1 h2
end
section
variable {X : Cx} {CX : CXT} {k : Nat} {C : Addr} {sp : Sp} {E : L2.St → XK} {a b : Expr} {ta tb : TE} {pos : Pos}
theorem pt_notInOwn (F : Two X CX k C "__contains__" sp) (hr : Room k X.A) (hx : ∀ σ, PassesAt CX X σ (E σ)) (ha : PE X a ta) (hb : PE X b tb) (hm : behindInMarks .NotIn b = false) :
    PT X (.Compare a [.NotIn] [b] pos) (tTest (tOp2 (rOwnIn C sp true) E ta tb)) := by
  obtain ⟨f, fd, ps, M, F, B⟩ := F.ex
  refine ⟨fun pins s σ H Q I h => ?_⟩
  refine wpAny_isTrue_Compare1 (binT ha hb I h fun v u s2 y x H2 I2 ry rx q => ?_) hm
  obtain ⟨a, dx, fs, rfl, e, q⟩ := q
  cases rx
  obtain ⟨ox, od, J⟩ := own_at I2 e
  obtain ⟨m, hF⟩ := I2.fr
  refine PySem.W.notIn_K hF I2.ok.mod.kin J M.at_ M.fn ?_
  refine wpAny_mono (own_run (us := [.ref a, v]) (vs := [.ref a, y]) F hr I2.env0 B (hx σ) I2 (.cons rfl (.cons ry .nil)) q) (fun w s' z => ?_) fun _ _ z => z
  obtain ⟨z, H3, I3, rz, c, rfl, qz⟩ := z
  cases (show w = Value.bool c from rz)
  obtain ⟨k2, e2, q2⟩ := qz
  cases e2
  exact wpAny_pure (wpAny_truthy_bool ⟨H3, I3, q2⟩)
end
theorem hu65 {k : Nat} {A : Around} (r : Room k A) : A.units + 65 < cLine := by have := r.un; omega
theorem OkPrs (zs : List Pr) (h : zs.length ≤ 64) : Ok (prsD zs) := fun ds e => by
  cases e
  exact ⟨⟨prs_plainAll zs, Nat.le_trans (prs_depthAll zs) (by decide)⟩, by rw [List.length_map]; omega⟩
def spOrIF (K : PySem.W.Frag) (C CE : Addr) : Sp := fun vs H Q E => ∃ (p x dx : Addr) (v : V), vs = [.ref x, v] ∧ H x = some (.ins C dx []) ∧ H dx = some (.own x) ∧ dx ≠ x ∧ x ≠ p ∧ (∃ o, H p = some o) ∧
  ((∃ (a : Addr) (zs : List Pr), v = .ref a ∧ PL p H a zs ∧ Gp zs ∧ ∀ (H' : Hp) (q : Addr), H q = none → OrX p C H' x dx q zs → (∀ c o, c ≠ x → H c = some o → H' c = some o) → Q .non H') ∨
   (∃ (d : PyData) (k : Int), Dp K H v d ∧ Ok d ∧ badD d = some k ∧ ∀ (dd : Addr) (H' : Hp), Same H H' → H dd = none → H' dd = some (.xd [("at", .int k)]) → E (.ref CE) (some dd) H'))
def spLenO (C : Addr) : Sp := fun vs H Q _ => ∃ (p x dx q : Addr) (zs : List Pr), vs = [.ref x] ∧ OrX p C H x dx q zs ∧ Q (.int (zs.length : Int)) H
def spHasO (C : Addr) : Sp := fun vs H Q _ => ∃ (p r x dx q : Addr) (zs : List Pr) (y : V) (z : Pr), vs = [.ref x, y] ∧ OrX p C H x dx q zs ∧ PrAt r H y z ∧ Q (.bl (decide (z ∈ zs))) H
def spPairsO (C : Addr) : Sp := fun vs H Q _ => ∃ (p x dx q : Addr) (zs : List Pr) (vs' : List V), vs = [.ref x] ∧ OrX p C H x dx q zs ∧ H q = some (.lst vs') ∧ ∀ r, H r = none → Q (.ref r) (upd H r (.lst vs'))
abbrev slOrI : Stmt := inCls 24 0
abbrev slLen : Stmt := inCls 24 3
abbrev slHas : Stmt := inCls 24 4
abbrev slPrs : Stmt := inCls 24 14
section
variable {P : Program} {w : World} {K : PySem.W.Frag} {mg : Str → Option Value} {base : Heap} {C CE f : Addr} {fd : FuncData}
theorem sclOrI : FnScope ["self", "pairs"] ["self", "pairs"] (defScope slOrI) := ⟨rfl, rfl, rfl, by decide +kernel, rfl, by decide +kernel, by decide +kernel⟩
theorem ok_orI (F : Fun K "__init__" "Order.__init__" slOrI f fd) (T : Bt mg) (O : OwnC K C) (nS : NoAttr K C "sequence") (DC : Df P w K mg base (L2.CX P w) "check_pairs" 6 ["pairs"] (spChkD K CE)) : FnOk P w K mg base (L2.CX P w) 8 f fd ["self", "pairs"] (spOrIF K C CE) := by
  refine F.okX sclOrI (fun vs H Q E h => ?_) (fun cdv A outer s H vs Q E hr h => ?_)
  · obtain ⟨p, x, dx, v, rfl, _⟩ := h
    rfl
  · obtain ⟨p, x, dx, v, rfl, hx, hdx, ne, xp, ⟨op, hp⟩, k⟩ := h
    refine ⟨_, (pss_cons (ps_expr (pe_dfS (takes_of rfl rfl rfl rfl) DC hr (by decide) (pa_cons (pv 1) pa_nil))) (pss_one (ps_fld (pv 0) (pe_callTy cl_lst (by rfl) T.list (by decide +kernel) (pa_cons (pv 1) pa_nil)) rfl))), ?_⟩
    walk_at "rd"
    rcases k with ⟨a, zs, rfl, la, g, k⟩ | ⟨d, k0, hd, ok, bd, k⟩
    · refine ⟨_, prsD zs, rfl, la.dp, OkPrs zs g.len, fun _ H1 s1 => ?_, fun k1 e => by rw [badD_good g] at e; cases e⟩
      obtain ⟨na, vs, ha, hv⟩ := la
      walk_at "rd"
      refine r_lstOf (SqL.of (s1 _ _ ha)) fun q nq => ?_
      have x1 : x ≠ q := fun z => by
        have e := s1 _ _ hx
        rw [z, nq] at e
        cases e
      have q1 : q ≠ p := fun z => by
        have e := s1 _ _ hp
        rw [← z, nq] at e
        cases e
      have s2 := Same.up (o := .lst vs) s1 nq
      walk_at "rd"
      refine r_sFld0 (C := C) (dx := dx) (fs := []) (by rw [upd_ne x1]; exact s1 _ _ hx) O.cl nS (by decide) ?_
      have kp : ∀ c o, c ≠ x → H c = some o → (upd (upd H1 q (.lst vs)) x (.ins C dx (putF "sequence" (.ref q) []))) c = some o := fun c o n e => by
        rw [upd_ne n]
        exact s2 _ _ e
      have nt : ∀ c o, H c = some o → o ≠ .ins C dx [] → c ≠ x := fun c o e n z => by
        rw [z, hx] at e
        exact n (Option.some.inj e).symm
      exact k _ q (s1.free nq) ⟨xp, upd_same, q1, vs, by rw [upd_ne (Ne.symm x1), upd_same], hv.mono fun t xs e => kp t _ (nt t _ e fun z => by cases z) e⟩ kp
    · refine ⟨v, d, rfl, hd, ok, fun e => ?_, fun k1 e dd H' s1 h1 h2 => ?_⟩
      · rw [bd] at e
        cases e
      · rw [bd] at e
        cases (Option.some.inj e)
        exact k dd H' s1 h1 h2
theorem sclLen : FnScope ["self"] ["self"] (defScope slLen) := ⟨rfl, rfl, rfl, by decide +kernel, rfl, by decide +kernel, by decide +kernel⟩
theorem ok_len (F : Fun K "__len__" "Order.__len__" slLen f fd) (T : Bt mg) (O : OwnC K C) (nS : NoAttr K C "sequence") : FnOk P w K mg base CX0 1 f fd ["self"] (spLenO C) := by
  refine F.ok sclLen (fun vs H Q E h => ?_) (fun cdv A outer s H vs Q E hr h => ?_)
  · obtain ⟨p, x, dx, q, zs, rfl, _⟩ := h
    rfl
  · obtain ⟨p, x, dx, q, zs, rfl, X, k⟩ := h
    obtain ⟨nq, vs, hq, hv⟩ := X.l
    refine ⟨_, (pss_one (ps_ret (pe_callB cl_len (by rfl) T.len PySem.boot_len (pa_cons (pe_fld (pv 0) rfl) pa_nil)))), ?_⟩
    walk_at "rd"
    refine r_fldV rfl X.o O.cl nS one_fst ?_
    walk_at "rd"
    refine r_lenL (SqL.of hq) ?_
    rw [hv.length]
    exact k
theorem sclHas : FnScope ["self", "x"] ["self", "x"] (defScope slHas) := ⟨rfl, rfl, rfl, by decide +kernel, rfl, by decide +kernel, by decide +kernel⟩
theorem ok_has (F : Fun K "__contains__" "Order.__contains__" slHas f fd) (O : OwnC K C) (nS : NoAttr K C "sequence") (DT : Df P w K mg base CX0 "is_two" 2 ["value"] (spTwoD K)) : FnOk P w K mg base CX0 3 f fd ["self", "x"] (spHasO C) := by
  refine F.ok sclHas (fun vs H Q E h => ?_) (fun cdv A outer s H vs Q E hr h => ?_)
  · obtain ⟨p, r, x, dx, q, zs, y, z, rfl, _⟩ := h
    rfl
  · obtain ⟨p, r, x, dx, q, zs, y, z, rfl, X, hy, k⟩ := h
    refine ⟨_, (pss_one (ps_ret (pe_and (pe_df DT hr (by decide) (pa_cons (pv 1) pa_nil)) (pe_one (pe_cmpR (op_inP hr.units) (pv 1) (pe_fld (pv 0) rfl) (by rfl)))))), ?_⟩
    walk_at "rd"
    refine ⟨y, prD z, rfl, hy.dp, ?_⟩
    refine ⟨true, rfl, ifT rfl ?_⟩
    walk_at "rd"
    refine r_fldV rfl X.o O.cl nS one_fst ?_
    exact ⟨z, zs, hy.dp, X.l.dp, k⟩
theorem sclPrs : FnScope ["self"] ["self"] (defScope slPrs) := ⟨rfl, rfl, rfl, by decide +kernel, rfl, by decide +kernel, by decide +kernel⟩
theorem ok_prs (F : Fun K "pairs" "Order.pairs" slPrs f fd) (T : Bt mg) (O : OwnC K C) (nS : NoAttr K C "sequence") : FnOk P w K mg base CX0 1 f fd ["self"] (spPairsO C) := by
  refine F.ok sclPrs (fun vs H Q E h => ?_) (fun cdv A outer s H vs Q E hr h => ?_)
  · obtain ⟨p, x, dx, q, zs, vs, rfl, _⟩ := h
    rfl
  · obtain ⟨p, x, dx, q, zs, vs, rfl, X, hq, k⟩ := h
    refine ⟨_, (pss_one (ps_ret (pe_callTy cl_lst (by rfl) T.list (by decide +kernel) (pa_cons (pe_fld (pv 0) rfl) pa_nil)))), ?_⟩
    walk_at "rd"
    refine r_fldV rfl X.o O.cl nS one_fst ?_
    walk_at "rd"
    exact r_lstOf (SqL.of hq) k
end
theorem Gp.perm {zs ys : List Pr} (g : Gp zs) (p : ys.Perm zs) : Gp ys := ⟨p.nodup_iff.mpr g.nd, fun z h => g.rg z (p.mem_iff.mp h), by have := g.len; rw [p.length_eq]; exact this⟩
theorem Gp.take {zs : List Pr} (g : Gp zs) (n : Nat) : Gp (zs.take n) := ⟨g.nd.sublist (List.take_sublist n zs), fun z h => g.rg z (List.mem_of_mem_take h), by have := g.len; rw [List.length_take]; omega⟩
/-- an order is made of good pairs -/
theorem mk_or {K : PySem.W.Frag} {C CE p : Addr} {H1 : Hp} {x dx a : Addr} {zs : List Pr} {Q : Hp → Prop} {E : XK} (nx : H1 x = none) (nd : H1 dx = none) (ne : dx ≠ x) (hp : ∃ o, H1 p = some o) (la : PL p H1 a zs) (g : Gp zs)
    (k : ∀ (H' : Hp) (q : Addr), Same H1 H' → OrX p C H' x dx q zs → Q H') : spOrIF K C CE [.ref x, .ref a] (upd (upd H1 dx (.own x)) x (.ins C dx [])) (fun v H2 => v = .non ∧ Q H2) E := by
  obtain ⟨op, hp⟩ := hp
  have st : ∀ c o, H1 c = some o → c ≠ x ∧ (upd (upd H1 dx (.own x)) x (.ins C dx [])) c = some o := fun c o e => by
    have c1 : c ≠ x := fun z => by rw [z, nx] at e; cases e
    have c2 : c ≠ dx := fun z => by rw [z, nd] at e; cases e
    exact ⟨c1, by rw [upd_ne c1, upd_ne c2]; exact e⟩
  have sm : Same H1 (upd (upd H1 dx (.own x)) x (.ins C dx [])) := fun c o e => (st c o e).2
  refine ⟨p, x, dx, .ref a, rfl, upd_same, by rw [upd_ne ne, upd_same], ne, (fun z => by rw [z, hp] at nx; cases nx), ⟨op, sm _ _ hp⟩, .inl ⟨a, zs, rfl, la.same sm, g, fun H3 r nr X fr => ⟨rfl, ?_⟩⟩⟩
  exact k H3 r (fun c o e => by
    have := st c o e
    exact fr _ _ this.1 this.2) X
/-- a new order -/
def NewO (p C : Addr) (H H' : Hp) (x : Addr) (zs : List Pr) : Prop := Same H H' ∧ ∃ dx q, OrX p C H' x dx q zs
end Pk
set_option Elab.async false
set_option linter.all false
set_option maxRecDepth 100000
set_option maxHeartbeats 4000000
namespace Pk
open PySem L2
local macro_rules | `(tactic| walk_at "rd") => `(tactic| repeat (first
  | with_reducible refine r_seq ?_ | with_reducible refine r_nxt ?_ | with_reducible refine r_asg ?_ | with_reducible refine r_to ?_ | with_reducible refine r_ret ?_ | with_reducible refine r_for ?_ | with_reducible refine r_lc ?_ | with_reducible refine r_lc2 ?_ | with_reducible refine r_rng1 ?_ | with_reducible refine r_list ?_ | with_reducible refine r_tupI ?_ | with_reducible refine r_drop ?_ | with_reducible refine r_ifs ?_
  | with_reducible refine r_op ?_ | with_reducible refine r_c ?_ | with_reducible refine r_var rfl ?_ | with_reducible refine r_var (by assumption) ?_ | with_reducible refine r_I0 ?_ | with_reducible refine r_un ?_ | with_reducible refine r_U ?_ | with_reducible refine r_make ?_ | with_reducible refine r_makeS ?_ | with_reducible refine r_ifE ?_ | with_reducible refine r_cm ?_ | with_reducible refine r_mkV rfl ?_ | with_reducible refine r_sub ?_
  | with_reducible refine r_nil ?_ | with_reducible refine r_cons ?_ | with_reducible refine r_cb ?_ | with_reducible refine r_sl ?_ | with_reducible refine r_noP ?_ | with_reducible refine r_part ?_ | with_reducible refine r_isI ?_ | with_reducible refine r_lst ?_ | with_reducible refine r_tup ?_ | with_reducible refine r_call ?_ | with_reducible refine r_callS ?_ | with_reducible refine r_sFldU ?_ | with_reducible refine r_chain ?_ | with_reducible refine r_enum ?_ | with_reducible refine r_zip ?_ | with_reducible refine r_rng3 ?_ | with_reducible refine r_gtup ?_ | with_reducible refine r_methU ?_
  | with_reducible refine r_test ?_ | with_reducible refine r_B ?_ | with_reducible refine r_and ?_ | with_reducible refine r_or ?_ | with_reducible refine r_not ?_ | with_reducible refine r_andV ?_ | with_reducible refine r_orV ?_ | with_reducible refine r_notV ?_ | with_reducible refine r_bl ?_ | with_reducible refine r_yes ?_ | with_reducible refine r_int ?_ | with_reducible refine r_is0 ?_ | with_reducible refine r_is1 ?_ | with_reducible refine iteT ?_ | with_reducible refine iteF ?_ | with_reducible refine ite_nF ?_ | with_reducible refine ite_nT ?_
  | with_reducible refine r_mod (by decide) ?_ | with_reducible refine r_div (by decide) (by decide) ?_ | with_reducible refine r_mulR (by decide) (by decide) ?_ | with_reducible refine r_mulL (by decide) (by decide) ?_ | with_reducible refine r_pow (by decide) (by decide) (by decide) ?_))
theorem free_mem {R : Rw} {zs : List Pr} {z : Pr} : z ∈ freeL R zs ↔ z ∈ cells R ∧ z ∉ zs := by
  unfold freeL
  rw [List.mem_filter, Bool.not_eq_true', decide_eq_false_iff_not]
theorem free_len {R : Rw} (g : Gt R) (zs : List Pr) : (freeL R zs).length ≤ 64 := Nat.le_trans (List.length_filter_le _ _) (cells_len g)
theorem free_in {R : Rw} (zs : List Pr) : InR R.length (wd R) (freeL R zs) := fun z h => by
  obtain ⟨i, j, e, hi, hj, _⟩ := cells_nat (free_mem.mp h).1
  exact ⟨i, j, e, hi, hj⟩
theorem free_sub {R : Rw} (zs : List Pr) : ∀ r s, r < R.length → s < wd R → inB (freeL R zs) r s = true → (prc R r s).isSome = true := fun r s hr hs h => by
  have m := of_decide_eq_true h
  exact (mem_cells.mp (free_mem.mp m).1).2.2
/-! ### the faults of an order -/
/-! ### the faults of an order -/
theorem r_par3 {i j l : Nat} {ta : TA} {D : Ends} {σ : L2.St} {H : Hp} (h : ta σ H fun vs H1 => ∃ u v w, vs = [u, v, w] ∧ D.nx (((σ.set i (some u)).set j (some v)).set l (some w)) H1) : tPar3 i j l ta D σ H := h
theorem mkB_clr {w j : Nat} {f : Nat → Bool} : (mkB w f).set j (.bl false) = mkB w fun k => f k && !decide (k = j) := by
  unfold mkB
  refine List.ext_getElem (by simp) fun i h1 h2 => ?_
  simp only [List.getElem_set, List.getElem_map, List.getElem_range]
  by_cases c : j = i
  · subst c
    simp
  · have : ¬ i = j := fun z => c z.symm
    simp [c, this]
def FaAt (p : Addr) (H : Hp) (u : V) (f : Pr × Str × Pr) : Prop := ∃ (t : Addr) (v c : V), u = .ref t ∧ H t = some (.tup [.str f.2.1, v, c]) ∧ PrAt p H v f.1 ∧ PrAt p H c f.2.2
inductive FasAt (p : Addr) (H : Hp) : List V → List (Pr × Str × Pr) → Prop
  | nil : FasAt p H [] []
  | cons {u : V} {f : Pr × Str × Pr} {us : List V} {fs : List (Pr × Str × Pr)} (h : FaAt p H u f) (r : FasAt p H us fs) : FasAt p H (u :: us) (f :: fs)
theorem FaAt.keepT {p : Addr} {H H' : Hp} {u : V} {f : Pr × Str × Pr} (h : FaAt p H u f) (k : ∀ t xs, H t = some (.tup xs) → H' t = some (.tup xs)) : FaAt p H' u f := by
  obtain ⟨t, v, c, e, ht, ⟨t1, e1, n1, h1⟩, t2, e2, n2, h2⟩ := h
  exact ⟨t, v, c, e, k _ _ ht, ⟨t1, e1, n1, k _ _ h1⟩, t2, e2, n2, k _ _ h2⟩
theorem FasAt.keepT {p : Addr} {H H' : Hp} {us : List V} {fs : List (Pr × Str × Pr)} (h : FasAt p H us fs) (k : ∀ t xs, H t = some (.tup xs) → H' t = some (.tup xs)) : FasAt p H' us fs := by
  induction h with
  | nil => exact .nil
  | cons h _ ih => exact .cons (h.keepT k) ih
theorem FasAt.app {p : Addr} {H : Hp} {us ws : List V} {fs gs : List (Pr × Str × Pr)} (h : FasAt p H us fs) (g : FasAt p H ws gs) : FasAt p H (us ++ ws) (fs ++ gs) := by
  induction h with
  | nil => exact g
  | cons h _ ih => exact .cons h ih
theorem FasAt.length {p : Addr} {H : Hp} {us : List V} {fs : List (Pr × Str × Pr)} (h : FasAt p H us fs) : us.length = fs.length := by
  induction h with
  | nil => rfl
  | cons _ _ ih => rw [List.length_cons, List.length_cons, ih]
theorem FtAt.fa {p : Addr} {H : Hp} {pv u : V} {z : Pr} {f : Str × Pr} (h : FtAt p H pv u f) (a : PrAt p H pv z) : FaAt p H u (z, f) := by
  obtain ⟨t, c, e, ht, hc⟩ := h
  exact ⟨t, pv, c, e, ht, a, hc⟩
theorem FtsAt.fas {p : Addr} {H : Hp} {pv : V} {z : Pr} {us : List V} {fs : List (Str × Pr)} (h : FtsAt p H pv us fs) (a : PrAt p H pv z) : FasAt p H us (fs.map fun f => (z, f)) := by
  induction h with
  | nil => exact .nil
  | cons h _ ih => exact .cons (h.fa a) ih
def fAt (R : Rw) (zs : List Pr) (k : Str) (m : Nat) : List (Pr × Str × Pr) := match zs[m]? with
  | some z => (fauL R (inB (freeL R (zs.take (m + 1)))) z.1.toNat z.2.toNat k).map fun f => (z, f)
  | none => []
/-- the faults at the first m places -/
def allF (R : Rw) (zs : List Pr) (k : Str) (m : Nat) : List (Pr × Str × Pr) := (List.range m).flatMap (fAt R zs k)
theorem allF_more {R : Rw} {zs : List Pr} {k : Str} {m : Nat} : allF R zs k (m + 1) = allF R zs k m ++ fAt R zs k m := by
  unfold allF
  rw [List.range_succ, List.flatMap_append]
  simp
theorem free_nil (R : Rw) : freeL R [] = cells R := List.filter_eq_self.mpr fun z _ => by simp
theorem inB_take {R : Rw} {zs : List Pr} {m i j : Nat} (ez : zs[m]? = some ((i : Int), (j : Int))) (a b : Nat) : inB (freeL R (zs.take (m + 1))) a b = (inB (freeL R (zs.take m)) a b && !(decide (a = i) && decide (b = j))) := by
  unfold inB
  have e : (((a : Int), (b : Int)) = ((i : Int), (j : Int))) ↔ (a = i ∧ b = j) := by
    constructor
    · intro h
      have h1 := (Prod.mk.inj h).1
      have h2 := (Prod.mk.inj h).2
      omega
    · rintro ⟨rfl, rfl⟩
      rfl
  rw [Bool.eq_iff_iff, decide_eq_true_eq, Bool.and_eq_true, decide_eq_true_eq, Bool.not_eq_true', Bool.and_eq_false_iff, decide_eq_false_iff_not, decide_eq_false_iff_not, free_mem, free_mem, List.take_add_one, ez, Option.toList_some, List.mem_append, List.mem_singleton, e]
  constructor
  · rintro ⟨h1, h2⟩
    refine ⟨⟨h1, fun h => h2 (.inl h)⟩, ?_⟩
    by_cases c : a = i
    · exact .inr fun d => h2 (.inr ⟨c, d⟩)
    · exact .inl c
  · rintro ⟨⟨h1, h2⟩, h3⟩
    refine ⟨h1, ?_⟩
    rintro (h | ⟨c, d⟩)
    · exact h2 h
    · rcases h3 with h3 | h3
      · exact h3 c
      · exact h3 d
/-- an order of a table's pairs, beside the table -/
structure OrG (p C CO : Addr) (H : Hp) (x a : Addr) (G : Hp) (R : Rw) (zs : List Pr) : Prop where
  t : TbX C G x R
  s : Same G H
  off : G p = none
  pp : ∃ o, H p = some o
  o : ∃ dx q, OrX p CO H a dx q zs
  pm : zs.Perm (cells R)
theorem OrG.same {p C CO : Addr} {H H' : Hp} {x a : Addr} {G : Hp} {R : Rw} {zs : List Pr} (h : OrG p C CO H x a G R zs) (s : Same H H') : OrG p C CO H' x a G R zs :=
  ⟨h.t, h.s.trans s, h.off, by obtain ⟨o, ho⟩ := h.pp; exact ⟨o, s _ _ ho⟩, by obtain ⟨dx, q, X⟩ := h.o; exact ⟨dx, q, X.same s⟩, h.pm⟩
def spAllF (C CO : Addr) : Sp := fun vs H Q _ => ∃ (p x a : Addr) (G : Hp) (R : Rw) (zs : List Pr) (k : Str), vs = [.ref x, .ref a, .str k] ∧ OrG p C CO H x a G R zs ∧
  ∀ (r : Addr) (us : List V) (H' : Hp), Same H H' → H r = none → H' r = some (.lst us) → us.length ≤ 12800 → FasAt p H' us (allF R zs k zs.length) → Q (.ref r) H'
def spEarl (C CO : Addr) : Sp := fun vs H Q _ => ∃ (p x a : Addr) (G : Hp) (R : Rw) (zs : List Pr) (k : Str), vs = [.ref x, .ref a, .str k] ∧ OrG p C CO H x a G R zs ∧
  ∀ (u : V) (H' : Hp), Same H H' → (allF R zs k zs.length = [] → u = .non) → (∀ f fs, allF R zs k zs.length = f :: fs → FaAt p H' u f) → Q u H'
def spChO (C CO : Addr) : Sp := fun vs H Q _ => ∃ (p x a : Addr) (G : Hp) (R : Rw) (zs : List Pr), vs = [.ref x, .ref a] ∧ OrG p C CO H x a G R zs ∧ ∀ H' : Hp, Same H H' → Q .non H'
def spFF (C CO : Addr) : Sp := fun vs H Q _ => ∃ (p x a : Addr) (G : Hp) (R : Rw) (zs : List Pr) (k : Str), vs = [.ref x, .ref a, .str k] ∧ OrG p C CO H x a G R zs ∧ KD k ∧
  ∀ (u : V) (H' : Hp), Same H H' → (allF R zs k zs.length = [] → u = .non) → (∀ f fs, allF R zs k zs.length = f :: fs → FaAt p H' u f) → Q u H'
def spIsR (C CO : Addr) : Sp := fun vs H Q _ => ∃ (p x a : Addr) (G : Hp) (R : Rw) (zs : List Pr) (k : Str), vs = [.ref x, .ref a, .str k] ∧ OrG p C CO H x a G R zs ∧ KD k ∧
  ∀ (H' : Hp), Same H H' → Q (.bl (allF R zs k zs.length).isEmpty) H'
abbrev slAllF : Stmt := top 36
abbrev slEarl : Stmt := top 37
abbrev slChO : Stmt := top 23
section
variable {P : Program} {w : World} {K : PySem.W.Frag} {mg : Str → Option Value} {base : Heap} {C CO f aK : Addr} {fd : FuncData}
theorem sclAllF : FnScope ["table", "order", "kind", "prices", "behind", "found", "i", "j"] ["table", "order", "kind"] (defScope slAllF) := ⟨rfl, rfl, rfl, by decide +kernel, rfl, by decide +kernel, by decide +kernel⟩
theorem ok_allF {fR fQ fO : Addr} {fdR fdQ fdO : FuncData} (F : Fun K "all_faults" "all_faults" slAllF f fd) (A : TbC K C) (mR : Meth K C "rows" fR) (oR : FnOk P w K mg base CX0 1 fR fdR ["self"] (spTRws C)) (bR : Binds K fdR ["self"] [])
    (mQ : Meth K C "pairs" fQ) (oQ : FnOk P w K mg base CX0 1 fQ fdQ ["self"] (spTPrs C)) (bQ : Binds K fdQ ["self"] [])
    (O : OwnC K CO) (nS : NoAttr K CO "sequence") (mO : Meth K CO "pairs" fO) (oO : FnOk P w K mg base CX0 1 fO fdO ["self"] (spPairsO CO)) (bO : Binds K fdO ["self"] [])
    (DM : Df P w K mg base CX0 "marks" 2 ["table", "pairs"] (spMarks C)) (DF : Df P w K mg base CX0 "faults_of" 3 ["prices", "behind", "pair", "kind"] (spFau K)) :
    FnOk P w K mg base CX0 4 f fd ["table", "order", "kind"] (spAllF C CO) := by
  refine F.ok sclAllF (fun vs H Q E h => ?_) (fun cdv A' outer s H vs Q E hr h => ?_)
  · obtain ⟨p, x, a, G, R, zs, k, rfl, _⟩ := h
    rfl
  · obtain ⟨p, x, a, G, R, zs, kd, rfl, L, k⟩ := h
    have hr1 := hr.mono (show 1 ≤ 3 by decide)
    obtain ⟨g, dx, e0, u0, es, ho, hl, hpl⟩ := id L.t
    obtain ⟨adx, q0, X⟩ := id L.o
    obtain ⟨nq0, vs, hq0, hv⟩ := id X.l
    have vl := hv.length
    have zl : zs.length ≤ 64 := by rw [L.pm.length_eq]; exact cells_len g
    refine ⟨_, (pss_cons (ps_par3 (i := 3) (j := 4) (l := 5) rfl sclAllF.nd rfl rfl rfl (by decide) (by decide) (by decide) rfl rfl rfl (pa_cons (pe_meth0 (pv 0) A.O.cl mR oR hr1 bR .nil pass0) (pa_cons (pe_df DM hr (by decide) (pa_cons (pv 0) (pa_cons (pe_meth0 (pv 0) A.O.cl mQ oQ hr1 bQ .nil pass0) pa_nil))) (pa_cons (pe_lst pa_nil) pa_nil))) rfl)
  (pss_cons (ps_for PassesOwn.never rfl (pi_list (pe_meth0 (pv 1) O.cl mO oO hr1 bO .nil pass0)) (pg_tup (by rfl) (pgs_cons (pg_name (i := 6) sclAllF.nd rfl (Or.inl rfl)) (pgs_cons (pg_name (i := 7) sclAllF.nd rfl (Or.inl rfl)) pgs_nil))) (pss_cons (ps_asg pe_bl (pg_sub (pe_ix ix_list (pv 4) (pv 6) (fun _ _ => rfl)) (pv 7) set_list))
  (pss_one (ps_expr (pe_bm PySem.F.plainAttrs_list PySem.F.slot_list_extend PySem.F.type_list_extend mt_extend (pv 5) (pa_cons (pe_df DF hr (by decide) (pa_cons (pv 3) (pa_cons (pv 4) (pa_cons (pe_tup (pa_cons (pv 6) (pa_cons (pv 7) pa_nil))) (pa_cons (pv 2) pa_nil))))) pa_nil))))))
  (pss_one (ps_ret (pv 5))))), ?_⟩
    walk_at "rd"
    refine r_par3 ?_
    walk_at "rd"
    refine ⟨x, dx, _, rfl, L.s _ _ ho, two_no (by decide +kernel) (by decide +kernel), ?_⟩
    walk_at "rd"
    refine ⟨x, G, R, rfl, L.t, L.s, fun r3 es3 H1 n1 => ?_⟩
    obtain ⟨s1, nr3, rl3, _⟩ := n1
    have L1 := L.same s1
    walk_at "rd"
    refine ⟨x, dx, _, rfl, L1.s _ _ ho, two_no (by decide +kernel) (by decide +kernel), ?_⟩
    walk_at "rd"
    refine ⟨x, G, R, rfl, L.t, L1.s, fun r2 vs2 nr2 hv2 => ?_⟩
    have s2 := Same.up (o := .lst vs2) (Same.refl H1) nr2
    have hr2 : upd H1 r2 (.lst vs2) r2 = some (.lst vs2) := upd_same
    obtain ⟨H2, eH2⟩ : ∃ H2, H2 = upd H1 r2 (.lst vs2) := ⟨_, rfl⟩
    rw [← eH2] at s2 hr2 ⊢
    have L2 := L1.same s2
    have pv2 : PrsAt p H2 vs2 (cells R) := by
      have : ∀ {vs : List V} {zs : List Pr}, PrsAt x G vs zs → PrsAt p H2 vs zs := fun {vs zs} h => by
        induction h with
        | nil => exact .nil
        | cons h _ ih =>
          obtain ⟨t, e, n, ht⟩ := h
          exact .cons ⟨t, e, (fun z => by rw [z, L.off] at ht; cases ht), L2.s _ _ ht⟩ ih
      exact this hv2
    have cin : InR R.length (wd R) (cells R) := fun z h => by
      obtain ⟨i, j, e, hi, hj, _⟩ := cells_nat h
      exact ⟨i, j, e, hi, hj⟩
    walk_at "rd"
    refine ⟨p, x, r2, G, R, vs2, cells R, rfl, L.t, L2.s, hr2, pv2, cin, cells_len g, fun b bs H3 s3 bk3 bl => ?_⟩
    have L3 := L2.same s3
    have rs2 : RS K H2 r3 es3 R := (rl3.same s2).rs (K := K)
    walk_at "rd"
    refine ⟨Nat.zero_le _, fun D nD => ?_⟩
    have s4 := Same.up (o := .lst []) (Same.refl H3) nD
    have hD4 : upd H3 D (.lst []) D = some (.lst []) := upd_same
    obtain ⟨H4, eH4⟩ : ∃ H4, H4 = upd H3 D (.lst []) := ⟨_, rfl⟩
    rw [← eH4] at s4 hD4 ⊢
    walk_at "rd"
    refine ⟨_, _, _, rfl, ?_⟩
    have s24 := s3.trans s4
    have L4 := L3.same s4
    have X4 := X.same (s1.trans (s2.trans s24))
    have Dr : ∀ (i : Nat) (b' : Addr), bs[i]? = some (.ref b') → b' ≠ D := fun i b' e z => by
      obtain ⟨a', e1, _, _, h1⟩ := bk3.row i _ e
      cases e1
      rw [z, nD] at h1
      cases h1
    have Db : D ≠ b := fun z => by rw [z, bk3.at_] at nD; cases nD
    have D2 : H2 D = none := s3.free nD
    have bk4 : Bk H2 H4 b bs (wd R) (inB (freeL R (zs.take 0))) := by
      refine ⟨bk3.nw, s4 _ _ bk3.at_, fun i v e => ?_, bk3.dist⟩
      obtain ⟨a', e1, n1, n2, h1⟩ := bk3.row i v e
      refine ⟨a', e1, n1, n2, ?_⟩
      rw [List.take_zero, free_nil]
      exact s4 _ _ h1
    walk_at "rd"
    refine ⟨a, adx, _, rfl, X4.o, one_no (by decide +kernel), ?_⟩
    walk_at "rd"
    have hq4 : H4 q0 = some (.lst vs) := (s1.trans (s2.trans s24)) _ _ hq0
    refine ⟨p, a, adx, q0, zs, vs, rfl, X4, hq4, fun q nq => ?_⟩
    have s5 := Same.up (o := .lst vs) (Same.refl H4) nq
    have hq5 : upd H4 q (.lst vs) q = some (.lst vs) := upd_same
    obtain ⟨H5, eH5⟩ : ∃ H5, H5 = upd H4 q (.lst vs) := ⟨_, rfl⟩
    rw [← eH5] at s5 hq5 ⊢
    have qD : q ≠ D := fun z => by rw [z, hD4] at nq; cases nq
    have qr : ∀ (i : Nat) (b' : Addr), bs[i]? = some (.ref b') → b' ≠ q := fun i b' e z => by
      obtain ⟨a', e1, _, _, h1⟩ := bk4.row i _ e
      cases e1
      rw [z, nq] at h1
      cases h1
    have q2 : H2 q = none := s24.free nq
    have bk5 : Bk H2 H5 b bs (wd R) (inB (freeL R (zs.take 0))) := by
      refine ⟨bk4.nw, s5 _ _ bk4.at_, fun i v e => ?_, bk4.dist⟩
      obtain ⟨a', e1, n1, n2, h1⟩ := bk4.row i v e
      exact ⟨a', e1, n1, n2, s5 _ _ h1⟩
    have hv2 : PrsAt p H2 vs zs := hv.keep (Keep.same (s1.trans s2))
    refine ⟨q, rfl, ⟨_, SqL.of hq5⟩, for_it walk_list (fun m σ H' => ∃ v6 v7 us, σ = [some (.ref x), some (.ref a), some (.str kd), some (.ref r3), some (.ref b), some (.ref D), v6, v7] ∧ Same H2 H' ∧ Bk H2 H' b bs (wd R) (inB (freeL R (zs.take m))) ∧ H' D = some (.lst us) ∧ us.length ≤ 200 * m ∧ FasAt p H' us (allF R zs kd m) ∧ H' q = some (.lst vs))
      ⟨_, _, [], rfl, s24.trans s5, bk5, s5 _ _ hD4, Nat.zero_le _, .nil, hq5⟩ (fun m σ H' _ z => by obtain ⟨_, _, _, _, _, _, _, _, _, z⟩ := z; exact SqL.of z) ?_ ?_⟩
    · rintro m y σ H60 H6 hm ⟨v6, v7, us, rfl, s6, bk6, hD6, ul6, f6, hq6⟩ ⟨rfl, ey⟩
      obtain ⟨z, ez, pz⟩ := hv2.at ey
      obtain ⟨i, j, rfl, hi, hj, hs⟩ := cells_nat (L.pm.mem_iff.mp (List.mem_of_getElem? ez))
      have ml : m < 64 := by have : m < zs.length := (List.getElem?_eq_some_iff.mp ez).1; omega
      obtain ⟨t, rfl, tp, ht⟩ := pz
      refine r_gtup ⟨t, _, rfl, SqT.of (s6 _ _ ht), rfl, _, _, rfl, ?_⟩
      walk_at "rd"
      refine ⟨_, _, rfl, ?_⟩
      walk_at "rd"
      refine ⟨rfl, ?_⟩
      walk_at "rd"
      have hbi : i < bs.length := by omega
      obtain ⟨b', e1, n1', n2', h'⟩ := bk6.row i _ (List.getElem?_eq_getElem hbi)
      have ebi : bs[i]? = some (.ref b') := by rw [List.getElem?_eq_getElem hbi, e1]
      refine r_ixL (SqL.of bk6.at_) (atI_nat ebi) ?_
      walk_at "rd"
      refine r_setL h' (ixN_nat (by rw [mkB_len]; exact hj)) ?_
      rw [mkB_clr]
      have s7 : Same H2 (upd H6 b' (.lst (mkB (wd R) fun k => inB (freeL R (zs.take m)) i k && !decide (k = j)))) := fun c o e => by
        rw [upd_ne (fun z => by rw [z, n2'] at e; cases e)]
        exact s6 _ _ e
      have bk7 : Bk H2 (upd H6 b' (.lst (mkB (wd R) fun k => inB (freeL R (zs.take m)) i k && !decide (k = j)))) b bs (wd R) (inB (freeL R (zs.take (m + 1)))) := by
        refine ⟨bk6.nw, by rw [upd_ne (Ne.symm n1')]; exact bk6.at_, fun i2 v e => ?_, bk6.dist⟩
        obtain ⟨b2, e2, m1, m2, h2⟩ := bk6.row i2 v e
        by_cases c : i2 = i
        · subst c
          rw [ebi] at e
          cases (Option.some.inj e)
          refine ⟨b', rfl, n1', n2', ?_⟩
          rw [upd_same]
          congr 2
          congr 1
          funext k
          rw [inB_take ez, decide_eq_true rfl, Bool.true_and]
        · refine ⟨b2, e2, m1, m2, ?_⟩
          have nb : b2 ≠ b' := fun z => c (bk6.dist i2 i b' (by rw [e, e2, z]) ebi)
          rw [upd_ne nb, h2]
          congr 2
          congr 1
          funext k
          rw [inB_take ez, decide_eq_false c, Bool.false_and, Bool.not_false, Bool.and_true]
      have hD7 : upd H6 b' (.lst (mkB (wd R) fun k => inB (freeL R (zs.take m)) i k && !decide (k = j))) D = some (.lst us) := by
        rw [upd_ne (Ne.symm (Dr i b' ebi))]
        exact hD6
      have hq7 : upd H6 b' (.lst (mkB (wd R) fun k => inB (freeL R (zs.take m)) i k && !decide (k = j))) q = some (.lst vs) := by
        rw [upd_ne (Ne.symm (qr i b' ebi))]
        exact hq6
      have f7 : FasAt p (upd H6 b' (.lst (mkB (wd R) fun k => inB (freeL R (zs.take m)) i k && !decide (k = j)))) us (allF R zs kd m) := f6.keepT fun t2 xs e => by
        rw [upd_ne (fun z => by rw [z, h'] at e; cases e)]
        exact e
      obtain ⟨H7, eH7⟩ : ∃ H7, H7 = upd H6 b' (.lst (mkB (wd R) fun k => inB (freeL R (zs.take m)) i k && !decide (k = j))) := ⟨_, rfl⟩
      rw [← eH7] at s7 bk7 hD7 hq7 f7 ⊢
      have L7 := L2.same s7
      obtain ⟨op, hop⟩ := L7.pp
      walk_at "rd"
      refine r_bm ?_
      walk_at "rd"
      refine ⟨.inl ⟨rfl, _, SqL.of hD7⟩, ?_⟩
      walk_at "rd"
      refine ⟨by show 2 ≤ sizeLine; decide, fun t8 n8 => ?_⟩
      have s8 := Same.up (o := .tup [V.int (i : Int), V.int (j : Int)]) (Same.refl H7) n8
      have t8p : t8 ≠ p := fun z => by rw [z, hop] at n8; cases n8
      have ht8 : upd H7 t8 (.tup [V.int (i : Int), V.int (j : Int)]) t8 = some (.tup [V.int (i : Int), V.int (j : Int)]) := upd_same
      obtain ⟨H8, eH8⟩ : ∃ H8, H8 = upd H7 t8 (.tup [V.int (i : Int), V.int (j : Int)]) := ⟨_, rfl⟩
      rw [← eH8] at s8 ht8 ⊢
      have pt8 : PrAt p H8 (.ref t8) ((i : Int), (j : Int)) := ⟨t8, rfl, t8p, ht8⟩
      walk_at "rd"
      refine ⟨p, r3, b, .ref t8, es3, R, inB (freeL R (zs.take (m + 1))), i, j, kd, rfl, ⟨rs2.same (s7.trans s8), g, (bk7.bs bl).same s8, pt8, hi, hj, free_sub _, hs, ⟨op, s8 _ _ hop⟩⟩, fun r9 us9 H9 s9 h9 l9 f9 => ?_⟩
      have s79 := s8.trans s9
      have hD9 := s79 _ _ hD7
      have f99 := f9.fas (pt8.keep (Keep.same s9))
      walk_at "rd"
      refine ⟨D, r9, us, us9, rfl, rfl, hD9, h9, Nat.le_trans (show us.length + us9.length ≤ 13000 by omega) (by decide), ?_⟩
      have am : allF R zs kd (m + 1) = allF R zs kd m ++ (fauL R (inB (freeL R (zs.take (m + 1)))) i j kd).map fun f => (((i : Int), (j : Int)), f) := by
        rw [allF_more]
        unfold fAt
        rw [ez]
        simp only [Int.toNat_natCast]
      have kt : ∀ t2 xs, H9 t2 = some (.tup xs) → upd H9 D (.lst (us ++ us9)) t2 = some (.tup xs) := fun t2 xs e => by
        rw [upd_ne (fun z => by rw [z, hD9] at e; cases e)]
        exact e
      refine ⟨_, _, us ++ us9, rfl, fun c o e => ?_, ⟨bk7.nw, ?_, fun i2 v e => ?_, bk7.dist⟩, upd_same, by rw [List.length_append]; omega, ?_, ?_⟩
      · rw [upd_ne (fun z => by rw [z, D2] at e; cases e)]
        exact s79 _ _ (s7 _ _ e)
      · rw [upd_ne (Ne.symm Db)]
        exact s79 _ _ bk7.at_
      · obtain ⟨a', e1', m1, m2, h2⟩ := bk7.row i2 v e
        refine ⟨a', e1', m1, m2, ?_⟩
        rw [upd_ne (Dr i2 a' (by rw [e, e1']))]
        exact s79 _ _ h2
      · rw [am]
        exact ((f7.keepT fun t2 xs e => s79 _ _ e).app f99).keepT kt
      · rw [upd_ne qD]
        exact s79 _ _ hq7
    · rintro σ H6 ⟨v6, v7, us, rfl, s6, bk6, hD6, ul6, f6, hq6⟩
      rw [vl] at ul6 f6
      walk_at "rd"
      exact k D us H6 (s1.trans (s2.trans s6)) ((s1.trans s2).free D2) hD6 (by omega) f6
end
end Pk
set_option Elab.async false
set_option linter.all false
set_option maxRecDepth 100000
set_option maxHeartbeats 4000000
namespace Pk
open PySem L2
local macro_rules | `(tactic| walk_at "rd") => `(tactic| repeat (first
  | with_reducible refine r_seq ?_ | with_reducible refine r_nxt ?_ | with_reducible refine r_asg ?_ | with_reducible refine r_to ?_ | with_reducible refine r_ret ?_ | with_reducible refine r_for ?_ | with_reducible refine r_lc ?_ | with_reducible refine r_lc2 ?_ | with_reducible refine r_rng1 ?_ | with_reducible refine r_list ?_ | with_reducible refine r_tupI ?_ | with_reducible refine r_drop ?_ | with_reducible refine r_ifs ?_
  | with_reducible refine r_op ?_ | with_reducible refine r_c ?_ | with_reducible refine r_var rfl ?_ | with_reducible refine r_var (by assumption) ?_ | with_reducible refine r_I0 ?_ | with_reducible refine r_un ?_ | with_reducible refine r_U ?_ | with_reducible refine r_make ?_ | with_reducible refine r_makeS ?_ | with_reducible refine r_ifE ?_ | with_reducible refine r_cm ?_ | with_reducible refine r_mkV rfl ?_ | with_reducible refine r_sub ?_
  | with_reducible refine r_nil ?_ | with_reducible refine r_cons ?_ | with_reducible refine r_cb ?_ | with_reducible refine r_sl ?_ | with_reducible refine r_noP ?_ | with_reducible refine r_part ?_ | with_reducible refine r_isI ?_ | with_reducible refine r_lst ?_ | with_reducible refine r_tup ?_ | with_reducible refine r_call ?_ | with_reducible refine r_callS ?_ | with_reducible refine r_sFldU ?_ | with_reducible refine r_chain ?_ | with_reducible refine r_enum ?_ | with_reducible refine r_zip ?_ | with_reducible refine r_rng3 ?_ | with_reducible refine r_gtup ?_ | with_reducible refine r_methU ?_
  | with_reducible refine r_test ?_ | with_reducible refine r_B ?_ | with_reducible refine r_and ?_ | with_reducible refine r_or ?_ | with_reducible refine r_not ?_ | with_reducible refine r_andV ?_ | with_reducible refine r_orV ?_ | with_reducible refine r_notV ?_ | with_reducible refine r_bl ?_ | with_reducible refine r_yes ?_ | with_reducible refine r_int ?_ | with_reducible refine r_is0 ?_ | with_reducible refine r_is1 ?_ | with_reducible refine iteT ?_ | with_reducible refine iteF ?_ | with_reducible refine ite_nF ?_ | with_reducible refine ite_nT ?_
  | with_reducible refine r_mod (by decide) ?_ | with_reducible refine r_div (by decide) (by decide) ?_ | with_reducible refine r_mulR (by decide) (by decide) ?_ | with_reducible refine r_mulL (by decide) (by decide) ?_ | with_reducible refine r_pow (by decide) (by decide) (by decide) ?_))
theorem stB_in {B : Nat → Nat → Bool} {n i j r : Nat} (h1 : r < n) (h2 : r ≠ i) (h3 : B r j = true) : r ∈ stB B n i j := by
  unfold stB
  rw [List.mem_filter, List.mem_range]
  exact ⟨h1, by rw [decide_eq_false h2, h3]; rfl⟩
theorem wiB_in {B : Nat → Nat → Bool} {w i j s : Nat} (h1 : s < w) (h2 : s ≠ j) (h3 : B i s = true) : s ∈ wiB B w i j := by
  unfold wiB
  rw [List.mem_filter, List.mem_range]
  exact ⟨h1, by rw [decide_eq_false h2, h3]; rfl⟩
/-! ### the needs of the law: what crosses -/
theorem deqN (a b : Nat) : decide (V.int (a : Int) = V.int (b : Int)) = decide (a = b) := decide_eq_decide.mpr ⟨fun h => by have := V.int.inj h; omega, fun h => by rw [h]⟩
/-- two other cells of the lines of (i, j), both there, of which one must stand first -/
def lcB (R : Rw) (i j r s : Nat) : Bool := !decide (r = i) && !decide (s = j) && (prc R i s).isSome && (prc R r j).isSome && crB R i j r s
def spLCr (K : PySem.W.Frag) : Sp := fun vs H Q _ => ∃ (a : Addr) (es : List V) (R : Rw) (i j r s : Nat), vs = [.ref a, .int (i : Int), .int (j : Int), .int (r : Int), .int (s : Int)] ∧ RS K H a es R ∧ Gt R ∧ i < R.length ∧ j < wd R ∧ r < R.length ∧ s < wd R ∧ (prc R i j).isSome = true ∧ Q (.bl (lcB R i j r s)) H
abbrev slLCr : Stmt := top 64
section
variable {P : Program} {w : World} {K : PySem.W.Frag} {mg : Str → Option Value} {base : Heap} {f : Addr} {fd : FuncData}
theorem sclLCr : FnScope ["_law_grid", "_law_i", "_law_j", "_law_r", "_law_s", "_law_straight"] ["_law_grid", "_law_i", "_law_j", "_law_r", "_law_s"] (defScope slLCr) := ⟨rfl, rfl, rfl, by decide +kernel, rfl, by decide +kernel, by decide +kernel⟩
theorem ok_lCr (F : Fun K "_law_cross" "_law_cross" slLCr f fd) : FnOk P w K mg base CX0 1 f fd ["_law_grid", "_law_i", "_law_j", "_law_r", "_law_s"] (spLCr K) := by
  refine F.ok sclLCr (fun vs H Q E h => ?_) (fun cdv A outer s H vs Q E hr h => ?_)
  · obtain ⟨a, es, R, i, j, r, s, rfl, _⟩ := h
    rfl
  · obtain ⟨a, es, R, i, j, r, s, rfl, rs, g, hi, hj, hr', hs, pij, k⟩ := h
    refine ⟨_, (pss_cons (ps_if (PW.pt (pw_or (pt_cmpR op_eq (pv 3) (pv 1) (nomark _)) (pw_or1 (pt_cmpR op_eq (pv 4) (pv 2) (nomark _))))) (pss_one (ps_ret pe_bl)) pss_nil)
  (pss_cons (ps_if (PW.pt (pw_or (pt_cmpR op_is0 (pe_ix ix_list (pe_ix ix_list (pv 0) (pv 1) (fun _ _ => rfl)) (pv 4) (fun _ _ => rfl)) pe_non (nomark _)) (pw_or1 (pt_cmpR op_is0 (pe_ix ix_list (pe_ix ix_list (pv 0) (pv 3) (fun _ _ => rfl)) (pv 2) (fun _ _ => rfl)) pe_non (nomark _))))) (pss_one (ps_ret pe_bl)) pss_nil)
  (pss_cons (ps_if (pt_cmpR op_is0 (pe_ix ix_list (pe_ix ix_list (pv 0) (pv 3) (fun _ _ => rfl)) (pv 4) (fun _ _ => rfl)) pe_non (nomark _)) (pss_one (ps_ret pe_bl)) pss_nil)
  (pss_cons (ps_set (i := 5) sclLCr.nd rfl (Or.inl rfl) (pe_op op_add (pe_ix ix_list (pe_ix ix_list (pv 0) (pv 1) (fun _ _ => rfl)) (pv 2) (fun _ _ => rfl)) (pe_ix ix_list (pe_ix ix_list (pv 0) (pv 3) (fun _ _ => rfl)) (pv 4) (fun _ _ => rfl))))
  (pss_one (ps_ret (pe_cmpR op_gt (pv 5) (pe_op op_add (pe_ix ix_list (pe_ix ix_list (pv 0) (pv 1) (fun _ _ => rfl)) (pv 4) (fun _ _ => rfl)) (pe_ix ix_list (pe_ix ix_list (pv 0) (pv 3) (fun _ _ => rfl)) (pv 2) (fun _ _ => rfl))) (nomark _)))))))), ?_⟩
    obtain ⟨ai, eai, hai⟩ := rs.get hi
    obtain ⟨ar, ear, har⟩ := rs.get hr'
    walk_at "rd"
    refine r_eq rfl ?_
    rw [deqN]
    refine ⟨_, rfl, ?_⟩
    unfold lcB at k
    by_cases c1 : r = i
    · refine ifT (decide_eq_true c1) ?_
      walk_at "rd"
      rw [decide_eq_true c1] at k
      exact k
    · refine ifF (decide_eq_false c1) ?_
      rw [decide_eq_false c1, Bool.not_false, Bool.true_and] at k
      walk_at "rd"
      refine r_eq rfl ?_
      rw [deqN]
      refine ⟨_, rfl, ?_⟩
      by_cases c2 : s = j
      · refine ifT (decide_eq_true c2) ?_
        walk_at "rd"
        rw [decide_eq_true c2] at k
        exact k
      · refine ifF (decide_eq_false c2) ?_
        rw [decide_eq_false c2, Bool.not_false, Bool.true_and] at k
        walk_at "rd"
        refine r_ixL rs.at_ (atI_nat eai) ?_
        walk_at "rd"
        refine r_ixL hai (atI_nat (prc_get g hi hs)) ?_
        walk_at "rd"
        cases e1 : prc R i s with
        | none =>
          refine ifT (decide_eq_true rfl) ?_
          walk_at "rd"
          rw [e1] at k
          exact k
        | some x1 =>
          refine ifF (decide_eq_false (fun z => by cases z)) ?_
          rw [e1, Option.isSome_some, Bool.true_and] at k
          walk_at "rd"
          refine r_ixL rs.at_ (atI_nat ear) ?_
          walk_at "rd"
          refine r_ixL har (atI_nat (prc_get g hr' hj)) ?_
          walk_at "rd"
          cases e2 : prc R r j with
          | none =>
            refine ifT (decide_eq_true rfl) ?_
            walk_at "rd"
            rw [e2] at k
            exact k
          | some x2 =>
            refine ifF (decide_eq_false (fun z => by cases z)) ?_
            rw [e2, Option.isSome_some, Bool.true_and] at k
            walk_at "rd"
            refine r_ixL rs.at_ (atI_nat ear) ?_
            walk_at "rd"
            refine r_ixL har (atI_nat (prc_get g hr' hs)) ?_
            walk_at "rd"
            have v1 : (prc R i s).isSome = true := by rw [e1]; rfl
            have v2 : (prc R r j).isSome = true := by rw [e2]; rfl
            cases e : prc R r s with
            | none =>
              refine ifT (decide_eq_true rfl) ?_
              rw [crB, e] at k
              walk_at "rd"
              exact k
            | some x =>
              refine ifF (decide_eq_false (fun z => by cases z)) ?_
              rw [crB, e] at k
              walk_at "rd"
              refine r_ixL rs.at_ (atI_nat eai) ?_
              walk_at "rd"
              refine r_ixL hai (atI_nat (prc_get g hi hj)) ?_
              rw [val_of pij]
              walk_at "rd"
              refine r_ixL rs.at_ (atI_nat ear) ?_
              walk_at "rd"
              refine r_ixL har (atI_nat (prc_get g hr' hs)) ?_
              rw [e]
              show rI0 (fun i j => V.int (i + j)) (V.int (val R i j)) (V.int x) _ _
              walk_at "rd"
              refine r_ixL rs.at_ (atI_nat eai) ?_
              walk_at "rd"
              refine r_ixL hai (atI_nat (prc_get g hi hs)) ?_
              rw [val_of v1]
              walk_at "rd"
              refine r_ixL rs.at_ (atI_nat ear) ?_
              walk_at "rd"
              refine r_ixL har (atI_nat (prc_get g hr' hj)) ?_
              rw [val_of v2]
              walk_at "rd"
              exact k
end
/-! ### the needs of the law, in numbers -/
def crossN (R : Rw) (i j : Nat) : List (List Pr) := (List.range R.length).flatMap fun r => ((List.range (wd R)).filter fun s => lcB R i j r s).map fun (s : Nat) => [((i : Int), (s : Int)), ((r : Int), (j : Int))]
def colN (R : Rw) (i j : Nat) : List (List Pr) := ((List.range R.length).filter fun r => (prc R r j).isSome && decide (val R r j < val R i j)).map fun (r : Nat) => [((r : Int), (j : Int))]
def rowN (R : Rw) (i j : Nat) : List (List Pr) := ((List.range (wd R)).filter fun s => (prc R i s).isSome && decide (val R i s < val R i j)).map fun (s : Nat) => [((i : Int), (s : Int))]
def needsL (R : Rw) (i j : Nat) (k : Str) : List (List Pr) := (crossN R i j ++ (if hasC k = true then colN R i j else [])) ++ (if hasR k = true then rowN R i j else [])
def metB (ns : List (List Pr)) (ps : List Pr) : Prop := ∀ n, n ∈ ns → ∃ z, z ∈ n ∧ z ∈ ps
theorem met_app {xs ys : List (List Pr)} {ps : List Pr} : metB (xs ++ ys) ps ↔ metB xs ps ∧ metB ys ps :=
  ⟨fun h => ⟨fun n hn => h n (List.mem_append_left _ hn), fun n hn => h n (List.mem_append_right _ hn)⟩, fun h n hn => (List.mem_append.mp hn).elim (h.1 n) (h.2 n)⟩
theorem inB_free {R : Rw} {ps : List Pr} {r s : Nat} : inB (freeL R ps) r s = true ↔ ((r : Int), (s : Int)) ∈ cells R ∧ ((r : Int), (s : Int)) ∉ ps := by
  unfold inB
  rw [decide_eq_true_iff, free_mem]
section
variable {R : Rw} {ps : List Pr} {i j : Nat} (hi : i < R.length) (hj : j < wd R)
include hi hj in
theorem met_cross : metB (crossN R i j) ps ↔ crossL R (inB (freeL R ps)) i j = [] := by
  constructor
  · intro h
    refine List.eq_nil_iff_forall_not_mem.mpr fun z hz => ?_
    unfold crossL at hz
    obtain ⟨r, hr, hz⟩ := List.mem_flatMap.mp hz
    unfold crRow at hz
    obtain ⟨s, hs, rfl⟩ := List.mem_map.mp hz
    obtain ⟨hs, hc⟩ := List.mem_filter.mp hs
    obtain ⟨r1, r2, r3⟩ := stB_mem hr
    obtain ⟨w1, w2, w3⟩ := wiB_mem hs
    obtain ⟨a1, a2⟩ := inB_free.mp r3
    obtain ⟨b1, b2⟩ := inB_free.mp w3
    have lc : lcB R i j r s = true := by
      unfold lcB
      rw [decide_eq_false r2, decide_eq_false w2, (mem_cells.mp b1).2.2, (mem_cells.mp a1).2.2, hc]
      rfl
    obtain ⟨z, hz, hp⟩ := h [((i : Int), (s : Int)), ((r : Int), (j : Int))] (List.mem_flatMap.mpr ⟨r, List.mem_range.mpr r1, List.mem_map.mpr ⟨s, List.mem_filter.mpr ⟨List.mem_range.mpr w1, lc⟩, rfl⟩⟩)
    rcases List.mem_cons.mp hz with rfl | hz
    · exact b2 hp
    · rw [List.mem_singleton.mp hz] at hp
      exact a2 hp
  · intro h n hn
    obtain ⟨r, hr, hn⟩ := List.mem_flatMap.mp hn
    obtain ⟨s, hs, rfl⟩ := List.mem_map.mp hn
    obtain ⟨hs, lc⟩ := List.mem_filter.mp hs
    have r1 := List.mem_range.mp hr
    have w1 := List.mem_range.mp hs
    unfold lcB at lc
    simp only [Bool.and_eq_true, Bool.not_eq_true', decide_eq_false_iff_not] at lc
    obtain ⟨⟨⟨⟨r2, w2⟩, p1⟩, p2⟩, hc⟩ := lc
    by_cases c1 : ((i : Int), (s : Int)) ∈ ps
    · exact ⟨_, List.mem_cons_self .., c1⟩
    · by_cases c2 : ((r : Int), (j : Int)) ∈ ps
      · exact ⟨_, List.mem_cons_of_mem _ (List.mem_cons_self ..), c2⟩
      · exfalso
        have m : ((r : Int), (s : Int)) ∈ crossL R (inB (freeL R ps)) i j := by
          unfold crossL
          refine List.mem_flatMap.mpr ⟨r, stB_in r1 r2 (inB_free.mpr ⟨mem_cells.mpr ⟨r1, hj, p2⟩, c2⟩), ?_⟩
          unfold crRow
          exact List.mem_map.mpr ⟨s, List.mem_filter.mpr ⟨wiB_in w1 w2 (inB_free.mpr ⟨mem_cells.mpr ⟨hi, w1, p1⟩, c1⟩), hc⟩, rfl⟩
        rw [h] at m
        cases m
include hi hj in
theorem met_col : metB (colN R i j) ps ↔ colL R (inB (freeL R ps)) i j = [] := by
  constructor
  · intro h
    refine List.eq_nil_iff_forall_not_mem.mpr fun z hz => ?_
    unfold colL at hz
    obtain ⟨r, hr, rfl⟩ := List.mem_map.mp hz
    obtain ⟨hr, hc⟩ := List.mem_filter.mp hr
    obtain ⟨r1, r2, r3⟩ := stB_mem hr
    obtain ⟨a1, a2⟩ := inB_free.mp r3
    obtain ⟨z, hz, hp⟩ := h [((r : Int), (j : Int))] (List.mem_map.mpr ⟨r, List.mem_filter.mpr ⟨List.mem_range.mpr r1, by rw [(mem_cells.mp a1).2.2]; exact hc⟩, rfl⟩)
    rw [List.mem_singleton.mp hz] at hp
    exact a2 hp
  · intro h n hn
    obtain ⟨r, hr, rfl⟩ := List.mem_map.mp hn
    obtain ⟨hr, hc⟩ := List.mem_filter.mp hr
    have r1 := List.mem_range.mp hr
    simp only [Bool.and_eq_true, decide_eq_true_eq] at hc
    obtain ⟨p2, hc⟩ := hc
    by_cases c2 : ((r : Int), (j : Int)) ∈ ps
    · exact ⟨_, List.mem_cons_self .., c2⟩
    · exfalso
      have r2 : r ≠ i := fun e => by rw [e] at hc; omega
      have m : ((r : Int), (j : Int)) ∈ colL R (inB (freeL R ps)) i j := by
        unfold colL
        exact List.mem_map.mpr ⟨r, List.mem_filter.mpr ⟨stB_in r1 r2 (inB_free.mpr ⟨mem_cells.mpr ⟨r1, hj, p2⟩, c2⟩), decide_eq_true hc⟩, rfl⟩
      rw [h] at m
      cases m
include hi hj in
theorem met_row : metB (rowN R i j) ps ↔ rowL R (inB (freeL R ps)) i j = [] := by
  constructor
  · intro h
    refine List.eq_nil_iff_forall_not_mem.mpr fun z hz => ?_
    unfold rowL at hz
    obtain ⟨s, hs, rfl⟩ := List.mem_map.mp hz
    obtain ⟨hs, hc⟩ := List.mem_filter.mp hs
    obtain ⟨w1, w2, w3⟩ := wiB_mem hs
    obtain ⟨b1, b2⟩ := inB_free.mp w3
    obtain ⟨z, hz, hp⟩ := h [((i : Int), (s : Int))] (List.mem_map.mpr ⟨s, List.mem_filter.mpr ⟨List.mem_range.mpr w1, by rw [(mem_cells.mp b1).2.2]; exact hc⟩, rfl⟩)
    rw [List.mem_singleton.mp hz] at hp
    exact b2 hp
  · intro h n hn
    obtain ⟨s, hs, rfl⟩ := List.mem_map.mp hn
    obtain ⟨hs, hc⟩ := List.mem_filter.mp hs
    have w1 := List.mem_range.mp hs
    simp only [Bool.and_eq_true, decide_eq_true_eq] at hc
    obtain ⟨p1, hc⟩ := hc
    by_cases c1 : ((i : Int), (s : Int)) ∈ ps
    · exact ⟨_, List.mem_cons_self .., c1⟩
    · exfalso
      have w2 : s ≠ j := fun e => by rw [e] at hc; omega
      have m : ((i : Int), (s : Int)) ∈ rowL R (inB (freeL R ps)) i j := by
        unfold rowL
        exact List.mem_map.mpr ⟨s, List.mem_filter.mpr ⟨wiB_in w1 w2 (inB_free.mpr ⟨mem_cells.mpr ⟨hi, w1, p1⟩, c1⟩), decide_eq_true hc⟩, rfl⟩
      rw [h] at m
      cases m
include hi hj in
theorem met_fau (k : Str) : metB (needsL R i j k) ps ↔ fauL R (inB (freeL R ps)) i j k = [] := by
  have nil : ∀ {z : Str} {l : List Pr}, wrd z l = [] ↔ l = [] := fun {z l} => List.map_eq_nil_iff
  have mn : metB ([] : List (List Pr)) ps := fun n hn => by cases hn
  unfold needsL fauL
  rw [met_app, met_app, List.append_eq_nil_iff, List.append_eq_nil_iff, nil, met_cross hi hj]
  have e1 : metB (if hasC k = true then colN R i j else []) ps ↔ (if hasC k = true then wrd "column" (colL R (inB (freeL R ps)) i j) else []) = [] := by
    split
    · rw [nil]; exact met_col hi hj
    · exact ⟨fun _ => rfl, fun _ => mn⟩
  have e2 : metB (if hasR k = true then rowN R i j else []) ps ↔ (if hasR k = true then wrd "row" (rowL R (inB (freeL R ps)) i j) else []) = [] := by
    split
    · rw [nil]; exact met_row hi hj
    · exact ⟨fun _ => rfl, fun _ => mn⟩
  rw [e1, e2]
end
end Pk
set_option Elab.async false
set_option linter.all false
set_option maxRecDepth 100000
set_option maxHeartbeats 2000000
/-! A dict comprehension whose keys are tuples. -/
namespace Pk
open PySem L2 PySem.Spec PyProof.Rows
/-- an entry is stored under a tuple -/
def PutT (H : Hp) (D : Addr) (y z : V) (H' : Hp) : Prop := ∃ (kvs : List (List Key × V)) (k : List Key) (b : Addr), y = V.ref b ∧ H b = some (.tup (k.map kV)) ∧ H D = some (.dT kvs) ∧ kvs.length < sizeLine ∧ H' = upd H D (.dT (putK kvs k z))
section
variable {X : Cx} {pn : List (Addr × Obj)} {τ : L2.St} {G G' : Hp} {sh : Shared} {D : Addr} {y z : V} {key val : Value} {Er : Value → Shared → Prop} {Qd : Unit → Shared → Prop}
theorem put_dictT (room : X.A.units + 64 < cLine) (J : Inv X pn τ G sh) (st : PutT G D y z G') (ry : RelV y key) (rz : RelV z val)
    (want : ∀ s', Inv X pn τ G' s' → Qd () s') : wpAny (model X.prog X.w) X.A (dictSet D key val) Qd Er sh := by
  obtain ⟨kvs, k, b, rfl, atb, atD, short, rfl⟩ := st
  cases (show key = Value.ref b from ry)
  obtain ⟨line, notSys, entries, rel, isD⟩ := dt_of J.hok atD
  have fits : entries.length ≤ sizeLine := by rw [← Paired.length rel]; exact line
  have after : (putK kvs k z).length ≤ sizeLine := by have := length_putK kvs k z; omega
  refine wpAny_dictSet_heap (hsz := fits) (show X.A.units < cLine by omega) (key_of J.hok atb) isD fun h' isD' but => want _ ?_
  obtain ⟨o, es, ep, ho, p2, p3, p4, _, p5⟩ := isD'
  refine d_write J (by rw [atD]; exact True.intro) but ⟨o, ho⟩ ⟨after, notSys, _, (rel.put k atb rz).keeps fun c ys ec => ?_, o, es, ep, ho, p2, p3, p4, p5⟩
  rw [upd_ne (ne_of ec atD (fun q => nomatch q))]
  exact ec
end
/-- what {k: v for target in iter if ..} asks, the keys tuples -/
def tDcT (wi : TI) (g : TG) (tt : TT) (tk tv : TE) (vs : List Nat) : TE := fun σ H Q => wi σ H fun J H1 => ∀ D, H1 D = none →
  ∃ W : Nat → Nat → Hp → Prop, (∃ m, W 0 m (upd H1 D (.dT []))) ∧ ∀ i m H, W i m H →
    (J.stop i H ∧ Q (.ref D) H) ∨
    (J.go i H ∧ ∃ Nx : Hp → Prop, (∀ H', Nx H' → ∃ m', m' < m ∧ W (i + 1) m' H') ∧
      ∀ x H', J.yld i H x H' → g x (wipe σ vs) H' fun σ2 H2 => wipe σ2 vs = wipe σ vs ∧
        tt σ2 H2 fun b H3 => if b = true then tk σ2 H3 fun y H4 => tv σ2 H4 fun z H5 => ∃ H6, PutT H5 D y z H6 ∧ Nx H6 else Nx H3)
section
variable {X : Cx}
theorem pe_dcT {kx vx tg iter : Expr} {ifs : List Expr} {scope : Scope} {own : List (Str × Nat)} {pos : Pos} {wi : TI} {g : TG} {tt : TT} {tk tv : TE}
    (room : X.A.units + 64 < cLine) (hc : X.calm = true) (hN : X.N.Nodup) (hi : PI X tg iter wi) (ok : BlkOk X.N X.env.scope scope own)
    (hg : ∀ (s : Shared) (H : Hp) (C : Addr) (cl : List (Str × Addr)) (fp : List Addr),
      PG (X.blk s H scope (compEnvC scope cl C X.env) fp) tg g)
    (ht : ∀ (s : Shared) (H : Hp) (C : Addr) (cl : List (Str × Addr)) (fp : List Addr),
      PTs (X.blk s H scope (compEnvC scope cl C X.env) fp) ifs tt)
    (hk : ∀ (s : Shared) (H : Hp) (C : Addr) (cl : List (Str × Addr)) (fp : List Addr),
      PE (X.blk s H scope (compEnvC scope cl C X.env) fp) kx tk)
    (he : ∀ (s : Shared) (H : Hp) (C : Addr) (cl : List (Str × Addr)) (fp : List Addr),
      PE (X.blk s H scope (compEnvC scope cl C X.env) fp) vx tv)
    (fold : ∀ x, foldedSetIterable iter X.env x = pure x := by intro _; rfl) :
    PE X (.DictComp kx vx [⟨tg, iter, ifs, 0⟩] scope pos) (tDcT wi g tt tk tv (own.map (·.2))) := by
  refine ⟨fun pn sh τ G Q J want => ?_⟩
  rw [arm_eval_DictComp]
  have cells : ∀ y ∈ scope.names, y.2 = .free → ∃ c, X.env.cells.lookup y.1 = some c := fun y hy e =>
    (ok.free y hy e).elim (fun k => J.ok.has _ (.inl k)) (fun k => J.ok.has _ (.inr k))
  refine wpAny_comprehension_free rfl fold (closure_ok cells) ok.kind (fun y hy e => by rw [ok.uniq y hy, e]) ?_
  refine thn (hi.run pn sh τ G _ J want) fun src s1 begun => thn begun fun itv s2 begun2 => ?_
  obtain ⟨it, fp, turns, walk, G2, rfl, J2, T, at0, fps, q⟩ := begun2
  refine wpAny_newObj_type (newEnv_comp ?_)
  obtain ⟨D, eD⟩ : ∃ D, D = s2.heap.objs.size := ⟨_, rfl⟩
  have newD : G2 D = none := J2.hok.fresh (Nat.le_of_eq eD.symm)
  obtain ⟨W, ⟨m0, w0⟩, turn⟩ := q D newD
  obtain ⟨s3, es3⟩ : ∃ s3 : Shared, s3 = { s2 with heap := s2.heap.push { cls := .type "dict", data := .dict #[] } } := ⟨_, rfl⟩
  have heap3 : s3.heap = s2.heap.push { cls := .type "dict", data := .dict #[] } := by rw [es3]
  have J3 : Inv X pn τ (upd G2 D (.dT [])) s3 := by
    rw [es3]
    refine J2.laid (t' := s2.toks) (fun b o e => Heap.get?_push_of_some _ e) (Nat.le_of_eq eD.symm) ?_
    rw [eD]
    exact dt_empty s2.heap J2.big
  have below : ∀ b ∈ fp, b < s2.heap.objs.size := fun b hb => (T.obj _ _ at0 b hb).elim fun o e => Heap.lt_size e.1
  have fps3 : ∀ b ∈ fp, FpOk X pn (upd G2 D (.dT [])) b ∧ b < s3.heap.objs.size := fun b hb => by
    have lt := below b hb
    refine ⟨⟨?_, (fps b hb).2⟩, by rw [heap3, Heap.size_push]; exact Nat.lt_succ_of_lt lt⟩
    rw [upd_ne (by rw [eD]; exact Nat.ne_of_lt lt)]
    exact (fps b hb).1
  have at3 : turns 0 s3.heap := T.keep _ _ _ at0 fun b _ o e => by rw [heap3]; exact Heap.get?_push_of_some _ e
  have J4 := block_start J3 ok hN fps3
  -- the block's frame and its parts
  obtain ⟨cl, ecl⟩ : ∃ cl, cl = cellsFrom (s3.heap.objs.size + 1) scope.names (cloFrom X.env.cells scope.names []) := ⟨_, rfl⟩
  obtain ⟨G3, eG3⟩ : ∃ G3, G3 = upd G2 D (.dT []) := ⟨_, rfl⟩
  rw [← ecl, ← eG3] at J4
  rw [← eG3] at J3 w0 fps3
  have target := hg s3 G3 s3.heap.objs.size cl fp
  have tests := ht s3 G3 s3.heap.objs.size cl fp
  have keys := hk s3 G3 s3.heap.objs.size cl fp
  have values := he s3 G3 s3.heap.objs.size cl fp
  obtain ⟨s4, es4⟩ : ∃ s4 : Shared, s4 = { s3 with heap := pushCells (s3.heap.push { cls := .type "dict", data := .dict #[] }) scope.names } := ⟨_, rfl⟩
  rw [← es4] at J4
  have at4 : turns 0 s4.heap := T.keep _ _ _ at3 fun b _ o e => by rw [es4]; exact pushCells_keeps _ _ _ _ (Heap.get?_push_of_some _ e)
  obtain ⟨ce, ece⟩ : ∃ ce, ce = compEnvC scope cl s3.heap.objs.size X.env := ⟨_, rfl⟩
  have frame : ce.locals = s3.heap.objs.size := by rw [ece]; rfl
  rw [← ece] at J4 target tests keys values
  have still : ∀ {σ' : L2.St} {H' : Hp} {s' : Shared}, Inv (X.blk s3 G3 scope ce fp) [] σ' H' s' → (∀ b ∈ fp, H' b = none) →
      ∀ b ∈ fp, FpOk (X.blk s3 G3 scope ce fp) [] H' b := fun {σ' H' s'} J' off b hb =>
    ⟨off b hb, (J'.ok.exf b hb).1, J'.ok.exfs b hb, .inl hb, fun x c e => (J'.ok.exf b hb).2 x c e, fun p hp => absurd (show p ∈ ([] : List (Addr × Obj)) ++ [] from hp) (by simp)⟩
  have stopsAt : ∀ {s' : Shared} {m : PySem.Str → Option Value} {H' : Hp}, Inv X pn τ H' s' → Q (.ref D) H' → s'.heap.Ns ce.locals m → FpOk X pn H' ce.locals →
      compPost (model X.prog X.w) X.A X.xe none (EP X pn τ Q) (.ref D) ce.locals (.ok .next) s' := fun {s' m H'} J' q' ns fpok => by
    refine ⟨m, ns, fun h'' sb => ?_⟩
    obtain ⟨a0, a1, a2, a3, a4, a5⟩ := fpok
    exact ⟨.ref D, H', J'.turned (t' := s'.toks) (fun b o hb e => (sb.2 b hb).trans e) a0 a1 a3 a4 a5, rfl, q'⟩
  suffices goes : codeAny (model X.prog X.w) X.A (.compLoop (.DictComp kx vx [⟨tg, iter, ifs, 0⟩] scope pos) 0 (.ref it) (.ref D) ce)
      (compPost (model X.prog X.w) X.A X.xe none (EP X pn τ Q) (.ref D) ce.locals) s4 by
    have := codeAny_compStart_dict goes (T.self X.A 0 _ _ _ at4 goes)
    subst ece ecl es4 es3 eD
    exact this
  refine compLoop_anyD (fun n s' => ∃ i H', Inv (X.blk s3 G3 scope ce fp) [] (wipe τ (own.map (·.2))) H' s' ∧ turns i s'.heap ∧ (∀ b ∈ fp, H' b = none) ∧ W i n H') ?_ m0
    ⟨0, G3, J4, at4, (fun b hb => (fps3 b hb).1.1), w0⟩
  rintro n s5 ⟨i, G5, J5, at5, off5, w5⟩
  rcases turn i n G5 w5 with ⟨stop, here⟩ | ⟨go, Nx, less, step⟩
  · refine thnF (T.done (X.blk s3 G3 scope ce fp) rfl rfl rfl hc i [] s5 _ G5 (fun _ _ => False) J5 (still J5 off5) at5 stop) fun r s6 ended => ?_
    obtain ⟨rfl, J6⟩ := ended
    have J7 : Inv X pn τ G5 s6 := J3.call' (ch := fp) J6.os J6.base J6.hok J6.bare fun b hb =>
      ⟨(fps3 b hb).1.2.2.2.1, (fps3 b hb).1.2.1, (fps3 b hb).1.2.2.2.2.1, (fps3 b hb).1.2.2.2.2.2⟩
    obtain ⟨m, names, _⟩ := J6.loc
    refine stopsAt J7 here names ?_
    have free : G5 ce.locals = none := J6.free
    rw [frame] at free ⊢
    exact J3.fpOk (Nat.le_refl _) free
  · refine thnF (T.item (X.blk s3 G3 scope ce fp) rfl rfl rfl hc i [] s5 _ G5 (fun _ _ => False) J5 (still J5 off5) at5 go) fun r s6 got => ?_
    obtain ⟨u, rfl, got⟩ := got
    refine thnF got fun _ s7 had => ?_
    obtain ⟨x, G7, J7, rx, yx, at7, off7⟩ := had
    have J7' := J7.pinned (still J7 off7) (T.obj _ _ at7)
    refine thnF (target.run _ s7 _ G7 x u _ J7' rx (step x G7 yx)) fun _ s8 named => ?_
    obtain ⟨τ8, G8, J8, same8, q8⟩ := named
    refine thnF (tests.run _ s8 τ8 G8 _ J8 q8) fun b s9 told => ?_
    obtain ⟨G9, J9, q9⟩ := told
    have next : ∀ {s' : Shared} {H' : Hp}, Inv (X.blk s3 G3 scope ce fp) ([] ++ pinsAt fp s7.heap) τ8 H' s' → Nx H' →
        ∃ m, m < n ∧ ∃ i H', Inv (X.blk s3 G3 scope ce fp) [] (wipe τ (own.map (·.2))) H' s' ∧ turns i s'.heap ∧ (∀ b ∈ fp, H' b = none) ∧ W i m H' := fun {s' H'} J' nx => by
      obtain ⟨m', lt, w'⟩ := less H' nx
      have kept : ∀ b ∈ fp, ∀ o, s7.heap.get? b = some o → s'.heap.get? b = some o ∧ H' b = none := fun b hb o e => by
        have pin := J'.pin (b, o) (List.mem_append_right _ (List.mem_append_right _ (mem_pinsAt hb e)))
        exact ⟨pin.1, pin.2.1⟩
      refine ⟨m', lt, i + 1, H', (J'.unpinned (pins := [])).weak (by rw [← same8, wipe_length]) (fun j v e => ?_), T.keep _ _ _ at7 fun b hb o e => (kept b hb o e).1, fun b hb => ?_, w'⟩
      · rw [← same8] at e
        exact (wipe_some e).1
      · obtain ⟨o, e, _⟩ := T.obj _ _ at7 b hb
        exact (kept b hb o e).2
    cases b with
    | false =>
      rw [if_neg Bool.false_ne_true] at q9 ⊢
      exact next J9 q9
    | true =>
      rw [if_pos rfl] at q9 ⊢
      refine thnF (keys.run _ s9 τ8 G9 _ J9 q9) fun kv s10 keyed => ?_
      obtain ⟨yk, G10, J10, rk, q10⟩ := keyed
      refine thnF (values.run _ s10 τ8 G10 _ J10 q10) fun vv s11 valued => ?_
      obtain ⟨yv, G11, J11, rv, G12, put, nx⟩ := valued
      exact put_dictT (X := X.blk s3 G3 scope ce fp) room J11 put rk rv fun s12 J12 => next J12 nx
end
end Pk
set_option Elab.async false
set_option linter.all false
set_option maxRecDepth 100000
set_option maxHeartbeats 4000000
namespace Pk
open PySem L2
local macro_rules | `(tactic| walk_at "rd") => `(tactic| repeat (first
  | with_reducible refine r_seq ?_ | with_reducible refine r_nxt ?_ | with_reducible refine r_asg ?_ | with_reducible refine r_to ?_ | with_reducible refine r_ret ?_ | with_reducible refine r_for ?_ | with_reducible refine r_lc ?_ | with_reducible refine r_lc2 ?_ | with_reducible refine r_rng1 ?_ | with_reducible refine r_list ?_ | with_reducible refine r_tupI ?_ | with_reducible refine r_drop ?_ | with_reducible refine r_ifs ?_
  | with_reducible refine r_op ?_ | with_reducible refine r_c ?_ | with_reducible refine r_var rfl ?_ | with_reducible refine r_var (by assumption) ?_ | with_reducible refine r_I0 ?_ | with_reducible refine r_un ?_ | with_reducible refine r_U ?_ | with_reducible refine r_make ?_ | with_reducible refine r_makeS ?_ | with_reducible refine r_ifE ?_ | with_reducible refine r_cm ?_ | with_reducible refine r_mkV rfl ?_ | with_reducible refine r_sub ?_
  | with_reducible refine r_nil ?_ | with_reducible refine r_cons ?_ | with_reducible refine r_cb ?_ | with_reducible refine r_sl ?_ | with_reducible refine r_noP ?_ | with_reducible refine r_part ?_ | with_reducible refine r_isI ?_ | with_reducible refine r_lst ?_ | with_reducible refine r_tup ?_ | with_reducible refine r_call ?_ | with_reducible refine r_callS ?_ | with_reducible refine r_sFldU ?_ | with_reducible refine r_chain ?_ | with_reducible refine r_enum ?_ | with_reducible refine r_zip ?_ | with_reducible refine r_rng3 ?_ | with_reducible refine r_gtup ?_ | with_reducible refine r_methU ?_
  | with_reducible refine r_test ?_ | with_reducible refine r_B ?_ | with_reducible refine r_and ?_ | with_reducible refine r_or ?_ | with_reducible refine r_not ?_ | with_reducible refine r_andV ?_ | with_reducible refine r_orV ?_ | with_reducible refine r_notV ?_ | with_reducible refine r_bl ?_ | with_reducible refine r_yes ?_ | with_reducible refine r_int ?_ | with_reducible refine r_is0 ?_ | with_reducible refine r_is1 ?_ | with_reducible refine iteT ?_ | with_reducible refine iteF ?_ | with_reducible refine ite_nF ?_ | with_reducible refine ite_nT ?_
  | with_reducible refine r_mod (by decide) ?_ | with_reducible refine r_div (by decide) (by decide) ?_ | with_reducible refine r_mulR (by decide) (by decide) ?_ | with_reducible refine r_mulL (by decide) (by decide) ?_ | with_reducible refine r_pow (by decide) (by decide) (by decide) ?_))
/-! ### lists of lists of pairs; what is placed, as a dict -/
def FlAt (p : Addr) (H : Hp) (D : Addr) (cs : List Pr) (t : Pr → Bool) (i : Nat) (H' : Hp) : Prop := Same H H' ∧ ∃ us, H' D = some (.lst us) ∧ us.length ≤ i ∧ PrsAt p H' us ((cs.take i).filter t)
theorem FlAt.start {p : Addr} {H : Hp} {D : Addr} {cs : List Pr} {t : Pr → Bool} (nD : H D = none) : FlAt p H D cs t 0 (upd H D (.lst [])) := ⟨Same.up (Same.refl H) nD, [], upd_same, Nat.le_refl _, .nil⟩
theorem FlAt.yes {p : Addr} {H H2 : Hp} {D : Addr} {v : V} {cs : List Pr} {t : Pr → Bool} {i : Nat} {z : Pr} (h : FlAt p H D cs t i H2) (nD : H D = none) (ez : cs[i]? = some z) (pz : PrAt p H v z) (tz : t z = true) (l : i < sizeLine) :
    ∃ acc, H2 D = some (.lst acc) ∧ acc.length < sizeLine ∧ FlAt p H D cs t (i + 1) (upd H2 D (.lst (acc ++ [v]))) := by
  obtain ⟨s1, us, hD, ul, hu⟩ := h
  have nT : ∀ c xs, H2 c = some (.tup xs) → upd H2 D (.lst (us ++ [v])) c = some (.tup xs) := fun c xs e => by
    rw [upd_ne (fun z => by rw [z, hD] at e; cases e)]
    exact e
  refine ⟨us, hD, by omega, Same.upOff s1 nD, us ++ [v], upd_same, by rw [List.length_append]; show us.length + 1 ≤ _; omega, ?_⟩
  rw [List.take_add_one, ez, List.filter_append]
  show PrsAt p _ _ (_ ++ List.filter t [z])
  rw [List.filter_cons_of_pos tz]
  obtain ⟨a, e, n, ha⟩ := pz
  exact (hu.mono nT).app (.cons ⟨a, e, n, nT _ _ (s1 _ _ ha)⟩ .nil)
theorem FlAt.no {p : Addr} {H H2 : Hp} {D : Addr} {cs : List Pr} {t : Pr → Bool} {i : Nat} {z : Pr} (h : FlAt p H D cs t i H2) (ez : cs[i]? = some z) (tz : t z = false) : FlAt p H D cs t (i + 1) H2 := by
  obtain ⟨s1, us, hD, ul, hu⟩ := h
  refine ⟨s1, us, hD, by omega, ?_⟩
  rw [List.take_add_one, ez, List.filter_append]
  show PrsAt p _ _ (_ ++ List.filter t [z])
  rw [List.filter_cons_of_neg (by rw [tz]; exact Bool.false_ne_true), List.filter_nil, List.append_nil]
  exact hu
theorem FlAt.fin {p : Addr} {H H2 : Hp} {D : Addr} {cs : List Pr} {t : Pr → Bool} {n : Nat} (h : FlAt p H D cs t n H2) (e : n = cs.length) : Same H H2 ∧ ∃ us, H2 D = some (.lst us) ∧ PrsAt p H2 us (cs.filter t) := by
  obtain ⟨s1, us, hD, ul, hu⟩ := h
  rw [e, List.take_of_length_le (Nat.le_refl _)] at hu
  exact ⟨s1, us, hD, hu⟩
def kzP (z : Pr) : List Key := [.inl z.1, .inl z.2]
theorem kz_inj {y z : Pr} (h : kzP y = kzP z) : y = z := by
  unfold kzP at h
  simp only [List.cons.injEq, Sum.inl.injEq, and_true] at h
  exact Prod.ext h.1 h.2
inductive LsAt (p : Addr) (H : Hp) : List V → List (List Pr) → Prop
  | nil : LsAt p H [] []
  | cons {b : Addr} {us vs : List V} {n : List Pr} {ns : List (List Pr)} (h : H b = some (.lst us)) (u : PrsAt p H us n) (r : LsAt p H vs ns) : LsAt p H (.ref b :: vs) (n :: ns)
theorem LsAt.same {p : Addr} {H H' : Hp} {vs : List V} {ns : List (List Pr)} (h : LsAt p H vs ns) (s : Same H H') : LsAt p H' vs ns := by
  induction h with
  | nil => exact .nil
  | cons h u _ ih => exact .cons (s _ _ h) (u.keep (Keep.same s)) ih
/-- .. where one list alone has changed, new since H0 -/
theorem LsAt.off {p D : Addr} {H H' : Hp} {vs : List V} {ns : List (List Pr)} (h : LsAt p H vs ns) (s : ∀ c o, H c = some o → c ≠ D → H' c = some o) (nD : ∀ b, .ref b ∈ vs → b ≠ D) (dD : ∀ us, H D = some (.lst us) → True) (tD : ∀ xs, H D ≠ some (.tup xs)) : LsAt p H' vs ns := by
  induction h with
  | nil => exact .nil
  | cons h u _ ih =>
    refine .cons (s _ _ h (nD _ List.mem_cons_self)) (u.mono fun t xs e => s _ _ e fun q => tD xs (by rw [← q]; exact e)) (ih fun b hb => nD b (List.mem_cons_of_mem _ hb))
theorem LsAt.length {p : Addr} {H : Hp} {vs : List V} {ns : List (List Pr)} (h : LsAt p H vs ns) : vs.length = ns.length := by
  induction h with
  | nil => rfl
  | cons _ _ _ ih => rw [List.length_cons, List.length_cons, ih]
theorem LsAt.app {p : Addr} {H : Hp} {vs ws : List V} {ns ms : List (List Pr)} (h : LsAt p H vs ns) (g : LsAt p H ws ms) : LsAt p H (vs ++ ws) (ns ++ ms) := by
  induction h with
  | nil => exact g
  | cons h u _ ih => exact .cons h u ih
theorem LsAt.at {p : Addr} {H : Hp} {vs : List V} {ns : List (List Pr)} (h : LsAt p H vs ns) : ∀ {i : Nat} {v : V}, vs[i]? = some v → ∃ n b us, ns[i]? = some n ∧ v = .ref b ∧ H b = some (.lst us) ∧ PrsAt p H us n := by
  induction h with
  | nil => intro i v e; cases e
  | cons h u _ ih =>
    intro i v e
    cases i with
    | zero => cases e; exact ⟨_, _, _, rfl, rfl, h, u⟩
    | succ i => exact ih e
theorem r_din {td ty : TE} {σ : L2.St} {H : Hp} {Q : VK} (h : ty σ H fun y H1 => td σ H1 fun x H2 => ∃ a o, x = .ref a ∧ DGet H2 a y o ∧ Q (.bl o.isSome) H2) : tDIn ty td σ H Q := h
def metD (ns : List (List Pr)) (ps : List Pr) : Bool := ns.all fun n => n.any fun z => decide (z ∈ ps)
theorem metD_iff {ns : List (List Pr)} {ps : List Pr} : metD ns ps = true ↔ metB ns ps := by
  unfold metD metB
  rw [List.all_eq_true]
  refine forall_congr' fun n => forall_congr' fun _ => ?_
  rw [List.any_eq_true]
  constructor
  · rintro ⟨z, h, e⟩
    exact ⟨z, h, of_decide_eq_true e⟩
  · rintro ⟨z, h, e⟩
    exact ⟨z, h, decide_eq_true e⟩
theorem valV_keys : ∀ {kvs : List (List Key × V)} {k : List Key}, (valV kvs k).isSome = true ↔ k ∈ kvs.map fun p : List Key × V => p.1
  | [], k => ⟨(fun h => by rw [valV_nil] at h; cases h), (fun h => by cases h)⟩
  | p :: r, k => by
    by_cases c : p.1 = k
    · rw [valV_pos c]
      exact ⟨fun _ => by rw [List.map_cons, c]; exact List.mem_cons_self, fun _ => rfl⟩
    · rw [valV_neg c, valV_keys]
      refine ⟨fun h => List.mem_cons_of_mem _ h, fun h => ?_⟩
      rcases List.mem_cons.mp h with h | h
      · exact absurd h.symm c
      · exact h
theorem kz_mem {z : Pr} {ps : List Pr} : kzP z ∈ ps.map kzP ↔ z ∈ ps := by
  constructor
  · intro h
    obtain ⟨y, hy, e⟩ := List.mem_map.mp h
    rw [← kz_inj e]
    exact hy
  · intro h
    exact List.mem_map.mpr ⟨z, h, rfl⟩
/-- the dict of what is placed, in its sequence -/
def PlK (H : Hp) (D : Addr) (ps : List Pr) : Prop := ∃ kvs : List (List Key × V), H D = some (.dT kvs) ∧ kvs.map (·.1) = ps.map kzP
theorem PlK.same {H H' : Hp} {D : Addr} {ps : List Pr} (h : PlK H D ps) (s : Same H H') : PlK H' D ps := by
  obtain ⟨kvs, e, l⟩ := h
  exact ⟨kvs, s _ _ e, l⟩
theorem PlK.get {H : Hp} {D : Addr} {ps : List Pr} (h : PlK H D ps) : ∃ kvs : List (List Key × V), H D = some (.dT kvs) ∧ kvs.length ≤ ps.length ∧ ∀ z : Pr, (valV kvs (kzP z)).isSome = decide (z ∈ ps) := by
  obtain ⟨kvs, e, l⟩ := h
  refine ⟨kvs, e, ?_, fun z => ?_⟩
  · have := congrArg List.length l
    rw [List.length_map, List.length_map] at this
    omega
  · have q := valV_keys (kvs := kvs) (k := kzP z)
    rw [l, kz_mem] at q
    rw [Bool.eq_iff_iff, q, decide_eq_true_iff]
theorem PlK.put {H : Hp} {D : Addr} {ps : List Pr} {kvs : List (List Key × V)} {z : Pr} {v : V} (e : H D = some (.dT kvs)) (l : kvs.map (·.1) = ps.map kzP) (n : z ∉ ps) : PlK (upd H D (.dT (putK kvs (kzP z) v))) D (ps ++ [z]) := by
  have no : valV kvs (kzP z) = none := by
    have w := valV_keys (kvs := kvs) (k := kzP z)
    rw [l, kz_mem] at w
    cases q : valV kvs (kzP z) with
    | none => rfl
    | some v => rw [q] at w; exact absurd (w.mp rfl) n
  refine ⟨_, upd_same, ?_⟩
  rw [putK_new v no, List.map_append, l, List.map_append]; rfl
def spMet : Sp := fun vs H Q _ => ∃ (p a d : Addr) (us : List V) (ns : List (List Pr)) (ps : List Pr), vs = [.ref a, .ref d] ∧ H a = some (.lst us) ∧ LsAt p H us ns ∧ (∀ n, n ∈ ns → n.length ≤ 64) ∧ PlK H d ps ∧ ∀ H' : Hp, Same H H' → Q (.bl (metD ns ps)) H'
abbrev slMet : Stmt := top 67
theorem filt_nil {n ps : List Pr} : ((n.filter fun z => decide (z ∈ ps)).length = 0) ↔ (n.any fun z => decide (z ∈ ps)) = false := by
  rw [List.length_eq_zero_iff, List.filter_eq_nil_iff, List.any_eq_false]
section
variable {P : Program} {w : World} {K : PySem.W.Frag} {mg : Str → Option Value} {base : Heap} {f : Addr} {fd : FuncData}
theorem sclMet : FnScope ["_law_own", "_law_placed", "_law_need", "_law_spot"] ["_law_own", "_law_placed"] (defScope slMet) := ⟨rfl, rfl, rfl, by decide +kernel, rfl, by decide +kernel, by decide +kernel⟩
theorem ok_met (F : Fun K "_law_met" "_law_met" slMet f fd) (T : Bt mg) : FnOk P w K mg base CX0 1 f fd ["_law_own", "_law_placed"] spMet := by
  refine F.ok sclMet (fun vs H Q E h => ?_) (fun cdv A outer s H vs Q E hr h => ?_)
  · obtain ⟨p, a, d, us, ns, ps, rfl, _⟩ := h
    rfl
  · obtain ⟨p, a, d, us, ns, ps, rfl, ha, ls, n64, pl, k⟩ := h
    have hu1 := Nat.lt_of_le_of_lt (Nat.add_le_add_left (show 1 ≤ 64 by decide) _) hr.units
    refine ⟨_, (pss_cons (ps_for PassesOwn.never rfl (pi_list (pv 0)) (pg_name (i := 2) sclMet.nd rfl (Or.inl rfl)) (pss_one (ps_if (pt_cmpR op_eq (pe_callB cl_len (by rfl) T.len (by decide +kernel) (pa_cons (pe_lc (own := [("_law_spot", 3)]) (g := gName 3) (tt := tTest (tDIn (tVar 3) (tVar 1))) (te := tVar 3) rfl sclMet.nd (pi_list (pv 2)) (blkOk_by (own := [("_law_spot", 3)]) (N := ["_law_own", "_law_placed", "_law_need", "_law_spot"]) (sc := defScope slMet) (by decide +kernel)) (fun _ _ _ _ _ => pg_name (i := 3) sclMet.nd rfl (Or.inl rfl)) (fun _ _ _ _ _ => pts_one (pt_cmp (pc_din hu1 (pv 3) (pv 1)))) (fun _ _ _ _ _ => (pv 3))) pa_nil)) pe_int (nomark _)) (pss_one (ps_ret pe_bl)) pss_nil)))
  (pss_one (ps_ret pe_bl))), ?_⟩
    have ul := ls.length
    walk_at "rd"
    refine ⟨a, rfl, ⟨_, SqL.of ha⟩, for_it walk_list (fun m σ H' => ∃ v2 v3, σ = [some (.ref a), some (.ref d), v2, v3] ∧ Same H H' ∧ metD (ns.take m) ps = true) ⟨_, _, rfl, Same.refl H, rfl⟩ (fun m σ H' _ q => by obtain ⟨_, _, _, q, _⟩ := q; exact SqL.of (q _ _ ha)) ?_ ?_⟩
    · rintro m y σ H1' H1 hm ⟨v2, v3, rfl, s1, mt⟩ ⟨rfl, ey⟩
      have hm : m < us.length := hm
      obtain ⟨n, b, ws, en, rfl, hb, pw⟩ := (ls.same s1).at ey
      have nl := n64 n (List.mem_of_getElem? en)
      have wl := pw.length
      walk_at "rd"
      refine ⟨b, rfl, ⟨_, SqL.of hb⟩, fun D1 nD1 => lc_it walk_list (FlAt p H1 D1 n (fun z => decide (z ∈ ps))) (FlAt.start nD1) (fun i H' _ z => SqL.of (z.1 _ _ hb)) ?_ ?_⟩
      · rintro i y H4 H3 hi z ⟨rfl, ey⟩
        obtain ⟨zi, ez, pz⟩ := pw.at ey
        obtain ⟨tt, rfl, _, ht⟩ := id pz
        have hi : i < ws.length := hi
        obtain ⟨kvs, hd, _, q⟩ := (pl.same (s1.trans z.1)).get
        walk_at "rd"
        refine ⟨rfl, ?_⟩
        walk_at "rd"
        refine r_din ?_
        walk_at "rd"
        refine ⟨d, _, rfl, DGet.t (k := kzP zi) hd (z.1 _ _ ht), ?_⟩
        refine ⟨_, rfl, ?_⟩
        rw [q zi]
        by_cases c : zi ∈ ps
        · rw [decide_eq_true c]
          refine ifT rfl ?_
          walk_at "rd"
          exact z.yes nD1 ez pz (decide_eq_true c) (Nat.lt_of_lt_of_le (show i < 65 by omega) (by decide))
        · rw [decide_eq_false c]
          refine ifF rfl ?_
          exact z.no ez (decide_eq_false c)
      · rintro H3 z3
        obtain ⟨s3, us3, hD3, pr3⟩ := z3.fin wl
        walk_at "rd"
        refine r_lenL (SqL.of hD3) ?_
        walk_at "rd"
        have ll := pr3.length
        have tk : ns.take (m + 1) = ns.take m ++ [n] := by rw [List.take_succ, en]; rfl
        have mx : metD (ns.take (m + 1)) ps = n.any fun z => decide (z ∈ ps) := by
          rw [tk]
          unfold metD at mt ⊢
          rw [List.all_append, mt, Bool.true_and, List.all_cons, List.all_nil, Bool.and_true]
        have fn := filt_nil (n := n) (ps := ps)
        refine r_eq rfl ?_
        refine ⟨_, rfl, ?_⟩
        cases e : n.any fun z => decide (z ∈ ps) with
        | false =>
          refine ifT (decide_eq_true (by rw [ll, fn.mpr e]; rfl)) ?_
          walk_at "rd"
          have mf : metD ns ps = false := by
            cases q : metD ns ps with
            | false => rfl
            | true =>
              unfold metD at q
              rw [List.all_eq_true] at q
              rw [q n (List.mem_of_getElem? en)] at e
              cases e
          rw [mf] at k
          exact k H3 (s1.trans s3)
        | true =>
          refine ifF (decide_eq_false fun q => ?_) ?_
          · have : us3.length = 0 := by have := V.int.inj q; omega
            rw [fn.mp (by omega)] at e
            cases e
          · walk_at "rd"
            exact ⟨_, _, rfl, s1.trans s3, mx.trans e⟩
    · rintro σ H1 ⟨v2, v3, rfl, s1, mt⟩
      walk_at "rd"
      rw [List.take_of_length_le (by omega)] at mt
      rw [← mt] at *
      exact k H1 s1

theorem r_dget {td ty : TE} {σ : L2.St} {H : Hp} {Q : VK} (h : td σ H fun x H1 => ty σ H1 fun y H2 => ∃ a v, x = .ref a ∧ DGet H2 a y (some v) ∧ Q v H2) : tDGet td ty σ H Q := h
theorem r_dput {td ty tv : TE} {D : Ends} {σ : L2.St} {H : Hp} (h : tv σ H fun v H1 => td σ H1 fun x H2 => ty σ H2 fun y H3 => ∃ a H4, x = .ref a ∧ DPut H3 a y v H4 ∧ D.nx σ H4) : sDPut td ty tv D σ H := h
theorem putK_le {κ : Type} [DecidableEq κ] (kvs : List (κ × V)) (k : κ) (v : V) : (putK kvs k v).length ≤ kvs.length + 1 := by
  unfold putK
  split
  · rw [List.length_map]; omega
  · rw [List.length_append]; exact Nat.le_refl _
/-- the needs of every cell, as a dict -/
def NdK (p : Addr) (H : Hp) (d : Addr) (R : Rw) (kd : Str) : Prop := ∃ kvs : List (List Key × V), H d = some (.dT kvs) ∧ kvs.map (·.1) = (cells R).map kzP ∧ ∀ i j : Nat, ((i : Int), (j : Int)) ∈ cells R → ∃ a us, valV kvs (kzP ((i : Int), (j : Int))) = some (.ref a) ∧ H a = some (.lst us) ∧ LsAt p H us (needsL R i j kd)
theorem NdK.same {p : Addr} {H H' : Hp} {d : Addr} {R : Rw} {kd : Str} (h : NdK p H d R kd) (s : Same H H') : NdK p H' d R kd := by
  obtain ⟨kvs, e, l, q⟩ := h
  exact ⟨kvs, s _ _ e, l, fun i j m => by obtain ⟨a, us, e1, e2, e3⟩ := q i j m; exact ⟨a, us, e1, s _ _ e2, e3.same s⟩⟩
def rightN (R : Rw) (kd : Str) : List Pr → List Pr → Bool
  | _, [] => true
  | ps, z :: r => metD (needsL R z.1.toNat z.2.toNat kd) ps && rightN R kd (ps ++ [z]) r
theorem needs_short {R : Rw} {i j : Nat} {kd : Str} {n : List Pr} (h : n ∈ needsL R i j kd) : n.length ≤ 64 := by
  have : n.length ≤ 2 := by
    unfold needsL at h
    rcases List.mem_append.mp h with h | h
    · rcases List.mem_append.mp h with h | h
      · obtain ⟨r, _, h⟩ := List.mem_flatMap.mp h
        obtain ⟨s, _, rfl⟩ := List.mem_map.mp h
        exact Nat.le_refl _
      · split at h
        · obtain ⟨s, _, rfl⟩ := List.mem_map.mp h
          exact Nat.le_succ _
        · cases h
    · split at h
      · obtain ⟨s, _, rfl⟩ := List.mem_map.mp h
        exact Nat.le_succ _
      · cases h
  omega
def spLRt : Sp := fun vs H Q _ => ∃ (p d l : Addr) (R : Rw) (kd : Str) (us : List V) (zs : List Pr), vs = [.ref d, .ref l] ∧ NdK p H d R kd ∧ H l = some (.lst us) ∧ PrsAt p H us zs ∧ (∀ z, z ∈ zs → z ∈ cells R) ∧ zs.Nodup ∧ zs.length ≤ 64 ∧ ∀ H' : Hp, Same H H' → Q (.bl (rightN R kd [] zs)) H'
abbrev slLRt : Stmt := top 69
theorem sclLRt : FnScope ["_law_needs_here", "_law_listed", "_law_placed", "_law_spot"] ["_law_needs_here", "_law_listed"] (defScope slLRt) := ⟨rfl, rfl, rfl, by decide +kernel, rfl, by decide +kernel, by decide +kernel⟩
theorem ok_lRt (F : Fun K "_law_is_right" "_law_is_right" slLRt f fd) (T : Bt mg) (DM : Df P w K mg base CX0 "_law_met" 1 ["_law_own", "_law_placed"] spMet) : FnOk P w K mg base CX0 2 f fd ["_law_needs_here", "_law_listed"] spLRt := by
  refine F.ok sclLRt (fun vs H Q E h => ?_) (fun cdv A outer s H vs Q E hr h => ?_)
  · obtain ⟨p, d, l, R, kd, us, zs, rfl, _⟩ := h
    rfl
  · obtain ⟨p, d, l, R, kd, us, zs, rfl, nd, hl, pu, zc, ndz, z64, k⟩ := h
    have hu1 := Nat.lt_of_le_of_lt (Nat.add_le_add_left (show 1 ≤ 64 by decide) _) hr.units
    refine ⟨_, (pss_cons (ps_set (i := 2) sclLRt.nd rfl (Or.inl rfl) pe_dnewT)
  (pss_cons (ps_for PassesOwn.never rfl (pi_list (pv 1)) (pg_name (i := 3) sclLRt.nd rfl (Or.inl rfl)) (pss_cons (ps_if (pt_not (pt_val (pe_df DM hr (by decide) (pa_cons (pe_dget hu1 (pv 0) (pv 3) (fun _ _ => rfl)) (pa_cons (pv 2) pa_nil))))) (pss_one (ps_ret pe_bl)) pss_nil)
  (pss_one (ps_dput hu1 (pv 2) (pv 3) pe_bl rfl))))
  (pss_one (ps_ret pe_bl)))), ?_⟩
    have ul := pu.length
    walk_at "rd"
    intro D nD
    have s1 := Same.up (o := .dT []) (Same.refl H) nD
    have hD1 : upd H D (.dT []) D = some (.dT []) := upd_same
    walk_at "rd"
    refine ⟨l, rfl, ⟨_, SqL.of (s1 _ _ hl)⟩, for_it walk_list (fun m σ H' => ∃ v3, σ = [some (.ref d), some (.ref l), some (.ref D), v3] ∧ Same H H' ∧ PlK H' D (zs.take m) ∧ rightN R kd [] zs = rightN R kd (zs.take m) (zs.drop m)) ⟨_, rfl, s1, ⟨[], hD1, rfl⟩, rfl⟩ (fun m σ H' _ q => by obtain ⟨_, _, q, _⟩ := q; exact SqL.of (q _ _ hl)) ?_ ?_⟩
    · rintro m y σ H1' H1 hm ⟨v3, rfl, s1, pl, er⟩ ⟨rfl, ey⟩
      have hm : m < us.length := hm
      obtain ⟨z, ez, pz⟩ := pu.at ey
      obtain ⟨tt, rfl, _, ht⟩ := id pz
      have zm := zc z (List.mem_of_getElem? ez)
      obtain ⟨i, j, rfl, hi, hj, _⟩ := cells_nat zm
      obtain ⟨kvs, hd, _, q⟩ := nd.same s1
      obtain ⟨a, ws, ea, ha, ls⟩ := q i j zm
      have dr : zs.drop m = ((i : Int), (j : Int)) :: zs.drop (m + 1) := by
        have e2 := (List.getElem?_eq_some_iff.mp ez)
        obtain ⟨e1, e2⟩ := e2
        rw [List.drop_eq_getElem_cons e1, e2]
      have tk : zs.take (m + 1) = zs.take m ++ [((i : Int), (j : Int))] := by rw [List.take_succ, ez]; rfl
      rw [dr, rightN] at er
      simp only [Int.toNat_natCast] at er
      walk_at "rd"
      refine r_dget ?_
      walk_at "rd"
      refine ⟨d, _, rfl, DGet.t (k := kzP ((i : Int), (j : Int))) hd (s1 _ _ ht) |> (fun h => by rw [ea] at h; exact h), ?_⟩
      walk_at "rd"
      refine ⟨p, a, D, ws, _, _, rfl, ha, ls, fun n hn => needs_short hn, pl, fun H2 s2 => ?_⟩
      refine ⟨_, rfl, ?_⟩
      cases e : metD (needsL R i j kd) (zs.take m) with
      | false =>
        refine ifT rfl ?_
        walk_at "rd"
        rw [e, Bool.false_and] at er
        rw [er] at k
        exact k H2 (s1.trans s2)
      | true =>
        refine ifF rfl ?_
        rw [e, Bool.true_and] at er
        refine r_nxt ?_
        dsimp only
        refine r_dput ?_
        walk_at "rd"
        obtain ⟨kv2, hD2, k2⟩ := id (pl.same s2)
        obtain ⟨kv3, hD3, l2, _⟩ := (pl.same s2).get
        rw [hD2] at hD3
        cases hD3
        have out : ((i : Int), (j : Int)) ∉ zs.take m := fun q => by
          have n2 := ndz.sublist (List.take_sublist (m + 1) zs)
          rw [tk] at n2
          exact (List.nodup_append.mp n2).2.2 _ q _ (List.mem_singleton.mpr rfl) rfl
        have ml : (zs.take m).length ≤ 64 := by rw [List.length_take]; omega
        refine ⟨D, _, rfl, DPut.t (k := kzP ((i : Int), (j : Int))) hD2 ((s1.trans s2) _ _ ht) (Nat.lt_of_le_of_lt (show kv2.length ≤ 64 by omega) (by decide)), ?_⟩
        refine ⟨_, rfl, ?_, ?_, ?_⟩
        · intro c o e
          rw [upd_ne (fun q => by rw [q, nD] at e; cases e)]
          exact (s1.trans s2) _ _ e
        · rw [tk]
          exact PlK.put hD2 k2 out
        · rw [er, tk]
    · rintro σ H1 ⟨v3, rfl, s1, pl, er⟩
      walk_at "rd"
      rw [er, List.drop_eq_nil_iff.mpr (by omega), rightN] at k
      exact k H1 s1
end
end Pk
set_option Elab.async false
set_option linter.all false
set_option maxRecDepth 100000
set_option maxHeartbeats 4000000
namespace Pk
open PySem L2
local macro_rules | `(tactic| walk_at "rd") => `(tactic| repeat (first
  | with_reducible refine r_seq ?_ | with_reducible refine r_nxt ?_ | with_reducible refine r_asg ?_ | with_reducible refine r_to ?_ | with_reducible refine r_ret ?_ | with_reducible refine r_for ?_ | with_reducible refine r_lc ?_ | with_reducible refine r_lc2 ?_ | with_reducible refine r_rng1 ?_ | with_reducible refine r_list ?_ | with_reducible refine r_tupI ?_ | with_reducible refine r_drop ?_ | with_reducible refine r_ifs ?_
  | with_reducible refine r_op ?_ | with_reducible refine r_c ?_ | with_reducible refine r_var rfl ?_ | with_reducible refine r_var (by assumption) ?_ | with_reducible refine r_I0 ?_ | with_reducible refine r_un ?_ | with_reducible refine r_U ?_ | with_reducible refine r_make ?_ | with_reducible refine r_makeS ?_ | with_reducible refine r_ifE ?_ | with_reducible refine r_cm ?_ | with_reducible refine r_mkV rfl ?_ | with_reducible refine r_sub ?_
  | with_reducible refine r_nil ?_ | with_reducible refine r_cons ?_ | with_reducible refine r_cb ?_ | with_reducible refine r_sl ?_ | with_reducible refine r_noP ?_ | with_reducible refine r_part ?_ | with_reducible refine r_isI ?_ | with_reducible refine r_lst ?_ | with_reducible refine r_tup ?_ | with_reducible refine r_call ?_ | with_reducible refine r_callS ?_ | with_reducible refine r_sFldU ?_ | with_reducible refine r_chain ?_ | with_reducible refine r_enum ?_ | with_reducible refine r_zip ?_ | with_reducible refine r_rng3 ?_ | with_reducible refine r_gtup ?_ | with_reducible refine r_methU ?_
  | with_reducible refine r_test ?_ | with_reducible refine r_B ?_ | with_reducible refine r_and ?_ | with_reducible refine r_or ?_ | with_reducible refine r_not ?_ | with_reducible refine r_andV ?_ | with_reducible refine r_orV ?_ | with_reducible refine r_notV ?_ | with_reducible refine r_bl ?_ | with_reducible refine r_yes ?_ | with_reducible refine r_int ?_ | with_reducible refine r_is0 ?_ | with_reducible refine r_is1 ?_ | with_reducible refine iteT ?_ | with_reducible refine iteF ?_ | with_reducible refine ite_nF ?_ | with_reducible refine ite_nT ?_
  | with_reducible refine r_mod (by decide) ?_ | with_reducible refine r_div (by decide) (by decide) ?_ | with_reducible refine r_mulR (by decide) (by decide) ?_ | with_reducible refine r_mulL (by decide) (by decide) ?_ | with_reducible refine r_pow (by decide) (by decide) (by decide) ?_))
theorem ifs_cut {c : TT} {a b : TS} {D : Ends} {σ : L2.St} {H : Hp} (Pv : L2.St → Hp → Prop) (h1 : ∀ N : L2.St → Hp → Prop, (∀ σ' H', Pv σ' H' → N σ' H') → tIfS c a b { D with nx := N } σ H) (h2 : ∀ σ' H', Pv σ' H' → D.nx σ' H') : tIfS c a b D σ H := h1 D.nx h2
/-! ### the needs of a cell, as lists -/
/-- the list of them so far -/
def OwnN (p D : Addr) (H H' : Hp) (ns : List (List Pr)) : Prop := Same H H' ∧ ∃ us, H' D = some (.lst us) ∧ LsAt p H' us ns ∧ ∀ b, V.ref b ∈ us → b ≠ D
theorem OwnN.later {p D : Addr} {H H1 H2 : Hp} {ns : List (List Pr)} (h : OwnN p D H H1 ns) (s : Same H1 H2) : OwnN p D H H2 ns := by
  obtain ⟨s1, us, e, l, q⟩ := h
  exact ⟨s1.trans s, us, s _ _ e, l.same s, q⟩
theorem OwnN.more {p D b : Addr} {H H1 : Hp} {ns : List (List Pr)} {n : List Pr} {us ws : List V} (nD : H D = none) (h : OwnN p D H H1 ns) (e : H1 D = some (.lst us)) (hb : H1 b = some (.lst ws)) (pw : PrsAt p H1 ws n) (bD : b ≠ D) : OwnN p D H (upd H1 D (.lst (us ++ [.ref b]))) (ns ++ [n]) := by
  obtain ⟨s1, us', e', l, q⟩ := h
  rw [e] at e'
  cases e'
  have tD : ∀ xs, H1 D ≠ some (.tup xs) := fun xs z => by rw [e] at z; cases z
  have st : ∀ c o, H1 c = some o → c ≠ D → upd H1 D (.lst (us ++ [.ref b])) c = some o := fun c o z ne => by rw [upd_ne ne]; exact z
  refine ⟨fun c o z => st c o (s1 _ _ z) (fun w => by rw [w, nD] at z; cases z), us ++ [.ref b], upd_same, (l.off st q (fun _ _ => trivial) tD).app (.cons (st _ _ hb bD) (pw.mono fun t xs z => st _ _ z fun w => tD xs (by rw [← w]; exact z)) .nil), fun c hc => ?_⟩
  rcases List.mem_append.mp hc with h | h
  · exact q c h
  · cases List.mem_singleton.mp h
    exact bD
theorem OwnN.len {p D : Addr} {H H1 : Hp} {ns : List (List Pr)} {us : List V} (h : OwnN p D H H1 ns) (e : H1 D = some (.lst us)) : us.length = ns.length := by
  obtain ⟨_, us', e', l, _⟩ := h
  rw [e] at e'
  cases e'
  exact l.length
def rw1 (R : Rw) (i j r n : Nat) : List (List Pr) := ((List.range n).filter fun s => lcB R i j r s).map fun (s : Nat) => [((i : Int), (s : Int)), ((r : Int), (j : Int))]
def cr1 (R : Rw) (i j m : Nat) : List (List Pr) := (List.range m).flatMap fun r => rw1 R i j r (wd R)
def co1 (R : Rw) (i j m : Nat) : List (List Pr) := ((List.range m).filter fun r => (prc R r j).isSome && decide (val R r j < val R i j)).map fun (r : Nat) => [((r : Int), (j : Int))]
def ro1 (R : Rw) (i j m : Nat) : List (List Pr) := ((List.range m).filter fun s => (prc R i s).isSome && decide (val R i s < val R i j)).map fun (s : Nat) => [((i : Int), (s : Int))]
theorem filt_snoc {α : Type} (f : Nat → Bool) (g : Nat → α) (n : Nat) : ((List.range (n + 1)).filter f).map g = ((List.range n).filter f).map g ++ if f n = true then [g n] else [] := by
  rw [List.range_succ, List.filter_append, List.map_append]
  by_cases c : f n = true
  · rw [List.filter_cons_of_pos (p := f) c, if_pos c]; rfl
  · rw [List.filter_cons_of_neg (p := f) c, if_neg c]; rfl
theorem rw1_more {R : Rw} {i j r n : Nat} : rw1 R i j r (n + 1) = rw1 R i j r n ++ if lcB R i j r n = true then [[((i : Int), (n : Int)), ((r : Int), (j : Int))]] else [] := filt_snoc ..
theorem co1_more {R : Rw} {i j n : Nat} : co1 R i j (n + 1) = co1 R i j n ++ if ((prc R n j).isSome && decide (val R n j < val R i j)) = true then [[((n : Int), (j : Int))]] else [] := filt_snoc ..
theorem ro1_more {R : Rw} {i j n : Nat} : ro1 R i j (n + 1) = ro1 R i j n ++ if ((prc R i n).isSome && decide (val R i n < val R i j)) = true then [[((i : Int), (n : Int))]] else [] := filt_snoc ..
theorem rw1_len {R : Rw} {i j r n : Nat} : (rw1 R i j r n).length ≤ n := by
  unfold rw1
  rw [List.length_map]
  exact Nat.le_trans (List.length_filter_le ..) (by rw [List.length_range]; exact Nat.le_refl _)
theorem co1_len {R : Rw} {i j n : Nat} : (co1 R i j n).length ≤ n := by
  unfold co1
  rw [List.length_map]
  exact Nat.le_trans (List.length_filter_le ..) (by rw [List.length_range]; exact Nat.le_refl _)
theorem ro1_len {R : Rw} {i j n : Nat} : (ro1 R i j n).length ≤ n := by
  unfold ro1
  rw [List.length_map]
  exact Nat.le_trans (List.length_filter_le ..) (by rw [List.length_range]; exact Nat.le_refl _)
theorem cr1_more {R : Rw} {i j m : Nat} : cr1 R i j (m + 1) = cr1 R i j m ++ rw1 R i j m (wd R) := by
  unfold cr1
  rw [List.range_succ, List.flatMap_append]
  simp
theorem cr1_len {R : Rw} {i j : Nat} (w8 : wd R ≤ 8) : ∀ {m : Nat}, (cr1 R i j m).length ≤ m * 8
  | 0 => Nat.le_refl _
  | m + 1 => by
    rw [cr1_more, List.length_append]
    have := cr1_len (R := R) (i := i) (j := j) w8 (m := m)
    have := rw1_len (R := R) (i := i) (j := j) (r := m) (n := wd R)
    omega
theorem wd_rw0 {R : Rw} (h : 0 < R.length) : ((R.getD 0 []).map pV).length = wd R := by
  rw [List.length_map]
  cases R with
  | nil => cases h
  | cons r R => rfl
def spNOf (K : PySem.W.Frag) : Sp := fun vs H Q _ => ∃ (p a : Addr) (es : List V) (R : Rw) (i j : Nat) (kd : Str), vs = [.ref a, .int (i : Int), .int (j : Int), .str kd] ∧ RS K H a es R ∧ Gt R ∧ ((i : Int), (j : Int)) ∈ cells R ∧ (∃ o, H p = some o) ∧
  ∀ (r : Addr) (us : List V) (H' : Hp), Same H H' → H' r = some (.lst us) → LsAt p H' us (needsL R i j kd) → Q (.ref r) H'
theorem deq_strK (a b : Str) : decide (V.str a = V.str b) = decide (a = b) := decide_eq_decide.mpr ⟨V.str.inj, fun h => by rw [h]⟩
abbrev slNOf : Stmt := top 65
section
variable {P : Program} {w : World} {K : PySem.W.Frag} {mg : Str → Option Value} {base : Heap} {f : Addr} {fd : FuncData}
theorem sclNOf : FnScope ["_law_grid", "_law_i", "_law_j", "_law_sort", "_law_own", "_law_r", "_law_s"] ["_law_grid", "_law_i", "_law_j", "_law_sort"] (defScope slNOf) := ⟨rfl, rfl, rfl, by decide +kernel, rfl, by decide +kernel, by decide +kernel⟩
theorem ok_nOf (F : Fun K "_law_needs_of" "_law_needs_of" slNOf f fd) (T : Bt mg) (DC : Df P w K mg base CX0 "_law_cross" 1 ["_law_grid", "_law_i", "_law_j", "_law_r", "_law_s"] (spLCr K)) : FnOk P w K mg base CX0 2 f fd ["_law_grid", "_law_i", "_law_j", "_law_sort"] (spNOf K) := by
  refine F.ok sclNOf (fun vs H Q E h => ?_) (fun cdv A outer s H vs Q E hr h => ?_)
  · obtain ⟨p, a, es, R, i, j, kd, rfl, _⟩ := h
    rfl
  · obtain ⟨p, a, es, R, i, j, kd, rfl, rs, g, mc, ⟨op, hop⟩, k⟩ := h
    refine ⟨_, (pss_cons (ps_set (i := 4) sclNOf.nd rfl (Or.inl rfl) (pe_lst pa_nil))
  (pss_cons (ps_for PassesOwn.never rfl (pi_range1 rfl T.range (pa_cons (pe_callB cl_len (by rfl) T.len (by decide +kernel) (pa_cons (pv 0) pa_nil)) pa_nil)) (pg_name (i := 5) sclNOf.nd rfl (Or.inl rfl)) (pss_one (ps_for PassesOwn.never rfl (pi_range1 rfl T.range (pa_cons (pe_callB cl_len (by rfl) T.len (by decide +kernel) (pa_cons (pe_ix ix_list (pv 0) pe_int (fun _ _ => rfl)) pa_nil)) pa_nil)) (pg_name (i := 6) sclNOf.nd rfl (Or.inl rfl)) (pss_one (ps_if (pt_val (pe_df DC hr (by decide) (pa_cons (pv 0) (pa_cons (pv 1) (pa_cons (pv 2) (pa_cons (pv 5) (pa_cons (pv 6) pa_nil))))))) (pss_one (ps_expr (pe_bm PySem.F.plainAttrs_list PySem.F.slot_list_append PySem.F.type_list_append mt_append (pv 4) (pa_cons (pe_lst (pa_cons (pe_tup (pa_cons (pv 1) (pa_cons (pv 6) pa_nil))) (pa_cons (pe_tup (pa_cons (pv 5) (pa_cons (pv 2) pa_nil))) pa_nil))) pa_nil)))) pss_nil)))))
  (pss_cons (ps_if (PW.pt (pw_or (pt_cmpR op_eq (pv 3) pe_str (nomark _)) (pw_or1 (pt_cmpR op_eq (pv 3) pe_str (nomark _))))) (pss_one (ps_for PassesOwn.never rfl (pi_range1 rfl T.range (pa_cons (pe_callB cl_len (by rfl) T.len (by decide +kernel) (pa_cons (pv 0) pa_nil)) pa_nil)) (pg_name (i := 5) sclNOf.nd rfl (Or.inl rfl)) (pss_one (ps_if (PW.pt (pw_and (pt_cmpR op_is1 (pe_ix ix_list (pe_ix ix_list (pv 0) (pv 5) (fun _ _ => rfl)) (pv 2) (fun _ _ => rfl)) pe_non (nomark _)) (pw_and1 (pt_cmpR op_lt (pe_ix ix_list (pe_ix ix_list (pv 0) (pv 5) (fun _ _ => rfl)) (pv 2) (fun _ _ => rfl)) (pe_ix ix_list (pe_ix ix_list (pv 0) (pv 1) (fun _ _ => rfl)) (pv 2) (fun _ _ => rfl)) (nomark _))))) (pss_one (ps_expr (pe_bm PySem.F.plainAttrs_list PySem.F.slot_list_append PySem.F.type_list_append mt_append (pv 4) (pa_cons (pe_lst (pa_cons (pe_tup (pa_cons (pv 5) (pa_cons (pv 2) pa_nil))) pa_nil)) pa_nil)))) pss_nil)))) pss_nil)
  (pss_cons (ps_if (PW.pt (pw_or (pt_cmpR op_eq (pv 3) pe_str (nomark _)) (pw_or1 (pt_cmpR op_eq (pv 3) pe_str (nomark _))))) (pss_one (ps_for PassesOwn.never rfl (pi_range1 rfl T.range (pa_cons (pe_callB cl_len (by rfl) T.len (by decide +kernel) (pa_cons (pe_ix ix_list (pv 0) pe_int (fun _ _ => rfl)) pa_nil)) pa_nil)) (pg_name (i := 6) sclNOf.nd rfl (Or.inl rfl)) (pss_one (ps_if (PW.pt (pw_and (pt_cmpR op_is1 (pe_ix ix_list (pe_ix ix_list (pv 0) (pv 1) (fun _ _ => rfl)) (pv 6) (fun _ _ => rfl)) pe_non (nomark _)) (pw_and1 (pt_cmpR op_lt (pe_ix ix_list (pe_ix ix_list (pv 0) (pv 1) (fun _ _ => rfl)) (pv 6) (fun _ _ => rfl)) (pe_ix ix_list (pe_ix ix_list (pv 0) (pv 1) (fun _ _ => rfl)) (pv 2) (fun _ _ => rfl)) (nomark _))))) (pss_one (ps_expr (pe_bm PySem.F.plainAttrs_list PySem.F.slot_list_append PySem.F.type_list_append mt_append (pv 4) (pa_cons (pe_lst (pa_cons (pe_tup (pa_cons (pv 1) (pa_cons (pv 6) pa_nil))) pa_nil)) pa_nil)))) pss_nil)))) pss_nil)
  (pss_one (ps_ret (pv 4))))))), ?_⟩
    have g' := g
    have h8 := g.h8
    have w8 := g.w8
    have h0 := g.h0
    have rl := rs.len
    obtain ⟨hi, hj, pij⟩ := mem_cells.mp mc
    walk_at "rd"
    refine ⟨Nat.zero_le _, fun D nD => ?_⟩
    have s1 := Same.up (o := .lst []) (Same.refl H) nD
    have hD1 : upd H D (.lst []) D = some (.lst []) := upd_same
    have O1 : OwnN p D H (upd H D (.lst [])) [] := ⟨s1, [], hD1, .nil, fun b h => by cases h⟩
    obtain ⟨H1, eH1⟩ : ∃ H1, H1 = upd H D (.lst []) := ⟨_, rfl⟩
    rw [← eH1] at s1 hD1 O1 ⊢
    walk_at "rd"
    refine r_lenL (rs.same s1).at_ ?_
    walk_at "rd"
    refine ⟨(es.length : Int), rfl, by omega, by omega, for_it walk_range (fun m σ H' => ∃ v5 v6, σ = [some (.ref a), some (.int (i : Int)), some (.int (j : Int)), some (.str kd), some (.ref D), v5, v6] ∧ OwnN p D H H' (cr1 R i j m)) ⟨_, _, rfl, O1⟩ (fun _ _ _ _ _ => trivial) ?_ ?_⟩
    · rintro m y σ H20 H2 hm ⟨v5, v6, rfl, O2⟩ ⟨rfl, rfl⟩
      have hm : m < R.length := by have : m < ((es.length : Nat) : Int).toNat := hm; omega
      have rs2 := rs.same O2.1
      obtain ⟨a0, ea0, ha0⟩ := rs2.get h0
      have e0 : (0 : Int) + (m : Int) = (m : Int) := by omega
      simp only [e0]
      walk_at "rd"
      refine r_ixL rs2.at_ (atI_nat ea0) ?_
      walk_at "rd"
      refine r_lenL ha0 ?_
      rw [wd_rw0 h0]
      walk_at "rd"
      refine ⟨((wd R : Nat) : Int), rfl, by omega, by omega, for_it walk_range (fun n σ H' => ∃ v6, σ = [some (.ref a), some (.int (i : Int)), some (.int (j : Int)), some (.str kd), some (.ref D), some (.int (m : Int)), v6] ∧ OwnN p D H H' (cr1 R i j m ++ rw1 R i j m n)) ⟨_, rfl, by rw [show rw1 R i j m 0 = [] from rfl, List.append_nil]; exact O2⟩ (fun _ _ _ _ _ => trivial) ?_ ?_⟩
      · rintro n y σ H30 H3 hn ⟨v6, rfl, O3⟩ ⟨rfl, rfl⟩
        have hn : n < wd R := by have : n < ((wd R : Nat) : Int).toNat := hn; omega
        have e0 : (0 : Int) + (n : Int) = (n : Int) := by omega
        simp only [e0]
        have rs3 := rs.same O3.1
        walk_at "rd"
        refine ⟨a, es, R, i, j, m, n, rfl, rs3, g', hi, hj, hm, hn, pij, ?_⟩
        walk_at "rd"
        cases e : lcB R i j m n with
        | false =>
          refine ifF rfl ?_
          walk_at "rd"
          refine ⟨_, rfl, ?_⟩
          rw [rw1_more, e, if_neg (by decide), List.append_nil]
          exact O3
        | true =>
          refine ifT rfl ?_
          obtain ⟨us3, hD3, _⟩ := id O3.2
          have u3 := O3.len hD3
          walk_at "rd"
          refine r_bm ?_
          walk_at "rd"
          refine ⟨.inl ⟨rfl, _, SqL.of hD3⟩, ?_⟩
          walk_at "rd"
          refine ⟨by show 2 ≤ sizeLine; decide, fun t nt => ?_⟩
          have s4' := Same.up (o := .tup [V.int (i : Int), V.int (n : Int)]) (Same.refl H3) nt
          have ht : upd H3 t (.tup [V.int (i : Int), V.int (n : Int)]) t = some (.tup [V.int (i : Int), V.int (n : Int)]) := upd_same
          obtain ⟨H4, eH4⟩ : ∃ H4, H4 = upd H3 t (.tup [V.int (i : Int), V.int (n : Int)]) := ⟨_, rfl⟩
          rw [← eH4] at s4' ht ⊢
          walk_at "rd"
          refine ⟨by show 2 ≤ sizeLine; decide, fun t2 nt2 => ?_⟩
          have s5' := Same.up (o := .tup [V.int (m : Int), V.int (j : Int)]) (Same.refl H4) nt2
          have ht2 : upd H4 t2 (.tup [V.int (m : Int), V.int (j : Int)]) t2 = some (.tup [V.int (m : Int), V.int (j : Int)]) := upd_same
          obtain ⟨H5, eH5⟩ : ∃ H5, H5 = upd H4 t2 (.tup [V.int (m : Int), V.int (j : Int)]) := ⟨_, rfl⟩
          rw [← eH5] at s5' ht2 ⊢
          walk_at "rd"
          refine ⟨by show 2 ≤ sizeLine; decide, fun b nb => ?_⟩
          have s6' := Same.up (o := .lst [V.ref t, V.ref t2]) (Same.refl H5) nb
          have hb : upd H5 b (.lst [V.ref t, V.ref t2]) b = some (.lst [V.ref t, V.ref t2]) := upd_same
          obtain ⟨H6, eH6⟩ : ∃ H6, H6 = upd H5 b (.lst [V.ref t, V.ref t2]) := ⟨_, rfl⟩
          rw [← eH6] at s6' hb ⊢
          have s36 := s4'.trans (s5'.trans s6')
          have hop3 := O3.1 _ _ hop
          have tp : t ≠ p := fun z => by rw [z, hop3] at nt; cases nt
          have tp2 : t2 ≠ p := fun z => by rw [z, s4' _ _ hop3] at nt2; cases nt2
          have bD : b ≠ D := fun z => by rw [z, s5' _ _ (s4' _ _ hD3)] at nb; cases nb
          have hD6 := s36 _ _ hD3
          have pw : PrsAt p H6 [V.ref t, V.ref t2] [((i : Int), (n : Int)), ((m : Int), (j : Int))] := .cons ⟨t, rfl, tp, s6' _ _ (s5' _ _ ht)⟩ (.cons ⟨t2, rfl, tp2, s6' _ _ ht2⟩ .nil)
          walk_at "rd"
          refine ⟨D, us3, _, rfl, rfl, hD6, Nat.lt_of_le_of_lt (show us3.length ≤ 100 by have := cr1_len (R := R) (i := i) (j := j) w8 (m := m); have := rw1_len (R := R) (i := i) (j := j) (r := m) (n := n); rw [u3, List.length_append]; omega) (by decide), ?_⟩
          walk_at "rd"
          refine ⟨_, rfl, ?_⟩
          rw [rw1_more, e, if_pos rfl, ← List.append_assoc]
          exact (O3.later s36).more nD hD6 hb pw bD
      · rintro σ H3 ⟨v6, rfl, O3⟩
        walk_at "rd"
        refine ⟨_, _, rfl, ?_⟩
        rw [cr1_more]
        exact O3
    · rintro σ H2 ⟨v5, v6, rfl, O2⟩
      have ec : cr1 R i j ((es.length : Int)).toNat = crossN R i j := by rw [Int.toNat_natCast, rl]; rfl
      rw [ec] at O2
      have cl : (crossN R i j).length ≤ 64 := Nat.le_trans (cr1_len (R := R) (i := i) (j := j) w8 (m := R.length)) (by omega)
      obtain ⟨x0, ex0⟩ : ∃ x0, prc R i j = some x0 := Option.isSome_iff_exists.mp pij
      have v0 : val R i j = x0 := by unfold val; rw [ex0]; rfl
      dsimp only
      with_reducible refine r_seq ?_
      refine ifs_cut (fun σ' H' => ∃ v5 v6, σ' = [some (.ref a), some (.int (i : Int)), some (.int (j : Int)), some (.str kd), some (.ref D), v5, v6] ∧ OwnN p D H H' (crossN R i j ++ (if hasC kd = true then colN R i j else []))) ?_ ?_
      · intro N hN
        walk_at "rd"
        refine r_eq rfl ?_
        rw [deq_strK]
        refine ⟨_, rfl, ?_⟩
        by_cases c1 : kd = "stock"
        · refine ifT (decide_eq_true c1) ?_
          have hC : hasC kd = true := by unfold hasC; rw [decide_eq_true c1]; rfl
          walk_at "rd"
          refine r_lenL (rs.same O2.1).at_ ?_
          walk_at "rd"
          refine ⟨(es.length : Int), rfl, by omega, by omega, for_it walk_range (fun m σ H' => ∃ v5, σ = [some (.ref a), some (.int (i : Int)), some (.int (j : Int)), some (.str kd), some (.ref D), v5, v6] ∧ OwnN p D H H' (crossN R i j ++ co1 R i j m)) ⟨_, rfl, by rw [show co1 R i j 0 = [] from rfl, List.append_nil]; exact O2⟩ (fun _ _ _ _ _ => trivial) ?_ ?_⟩
          · rintro m y σ H30 H3 hm ⟨v5, rfl, O3⟩ ⟨rfl, rfl⟩
            have hm : m < R.length := by have : m < ((es.length : Nat) : Int).toNat := hm; omega
            have e0 : (0 : Int) + (m : Int) = (m : Int) := by omega
            simp only [e0]
            have rs3 := rs.same O3.1
            obtain ⟨ai, eai, hai⟩ := rs3.get hi
            obtain ⟨ax, eax, hax⟩ := rs3.get hm
            walk_at "rd"
            refine r_ixL rs3.at_ (atI_nat eax) ?_
            walk_at "rd"
            refine r_ixL hax (atI_nat (prc_get g' hm hj)) ?_
            walk_at "rd"
            cases e1 : prc R m j with

            | none =>
              refine ifF rfl ?_
              walk_at "rd"
              refine ⟨_, rfl, ?_⟩
              have e9 : co1 R i j (m + 1) = co1 R i j m := by rw [co1_more, e1]; simp
              rw [e9]
              exact O3
            | some x1 =>
              refine ifT rfl ?_
              walk_at "rd"
              refine r_ixL rs3.at_ (atI_nat eax) ?_
              walk_at "rd"
              refine r_ixL hax (atI_nat (prc_get g' hm hj)) ?_
              walk_at "rd"
              rw [e1]
              walk_at "rd"
              refine r_ixL rs3.at_ (atI_nat eai) ?_
              walk_at "rd"
              refine r_ixL hai (atI_nat (prc_get g' hi hj)) ?_
              rw [ex0]
              show rI0 (fun i j => V.bl (decide (i < j))) (V.int x1) (V.int x0) _ _
              walk_at "rd"
              have v1 : val R m j = x1 := by unfold val; rw [e1]; rfl
              refine ite_dec (fun c => ?_) (fun c => ?_)
              · obtain ⟨us3, hD3, _⟩ := id O3.2
                have u3 := O3.len hD3
                simp only [List.length_append] at u3
                walk_at "rd"
                refine r_bm ?_
                walk_at "rd"
                refine ⟨.inl ⟨rfl, _, SqL.of hD3⟩, ?_⟩
                walk_at "rd"
                refine ⟨by show 2 ≤ sizeLine; decide, fun t nt => ?_⟩
                have s4' := Same.up (o := .tup [V.int (m : Int), V.int (j : Int)]) (Same.refl H3) nt
                have ht : upd H3 t (.tup [V.int (m : Int), V.int (j : Int)]) t = some (.tup [V.int (m : Int), V.int (j : Int)]) := upd_same
                obtain ⟨H4, eH4⟩ : ∃ H4, H4 = upd H3 t (.tup [V.int (m : Int), V.int (j : Int)]) := ⟨_, rfl⟩
                rw [← eH4] at s4' ht ⊢
                walk_at "rd"
                refine ⟨by show 1 ≤ sizeLine; decide, fun b nb => ?_⟩
                have s6' := Same.up (o := .lst [V.ref t]) (Same.refl H4) nb
                have hb : upd H4 b (.lst [V.ref t]) b = some (.lst [V.ref t]) := upd_same
                obtain ⟨H6, eH6⟩ : ∃ H6, H6 = upd H4 b (.lst [V.ref t]) := ⟨_, rfl⟩
                rw [← eH6] at s6' hb ⊢
                have s36 := s4'.trans s6'
                have hop3 := O3.1 _ _ hop
                have tp : t ≠ p := fun z => by rw [z, hop3] at nt; cases nt
                have bD : b ≠ D := fun z => by rw [z, s4' _ _ hD3] at nb; cases nb
                have hD6 := s36 _ _ hD3
                have pw : PrsAt p H6 [V.ref t] [((m : Int), (j : Int))] := .cons ⟨t, rfl, tp, s6' _ _ ht⟩ .nil
                walk_at "rd"
                refine ⟨D, us3, _, rfl, rfl, hD6, Nat.lt_of_le_of_lt (show us3.length ≤ 100 by have := co1_len (R := R) (i := i) (j := j) (n := m); omega) (by decide), ?_⟩
                walk_at "rd"
                refine ⟨_, rfl, ?_⟩
                have e9 : co1 R i j (m + 1) = co1 R i j m ++ [[((m : Int), (j : Int))]] := by rw [co1_more, e1, v1, v0, decide_eq_true c]; simp
                rw [e9, ← List.append_assoc]
                exact (O3.later s36).more nD hD6 hb pw bD
              · walk_at "rd"
                refine ⟨_, rfl, ?_⟩
                have e9 : co1 R i j (m + 1) = co1 R i j m := by rw [co1_more, e1, v1, v0, decide_eq_false c]; simp
                rw [e9]
                exact O3
          · rintro σ H3 ⟨v5, rfl, O3⟩
            refine hN _ _ ⟨_, _, rfl, ?_⟩
            rw [if_pos hC]
            rw [Int.toNat_natCast, rl] at O3
            exact O3
        · refine ifF (decide_eq_false c1) ?_
          walk_at "rd"
          refine r_eq rfl ?_
          rw [deq_strK]
          refine ⟨_, rfl, ?_⟩
          by_cases c2 : kd = "any"
          · refine ifT (decide_eq_true c2) ?_
            have hC : hasC kd = true := by unfold hasC; rw [decide_eq_true c2, Bool.or_true]
            walk_at "rd"
            refine r_lenL (rs.same O2.1).at_ ?_
            walk_at "rd"
            refine ⟨(es.length : Int), rfl, by omega, by omega, for_it walk_range (fun m σ H' => ∃ v5, σ = [some (.ref a), some (.int (i : Int)), some (.int (j : Int)), some (.str kd), some (.ref D), v5, v6] ∧ OwnN p D H H' (crossN R i j ++ co1 R i j m)) ⟨_, rfl, by rw [show co1 R i j 0 = [] from rfl, List.append_nil]; exact O2⟩ (fun _ _ _ _ _ => trivial) ?_ ?_⟩
            · rintro m y σ H30 H3 hm ⟨v5, rfl, O3⟩ ⟨rfl, rfl⟩
              have hm : m < R.length := by have : m < ((es.length : Nat) : Int).toNat := hm; omega
              have e0 : (0 : Int) + (m : Int) = (m : Int) := by omega
              simp only [e0]
              have rs3 := rs.same O3.1
              obtain ⟨ai, eai, hai⟩ := rs3.get hi
              obtain ⟨ax, eax, hax⟩ := rs3.get hm
              walk_at "rd"
              refine r_ixL rs3.at_ (atI_nat eax) ?_
              walk_at "rd"
              refine r_ixL hax (atI_nat (prc_get g' hm hj)) ?_
              walk_at "rd"
              cases e1 : prc R m j with

              | none =>
                refine ifF rfl ?_
                walk_at "rd"
                refine ⟨_, rfl, ?_⟩
                have e9 : co1 R i j (m + 1) = co1 R i j m := by rw [co1_more, e1]; simp
                rw [e9]
                exact O3
              | some x1 =>
                refine ifT rfl ?_
                walk_at "rd"
                refine r_ixL rs3.at_ (atI_nat eax) ?_
                walk_at "rd"
                refine r_ixL hax (atI_nat (prc_get g' hm hj)) ?_
                walk_at "rd"
                rw [e1]
                walk_at "rd"
                refine r_ixL rs3.at_ (atI_nat eai) ?_
                walk_at "rd"
                refine r_ixL hai (atI_nat (prc_get g' hi hj)) ?_
                rw [ex0]
                show rI0 (fun i j => V.bl (decide (i < j))) (V.int x1) (V.int x0) _ _
                walk_at "rd"
                have v1 : val R m j = x1 := by unfold val; rw [e1]; rfl
                refine ite_dec (fun c => ?_) (fun c => ?_)
                · obtain ⟨us3, hD3, _⟩ := id O3.2
                  have u3 := O3.len hD3
                  simp only [List.length_append] at u3
                  walk_at "rd"
                  refine r_bm ?_
                  walk_at "rd"
                  refine ⟨.inl ⟨rfl, _, SqL.of hD3⟩, ?_⟩
                  walk_at "rd"
                  refine ⟨by show 2 ≤ sizeLine; decide, fun t nt => ?_⟩
                  have s4' := Same.up (o := .tup [V.int (m : Int), V.int (j : Int)]) (Same.refl H3) nt
                  have ht : upd H3 t (.tup [V.int (m : Int), V.int (j : Int)]) t = some (.tup [V.int (m : Int), V.int (j : Int)]) := upd_same
                  obtain ⟨H4, eH4⟩ : ∃ H4, H4 = upd H3 t (.tup [V.int (m : Int), V.int (j : Int)]) := ⟨_, rfl⟩
                  rw [← eH4] at s4' ht ⊢
                  walk_at "rd"
                  refine ⟨by show 1 ≤ sizeLine; decide, fun b nb => ?_⟩
                  have s6' := Same.up (o := .lst [V.ref t]) (Same.refl H4) nb
                  have hb : upd H4 b (.lst [V.ref t]) b = some (.lst [V.ref t]) := upd_same
                  obtain ⟨H6, eH6⟩ : ∃ H6, H6 = upd H4 b (.lst [V.ref t]) := ⟨_, rfl⟩
                  rw [← eH6] at s6' hb ⊢
                  have s36 := s4'.trans s6'
                  have hop3 := O3.1 _ _ hop
                  have tp : t ≠ p := fun z => by rw [z, hop3] at nt; cases nt
                  have bD : b ≠ D := fun z => by rw [z, s4' _ _ hD3] at nb; cases nb
                  have hD6 := s36 _ _ hD3
                  have pw : PrsAt p H6 [V.ref t] [((m : Int), (j : Int))] := .cons ⟨t, rfl, tp, s6' _ _ ht⟩ .nil
                  walk_at "rd"
                  refine ⟨D, us3, _, rfl, rfl, hD6, Nat.lt_of_le_of_lt (show us3.length ≤ 100 by have := co1_len (R := R) (i := i) (j := j) (n := m); omega) (by decide), ?_⟩
                  walk_at "rd"
                  refine ⟨_, rfl, ?_⟩
                  have e9 : co1 R i j (m + 1) = co1 R i j m ++ [[((m : Int), (j : Int))]] := by rw [co1_more, e1, v1, v0, decide_eq_true c]; simp
                  rw [e9, ← List.append_assoc]
                  exact (O3.later s36).more nD hD6 hb pw bD
                · walk_at "rd"
                  refine ⟨_, rfl, ?_⟩
                  have e9 : co1 R i j (m + 1) = co1 R i j m := by rw [co1_more, e1, v1, v0, decide_eq_false c]; simp
                  rw [e9]
                  exact O3
            · rintro σ H3 ⟨v5, rfl, O3⟩
              refine hN _ _ ⟨_, _, rfl, ?_⟩
              rw [if_pos hC]
              rw [Int.toNat_natCast, rl] at O3
              exact O3
          · refine ifF (decide_eq_false c2) ?_
            have hC : hasC kd = false := by unfold hasC; rw [decide_eq_false c1, decide_eq_false c2]; rfl
            walk_at "rd"
            refine hN _ _ ⟨_, _, rfl, ?_⟩
            have e9 : ∀ l : List (List Pr), (if hasC kd = true then l else []) = [] := fun l => by rw [hC]; rfl
            rw [e9 (colN R i j), List.append_nil]
            exact O2
      rintro σ' H2 ⟨v5, v6, rfl, O2⟩
      have cc : (if hasC kd = true then colN R i j else []).length ≤ 8 := by
        split
        · exact Nat.le_trans (co1_len (R := R) (i := i) (j := j) (n := R.length)) h8
        · exact Nat.zero_le _
      dsimp only
      with_reducible refine r_seq ?_
      refine ifs_cut (fun σ' H' => ∃ v5 v6, σ' = [some (.ref a), some (.int (i : Int)), some (.int (j : Int)), some (.str kd), some (.ref D), v5, v6] ∧ OwnN p D H H' ((crossN R i j ++ (if hasC kd = true then colN R i j else [])) ++ (if hasR kd = true then rowN R i j else []))) ?_ ?_
      · intro N hN
        walk_at "rd"
        refine r_eq rfl ?_
        rw [deq_strK]
        refine ⟨_, rfl, ?_⟩
        by_cases c1 : kd = "wish"
        · refine ifT (decide_eq_true c1) ?_
          have hC : hasR kd = true := by unfold hasR; rw [decide_eq_true c1]; rfl
          obtain ⟨a0, ea0, ha0⟩ := (rs.same O2.1).get h0
          walk_at "rd"
          refine r_ixL (rs.same O2.1).at_ (atI_nat ea0) ?_
          walk_at "rd"
          refine r_lenL ha0 ?_
          rw [wd_rw0 h0]
          walk_at "rd"
          refine ⟨((wd R : Nat) : Int), rfl, by omega, by omega, for_it walk_range (fun m σ H' => ∃ v6, σ = [some (.ref a), some (.int (i : Int)), some (.int (j : Int)), some (.str kd), some (.ref D), v5, v6] ∧ OwnN p D H H' ((crossN R i j ++ (if hasC kd = true then colN R i j else [])) ++ ro1 R i j m)) ⟨_, rfl, by rw [show ro1 R i j 0 = [] from rfl, List.append_nil]; exact O2⟩ (fun _ _ _ _ _ => trivial) ?_ ?_⟩
          · rintro m y σ H30 H3 hm ⟨v6, rfl, O3⟩ ⟨rfl, rfl⟩
            have hm : m < wd R := by have : m < ((wd R : Nat) : Int).toNat := hm; omega
            have e0 : (0 : Int) + (m : Int) = (m : Int) := by omega
            simp only [e0]
            have rs3 := rs.same O3.1
            obtain ⟨ai, eai, hai⟩ := rs3.get hi
            obtain ⟨ax, eax, hax⟩ := rs3.get hi
            walk_at "rd"
            refine r_ixL rs3.at_ (atI_nat eax) ?_
            walk_at "rd"
            refine r_ixL hax (atI_nat (prc_get g' hi hm)) ?_
            walk_at "rd"
            cases e1 : prc R i m with

            | none =>
              refine ifF rfl ?_
              walk_at "rd"
              refine ⟨_, rfl, ?_⟩
              have e9 : ro1 R i j (m + 1) = ro1 R i j m := by rw [ro1_more, e1]; simp
              rw [e9]
              exact O3
            | some x1 =>
              refine ifT rfl ?_
              walk_at "rd"
              refine r_ixL rs3.at_ (atI_nat eax) ?_
              walk_at "rd"
              refine r_ixL hax (atI_nat (prc_get g' hi hm)) ?_
              walk_at "rd"
              rw [e1]
              walk_at "rd"
              refine r_ixL rs3.at_ (atI_nat eai) ?_
              walk_at "rd"
              refine r_ixL hai (atI_nat (prc_get g' hi hj)) ?_
              rw [ex0]
              show rI0 (fun i j => V.bl (decide (i < j))) (V.int x1) (V.int x0) _ _
              walk_at "rd"
              have v1 : val R i m = x1 := by unfold val; rw [e1]; rfl
              refine ite_dec (fun c => ?_) (fun c => ?_)
              · obtain ⟨us3, hD3, _⟩ := id O3.2
                have u3 := O3.len hD3
                simp only [List.length_append] at u3
                walk_at "rd"
                refine r_bm ?_
                walk_at "rd"
                refine ⟨.inl ⟨rfl, _, SqL.of hD3⟩, ?_⟩
                walk_at "rd"
                refine ⟨by show 2 ≤ sizeLine; decide, fun t nt => ?_⟩
                have s4' := Same.up (o := .tup [V.int (i : Int), V.int (m : Int)]) (Same.refl H3) nt
                have ht : upd H3 t (.tup [V.int (i : Int), V.int (m : Int)]) t = some (.tup [V.int (i : Int), V.int (m : Int)]) := upd_same
                obtain ⟨H4, eH4⟩ : ∃ H4, H4 = upd H3 t (.tup [V.int (i : Int), V.int (m : Int)]) := ⟨_, rfl⟩
                rw [← eH4] at s4' ht ⊢
                walk_at "rd"
                refine ⟨by show 1 ≤ sizeLine; decide, fun b nb => ?_⟩
                have s6' := Same.up (o := .lst [V.ref t]) (Same.refl H4) nb
                have hb : upd H4 b (.lst [V.ref t]) b = some (.lst [V.ref t]) := upd_same
                obtain ⟨H6, eH6⟩ : ∃ H6, H6 = upd H4 b (.lst [V.ref t]) := ⟨_, rfl⟩
                rw [← eH6] at s6' hb ⊢
                have s36 := s4'.trans s6'
                have hop3 := O3.1 _ _ hop
                have tp : t ≠ p := fun z => by rw [z, hop3] at nt; cases nt
                have bD : b ≠ D := fun z => by rw [z, s4' _ _ hD3] at nb; cases nb
                have hD6 := s36 _ _ hD3
                have pw : PrsAt p H6 [V.ref t] [((i : Int), (m : Int))] := .cons ⟨t, rfl, tp, s6' _ _ ht⟩ .nil
                walk_at "rd"
                refine ⟨D, us3, _, rfl, rfl, hD6, Nat.lt_of_le_of_lt (show us3.length ≤ 100 by have := ro1_len (R := R) (i := i) (j := j) (n := m); omega) (by decide), ?_⟩
                walk_at "rd"
                refine ⟨_, rfl, ?_⟩
                have e9 : ro1 R i j (m + 1) = ro1 R i j m ++ [[((i : Int), (m : Int))]] := by rw [ro1_more, e1, v1, v0, decide_eq_true c]; simp
                rw [e9, ← List.append_assoc]
                exact (O3.later s36).more nD hD6 hb pw bD
              · walk_at "rd"
                refine ⟨_, rfl, ?_⟩
                have e9 : ro1 R i j (m + 1) = ro1 R i j m := by rw [ro1_more, e1, v1, v0, decide_eq_false c]; simp
                rw [e9]
                exact O3
          · rintro σ H3 ⟨v6, rfl, O3⟩
            refine hN _ _ ⟨_, _, rfl, ?_⟩
            rw [if_pos hC]
            rw [Int.toNat_natCast] at O3
            exact O3
        · refine ifF (decide_eq_false c1) ?_
          walk_at "rd"
          refine r_eq rfl ?_
          rw [deq_strK]
          refine ⟨_, rfl, ?_⟩
          by_cases c2 : kd = "any"
          · refine ifT (decide_eq_true c2) ?_
            have hC : hasR kd = true := by unfold hasR; rw [decide_eq_true c2, Bool.or_true]
            obtain ⟨a0, ea0, ha0⟩ := (rs.same O2.1).get h0
            walk_at "rd"
            refine r_ixL (rs.same O2.1).at_ (atI_nat ea0) ?_
            walk_at "rd"
            refine r_lenL ha0 ?_
            rw [wd_rw0 h0]
            walk_at "rd"
            refine ⟨((wd R : Nat) : Int), rfl, by omega, by omega, for_it walk_range (fun m σ H' => ∃ v6, σ = [some (.ref a), some (.int (i : Int)), some (.int (j : Int)), some (.str kd), some (.ref D), v5, v6] ∧ OwnN p D H H' ((crossN R i j ++ (if hasC kd = true then colN R i j else [])) ++ ro1 R i j m)) ⟨_, rfl, by rw [show ro1 R i j 0 = [] from rfl, List.append_nil]; exact O2⟩ (fun _ _ _ _ _ => trivial) ?_ ?_⟩
            · rintro m y σ H30 H3 hm ⟨v6, rfl, O3⟩ ⟨rfl, rfl⟩
              have hm : m < wd R := by have : m < ((wd R : Nat) : Int).toNat := hm; omega
              have e0 : (0 : Int) + (m : Int) = (m : Int) := by omega
              simp only [e0]
              have rs3 := rs.same O3.1
              obtain ⟨ai, eai, hai⟩ := rs3.get hi
              obtain ⟨ax, eax, hax⟩ := rs3.get hi
              walk_at "rd"
              refine r_ixL rs3.at_ (atI_nat eax) ?_
              walk_at "rd"
              refine r_ixL hax (atI_nat (prc_get g' hi hm)) ?_
              walk_at "rd"
              cases e1 : prc R i m with

              | none =>
                refine ifF rfl ?_
                walk_at "rd"
                refine ⟨_, rfl, ?_⟩
                have e9 : ro1 R i j (m + 1) = ro1 R i j m := by rw [ro1_more, e1]; simp
                rw [e9]
                exact O3
              | some x1 =>
                refine ifT rfl ?_
                walk_at "rd"
                refine r_ixL rs3.at_ (atI_nat eax) ?_
                walk_at "rd"
                refine r_ixL hax (atI_nat (prc_get g' hi hm)) ?_
                walk_at "rd"
                rw [e1]
                walk_at "rd"
                refine r_ixL rs3.at_ (atI_nat eai) ?_
                walk_at "rd"
                refine r_ixL hai (atI_nat (prc_get g' hi hj)) ?_
                rw [ex0]
                show rI0 (fun i j => V.bl (decide (i < j))) (V.int x1) (V.int x0) _ _
                walk_at "rd"
                have v1 : val R i m = x1 := by unfold val; rw [e1]; rfl
                refine ite_dec (fun c => ?_) (fun c => ?_)
                · obtain ⟨us3, hD3, _⟩ := id O3.2
                  have u3 := O3.len hD3
                  simp only [List.length_append] at u3
                  walk_at "rd"
                  refine r_bm ?_
                  walk_at "rd"
                  refine ⟨.inl ⟨rfl, _, SqL.of hD3⟩, ?_⟩
                  walk_at "rd"
                  refine ⟨by show 2 ≤ sizeLine; decide, fun t nt => ?_⟩
                  have s4' := Same.up (o := .tup [V.int (i : Int), V.int (m : Int)]) (Same.refl H3) nt
                  have ht : upd H3 t (.tup [V.int (i : Int), V.int (m : Int)]) t = some (.tup [V.int (i : Int), V.int (m : Int)]) := upd_same
                  obtain ⟨H4, eH4⟩ : ∃ H4, H4 = upd H3 t (.tup [V.int (i : Int), V.int (m : Int)]) := ⟨_, rfl⟩
                  rw [← eH4] at s4' ht ⊢
                  walk_at "rd"
                  refine ⟨by show 1 ≤ sizeLine; decide, fun b nb => ?_⟩
                  have s6' := Same.up (o := .lst [V.ref t]) (Same.refl H4) nb
                  have hb : upd H4 b (.lst [V.ref t]) b = some (.lst [V.ref t]) := upd_same
                  obtain ⟨H6, eH6⟩ : ∃ H6, H6 = upd H4 b (.lst [V.ref t]) := ⟨_, rfl⟩
                  rw [← eH6] at s6' hb ⊢
                  have s36 := s4'.trans s6'
                  have hop3 := O3.1 _ _ hop
                  have tp : t ≠ p := fun z => by rw [z, hop3] at nt; cases nt
                  have bD : b ≠ D := fun z => by rw [z, s4' _ _ hD3] at nb; cases nb
                  have hD6 := s36 _ _ hD3
                  have pw : PrsAt p H6 [V.ref t] [((i : Int), (m : Int))] := .cons ⟨t, rfl, tp, s6' _ _ ht⟩ .nil
                  walk_at "rd"
                  refine ⟨D, us3, _, rfl, rfl, hD6, Nat.lt_of_le_of_lt (show us3.length ≤ 100 by have := ro1_len (R := R) (i := i) (j := j) (n := m); omega) (by decide), ?_⟩
                  walk_at "rd"
                  refine ⟨_, rfl, ?_⟩
                  have e9 : ro1 R i j (m + 1) = ro1 R i j m ++ [[((i : Int), (m : Int))]] := by rw [ro1_more, e1, v1, v0, decide_eq_true c]; simp
                  rw [e9, ← List.append_assoc]
                  exact (O3.later s36).more nD hD6 hb pw bD
                · walk_at "rd"
                  refine ⟨_, rfl, ?_⟩
                  have e9 : ro1 R i j (m + 1) = ro1 R i j m := by rw [ro1_more, e1, v1, v0, decide_eq_false c]; simp
                  rw [e9]
                  exact O3
            · rintro σ H3 ⟨v6, rfl, O3⟩
              refine hN _ _ ⟨_, _, rfl, ?_⟩
              rw [if_pos hC]
              rw [Int.toNat_natCast] at O3
              exact O3
          · refine ifF (decide_eq_false c2) ?_
            have hC : hasR kd = false := by unfold hasR; rw [decide_eq_false c1, decide_eq_false c2]; rfl
            walk_at "rd"
            refine hN _ _ ⟨_, _, rfl, ?_⟩
            have e9 : ∀ l : List (List Pr), (if hasR kd = true then l else []) = [] := fun l => by rw [hC]; rfl
            rw [e9 (rowN R i j), List.append_nil]
            exact O2
      rintro σ' H2 ⟨v5, v6, rfl, O2⟩
      obtain ⟨s2, us, hD, ls, _⟩ := O2
      dsimp only
      walk_at "rd"
      exact k D us H2 s2 hD ls
end
end Pk
set_option Elab.async false
set_option linter.all false
set_option maxRecDepth 100000
set_option maxHeartbeats 4000000
namespace Pk
open PySem L2
local macro_rules | `(tactic| walk_at "rd") => `(tactic| repeat (first
  | with_reducible refine r_seq ?_ | with_reducible refine r_nxt ?_ | with_reducible refine r_asg ?_ | with_reducible refine r_to ?_ | with_reducible refine r_ret ?_ | with_reducible refine r_for ?_ | with_reducible refine r_lc ?_ | with_reducible refine r_lc2 ?_ | with_reducible refine r_rng1 ?_ | with_reducible refine r_list ?_ | with_reducible refine r_tupI ?_ | with_reducible refine r_drop ?_ | with_reducible refine r_ifs ?_
  | with_reducible refine r_op ?_ | with_reducible refine r_c ?_ | with_reducible refine r_var rfl ?_ | with_reducible refine r_var (by assumption) ?_ | with_reducible refine r_I0 ?_ | with_reducible refine r_un ?_ | with_reducible refine r_U ?_ | with_reducible refine r_make ?_ | with_reducible refine r_makeS ?_ | with_reducible refine r_ifE ?_ | with_reducible refine r_cm ?_ | with_reducible refine r_mkV rfl ?_ | with_reducible refine r_sub ?_
  | with_reducible refine r_nil ?_ | with_reducible refine r_cons ?_ | with_reducible refine r_cb ?_ | with_reducible refine r_sl ?_ | with_reducible refine r_noP ?_ | with_reducible refine r_part ?_ | with_reducible refine r_isI ?_ | with_reducible refine r_lst ?_ | with_reducible refine r_tup ?_ | with_reducible refine r_call ?_ | with_reducible refine r_callS ?_ | with_reducible refine r_sFldU ?_ | with_reducible refine r_chain ?_ | with_reducible refine r_enum ?_ | with_reducible refine r_zip ?_ | with_reducible refine r_rng3 ?_ | with_reducible refine r_gtup ?_ | with_reducible refine r_methU ?_
  | with_reducible refine r_test ?_ | with_reducible refine r_B ?_ | with_reducible refine r_and ?_ | with_reducible refine r_or ?_ | with_reducible refine r_not ?_ | with_reducible refine r_andV ?_ | with_reducible refine r_orV ?_ | with_reducible refine r_notV ?_ | with_reducible refine r_bl ?_ | with_reducible refine r_yes ?_ | with_reducible refine r_int ?_ | with_reducible refine r_is0 ?_ | with_reducible refine r_is1 ?_ | with_reducible refine iteT ?_ | with_reducible refine iteF ?_ | with_reducible refine ite_nF ?_ | with_reducible refine ite_nT ?_
  | with_reducible refine r_mod (by decide) ?_ | with_reducible refine r_div (by decide) (by decide) ?_ | with_reducible refine r_mulR (by decide) (by decide) ?_ | with_reducible refine r_mulL (by decide) (by decide) ?_ | with_reducible refine r_pow (by decide) (by decide) (by decide) ?_))
/-! ### what may come next, by the needs; a walk -/
theorem perm_of : ∀ {xs ys : List Pr}, xs.Nodup → (∀ z, z ∈ xs → z ∈ ys) → ys.length ≤ xs.length → xs.Perm ys
  | [], ys, _, _, l => by
    cases ys with
    | nil => exact .nil
    | cons a t => simp at l
  | a :: t, ys, nd, sub, l => by
    obtain ⟨n1, n2⟩ := List.nodup_cons.mp nd
    have m := sub a (List.mem_cons_self ..)
    have pm := List.perm_cons_erase m
    have len := pm.length_eq
    rw [List.length_cons] at len l
    refine (List.Perm.cons a (perm_of n2 (fun z hz => ?_) (by omega))).trans pm.symm
    have := pm.mem_iff.mp (sub z (List.mem_cons_of_mem _ hz))
    rcases List.mem_cons.mp this with h | h
    · exact absurd (h ▸ hz) n1
    · exact h
def openB (R : Rw) (kd : Str) (ps : List Pr) (z : Pr) : Bool := !decide (z ∈ ps) && metD (needsL R z.1.toNat z.2.toNat kd) ps
def openL (R : Rw) (kd : Str) (ps : List Pr) : List Pr := (cells R).filter (openB R kd ps)
theorem rightN_snoc {R : Rw} {kd : Str} {z : Pr} : ∀ {zs ps : List Pr}, rightN R kd ps (zs ++ [z]) = (rightN R kd ps zs && metD (needsL R z.1.toNat z.2.toNat kd) (ps ++ zs))
  | [], ps => by
    rw [List.nil_append, rightN, rightN, rightN, Bool.and_true, Bool.true_and, List.append_nil]
  | y :: zs, ps => by
    rw [List.cons_append, rightN, rightN_snoc, rightN, Bool.and_assoc, List.append_assoc]; rfl
theorem keys_prs {p : Addr} {H : Hp} (hp : ∀ xs, H p ≠ some (.tup xs)) : ∀ {kvs : List (List Key × V)} {bs : List Addr} {zs : List Pr}, IsKeys H kvs bs → (kvs.map fun q : List Key × V => q.1) = zs.map kzP → PrsAt p H (bs.map V.ref) zs
  | [], _, [], .nil, _ => .nil
  | [], _, _ :: _, .nil, e => by cases e
  | _ :: _, _, [], .cons _ _, e => by cases e
  | k :: kvs, b :: bs, z :: zs, .cons h r, e => by
    have e := List.cons.inj (show k.1 :: (kvs.map fun q : List Key × V => q.1) = kzP z :: zs.map kzP from e)
    refine .cons ⟨b, rfl, fun q => hp _ (by rw [← q]; exact h), ?_⟩ (keys_prs hp r e.2)
    rw [h, e.1]; rfl
theorem r_dnotin {td ty : TE} {σ : L2.St} {H : Hp} {Q : VK} (h : ty σ H fun y H1 => td σ H1 fun x H2 => ∃ a o, x = .ref a ∧ DGet H2 a y o ∧ Q (.bl (!o.isSome)) H2) : tDNotIn ty td σ H Q := h
def NoTup (p : Addr) (H : Hp) : Prop := ∃ us : List V, H p = some (.lst us)
theorem NoTup.no {p : Addr} {H : Hp} (h : NoTup p H) : ∀ xs, H p ≠ some (.tup xs) := fun xs q => by obtain ⟨us, e⟩ := h; rw [e] at q; cases q
theorem NoTup.same {p : Addr} {H H' : Hp} (h : NoTup p H) (s : Same H H') : NoTup p H' := by obtain ⟨us, e⟩ := h; exact ⟨us, s _ _ e⟩
def spOpen : Sp := fun vs H Q _ => ∃ (p d D : Addr) (R : Rw) (kd : Str) (ps : List Pr), vs = [.ref d, .ref D] ∧ Gt R ∧ NdK p H d R kd ∧ PlK H D ps ∧ NoTup p H ∧ ∀ (r : Addr) (us : List V) (H' : Hp), Same H H' → H r = none → H' r = some (.lst us) → PrsAt p H' us (openL R kd ps) → Q (.ref r) H'
abbrev slOpen : Stmt := top 68
section
variable {P : Program} {w : World} {K : PySem.W.Frag} {mg : Str → Option Value} {base : Heap} {f : Addr} {fd : FuncData}
theorem sclOpen : FnScope ["_law_needs_here", "_law_placed", "_law_found", "_law_spot"] ["_law_needs_here", "_law_placed"] (defScope slOpen) := ⟨rfl, rfl, rfl, by decide +kernel, rfl, by decide +kernel, by decide +kernel⟩
theorem ok_open (F : Fun K "_law_open" "_law_open" slOpen f fd) (T : Bt mg) (DM : Df P w K mg base CX0 "_law_met" 1 ["_law_own", "_law_placed"] spMet) : FnOk P w K mg base CX0 2 f fd ["_law_needs_here", "_law_placed"] spOpen := by
  refine F.ok sclOpen (fun vs H Q E h => ?_) (fun cdv A outer s H vs Q E hr h => ?_)
  · obtain ⟨p, d, D, R, kd, ps, rfl, _⟩ := h
    rfl
  · obtain ⟨p, d, D, R, kd, ps, rfl, g, nd, pl, np, k⟩ := h
    have hu1 := Nat.lt_of_le_of_lt (Nat.add_le_add_left (show 1 ≤ 64 by decide) _) hr.units
    refine ⟨_, (pss_cons (ps_set (i := 2) sclOpen.nd rfl (Or.inl rfl) (pe_lst pa_nil))
  (pss_cons (ps_for PassesOwn.never rfl (pi_list (pe_callTy (T := "list") (call_list_dT rfl) (by rfl) T.list (by decide +kernel) (pa_cons (pv 0) pa_nil))) (pg_name (i := 3) sclOpen.nd rfl (Or.inl rfl)) (pss_one (ps_if (PW.pt (pw_and (pt_cmp (pc_dnotin hu1 (pv 3) (pv 1))) (pw_and1 (pt_val (pe_df DM hr (by decide) (pa_cons (pe_dget hu1 (pv 0) (pv 3) (fun _ _ => rfl)) (pa_cons (pv 1) pa_nil))))))) (pss_one (ps_expr (pe_bm PySem.F.plainAttrs_list PySem.F.slot_list_append PySem.F.type_list_append mt_append (pv 2) (pa_cons (pv 3) pa_nil)))) pss_nil)))
  (pss_one (ps_ret (pv 2))))), ?_⟩
    have c64 := cells_len g
    walk_at "rd"
    refine ⟨Nat.zero_le _, fun tl ntl => ?_⟩
    have s1 := Same.up (o := .lst []) (Same.refl H) ntl
    have htl : upd H tl (.lst []) tl = some (.lst []) := upd_same
    have F0 : FlAt p H tl (cells R) (openB R kd ps) 0 (upd H tl (.lst [])) := FlAt.start ntl
    obtain ⟨H1, eH1⟩ : ∃ H1, H1 = upd H tl (.lst []) := ⟨_, rfl⟩
    rw [← eH1] at s1 htl F0 ⊢
    obtain ⟨kvs, hd, ek, _⟩ := id (nd.same s1)
    walk_at "rd"
    refine ⟨d, kvs, rfl, Rd.of hd, fun q bs nq ks => ?_⟩
    have pw0 := keys_prs ((np.same s1).no) ks ek
    have pwH : PrsAt p H (bs.map V.ref) (cells R) := pw0.mono fun t xs e => by
      by_cases c : t = tl
      · rw [c, htl] at e; cases e
      · rw [eH1, upd_ne c] at e; exact e
    have s2' := Same.up (o := .lst (bs.map V.ref)) (Same.refl H1) nq
    have hq : upd H1 q (.lst (bs.map V.ref)) q = some (.lst (bs.map V.ref)) := upd_same
    have htl2 := s2' _ _ htl
    have pw := pw0.keep (Keep.same s2')
    have qt : q ≠ tl := fun z => by rw [z, htl] at nq; cases nq
    obtain ⟨H2, eH2⟩ : ∃ H2, H2 = upd H1 q (.lst (bs.map V.ref)) := ⟨_, rfl⟩
    rw [← eH2] at s2' hq htl2 pw ⊢
    have F2 : FlAt p H tl (cells R) (openB R kd ps) 0 H2 := ⟨s1.trans s2', [], htl2, Nat.le_refl _, .nil⟩
    have bl := pw.length
    refine ⟨q, rfl, ⟨_, SqL.of hq⟩, for_it walk_list (fun m σ H' => ∃ v3, σ = [some (.ref d), some (.ref D), some (.ref tl), v3] ∧ FlAt p H tl (cells R) (openB R kd ps) m H' ∧ H' q = some (.lst (bs.map V.ref)) ∧ PrsAt p H' (bs.map V.ref) (cells R)) ⟨_, rfl, F2, hq, pw⟩ (fun m σ H' _ z => by obtain ⟨_, _, _, z, _⟩ := z; exact SqL.of z) ?_ ?_⟩
    · rintro m y σ H30 H3 hm ⟨v3, rfl, F3, hq3, pw3⟩ ⟨rfl, ey⟩
      have hm : m < (bs.map V.ref).length := hm
      obtain ⟨z, ez, pz⟩ := pwH.at ey
      obtain ⟨tt, rfl, _, ht0⟩ := id pz
      have ht := F3.1 _ _ ht0
      have zm := List.mem_of_getElem? ez
      obtain ⟨i, j, rfl, hi, hj, _⟩ := cells_nat zm
      obtain ⟨kv2, hD2, _, q2⟩ := (pl.same F3.1).get
      obtain ⟨kv3, hd3, _, q3⟩ := nd.same F3.1
      obtain ⟨a, ws, ea, ha, ls⟩ := q3 i j zm
      have more : ∀ H4, Same H3 H4 → FlAt p H tl (cells R) (openB R kd ps) m H4 := fun H4 s4 => by
        obtain ⟨s, us, e, l, u⟩ := F3
        exact ⟨s.trans s4, us, s4 _ _ e, l, u.keep (Keep.same s4)⟩
      walk_at "rd"
      refine r_dnotin ?_
      walk_at "rd"
      refine ⟨D, _, rfl, DGet.t (k := kzP ((i : Int), (j : Int))) hD2 ht, ?_⟩
      refine ⟨_, rfl, ?_⟩
      rw [q2]
      by_cases c : ((i : Int), (j : Int)) ∈ ps
      · rw [decide_eq_true c]
        refine ifF rfl ?_
        walk_at "rd"
        exact ⟨_, rfl, F3.no ez (by unfold openB; rw [decide_eq_true c]; rfl), hq3, pw3⟩
      · rw [decide_eq_false c]
        refine ifT rfl ?_
        walk_at "rd"
        refine r_dget ?_
        walk_at "rd"
        refine ⟨d, _, rfl, DGet.t (k := kzP ((i : Int), (j : Int))) hd3 ht |> (fun h => by rw [ea] at h; exact h), ?_⟩
        walk_at "rd"
        refine ⟨p, a, D, ws, _, _, rfl, ha, ls, fun n hn => needs_short hn, pl.same F3.1, fun H4 s4 => ?_⟩
        have eo : openB R kd ps ((i : Int), (j : Int)) = metD (needsL R i j kd) ps := by
          unfold openB
          rw [decide_eq_false c]
          simp only [Int.toNat_natCast, Bool.not_false, Bool.true_and]
        refine ⟨_, rfl, ?_⟩
        cases e : metD (needsL R i j kd) ps with
        | false =>
          refine ifF rfl ?_
          walk_at "rd"
          exact ⟨_, rfl, (more H4 s4).no ez (eo.trans e), s4 _ _ hq3, pw3.keep (Keep.same s4)⟩
        | true =>
          refine ifT rfl ?_
          have F4 := more H4 s4
          obtain ⟨us4, htl4, ul4, _⟩ := id F4.2
          walk_at "rd"
          refine r_bm ?_
          walk_at "rd"
          refine ⟨.inl ⟨rfl, _, SqL.of htl4⟩, ?_⟩
          walk_at "rd"
          obtain ⟨acc, ha4, hl4, fin⟩ := F4.yes ntl ez pz (eo.trans e) (Nat.lt_of_lt_of_le (show m < 65 by omega) (by decide))
          refine ⟨tl, acc, _, rfl, rfl, ha4, hl4, ?_⟩
          walk_at "rd"
          refine ⟨_, rfl, fin, ?_, ?_⟩
          · rw [upd_ne qt]; exact s4 _ _ hq3
          · exact (pw3.keep (Keep.same s4)).mono fun c xs e => by
              rw [upd_ne (fun z => by rw [z, ha4] at e; cases e)]; exact e
    · rintro σ H3 ⟨v3, rfl, F3, hq3, pw3⟩
      obtain ⟨s3, us, e3, p3⟩ := F3.fin bl
      walk_at "rd"
      exact k tl us H3 s3 ntl e3 p3
end
/-- a walk: right so far, of the table's pairs, each once -/
structure Wk (R : Rw) (kd : Str) (zs : List Pr) : Prop where
  nd : zs.Nodup
  sub : ∀ z, z ∈ zs → z ∈ cells R
  right : rightN R kd [] zs = true
theorem Wk.more {R : Rw} {kd : Str} {zs : List Pr} {z : Pr} (h : Wk R kd zs) (m : z ∈ openL R kd zs) : z ∉ zs ∧ Wk R kd (zs ++ [z]) := by
  obtain ⟨zc, o⟩ := List.mem_filter.mp m
  unfold openB at o
  rw [Bool.and_eq_true, Bool.not_eq_true', decide_eq_false_iff_not] at o
  refine ⟨o.1, List.nodup_append.mpr ⟨h.nd, List.nodup_cons.mpr ⟨List.not_mem_nil, List.nodup_nil⟩, fun a ha b hb e => ?_⟩, fun y hy => ?_, ?_⟩
  · rw [List.mem_singleton.mp hb] at e
    exact o.1 (e ▸ ha)
  · rcases List.mem_append.mp hy with hy | hy
    · exact h.sub y hy
    · rw [List.mem_singleton.mp hy]; exact zc
  · rw [rightN_snoc, h.right, Bool.true_and, List.nil_append]
    exact o.2
/-- what a walk tells: a right order of all pairs, or None where it can't go on -/
def spWalk (K : PySem.W.Frag) : Sp := fun vs H Q _ => ∃ (p d q : Addr) (R : Rw) (kd : Str) (ns : List Int), vs = [.ref d, .ref q] ∧ Gt R ∧ NdK p H d R kd ∧ NoTup p H ∧ H q = some (.lst (ns.map V.int)) ∧ (cells R).length ≤ ns.length ∧
  (∀ (zs : List Pr) (H' : Hp), Same H H' → Wk R kd zs → openL R kd zs = [] → zs.length < (cells R).length → Q .non H') ∧
  ∀ (r : Addr) (us : List V) (zs : List Pr) (H' : Hp), Same H H' → H r = none → H' r = some (.lst us) → PrsAt p H' us zs → zs.Perm (cells R) → rightN R kd [] zs = true → Q (.ref r) H'
abbrev slWalk : Stmt := top 70
section
variable {P : Program} {w : World} {K : PySem.W.Frag} {mg : Str → Option Value} {base : Heap} {f : Addr} {fd : FuncData}
theorem sclWalk : FnScope ["_law_needs_here", "_law_picks", "_law_placed", "_law_k", "_law_found"] ["_law_needs_here", "_law_picks"] (defScope slWalk) := ⟨rfl, rfl, rfl, by decide +kernel, rfl, by decide +kernel, by decide +kernel⟩
theorem ok_walk (F : Fun K "_law_walk" "_law_walk" slWalk f fd) (T : Bt mg) (DO : Df P w K mg base CX0 "_law_open" 2 ["_law_needs_here", "_law_placed"] spOpen) : FnOk P w K mg base CX0 3 f fd ["_law_needs_here", "_law_picks"] (spWalk K) := by
  refine F.ok sclWalk (fun vs H Q E h => ?_) (fun cdv A outer s H vs Q E hr h => ?_)
  · obtain ⟨p, d, q, R, kd, ns, rfl, _⟩ := h
    rfl
  · obtain ⟨p, d, q, R, kd, ns, rfl, g, nd, np, hq, nl, kN, kY⟩ := h
    have hu1 := Nat.lt_of_le_of_lt (Nat.add_le_add_left (show 1 ≤ 64 by decide) _) hr.units
    refine ⟨_, (pss_cons (ps_set (i := 2) sclWalk.nd rfl (Or.inl rfl) pe_dnewT)
  (pss_cons (ps_for PassesOwn.never rfl (pi_range1 rfl T.range (pa_cons (pe_callB call_len_dT (by rfl) T.len (by decide +kernel) (pa_cons (pv 0) pa_nil)) pa_nil)) (pg_name (i := 3) sclWalk.nd rfl (Or.inl rfl)) (pss_cons (ps_set (i := 4) sclWalk.nd rfl (Or.inl rfl) (pe_df DO hr (by decide) (pa_cons (pv 0) (pa_cons (pv 2) pa_nil))))
    (pss_cons (ps_if (pt_cmpR op_eq (pe_callB cl_len (by rfl) T.len (by decide +kernel) (pa_cons (pv 4) pa_nil)) pe_int (nomark _)) (pss_one (ps_ret pe_non)) pss_nil)
    (pss_one (ps_dput hu1 (pv 2) (pe_ix ix_list (pv 4) (pe_op op_mod (pe_callTy cl_int (by rfl) T.int (by decide +kernel) (pa_cons (pe_ix ix_list (pv 1) (pv 3) (fun _ _ => rfl)) pa_nil)) (pe_callB cl_len (by rfl) T.len (by decide +kernel) (pa_cons (pv 4) pa_nil))) (fun _ _ => rfl)) pe_bl rfl)))))
  (pss_one (ps_ret (pe_callTy (T := "list") (call_list_dT rfl) (by rfl) T.list (by decide +kernel) (pa_cons (pv 2) pa_nil)))))), ?_⟩
    have c64 := cells_len g
    obtain ⟨kvs, hd, ek, _⟩ := id nd
    have kl : kvs.length = (cells R).length := by
      have := congrArg List.length ek
      rwa [List.length_map, List.length_map] at this
    walk_at "rd"
    intro D nD
    have s1 := Same.up (o := .dT []) (Same.refl H) nD
    have hD1 : upd H D (.dT []) D = some (.dT []) := upd_same
    obtain ⟨H1, eH1⟩ : ∃ H1, H1 = upd H D (.dT []) := ⟨_, rfl⟩
    rw [← eH1] at s1 hD1 ⊢
    walk_at "rd"
    refine ⟨d, kvs, rfl, s1 _ _ hd, ?_⟩
    walk_at "rd"
    refine ⟨((kvs.length : Nat) : Int), rfl, by omega, by omega, for_it walk_range (fun m σ H' => ∃ v3 v4 zs, σ = [some (.ref d), some (.ref q), some (.ref D), v3, v4] ∧ Same H H' ∧ PlK H' D zs ∧ zs.length = m ∧ Wk R kd zs) ⟨_, _, [], rfl, s1, ⟨[], hD1, rfl⟩, rfl, ⟨List.nodup_nil, (fun z h => by cases h), rfl⟩⟩ (fun _ _ _ _ _ => trivial) ?_ ?_⟩
    · rintro m y σ H20 H2 hm ⟨v3, v4, zs, rfl, s2, pl, zl, wk⟩ ⟨rfl, rfl⟩
      have hm : m < (cells R).length := by have : m < ((kvs.length : Nat) : Int).toNat := hm; omega
      have e0 : (0 : Int) + (m : Int) = (m : Int) := by omega
      simp only [e0]
      walk_at "rd"
      refine ⟨p, d, D, R, kd, zs, rfl, g, nd.same s2, pl, np.same s2, fun r us H3 s3' nr hr3 pu => ?_⟩
      have s3 := s2.trans s3'
      have ul := pu.length
      walk_at "rd"
      refine r_lenL (SqL.of hr3) ?_
      walk_at "rd"
      refine r_eq rfl ?_
      refine ⟨_, rfl, ?_⟩
      by_cases c : us.length = 0
      · refine ifT (decide_eq_true (by rw [c]; rfl)) ?_
        walk_at "rd"
        exact kN zs H3 s3 wk (List.length_eq_zero_iff.mp (by omega)) (by omega)
      · refine ifF (decide_eq_false fun z => c (by have := V.int.inj z; omega)) ?_
        obtain ⟨x, ex⟩ : ∃ x, ns[m]? = some x := ⟨_, List.getElem?_eq_getElem (by omega)⟩
        obtain ⟨t, et⟩ : ∃ t : Nat, x % (us.length : Int) = (t : Int) := ⟨(x % (us.length : Int)).toNat, by have := Int.emod_nonneg x (show (us.length : Int) ≠ 0 by omega); omega⟩
        have tl : t < us.length := by have := Int.emod_lt_of_pos x (show 0 < (us.length : Int) by omega); omega
        obtain ⟨z, ez, pz⟩ := pu.at (List.getElem?_eq_getElem tl)
        obtain ⟨tt, ett, _, ht⟩ := id pz
        have zm := List.mem_of_getElem? ez
        obtain ⟨zn, wk2⟩ := wk.more zm
        obtain ⟨kv2, hD2, k2⟩ := id (pl.same s3')
        obtain ⟨kv3, hD3, l2, _⟩ := (pl.same s3').get
        rw [hD2] at hD3
        cases hD3
        refine r_nxt ?_
        dsimp only
        refine r_dput ?_
        walk_at "rd"
        refine r_ixL (SqL.of (s3 _ _ hq)) (atI_nat (by rw [List.getElem?_map, ex]; rfl)) ?_
        walk_at "rd"
        refine r_lenL (SqL.of hr3) ?_
        refine r_mod (by omega) ?_
        rw [et]
        refine r_ixL (SqL.of hr3) (atI_nat (List.getElem?_eq_getElem tl)) ?_
        rw [ett]
        refine ⟨D, _, rfl, DPut.t (k := kzP z) hD2 ht (Nat.lt_of_le_of_lt (show kv2.length ≤ 64 by omega) (by decide)), ?_⟩
        refine ⟨_, _, zs ++ [z], rfl, fun c o e => ?_, PlK.put hD2 k2 zn, by rw [List.length_append, zl]; rfl, wk2⟩
        rw [upd_ne (fun q => by rw [q, nD] at e; cases e)]
        exact s3 _ _ e
    · rintro σ H2 ⟨v3, v4, zs, rfl, s2, pl, zl, wk⟩
      obtain ⟨kv2, hD2, k2⟩ := id pl
      walk_at "rd"
      refine ⟨D, kv2, rfl, Rd.of hD2, fun r bs nr ks => ?_⟩
      have pr := keys_prs ((np.same s2).no) ks k2
      have s3 := Same.up (o := .lst (bs.map V.ref)) (Same.refl H2) nr
      have zl : zs.length = (cells R).length := by rw [zl, Int.toNat_natCast, kl]
      exact kY r _ zs _ (s2.trans s3) (s2.free nr) upd_same (pr.keep (Keep.same s3)) (perm_of wk.nd wk.sub (by omega)) wk.right
end
end Pk
set_option Elab.async false
set_option linter.all false
set_option maxRecDepth 100000
set_option maxHeartbeats 4000000
namespace Pk
open PySem L2
local macro_rules | `(tactic| walk_at "rd") => `(tactic| repeat (first
  | with_reducible refine r_seq ?_ | with_reducible refine r_nxt ?_ | with_reducible refine r_asg ?_ | with_reducible refine r_to ?_ | with_reducible refine r_ret ?_ | with_reducible refine r_for ?_ | with_reducible refine r_lc ?_ | with_reducible refine r_lc2 ?_ | with_reducible refine r_rng1 ?_ | with_reducible refine r_list ?_ | with_reducible refine r_tupI ?_ | with_reducible refine r_drop ?_ | with_reducible refine r_ifs ?_
  | with_reducible refine r_op ?_ | with_reducible refine r_c ?_ | with_reducible refine r_var rfl ?_ | with_reducible refine r_var (by assumption) ?_ | with_reducible refine r_I0 ?_ | with_reducible refine r_un ?_ | with_reducible refine r_U ?_ | with_reducible refine r_make ?_ | with_reducible refine r_makeS ?_ | with_reducible refine r_ifE ?_ | with_reducible refine r_cm ?_ | with_reducible refine r_mkV rfl ?_ | with_reducible refine r_sub ?_
  | with_reducible refine r_nil ?_ | with_reducible refine r_cons ?_ | with_reducible refine r_cb ?_ | with_reducible refine r_sl ?_ | with_reducible refine r_noP ?_ | with_reducible refine r_part ?_ | with_reducible refine r_isI ?_ | with_reducible refine r_lst ?_ | with_reducible refine r_tup ?_ | with_reducible refine r_call ?_ | with_reducible refine r_callS ?_ | with_reducible refine r_sFldU ?_ | with_reducible refine r_chain ?_ | with_reducible refine r_enum ?_ | with_reducible refine r_zip ?_ | with_reducible refine r_rng3 ?_ | with_reducible refine r_gtup ?_ | with_reducible refine r_methU ?_
  | with_reducible refine r_test ?_ | with_reducible refine r_B ?_ | with_reducible refine r_and ?_ | with_reducible refine r_or ?_ | with_reducible refine r_not ?_ | with_reducible refine r_andV ?_ | with_reducible refine r_orV ?_ | with_reducible refine r_notV ?_ | with_reducible refine r_bl ?_ | with_reducible refine r_yes ?_ | with_reducible refine r_int ?_ | with_reducible refine r_is0 ?_ | with_reducible refine r_is1 ?_ | with_reducible refine iteT ?_ | with_reducible refine iteF ?_ | with_reducible refine ite_nF ?_ | with_reducible refine ite_nT ?_
  | with_reducible refine r_mod (by decide) ?_ | with_reducible refine r_div (by decide) (by decide) ?_ | with_reducible refine r_mulR (by decide) (by decide) ?_ | with_reducible refine r_mulL (by decide) (by decide) ?_ | with_reducible refine r_pow (by decide) (by decide) (by decide) ?_))
theorem not_beforeB {zs : List Pr} {z : Pr} {i : Nat} (nd : zs.Nodup) (h : zs[i]? = some z) : z ∉ zs.take i := by
  intro m
  obtain ⟨j, hj, e⟩ := List.getElem_of_mem m
  rw [List.length_take] at hj
  rw [List.getElem_take] at e
  obtain ⟨hi, e2⟩ := List.getElem?_eq_some_iff.mp h
  have := (List.pairwise_iff_getElem.mp nd) j i (by omega) hi (by omega)
  exact this (by rw [e, e2])
/-! ### the place of a pair; check_order's scope -/
def plc (zs : List Pr) (z : Pr) : Nat := zs.idxOf z
theorem plc_get {zs : List Pr} {z : Pr} (h : z ∈ zs) : zs[plc zs z]? = some z := by
  unfold plc
  have hl := List.idxOf_lt_length_iff.mpr h
  rw [List.getElem?_eq_getElem hl, List.getElem_idxOf hl]
theorem r_idxD {K : PySem.W.Frag} {p r q : Addr} {y : V} {zs : List Pr} {z : Pr} {us : List V} {H : Hp} {Q : VK} (hq : H q = some (.lst us)) (hv : PrsAt p H us zs) (hy : PrAt r H y z) (nd : zs.Nodup) (hz : z ∈ zs) (kk : Q (.int (plc zs z : Int)) H) : rIndexD K (.ref q) [y] H Q := by
  have e := plc_get hz
  refine ⟨q, y, prD z, zs.map prD, plc zs z, prD z, rfl, rfl, .lst (SqL.of hq) hv.dp, hy.dp, prs_shaped zs, pr_shaped z, by rw [List.getElem?_map, e]; rfl, by rw [pr_eqv, decide_eq_true rfl], fun m z' hm hz' => ?_, kk⟩
  obtain ⟨y', hy', rfl⟩ : ∃ y', zs[m]? = some y' ∧ z' = prD y' := by
    rw [List.getElem?_map] at hz'
    cases e : zs[m]? with
    | none => rw [e] at hz'; cases hz'
    | some y' => rw [e] at hz'; exact ⟨y', rfl, (Option.some.inj hz').symm⟩
  rw [pr_eqv]
  refine decide_eq_false fun e2 => not_beforeB nd e ?_
  have mm : y' ∈ zs.take (plc zs z) := List.mem_of_getElem? (i := m) (by rw [List.getElem?_take]; simp [hm, hy'])
  exact (congrArg (· ∈ zs.take (plc zs z)) e2).mp mm
/-! ### sets of pairs as bits -/
theorem band_nat (a b : Nat) : Builtin.bitAnd (a : Int) (b : Int) = ((a &&& b : Nat) : Int) := by
  unfold Builtin.bitAnd
  rw [decide_eq_true (show (0 : Int) ≤ (a : Int) by omega), decide_eq_true (show (0 : Int) ≤ (b : Int) by omega)]
  rfl
theorem bor_nat (a b : Nat) : Builtin.bitOr (a : Int) (b : Int) = ((a ||| b : Nat) : Int) := by
  have nn : ∀ n : Nat, Builtin.bitNot (n : Int) = -(n : Int) - 1 := fun n => by unfold Builtin.bitNot; omega
  have nb : ∀ n : Nat, Builtin.bitNot (-(n : Int) - 1) = (n : Int) := fun n => by unfold Builtin.bitNot; omega
  unfold Builtin.bitOr Builtin.bitAnd
  rw [nn, nn, decide_eq_false (show ¬ (0 : Int) ≤ -(a : Int) - 1 by omega), decide_eq_false (show ¬ (0 : Int) ≤ -(b : Int) - 1 by omega)]
  show Builtin.bitNot (Builtin.bitNot ↑((Builtin.bitNot (-(a : Int) - 1)).toNat ||| (Builtin.bitNot (-(b : Int) - 1)).toNat)) = _
  rw [nb, nb, Int.toNat_natCast, Int.toNat_natCast, nn, nb]
def maskL : List Pr → List Pr → Nat
  | [], _ => 0
  | c :: cs, ps => (if c ∈ ps then 1 else 0) + 2 * maskL cs ps
theorem mask_bit : ∀ {cs ps : List Pr} {k : Nat}, (maskL cs ps).testBit k = (match cs[k]? with | some c => decide (c ∈ ps) | none => false)
  | [], ps, k => by rw [maskL, Nat.zero_testBit]; rfl
  | c :: cs, ps, 0 => by
    rw [maskL, Nat.testBit_zero]
    show _ = decide (c ∈ ps)
    by_cases h : c ∈ ps
    · rw [if_pos h, decide_eq_true h, decide_eq_true (by omega)]
    · rw [if_neg h, decide_eq_false h, decide_eq_false (by omega)]
  | c :: cs, ps, k + 1 => by
    rw [maskL, Nat.testBit_succ]
    have e : ((if c ∈ ps then 1 else 0) + 2 * maskL cs ps) / 2 = maskL cs ps := by split <;> omega
    rw [e, mask_bit]
    rfl
theorem mask_lt : ∀ {cs ps : List Pr}, maskL cs ps < 2 ^ cs.length
  | [], ps => by rw [maskL]; decide
  | c :: cs, ps => by
    have := mask_lt (cs := cs) (ps := ps)
    rw [maskL, List.length_cons, Nat.pow_succ]
    split <;> omega
theorem mask_add {cs ps : List Pr} {k : Nat} {z : Pr} (nd : cs.Nodup) (e : cs[k]? = some z) : maskL cs (ps ++ [z]) = maskL cs ps ||| 2 ^ k := by
  refine Nat.eq_of_testBit_eq fun i => ?_
  rw [Nat.testBit_or, Nat.testBit_two_pow, mask_bit, mask_bit]
  cases ei : cs[i]? with
  | none =>
    have : ¬ k = i := fun h => by rw [h, ei] at e; cases e
    rw [decide_eq_false this]; rfl
  | some c =>
    show decide (c ∈ ps ++ [z]) = (decide (c ∈ ps) || decide (k = i))
    have iff_ : c = z ↔ k = i := by
      constructor
      · intro h
        obtain ⟨h1, q1⟩ := List.getElem?_eq_some_iff.mp e
        obtain ⟨h2, q2⟩ := List.getElem?_eq_some_iff.mp ei
        exact (List.getElem_inj nd).mp (by rw [q1, q2, h])
      · intro h
        rw [h, ei] at e
        exact Option.some.inj e
    rw [Bool.eq_iff_iff, Bool.or_eq_true, decide_eq_true_iff, decide_eq_true_iff, decide_eq_true_iff, List.mem_append, List.mem_singleton, iff_]
theorem mask_full {cs ps : List Pr} (h : ∀ c, c ∈ cs → c ∈ ps) : maskL cs ps = 2 ^ cs.length - 1 := by
  refine Nat.eq_of_testBit_eq fun i => ?_
  rw [Nat.testBit_two_pow_sub_one, mask_bit]
  cases ei : cs[i]? with
  | none =>
    rw [decide_eq_false (by have := List.getElem?_eq_none_iff.mp ei; omega)]
  | some c =>
    obtain ⟨h1, q1⟩ := List.getElem?_eq_some_iff.mp ei
    show decide (c ∈ ps) = _
    rw [decide_eq_true h1, decide_eq_true (h c (List.mem_of_getElem? ei))]
theorem mask_less {cs ps : List Pr} {c : Pr} (hc : c ∈ cs) (h : c ∉ ps) : maskL cs ps < 2 ^ cs.length - 1 := by
  have h1 := mask_lt (cs := cs) (ps := ps)
  have h2 : maskL cs ps ≠ 2 ^ cs.length - 1 := fun e => by
    obtain ⟨k, hk⟩ := List.mem_iff_getElem?.mp hc
    obtain ⟨h3, _⟩ := List.getElem?_eq_some_iff.mp hk
    have b1 := mask_bit (cs := cs) (ps := ps) (k := k)
    rw [e, Nat.testBit_two_pow_sub_one, hk, decide_eq_true h3] at b1
    have b1 : true = decide (c ∈ ps) := b1
    rw [decide_eq_false h] at b1
    cases b1
  omega
theorem and_pow {m a : Nat} : m &&& 2 ^ a ≠ 0 ↔ m.testBit a = true := by
  constructor
  · intro h
    apply Classical.byContradiction
    intro n
    apply h
    refine Nat.eq_of_testBit_eq fun i => ?_
    rw [Nat.testBit_and, Nat.testBit_two_pow, Nat.zero_testBit]
    by_cases c : a = i
    · rw [← c, Bool.eq_false_iff.mpr n]; rfl
    · rw [decide_eq_false c, Bool.and_false]
  · intro h e
    have : (m &&& 2 ^ a).testBit a = true := by rw [Nat.testBit_and, h, Nat.testBit_two_pow, decide_eq_true rfl]; rfl
    rw [e, Nat.zero_testBit] at this
    cases this
theorem pow_add {a b : Nat} (h : a ≠ b) : 2 ^ a + 2 ^ b = 2 ^ a ||| 2 ^ b := by
  rcases Nat.lt_or_gt_of_ne h with l | l
  · have := Nat.two_pow_add_eq_or_of_lt (i := b) (b := 2 ^ a) (Nat.pow_lt_pow_right (by decide) l) 1
    rw [Nat.mul_one] at this
    rw [Nat.add_comm, this, Nat.or_comm]
  · have := Nat.two_pow_add_eq_or_of_lt (i := a) (b := 2 ^ b) (Nat.pow_lt_pow_right (by decide) l) 1
    rw [Nat.mul_one] at this
    exact this
theorem or_ne {a b : Nat} : a ||| b ≠ 0 ↔ a ≠ 0 ∨ b ≠ 0 := by
  constructor
  · intro h
    apply Classical.byContradiction
    intro n
    apply h
    have h1 : a = 0 := Classical.byContradiction fun q => n (.inl q)
    have h2 : b = 0 := Classical.byContradiction fun q => n (.inr q)
    rw [h1, h2]; rfl
  · intro h e
    have : ∀ i, a.testBit i = false ∧ b.testBit i = false := fun i => by
      have q := congrArg (fun n => n.testBit i) e
      simp only [Nat.testBit_or, Nat.zero_testBit, Bool.or_eq_false_iff] at q
      exact q
    rcases h with h | h
    · exact h (Nat.eq_of_testBit_eq fun i => by rw [(this i).1, Nat.zero_testBit])
    · exact h (Nat.eq_of_testBit_eq fun i => by rw [(this i).2, Nat.zero_testBit])
def barN (cs n : List Pr) : Nat := (n.map fun z => 2 ^ (plc cs z)).sum
/-- a need: one pair, or two different ones -/
def NeedOk (cs n : List Pr) : Prop := (∀ z, z ∈ n → z ∈ cs) ∧ n.Nodup ∧ (n.length = 1 ∨ n.length = 2)
theorem mask_at {cs ps : List Pr} {z : Pr} (h : z ∈ cs) : (maskL cs ps).testBit (plc cs z) = decide (z ∈ ps) := by
  rw [mask_bit, plc_get h]
theorem bar_met {cs n ps : List Pr} (h : NeedOk cs n) : decide (maskL cs ps &&& barN cs n ≠ 0) = n.any fun z => decide (z ∈ ps) := by
  obtain ⟨sub, nd, l⟩ := h
  rw [Bool.eq_iff_iff, decide_eq_true_iff, List.any_eq_true]
  match n, sub, nd, l with
  | [z], sub, _, _ =>
    have e : barN cs [z] = 2 ^ plc cs z := by unfold barN; simp
    rw [e, and_pow, mask_at (sub z (List.mem_singleton.mpr rfl))]
    exact ⟨fun q => ⟨z, List.mem_singleton.mpr rfl, q⟩, fun ⟨y, hy, q⟩ => by rw [List.mem_singleton.mp hy] at q; exact q⟩
  | [z, y], sub, nd, _ =>
    have zc := sub z List.mem_cons_self
    have yc := sub y (List.mem_cons_of_mem _ (List.mem_singleton.mpr rfl))
    have ne : z ≠ y := fun q => by rw [q] at nd; exact (List.nodup_cons.mp nd).1 (List.mem_singleton.mpr rfl)
    have np : plc cs z ≠ plc cs y := fun q => by
      have a := plc_get zc
      have b := plc_get yc
      rw [q, b] at a
      exact ne (Option.some.inj a).symm
    have e : barN cs [z, y] = 2 ^ plc cs z ||| 2 ^ plc cs y := by unfold barN; rw [← pow_add np]; simp
    rw [e, Nat.and_or_distrib_left, or_ne, and_pow, and_pow, mask_at zc, mask_at yc]
    constructor
    · rintro (q | q)
      · exact ⟨z, List.mem_cons_self, q⟩
      · exact ⟨y, List.mem_cons_of_mem _ (List.mem_singleton.mpr rfl), q⟩
    · rintro ⟨u, hu, q⟩
      rcases List.mem_cons.mp hu with rfl | hu
      · exact .inl q
      · rw [List.mem_singleton.mp hu] at q; exact .inr q
  | [], _, _, l => exact absurd l (by simp)
  | _ :: _ :: _ :: _, _, _, l => exact absurd l (by simp)
/-! ### how many ways there are to go on -/
def cntR (R : Rw) (kd : Str) : Nat → List Pr → Nat
  | 0, _ => 1
  | f + 1, ps => ((openL R kd ps).map fun z => cntR R kd f (ps ++ [z])).sum
def freeN (bs : List (List Nat)) (p : Nat) : List Nat := (List.range bs.length).filter fun k => !p.testBit k && (bs.getD k []).all fun b => decide (p &&& b ≠ 0)
structure Ways (bs : List (List Nat)) (w : List Nat) : Prop where
  len : w.length = 2 ^ bs.length
  last : w.getD (2 ^ bs.length - 1) 0 = 1
  rec_ : ∀ p, p < 2 ^ bs.length - 1 → w.getD p 0 = ((freeN bs p).map fun k => w.getD (p ||| 2 ^ k) 0).sum
def barsL (R : Rw) (kd : Str) : List (List Nat) := (cells R).map fun z => (needsL R z.1.toNat z.2.toNat kd).map (barN (cells R))
theorem needs_ok {R : Rw} {i j : Nat} {kd : Str} (m : ((i : Int), (j : Int)) ∈ cells R) {n : List Pr} (h : n ∈ needsL R i j kd) : NeedOk (cells R) n := by
  obtain ⟨hi, hj, _⟩ := mem_cells.mp m
  unfold needsL at h
  rcases List.mem_append.mp h with h | h
  · rcases List.mem_append.mp h with h | h
    · obtain ⟨r, hr, h⟩ := List.mem_flatMap.mp h
      obtain ⟨s, hs, rfl⟩ := List.mem_map.mp h
      obtain ⟨hs, lc⟩ := List.mem_filter.mp hs
      have hr := List.mem_range.mp hr
      have hs := List.mem_range.mp hs
      unfold lcB at lc
      simp only [Bool.and_eq_true, Bool.not_eq_true', decide_eq_false_iff_not] at lc
      obtain ⟨⟨⟨⟨ri, sj⟩, a1⟩, a2⟩, _⟩ := lc
      refine ⟨fun z hz => ?_, ?_, .inr rfl⟩
      · rcases List.mem_cons.mp hz with rfl | hz
        · exact mem_cells.mpr ⟨hi, hs, a1⟩
        · rw [List.mem_singleton.mp hz]; exact mem_cells.mpr ⟨hr, hj, a2⟩
      · refine List.nodup_cons.mpr ⟨fun q => ?_, List.nodup_cons.mpr ⟨List.not_mem_nil, List.nodup_nil⟩⟩
        have := congrArg Prod.fst (List.mem_singleton.mp q)
        simp only at this
        omega
    · split at h
      · obtain ⟨r, hr, rfl⟩ := List.mem_map.mp h
        obtain ⟨hr, hc⟩ := List.mem_filter.mp hr
        have hr := List.mem_range.mp hr
        simp only [Bool.and_eq_true, decide_eq_true_eq] at hc
        exact ⟨fun z hz => by rw [List.mem_singleton.mp hz]; exact mem_cells.mpr ⟨hr, hj, hc.1⟩, List.nodup_cons.mpr ⟨List.not_mem_nil, List.nodup_nil⟩, .inl rfl⟩
      · cases h
  · split at h
    · obtain ⟨s, hs, rfl⟩ := List.mem_map.mp h
      obtain ⟨hs, hc⟩ := List.mem_filter.mp hs
      have hs := List.mem_range.mp hs
      simp only [Bool.and_eq_true, decide_eq_true_eq] at hc
      exact ⟨fun z hz => by rw [List.mem_singleton.mp hz]; exact mem_cells.mpr ⟨hi, hs, hc.1⟩, List.nodup_cons.mpr ⟨List.not_mem_nil, List.nodup_nil⟩, .inl rfl⟩
    · cases h
theorem free_open {R : Rw} {kd : Str} {ps : List Pr} : freeN (barsL R kd) (maskL (cells R) ps) = (List.range (cells R).length).filter fun k => openB R kd ps ((cells R).getD k (0, 0)) := by
  unfold freeN
  have l : (barsL R kd).length = (cells R).length := by unfold barsL; rw [List.length_map]
  rw [l]
  refine List.filter_congr fun k hk => ?_
  have hk := List.mem_range.mp hk
  have e : (cells R)[k]? = some (cells R)[k] := List.getElem?_eq_getElem hk
  obtain ⟨z, ez⟩ : ∃ z, z = (cells R)[k] := ⟨_, rfl⟩
  rw [← ez] at e
  have zc := List.mem_of_getElem? e
  have g1 : (cells R).getD k (0, 0) = z := by rw [List.getD_eq_getElem?_getD, e]; rfl
  have g2 : (barsL R kd).getD k [] = (needsL R z.1.toNat z.2.toNat kd).map (barN (cells R)) := by
    unfold barsL
    rw [List.getD_eq_getElem?_getD, List.getElem?_map, e]; rfl
  obtain ⟨i, j, rfl, hi, hj, hs⟩ := cells_nat zc
  rw [g1, g2, mask_bit, e]
  show (!decide _ && _) = openB R kd ps ((i : Int), (j : Int))
  unfold openB metD
  congr 1
  rw [List.all_map]
  simp only [Int.toNat_natCast]
  rw [Bool.eq_iff_iff, List.all_eq_true, List.all_eq_true]
  refine forall_congr' fun n => forall_congr' fun hn => ?_
  show decide (maskL (cells R) ps &&& barN (cells R) n ≠ 0) = true ↔ _
  rw [bar_met (needs_ok zc hn)]
theorem ways_cnt {R : Rw} {kd : Str} {w : List Nat} (h : Ways (barsL R kd) w) : ∀ (f : Nat) (ps : List Pr), ps.Nodup → (∀ z, z ∈ ps → z ∈ cells R) → ps.length + f = (cells R).length → w.getD (maskL (cells R) ps) 0 = cntR R kd f ps
  | 0, ps, nd, sub, e => by
    have l : (barsL R kd).length = (cells R).length := by unfold barsL; rw [List.length_map]
    have pm := perm_of nd sub (by omega)
    rw [mask_full fun c hc => pm.mem_iff.mpr hc, ← l]
    exact h.last
  | f + 1, ps, nd, sub, e => by
    have l : (barsL R kd).length = (cells R).length := by unfold barsL; rw [List.length_map]
    have ndc := cells_nodup R
    obtain ⟨c, hc, nc⟩ : ∃ c, c ∈ cells R ∧ c ∉ ps := by
      apply Classical.byContradiction
      intro n
      have := (perm_of ndc (fun c hc => Classical.byContradiction fun q => n ⟨c, hc, q⟩) (by omega)).length_eq
      omega
    have lt := mask_less hc nc
    rw [← l] at lt
    rw [h.rec_ _ lt, free_open]
    have e2 : cntR R kd (f + 1) ps = ((openL R kd ps).map fun z => cntR R kd f (ps ++ [z])).sum := rfl
    rw [e2]
    unfold openL
    have gen : ∀ (cs : List Pr) (t : Pr → Bool) (g : Pr → Nat), ((List.range cs.length).filter fun k => t (cs.getD k (0, 0))).map (fun k => g (cs.getD k (0, 0))) = (cs.filter t).map g := fun cs t g => by
      have ec : cs = (List.range cs.length).map fun k => cs.getD k (0, 0) := by
        apply List.ext_getElem
        · simp
        · intro n h1 h2
          simp [List.getD_eq_getElem?_getD, List.getElem?_eq_getElem h1]
      conv => rhs; rw [ec]
      rw [List.filter_map, List.map_map]; rfl
    rw [← gen (cells R) (openB R kd ps) fun z => cntR R kd f (ps ++ [z])]
    congr 1
    refine List.map_congr_left fun k hk => ?_
    obtain ⟨hk, ho⟩ := List.mem_filter.mp hk
    have hk := List.mem_range.mp hk
    have ez : (cells R)[k]? = some ((cells R).getD k (0, 0)) := by rw [List.getD_eq_getElem?_getD, List.getElem?_eq_getElem hk]; rfl
    have zc := List.mem_of_getElem? ez
    unfold openB at ho
    rw [Bool.and_eq_true, Bool.not_eq_true', decide_eq_false_iff_not] at ho
    rw [← mask_add ndc ez]
    refine ways_cnt h f _ (List.nodup_append.mpr ⟨nd, List.nodup_cons.mpr ⟨List.not_mem_nil, List.nodup_nil⟩, fun a ha b hb q => ?_⟩) (fun y hy => ?_) (by rw [List.length_append]; show ps.length + 1 + f = _; omega)
    · rw [List.mem_singleton.mp hb] at q
      exact ho.1 (q ▸ ha)
    · rcases List.mem_append.mp hy with hy | hy
      · exact sub y hy
      · rw [List.mem_singleton.mp hy]; exact zc
end Pk
set_option Elab.async false
set_option linter.all false
set_option maxRecDepth 100000
set_option maxHeartbeats 4000000
namespace Pk
open PySem L2
local macro_rules | `(tactic| walk_at "rd") => `(tactic| repeat (first
  | with_reducible refine r_seq ?_ | with_reducible refine r_nxt ?_ | with_reducible refine r_asg ?_ | with_reducible refine r_to ?_ | with_reducible refine r_ret ?_ | with_reducible refine r_for ?_ | with_reducible refine r_lc ?_ | with_reducible refine r_lc2 ?_ | with_reducible refine r_rng1 ?_ | with_reducible refine r_list ?_ | with_reducible refine r_tupI ?_ | with_reducible refine r_drop ?_ | with_reducible refine r_ifs ?_
  | with_reducible refine r_op ?_ | with_reducible refine r_c ?_ | with_reducible refine r_var rfl ?_ | with_reducible refine r_var (by assumption) ?_ | with_reducible refine r_I0 ?_ | with_reducible refine r_un ?_ | with_reducible refine r_U ?_ | with_reducible refine r_make ?_ | with_reducible refine r_makeS ?_ | with_reducible refine r_ifE ?_ | with_reducible refine r_cm ?_ | with_reducible refine r_mkV rfl ?_ | with_reducible refine r_sub ?_
  | with_reducible refine r_nil ?_ | with_reducible refine r_cons ?_ | with_reducible refine r_cb ?_ | with_reducible refine r_sl ?_ | with_reducible refine r_noP ?_ | with_reducible refine r_part ?_ | with_reducible refine r_isI ?_ | with_reducible refine r_lst ?_ | with_reducible refine r_tup ?_ | with_reducible refine r_call ?_ | with_reducible refine r_callS ?_ | with_reducible refine r_sFldU ?_ | with_reducible refine r_chain ?_ | with_reducible refine r_enum ?_ | with_reducible refine r_zip ?_ | with_reducible refine r_rng3 ?_ | with_reducible refine r_gtup ?_ | with_reducible refine r_methU ?_
  | with_reducible refine r_test ?_ | with_reducible refine r_B ?_ | with_reducible refine r_and ?_ | with_reducible refine r_or ?_ | with_reducible refine r_not ?_ | with_reducible refine r_andV ?_ | with_reducible refine r_orV ?_ | with_reducible refine r_notV ?_ | with_reducible refine r_bl ?_ | with_reducible refine r_yes ?_ | with_reducible refine r_int ?_ | with_reducible refine r_is0 ?_ | with_reducible refine r_is1 ?_ | with_reducible refine iteT ?_ | with_reducible refine iteF ?_ | with_reducible refine ite_nF ?_ | with_reducible refine ite_nT ?_
  | with_reducible refine r_mod (by decide) ?_ | with_reducible refine r_div (by decide) (by decide) ?_ | with_reducible refine r_mulR (by decide) (by decide) ?_ | with_reducible refine r_mulL (by decide) (by decide) ?_ | with_reducible refine r_pow (by decide) (by decide) (by decide) ?_))
/-! ### counting: sets as integers -/
def retLcScope : Stmt → Scope
  | .Return (some (.ListComp (scope := sc) ..)) _ => sc
  | s => defScope s
theorem hu65B {k : Nat} {A : Around} (r : Room k A) : A.units + 65 < cLine := by have := r.un; omega
def nInt (n : Nat) : V := .int (n : Int)
def spSetOf (K : PySem.W.Frag) : Sp := fun vs H Q _ => ∃ (p a b : Addr) (us ws : List V) (cs ns : List Pr), vs = [.ref a, .ref b] ∧ H a = some (.lst us) ∧ PrsAt p H us cs ∧ cs.Nodup ∧ cs.length ≤ 64 ∧ H b = some (.lst ws) ∧ PrsAt p H ws ns ∧ (∀ z, z ∈ ns → z ∈ cs) ∧ ns.length ≤ 64 ∧ ∀ H' : Hp, Same H H' → Q (nInt (barN cs ns)) H'
abbrev slSetOf : Stmt := top 43
def behL (z : Pr) (f : Str × Pr) : List Pr := if f.1 = "cross" then [(z.1, f.2.2), (f.2.1, z.2)] else [f.2]
def spPBeh : Sp := fun vs H Q _ => ∃ (p : Addr) (pv u : V) (i j : Nat) (f : Str × Pr), vs = [u] ∧ FtAt p H pv u f ∧ PrAt p H pv ((i : Int), (j : Int)) ∧ (∃ o, H p = some o) ∧ ∀ (r : Addr) (us : List V) (H' : Hp), Same H H' → H' r = some (.lst us) → PrsAt p H' us (behL ((i : Int), (j : Int)) f) → Q (.ref r) H'
abbrev slPBeh : Stmt := top 39
/-- bars at a list -/
def BarsAt (H : Hp) (r : Addr) (bs : List (List Nat)) : Prop := ∃ vs : List V, H r = some (.lst vs) ∧ vs.length = bs.length ∧ ∀ (k : Nat) (v : V), vs[k]? = some v → ∃ a, v = .ref a ∧ H a = some (.lst ((bs.getD k []).map nInt))
theorem BarsAt.same {H H' : Hp} {r : Addr} {bs : List (List Nat)} (h : BarsAt H r bs) (s : Same H H') : BarsAt H' r bs := by
  obtain ⟨vs, e, l, q⟩ := h
  exact ⟨vs, s _ _ e, l, fun k v hv => by obtain ⟨a, e1, e2⟩ := q k v hv; exact ⟨a, e1, s _ _ e2⟩⟩
def spFreeA : Sp := fun vs H Q _ => ∃ (b : Addr) (bs : List (List Nat)) (p : Nat), vs = [.ref b, nInt p] ∧ BarsAt H b bs ∧ bs.length ≤ 64 ∧ (∀ l, l ∈ bs → l.length ≤ 1000) ∧ ∀ (r : Addr) (H' : Hp), Same H H' → H r = none → H' r = some (.lst ((freeN bs p).map nInt)) → Q (.ref r) H'
abbrev slFreeA : Stmt := top 45
theorem tru_bit (p i : Nat) : ((((p / 2 ^ i &&& 1 : Nat)) : Int) != 0) = p.testBit i := by
  rw [Nat.testBit_eq_decide_div_mod_eq, Nat.and_one_is_mod]
  rcases Nat.mod_two_eq_zero_or_one (p / 2 ^ i) with h | h
  · rw [h]; rfl
  · rw [h]; rfl
theorem nInt_map (l : List Nat) : l.map nInt = (l.map fun (n : Nat) => (n : Int)).map V.int := by rw [List.map_map]; rfl
theorem sum_nat (l : List Nat) : (l.map fun (n : Nat) => (n : Int)).sum = ((l.sum : Nat) : Int) := by
  induction l with
  | nil => rfl
  | cons a l ih => rw [List.map_cons, List.sum_cons, List.sum_cons, ih]; omega
section
variable {P : Program} {w : World} {K : PySem.W.Frag} {mg : Str → Option Value} {base : Heap} {f : Addr} {fd : FuncData}
theorem sclSetOf : FnScope ["pairs", "members", "pair"] ["pairs", "members"] (defScope slSetOf) := ⟨rfl, rfl, rfl, by decide +kernel, rfl, by decide +kernel, by decide +kernel⟩
theorem ok_setOf (F : Fun K "set_of" "set_of" slSetOf f fd) (T : Bt mg) : FnOk P w K mg base CX0 1 f fd ["pairs", "members"] (spSetOf K) := by
  refine F.ok sclSetOf (fun vs H Q E h => ?_) (fun cdv A outer s H vs Q E hr h => ?_)
  · obtain ⟨p, a, b, us, ws, cs, ns, rfl, _⟩ := h
    rfl
  · obtain ⟨p, a, b, us, ws, cs, ns, rfl, ha, pc, ndc, c64, hb, pn, sub, n64, k⟩ := h
    refine ⟨_, (pss_one (ps_ret (pe_callB (cr_sum rfl) (by rfl) T.sum (by decide +kernel) (pa_cons (pe_lc (own := [("pair", 2)]) (g := gName 2) (tt := tYes) (te := tOp (rI CPow fun i j => .int (i * 2 ^ j.toNat)) (tC (.int 1)) (tBM K "list" (rIndexD K) (tVar 0) (tCons (tVar 2) tNil))) rfl sclSetOf.nd (pi_list (pv 1)) (blkOk_by (own := [("pair", 2)]) (N := ["pairs", "members", "pair"]) (sc := defScope slSetOf) (by decide +kernel)) (fun _ _ _ _ _ => pg_name (i := 2) sclSetOf.nd rfl (Or.inl rfl)) (fun _ _ _ _ _ => pts_nil) (fun _ _ _ _ _ => (pe_op op_shl pe_int (pe_bm PySem.F.plainAttrs_list PySem.F.slot_list_index PySem.F.type_list_index (mt_indexD (hu65B hr)) (pv 0) (pa_cons (pv 2) pa_nil))))) pa_nil)))), ?_⟩
    have wl := pn.length
    have clc := pc.length
    walk_at "rd"
    refine ⟨b, rfl, ⟨_, SqL.of hb⟩, fun D nD => lc_it walk_list (Out H D fun i => nInt (2 ^ plc cs (ns.getD i (0, 0)))) (Out.start nD) (fun i H' _ o => SqL.of (o.1 _ _ hb)) ?_ ?_⟩
    · rintro i y Hx Hy hi o ⟨rfl, ey⟩
      obtain ⟨z, ez, pz⟩ := pn.at ey
      have hi : i < ws.length := hi
      have zc := sub z (List.mem_of_getElem? ez)
      have pl : plc cs z < cs.length := by
        have := plc_get zc
        exact (List.getElem?_eq_some_iff.mp this).1
      walk_at "rd"
      refine ⟨rfl, ?_⟩
      walk_at "rd"
      refine r_bm ?_
      walk_at "rd"
      refine ⟨.inl ⟨rfl, _, SqL.of (o.1 _ _ ha)⟩, ?_⟩
      walk_at "rd"
      refine r_idxD (o.1 _ _ ha) (pc.keep (Keep.same o.1)) (pz.keep (Keep.same o.1)) ndc zc ?_
      refine ⟨1, (plc cs z : Int), rfl, rfl, ⟨by omega, by omega, by decide⟩, ?_⟩
      have e2 : V.int (1 * 2 ^ (plc cs z : Int).toNat) = nInt (2 ^ plc cs (ns.getD i (0, 0))) := by
        rw [List.getD_eq_getElem?_getD, ez, Int.toNat_natCast]
        unfold nInt
        congr 1
        simp
      dsimp only
      rw [e2]
      exact o.more nD (Same.refl _) (Nat.lt_of_lt_of_le (show i < 65 by omega) (by decide))
    · rintro H1 ⟨s1, hD⟩
      have e : (List.range ws.length).map (fun i => nInt (2 ^ plc cs (ns.getD i (0, 0)))) = ((ns.map fun z => 2 ^ plc cs z).map fun (n : Nat) => (n : Int)).map V.int := by
        apply List.ext_getElem
        · simp [wl]
        · intro i h1 h2
          have hi : i < ns.length := by simpa using h2
          simp [List.getD_eq_getElem?_getD, List.getElem?_eq_getElem hi, nInt]
      rw [e] at hD
      walk_at "rd"
      refine r_sum (SqL.of hD) ?_
      rw [sum_nat]
      exact k H1 s1
theorem sclPBeh : FnScope ["fault", "word", "i", "j", "r", "s"] ["fault"] (defScope slPBeh) := ⟨rfl, rfl, rfl, by decide +kernel, rfl, by decide +kernel, by decide +kernel⟩
theorem ok_pBeh (F : Fun K "pairs_behind" "pairs_behind" slPBeh f fd) : FnOk P w K mg base CX0 1 f fd ["fault"] spPBeh := by
  refine F.ok sclPBeh (fun vs H Q E h => ?_) (fun cdv A outer s H vs Q E hr h => ?_)
  · obtain ⟨p, pv, u, i, j, f, rfl, _⟩ := h
    rfl
  · obtain ⟨p, pv_, u, i, j, f, rfl, ft, pp, ⟨op, hop⟩, k⟩ := h
    obtain ⟨t, c, rfl, ht, t2, rfl, n2, ht2⟩ := ft
    obtain ⟨t1, rfl, n1, ht1⟩ := pp
    obtain ⟨wd_, r_, s_⟩ := f
    refine ⟨_, (pss_cons (ps_asg (pv 0) (pg_tup (by rfl) (pgs_cons (pg_name (i := 1) sclPBeh.nd rfl (Or.inl rfl)) (pgs_cons (pg_tup (by rfl) (pgs_cons (pg_name (i := 2) sclPBeh.nd rfl (Or.inl rfl)) (pgs_cons (pg_name (i := 3) sclPBeh.nd rfl (Or.inl rfl)) pgs_nil))) (pgs_cons (pg_tup (by rfl) (pgs_cons (pg_name (i := 4) sclPBeh.nd rfl (Or.inl rfl)) (pgs_cons (pg_name (i := 5) sclPBeh.nd rfl (Or.inl rfl)) pgs_nil))) pgs_nil)))))
  (pss_cons (ps_if (pt_cmpR op_eq (pv 1) pe_str (nomark _)) (pss_one (ps_ret (pe_lst (pa_cons (pe_tup (pa_cons (pv 2) (pa_cons (pv 5) pa_nil))) (pa_cons (pe_tup (pa_cons (pv 4) (pa_cons (pv 3) pa_nil))) pa_nil))))) pss_nil)
  (pss_one (ps_ret (pe_lst (pa_cons (pe_tup (pa_cons (pv 4) (pa_cons (pv 5) pa_nil))) pa_nil)))))), ?_⟩
    walk_at "rd"
    refine r_gtup ⟨t, _, rfl, SqT.of ht, rfl, _, _, rfl, ?_⟩
    walk_at "rd"
    refine ⟨_, _, rfl, ?_⟩
    walk_at "rd"
    refine r_gtup ⟨t1, _, rfl, SqT.of ht1, rfl, _, _, rfl, ?_⟩
    walk_at "rd"
    refine ⟨_, _, rfl, ?_⟩
    walk_at "rd"
    refine ⟨rfl, ?_⟩
    walk_at "rd"
    refine ⟨_, _, rfl, ?_⟩
    walk_at "rd"
    refine r_gtup ⟨t2, _, rfl, SqT.of ht2, rfl, _, _, rfl, ?_⟩
    walk_at "rd"
    refine ⟨_, _, rfl, ?_⟩
    walk_at "rd"
    refine ⟨rfl, ?_⟩
    walk_at "rd"
    refine ⟨rfl, ?_⟩
    walk_at "rd"
    refine r_eq rfl ?_
    rw [deq_strK]
    refine ⟨_, rfl, ?_⟩
    by_cases cw : wd_ = "cross"
    · refine ifT (decide_eq_true cw) ?_
      walk_at "rd"
      refine ⟨by show 2 ≤ sizeLine; decide, fun a na => ?_⟩
      have s1 := Same.up (o := .tup [V.int (i : Int), V.int s_]) (Same.refl H) na
      have h1 : upd H a (.tup [V.int (i : Int), V.int s_]) a = some (.tup [V.int (i : Int), V.int s_]) := upd_same
      have ap : a ≠ p := fun z => by rw [z, hop] at na; cases na
      obtain ⟨H1, eH1⟩ : ∃ H1, H1 = upd H a (.tup [V.int (i : Int), V.int s_]) := ⟨_, rfl⟩
      rw [← eH1] at s1 h1 ⊢
      walk_at "rd"
      refine ⟨by show 2 ≤ sizeLine; decide, fun b nb => ?_⟩
      have s2 := Same.up (o := .tup [V.int r_, V.int (j : Int)]) (Same.refl H1) nb
      have h2 : upd H1 b (.tup [V.int r_, V.int (j : Int)]) b = some (.tup [V.int r_, V.int (j : Int)]) := upd_same
      have bp : b ≠ p := fun z => by rw [z, s1 _ _ hop] at nb; cases nb
      obtain ⟨H2, eH2⟩ : ∃ H2, H2 = upd H1 b (.tup [V.int r_, V.int (j : Int)]) := ⟨_, rfl⟩
      rw [← eH2] at s2 h2 ⊢
      walk_at "rd"
      refine ⟨by show 2 ≤ sizeLine; decide, fun q nq => ?_⟩
      have s3 := Same.up (o := .lst [V.ref a, V.ref b]) (Same.refl H2) nq
      refine k q [V.ref a, V.ref b] _ (s1.trans (s2.trans s3)) upd_same ?_
      unfold behL
      rw [if_pos cw]
      exact .cons ⟨a, rfl, ap, s3 _ _ (s2 _ _ h1)⟩ (.cons ⟨b, rfl, bp, s3 _ _ h2⟩ .nil)
    · refine ifF (decide_eq_false cw) ?_
      walk_at "rd"
      refine ⟨by show 2 ≤ sizeLine; decide, fun a na => ?_⟩
      have s1 := Same.up (o := .tup [V.int r_, V.int s_]) (Same.refl H) na
      have h1 : upd H a (.tup [V.int r_, V.int s_]) a = some (.tup [V.int r_, V.int s_]) := upd_same
      have ap : a ≠ p := fun z => by rw [z, hop] at na; cases na
      obtain ⟨H1, eH1⟩ : ∃ H1, H1 = upd H a (.tup [V.int r_, V.int s_]) := ⟨_, rfl⟩
      rw [← eH1] at s1 h1 ⊢
      walk_at "rd"
      refine ⟨by show 1 ≤ sizeLine; decide, fun q nq => ?_⟩
      have s3 := Same.up (o := .lst [V.ref a]) (Same.refl H1) nq
      refine k q [V.ref a] _ (s1.trans s3) upd_same ?_
      unfold behL
      rw [if_neg cw]
      exact .cons ⟨a, rfl, ap, s3 _ _ h1⟩ .nil
theorem sclFreeA : FnScope ["bars", "placed", "k", "sets", "barring"] ["bars", "placed"] (defScope slFreeA) := ⟨rfl, rfl, rfl, by decide +kernel, rfl, by decide +kernel, by decide +kernel⟩
theorem ok_freeA (F : Fun K "free_after" "free_after" slFreeA f fd) (T : Bt mg) (tall : mg "all" = none) : FnOk P w K mg base CX0 1 f fd ["bars", "placed"] spFreeA := by
  refine F.ok sclFreeA (fun vs H Q E h => ?_) (fun cdv A outer s H vs Q E hr h => ?_)
  · obtain ⟨b, bs, p, rfl, _⟩ := h
    rfl
  · obtain ⟨b, bs, p, rfl, ba, l64, l1000, k⟩ := h
    refine ⟨_, (pss_one (ps_ret (pe_lc (own := [("k", 2), ("sets", 3)]) (g := gTup K 2 (gCons (gName 2) (gCons (gName 3) gNil))) (tt := tAnd (tNot (fun σ H Q => (tOp (rI0 fun i j => .int (Builtin.bitAnd i j)) (tOp (rI (fun _ j => 0 ≤ j) fun i j => .int (i / 2 ^ j.toNat)) (tVar 1) (tVar 2)) (tC (.int 1))) σ H fun x H' => ∃ k, TruV K x H' k ∧ Q k H')) (tB (tCB (rAll K) (tCons (tLc (iList K (tVar 3)) (gName 4) tYes (tOp rNe (tOp (rI0 fun i j => .int (Builtin.bitAnd i j)) (tVar 1) (tVar 4)) (tC (.int 0))) [4]) tNil)))) (te := tVar 2) rfl sclFreeA.nd (pi_enum (by rfl) T.enumerate (pa_cons (pv 0) pa_nil)) (blkOk_by (own := [("k", 2), ("sets", 3)]) (N := ["bars", "placed", "k", "sets", "barring"]) (sc := defScope slFreeA) (by decide +kernel)) (fun _ _ _ _ _ => pg_tup (by rfl) (pgs_cons (pg_name (i := 2) sclFreeA.nd rfl (Or.inl rfl)) (pgs_cons (pg_name (i := 3) sclFreeA.nd rfl (Or.inl rfl)) pgs_nil))) (fun _ _ _ _ _ => pts_one (PW.pt (pw_and (pt_not (pt_truth (pe_op op_and (pe_op op_shr (pv 1) (pv 2)) pe_int) (fun _ => rfl))) (pw_and1 (pt_val (pe_callB (cr_all rfl) (by rfl) tall (by decide +kernel) (pa_cons (pe_lc (own := [("barring", 4)]) (g := gName 4) (tt := tYes) (te := tOp rNe (tOp (rI0 fun i j => .int (Builtin.bitAnd i j)) (tVar 1) (tVar 4)) (tC (.int 0))) rfl sclFreeA.nd (pi_list (pv 3)) (blkOk_by (own := [("barring", 4)]) (N := ["bars", "placed", "k", "sets", "barring"]) (sc := relS (retLcScope ((defBody slFreeA).getD 0 (.Pass ⟨0, 0, 0, 0⟩))) (defScope slFreeA)) (by decide +kernel)) (fun _ _ _ _ _ => pg_name (i := 4) sclFreeA.nd rfl (Or.inl rfl)) (fun _ _ _ _ _ => pts_nil) (fun _ _ _ _ _ => (pe_cmpR op_ne (pe_op op_and (pv 1) (pv 4)) pe_int (nomark _)))) pa_nil))))))) (fun _ _ _ _ _ => (pv 2))))), ?_⟩
    obtain ⟨vs, hb, vl, row⟩ := id ba
    walk_at "rd"
    refine ⟨b, vs, rfl, SqL.of hb, fun D nD => lc_it walk_enum (fun i H' => Same H H' ∧ H' D = some (.lst (((List.range i).filter fun k => !p.testBit k && (bs.getD k []).all fun b => decide (p &&& b ≠ 0)).map nInt))) ⟨Same.up (Same.refl H) nD, upd_same⟩ (fun i H' _ z => SqL.of (z.1 _ _ hb)) ?_ ?_⟩
    · rintro i y H2 H3 hi ⟨s2, hD2⟩ ⟨t, i', y', rfl, ht, rfl, e1, e2⟩
      cases (Option.some.inj e1)
      have e2 : vs[i]? = some y' := e2
      have hi : i < vs.length := hi
      obtain ⟨a, rfl, ha⟩ := row i y' e2
      have s3' := Same.up (o := .tup [V.int (i : Int), V.ref a]) (Same.refl H2) ht
      refine r_gtup ⟨t, _, rfl, SqT.of upd_same, rfl, _, _, rfl, ?_⟩
      obtain ⟨H3, eH3⟩ : ∃ H3, H3 = upd H2 t (.tup [V.int (i : Int), V.ref a]) := ⟨_, rfl⟩
      rw [← eH3] at s3' ⊢
      have s3 := s2.trans s3'
      have hD3 := s3' _ _ hD2
      obtain ⟨ms, ems⟩ : ∃ ms, ms = bs.getD i [] := ⟨_, rfl⟩
      have ib : i < bs.length := by omega
      have msl : ms.length ≤ 1000 := by
        rw [ems, List.getD_eq_getElem?_getD, List.getElem?_eq_getElem ib]
        exact l1000 _ (List.getElem_mem ib)
      rw [← ems] at ha
      walk_at "rd"
      refine ⟨_, _, rfl, ?_⟩
      walk_at "rd"
      refine ⟨rfl, ?_⟩
      walk_at "rd"
      refine ⟨rfl, ?_⟩
      walk_at "rd"
      refine ⟨(p : Int), (i : Int), rfl, rfl, (by omega : (0 : Int) ≤ (i : Int)), ?_⟩
      walk_at "rd"
      rw [show (p : Int) / 2 ^ (i : Int).toNat = ((p / 2 ^ i : Nat) : Int) by rw [Int.toNat_natCast]; simp, show (1 : Int) = ((1 : Nat) : Int) from rfl, band_nat]
      refine ⟨_, rfl, ?_⟩
      rw [tru_bit]
      rw [List.range_succ, List.filter_append, List.map_append]
      have hl : ((List.range i).filter fun k => !p.testBit k && (bs.getD k []).all fun b => decide (p &&& b ≠ 0)).length ≤ i := by
        have := List.length_filter_le (fun k => !p.testBit k && (bs.getD k []).all fun b => decide (p &&& b ≠ 0)) (List.range i)
        rwa [List.length_range] at this
      cases tb : p.testBit i with
      | true =>
        refine ifF rfl ?_
        refine ⟨s3, ?_⟩
        rw [hD3, List.filter_cons_of_neg (by rw [tb]; exact Bool.false_ne_true), List.filter_nil, List.map_nil, List.append_nil]
      | false =>
        refine ifT rfl ?_
        walk_at "rd"
        refine ⟨a, rfl, ⟨_, SqL.of (s3 _ _ ha)⟩, fun D4 nD4 => lc_it walk_list (Out H3 D4 fun j => V.bl (decide (p &&& ms.getD j 0 ≠ 0))) (Out.start nD4) (fun j H' _ o => SqL.of (o.1 _ _ (s3 _ _ ha))) ?_ ?_⟩
        · rintro j y Hx Hy hj o ⟨rfl, ey⟩
          have hj : j < ms.length := by have : j < (ms.map nInt).length := hj; rwa [List.length_map] at this
          rw [List.getElem?_map, List.getElem?_eq_getElem hj] at ey
          cases (Option.some.inj ey)
          have eg : ms.getD j 0 = ms[j] := by rw [List.getD_eq_getElem?_getD, List.getElem?_eq_getElem hj]; rfl
          walk_at "rd"
          refine ⟨rfl, ?_⟩
          unfold nInt
          walk_at "rd"
          rw [band_nat]
          refine r_ne rfl ?_
          rw [show (!decide (V.int ((p &&& ms[j] : Nat) : Int) = V.int 0)) = decide (p &&& ms.getD j 0 ≠ 0) by
            rw [eg, Bool.eq_iff_iff, Bool.not_eq_true', decide_eq_false_iff_not, decide_eq_true_iff]
            exact ⟨fun h e => h (by rw [e]; rfl), fun h e => h (by have := V.int.inj e; omega)⟩]
          exact o.more nD4 (Same.refl _) (Nat.lt_of_lt_of_le (show j < 1001 by omega) (by decide))
        · rintro H4 ⟨s4, hD4⟩
          have s24 := s3.trans s4
          walk_at "rd"
          refine ⟨D4, ms.map fun b => decide (p &&& b ≠ 0), rfl, SqL.of (hD4.trans ?_), ?_⟩
          · congr 2
            apply List.ext_getElem
            · simp
            · intro n h1 h2
              have hn : n < ms.length := by simpa using h2
              simp [List.getD_eq_getElem?_getD, List.getElem?_eq_getElem hn]
          · rw [show (ms.map fun b => decide (p &&& b ≠ 0)).all id = ms.all fun b => decide (p &&& b ≠ 0) by rw [List.all_map]; rfl]
            cases al : (ms.all fun b => decide (p &&& b ≠ 0)) with
            | false =>
              refine ⟨_, rfl, ?_⟩
              refine ifF rfl ?_
              refine ⟨s24, ?_⟩
              rw [s4 _ _ hD3, List.filter_cons_of_neg (by rw [tb, ← ems, al]; exact Bool.false_ne_true), List.filter_nil, List.map_nil, List.append_nil]
            | true =>
              refine ⟨_, rfl, ?_⟩
              refine ifT rfl ?_
              walk_at "rd"
              refine ⟨_, s4 _ _ hD3, by rw [List.length_map]; exact Nat.lt_of_le_of_lt (show _ ≤ 64 by omega) (by decide), Same.upOff s24 nD, ?_⟩
              rw [upd_same, List.filter_cons_of_pos (by rw [tb, ← ems, al]; rfl)]; rfl
    · rintro H2 ⟨s2, hD2⟩
      walk_at "rd"
      refine k D H2 s2 nD ?_
      rw [hD2, vl]; rfl
end
end Pk
set_option Elab.async false
set_option linter.all false
set_option maxRecDepth 100000
set_option maxHeartbeats 4000000
namespace Pk
open PySem L2
local macro_rules | `(tactic| walk_at "rd") => `(tactic| repeat (first
  | with_reducible refine r_seq ?_ | with_reducible refine r_nxt ?_ | with_reducible refine r_asg ?_ | with_reducible refine r_to ?_ | with_reducible refine r_ret ?_ | with_reducible refine r_for ?_ | with_reducible refine r_lc ?_ | with_reducible refine r_lc2 ?_ | with_reducible refine r_rng1 ?_ | with_reducible refine r_list ?_ | with_reducible refine r_tupI ?_ | with_reducible refine r_drop ?_ | with_reducible refine r_ifs ?_
  | with_reducible refine r_op ?_ | with_reducible refine r_c ?_ | with_reducible refine r_var rfl ?_ | with_reducible refine r_var (by assumption) ?_ | with_reducible refine r_I0 ?_ | with_reducible refine r_un ?_ | with_reducible refine r_U ?_ | with_reducible refine r_make ?_ | with_reducible refine r_makeS ?_ | with_reducible refine r_ifE ?_ | with_reducible refine r_cm ?_ | with_reducible refine r_mkV rfl ?_ | with_reducible refine r_sub ?_
  | with_reducible refine r_nil ?_ | with_reducible refine r_cons ?_ | with_reducible refine r_cb ?_ | with_reducible refine r_sl ?_ | with_reducible refine r_noP ?_ | with_reducible refine r_part ?_ | with_reducible refine r_isI ?_ | with_reducible refine r_lst ?_ | with_reducible refine r_tup ?_ | with_reducible refine r_call ?_ | with_reducible refine r_callS ?_ | with_reducible refine r_sFldU ?_ | with_reducible refine r_chain ?_ | with_reducible refine r_enum ?_ | with_reducible refine r_zip ?_ | with_reducible refine r_rng3 ?_ | with_reducible refine r_gtup ?_ | with_reducible refine r_methU ?_
  | with_reducible refine r_test ?_ | with_reducible refine r_B ?_ | with_reducible refine r_and ?_ | with_reducible refine r_or ?_ | with_reducible refine r_not ?_ | with_reducible refine r_andV ?_ | with_reducible refine r_orV ?_ | with_reducible refine r_notV ?_ | with_reducible refine r_bl ?_ | with_reducible refine r_yes ?_ | with_reducible refine r_int ?_ | with_reducible refine r_is0 ?_ | with_reducible refine r_is1 ?_ | with_reducible refine iteT ?_ | with_reducible refine iteF ?_ | with_reducible refine ite_nF ?_ | with_reducible refine ite_nT ?_
  | with_reducible refine r_mod (by decide) ?_ | with_reducible refine r_div (by decide) (by decide) ?_ | with_reducible refine r_mulR (by decide) (by decide) ?_ | with_reducible refine r_mulL (by decide) (by decide) ?_ | with_reducible refine r_pow (by decide) (by decide) (by decide) ?_))
/-! ### the bars of a table -/
theorem inB_cells {R : Rw} {a b : Nat} (ha : a < R.length) (hb : b < wd R) : inB (cells R) a b = (prc R a b).isSome := by
  unfold inB
  rw [Bool.eq_iff_iff, decide_eq_true_iff, mem_cells]
  exact ⟨fun h => h.2.2, fun h => ⟨ha, hb, h⟩⟩
theorem cross_beh {R : Rw} {i j : Nat} (hi : i < R.length) (hj : j < wd R) : (crossL R (inB (cells R)) i j).map (fun c => [((i : Int), c.2), (c.1, (j : Int))]) = crossN R i j := by
  unfold crossL crossN stB
  have gen : ∀ l : List Nat, (∀ r, r ∈ l → r < R.length) → ((l.filter fun r => !decide (r = i) && inB (cells R) r j).flatMap fun r => crRow R i j r (wiB (inB (cells R)) (wd R) i j)).map (fun c => [((i : Int), c.2), (c.1, (j : Int))]) = l.flatMap fun r => ((List.range (wd R)).filter fun s => lcB R i j r s).map fun (s : Nat) => [((i : Int), (s : Int)), ((r : Int), (j : Int))] := by
    intro l
    induction l with
    | nil => intro _; rfl
    | cons r l ih =>
      intro h
      have hr := h r List.mem_cons_self
      have ih := ih fun q hq => h q (List.mem_cons_of_mem _ hq)
      by_cases c : (!decide (r = i) && inB (cells R) r j) = true
      · rw [List.filter_cons_of_pos (p := fun r => !decide (r = i) && inB (cells R) r j) c, List.flatMap_cons, List.flatMap_cons, List.map_append, ih]
        congr 1
        unfold crRow wiB
        rw [List.filter_filter, List.map_map]
        have e : (List.range (wd R)).filter (fun s => crB R i j r s && (!decide (s = j) && inB (cells R) i s)) = (List.range (wd R)).filter fun s => lcB R i j r s := by
          refine List.filter_congr fun s hs => ?_
          have hs := List.mem_range.mp hs
          rw [Bool.and_eq_true] at c
          obtain ⟨c1, c2⟩ := c
          rw [inB_cells hr hj] at c2
          unfold lcB
          rw [inB_cells hi hs, c1, c2]
          cases decide (s = j) <;> cases (prc R i s).isSome <;> cases crB R i j r s <;> rfl
        rw [e]; rfl
      · rw [List.filter_cons_of_neg (p := fun r => !decide (r = i) && inB (cells R) r j) c, List.flatMap_cons, ih]
        have e : (List.range (wd R)).filter (fun s => lcB R i j r s) = [] := by
          rw [List.filter_eq_nil_iff]
          intro s hs t
          apply c
          unfold lcB at t
          rw [inB_cells hr hj]
          simp only [Bool.and_eq_true] at t ⊢
          exact ⟨t.1.1.1.1, t.1.2⟩
        rw [e]; rfl
  exact gen _ fun r hr => List.mem_range.mp hr
theorem col_beh {R : Rw} {i j : Nat} (hi : i < R.length) (hj : j < wd R) : (colL R (inB (cells R)) i j).map (fun c => [c]) = colN R i j := by
  unfold colL colN stB
  rw [List.filter_filter, List.map_map]
  have e : (List.range R.length).filter (fun r => decide (val R r j < val R i j) && (!decide (r = i) && inB (cells R) r j)) = (List.range R.length).filter fun r => (prc R r j).isSome && decide (val R r j < val R i j) := by
    refine List.filter_congr fun r hr => ?_
    rw [inB_cells (List.mem_range.mp hr) hj]
    by_cases c : r = i
    · subst c
      rw [decide_eq_false (show ¬ val R r j < val R r j by omega), Bool.and_false]; rfl
    · rw [decide_eq_false c]
      cases (prc R r j).isSome <;> cases decide (val R r j < val R i j) <;> rfl
  rw [e]; rfl
theorem row_beh {R : Rw} {i j : Nat} (hi : i < R.length) (hj : j < wd R) : (rowL R (inB (cells R)) i j).map (fun c => [c]) = rowN R i j := by
  unfold rowL rowN wiB
  rw [List.filter_filter, List.map_map]
  have e : (List.range (wd R)).filter (fun s => decide (val R i s < val R i j) && (!decide (s = j) && inB (cells R) i s)) = (List.range (wd R)).filter fun s => (prc R i s).isSome && decide (val R i s < val R i j) := by
    refine List.filter_congr fun s hs => ?_
    rw [inB_cells hi (List.mem_range.mp hs)]
    by_cases c : s = j
    · subst c
      rw [decide_eq_false (show ¬ val R i s < val R i s by omega), Bool.and_false]; rfl
    · rw [decide_eq_false c]
      cases (prc R i s).isSome <;> cases decide (val R i s < val R i j) <;> rfl
  rw [e]; rfl
theorem fau_beh {R : Rw} {i j : Nat} {kd : Str} (hi : i < R.length) (hj : j < wd R) : (fauL R (inB (cells R)) i j kd).map (behL ((i : Int), (j : Int))) = needsL R i j kd := by
  have w1 : ∀ l : List Pr, (wrd "cross" l).map (behL ((i : Int), (j : Int))) = l.map fun c => [((i : Int), c.2), (c.1, (j : Int))] := fun l => by
    unfold wrd
    rw [List.map_map]; rfl
  have w2 : ∀ (z : Str) (l : List Pr), z ≠ "cross" → (wrd z l).map (behL ((i : Int), (j : Int))) = l.map fun c => [c] := fun z l h => by
    unfold wrd
    rw [List.map_map]
    refine List.map_congr_left fun c _ => ?_
    show behL _ (z, c) = _
    unfold behL
    rw [if_neg h]
  unfold fauL needsL
  rw [List.map_append, List.map_append, w1, cross_beh hi hj]
  congr 1
  · congr 1
    split
    · rw [w2 _ _ (by decide), col_beh hi hj]
    · rfl
  · split
    · rw [w2 _ _ (by decide), row_beh hi hj]
    · rfl
theorem FtsAt.at' {p : Addr} {H : Hp} {pv : V} {us : List V} {fs : List (Str × Pr)} (h : FtsAt p H pv us fs) : ∀ {i : Nat} {v : V}, us[i]? = some v → ∃ f, fs[i]? = some f ∧ FtAt p H pv v f := by
  induction h with
  | nil => intro i v e; simp at e
  | cons h _ ih =>
    intro i v e
    cases i with
    | zero => cases e; exact ⟨_, rfl, h⟩
    | succ i => exact ih e
def spBarsOf (C : Addr) : Sp := fun vs H Q _ => ∃ (p x : Addr) (G : Hp) (R : Rw) (kd : Str), vs = [.ref x, .str kd] ∧ TbX C G x R ∧ Same G H ∧ G p = none ∧ (∃ o, H p = some o) ∧ ∀ (r : Addr) (H' : Hp), Same H H' → BarsAt H' r (barsL R kd) → Q (.ref r) H'
abbrev slBarsOf : Stmt := top 44
abbrev nmBarsOf : List Str := ["table", "kind", "pairs", "prices", "behind", "pair", "fault"]
section
variable {P : Program} {w : World} {K : PySem.W.Frag} {mg : Str → Option Value} {base : Heap} {C f : Addr} {fd : FuncData}
theorem sclBarsOf : FnScope nmBarsOf ["table", "kind"] (defScope slBarsOf) := ⟨rfl, rfl, rfl, by decide +kernel, rfl, by decide +kernel, by decide +kernel⟩
theorem ok_barsOf {fQ fR : Addr} {fdQ fdR : FuncData} (F : Fun K "bars_of" "bars_of" slBarsOf f fd) (A : TbC K C) (mQ : Meth K C "pairs" fQ) (oQ : FnOk P w K mg base CX0 1 fQ fdQ ["self"] (spTPrs C)) (bQ : Binds K fdQ ["self"] []) (mR : Meth K C "rows" fR) (oR : FnOk P w K mg base CX0 1 fR fdR ["self"] (spTRws C)) (bR : Binds K fdR ["self"] [])
    (DM : Df P w K mg base CX0 "marks" 2 ["table", "pairs"] (spMarks C)) (DF : Df P w K mg base CX0 "faults_of" 3 ["prices", "behind", "pair", "kind"] (spFau K)) (DS : Df P w K mg base CX0 "set_of" 1 ["pairs", "members"] (spSetOf K)) (DB : Df P w K mg base CX0 "pairs_behind" 1 ["fault"] spPBeh) : FnOk P w K mg base CX0 4 f fd ["table", "kind"] (spBarsOf C) := by
  refine F.ok sclBarsOf (fun vs H Q E h => ?_) (fun cdv A' outer s H vs Q E hr h => ?_)
  · obtain ⟨p, x, G, R, kd, rfl, _⟩ := h
    rfl
  · obtain ⟨p, x, G, R, kd, rfl, t, sG, off, ⟨op, hop⟩, k⟩ := h
    have hr1 := hr.mono (show 1 ≤ 3 by decide)
    refine ⟨_, (pss_cons (ps_asg (pe_tup (pa_cons (pe_meth0 (pv 0) A.O.cl mQ oQ hr1 bQ .nil pass0) (pa_cons (pe_meth0 (pv 0) A.O.cl mR oR hr1 bR .nil pass0) pa_nil))) (pg_tup (by rfl) (pgs_cons (pg_name (i := 2) sclBarsOf.nd rfl (Or.inr rfl)) (pgs_cons (pg_name (i := 3) sclBarsOf.nd rfl (Or.inr rfl)) pgs_nil))))
  (pss_cons (ps_set (i := 4) sclBarsOf.nd rfl (Or.inr rfl) (pe_df DM hr (by decide) (pa_cons (pv 0) (pa_cons (pv 2) pa_nil))))
  (pss_one (ps_ret (pe_lc (own := [("pair", 5)]) (g := gName 5) (tt := tYes) (te := tLc (iList K (tCall (spFau K) [] E0 (tCons (tVar 3) (tCons (tVar 4) (tCons (tVar 5) (tCons (tVar 1) tNil)))))) (gName 6) tYes (tCall (spSetOf K) [] E0 (tCons (tVar 2) (tCons (tCall spPBeh [] E0 (tCons (tVar 6) tNil)) tNil))) [6]) rfl sclBarsOf.nd (pi_list (pv 2)) (blkOk_by (own := [("pair", 5)]) (N := nmBarsOf) (sc := defScope slBarsOf) (by decide +kernel)) (fun _ _ _ _ _ => pg_name (i := 5) sclBarsOf.nd rfl (Or.inl rfl)) (fun _ _ _ _ _ => pts_nil) (fun _ _ _ _ _ => (pe_lc (own := [("fault", 6)]) (g := gName 6) (tt := tYes) (te := tCall (spSetOf K) [] E0 (tCons (tVar 2) (tCons (tCall spPBeh [] E0 (tCons (tVar 6) tNil)) tNil))) rfl sclBarsOf.nd (pi_list (pe_df DF hr (by decide) (pa_cons (pv 3) (pa_cons (pv 4) (pa_cons (pv 5) (pa_cons (pv 1) pa_nil)))))) (blkOk_by (own := [("fault", 6)]) (N := nmBarsOf) (sc := relS (retLcScope ((defBody slBarsOf).getD 2 (.Pass ⟨0, 0, 0, 0⟩))) (defScope slBarsOf)) (by decide +kernel)) (fun _ _ _ _ _ => pg_name (i := 6) sclBarsOf.nd rfl (Or.inl rfl)) (fun _ _ _ _ _ => pts_nil) (fun _ _ _ _ _ => (pe_df DS hr (by decide) (pa_cons (pv 2) (pa_cons (pe_df DB hr (by decide) (pa_cons (pv 6) pa_nil)) pa_nil))))))))))), ?_⟩
    obtain ⟨g, dx, e0, u0, es0, ho, hl, hpl⟩ := id t
    have c64 := cells_len g
    walk_at "rd"
    refine ⟨x, dx, _, rfl, sG _ _ ho, two_no (by decide +kernel) (by decide +kernel), ?_⟩
    walk_at "rd"
    refine ⟨x, G, R, rfl, t, sG, fun r1 vs1 nr1 hv1 => ?_⟩
    have s1 := Same.up (o := .lst vs1) (Same.refl H) nr1
    have hr1' : upd H r1 (.lst vs1) r1 = some (.lst vs1) := upd_same
    obtain ⟨H1, eH1⟩ : ∃ H1, H1 = upd H r1 (.lst vs1) := ⟨_, rfl⟩
    rw [← eH1] at s1 hr1' ⊢
    have sG1 := sG.trans s1
    have pv1 : PrsAt p H1 vs1 (cells R) := by
      have : ∀ {vs : List V} {zs : List Pr}, PrsAt x G vs zs → PrsAt p H1 vs zs := fun {vs zs} h => by
        induction h with
        | nil => exact .nil
        | cons h _ ih =>
          obtain ⟨t, e, n, ht⟩ := h
          exact .cons ⟨t, e, (fun z => by rw [z, off] at ht; cases ht), sG1 _ _ ht⟩ ih
      exact this hv1
    walk_at "rd"
    refine ⟨x, dx, _, rfl, sG1 _ _ ho, two_no (by decide +kernel) (by decide +kernel), ?_⟩
    walk_at "rd"
    refine ⟨x, G, R, rfl, t, sG1, fun r2 es2 H2 nl => ?_⟩
    obtain ⟨s2, _, rl2, _⟩ := nl
    have rs2 : RS K H2 r2 es2 R := rl2.rs
    walk_at "rd"
    refine ⟨by show 2 ≤ sizeLine; decide, fun t3 nt3 => ?_⟩
    have s3 := Same.up (o := .tup [V.ref r1, V.ref r2]) (Same.refl H2) nt3
    have ht3 : upd H2 t3 (.tup [V.ref r1, V.ref r2]) t3 = some (.tup [V.ref r1, V.ref r2]) := upd_same
    obtain ⟨H3, eH3⟩ : ∃ H3, H3 = upd H2 t3 (.tup [V.ref r1, V.ref r2]) := ⟨_, rfl⟩
    rw [← eH3] at s3 ht3 ⊢
    refine r_gtup ⟨t3, _, rfl, SqT.of ht3, rfl, _, _, rfl, ?_⟩
    walk_at "rd"
    refine ⟨_, _, rfl, ?_⟩
    walk_at "rd"
    refine ⟨rfl, ?_⟩
    have s13 := s2.trans s3
    have hr3 := s13 _ _ hr1'
    have pv3 := pv1.keep (Keep.same s13)
    have vl := pv3.length
    walk_at "rd"
    refine ⟨p, x, r1, G, R, vs1, cells R, rfl, t, sG1.trans s13, hr3, pv3, fun z hz => ?_, c64, fun b bs H4 s4 bk bl => ?_⟩
    · obtain ⟨i, j, e, hi, hj, _⟩ := cells_nat hz
      exact ⟨i, j, e, hi, hj⟩
    have s14 := s13.trans s4
    have hr4 := s4 _ _ hr3
    have pv4 := pv3.keep (Keep.same s4)
    have rs4 := rs2.same (s3.trans s4)
    have bs4 := bk.bs bl
    walk_at "rd"
    refine ⟨r1, rfl, ⟨_, SqL.of hr4⟩, fun D nD => lc_it walk_list (fun i H' => Same H4 H' ∧ ∃ vs, H' D = some (.lst vs) ∧ vs.length = i ∧ ∀ (k : Nat) (v : V), vs[k]? = some v → ∃ a, v = .ref a ∧ a ≠ D ∧ H' a = some (.lst (((barsL R kd).getD k []).map nInt))) ⟨Same.up (Same.refl H4) nD, [], upd_same, rfl, fun k v h => by simp at h⟩ (fun i H' _ z => SqL.of (z.1 _ _ hr4)) ?_ ?_⟩
    · rintro i y H5 H6 hi ⟨s5, vs, hD5, vsl, row⟩ ⟨rfl, ey⟩
      obtain ⟨z, ez, pz⟩ := pv4.at ey
      have hi : i < vs1.length := hi
      have zc := List.mem_of_getElem? ez
      obtain ⟨i', j', rfl, hi', hj', hs'⟩ := cells_nat zc
      have pz5 := pz.keep (Keep.same s5)
      have sHH5 := s1.trans (s14.trans s5)
      walk_at "rd"
      refine ⟨rfl, ?_⟩
      walk_at "rd"
      refine ⟨p, r2, b, y, es2, R, inB (cells R), i', j', kd, rfl, ⟨rs4.same s5, g, bs4.same s5, pz5, hi', hj', fun r s hr hs h => by rwa [inB_cells hr hs] at h, hs', ⟨op, sHH5 _ _ hop⟩⟩, fun r7 us7 H7 s7 h7 l7 f7 => ?_⟩
      have fb := fau_beh (kd := kd) hi' hj'
      obtain ⟨fs, efs⟩ : ∃ fs, fs = fauL R (inB (cells R)) i' j' kd := ⟨_, rfl⟩
      rw [← efs] at f7 fb
      have fl := f7.length
      refine ⟨r7, rfl, ⟨_, SqL.of h7⟩, fun D8 nD8 => lc_it walk_list (Out H7 D8 fun k => nInt (barN (cells R) (behL ((i' : Int), (j' : Int)) (fs.getD k ("", (0, 0)))))) (Out.start nD8) (fun k H' _ o => SqL.of (o.1 _ _ h7)) ?_ ?_⟩
      · rintro k y2 Hx Hy hk o ⟨rfl, ey2⟩
        have hk : k < us7.length := hk
        obtain ⟨f0, ef0, ft0⟩ := f7.at' ey2
        have s5x := s7.trans o.1
        have sHx := sHH5.trans s5x
        walk_at "rd"
        refine ⟨rfl, ?_⟩
        walk_at "rd"
        refine ⟨p, y, y2, i', j', f0, rfl, ft0.keepT (fun t xs e => o.1 _ _ e), pz5.keep (Keep.same s5x), ⟨op, sHx _ _ hop⟩, fun r9 us9 H9 s9 h9 p9 => ?_⟩
        have mem : behL ((i' : Int), (j' : Int)) f0 ∈ needsL R i' j' kd := by
          rw [← fb]
          exact List.mem_map.mpr ⟨f0, List.mem_of_getElem? ef0, rfl⟩
        obtain ⟨nsub, _, nl2⟩ := needs_ok zc mem
        walk_at "rd"
        refine ⟨p, r1, r9, vs1, us9, cells R, behL ((i' : Int), (j' : Int)) f0, rfl, ((s5.trans s5x).trans s9) _ _ hr4, pv4.keep (Keep.same ((s5.trans s5x).trans s9)), cells_nodup R, c64, h9, p9, nsub, by omega, fun HA sA => ?_⟩
        have e2 : nInt (barN (cells R) (behL ((i' : Int), (j' : Int)) f0)) = nInt (barN (cells R) (behL ((i' : Int), (j' : Int)) (fs.getD k ("", (0, 0))))) := by
          rw [List.getD_eq_getElem?_getD, ef0]; rfl
        rw [e2]
        exact o.more nD8 (s9.trans sA) (Nat.lt_of_lt_of_le (show k < 201 by omega) (by decide))
      · rintro H8 ⟨s8, hD8⟩
        have s58 := s7.trans s8
        have er : (List.range us7.length).map (fun k => nInt (barN (cells R) (behL ((i' : Int), (j' : Int)) (fs.getD k ("", (0, 0)))))) = ((barsL R kd).getD i []).map nInt := by
          have eb : (barsL R kd).getD i [] = (fs.map (behL ((i' : Int), (j' : Int)))).map (barN (cells R)) := by
            rw [fb]
            unfold barsL
            rw [List.getD_eq_getElem?_getD, List.getElem?_map, ez]
            simp only [Option.map_some, Option.getD_some, Int.toNat_natCast]
          rw [eb, List.map_map, List.map_map]
          apply List.ext_getElem
          · simp [fl]
          · intro n h1 h2
            have hn : n < fs.length := by simpa using h2
            simp [List.getD_eq_getElem?_getD, List.getElem?_eq_getElem hn]
        rw [er] at hD8
        have D8D : D8 ≠ D := fun z => by rw [z, s7 _ _ hD5] at nD8; cases nD8
        refine ⟨vs, s58 _ _ hD5, by rw [vsl]; exact Nat.lt_of_lt_of_le (show i < 65 by omega) (by decide), Same.upOff (s5.trans s58) nD, vs ++ [.ref D8], upd_same, by rw [List.length_append, vsl]; rfl, fun k v hv => ?_⟩
        by_cases c : k < vs.length
        · rw [List.getElem?_append_left c] at hv
          obtain ⟨a, e1, n1, h1⟩ := row k v hv
          exact ⟨a, e1, n1, by rw [upd_ne n1]; exact s58 _ _ h1⟩
        · rw [List.getElem?_append_right (by omega)] at hv
          have : k = vs.length := by
            by_cases d0 : k - vs.length = 0
            · omega
            · obtain ⟨q, hq⟩ : ∃ q, k - vs.length = q + 1 := ⟨k - vs.length - 1, by omega⟩
              rw [hq] at hv
              simp at hv
          subst this
          rw [Nat.sub_self] at hv
          cases hv
          exact ⟨D8, rfl, D8D, by rw [upd_ne D8D, vsl]; exact hD8⟩
    · rintro H5 ⟨s5, vs, hD5, vsl, row⟩
      walk_at "rd"
      refine k D H5 (s1.trans (s14.trans s5)) ⟨vs, hD5, by rw [vsl, vl]; unfold barsL; rw [List.length_map], fun k v hv => ?_⟩
      obtain ⟨a, e1, _, h1⟩ := row k v hv
      exact ⟨a, e1, h1⟩
end
end Pk
set_option Elab.async false
set_option linter.all false
set_option maxRecDepth 100000
set_option maxHeartbeats 4000000
namespace Pk
open PySem L2
local macro_rules | `(tactic| walk_at "rd") => `(tactic| repeat (first
  | with_reducible refine r_seq ?_ | with_reducible refine r_nxt ?_ | with_reducible refine r_asg ?_ | with_reducible refine r_to ?_ | with_reducible refine r_ret ?_ | with_reducible refine r_for ?_ | with_reducible refine r_lc ?_ | with_reducible refine r_lc2 ?_ | with_reducible refine r_rng1 ?_ | with_reducible refine r_list ?_ | with_reducible refine r_tupI ?_ | with_reducible refine r_drop ?_ | with_reducible refine r_ifs ?_
  | with_reducible refine r_op ?_ | with_reducible refine r_c ?_ | with_reducible refine r_var rfl ?_ | with_reducible refine r_var (by assumption) ?_ | with_reducible refine r_I0 ?_ | with_reducible refine r_un ?_ | with_reducible refine r_U ?_ | with_reducible refine r_make ?_ | with_reducible refine r_makeS ?_ | with_reducible refine r_ifE ?_ | with_reducible refine r_cm ?_ | with_reducible refine r_mkV rfl ?_ | with_reducible refine r_sub ?_
  | with_reducible refine r_nil ?_ | with_reducible refine r_cons ?_ | with_reducible refine r_cb ?_ | with_reducible refine r_sl ?_ | with_reducible refine r_noP ?_ | with_reducible refine r_part ?_ | with_reducible refine r_isI ?_ | with_reducible refine r_lst ?_ | with_reducible refine r_tup ?_ | with_reducible refine r_call ?_ | with_reducible refine r_callS ?_ | with_reducible refine r_sFldU ?_ | with_reducible refine r_chain ?_ | with_reducible refine r_enum ?_ | with_reducible refine r_zip ?_ | with_reducible refine r_rng3 ?_ | with_reducible refine r_gtup ?_ | with_reducible refine r_methU ?_
  | with_reducible refine r_test ?_ | with_reducible refine r_B ?_ | with_reducible refine r_and ?_ | with_reducible refine r_or ?_ | with_reducible refine r_not ?_ | with_reducible refine r_andV ?_ | with_reducible refine r_orV ?_ | with_reducible refine r_notV ?_ | with_reducible refine r_bl ?_ | with_reducible refine r_yes ?_ | with_reducible refine r_int ?_ | with_reducible refine r_is0 ?_ | with_reducible refine r_is1 ?_ | with_reducible refine iteT ?_ | with_reducible refine iteF ?_ | with_reducible refine ite_nF ?_ | with_reducible refine ite_nT ?_
  | with_reducible refine r_mod (by decide) ?_ | with_reducible refine r_div (by decide) (by decide) ?_ | with_reducible refine r_mulR (by decide) (by decide) ?_ | with_reducible refine r_mulL (by decide) (by decide) ?_ | with_reducible refine r_pow (by decide) (by decide) (by decide) ?_))
/-! ### the ways to go on, for each set -/
theorem rep_flatO {α : Type} (n : Nat) (a : α) : (List.replicate n [a]).flatten = List.replicate n a := by
  induction n with
  | zero => rfl
  | succ n ih => rw [List.replicate_succ, List.flatten_cons, ih]; rfl
theorem freeN_mem {bs : List (List Nat)} {p k : Nat} (h : k ∈ freeN bs p) : k < bs.length ∧ p.testBit k = false := by
  unfold freeN at h
  obtain ⟨h1, h2⟩ := List.mem_filter.mp h
  rw [Bool.and_eq_true, Bool.not_eq_true'] at h2
  exact ⟨List.mem_range.mp h1, h2.1⟩
theorem or_bit {p k n : Nat} (hp : p < 2 ^ n) (hk : k < n) (b : p.testBit k = false) : p < p ||| 2 ^ k ∧ p ||| 2 ^ k < 2 ^ n := by
  have h1 : p ≤ p ||| 2 ^ k := Nat.left_le_or
  have h2 : p ||| 2 ^ k ≠ p := fun e => by
    have := congrArg (fun m => m.testBit k) e
    simp only [Nat.testBit_or, Nat.testBit_two_pow, decide_true, Bool.or_true] at this
    rw [b] at this
    cases this
  exact ⟨by omega, Nat.or_lt_two_pow hp (Nat.pow_lt_pow_right (by decide) hk)⟩
/-- the ways told so far: for the sets from q on -/
structure WaysM (bs : List (List Nat)) (w : List Nat) (q : Nat) : Prop where
  len : w.length = 2 ^ bs.length
  last : w.getD (2 ^ bs.length - 1) 0 = 1
  rec_ : ∀ p, q ≤ p → p < 2 ^ bs.length - 1 → w.getD p 0 = ((freeN bs p).map fun k => w.getD (p ||| 2 ^ k) 0).sum
theorem getD_set {w : List Nat} {p v i : Nat} (h : p < w.length) : (w.set p v).getD i 0 = if p = i then v else w.getD i 0 := by
  rw [List.getD_eq_getElem?_getD, List.getElem?_set]
  by_cases c : p = i
  · rw [if_pos c, if_pos c, if_pos h]; rfl
  · rw [if_neg c, if_neg c, List.getD_eq_getElem?_getD]
theorem WaysM.step {bs : List (List Nat)} {w : List Nat} {p : Nat} (h : WaysM bs w (p + 1)) (hp : p < 2 ^ bs.length - 1) : WaysM bs (w.set p ((freeN bs p).map fun k => w.getD (p ||| 2 ^ k) 0).sum) p := by
  have pl : p < w.length := by rw [h.len]; omega
  refine ⟨by rw [List.length_set]; exact h.len, by rw [getD_set pl, if_neg (by omega)]; exact h.last, fun r h1 h2 => ?_⟩
  have ex : ∀ k, k ∈ freeN bs r → (w.set p ((freeN bs p).map fun k => w.getD (p ||| 2 ^ k) 0).sum).getD (r ||| 2 ^ k) 0 = w.getD (r ||| 2 ^ k) 0 := fun k hk => by
    obtain ⟨f1, f2⟩ := freeN_mem hk
    have := or_bit (n := bs.length) (p := r) (by omega) f1 f2
    rw [getD_set pl, if_neg (by omega)]
  rw [List.map_congr_left ex, getD_set pl]
  by_cases c : p = r
  · rw [if_pos c, c]
  · rw [if_neg c]
    exact h.rec_ r (by omega) h2
def spWaysA : Sp := fun vs H Q _ => ∃ (b : Addr) (bs : List (List Nat)), vs = [.ref b] ∧ BarsAt H b bs ∧ bs.length ≤ 12 ∧ (∀ l, l ∈ bs → l.length ≤ 1000) ∧ ∀ (r : Addr) (w : List Nat) (H' : Hp), Same H H' → H' r = some (.lst (w.map nInt)) → Ways bs w → Q (.ref r) H'
abbrev slWaysA : Stmt := top 46
abbrev nmWaysA : List Str := ["bars", "everything", "ways", "placed", "k"]
def spCkC (C : Addr) : Sp := fun vs H Q _ => ∃ (x : Addr) (G : Hp) (R : Rw), vs = [.ref x] ∧ TbX C G x R ∧ Same G H ∧ (cells R).length ≤ 12 ∧ Q .non H
abbrev slCkC : Stmt := top 42
def spCount (C : Addr) : Sp := fun vs H Q _ => ∃ (p x : Addr) (G : Hp) (R : Rw) (kd : Str), vs = [.ref x, .str kd] ∧ TbX C G x R ∧ Same G H ∧ G p = none ∧ (∃ o, H p = some o) ∧ KD kd ∧ (cells R).length ≤ 12 ∧ ∀ H' : Hp, Same H H' → Q (nInt (cntR R kd (cells R).length [])) H'
abbrev slCount : Stmt := top 48
theorem mask_nil : ∀ cs : List Pr, maskL cs [] = 0
  | [] => rfl
  | c :: cs => by rw [maskL, if_neg List.not_mem_nil, mask_nil cs]
theorem needs_len {R : Rw} {i j : Nat} {kd : Str} (g : Gt R) : (needsL R i j kd).length ≤ 1000 := by
  have h1 : (crossN R i j).length ≤ R.length * 8 := cr1_len (R := R) (i := i) (j := j) g.w8 (m := R.length)
  have h2 : (colN R i j).length ≤ R.length := co1_len (R := R) (i := i) (j := j) (n := R.length)
  have h3 : (rowN R i j).length ≤ wd R := ro1_len (R := R) (i := i) (j := j) (n := wd R)
  have := g.h8
  have := g.w8
  have il : ∀ (c : Prop) [Decidable c] (l : List (List Pr)), (if c then l else []).length ≤ l.length := fun c _ l => by
    split
    · exact Nat.le_refl _
    · exact Nat.zero_le _
  have i1 := il (hasC kd = true) (colN R i j)
  have i2 := il (hasR kd = true) (rowN R i j)
  unfold needsL
  rw [List.length_append, List.length_append]
  omega
section
variable {P : Program} {w : World} {K : PySem.W.Frag} {mg : Str → Option Value} {base : Heap} {C f : Addr} {fd : FuncData}
theorem sclWaysA : FnScope nmWaysA ["bars"] (defScope slWaysA) := ⟨rfl, rfl, rfl, by decide +kernel, rfl, by decide +kernel, by decide +kernel⟩
theorem ok_waysA (F : Fun K "ways_after" "ways_after" slWaysA f fd) (T : Bt mg) (trev : mg "reversed" = none) (DF : Df P w K mg base CX0 "free_after" 1 ["bars", "placed"] spFreeA) : FnOk P w K mg base CX0 2 f fd ["bars"] spWaysA := by
  refine F.ok sclWaysA (fun vs H Q E h => ?_) (fun cdv A outer s H vs Q E hr h => ?_)
  · obtain ⟨b, bs, rfl, _⟩ := h
    rfl
  · obtain ⟨b, bs, rfl, ba, l12, l1000, k⟩ := h
    refine ⟨_, (pss_cons (ps_set (i := 1) sclWaysA.nd rfl (Or.inl rfl) (pe_op op_sub (pe_op op_shl pe_int (pe_callB cl_len (by rfl) T.len (by decide +kernel) (pa_cons (pv 0) pa_nil))) pe_int))
  (pss_cons (ps_set (i := 2) sclWaysA.nd rfl (Or.inr rfl) (pe_op op_cat (pe_op op_rep (pe_lst (pa_cons pe_int pa_nil)) (pv 1)) (pe_lst (pa_cons pe_int pa_nil))))
  (pss_cons (ps_for PassesOwn.never rfl (pi_revR (by rfl) trev (prg_1 (by rfl) T.range (pv 1))) (pg_name (i := 3) sclWaysA.nd rfl (Or.inr rfl)) (pss_one (ps_asg (pe_callB (cr_sum rfl) (by rfl) T.sum (by decide +kernel) (pa_cons (pe_lc (own := [("k", 4)]) (g := gName 4) (tt := tYes) (te := tOp (rIxL K) (tVar 2) (tOp (rI0 fun i j => .int (Builtin.bitOr i j)) (tVar 3) (tOp (rI CPow fun i j => .int (i * 2 ^ j.toNat)) (tC (.int 1)) (tVar 4)))) rfl sclWaysA.nd (pi_list (pe_df DF hr (by decide) (pa_cons (pv 0) (pa_cons (pv 3) pa_nil)))) (blkOk_by (own := [("k", 4)]) (N := nmWaysA) (sc := defScope slWaysA) (by decide +kernel)) (fun _ _ _ _ _ => pg_name (i := 4) sclWaysA.nd rfl (Or.inl rfl)) (fun _ _ _ _ _ => pts_nil) (fun _ _ _ _ _ => (pe_ix ix_list (pv 2) (pe_op op_or (pv 3) (pe_op op_shl pe_int (pv 4))) (fun _ _ => rfl)))) pa_nil)) (pg_sub (pv 2) (pv 3) set_list))))
  (pss_one (ps_ret (pv 2)))))), ?_⟩
    obtain ⟨vs, hb, vl, _⟩ := id ba
    obtain ⟨N, eN⟩ : ∃ N, N = 2 ^ bs.length - 1 := ⟨_, rfl⟩
    have p12 : 2 ^ bs.length ≤ 2 ^ 12 := Nat.pow_le_pow_right (by decide) l12
    have p12' : (2 : Nat) ^ 12 = 4096 := by decide
    have ppos : 0 < 2 ^ bs.length := Nat.pow_pos (by decide)
    have N1 : N + 1 = 2 ^ bs.length := by omega
    walk_at "rd"
    refine r_lenL (SqL.of hb) ?_
    refine ⟨1, (vs.length : Int), rfl, rfl, ⟨by omega, by omega, by decide⟩, ?_⟩
    walk_at "rd"
    rw [show (1 : Int) * 2 ^ (vs.length : Int).toNat - 1 = (N : Int) by
      rw [Int.toNat_natCast, vl, eN]
      have : ((2 ^ bs.length : Nat) : Int) = (2 : Int) ^ bs.length := by simp
      omega]
    walk_at "rd"
    refine ⟨by show 1 ≤ sizeLine; decide, fun q1 n1 => ?_⟩
    have s1 := Same.up (o := .lst [V.int 0]) (Same.refl H) n1
    have h1 : upd H q1 (.lst [V.int 0]) q1 = some (.lst [V.int 0]) := upd_same
    obtain ⟨H1, eH1⟩ : ∃ H1, H1 = upd H q1 (.lst [V.int 0]) := ⟨_, rfl⟩
    rw [← eH1] at s1 h1 ⊢
    walk_at "rd"
    refine ⟨q1, (N : Int), [V.int 0], rfl, rfl, h1, by omega, by omega, by rw [Int.toNat_natCast]; exact Nat.le_trans (show 1 * N ≤ 5000 by omega) (by decide), fun q2 n2 => ?_⟩
    rw [rep_flatO, Int.toNat_natCast]
    have s2' := Same.up (o := .lst (List.replicate N (V.int 0))) (Same.refl H1) n2
    have h2 : upd H1 q2 (.lst (List.replicate N (V.int 0))) q2 = some (.lst (List.replicate N (V.int 0))) := upd_same
    obtain ⟨H2, eH2⟩ : ∃ H2, H2 = upd H1 q2 (.lst (List.replicate N (V.int 0))) := ⟨_, rfl⟩
    rw [← eH2] at s2' h2 ⊢
    walk_at "rd"
    refine ⟨by show 1 ≤ sizeLine; decide, fun q3 n3 => ?_⟩
    have s3' := Same.up (o := .lst [V.int 1]) (Same.refl H2) n3
    have h3 : upd H2 q3 (.lst [V.int 1]) q3 = some (.lst [V.int 1]) := upd_same
    obtain ⟨H3, eH3⟩ : ∃ H3, H3 = upd H2 q3 (.lst [V.int 1]) := ⟨_, rfl⟩
    rw [← eH3] at s3' h3 ⊢
    refine r_cat (s3' _ _ h2) h3 (by rw [List.length_replicate]; exact Nat.le_trans (show N + 1 ≤ 5000 by omega) (by decide)) fun wy nwy => ?_
    have s3 := s1.trans (s2'.trans s3')
    have s4' := Same.up (o := .lst (List.replicate N (V.int 0) ++ [V.int 1])) (Same.refl H3) nwy
    have h4 : upd H3 wy (.lst (List.replicate N (V.int 0) ++ [V.int 1])) wy = some (.lst ((List.replicate N 0 ++ [1]).map nInt)) := by
      rw [upd_same, List.map_append, List.map_replicate]; rfl
    obtain ⟨H4, eH4⟩ : ∃ H4, H4 = upd H3 wy (.lst (List.replicate N (V.int 0) ++ [V.int 1])) := ⟨_, rfl⟩
    rw [← eH4] at s4' h4 ⊢
    have s4 := s3.trans s4'
    have nwy0 : H wy = none := s3.free nwy
    walk_at "rd"
    refine ⟨_, rfl, (N : Int), rfl, by omega, by omega, by omega, by omega, for_it walk_rangeC (fun m σ H' => ∃ v3 v4 ws, σ = [some (.ref b), some (.int (N : Int)), some (.ref wy), v3, v4] ∧ Same H H' ∧ H' wy = some (.lst (ws.map nInt)) ∧ WaysM bs ws (N - m)) ⟨_, _, _, rfl, s4, h4, ⟨by rw [List.length_append, List.length_replicate]; exact N1, by rw [← eN, List.getD_eq_getElem?_getD, List.getElem?_append_right (by rw [List.length_replicate]; omega), List.length_replicate, Nat.sub_self]; rfl, fun p h1 h2 => by omega⟩⟩ (fun _ _ _ _ _ => trivial) ?_ ?_⟩
    · rintro m y σ H50 H5 hm ⟨v3, v4, ws, rfl, s5, h5, wm⟩ ⟨rfl, rfl⟩
      have hm : m < N := by have : m < ((N : Int) - 0).toNat := hm; omega
      obtain ⟨p, ep⟩ : ∃ p : Nat, p = N - (m + 1) := ⟨_, rfl⟩
      have e0 : (0 : Int) + ((((N : Int) - 0).toNat : Nat) : Int) - 1 + (m : Int) * (-1) = (p : Int) := by omega
      simp only [e0]
      rw [show N - m = p + 1 by omega] at wm
      have pN : p < 2 ^ bs.length - 1 := by omega
      have wl := wm.len
      walk_at "rd"
      refine ⟨b, bs, p, rfl, ba.same s5, by omega, l1000, fun r6 H6 s6' nr6 h6 => ?_⟩
      have s6 := s5.trans s6'
      have hw6 := s6' _ _ h5
      have fl : (freeN bs p).length ≤ 12 := by
        unfold freeN
        have := List.length_filter_le (fun k => !p.testBit k && (bs.getD k []).all fun b => decide (p &&& b ≠ 0)) (List.range bs.length)
        rw [List.length_range] at this
        omega
      refine ⟨r6, rfl, ⟨_, SqL.of h6⟩, fun D nD => lc_it walk_list (Out H6 D fun i => nInt (ws.getD (p ||| 2 ^ (freeN bs p).getD i 0) 0)) (Out.start nD) (fun i H' _ o => SqL.of (o.1 _ _ h6)) ?_ ?_⟩
      · rintro i y2 Hx Hy hi o ⟨rfl, ey⟩
        have hi : i < (freeN bs p).length := by have : i < ((freeN bs p).map nInt).length := hi; rwa [List.length_map] at this
        rw [List.getElem?_map, List.getElem?_eq_getElem hi] at ey
        cases (Option.some.inj ey)
        obtain ⟨kk, ekk⟩ : ∃ kk, kk = (freeN bs p)[i] := ⟨_, rfl⟩
        have gk : (freeN bs p).getD i 0 = kk := by rw [List.getD_eq_getElem?_getD, List.getElem?_eq_getElem hi, ekk]; rfl
        rw [← ekk]
        have km : kk ∈ freeN bs p := by rw [ekk]; exact List.getElem_mem hi
        obtain ⟨f1, f2⟩ := freeN_mem km
        have ob := or_bit (n := bs.length) (p := p) (by omega) f1 f2
        walk_at "rd"
        refine ⟨rfl, ?_⟩
        walk_at "rd"
        refine ⟨1, (kk : Int), rfl, rfl, ⟨by omega, by omega, by decide⟩, ?_⟩
        walk_at "rd"
        rw [show (1 : Int) * 2 ^ (kk : Int).toNat = ((2 ^ kk : Nat) : Int) by rw [Int.toNat_natCast]; simp, bor_nat]
        refine r_ixL (SqL.of (o.1 _ _ hw6)) (atI_nat (j := p ||| 2 ^ kk) (by rw [List.getElem?_map, List.getElem?_eq_getElem (show p ||| 2 ^ kk < ws.length by omega)]; rfl)) ?_
        have e2 : nInt (ws[p ||| 2 ^ kk]'(by omega)) = nInt (ws.getD (p ||| 2 ^ kk) 0) := by
          rw [List.getD_eq_getElem?_getD, List.getElem?_eq_getElem (show p ||| 2 ^ kk < ws.length by omega)]; rfl
        rw [e2, ← gk]
        exact o.more nD (Same.refl _) (Nat.lt_of_lt_of_le (show i < 13 by omega) (by decide))
      · rintro H7 ⟨s7', hD⟩
        have s7 := s6.trans s7'
        have hw7 := s7' _ _ hw6
        have e : (List.range ((freeN bs p).map nInt).length).map (fun i => nInt (ws.getD (p ||| 2 ^ (freeN bs p).getD i 0) 0)) = (((freeN bs p).map fun k => ws.getD (p ||| 2 ^ k) 0).map fun (n : Nat) => (n : Int)).map V.int := by
          apply List.ext_getElem
          · simp
          · intro n h1 h2
            have hn : n < (freeN bs p).length := by simpa using h2
            simp [List.getD_eq_getElem?_getD, List.getElem?_eq_getElem hn, nInt]
        rw [e] at hD
        walk_at "rd"
        refine r_sum (SqL.of hD) ?_
        rw [sum_nat]
        walk_at "rd"
        refine r_setL hw7 (ixN_nat (j := p) (by rw [List.length_map]; omega)) ?_
        refine ⟨_, _, ws.set p ((freeN bs p).map fun k => ws.getD (p ||| 2 ^ k) 0).sum, rfl, Same.upOff s7 nwy0, ?_, ?_⟩
        · rw [upd_same, List.map_set]; rfl
        · rw [← ep]
          exact wm.step pN
    · rintro σ H5 ⟨v3, v4, ws, rfl, s5, h5, wm⟩
      walk_at "rd"
      have q0 : N - ((N : Int) - 0).toNat = 0 := by omega
      rw [q0] at wm
      exact k wy ws H5 s5 h5 ⟨wm.len, wm.last, fun p hp => wm.rec_ p (Nat.zero_le _) hp⟩
theorem sclCkC : FnScope ["table"] ["table"] (defScope slCkC) := ⟨rfl, rfl, rfl, by decide +kernel, rfl, by decide +kernel, by decide +kernel⟩
theorem ok_ckC {fT : Addr} {fdT : FuncData} (F : Fun K "check_countable" "check_countable" slCkC f fd) (T : Bt mg) {tk : Tok} (hM : mg "MOST_COUNTED" = some (.int 12 tk)) (A : TbC K C) (mT : Meth K C "__len__" fT) (oT : FnOk P w K mg base CX0 1 fT fdT ["self"] (spTLen C)) (bT : Binds K fdT ["self"] []) : FnOk P w K mg base CX0 3 f fd ["table"] (spCkC C) := by
  refine F.ok sclCkC (fun vs H Q E h => ?_) (fun cdv A' outer s H vs Q E hr h => ?_)
  · obtain ⟨x, G, R, rfl, _⟩ := h
    rfl
  · obtain ⟨x, G, R, rfl, t, sG, l12, k⟩ := h
    have hr2 := hr.mono (show 2 ≤ 2 by decide)
    refine ⟨_, (pss_one (ps_if (pt_cmpR op_gt (pe_callB (call_lenOwn (D := E0) ⟨fT, fdT, _, mT, oT, bT⟩ hr2 pass0) (by rfl) T.len PySem.boot_len (pa_cons (pv 0) pa_nil)) (pe_glob (v := .int 12) (by rfl) hM ⟨tk, rfl⟩) (nomark _)) pss_never pss_nil)), ?_⟩
    obtain ⟨_, dx, _, _, _, ho, _, _⟩ := id t
    walk_at "rd"
    refine r_ownLen (sG _ _ ho) ⟨x, G, R, rfl, t, sG, _, rfl, by omega, ?_⟩
    walk_at "rd"
    refine ifF (decide_eq_false (by omega)) ?_
    walk_at "rd"
    exact k
theorem sclCount : FnScope ["table", "kind"] ["table", "kind"] (defScope slCount) := ⟨rfl, rfl, rfl, by decide +kernel, rfl, by decide +kernel, by decide +kernel⟩
theorem ok_count (F : FunD K "count" "count" (defArgs slCount) (defBody slCount) (defScope slCount) [] [("kind", .str "even")] f fd) (DK : Df P w K mg base CX0 "check_kind" 2 ["kind"] spChKG) (DC : Df P w K mg base CX0 "check_countable" 3 ["table"] (spCkC C)) (DB : Df P w K mg base CX0 "bars_of" 4 ["table", "kind"] (spBarsOf C)) (DW : Df P w K mg base CX0 "ways_after" 2 ["bars"] spWaysA) :
    FnOk P w K mg base CX0 5 f fd ["table", "kind"] (spCount C) := by
  refine F.ok sclCount (fun vs H Q E h => ?_) (fun cdv A' outer s H vs Q E hr h => ?_)
  · obtain ⟨p, x, G, R, kd, rfl, _⟩ := h
    rfl
  · obtain ⟨p, x, G, R, kd, rfl, t, sG, off, hp, hk, l12, k⟩ := h
    refine ⟨_, (pss_cons (ps_expr (pe_df DK hr (by decide) (pa_cons (pv 1) pa_nil)))
  (pss_cons (ps_expr (pe_df DC hr (by decide) (pa_cons (pv 0) pa_nil)))
  (pss_one (ps_ret (pe_ix ix_list (pe_df DW hr (by decide) (pa_cons (pe_df DB hr (by decide) (pa_cons (pv 0) (pa_cons (pv 1) pa_nil))) pa_nil)) pe_int (fun _ _ => rfl)))))), ?_⟩
    have g := t.g
    have bl : (barsL R kd).length = (cells R).length := by unfold barsL; rw [List.length_map]
    walk_at "rd"
    refine ⟨kd, rfl, hk, ?_⟩
    walk_at "rd"
    refine ⟨x, G, R, rfl, t, sG, l12, ?_⟩
    walk_at "rd"
    refine ⟨p, x, G, R, kd, rfl, t, sG, off, hp, fun r H1 s1 ba => ?_⟩
    walk_at "rd"
    refine ⟨r, _, rfl, ba, by omega, fun l hl => ?_, fun wy ws H2 s2 h2 W => ?_⟩
    · unfold barsL at hl
      obtain ⟨z, _, rfl⟩ := List.mem_map.mp hl
      rw [List.length_map]
      exact needs_len g
    · have wl := W.len
      have ppos : 0 < 2 ^ (barsL R kd).length := Nat.pow_pos (by decide)
      have c0 := ways_cnt W (cells R).length [] List.nodup_nil (fun z h => by cases h) (Nat.zero_add _)
      rw [mask_nil] at c0
      walk_at "rd"
      refine r_ixL (SqL.of h2) (atI_nat (j := 0) (by rw [List.getElem?_map, List.getElem?_eq_getElem (show 0 < ws.length by omega)]; rfl)) ?_
      have e2 : nInt (ws[0]'(by omega)) = nInt (cntR R kd (cells R).length []) := by
        rw [← c0, List.getD_eq_getElem?_getD, List.getElem?_eq_getElem (show 0 < ws.length by omega)]; rfl
      rw [e2]
      exact k H2 (s1.trans s2)
end
end Pk
set_option Elab.async false
set_option linter.all false
set_option maxRecDepth 100000
set_option maxHeartbeats 4000000
namespace Pk
open PySem L2
local macro_rules | `(tactic| walk_at "rd") => `(tactic| repeat (first
  | with_reducible refine r_seq ?_ | with_reducible refine r_nxt ?_ | with_reducible refine r_asg ?_ | with_reducible refine r_to ?_ | with_reducible refine r_ret ?_ | with_reducible refine r_for ?_ | with_reducible refine r_lc ?_ | with_reducible refine r_lc2 ?_ | with_reducible refine r_rng1 ?_ | with_reducible refine r_list ?_ | with_reducible refine r_tupI ?_ | with_reducible refine r_drop ?_ | with_reducible refine r_ifs ?_
  | with_reducible refine r_op ?_ | with_reducible refine r_c ?_ | with_reducible refine r_var rfl ?_ | with_reducible refine r_var (by assumption) ?_ | with_reducible refine r_I0 ?_ | with_reducible refine r_un ?_ | with_reducible refine r_U ?_ | with_reducible refine r_make ?_ | with_reducible refine r_makeS ?_ | with_reducible refine r_ifE ?_ | with_reducible refine r_cm ?_ | with_reducible refine r_mkV rfl ?_ | with_reducible refine r_sub ?_
  | with_reducible refine r_nil ?_ | with_reducible refine r_cons ?_ | with_reducible refine r_cb ?_ | with_reducible refine r_sl ?_ | with_reducible refine r_noP ?_ | with_reducible refine r_part ?_ | with_reducible refine r_isI ?_ | with_reducible refine r_lst ?_ | with_reducible refine r_tup ?_ | with_reducible refine r_call ?_ | with_reducible refine r_callS ?_ | with_reducible refine r_sFldU ?_ | with_reducible refine r_chain ?_ | with_reducible refine r_enum ?_ | with_reducible refine r_zip ?_ | with_reducible refine r_rng3 ?_ | with_reducible refine r_gtup ?_ | with_reducible refine r_methU ?_
  | with_reducible refine r_test ?_ | with_reducible refine r_B ?_ | with_reducible refine r_and ?_ | with_reducible refine r_or ?_ | with_reducible refine r_not ?_ | with_reducible refine r_andV ?_ | with_reducible refine r_orV ?_ | with_reducible refine r_notV ?_ | with_reducible refine r_bl ?_ | with_reducible refine r_yes ?_ | with_reducible refine r_int ?_ | with_reducible refine r_is0 ?_ | with_reducible refine r_is1 ?_ | with_reducible refine iteT ?_ | with_reducible refine iteF ?_ | with_reducible refine ite_nF ?_ | with_reducible refine ite_nT ?_
  | with_reducible refine r_mod (by decide) ?_ | with_reducible refine r_div (by decide) (by decide) ?_ | with_reducible refine r_mulR (by decide) (by decide) ?_ | with_reducible refine r_mulL (by decide) (by decide) ?_ | with_reducible refine r_pow (by decide) (by decide) (by decide) ?_))
section
variable {P : Program} {w : World} {K : PySem.W.Frag} {mg : Str → Option Value} {base : Heap} {C CO f aK : Addr} {fd : FuncData}
theorem sclEarl : FnScope ["table", "order", "kind", "found"] ["table", "order", "kind"] (defScope slEarl) := ⟨rfl, rfl, rfl, by decide +kernel, rfl, by decide +kernel, by decide +kernel⟩
theorem ok_earl (F : Fun K "earliest" "earliest" slEarl f fd) (DA : Df P w K mg base CX0 "all_faults" 4 ["table", "order", "kind"] (spAllF C CO)) : FnOk P w K mg base CX0 5 f fd ["table", "order", "kind"] (spEarl C CO) := by
  refine F.ok sclEarl (fun vs H Q E h => ?_) (fun cdv A' outer s H vs Q E hr h => ?_)
  · obtain ⟨p, x, a, G, R, zs, k, rfl, _⟩ := h
    rfl
  · obtain ⟨p, x, a, G, R, zs, kd, rfl, L, k⟩ := h
    refine ⟨_, (pss_cons (ps_set (i := 3) sclEarl.nd rfl (Or.inl rfl) (pe_df DA hr (by decide) (pa_cons (pv 0) (pa_cons (pv 1) (pa_cons (pv 2) pa_nil)))))
  (pss_one (ps_ret (pe_ifExp (pt_truth (pv 3) (fun _ => rfl)) (pe_ix ix_list (pv 3) pe_int (fun _ _ => rfl)) pe_non)))), ?_⟩
    walk_at "rd"
    refine ⟨p, x, a, G, R, zs, kd, rfl, L, fun r us H1 s1 _ h1 l1 f1 => ?_⟩
    walk_at "rd"
    refine ⟨!us.isEmpty, .inl ⟨us, SqL.of h1, rfl⟩, ?_⟩
    cases e : allF R zs kd zs.length with
    | nil =>
      rw [e] at f1
      cases f1
      refine ifF rfl ?_
      walk_at "rd"
      exact k _ _ s1 (fun _ => rfl) fun f fs e2 => by rw [e] at e2; cases e2
    | cons f0 fs0 =>
      rw [e] at f1
      cases f1 with
      | cons h8 r8 =>
        refine ifT rfl ?_
        walk_at "rd"
        refine r_ixL (SqL.of h1) (atI_nat (j := 0) rfl) ?_
        exact k _ _ s1 (fun e2 => by rw [e] at e2; cases e2) fun f fs e2 => by
          rw [e] at e2
          cases e2
          exact h8
theorem sclChO : FnScope ["table", "order", "pair"] ["table", "order"] (defScope slChO) := ⟨rfl, rfl, rfl, by decide +kernel, rfl, by decide +kernel, by decide +kernel⟩
theorem ok_chO {fL fh fT fQ : Addr} {fdL fdh fdT fdQ : FuncData} (F : Fun K "check_order" "check_order" slChO f fd) (T : Bt mg) (tall : mg "all" = none) (A : TbC K C) (O : OwnC K CO) (gO : mg "Order" = some (.ref CO))
    (mL : Meth K CO "__len__" fL) (oL : FnOk P w K mg base CX0 1 fL fdL ["self"] (spLenO CO)) (bL : Binds K fdL ["self"] [])
    (mH : Meth K CO "__contains__" fh) (oH : FnOk P w K mg base CX0 3 fh fdh ["self", "x"] (spHasO CO)) (bH : Binds K fdh ["self", "x"] [])
    (mT : Meth K C "__len__" fT) (oT : FnOk P w K mg base CX0 1 fT fdT ["self"] (spTLen C)) (bT : Binds K fdT ["self"] [])
    (mQ : Meth K C "pairs" fQ) (oQ : FnOk P w K mg base CX0 1 fQ fdQ ["self"] (spTPrs C)) (bQ : Binds K fdQ ["self"] []) :
    FnOk P w K mg base CX0 4 f fd ["table", "order"] (spChO C CO) := by
  refine F.ok sclChO (fun vs H Q E h => ?_) (fun cdv A' outer s H vs Q E hr h => ?_)
  · obtain ⟨p, x, a, G, R, zs, rfl, _⟩ := h
    rfl
  · obtain ⟨p, x, a, G, R, zs, rfl, L, k⟩ := h
    have hr1 := hr.mono (show 1 ≤ 3 by decide)
    have hr2 := hr.mono (show 2 ≤ 3 by decide)
    have hr3 := hr.mono (show 3 ≤ 3 by decide)
    obtain ⟨g, dx, e0, u0, es, ho, hl, hpl⟩ := id L.t
    obtain ⟨adx, q0, X⟩ := id L.o
    have c64 := cells_len g
    have zl := L.pm.length_eq
    refine ⟨_, (pss_cons (ps_if (PW.pt (pw_or (pt_not (pt_val (pe_callB call_isi (by rfl) T.isinstance (by decide +kernel) (pa_cons (pv 1) (pa_cons (pe_glob (v := .ref CO) (by rfl) gO rfl) pa_nil))))) (pw_or1 (pt_cmpR op_ne (pe_callB (call_lenOwn (D := E0) ⟨fL, fdL, _, mL, oL, bL⟩ hr2 pass0) (by rfl) T.len PySem.boot_len (pa_cons (pv 1) pa_nil)) (pe_callB (call_lenOwn (D := E0) ⟨fT, fdT, _, mT, oT, bT⟩ hr2 pass0) (by rfl) T.len PySem.boot_len (pa_cons (pv 0) pa_nil)) (nomark _))))) pss_never pss_nil)
  (pss_one (ps_if (pt_not (pt_val (pe_callB (cr_all rfl) (by rfl) tall (by decide +kernel) (pa_cons (pe_lc (own := [("pair", 2)]) (g := gName 2) rfl sclChO.nd (pi_list (pe_meth0 (pv 0) A.O.cl mQ oQ hr1 bQ .nil pass0)) (blkOk_by (own := [("pair", 2)]) (N := ["table", "order", "pair"]) (sc := defScope slChO) (by decide +kernel)) (fun _ _ _ _ _ => pg_name (i := 2) sclChO.nd rfl (Or.inl rfl)) (fun _ _ _ _ _ => pts_nil) (te := tOp2 (rOwnIn CO (spHasO CO) false) (fun _ => E0) (tVar 2) (tVar 1)) (fun _ _ _ _ _ => (pe_inOwn (E := fun _ => E0) ⟨fh, fdh, _, mH, oH, bH⟩ hr3 (passN pass0) (pv 2) (pv 1) (by rfl)))) pa_nil)))) pss_never pss_nil))), ?_⟩
    walk_at "rd"
    refine r_isiSelf O X.o ?_
    walk_at "rd"
    refine r_ownLen X.o ⟨p, a, adx, q0, zs, rfl, X, _, rfl, by omega, ?_⟩
    walk_at "rd"
    refine r_ownLen (L.s _ _ ho) ⟨x, G, R, rfl, L.t, L.s, _, rfl, by omega, ?_⟩
    walk_at "rd"
    refine r_ne rfl ?_
    walk_at "rd"
    refine ifF (by rw [zl, decide_eq_true rfl]; rfl) ?_
    walk_at "rd"
    refine ⟨x, dx, _, rfl, L.s _ _ ho, two_no (by decide +kernel) (by decide +kernel), ?_⟩
    walk_at "rd"
    refine ⟨x, G, R, rfl, L.t, L.s, fun r2 vs2 nr2 hv2 => ?_⟩
    have s2 := Same.up (o := .lst vs2) (Same.refl H) nr2
    have hr2' : upd H r2 (.lst vs2) r2 = some (.lst vs2) := upd_same
    obtain ⟨H2, eH2⟩ : ∃ H2, H2 = upd H r2 (.lst vs2) := ⟨_, rfl⟩
    rw [← eH2] at s2 hr2' ⊢
    have vl := hv2.length
    refine ⟨r2, rfl, ⟨_, SqL.of hr2'⟩, fun D nD => lc_it walk_list (Out H2 D fun _ => V.bl true) (Out.start nD) (fun i H1 _ o => SqL.of (o.1 _ _ hr2')) ?_ ?_⟩
    · rintro i y H1 H3 hi o ⟨rfl, e1⟩
      obtain ⟨z, ez, pz⟩ := hv2.at e1
      have X3 := X.same (s2.trans o.1)
      have zm : z ∈ zs := L.pm.mem_iff.mpr (List.mem_of_getElem? ez)
      walk_at "rd"
      refine ⟨rfl, ?_⟩
      walk_at "rd"
      refine r_op2 ?_
      walk_at "rd"
      refine r_ownIn X3.o ⟨p, x, a, adx, q0, zs, y, z, rfl, X3, pz.keep (Keep.same (L.s.trans (s2.trans o.1))), _, rfl, ?_⟩
      rw [decide_eq_true zm]
      exact o.more nD (Same.refl _) (Nat.lt_of_lt_of_le (show i < 65 by omega) (by decide))
    · rintro H1 ⟨s1, hD⟩
      walk_at "rd"
      refine ⟨D, List.replicate vs2.length true, rfl, SqL.of (hD.trans ?_), ?_⟩
      · rw [List.map_const', List.map_replicate, List.length_range]
      · rw [show (List.replicate vs2.length true).all id = true by simp]
        walk_at "rd"
        exact k H1 (s2.trans s1)
end
end Pk
set_option Elab.async false
set_option linter.all false
set_option maxRecDepth 100000
set_option maxHeartbeats 4000000
namespace Pk
open PySem L2
local macro_rules | `(tactic| walk_at "rd") => `(tactic| repeat (first
  | with_reducible refine r_seq ?_ | with_reducible refine r_nxt ?_ | with_reducible refine r_asg ?_ | with_reducible refine r_to ?_ | with_reducible refine r_ret ?_ | with_reducible refine r_for ?_ | with_reducible refine r_lc ?_ | with_reducible refine r_lc2 ?_ | with_reducible refine r_rng1 ?_ | with_reducible refine r_list ?_ | with_reducible refine r_tupI ?_ | with_reducible refine r_drop ?_ | with_reducible refine r_ifs ?_
  | with_reducible refine r_op ?_ | with_reducible refine r_c ?_ | with_reducible refine r_var rfl ?_ | with_reducible refine r_var (by assumption) ?_ | with_reducible refine r_I0 ?_ | with_reducible refine r_un ?_ | with_reducible refine r_U ?_ | with_reducible refine r_make ?_ | with_reducible refine r_makeS ?_ | with_reducible refine r_ifE ?_ | with_reducible refine r_cm ?_ | with_reducible refine r_mkV rfl ?_ | with_reducible refine r_sub ?_
  | with_reducible refine r_nil ?_ | with_reducible refine r_cons ?_ | with_reducible refine r_cb ?_ | with_reducible refine r_sl ?_ | with_reducible refine r_noP ?_ | with_reducible refine r_part ?_ | with_reducible refine r_isI ?_ | with_reducible refine r_lst ?_ | with_reducible refine r_tup ?_ | with_reducible refine r_call ?_ | with_reducible refine r_callS ?_ | with_reducible refine r_sFldU ?_ | with_reducible refine r_chain ?_ | with_reducible refine r_enum ?_ | with_reducible refine r_zip ?_ | with_reducible refine r_rng3 ?_ | with_reducible refine r_gtup ?_ | with_reducible refine r_methU ?_
  | with_reducible refine r_test ?_ | with_reducible refine r_B ?_ | with_reducible refine r_and ?_ | with_reducible refine r_or ?_ | with_reducible refine r_not ?_ | with_reducible refine r_andV ?_ | with_reducible refine r_orV ?_ | with_reducible refine r_notV ?_ | with_reducible refine r_bl ?_ | with_reducible refine r_yes ?_ | with_reducible refine r_int ?_ | with_reducible refine r_is0 ?_ | with_reducible refine r_is1 ?_ | with_reducible refine iteT ?_ | with_reducible refine iteF ?_ | with_reducible refine ite_nF ?_ | with_reducible refine ite_nT ?_
  | with_reducible refine r_mod (by decide) ?_ | with_reducible refine r_div (by decide) (by decide) ?_ | with_reducible refine r_mulR (by decide) (by decide) ?_ | with_reducible refine r_mulL (by decide) (by decide) ?_ | with_reducible refine r_pow (by decide) (by decide) (by decide) ?_))
/-! ### what is refused -/
/-- an order beside a table, right or wrong -/
structure OrW (p C CO : Addr) (H : Hp) (x a : Addr) (G : Hp) (R : Rw) (zs : List Pr) : Prop where
  t : TbX C G x R
  s : Same G H
  off : G p = none
  pp : ∃ o, H p = some o
  o : ∃ dx q, OrX p CO H a dx q zs
  l64 : zs.length ≤ 64
theorem OrW.same {p C CO : Addr} {H H' : Hp} {x a : Addr} {G : Hp} {R : Rw} {zs : List Pr} (h : OrW p C CO H x a G R zs) (s : Same H H') : OrW p C CO H' x a G R zs :=
  ⟨h.t, h.s.trans s, h.off, by obtain ⟨o, ho⟩ := h.pp; exact ⟨o, s _ _ ho⟩, by obtain ⟨dx, q, X⟩ := h.o; exact ⟨dx, q, X.same s⟩, h.l64⟩
theorem OrG.w {p C CO : Addr} {H : Hp} {x a : Addr} {G : Hp} {R : Rw} {zs : List Pr} (h : OrG p C CO H x a G R zs) : OrW p C CO H x a G R zs := ⟨h.t, h.s, h.off, h.pp, h.o, by rw [h.pm.length_eq]; exact cells_len h.t.g⟩
def BadO (R : Rw) (zs : List Pr) : Prop := zs.length ≠ (cells R).length ∨ ∃ z, z ∈ cells R ∧ z ∉ zs
def BadK (d : PyData) : Prop := d = .str "Even" ∨ d = .str "" ∨ kitB (kindOf d) "str" = some false
def spIsKX (K : PySem.W.Frag) : Sp := fun vs H Q _ => ∃ (v : V) (d : PyData), vs = [v] ∧ Dp K H v d ∧ BadK d ∧ Q (.bl false) H
def spChKX (K : PySem.W.Frag) (CB : Addr) : Sp := fun vs H Q E => ∃ v : V, vs = [v] ∧ ((∃ z : Str, v = .str z ∧ KD z ∧ Q .non H) ∨
  (∃ d, Dp K H v d ∧ BadK d ∧ ∀ (dd : Addr) (H' : Hp), Same H H' → H dd = none → H' dd = some (.xd [("name", .str "kind")]) → E (.ref CB) (some dd) H'))
def spChOX (C CO CEO : Addr) : Sp := fun vs H Q E => ∃ (p x a : Addr) (G : Hp) (R : Rw) (zs : List Pr), vs = [.ref x, .ref a] ∧ OrW p C CO H x a G R zs ∧ ((zs.Perm (cells R) ∧ ∀ H' : Hp, Same H H' → Q .non H') ∨
  (BadO R zs ∧ ∀ (dd : Addr) (H' : Hp), Same H H' → H dd = none → H' dd = some (.xd [("at", .int (-1))]) → E (.ref CEO) (some dd) H'))
section
variable {P : Program} {w : World} {K : PySem.W.Frag} {mg : Str → Option Value} {base : Heap} {C CO CEO CB f aK : Addr} {fd : FuncData}
theorem ok_isKX (F : Fun K "is_kind" "is_kind" slIsKind f fd) (T : Bt mg) (kin : mg "KINDS" = some (.ref aK)) (tup : ∀ H, SqT K H aK kinds) : FnOk P w K mg base CX0 1 f fd ["value"] (spIsKX K) := by
  refine F.ok sclIsKind (fun vs H Q E h => ?_) (fun cdv A outer s H vs Q E hr h => ?_)
  · obtain ⟨v, d, rfl, _⟩ := h
    rfl
  · obtain ⟨v, d, rfl, hd, bd, k⟩ := h
    refine ⟨_, (pss_one (ps_ret (pe_and (pe_callB call_isi (by rfl) T.isinstance (by decide +kernel) (pa_cons (pv 0) (pa_cons (pe_bltn (v := .ty "str") (by rfl) T.str (by decide +kernel) rfl) pa_nil))) (pe_one (pe_cmpR op_in_seq (pv 0) (pe_glob (v := .ref aK) (by rfl) kin rfl) (by rfl)))))), ?_⟩
    walk_at "rd"
    rcases bd with rfl | rfl | e
    · cases hd
      refine r_isi (.base (.str _)) (by decide +kernel : kitB "str" "str" = some true) ?_
      walk_at "rd"
      exact ⟨aK, kinds, rfl, .inr (tup _), rfl, rfl, k⟩
    · cases hd
      refine r_isi (.base (.str _)) (by decide +kernel : kitB "str" "str" = some true) ?_
      walk_at "rd"
      exact ⟨aK, kinds, rfl, .inr (tup _), rfl, rfl, k⟩
    · refine r_isi (Dp.kind hd) e ?_
      walk_at "rd"
      exact k
theorem ok_chKX (F : Fun K "check_kind" "check_kind" slChKind f fd) (DK : Df P w K mg base CX0 "is_kind" 1 ["value"] (spOr spIsKG (spIsKX K))) (EB : De P w K mg base "InvalidBound" 3 (spErr1 K 1 CB "name") CB) : FnOk P w K mg base (L2.CX P w) 5 f fd ["kind"] (spChKX K CB) := by
  refine F.okX sclChKind (fun vs H Q E h => ?_) (fun cdv A outer s H vs Q E hr h => ?_)
  · obtain ⟨v, rfl, _⟩ := h
    rfl
  · obtain ⟨v, rfl, h⟩ := h
    refine ⟨_, (pss_one (ps_if (pt_not (pt_val (pe_df DK hr (by decide) (pa_cons (pv 0) pa_nil)))) (pss_one (ps_rse rfl (takes_of rfl rfl rfl rfl) EB hr (by decide) (pa_cons pe_str pa_nil))) pss_nil)), ?_⟩
    walk_at "rd"
    rcases h with ⟨z, rfl, kd, k⟩ | ⟨d, hd, bd, k⟩
    · refine .inl ⟨z, rfl, kd, ?_⟩
      walk_at "rd"
      exact k
    · refine .inr ⟨v, d, rfl, hd, bd, ?_⟩
      walk_at "rd"
      refine r_mkErr ?_
      walk_at "rd"
      refine r_err1 (σ := []) (.str _) (.str _) fun dd v' H' s1 h1 h2 o1 => ?_
      cases o1
      exact k dd H' s1 h1 h2
theorem ok_chOX {fL fh fT fQ : Addr} {fdL fdh fdT fdQ : FuncData} (F : Fun K "check_order" "check_order" slChO f fd) (T : Bt mg) (tall : mg "all" = none) (A : TbC K C) (O : OwnC K CO) (gO : mg "Order" = some (.ref CO))
    (mL : Meth K CO "__len__" fL) (oL : FnOk P w K mg base CX0 1 fL fdL ["self"] (spLenO CO)) (bL : Binds K fdL ["self"] [])
    (mH : Meth K CO "__contains__" fh) (oH : FnOk P w K mg base CX0 3 fh fdh ["self", "x"] (spHasO CO)) (bH : Binds K fdh ["self", "x"] [])
    (mT : Meth K C "__len__" fT) (oT : FnOk P w K mg base CX0 1 fT fdT ["self"] (spTLen C)) (bT : Binds K fdT ["self"] [])
    (mQ : Meth K C "pairs" fQ) (oQ : FnOk P w K mg base CX0 1 fQ fdQ ["self"] (spTPrs C)) (bQ : Binds K fdQ ["self"] []) (EO : De P w K mg base "InvalidOrder" 3 (spErr1 K 1 CEO "at") CEO) :
    FnOk P w K mg base (L2.CX P w) 6 f fd ["table", "order"] (spChOX C CO CEO) := by
  refine F.okX sclChO (fun vs H Q E h => ?_) (fun cdv A' outer s H vs Q E hr h => ?_)
  · obtain ⟨p, x, a, G, R, zs, rfl, _⟩ := h
    rfl
  · obtain ⟨p, x, a, G, R, zs, rfl, L, k⟩ := h
    have hr1 := hr.mono (show 1 ≤ 5 by decide)
    have hr2 := hr.mono (show 2 ≤ 5 by decide)
    have hr3 := hr.mono (show 3 ≤ 5 by decide)
    obtain ⟨g, dx, e0, u0, es, ho, hl, hpl⟩ := id L.t
    obtain ⟨adx, q0, X⟩ := id L.o
    have c64 := cells_len g
    refine ⟨_, (pss_cons (ps_if (PW.pt (pw_or (pt_not (pt_val (pe_callB call_isi (by rfl) T.isinstance (by decide +kernel) (pa_cons (pv 1) (pa_cons (pe_glob (v := .ref CO) (by rfl) gO rfl) pa_nil))))) (pw_or1 (pt_cmpR op_ne (pe_callB (call_lenOwn (D := E0) ⟨fL, fdL, _, mL, oL, bL⟩ hr2 pass0) (by rfl) T.len PySem.boot_len (pa_cons (pv 1) pa_nil)) (pe_callB (call_lenOwn (D := E0) ⟨fT, fdT, _, mT, oT, bT⟩ hr2 pass0) (by rfl) T.len PySem.boot_len (pa_cons (pv 0) pa_nil)) (nomark _))))) (pss_one (ps_rse rfl (takes_of rfl rfl rfl rfl) EO hr (by decide) (pa_cons (pe_un un_neg pe_int) pa_nil))) pss_nil)
  (pss_one (ps_if (pt_not (pt_val (pe_callB (cr_all rfl) (by rfl) tall (by decide +kernel) (pa_cons (pe_lc (own := [("pair", 2)]) (g := gName 2) rfl sclChO.nd (pi_list (pe_meth0 (pv 0) A.O.cl mQ oQ hr1 bQ .nil pass0)) (blkOk_by (own := [("pair", 2)]) (N := ["table", "order", "pair"]) (sc := defScope slChO) (by decide +kernel)) (fun _ _ _ _ _ => pg_name (i := 2) sclChO.nd rfl (Or.inl rfl)) (fun _ _ _ _ _ => pts_nil) (te := tOp2 (rOwnIn CO (spHasO CO) false) (fun _ => E0) (tVar 2) (tVar 1)) (fun _ _ _ _ _ => (pe_inOwn (E := fun _ => E0) ⟨fh, fdh, _, mH, oH, bH⟩ hr3 (passN pass0) (pv 2) (pv 1) (by rfl)))) pa_nil)))) (pss_one (ps_rse rfl (takes_of rfl rfl rfl rfl) EO hr (by decide) (pa_cons (pe_un un_neg pe_int) pa_nil))) pss_nil))), ?_⟩
    walk_at "rd"
    refine r_isiSelf O X.o ?_
    walk_at "rd"
    refine r_ownLen X.o ⟨p, a, adx, q0, zs, rfl, X, _, rfl, by have := L.l64; omega, ?_⟩
    walk_at "rd"
    refine r_ownLen (L.s _ _ ho) ⟨x, G, R, rfl, L.t, L.s, _, rfl, by omega, ?_⟩
    walk_at "rd"
    refine r_ne rfl ?_
    walk_at "rd"
    by_cases le : zs.length = (cells R).length
    · refine ifF (by rw [le, decide_eq_true rfl]; rfl) ?_
      walk_at "rd"
      refine ⟨x, dx, _, rfl, L.s _ _ ho, two_no (by decide +kernel) (by decide +kernel), ?_⟩
      walk_at "rd"
      refine ⟨x, G, R, rfl, L.t, L.s, fun r2 vs2 nr2 hv2 => ?_⟩
      have s2 := Same.up (o := .lst vs2) (Same.refl H) nr2
      have hr2' : upd H r2 (.lst vs2) r2 = some (.lst vs2) := upd_same
      obtain ⟨H2, eH2⟩ : ∃ H2, H2 = upd H r2 (.lst vs2) := ⟨_, rfl⟩
      rw [← eH2] at s2 hr2' ⊢
      have vl := hv2.length
      refine ⟨r2, rfl, ⟨_, SqL.of hr2'⟩, fun D nD => lc_it walk_list (Out H2 D fun i => V.bl (decide ((cells R).getD i (0, 0) ∈ zs))) (Out.start nD) (fun i H1 _ o => SqL.of (o.1 _ _ hr2')) ?_ ?_⟩
      · rintro i y H1 H3 hi o ⟨rfl, e1⟩
        obtain ⟨z, ez, pz⟩ := hv2.at e1
        have X3 := X.same (s2.trans o.1)
        walk_at "rd"
        refine ⟨rfl, ?_⟩
        walk_at "rd"
        refine r_op2 ?_
        walk_at "rd"
        refine r_ownIn X3.o ⟨p, x, a, adx, q0, zs, y, z, rfl, X3, pz.keep (Keep.same (L.s.trans (s2.trans o.1))), _, rfl, ?_⟩
        have e2 : V.bl (decide (z ∈ zs)) = (fun i => V.bl (decide ((cells R).getD i (0, 0) ∈ zs))) i := by
          show _ = V.bl (decide ((cells R).getD i (0, 0) ∈ zs))
          rw [List.getD_eq_getElem?_getD, ez]
          rfl
        rw [e2]
        exact o.more nD (Same.refl _) (Nat.lt_of_lt_of_le (show i < 65 by omega) (by decide))
      · rintro H1 ⟨s1, hD⟩
        have s12 := s2.trans s1
        walk_at "rd"
        refine ⟨D, (cells R).map fun z => decide (z ∈ zs), rfl, SqL.of (hD.trans ?_), ?_⟩
        · congr 2
          apply List.ext_getElem
          · simp [vl]
          · intro n h1 h2
            have hn : n < (cells R).length := by simpa using h2
            simp [List.getElem?_eq_getElem hn]
        · walk_at "rd"
          rcases k with ⟨pm, k⟩ | ⟨bad, k⟩
          · refine ifF ?_ ?_
            · have : ((cells R).map fun z => decide (z ∈ zs)).all id = true := by
                rw [List.all_map, List.all_eq_true]
                intro z hz
                exact decide_eq_true (pm.mem_iff.mpr hz)
              rw [this]; rfl
            · walk_at "rd"
              exact k H1 s12
          · refine ifT ?_ ?_
            · have : ((cells R).map fun z => decide (z ∈ zs)).all id = false := by
                rcases bad with b | ⟨z, hz, nz⟩
                · exact absurd le b
                · rw [List.all_map, List.all_eq_false]
                  exact ⟨z, hz, by show ¬ (decide (z ∈ zs)) = true; rw [decide_eq_false nz]; decide⟩
              rw [this]; rfl
            · walk_at "rd"
              refine r_mkErr ?_
              walk_at "rd"
              refine r_err1 (σ := []) (.int _) (.int _) fun dd v' H' s3 h1 h2 o1 => ?_
              cases o1
              exact k dd H' (s12.trans s3) (s12.free h1) h2
    · refine ifT (by rw [decide_eq_false (fun z => le (by have := V.int.inj z; omega))]; rfl) ?_
      rcases k with ⟨pm, k⟩ | ⟨bad, k⟩
      · exact absurd pm.length_eq le
      · walk_at "rd"
        refine r_mkErr ?_
        walk_at "rd"
        refine r_err1 (σ := []) (.int _) (.int _) fun dd v' H' s3 h1 h2 o1 => ?_
        cases o1
        exact k dd H' s3 h1 h2
end
/-! ### both orders right, or which error -/
def faD (f : Pr × Str × Pr) : PyData := .tuple [.str f.2.1, prD f.1, prD f.2.2]
theorem deep_fa (f : Pr × Str × Pr) : Deep 2 (faD f) := by
  have pr : ∀ z : Pr, Deep 1 (prD z) := fun z => .tup (fun d hd => by
    simp only [List.mem_cons, List.not_mem_nil, or_false] at hd
    rcases hd with rfl | rfl
    · exact .int _
    · exact .int _) (by show 2 ≤ 1000; decide)
  refine .tup (fun d hd => ?_) (by show 3 ≤ 1000; decide)
  simp only [List.mem_cons, List.not_mem_nil, or_false] at hd
  rcases hd with rfl | rfl | rfl
  · exact .str _
  · exact pr _
  · exact pr _
theorem FaAt.dp {K : PySem.W.Frag} {p : Addr} {H : Hp} {u : V} {f : Pr × Str × Pr} (h : FaAt p H u f) : Dp K H u (faD f) := by
  obtain ⟨t, v, c, rfl, ht, hv, hc⟩ := h
  exact .tup (SqT.of ht) (.cons (.str _) (.cons hv.dp (.cons hc.dp .nil)))
def RaisesI (H : Hp) (E : XK) (C : Addr) (f : Str) (v : V) : Prop := ∀ (dd : Addr) (H' : Hp), Same H H' → H dd = none → H' dd = some (.xd [(f, v)]) → E (.ref C) (some dd) H'
def RaisesF (K : PySem.W.Frag) (H : Hp) (E : XK) (C : Addr) (f : Pr × Str × Pr) : Prop := ∀ (dd : Addr) (v' : V) (H' : Hp), Same H H' → H dd = none → H' dd = some (.xd [("fault", v')]) → Dp K H' v' (faD f) → E (.ref C) (some dd) H'
theorem RaisesI.later {H H1 : Hp} {E : XK} {C : Addr} {f : Str} {v : V} (r : RaisesI H E C f v) (s : Same H H1) : RaisesI H1 E C f v := fun dd H' s2 n e => r dd H' (s.trans s2) (s.free n) e
theorem RaisesF.later {K : PySem.W.Frag} {H H1 : Hp} {E : XK} {C : Addr} {f : Pr × Str × Pr} (r : RaisesF K H E C f) (s : Same H H1) : RaisesF K H1 E C f := fun dd v' H' s2 n e d => r dd v' H' (s.trans s2) (s.free n) e d
def spCkRX (K : PySem.W.Frag) (C CO CN : Addr) : Sp := fun vs H Q E => ∃ (p x a : Addr) (G : Hp) (R : Rw) (zs : List Pr) (k : Str), vs = [.ref x, .ref a, .str k] ∧ OrG p C CO H x a G R zs ∧ ((allF R zs k zs.length = [] ∧ ∀ H' : Hp, Same H H' → Q .non H') ∨ (∃ f fs, allF R zs k zs.length = f :: fs ∧ RaisesF K H E CN f))
theorem OrW.g {p C CO : Addr} {H : Hp} {x a : Addr} {G : Hp} {R : Rw} {zs : List Pr} (h : OrW p C CO H x a G R zs) (pm : zs.Perm (cells R)) : OrG p C CO H x a G R zs := ⟨h.t, h.s, h.off, h.pp, h.o, pm⟩
abbrev slCkR : Stmt := top 38
section
variable {P : Program} {w : World} {K : PySem.W.Frag} {mg : Str → Option Value} {base : Heap} {C CO CEO CB CN f : Addr} {fd : FuncData}
theorem sclCkR : FnScope ["table", "order", "kind", "fault"] ["table", "order", "kind"] (defScope slCkR) := ⟨rfl, rfl, rfl, by decide +kernel, rfl, by decide +kernel, by decide +kernel⟩
theorem ok_ckRX (F : Fun K "check_right" "check_right" slCkR f fd) (DE : Df P w K mg base CX0 "earliest" 5 ["table", "order", "kind"] (spEarl C CO)) (EN : De P w K mg base "NotRight" 4 (spErr1 K 2 CN "fault") CN) : FnOk P w K mg base (L2.CX P w) 6 f fd ["table", "order", "kind"] (spCkRX K C CO CN) := by
  refine F.okX sclCkR (fun vs H Q E h => ?_) (fun cdv A' outer s H vs Q E hr h => ?_)
  · obtain ⟨p, x, a, G, R, zs, k, rfl, _⟩ := h
    rfl
  · obtain ⟨p, x, a, G, R, zs, kd, rfl, L, k⟩ := h
    refine ⟨_, (pss_cons (ps_set (i := 3) sclCkR.nd rfl (Or.inl rfl) (pe_df DE hr (by decide) (pa_cons (pv 0) (pa_cons (pv 1) (pa_cons (pv 2) pa_nil)))))
  (pss_one (ps_if (pt_cmpR op_is1 (pv 3) pe_non (nomark _)) (pss_one (ps_rse rfl (takes_of rfl rfl rfl rfl) EN hr (by decide) (pa_cons (pv 3) pa_nil))) pss_nil))), ?_⟩
    walk_at "rd"
    refine ⟨p, x, a, G, R, zs, kd, rfl, L, fun u H2 s2 h1 h2 => ?_⟩
    rcases k with ⟨nf, k⟩ | ⟨f, fs, ef, k⟩
    · rw [h1 nf]
      walk_at "rd"
      refine ifF rfl ?_
      walk_at "rd"
      exact k H2 s2
    · have fa := h2 f fs ef
      obtain ⟨t, _, _, rfl, _⟩ := id fa
      walk_at "rd"
      refine ifT rfl ?_
      walk_at "rd"
      refine r_mkErr ?_
      walk_at "rd"
      refine r_err1 (σ := []) fa.dp (deep_fa f) fun dd v' H' s3 h3 h4 o1 => ?_
      exact k dd v' H' (s2.trans s3) (s2.free h3) h4 o1.dp
end
end Pk
set_option Elab.async false
set_option linter.all false
set_option maxRecDepth 100000
set_option maxHeartbeats 4000000
namespace Pk
open PySem L2
local macro_rules | `(tactic| walk_at "rd") => `(tactic| repeat (first
  | with_reducible refine r_seq ?_ | with_reducible refine r_nxt ?_ | with_reducible refine r_asg ?_ | with_reducible refine r_to ?_ | with_reducible refine r_ret ?_ | with_reducible refine r_for ?_ | with_reducible refine r_lc ?_ | with_reducible refine r_lc2 ?_ | with_reducible refine r_rng1 ?_ | with_reducible refine r_list ?_ | with_reducible refine r_tupI ?_ | with_reducible refine r_drop ?_ | with_reducible refine r_ifs ?_
  | with_reducible refine r_op ?_ | with_reducible refine r_c ?_ | with_reducible refine r_var rfl ?_ | with_reducible refine r_var (by assumption) ?_ | with_reducible refine r_I0 ?_ | with_reducible refine r_un ?_ | with_reducible refine r_U ?_ | with_reducible refine r_make ?_ | with_reducible refine r_makeS ?_ | with_reducible refine r_ifE ?_ | with_reducible refine r_cm ?_ | with_reducible refine r_mkV rfl ?_ | with_reducible refine r_sub ?_
  | with_reducible refine r_nil ?_ | with_reducible refine r_cons ?_ | with_reducible refine r_cb ?_ | with_reducible refine r_sl ?_ | with_reducible refine r_noP ?_ | with_reducible refine r_part ?_ | with_reducible refine r_isI ?_ | with_reducible refine r_lst ?_ | with_reducible refine r_tup ?_ | with_reducible refine r_call ?_ | with_reducible refine r_callS ?_ | with_reducible refine r_sFldU ?_ | with_reducible refine r_chain ?_ | with_reducible refine r_enum ?_ | with_reducible refine r_zip ?_ | with_reducible refine r_rng3 ?_ | with_reducible refine r_gtup ?_ | with_reducible refine r_methU ?_
  | with_reducible refine r_test ?_ | with_reducible refine r_B ?_ | with_reducible refine r_and ?_ | with_reducible refine r_or ?_ | with_reducible refine r_not ?_ | with_reducible refine r_andV ?_ | with_reducible refine r_orV ?_ | with_reducible refine r_notV ?_ | with_reducible refine r_bl ?_ | with_reducible refine r_yes ?_ | with_reducible refine r_int ?_ | with_reducible refine r_is0 ?_ | with_reducible refine r_is1 ?_ | with_reducible refine iteT ?_ | with_reducible refine iteF ?_ | with_reducible refine ite_nF ?_ | with_reducible refine ite_nT ?_
  | with_reducible refine r_mod (by decide) ?_ | with_reducible refine r_div (by decide) (by decide) ?_ | with_reducible refine r_mulR (by decide) (by decide) ?_ | with_reducible refine r_mulL (by decide) (by decide) ?_ | with_reducible refine r_pow (by decide) (by decide) (by decide) ?_))
/-! ### the number of a way, and the way with a number -/
def sumB (g : Pr → Nat) (l : List Pr) : Nat := (l.map g).sum
def pickN (g : Pr → Nat) : List Pr → Nat → Pr × Nat
  | [], r => ((0, 0), r)
  | z :: l, r => if g z ≤ r then pickN g l (r - g z) else (z, r)
theorem pick_spec {g : Pr → Nat} : ∀ {l : List Pr} {r : Nat}, r < sumB g l → ∃ i z, l[i]? = some z ∧ (pickN g l r).1 = z ∧ r = sumB g (l.take i) + (pickN g l r).2 ∧ (pickN g l r).2 < g z
  | [], r, h => absurd h (Nat.not_lt_zero _)
  | z :: l, r, h => by
    unfold sumB at h
    rw [List.map_cons, List.sum_cons] at h
    by_cases c : g z ≤ r
    · have e : pickN g (z :: l) r = pickN g l (r - g z) := by rw [pickN, if_pos c]
      obtain ⟨i, y, h1, h2, h3, h4⟩ := pick_spec (g := g) (l := l) (r := r - g z) (by unfold sumB; omega)
      refine ⟨i + 1, y, h1, by rw [e]; exact h2, ?_, by rw [e]; exact h4⟩
      rw [e, List.take_succ_cons]
      unfold sumB at h3 ⊢
      rw [List.map_cons, List.sum_cons]
      omega
    · have e : pickN g (z :: l) r = (z, r) := by rw [pickN, if_neg c]
      exact ⟨0, z, rfl, by rw [e], by rw [e]; exact (Nat.zero_add r).symm, by rw [e]; exact Nat.lt_of_not_le c⟩
theorem pick_at {g : Pr → Nat} : ∀ {l : List Pr} {i : Nat} {z : Pr} {r : Nat}, l[i]? = some z → r < g z → pickN g l (sumB g (l.take i) + r) = (z, r)
  | [], i, z, r, h, _ => by simp at h
  | y :: l, 0, z, r, h, c => by
    cases (Option.some.inj h)
    show pickN g (y :: l) (0 + r) = _
    rw [Nat.zero_add, pickN, if_neg (Nat.not_le_of_lt c)]
  | y :: l, i + 1, z, r, h, c => by
    have e : sumB g ((y :: l).take (i + 1)) = g y + sumB g (l.take i) := by
      rw [List.take_succ_cons]
      unfold sumB
      rw [List.map_cons, List.sum_cons]
    rw [e, pickN, if_pos (by omega), show g y + sumB g (l.take i) + r - g y = sumB g (l.take i) + r by omega]
    exact pick_at h c
theorem sum_take {g : Pr → Nat} {l : List Pr} {i : Nat} {z : Pr} (h : l[i]? = some z) : sumB g (l.take i) + g z ≤ sumB g l := by
  have e : sumB g l = sumB g (l.take i) + sumB g (l.drop i) := by
    unfold sumB
    rw [← List.sum_append, ← List.map_append, List.take_append_drop]
  have d : l.drop i = z :: l.drop (i + 1) := by
    obtain ⟨hi, ez⟩ := List.getElem?_eq_some_iff.mp h
    rw [List.drop_eq_getElem_cons hi, ez]
  rw [e, d]
  unfold sumB
  rw [List.map_cons, List.sum_cons]
  omega
theorem sum_le {g : Pr → Nat} {l : List Pr} {i j : Nat} (h : i ≤ j) : sumB g (l.take i) ≤ sumB g (l.take j) := by
  have e : l.take j = l.take i ++ (l.take j).drop i := by
    have := (List.take_append_drop i (l.take j)).symm
    rwa [List.take_take, Nat.min_eq_left h] at this
  rw [e]
  unfold sumB
  rw [List.map_append, List.sum_append]
  omega
/-- the pairs in front of z, of those that may stand -/
def befL (R : Rw) (kd : Str) (ps : List Pr) (z : Pr) : List Pr := (openL R kd ps).filter fun y => decide (plc (cells R) y < plc (cells R) z)
def numN (R : Rw) (kd : Str) : List Pr → List Pr → Nat
  | _, [] => 0
  | ps, z :: zs => sumB (fun y => cntR R kd zs.length (ps ++ [y])) (befL R kd ps z) + numN R kd (ps ++ [z]) zs
def atN (R : Rw) (kd : Str) : Nat → List Pr → Nat → List Pr
  | 0, _, _ => []
  | f + 1, ps, r => (pickN (fun y => cntR R kd f (ps ++ [y])) (openL R kd ps) r).1 :: atN R kd f (ps ++ [(pickN (fun y => cntR R kd f (ps ++ [y])) (openL R kd ps) r).1]) (pickN (fun y => cntR R kd f (ps ++ [y])) (openL R kd ps) r).2
/-- every step is one that may be taken -/
def GoW (R : Rw) (kd : Str) : List Pr → List Pr → Prop
  | _, [] => True
  | ps, z :: zs => z ∈ openL R kd ps ∧ GoW R kd (ps ++ [z]) zs
theorem bef_take {cs : List Pr} (nd : cs.Nodup) (t : Pr → Bool) : ∀ {i : Nat} {z : Pr}, (cs.filter t)[i]? = some z → (cs.filter t).filter (fun y => decide (plc cs y < plc cs z)) = (cs.filter t).take i := by
  have key : ∀ (pre l : List Pr), pre ++ l = cs → ∀ {i : Nat} {z : Pr}, (l.filter t)[i]? = some z → (l.filter t).filter (fun y => decide (plc cs y < plc cs z)) = (l.filter t).take i := by
    intro pre l
    induction l generalizing pre with
    | nil => intro _ i z h; simp at h
    | cons c l ih =>
      intro e i z h
      have ndc : (pre ++ c :: l).Nodup := by rw [e]; exact nd
      have pc : plc cs c = pre.length := by
        rw [← e]
        unfold plc
        have n : c ∉ pre := fun q => (List.nodup_append.mp ndc).2.2 c q c List.mem_cons_self rfl
        rw [List.idxOf_append, if_neg n, List.idxOf_cons_self, Nat.zero_add]
      have pl : ∀ y, y ∈ l → pre.length < plc cs y := fun y hy => by
        rw [← e]
        unfold plc
        have n : y ∉ pre := fun q => (List.nodup_append.mp ndc).2.2 y q y (List.mem_cons_of_mem _ hy) rfl
        have n2 : c ≠ y := fun q => by
          have := (List.nodup_cons.mp (List.nodup_append.mp ndc).2.1).1
          rw [q] at this
          exact this hy
        rw [List.idxOf_append, if_neg n, List.idxOf_cons, beq_eq_false_iff_ne.mpr n2, cond_false]
        omega
      have ih' := fun {i : Nat} {z : Pr} => ih (pre ++ [c]) (by rw [List.append_assoc]; exact e) (i := i) (z := z)
      cases tc : t c with
      | false =>
        rw [List.filter_cons_of_neg (by rw [tc]; exact Bool.false_ne_true)] at h ⊢
        exact ih' h
      | true =>
        rw [List.filter_cons_of_pos tc] at h ⊢
        cases i with
        | zero =>
          cases (Option.some.inj h)
          rw [List.take_zero, List.filter_eq_nil_iff]
          intro y hy
          rw [decide_eq_true_iff]
          rcases List.mem_cons.mp hy with rfl | hy
          · exact Nat.lt_irrefl _
          · have := pl y (List.mem_filter.mp hy).1
            omega
        | succ i =>
          have h : (l.filter t)[i]? = some z := h
          have zl := (List.mem_filter.mp (List.mem_of_getElem? h)).1
          rw [List.filter_cons_of_pos (by rw [decide_eq_true_iff, pc]; exact pl z zl), ih' h, List.take_succ_cons]
  intro i z h
  exact key [] cs rfl h
theorem bef_open {R : Rw} {kd : Str} {ps : List Pr} {i : Nat} {z : Pr} (h : (openL R kd ps)[i]? = some z) : befL R kd ps z = (openL R kd ps).take i := bef_take (cells_nodup R) _ h
theorem num_lt {R : Rw} {kd : Str} : ∀ {zs ps : List Pr}, GoW R kd ps zs → numN R kd ps zs < cntR R kd zs.length ps
  | [], _, _ => by rw [numN]; exact Nat.zero_lt_one
  | z :: zs, ps, ⟨h1, h2⟩ => by
    obtain ⟨i, hi⟩ := List.mem_iff_getElem?.mp h1
    have a := num_lt h2
    have b := sum_take (g := fun y => cntR R kd zs.length (ps ++ [y])) hi
    rw [numN, bef_open hi]
    show _ < sumB (fun y => cntR R kd zs.length (ps ++ [y])) (openL R kd ps)
    have b : sumB (fun y => cntR R kd zs.length (ps ++ [y])) ((openL R kd ps).take i) + cntR R kd zs.length (ps ++ [z]) ≤ sumB (fun y => cntR R kd zs.length (ps ++ [y])) (openL R kd ps) := b
    omega
theorem at_num {R : Rw} {kd : Str} : ∀ {zs ps : List Pr}, GoW R kd ps zs → atN R kd zs.length ps (numN R kd ps zs) = zs
  | [], _, _ => rfl
  | z :: zs, ps, ⟨h1, h2⟩ => by
    obtain ⟨i, hi⟩ := List.mem_iff_getElem?.mp h1
    have a := num_lt h2
    have e := pick_at (g := fun y => cntR R kd zs.length (ps ++ [y])) (r := numN R kd (ps ++ [z]) zs) hi a
    rw [numN, bef_open hi, List.length_cons, atN, e]
    show z :: atN R kd zs.length (ps ++ [z]) (numN R kd (ps ++ [z]) zs) = _
    rw [at_num h2]
theorem at_go {R : Rw} {kd : Str} : ∀ {f : Nat} {ps : List Pr} {r : Nat}, r < cntR R kd f ps → GoW R kd ps (atN R kd f ps r) ∧ (atN R kd f ps r).length = f ∧ numN R kd ps (atN R kd f ps r) = r
  | 0, ps, r, h => by
    have : r < 1 := h
    obtain rfl : r = 0 := by omega
    exact ⟨trivial, rfl, rfl⟩
  | f + 1, ps, r, h => by
    have h : r < sumB (fun y => cntR R kd f (ps ++ [y])) (openL R kd ps) := h
    obtain ⟨i, z, hi, e1, e2, e3⟩ := pick_spec h
    obtain ⟨q, eq_⟩ : ∃ q, q = (pickN (fun y => cntR R kd f (ps ++ [y])) (openL R kd ps) r).2 := ⟨_, rfl⟩
    rw [← eq_] at e2 e3
    obtain ⟨a, b, c⟩ := at_go e3
    have ea : atN R kd (f + 1) ps r = z :: atN R kd f (ps ++ [z]) q := by rw [atN, e1, ← eq_]
    rw [ea]
    refine ⟨⟨List.mem_of_getElem? hi, a⟩, by rw [List.length_cons, b], ?_⟩
    rw [numN, bef_open hi, b, c, ← e2]
/-- lists compare like numbers: by the places of the first pairs that differ -/
theorem num_cmp {R : Rw} {kd : Str} {y z : Pr} {ys zs ps : List Pr} (h1 : GoW R kd ps (y :: ys)) (h2 : GoW R kd ps (z :: zs)) (l : ys.length = zs.length) (c : plc (cells R) y < plc (cells R) z) : numN R kd ps (y :: ys) < numN R kd ps (z :: zs) := by
  obtain ⟨i, hi⟩ := List.mem_iff_getElem?.mp h1.1
  obtain ⟨j, hj⟩ := List.mem_iff_getElem?.mp h2.1
  have ij : i < j := by
    have mem : y ∈ (openL R kd ps).take j := by
      rw [← bef_open hj]
      exact List.mem_filter.mpr ⟨h1.1, decide_eq_true c⟩
    obtain ⟨i', hi'⟩ := List.mem_iff_getElem?.mp mem
    have lt : i' < j := by
      have := (List.getElem?_eq_some_iff.mp hi').1
      rw [List.length_take] at this
      omega
    rw [List.getElem?_take, if_pos lt] at hi'
    have nd : (openL R kd ps).Nodup := (cells_nodup R).filter _
    obtain ⟨a1, b1⟩ := List.getElem?_eq_some_iff.mp hi
    obtain ⟨a2, b2⟩ := List.getElem?_eq_some_iff.mp hi'
    have : i = i' := (List.getElem_inj nd).mp (by rw [b1, b2])
    omega
  have a := num_lt h1.2
  have b := sum_take (g := fun x => cntR R kd ys.length (ps ++ [x])) (l := (openL R kd ps).take j) (i := i) (z := y) (by rw [List.getElem?_take, if_pos ij]; exact hi)
  rw [numN, numN, bef_open hi, bef_open hj, ← l]
  rw [List.take_take, Nat.min_eq_left (by omega)] at b
  have b : sumB (fun x => cntR R kd ys.length (ps ++ [x])) ((openL R kd ps).take i) + cntR R kd ys.length (ps ++ [y]) ≤ sumB (fun x => cntR R kd ys.length (ps ++ [x])) ((openL R kd ps).take j) := b
  omega
/-! ### ways compare like their numbers -/
def lx (a b : Pr) : Prop := a.1 < b.1 ∨ (a.1 = b.1 ∧ a.2 < b.2)
theorem crow_lx (R : Rw) (i n : Nat) : (crow R i n).Pairwise lx := by
  unfold crow
  rw [List.pairwise_map]
  have : (List.range n).Pairwise (· < ·) := List.pairwise_lt_range
  exact (this.filter _).imp fun h => .inr ⟨rfl, Int.ofNat_lt.mpr h⟩
theorem cells_lx (R : Rw) : (cells R).Pairwise lx := by
  have : ∀ n, (cpre R n).Pairwise lx := by
    intro n
    induction n with
    | zero => exact .nil
    | succ n ih =>
      rw [cpre_more, List.pairwise_append]
      refine ⟨ih, crow_lx R n _, fun a ha b hb => ?_⟩
      unfold cpre at ha
      rw [List.mem_flatMap] at ha
      obtain ⟨i, hi, h⟩ := ha
      unfold crow at h hb
      obtain ⟨j, _, rfl⟩ := List.mem_map.mp h
      obtain ⟨j', _, rfl⟩ := List.mem_map.mp hb
      have := List.mem_range.mp hi
      exact .inl (Int.ofNat_lt.mpr this)
  exact this R.length
theorem plc_lx {cs : List Pr} (pw : cs.Pairwise lx) {y z : Pr} (hy : y ∈ cs) (hz : z ∈ cs) (h : plc cs y < plc cs z) : lx y z := by
  obtain ⟨h1, q1⟩ := List.getElem?_eq_some_iff.mp (plc_get hy)
  obtain ⟨h2, q2⟩ := List.getElem?_eq_some_iff.mp (plc_get hz)
  have := List.pairwise_iff_getElem.mp pw _ _ h1 h2 h
  rw [q1, q2] at this
  exact this
theorem prLt_lx {y z : Pr} (h : lx y z) : prLt y z = true ∧ prLt z y = false := by
  unfold prLt
  unfold lx at h
  refine ⟨?_, ?_⟩
  · rw [Bool.or_eq_true, Bool.and_eq_true, decide_eq_true_eq, decide_eq_true_eq, decide_eq_true_eq]
    exact h
  · rw [Bool.eq_false_iff]
    intro q
    rw [Bool.or_eq_true, Bool.and_eq_true, decide_eq_true_eq, decide_eq_true_eq, decide_eq_true_eq] at q
    omega
theorem lex_num {R : Rw} {kd : Str} : ∀ {zs ws ps : List Pr}, GoW R kd ps zs → GoW R kd ps ws → zs.length = ws.length → lexB zs ws = decide (numN R kd ps zs < numN R kd ps ws)
  | [], [], ps, _, _, _ => rfl
  | [], _ :: _, _, _, _, l => by cases l
  | _ :: _, [], _, _, _, l => by cases l
  | y :: ys, z :: zs, ps, h1, h2, l => by
    have l' : ys.length = zs.length := by simpa using l
    have yc : y ∈ cells R := (List.mem_filter.mp h1.1).1
    have zc : z ∈ cells R := (List.mem_filter.mp h2.1).1
    by_cases c : y = z
    · subst c
      rw [lexB, if_pos rfl, lex_num h1.2 h2.2 l', numN, numN, l']
      exact decide_eq_decide.mpr (by omega)
    · rw [lexB, if_neg c]
      rcases Nat.lt_trichotomy (plc (cells R) y) (plc (cells R) z) with h | h | h
      · have := num_cmp h1 h2 l' h
        rw [(prLt_lx (plc_lx (cells_lx R) yc zc h)).1, decide_eq_true this]
      · have a := plc_get yc
        rw [h, plc_get zc] at a
        exact absurd (Option.some.inj a).symm c
      · have := num_cmp h2 h1 l'.symm h
        rw [(prLt_lx (plc_lx (cells_lx R) zc yc h)).2, decide_eq_false (by omega)]
theorem num_inj {R : Rw} {kd : Str} {zs ws : List Pr} (h1 : GoW R kd [] zs) (h2 : GoW R kd [] ws) (l : zs.length = ws.length) : numN R kd [] zs = numN R kd [] ws ↔ zs = ws := by
  refine ⟨fun h => ?_, fun h => by rw [h]⟩
  rw [← at_num h1, h, l, at_num h2]
/-! ### walks and ways -/
theorem go_right {R : Rw} {kd : Str} : ∀ {zs ps : List Pr}, (∀ z, z ∈ zs → z ∈ cells R) → (ps ++ zs).Nodup → rightN R kd ps zs = true → GoW R kd ps zs
  | [], _, _, _, _ => trivial
  | z :: zs, ps, sub, nd, h => by
    have h : (metD (needsL R z.1.toNat z.2.toNat kd) ps && rightN R kd (ps ++ [z]) zs) = true := h
    obtain ⟨h1, h2⟩ := Bool.and_eq_true_iff.mp h
    have n : z ∉ ps := fun q => (List.nodup_append.mp nd).2.2 z q z List.mem_cons_self rfl
    refine ⟨List.mem_filter.mpr ⟨sub z List.mem_cons_self, ?_⟩, go_right (fun y hy => sub y (List.mem_cons_of_mem _ hy)) (by rw [List.append_assoc]; exact nd) h2⟩
    unfold openB
    rw [decide_eq_false n, h1]
    rfl
theorem met_mono {R : Rw} {ns : List (List Pr)} {ps qs : List Pr} (h : metD ns ps = true) (s : ∀ z, z ∈ ps → z ∈ qs) : metD ns qs = true := by
  rw [metD_iff] at h ⊢
  exact fun n hn => by obtain ⟨z, a, b⟩ := h n hn; exact ⟨z, a, s z b⟩
/-- where a walk is stuck, no way goes to the end -/
theorem stuck_go {R : Rw} {kd : Str} {zs : List Pr} (stuck : openL R kd zs = []) : ∀ {ws ps : List Pr}, GoW R kd ps ws → (∀ y, y ∈ ps → y ∈ zs) → ∀ y, y ∈ ws → y ∈ zs
  | [], _, _, _, _, h => by cases h
  | w :: ws, ps, h, sub, y, hy => by
    have wz : w ∈ zs := by
      apply Classical.byContradiction
      intro n
      obtain ⟨wc, ob⟩ := List.mem_filter.mp h.1
      unfold openB at ob
      obtain ⟨_, mt⟩ := Bool.and_eq_true_iff.mp ob
      have : w ∈ openL R kd zs := List.mem_filter.mpr ⟨wc, by
        unfold openB
        rw [decide_eq_false n, met_mono (R := R) mt sub]
        rfl⟩
      rw [stuck] at this
      cases this
    rcases List.mem_cons.mp hy with rfl | hy
    · exact wz
    · exact stuck_go stuck h.2 (fun y hy => by
        rcases List.mem_append.mp hy with hy | hy
        · exact sub y hy
        · rw [List.mem_singleton.mp hy]; exact wz) y hy
theorem go_nodup {R : Rw} {kd : Str} : ∀ {zs ps : List Pr}, GoW R kd ps zs → ps.Nodup → (ps ++ zs).Nodup ∧ ∀ z, z ∈ zs → z ∈ cells R
  | [], ps, _, nd => ⟨by rw [List.append_nil]; exact nd, fun z h => by cases h⟩
  | z :: zs, ps, h, nd => by
    obtain ⟨zc, ob⟩ := List.mem_filter.mp h.1
    unfold openB at ob
    rw [Bool.and_eq_true, Bool.not_eq_true', decide_eq_false_iff_not] at ob
    obtain ⟨a, b⟩ := go_nodup h.2 (List.nodup_append.mpr ⟨nd, List.nodup_cons.mpr ⟨List.not_mem_nil, List.nodup_nil⟩, fun x hx y hy q => by
      rw [List.mem_singleton.mp hy] at q
      exact ob.1 (q ▸ hx)⟩)
    rw [List.append_assoc] at a
    exact ⟨a, fun y hy => by
      rcases List.mem_cons.mp hy with rfl | hy
      · exact zc
      · exact b y hy⟩
theorem stuck_cnt {R : Rw} {kd : Str} {zs : List Pr} (nd : zs.Nodup) (stuck : openL R kd zs = []) (lt : zs.length < (cells R).length) : cntR R kd (cells R).length [] = 0 := by
  apply Classical.byContradiction
  intro n
  obtain ⟨a, b, _⟩ := at_go (R := R) (kd := kd) (f := (cells R).length) (ps := []) (r := 0) (by omega)
  have sub := stuck_go stuck a (fun y h => by cases h)
  obtain ⟨nda, _⟩ := go_nodup a List.nodup_nil
  rw [List.nil_append] at nda
  have := (perm_of nda sub (by omega)).length_eq
  omega
theorem walk_cnt {R : Rw} {kd : Str} {zs : List Pr} (pm : zs.Perm (cells R)) (r : rightN R kd [] zs = true) : GoW R kd [] zs ∧ numN R kd [] zs < cntR R kd (cells R).length [] := by
  have g := go_right (kd := kd) (ps := []) (fun z hz => pm.mem_iff.mp hz) (by rw [List.nil_append]; exact pm.nodup_iff.mpr (cells_nodup R)) r
  exact ⟨g, by rw [← pm.length_eq]; exact num_lt g⟩
end Pk
set_option Elab.async false
set_option linter.all false
set_option maxRecDepth 100000
set_option maxHeartbeats 4000000
namespace Pk
open PySem L2
local macro_rules | `(tactic| walk_at "rd") => `(tactic| repeat (first
  | with_reducible refine r_seq ?_ | with_reducible refine r_nxt ?_ | with_reducible refine r_asg ?_ | with_reducible refine r_to ?_ | with_reducible refine r_ret ?_ | with_reducible refine r_for ?_ | with_reducible refine r_lc ?_ | with_reducible refine r_lc2 ?_ | with_reducible refine r_rng1 ?_ | with_reducible refine r_list ?_ | with_reducible refine r_tupI ?_ | with_reducible refine r_drop ?_ | with_reducible refine r_ifs ?_
  | with_reducible refine r_op ?_ | with_reducible refine r_c ?_ | with_reducible refine r_var rfl ?_ | with_reducible refine r_var (by assumption) ?_ | with_reducible refine r_I0 ?_ | with_reducible refine r_un ?_ | with_reducible refine r_U ?_ | with_reducible refine r_make ?_ | with_reducible refine r_makeS ?_ | with_reducible refine r_ifE ?_ | with_reducible refine r_cm ?_ | with_reducible refine r_mkV rfl ?_ | with_reducible refine r_sub ?_
  | with_reducible refine r_nil ?_ | with_reducible refine r_cons ?_ | with_reducible refine r_cb ?_ | with_reducible refine r_sl ?_ | with_reducible refine r_noP ?_ | with_reducible refine r_part ?_ | with_reducible refine r_isI ?_ | with_reducible refine r_lst ?_ | with_reducible refine r_tup ?_ | with_reducible refine r_call ?_ | with_reducible refine r_callS ?_ | with_reducible refine r_sFldU ?_ | with_reducible refine r_chain ?_ | with_reducible refine r_enum ?_ | with_reducible refine r_zip ?_ | with_reducible refine r_rng3 ?_ | with_reducible refine r_gtup ?_ | with_reducible refine r_methU ?_
  | with_reducible refine r_test ?_ | with_reducible refine r_B ?_ | with_reducible refine r_and ?_ | with_reducible refine r_or ?_ | with_reducible refine r_not ?_ | with_reducible refine r_andV ?_ | with_reducible refine r_orV ?_ | with_reducible refine r_notV ?_ | with_reducible refine r_bl ?_ | with_reducible refine r_yes ?_ | with_reducible refine r_int ?_ | with_reducible refine r_is0 ?_ | with_reducible refine r_is1 ?_ | with_reducible refine iteT ?_ | with_reducible refine iteF ?_ | with_reducible refine ite_nF ?_ | with_reducible refine ite_nT ?_
  | with_reducible refine r_mod (by decide) ?_ | with_reducible refine r_div (by decide) (by decide) ?_ | with_reducible refine r_mulR (by decide) (by decide) ?_ | with_reducible refine r_mulL (by decide) (by decide) ?_ | with_reducible refine r_pow (by decide) (by decide) (by decide) ?_))
abbrev slBet : Stmt := top 17
section
variable {P : Program} {w : World} {K : PySem.W.Frag} {mg : Str → Option Value} {base : Heap} {C CE f : Addr} {fd : FuncData}
theorem sclBet : FnScope ["value", "low", "high"] ["value", "low", "high"] (defScope slBet) := ⟨rfl, rfl, rfl, by decide +kernel, rfl, by decide +kernel, by decide +kernel⟩
theorem ok_bet (F : Fun K "is_between" "is_between" slBet f fd) (DI : Df P w K mg base CX0 "is_integer" 1 ["value"] (spIntD K)) : FnOk P w K mg base CX0 2 f fd ["value", "low", "high"] (spBetD K) := by
  refine F.ok sclBet (fun vs H Q E h => ?_) (fun cdv A outer s H vs Q E hr h => ?_)
  · obtain ⟨v, d, lo, hi, rfl, _⟩ := h
    rfl
  · obtain ⟨v, d, lo, hi, rfl, hd, k⟩ := h
    refine ⟨_, (pss_one (ps_ret (pe_and (pe_df DI hr (by decide) (pa_cons (pv 0) pa_nil)) (pe_one (pe_chain op_le op_le (pv 1) (pv 0) (pv 2)))))), ?_⟩
    walk_at "rd"
    refine ⟨v, d, rfl, hd, ?_⟩
    walk_at "rd"
    by_cases e : isID d = true
    · refine ifT e ?_
      obtain ⟨i, rfl⟩ : ∃ i, d = .int i := by
        cases d with
        | int i => exact ⟨i, rfl⟩
        | _ => cases e
      obtain rfl := Dp.intV hd
      walk_at "rd"
      by_cases c : lo ≤ i
      · refine ifT (decide_eq_true c) ?_
        rw [betD, decide_eq_true c, Bool.true_and] at k
        walk_at "rd"
        exact k
      · refine ifF (decide_eq_false c) ?_
        rw [betD, decide_eq_false c, Bool.false_and] at k
        exact k
    · refine ifF (Bool.eq_false_iff.mpr e) ?_
      rw [show betD lo hi d = false from by cases d <;> first | rfl | exact absurd rfl e] at k
      exact k
end
end Pk
set_option Elab.async false
set_option linter.all false
set_option maxRecDepth 100000
set_option maxHeartbeats 4000000
namespace Pk
open PySem L2
local macro_rules | `(tactic| walk_at "rd") => `(tactic| repeat (first
  | with_reducible refine r_seq ?_ | with_reducible refine r_nxt ?_ | with_reducible refine r_asg ?_ | with_reducible refine r_to ?_ | with_reducible refine r_ret ?_ | with_reducible refine r_for ?_ | with_reducible refine r_lc ?_ | with_reducible refine r_lc2 ?_ | with_reducible refine r_rng1 ?_ | with_reducible refine r_list ?_ | with_reducible refine r_tupI ?_ | with_reducible refine r_drop ?_ | with_reducible refine r_ifs ?_
  | with_reducible refine r_op ?_ | with_reducible refine r_c ?_ | with_reducible refine r_var rfl ?_ | with_reducible refine r_var (by assumption) ?_ | with_reducible refine r_I0 ?_ | with_reducible refine r_un ?_ | with_reducible refine r_U ?_ | with_reducible refine r_make ?_ | with_reducible refine r_makeS ?_ | with_reducible refine r_ifE ?_ | with_reducible refine r_cm ?_ | with_reducible refine r_mkV rfl ?_ | with_reducible refine r_sub ?_
  | with_reducible refine r_nil ?_ | with_reducible refine r_cons ?_ | with_reducible refine r_cb ?_ | with_reducible refine r_sl ?_ | with_reducible refine r_noP ?_ | with_reducible refine r_part ?_ | with_reducible refine r_isI ?_ | with_reducible refine r_lst ?_ | with_reducible refine r_tup ?_ | with_reducible refine r_call ?_ | with_reducible refine r_callS ?_ | with_reducible refine r_sFldU ?_ | with_reducible refine r_chain ?_ | with_reducible refine r_enum ?_ | with_reducible refine r_zip ?_ | with_reducible refine r_rng3 ?_ | with_reducible refine r_gtup ?_ | with_reducible refine r_methU ?_
  | with_reducible refine r_test ?_ | with_reducible refine r_B ?_ | with_reducible refine r_and ?_ | with_reducible refine r_or ?_ | with_reducible refine r_not ?_ | with_reducible refine r_andV ?_ | with_reducible refine r_orV ?_ | with_reducible refine r_notV ?_ | with_reducible refine r_bl ?_ | with_reducible refine r_yes ?_ | with_reducible refine r_int ?_ | with_reducible refine r_is0 ?_ | with_reducible refine r_is1 ?_ | with_reducible refine iteT ?_ | with_reducible refine iteF ?_ | with_reducible refine ite_nF ?_ | with_reducible refine ite_nT ?_
  | with_reducible refine r_mod (by decide) ?_ | with_reducible refine r_div (by decide) (by decide) ?_ | with_reducible refine r_mulR (by decide) (by decide) ?_ | with_reducible refine r_mulL (by decide) (by decide) ?_ | with_reducible refine r_pow (by decide) (by decide) (by decide) ?_))
/-! ### the needs tell the faults -/
theorem needs_self {R : Rw} {i j : Nat} {kd : Str} {n : List Pr} (h : n ∈ needsL R i j kd) : ((i : Int), (j : Int)) ∉ n := by
  intro m
  have nat : ∀ {a b : Nat}, ((a : Int)) = (b : Int) → a = b := fun h => by omega
  unfold needsL at h
  rcases List.mem_append.mp h with h | h
  · rcases List.mem_append.mp h with h | h
    · obtain ⟨r, _, h⟩ := List.mem_flatMap.mp h
      obtain ⟨s, hs, rfl⟩ := List.mem_map.mp h
      have lc := (List.mem_filter.mp hs).2
      unfold lcB at lc
      simp only [Bool.and_eq_true, Bool.not_eq_true', decide_eq_false_iff_not] at lc
      obtain ⟨⟨⟨⟨ri, sj⟩, _⟩, _⟩, _⟩ := lc
      rcases List.mem_cons.mp m with e | m
      · exact sj (nat (congrArg Prod.snd e)).symm
      · exact ri (nat (congrArg Prod.fst (List.mem_singleton.mp m))).symm
    · split at h
      · obtain ⟨r, hr, rfl⟩ := List.mem_map.mp h
        have hc := (List.mem_filter.mp hr).2
        simp only [Bool.and_eq_true, decide_eq_true_eq] at hc
        have e := nat (congrArg Prod.fst (List.mem_singleton.mp m))
        rw [← e] at hc
        omega
      · cases h
  · split at h
    · obtain ⟨s, hs, rfl⟩ := List.mem_map.mp h
      have hc := (List.mem_filter.mp hs).2
      simp only [Bool.and_eq_true, decide_eq_true_eq] at hc
      have e := nat (congrArg Prod.snd (List.mem_singleton.mp m))
      rw [← e] at hc
      omega
    · cases h
theorem met_self {R : Rw} {i j : Nat} {kd : Str} {ps : List Pr} : metB (needsL R i j kd) (ps ++ [((i : Int), (j : Int))]) ↔ metB (needsL R i j kd) ps := by
  refine forall_congr' fun n => forall_congr' fun hn => ?_
  constructor
  · rintro ⟨z, hz, hp⟩
    rcases List.mem_append.mp hp with hp | hp
    · exact ⟨z, hz, hp⟩
    · rw [List.mem_singleton.mp hp] at hz
      exact absurd hz (needs_self hn)
  · rintro ⟨z, hz, hp⟩
    exact ⟨z, hz, List.mem_append_left _ hp⟩
theorem fAt_met {R : Rw} {zs : List Pr} {kd : Str} {m i j : Nat} (hi : i < R.length) (hj : j < wd R) (e : zs[m]? = some ((i : Int), (j : Int))) : fAt R zs kd m = [] ↔ metD (needsL R i j kd) (zs.take m) = true := by
  unfold fAt
  rw [e]
  simp only [List.map_eq_nil_iff, Int.toNat_natCast]
  rw [metD_iff, ← met_fau hi hj, List.take_succ, e]
  exact met_self
theorem right_from {R : Rw} {zs : List Pr} {kd : Str} (zc : ∀ z, z ∈ zs → z ∈ cells R) : ∀ (d m : Nat), m + d = zs.length → (rightN R kd (zs.take m) (zs.drop m) = true ↔ ∀ k, m ≤ k → k < zs.length → fAt R zs kd k = [])
  | 0, m, e => by
    rw [List.drop_eq_nil_iff.mpr (by omega), rightN]
    exact ⟨fun _ k a b => by omega, fun _ => rfl⟩
  | d + 1, m, e => by
    have ml : m < zs.length := by omega
    have ez := List.getElem?_eq_getElem ml
    obtain ⟨i, j, eij, hi, hj, _⟩ := cells_nat (zc _ (List.mem_of_getElem? ez))
    rw [eij] at ez
    have dr : zs.drop m = ((i : Int), (j : Int)) :: zs.drop (m + 1) := by rw [List.drop_eq_getElem_cons ml, eij]
    have tk : zs.take m ++ [((i : Int), (j : Int))] = zs.take (m + 1) := by rw [List.take_succ, ez]; rfl
    rw [dr, rightN, tk, Bool.and_eq_true, right_from zc d (m + 1) (by omega)]
    simp only [Int.toNat_natCast]
    rw [← fAt_met hi hj ez]
    constructor
    · rintro ⟨a, b⟩ k h1 h2
      rcases Nat.lt_or_ge m k with c | c
      · exact b k c h2
      · rw [show k = m by omega]; exact a
    · intro h
      exact ⟨h m (Nat.le_refl _) ml, fun k h1 h2 => h k (by omega) h2⟩
/-- the law's own right orders are those without a fault -/
theorem right_all {R : Rw} {zs : List Pr} {kd : Str} (zc : ∀ z, z ∈ zs → z ∈ cells R) : rightN R kd [] zs = true ↔ allF R zs kd zs.length = [] := by
  have h := right_from (kd := kd) zc zs.length 0 (by omega)
  rw [List.take_zero, List.drop_zero] at h
  rw [h]
  unfold allF
  rw [List.flatMap_eq_nil_iff]
  exact ⟨fun q k hk => q k (Nat.zero_le _) (List.mem_range.mp hk), fun q k _ hk => q k (List.mem_range.mpr hk)⟩
end Pk
set_option Elab.async false
set_option linter.all false
set_option maxRecDepth 100000
set_option maxHeartbeats 1000000
/-! del x[k], x a list -/
namespace Pk
open PySem L2 PySem.Spec PyProof.Rows
def tDelL (to ti : TE) : TS := fun D σ H => to σ H fun x H1 => ti σ H1 fun y H2 => ∃ (l : Addr) (xs : List V) (k : Nat), x = .ref l ∧ y = .int (k : Int) ∧ H2 l = some (.lst xs) ∧ k < xs.length ∧ D.nx σ (upd H2 l (.lst (xs.eraseIdx k)))
theorem vals_eraseI : ∀ {xs : List V} {us : List Value} {k : Nat}, Vals xs us → Vals (xs.eraseIdx k) (us.eraseIdx k)
  | _, _, _, .nil => .nil
  | _, _, 0, .cons _ rr => rr
  | _, _, k + 1, .cons r rr => .cons r (vals_eraseI rr)
theorem ps_delL {X : Cx} {o i : Expr} {pos p2 : Pos} {to ti : TE} (ho : PE X o to) (hi : PE X i ti) : PS X (.Delete [.Subscript o i pos] p2) (tDelL to ti) := ⟨fun pins s σ H D I h => by
  refine wpAny_Delete (wpAny_deleteEach_cons (wpAny_delete_Subscript ?_))
  refine thn (ho.run pins s σ H _ I h) fun ov s1 z => ?_
  obtain ⟨x, H1, I1, r1, q1⟩ := z
  refine thn (hi.run pins s1 σ H1 _ I1 q1) fun iv s2 z => ?_
  obtain ⟨y, H2, I2, r2, l, xs, k, rfl, rfl, hl, hk, q⟩ := z
  cases r1
  obtain ⟨t, rfl⟩ := r2
  obtain ⟨z, its, n, r, le, e⟩ := I2.lstM hl
  have ln := line63
  have fit := fitsIndex_both (k := (k : Int)) (by omega) (by omega)
  have sq : seqIndex? (k : Int) its.toArray.size = some k := by
    rw [seqIndex_of (by omega) (by rw [List.size_toArray]; omega), Int.toNat_natCast]
  refine PySem.P.delItem_list (n := n) e fit sq ?_ (by rw [List.size_toArray]; omega)
  refine wpAny_deleteEach_nil ?_
  refine ⟨σ, _, I2.lset (its' := its.eraseIdx k) hl e ?_ (vals_eraseI r) ?_, q⟩
  · simp
  · have := List.length_eraseIdx_le xs k
    omega⟩
theorem r_delL {to ti : TE} {D : Ends} {σ : L2.St} {H : Hp} (h : to σ H fun x H1 => ti σ H1 fun y H2 => ∃ (l : Addr) (xs : List V) (k : Nat), x = .ref l ∧ y = .int (k : Int) ∧ H2 l = some (.lst xs) ∧ k < xs.length ∧ D.nx σ (upd H2 l (.lst (xs.eraseIdx k)))) : tDelL to ti D σ H := h
end Pk
set_option Elab.async false
set_option linter.all false
set_option maxRecDepth 100000
set_option maxHeartbeats 1000000
namespace Pk
open PySem L2 PySem.Spec PyProof.Rows
/-- list.remove, of a pair in a list of pairs -/
def rRemP (K : PySem.W.Frag) : V → List V → Hp → VK → Prop := fun x xs H Q => ∃ (a : Addr) (y : V) (us : List V) (z : Pr) (zs : List Pr) (j : Nat), x = V.ref a ∧ xs = [y] ∧ H a = some (.lst us) ∧ DpAll K H us (zs.map prD) ∧ Dp K H y (prD z) ∧ zs[j]? = some z ∧ (∀ m : Nat, m < j → zs[m]? ≠ some z) ∧ Q .non (upd H a (.lst (us.eraseIdx j)))
theorem place_pr : ∀ {zs : List Pr} {z : Pr} {j : Nat}, zs[j]? = some z → (∀ m : Nat, m < j → zs[m]? ≠ some z) → SeqAt.dataPlace (zs.map prD) (prD z) = some j := by
  intro zs z j hj hno
  unfold SeqAt.dataPlace
  rw [List.findIdx?_eq_some_iff_getElem]
  obtain ⟨h1, h2⟩ := List.getElem?_eq_some_iff.mp hj
  have eq : ∀ a b : Pr, PyData.eqv (prD a) (prD b) = decide (a = b) := fun a b => by
    have := PySem.W.any_datum (α := Int × Int) [a] b
    have e : ([a].map prD).any (fun y => PyData.eqv y (prD b)) = decide (b ∈ [a]) := this.trans (decide_eq_decide.mpr Iff.rfl)
    simp only [List.map_cons, List.map_nil, List.any_cons, List.any_nil, Bool.or_false, List.mem_singleton] at e
    rw [e]
    exact decide_eq_decide.mpr ⟨fun h => h.symm, fun h => h.symm⟩
  refine ⟨by rw [List.length_map]; exact h1, ?_, fun m hm => ?_⟩
  · rw [List.getElem_map, eq, h2]
    exact decide_eq_true rfl
  · rw [List.getElem_map, eq, decide_eq_true_eq]
    intro e
    exact hno m hm (by rw [List.getElem?_eq_getElem (by omega), e])
theorem vals_erase {vs : List V} {us : List Value} (r : Vals vs us) (j : Nat) : Vals (vs.eraseIdx j) (us.eraseIdx j) := r.eraseIdx j
theorem mt_removeP {X : Cx} (hu : X.A.units + 64 < cLine) : MtM X "list.remove" (rRemP X.K) := by
  intro pins s σ H x xs v us Q I rx rxs h
  obtain ⟨a, y, ws, z, zs, j, rfl, rfl, hH, hda, hy, hj, hno, q⟩ := h
  cases rx
  obtain ⟨u, rfl, ry⟩ := rxs.one
  obtain ⟨bs, r1⟩ := Dp.reads I (prD z) y u hy ry
  obtain ⟨z1, its, n, r, hl, e⟩ := I.lstM hH
  obtain ⟨as, h4⟩ := Dp.readsAll I _ _ its hda r
  have dp := prs_depthAll zs
  refine SeqAt.remove_list_data (vs := its.toArray) ⟨_, e, rfl, n, rfl⟩ (by simpa using h4) r1 (prs_plainAll zs) (pr_plain z) (by omega) (place_pr hj hno) (by rw [List.size_toArray]; omega) ?_
  have rr := r.eraseIdx j
  refine ⟨.non, _, I.lset (its' := its.eraseIdx j) (t' := s.toks) hH e ?_ rr ?_, rfl, q⟩
  · show its.toArray.eraseIdxIfInBounds j = (its.eraseIdx j).toArray
    rw [List.eraseIdxIfInBounds_toArray]
  · have : (ws.eraseIdx j).length ≤ ws.length := List.length_eraseIdx_le ..
    omega
end Pk
set_option Elab.async false
set_option linter.all false
set_option maxRecDepth 100000
set_option maxHeartbeats 4000000
namespace Pk
open PySem L2
local macro_rules | `(tactic| walk_at "rd") => `(tactic| repeat (first
  | with_reducible refine r_seq ?_ | with_reducible refine r_nxt ?_ | with_reducible refine r_asg ?_ | with_reducible refine r_to ?_ | with_reducible refine r_ret ?_ | with_reducible refine r_for ?_ | with_reducible refine r_lc ?_ | with_reducible refine r_lc2 ?_ | with_reducible refine r_rng1 ?_ | with_reducible refine r_list ?_ | with_reducible refine r_tupI ?_ | with_reducible refine r_drop ?_ | with_reducible refine r_ifs ?_
  | with_reducible refine r_op ?_ | with_reducible refine r_c ?_ | with_reducible refine r_var rfl ?_ | with_reducible refine r_var (by assumption) ?_ | with_reducible refine r_I0 ?_ | with_reducible refine r_un ?_ | with_reducible refine r_U ?_ | with_reducible refine r_make ?_ | with_reducible refine r_makeS ?_ | with_reducible refine r_ifE ?_ | with_reducible refine r_cm ?_ | with_reducible refine r_mkV rfl ?_ | with_reducible refine r_sub ?_
  | with_reducible refine r_nil ?_ | with_reducible refine r_cons ?_ | with_reducible refine r_cb ?_ | with_reducible refine r_sl ?_ | with_reducible refine r_noP ?_ | with_reducible refine r_part ?_ | with_reducible refine r_isI ?_ | with_reducible refine r_lst ?_ | with_reducible refine r_tup ?_ | with_reducible refine r_call ?_ | with_reducible refine r_callS ?_ | with_reducible refine r_sFldU ?_ | with_reducible refine r_chain ?_ | with_reducible refine r_enum ?_ | with_reducible refine r_zip ?_ | with_reducible refine r_rng3 ?_ | with_reducible refine r_gtup ?_ | with_reducible refine r_methU ?_
  | with_reducible refine r_test ?_ | with_reducible refine r_B ?_ | with_reducible refine r_and ?_ | with_reducible refine r_or ?_ | with_reducible refine r_not ?_ | with_reducible refine r_andV ?_ | with_reducible refine r_orV ?_ | with_reducible refine r_notV ?_ | with_reducible refine r_bl ?_ | with_reducible refine r_yes ?_ | with_reducible refine r_int ?_ | with_reducible refine r_is0 ?_ | with_reducible refine r_is1 ?_ | with_reducible refine iteT ?_ | with_reducible refine iteF ?_ | with_reducible refine ite_nF ?_ | with_reducible refine ite_nT ?_
  | with_reducible refine r_mod (by decide) ?_ | with_reducible refine r_div (by decide) (by decide) ?_ | with_reducible refine r_mulR (by decide) (by decide) ?_ | with_reducible refine r_mulL (by decide) (by decide) ?_ | with_reducible refine r_pow (by decide) (by decide) (by decide) ?_))
/-! ### one turn of the way with a number -/
def turnN (ws : List Nat) (p : Nat) : List Nat → Nat → Nat × Nat
  | [], r => (0, r)
  | k :: ks, r => if ws.getD (p ||| 2 ^ k) 0 ≤ r then turnN ws p ks (r - ws.getD (p ||| 2 ^ k) 0) else (k, r)
def spTurn : Sp := fun vs H Q _ => ∃ (b w : Addr) (bs : List (List Nat)) (ws : List Nat) (p r : Nat), vs = [.ref b, .ref w, nInt p, nInt r] ∧ BarsAt H b bs ∧ bs.length ≤ 12 ∧ (∀ l, l ∈ bs → l.length ≤ 1000) ∧ H w = some (.lst (ws.map nInt)) ∧ ws.length = 2 ^ bs.length ∧ p < 2 ^ bs.length ∧ r < ((freeN bs p).map fun k => ws.getD (p ||| 2 ^ k) 0).sum ∧
  ∀ (t : Addr) (H' : Hp), Same H H' → H' t = some (.tup [nInt (turnN ws p (freeN bs p) r).1, nInt (turnN ws p (freeN bs p) r).2]) → Q (.ref t) H'
theorem r_par2 {i j : Nat} {ta : TA} {D : Ends} {σ : L2.St} {H : Hp} (h : ta σ H fun vs H1 => ∃ v w, vs = [v, w] ∧ D.nx ((σ.set i (some v)).set j (some w)) H1) : tPar i j ta D σ H := h
abbrev slTurn : Stmt := top 47
section
variable {P : Program} {w : World} {K : PySem.W.Frag} {mg : Str → Option Value} {base : Heap} {C f : Addr} {fd : FuncData}
theorem sclTurn : FnScope ["bars", "ways", "placed", "number", "free", "rest"] ["bars", "ways", "placed", "number"] (defScope slTurn) := ⟨rfl, rfl, rfl, by decide +kernel, rfl, by decide +kernel, by decide +kernel⟩
theorem ok_turn (F : Fun K "turn" "turn" slTurn f fd) (DF : Df P w K mg base CX0 "free_after" 1 ["bars", "placed"] spFreeA) : FnOk P w K mg base CX0 2 f fd ["bars", "ways", "placed", "number"] spTurn := by
  refine F.ok sclTurn (fun vs H Q E h => ?_) (fun cdv A outer s H vs Q E hr h => ?_)
  · obtain ⟨b, w, bs, ws, p, r, rfl, _⟩ := h
    rfl
  · obtain ⟨b, wq, bs, ws, p, r, rfl, ba, l12, l1000, hw, wl, pn, rs, k⟩ := h
    refine ⟨_, (pss_cons (ps_par (i := 4) (j := 5) rfl sclTurn.nd rfl rfl (by decide) rfl rfl (pa_cons (pe_df DF hr (by decide) (pa_cons (pv 0) (pa_cons (pv 2) pa_nil))) (pa_cons (pv 3) pa_nil)) rfl)
  (pss_cons (ps_while PassesOwn.never (pt_cmpR op_ge (pv 5) (pe_ix ix_list (pv 1) (pe_op op_or (pv 2) (pe_op op_shl pe_int (pe_ix ix_list (pv 4) pe_int (fun _ _ => rfl)))) (fun _ _ => rfl)) (nomark _)) (pss_cons (ps_set (i := 5) sclTurn.nd rfl (Or.inl rfl) (pe_op op_sub (pv 5) (pe_ix ix_list (pv 1) (pe_op op_or (pv 2) (pe_op op_shl pe_int (pe_ix ix_list (pv 4) pe_int (fun _ _ => rfl)))) (fun _ _ => rfl))))
  (pss_one (ps_delL (pv 4) pe_int))))
  (pss_one (ps_ret (pe_tup (pa_cons (pe_ix ix_list (pv 4) pe_int (fun _ _ => rfl)) (pa_cons (pv 5) pa_nil))))))), ?_⟩
    walk_at "rd"
    refine r_par2 ?_
    walk_at "rd"
    refine ⟨b, bs, p, rfl, ba, by omega, l1000, fun fq H1 s1 nfq hf => ?_⟩
    walk_at "rd"
    refine ⟨_, _, rfl, ?_⟩
    have mem : ∀ kk, kk ∈ freeN bs p → kk < bs.length ∧ p ||| 2 ^ kk < ws.length := fun kk hk => by
      obtain ⟨f1, f2⟩ := freeN_mem hk
      exact ⟨f1, by rw [wl]; exact (or_bit pn f1 f2).2⟩
    have nf : fq ≠ wq := fun z => by rw [z, hw] at nfq; cases nfq
    walk_at "rd"
    refine while_by (fun σ H' => ∃ ks r', σ = [some (.ref b), some (.ref wq), some (nInt p), some (nInt r), some (.ref fq), some (nInt r')] ∧ Same H H' ∧ H' fq = some (.lst (List.map nInt ks)) ∧ turnN ws p ks r' = turnN ws p (freeN bs p) r ∧ r' < (ks.map fun k => ws.getD (p ||| 2 ^ k) 0).sum ∧ ∀ k, k ∈ ks → k ∈ freeN bs p)
      (fun σ H' => match H' fq with | some (.lst ws) => ws.length | _ => 0)
      ⟨freeN bs p, r, rfl, s1, hf, rfl, rs, fun k h => h⟩ ?_ (fun σ H Q Q' h ⟨v5, e5, v1, e1, v2, e2, v4, e4, p1, xs1, a1, z1, b1, b2, b3, b4, i2, j2, c1, c2, c3, i3, j3, d1, d2, p4, xs4, a4, z4, f1, f2, f3, f4, i5, j5, g1, g2, kq, ek, q⟩ => ⟨v5, e5, v1, e1, v2, e2, v4, e4, p1, xs1, a1, z1, b1, b2, b3, b4, i2, j2, c1, c2, c3, i3, j3, d1, d2, p4, xs4, a4, z4, f1, f2, f3, f4, i5, j5, g1, g2, kq, ek, h _ _ q⟩)
    rintro σ H2 ⟨ks, r', rfl, s2, hf2, tn, rs', sub⟩
    cases ks with
    | nil => cases rs'
    | cons k0 ks =>
      have k0m := sub k0 List.mem_cons_self
      obtain ⟨kl, pl⟩ := mem k0 k0m
      have hw2 := s2 _ _ hw
      unfold nInt at hf2
      unfold nInt
      walk_at "rd"
      have at0 : atI ((k0 :: ks).map fun (n : Nat) => V.int (n : Int)) 0 = some (.int (k0 : Int)) := atI_nat (j := 0) rfl
      have atw : atI (ws.map nInt) ((p ||| 2 ^ k0 : Nat) : Int) = some (.int (ws.getD (p ||| 2 ^ k0) 0 : Int)) := atI_nat (j := p ||| 2 ^ k0) (by
        rw [List.getElem?_map, List.getD_eq_getElem?_getD, List.getElem?_eq_getElem pl]; rfl)
      have pw : (1 : Int) * 2 ^ (k0 : Int).toNat = ((2 ^ k0 : Nat) : Int) := by rw [Int.toNat_natCast]; simp
      refine r_ixL (SqL.of hf2) at0 ?_
      refine ⟨1, (k0 : Int), rfl, rfl, ⟨by omega, by omega, by decide⟩, ?_⟩
      walk_at "rd"
      rw [pw, bor_nat]
      refine r_ixL (SqL.of hw2) atw ?_
      walk_at "rd"
      by_cases c : ws.getD (p ||| 2 ^ k0) 0 ≤ r'
      · refine ifT (decide_eq_true (by omega)) ?_
        walk_at "rd"
        refine r_ixL (SqL.of hf2) at0 ?_
        refine ⟨1, (k0 : Int), rfl, rfl, ⟨by omega, by omega, by decide⟩, ?_⟩
        walk_at "rd"
        rw [pw, bor_nat]
        refine r_ixL (SqL.of hw2) atw ?_
        walk_at "rd"
        dsimp only
        refine r_delL ?_
        walk_at "rd"
        refine ⟨fq, _, 0, rfl, rfl, hf2, Nat.zero_lt_succ _, ?_⟩
        rw [List.map_cons, List.sum_cons] at rs'
        refine ⟨⟨ks, r' - ws.getD (p ||| 2 ^ k0) 0, ?_, Same.upOff s2 nfq, upd_same, ?_, by omega, fun k h => sub k (List.mem_cons_of_mem _ h)⟩, ?_⟩
        · show [_, _, _, _, _, some (V.int ((r' : Int) - (ws.getD (p ||| 2 ^ k0) 0 : Int)))] = _
          rw [Int.ofNat_sub c]
        · rw [← tn, turnN, if_pos c]
        · rw [upd_same, hf2]
          show (ks.map _).length < ((k0 :: ks).map _).length
          rw [List.length_map, List.length_map, List.length_cons]
          omega
      · refine ifF (decide_eq_false (by omega)) ?_
        walk_at "rd"
        refine r_ixL (SqL.of hf2) at0 ?_
        walk_at "rd"
        refine ⟨by show 2 ≤ sizeLine; decide, fun t nt => ?_⟩
        refine k t _ (Same.up s2 nt) ?_
        rw [upd_same, ← tn, turnN, if_neg c]
        rfl
end
end Pk
set_option Elab.async false
set_option linter.all false
set_option maxRecDepth 100000
set_option maxHeartbeats 4000000
namespace Pk
open PySem L2
local macro_rules | `(tactic| walk_at "rd") => `(tactic| repeat (first
  | with_reducible refine r_seq ?_ | with_reducible refine r_nxt ?_ | with_reducible refine r_asg ?_ | with_reducible refine r_to ?_ | with_reducible refine r_ret ?_ | with_reducible refine r_for ?_ | with_reducible refine r_lc ?_ | with_reducible refine r_lc2 ?_ | with_reducible refine r_rng1 ?_ | with_reducible refine r_list ?_ | with_reducible refine r_tupI ?_ | with_reducible refine r_drop ?_ | with_reducible refine r_ifs ?_
  | with_reducible refine r_op ?_ | with_reducible refine r_c ?_ | with_reducible refine r_var rfl ?_ | with_reducible refine r_var (by assumption) ?_ | with_reducible refine r_I0 ?_ | with_reducible refine r_un ?_ | with_reducible refine r_U ?_ | with_reducible refine r_make ?_ | with_reducible refine r_makeS ?_ | with_reducible refine r_ifE ?_ | with_reducible refine r_cm ?_ | with_reducible refine r_mkV rfl ?_ | with_reducible refine r_sub ?_
  | with_reducible refine r_nil ?_ | with_reducible refine r_cons ?_ | with_reducible refine r_cb ?_ | with_reducible refine r_sl ?_ | with_reducible refine r_noP ?_ | with_reducible refine r_part ?_ | with_reducible refine r_isI ?_ | with_reducible refine r_lst ?_ | with_reducible refine r_tup ?_ | with_reducible refine r_call ?_ | with_reducible refine r_callS ?_ | with_reducible refine r_sFldU ?_ | with_reducible refine r_chain ?_ | with_reducible refine r_enum ?_ | with_reducible refine r_zip ?_ | with_reducible refine r_rng3 ?_ | with_reducible refine r_gtup ?_ | with_reducible refine r_methU ?_
  | with_reducible refine r_test ?_ | with_reducible refine r_B ?_ | with_reducible refine r_and ?_ | with_reducible refine r_or ?_ | with_reducible refine r_not ?_ | with_reducible refine r_andV ?_ | with_reducible refine r_orV ?_ | with_reducible refine r_notV ?_ | with_reducible refine r_bl ?_ | with_reducible refine r_yes ?_ | with_reducible refine r_int ?_ | with_reducible refine r_is0 ?_ | with_reducible refine r_is1 ?_ | with_reducible refine iteT ?_ | with_reducible refine iteF ?_ | with_reducible refine ite_nF ?_ | with_reducible refine ite_nT ?_
  | with_reducible refine r_mod (by decide) ?_ | with_reducible refine r_div (by decide) (by decide) ?_ | with_reducible refine r_mulR (by decide) (by decide) ?_ | with_reducible refine r_mulL (by decide) (by decide) ?_ | with_reducible refine r_pow (by decide) (by decide) (by decide) ?_))
/-! ### counting, with what it refuses -/
inductive Oc
  | ok | lim | bnd (n : Str) | ord | flt (f : Pr × Str × Pr)
def OutO (K : PySem.W.Frag) (CL CB CEO CN : Addr) (H : Hp) (E : XK) (o : Oc) (Good : Prop) : Prop := match o with
  | .ok => Good
  | .lim => RaisesI H E CL "limit" (.int 12)
  | .bnd n => RaisesI H E CB "name" (.str n)
  | .ord => RaisesI H E CEO "at" (.int (-1))
  | .flt f => RaisesF K H E CN f
def ocD : Oc → PyData
  | .ok => .none
  | .lim => .tuple [.str "limit", .int 12]
  | .bnd n => .tuple [.str "bound", .str n]
  | .ord => .tuple [.str "order", .int (-1)]
  | .flt f => .tuple [.str "fault", faD f]
/-- what comes of the kind and of the number of pairs -/
inductive CaseK (K : PySem.W.Frag) (R : Rw) (H : Hp) (v : V) : Oc → Prop
  | kind (d : PyData) (hd : Dp K H v d) (bd : BadK d) : CaseK K R H v (.bnd "kind")
  | lim (kd : Str) (e : v = .str kd) (hk : KD kd) (l : 12 < (cells R).length) : CaseK K R H v .lim
  | ok (kd : Str) (e : v = .str kd) (hk : KD kd) (l : (cells R).length ≤ 12) : CaseK K R H v .ok
inductive CaseA (K : PySem.W.Frag) (R : Rw) (H : Hp) (u v : V) : Oc → Prop
  | pre (o : Oc) (c : CaseK K R H v o) (n : o ≠ .ok) : CaseA K R H u v o
  | num (kd : Str) (e : v = .str kd) (hk : KD kd) (l : (cells R).length ≤ 12) (d : PyData) (hd : Dp K H u d) (b : betD 0 ((cntR R kd (cells R).length [] : Int) - 1) d = false) : CaseA K R H u v (.bnd "number")
  | ok (kd : Str) (e : v = .str kd) (hk : KD kd) (l : (cells R).length ≤ 12) (n : Nat) (eu : u = .int (n : Int)) (lt : n < cntR R kd (cells R).length []) : CaseA K R H u v .ok
inductive CaseN (K : PySem.W.Frag) (R : Rw) (zs : List Pr) (H : Hp) (v : V) : Oc → Prop
  | ord (b : BadO R zs) : CaseN K R zs H v .ord
  | pre (pm : zs.Perm (cells R)) (o : Oc) (c : CaseK K R H v o) (n : o ≠ .ok) : CaseN K R zs H v o
  | flt (pm : zs.Perm (cells R)) (kd : Str) (e : v = .str kd) (hk : KD kd) (l : (cells R).length ≤ 12) (f : Pr × Str × Pr) (fs : List (Pr × Str × Pr)) (a : allF R zs kd zs.length = f :: fs) : CaseN K R zs H v (.flt f)
  | ok (pm : zs.Perm (cells R)) (kd : Str) (e : v = .str kd) (hk : KD kd) (l : (cells R).length ≤ 12) (a : allF R zs kd zs.length = []) : CaseN K R zs H v .ok
def spCkCX (C CL : Addr) : Sp := fun vs H Q E => ∃ (x : Addr) (G : Hp) (R : Rw), vs = [.ref x] ∧ TbX C G x R ∧ Same G H ∧ (((cells R).length ≤ 12 ∧ Q .non H) ∨ (12 < (cells R).length ∧ RaisesI H E CL "limit" (.int 12)))
def spCountX (K : PySem.W.Frag) (C CL CB CEO CN : Addr) : Sp := fun vs H Q E => ∃ (p x : Addr) (G : Hp) (R : Rw) (v : V) (o : Oc), vs = [.ref x, v] ∧ TbX C G x R ∧ Same G H ∧ G p = none ∧ (∃ o, H p = some o) ∧ CaseK K R H v o ∧ OutO K CL CB CEO CN H E o (∀ (kd : Str) (H' : Hp), v = .str kd → Same H H' → Q (nInt (cntR R kd (cells R).length [])) H')
def spOrdAtX (K : PySem.W.Frag) (C CL CB CEO CN : Addr) : Sp := fun vs H Q E => ∃ (p x : Addr) (G : Hp) (R : Rw) (u v : V) (o : Oc), vs = [.ref x, u, v] ∧ TbX C G x R ∧ Same G H ∧ G p = none ∧ (∃ o, H p = some o) ∧ CaseA K R H u v o ∧ OutO K CL CB CEO CN H E o (∀ (r : V) (H' : Hp), Same H H' → Q r H')
def spNumOfX (K : PySem.W.Frag) (C CO CL CB CEO CN : Addr) : Sp := fun vs H Q E => ∃ (p x a : Addr) (G : Hp) (R : Rw) (zs : List Pr) (v : V) (o : Oc), vs = [.ref x, .ref a, v] ∧ OrW p C CO H x a G R zs ∧ CaseN K R zs H v o ∧ OutO K CL CB CEO CN H E o (∀ (r : V) (H' : Hp), Same H H' → Q r H')
/-! ### the order with a number -/
theorem gen_filt (cs : List Pr) (t : Pr → Bool) : ((List.range cs.length).filter fun k => t (cs.getD k (0, 0))).map (fun k => cs.getD k (0, 0)) = cs.filter t := by
  have ec : cs = (List.range cs.length).map fun k => cs.getD k (0, 0) := by
    apply List.ext_getElem
    · simp
    · intro n h1 h2
      simp [List.getD_eq_getElem?_getD, List.getElem?_eq_getElem h1]
  conv => rhs; rw [ec]
  rw [List.filter_map]; rfl
theorem free_map {R : Rw} {kd : Str} {ps : List Pr} : openL R kd ps = (freeN (barsL R kd) (maskL (cells R) ps)).map fun k => (cells R).getD k (0, 0) := by
  rw [free_open, gen_filt]; rfl
theorem free_way {R : Rw} {kd : Str} {ws : List Nat} {ps : List Pr} {f : Nat} (W : Ways (barsL R kd) ws) (nd : ps.Nodup) (sub : ∀ z, z ∈ ps → z ∈ cells R) (e : ps.length + (f + 1) = (cells R).length) :
    ∀ k, k ∈ freeN (barsL R kd) (maskL (cells R) ps) → (cells R)[k]? = some ((cells R).getD k (0, 0)) ∧ ws.getD (maskL (cells R) ps ||| 2 ^ k) 0 = cntR R kd f (ps ++ [(cells R).getD k (0, 0)]) := by
  intro k hk
  rw [free_open] at hk
  obtain ⟨hk, ho⟩ := List.mem_filter.mp hk
  have hk := List.mem_range.mp hk
  have ez : (cells R)[k]? = some ((cells R).getD k (0, 0)) := by rw [List.getD_eq_getElem?_getD, List.getElem?_eq_getElem hk]; rfl
  have zc := List.mem_of_getElem? ez
  unfold openB at ho
  rw [Bool.and_eq_true, Bool.not_eq_true', decide_eq_false_iff_not] at ho
  refine ⟨ez, ?_⟩
  rw [← mask_add (cells_nodup R) ez]
  refine ways_cnt W f _ (List.nodup_append.mpr ⟨nd, List.nodup_cons.mpr ⟨List.not_mem_nil, List.nodup_nil⟩, fun a ha b hb q => ?_⟩) (fun y hy => ?_) (by rw [List.length_append]; show ps.length + 1 + f = _; omega)
  · rw [List.mem_singleton.mp hb] at q
    exact ho.1 (q ▸ ha)
  · rcases List.mem_append.mp hy with hy | hy
    · exact sub y hy
    · rw [List.mem_singleton.mp hy]; exact zc
theorem turn_gen {cs : List Pr} {ws : List Nat} {p : Nat} {g : Pr → Nat} : ∀ {ks : List Nat} {r : Nat}, (∀ k, k ∈ ks → cs[k]? = some (cs.getD k (0, 0)) ∧ ws.getD (p ||| 2 ^ k) 0 = g (cs.getD k (0, 0))) → r < sumB g (ks.map fun k => cs.getD k (0, 0)) →
    (turnN ws p ks r).1 ∈ ks ∧ cs[(turnN ws p ks r).1]? = some (pickN g (ks.map fun k => cs.getD k (0, 0)) r).1 ∧ (turnN ws p ks r).2 = (pickN g (ks.map fun k => cs.getD k (0, 0)) r).2
  | [], r, _, h => absurd h (Nat.not_lt_zero _)
  | k :: ks, r, hk, h => by
    obtain ⟨h1, h2⟩ := hk k List.mem_cons_self
    unfold sumB at h
    rw [List.map_cons, List.map_cons, List.sum_cons] at h
    rw [List.map_cons, turnN, pickN, h2]
    by_cases c : g (cs.getD k (0, 0)) ≤ r
    · rw [if_pos c, if_pos c]
      obtain ⟨a, b⟩ := turn_gen (fun k hk' => hk k (List.mem_cons_of_mem _ hk')) (r := r - g (cs.getD k (0, 0))) (by unfold sumB; omega)
      exact ⟨List.mem_cons_of_mem _ a, b⟩
    · rw [if_neg c, if_neg c]
      exact ⟨List.mem_cons_self, h1, rfl⟩
theorem free_sum {R : Rw} {kd : Str} {ws : List Nat} {ps : List Pr} {f : Nat} (W : Ways (barsL R kd) ws) (nd : ps.Nodup) (sub : ∀ z, z ∈ ps → z ∈ cells R) (e : ps.length + (f + 1) = (cells R).length) :
    ((freeN (barsL R kd) (maskL (cells R) ps)).map fun k => ws.getD (maskL (cells R) ps ||| 2 ^ k) 0).sum = cntR R kd (f + 1) ps := by
  show _ = ((openL R kd ps).map fun z => cntR R kd f (ps ++ [z])).sum
  rw [free_map, List.map_map]
  congr 1
  exact List.map_congr_left fun k hk => (free_way W nd sub e k hk).2
theorem gp_cells {R : Rw} {zs : List Pr} (g : Gt R) (nd : zs.Nodup) (sub : ∀ z, z ∈ zs → z ∈ cells R) (le : zs.length ≤ 64) : Gp zs := ⟨nd, fun z hz => by
  obtain ⟨i, j, rfl, hi, hj, _⟩ := cells_nat (sub z hz)
  have h8 := g.h8
  have w8 := g.w8
  exact ⟨by show (0 : Int) ≤ (i : Int); omega, by show (i : Int) < 8; omega, by show (0 : Int) ≤ (j : Int); omega, by show (j : Int) < 8; omega⟩, le⟩
def spOrdAt (K : PySem.W.Frag) (C CO CB : Addr) : Sp := fun vs H Q E => ∃ (p x : Addr) (G : Hp) (R : Rw) (kd : Str) (v : V) (d : PyData), vs = [.ref x, v, .str kd] ∧ TbX C G x R ∧ Same G H ∧ G p = none ∧ (∃ o, H p = some o) ∧ KD kd ∧ (cells R).length ≤ 12 ∧ Dp K H v d ∧
  (∀ n : Nat, d = .int (n : Int) → n < cntR R kd (cells R).length [] → ∀ (y dy q : Addr) (H' : Hp), Same H H' → OrX p CO H' y dy q (atN R kd (cells R).length [] n) → Q (.ref y) H') ∧
  (betD 0 ((cntR R kd (cells R).length [] : Int) - 1) d = false → ∀ (dd : Addr) (H' : Hp), Same H H' → H dd = none → H' dd = some (.xd [("name", .str "number")]) → E (.ref CB) (some dd) H')
abbrev slOrdAt : Stmt := top 49
theorem sclOrdAt : FnScope ["table", "number", "kind", "bars", "ways", "pairs", "found", "placed", "rest", "k"] ["table", "number", "kind"] (defScope slOrdAt) := ⟨rfl, rfl, rfl, by decide +kernel, rfl, by decide +kernel, by decide +kernel⟩
/-! ### the number of an order -/
theorem plc_at {cs : List Pr} {k : Nat} {z : Pr} (nd : cs.Nodup) (e : cs[k]? = some z) : plc cs z = k := by
  obtain ⟨h1, q1⟩ := List.getElem?_eq_some_iff.mp e
  obtain ⟨h2, q2⟩ := List.getElem?_eq_some_iff.mp (plc_get (List.mem_of_getElem? e))
  exact (List.getElem_inj nd).mp (by rw [q1, q2])
theorem bef_sum {R : Rw} {kd : Str} {ws : List Nat} {ps : List Pr} {f : Nat} {z : Pr} (W : Ways (barsL R kd) ws) (nd : ps.Nodup) (sub : ∀ z, z ∈ ps → z ∈ cells R) (e : ps.length + (f + 1) = (cells R).length) :
    (((freeN (barsL R kd) (maskL (cells R) ps)).filter fun k => decide (k < plc (cells R) z)).map fun k => ws.getD (maskL (cells R) ps ||| 2 ^ k) 0).sum = sumB (fun y => cntR R kd f (ps ++ [y])) (befL R kd ps z) := by
  have fw := free_way W nd sub e
  unfold sumB befL
  rw [free_map, List.filter_map, List.map_map]
  congr 1
  rw [List.filter_congr (q := (fun y => decide (plc (cells R) y < plc (cells R) z)) ∘ fun k => (cells R).getD k (0, 0)) (fun k hk => by
    show decide (k < plc (cells R) z) = decide (plc (cells R) ((cells R).getD k (0, 0)) < plc (cells R) z)
    rw [plc_at (cells_nodup R) (fw k hk).1])]
  exact List.map_congr_left fun k hk => (fw k (List.mem_filter.mp hk).1).2
theorem GoW.at {R : Rw} {kd : Str} : ∀ {zs ps : List Pr} (m : Nat), GoW R kd ps zs → GoW R kd (ps ++ zs.take m) (zs.drop m)
  | zs, ps, 0, h => by rw [List.take_zero, List.append_nil]; exact h
  | [], ps, m + 1, h => by rw [List.take_nil, List.append_nil]; exact h
  | z :: zs, ps, m + 1, h => by
    have := GoW.at m h.2
    rw [List.append_assoc] at this
    exact this
def spNumOf (C CO : Addr) : Sp := fun vs H Q _ => ∃ (p x a : Addr) (G : Hp) (R : Rw) (zs : List Pr) (kd : Str), vs = [.ref x, .ref a, .str kd] ∧ OrG p C CO H x a G R zs ∧ KD kd ∧ (cells R).length ≤ 12 ∧ allF R zs kd zs.length = [] ∧ GoW R kd [] zs ∧ ∀ H' : Hp, Same H H' → Q (nInt (numN R kd [] zs)) H'
abbrev slNumOf : Stmt := top 50
theorem sclNumOf : FnScope ["table", "order", "kind", "bars", "pairs", "placed", "number", "ways", "pair", "k", "less"] ["table", "order", "kind"] (defScope slNumOf) := ⟨rfl, rfl, rfl, by decide +kernel, rfl, by decide +kernel, by decide +kernel⟩
section
variable {P : Program} {w : World} {K : PySem.W.Frag} {mg : Str → Option Value} {base : Heap} {C CO CL CB CEO CN f : Addr} {fd : FuncData}
theorem ok_ckCX {fT : Addr} {fdT : FuncData} (F : Fun K "check_countable" "check_countable" slCkC f fd) (T : Bt mg) {tk : Tok} (hM : mg "MOST_COUNTED" = some (.int 12 tk)) (A : TbC K C) (mT : Meth K C "__len__" fT) (oT : FnOk P w K mg base CX0 1 fT fdT ["self"] (spTLen C)) (bT : Binds K fdT ["self"] []) (EL : De P w K mg base "LimitExceeded" 3 (spErr1 K 1 CL "limit") CL) : FnOk P w K mg base (L2.CX P w) 5 f fd ["table"] (spCkCX C CL) := by
  refine F.okX sclCkC (fun vs H Q E h => ?_) (fun cdv A' outer s H vs Q E hr h => ?_)
  · obtain ⟨x, G, R, rfl, _⟩ := h
    rfl
  · obtain ⟨x, G, R, rfl, t, sG, k⟩ := h
    have hr2 := hr.mono (show 2 ≤ 4 by decide)
    refine ⟨_, (pss_one (ps_if (pt_cmpR op_gt (pe_callB (call_lenOwn (D := E0) ⟨fT, fdT, _, mT, oT, bT⟩ hr2 pass0) (by rfl) T.len PySem.boot_len (pa_cons (pv 0) pa_nil)) (pe_glob (v := .int 12) (by rfl) hM ⟨tk, rfl⟩) (nomark _)) (pss_one (ps_rse rfl (takes_of rfl rfl rfl rfl) EL hr (by decide) (pa_cons (pe_glob (v := .int 12) (by rfl) hM ⟨tk, rfl⟩) pa_nil))) pss_nil)), ?_⟩
    obtain ⟨_, dx, _, _, _, ho, _, _⟩ := id t
    walk_at "rd"
    have c64 := cells_len t.g
    refine r_ownLen (sG _ _ ho) ⟨x, G, R, rfl, t, sG, _, rfl, by omega, ?_⟩
    walk_at "rd"
    rcases k with ⟨l12, k⟩ | ⟨l12, k⟩
    · refine ifF (decide_eq_false (by omega)) ?_
      walk_at "rd"
      exact k
    · refine ifT (decide_eq_true (by omega)) ?_
      walk_at "rd"
      refine r_mkErr ?_
      walk_at "rd"
      refine r_err1 (σ := []) (.int _) (.int _) fun dd v' H' s1 h1 h2 o1 => ?_
      cases o1
      exact k dd H' s1 h1 h2
theorem ok_countX (F : FunD K "count" "count" (defArgs slCount) (defBody slCount) (defScope slCount) [] [("kind", .str "even")] f fd) (DK : Df P w K mg base (L2.CX P w) "check_kind" 5 ["kind"] (spChKX K CB)) (DC : Df P w K mg base (L2.CX P w) "check_countable" 5 ["table"] (spCkCX C CL)) (DB : Df P w K mg base CX0 "bars_of" 4 ["table", "kind"] (spBarsOf C)) (DW : Df P w K mg base CX0 "ways_after" 2 ["bars"] spWaysA) :
    FnOk P w K mg base (L2.CX P w) 8 f fd ["table", "kind"] (spCountX K C CL CB CEO CN) := by
  refine F.ok sclCount (fun vs H Q E h => ?_) (fun cdv A' outer s H vs Q E hr h => ?_)
  · obtain ⟨p, x, G, R, v, o, rfl, _⟩ := h
    rfl
  · obtain ⟨p, x, G, R, v, o, rfl, t, sG, off, hp, c, k⟩ := h
    refine ⟨_, (pss_cons (ps_expr (pe_dfS (takes_of rfl rfl rfl rfl) DK hr (by decide) (pa_cons (pv 1) pa_nil)))
  (pss_cons (ps_expr (pe_dfS (takes_of rfl rfl rfl rfl) DC hr (by decide) (pa_cons (pv 0) pa_nil)))
  (pss_one (ps_ret (pe_ix ix_list (pe_df DW hr (by decide) (pa_cons (pe_df DB hr (by decide) (pa_cons (pv 0) (pa_cons (pv 1) pa_nil))) pa_nil)) pe_int (fun _ _ => rfl)))))), ?_⟩
    have g := t.g
    walk_at "rd"
    cases c with
    | kind d hd bd => exact ⟨v, rfl, .inr ⟨d, hd, bd, k⟩⟩
    | lim kd e hk l =>
      subst e
      refine ⟨_, rfl, .inl ⟨kd, rfl, hk, ?_⟩⟩
      walk_at "rd"
      exact ⟨x, G, R, rfl, t, sG, .inr ⟨l, k⟩⟩
    | ok kd e hk l12 =>
    subst e
    have k : ∀ (H' : Hp), Same H H' → Q (nInt (cntR R kd (cells R).length [])) H' := fun H' s' => k kd H' rfl s'
    have bl : (barsL R kd).length = (cells R).length := by unfold barsL; rw [List.length_map]
    refine ⟨_, rfl, .inl ⟨kd, rfl, hk, ?_⟩⟩
    walk_at "rd"
    refine ⟨x, G, R, rfl, t, sG, .inl ⟨l12, ?_⟩⟩
    walk_at "rd"
    refine ⟨p, x, G, R, kd, rfl, t, sG, off, hp, fun r H1 s1 ba => ?_⟩
    walk_at "rd"
    refine ⟨r, _, rfl, ba, by omega, fun l hl => ?_, fun wy ws H2 s2 h2 W => ?_⟩
    · unfold barsL at hl
      obtain ⟨z, _, rfl⟩ := List.mem_map.mp hl
      rw [List.length_map]
      exact needs_len g
    · have wl := W.len
      have ppos : 0 < 2 ^ (barsL R kd).length := Nat.pow_pos (by decide)
      have c0 := ways_cnt W (cells R).length [] List.nodup_nil (fun z h => by cases h) (Nat.zero_add _)
      rw [mask_nil] at c0
      walk_at "rd"
      refine r_ixL (SqL.of h2) (atI_nat (j := 0) (by rw [List.getElem?_map, List.getElem?_eq_getElem (show 0 < ws.length by omega)]; rfl)) ?_
      have e2 : nInt (ws[0]'(by omega)) = nInt (cntR R kd (cells R).length []) := by
        rw [← c0, List.getD_eq_getElem?_getD, List.getElem?_eq_getElem (show 0 < ws.length by omega)]; rfl
      rw [e2]
      exact k H2 (s1.trans s2)
end
end Pk
set_option Elab.async false
set_option linter.all false
set_option maxRecDepth 100000
set_option maxHeartbeats 4000000
namespace Pk
open PySem L2
local macro_rules | `(tactic| walk_at "rd") => `(tactic| repeat (first
  | with_reducible refine r_seq ?_ | with_reducible refine r_nxt ?_ | with_reducible refine r_asg ?_ | with_reducible refine r_to ?_ | with_reducible refine r_ret ?_ | with_reducible refine r_for ?_ | with_reducible refine r_lc ?_ | with_reducible refine r_lc2 ?_ | with_reducible refine r_rng1 ?_ | with_reducible refine r_list ?_ | with_reducible refine r_tupI ?_ | with_reducible refine r_drop ?_ | with_reducible refine r_ifs ?_
  | with_reducible refine r_op ?_ | with_reducible refine r_c ?_ | with_reducible refine r_var rfl ?_ | with_reducible refine r_var (by assumption) ?_ | with_reducible refine r_I0 ?_ | with_reducible refine r_un ?_ | with_reducible refine r_U ?_ | with_reducible refine r_make ?_ | with_reducible refine r_makeS ?_ | with_reducible refine r_ifE ?_ | with_reducible refine r_cm ?_ | with_reducible refine r_mkV rfl ?_ | with_reducible refine r_sub ?_
  | with_reducible refine r_nil ?_ | with_reducible refine r_cons ?_ | with_reducible refine r_cb ?_ | with_reducible refine r_sl ?_ | with_reducible refine r_noP ?_ | with_reducible refine r_part ?_ | with_reducible refine r_isI ?_ | with_reducible refine r_lst ?_ | with_reducible refine r_tup ?_ | with_reducible refine r_call ?_ | with_reducible refine r_callS ?_ | with_reducible refine r_sFldU ?_ | with_reducible refine r_chain ?_ | with_reducible refine r_enum ?_ | with_reducible refine r_zip ?_ | with_reducible refine r_rng3 ?_ | with_reducible refine r_gtup ?_ | with_reducible refine r_methU ?_
  | with_reducible refine r_test ?_ | with_reducible refine r_B ?_ | with_reducible refine r_and ?_ | with_reducible refine r_or ?_ | with_reducible refine r_not ?_ | with_reducible refine r_andV ?_ | with_reducible refine r_orV ?_ | with_reducible refine r_notV ?_ | with_reducible refine r_bl ?_ | with_reducible refine r_yes ?_ | with_reducible refine r_int ?_ | with_reducible refine r_is0 ?_ | with_reducible refine r_is1 ?_ | with_reducible refine iteT ?_ | with_reducible refine iteF ?_ | with_reducible refine ite_nF ?_ | with_reducible refine ite_nT ?_
  | with_reducible refine r_mod (by decide) ?_ | with_reducible refine r_div (by decide) (by decide) ?_ | with_reducible refine r_mulR (by decide) (by decide) ?_ | with_reducible refine r_mulL (by decide) (by decide) ?_ | with_reducible refine r_pow (by decide) (by decide) (by decide) ?_))
section
variable {P : Program} {w : World} {K : PySem.W.Frag} {mg : Str → Option Value} {base : Heap} {C CO CL CB CEO CN f : Addr} {fd : FuncData}
theorem ok_ordAtX {fQ : Addr} {fdQ : FuncData} (F : FunD K "order_at" "order_at" (defArgs slOrdAt) (defBody slOrdAt) (defScope slOrdAt) [] [("kind", .str "even")] f fd) (T : Bt mg) (A : TbC K C) (mQ : Meth K C "pairs" fQ) (oQ : FnOk P w K mg base CX0 1 fQ fdQ ["self"] (spTPrs C)) (bQ : Binds K fdQ ["self"] [])
    (DK : Df P w K mg base (L2.CX P w) "check_kind" 5 ["kind"] (spChKX K CB)) (DC : Df P w K mg base (L2.CX P w) "check_countable" 5 ["table"] (spCkCX C CL)) (DB : Df P w K mg base CX0 "bars_of" 4 ["table", "kind"] (spBarsOf C)) (DW : Df P w K mg base CX0 "ways_after" 2 ["bars"] spWaysA) (DT : Df P w K mg base CX0 "turn" 2 ["bars", "ways", "placed", "number"] spTurn)
    (DI : Df P w K mg base CX0 "is_between" 2 ["value", "low", "high"] (spBetD K)) (EB : De P w K mg base "InvalidBound" 3 (spErr1 K 1 CB "name") CB) (DO : Dk P w K mg base (L2.CX P w) "Order" 8 ["self", "pairs"] (spOrIF K CO CEO) CO) :
    FnOk P w K mg base (L2.CX P w) 10 f fd ["table", "number", "kind"] (spOrdAtX K C CL CB CEO CN) := by
  refine F.ok sclOrdAt (fun vs H Q E h => ?_) (fun cdv A' outer s H vs Q E hr h => ?_)
  · obtain ⟨p, x, G, R, u, v, o, rfl, _⟩ := h
    rfl
  · obtain ⟨p, x, G, R, v, kv, o, rfl, t, sG, off, ⟨op, hop⟩, c, k⟩ := h
    have hr1 := hr.mono (show 1 ≤ 9 by decide)
    refine ⟨_, (pss_cons (ps_expr (pe_dfS (takes_of rfl rfl rfl rfl) DK hr (by decide) (pa_cons (pv 2) pa_nil)))
  (pss_cons (ps_expr (pe_dfS (takes_of rfl rfl rfl rfl) DC hr (by decide) (pa_cons (pv 0) pa_nil)))
  (pss_cons (ps_set (i := 3) sclOrdAt.nd rfl (Or.inl rfl) (pe_df DB hr (by decide) (pa_cons (pv 0) (pa_cons (pv 2) pa_nil))))
  (pss_cons (ps_set (i := 4) sclOrdAt.nd rfl (Or.inl rfl) (pe_df DW hr (by decide) (pa_cons (pv 3) pa_nil)))
  (pss_cons (ps_if (pt_not (pt_val (pe_df DI hr (by decide) (pa_cons (pv 1) (pa_cons pe_int (pa_cons (pe_op op_sub (pe_ix ix_list (pv 4) pe_int (fun _ _ => rfl)) pe_int) pa_nil)))))) (pss_one (ps_rse rfl (takes_of rfl rfl rfl rfl) EB hr (by decide) (pa_cons pe_str pa_nil))) pss_nil)
  (pss_cons (ps_asg (pe_tup (pa_cons (pe_meth0 (pv 0) A.O.cl mQ oQ hr1 bQ .nil pass0) (pa_cons (pe_lst pa_nil) (pa_cons pe_int (pa_cons (pv 1) pa_nil))))) (pg_tup (by rfl) (pgs_cons (pg_name (i := 5) sclOrdAt.nd rfl (Or.inl rfl)) (pgs_cons (pg_name (i := 6) sclOrdAt.nd rfl (Or.inl rfl)) (pgs_cons (pg_name (i := 7) sclOrdAt.nd rfl (Or.inl rfl)) (pgs_cons (pg_name (i := 8) sclOrdAt.nd rfl (Or.inl rfl)) pgs_nil))))))
  (pss_cons (ps_while (passes_of rfl) (pt_cmpR op_lt (pe_callB cl_len (by rfl) T.len (by decide +kernel) (pa_cons (pv 6) pa_nil)) (pe_callB cl_len (by rfl) T.len (by decide +kernel) (pa_cons (pv 5) pa_nil)) (nomark _)) (pss_cons (ps_asg (pe_df DT hr (by decide) (pa_cons (pv 3) (pa_cons (pv 4) (pa_cons (pv 7) (pa_cons (pv 8) pa_nil))))) (pg_tup (by rfl) (pgs_cons (pg_name (i := 9) sclOrdAt.nd rfl (Or.inl rfl)) (pgs_cons (pg_name (i := 8) sclOrdAt.nd rfl (Or.inl rfl)) pgs_nil))))
  (pss_cons (ps_expr (pe_bm PySem.F.plainAttrs_list PySem.F.slot_list_append PySem.F.type_list_append mt_append (pv 6) (pa_cons (pe_ix ix_list (pv 5) (pv 9) (fun _ _ => rfl)) pa_nil)))
  (pss_one (ps_set (i := 7) sclOrdAt.nd rfl (Or.inl rfl) (pe_op op_or (pv 7) (pe_op op_shl pe_int (pv 9))))))))
  (pss_one (ps_ret (pe_dkS (takes_of rfl rfl rfl rfl) DO hr (by decide) (pa_cons (pv 6) pa_nil))))))))))), ?_⟩
    have g := t.g
    have tb : ∀ (kdZ : Str) (n : Nat), n < cntR R kdZ (cells R).length [] → betD 0 ((cntR R kdZ (cells R).length [] : Int) - 1) (.int (n : Int)) = true := fun kdZ n nl => by
      show (decide ((0 : Int) ≤ (n : Int)) && decide ((n : Int) ≤ (cntR R kdZ (cells R).length [] : Int) - 1)) = true
      rw [decide_eq_true (by omega), decide_eq_true (by omega)]; rfl
    have cs : (∃ d, Dp K H kv d ∧ BadK d ∧ RaisesI H E CB "name" (.str "kind")) ∨ (∃ kd, kv = .str kd ∧ KD kd ∧ 12 < (cells R).length ∧ RaisesI H E CL "limit" (.int 12)) ∨
      ∃ (kd : Str) (d : PyData), kv = .str kd ∧ KD kd ∧ (cells R).length ≤ 12 ∧ Dp K H v d ∧ (∀ n : Nat, d = .int (n : Int) → n < cntR R kd (cells R).length [] → ∀ (y dy q : Addr) (H' : Hp), Same H H' → OrX p CO H' y dy q (atN R kd (cells R).length [] n) → Q (.ref y) H') ∧
        (betD 0 ((cntR R kd (cells R).length [] : Int) - 1) d = false → ∀ (dd : Addr) (H' : Hp), Same H H' → H dd = none → H' dd = some (.xd [("name", .str "number")]) → E (.ref CB) (some dd) H') := by
      cases c with
      | pre o c n =>
        cases c with
        | kind d hd bd => exact .inl ⟨d, hd, bd, k⟩
        | lim kd e hk l => exact .inr (.inl ⟨kd, e, hk, l, k⟩)
        | ok kd e hk l => exact absurd rfl n
      | num kd e hk l d hd b =>
        refine .inr (.inr ⟨kd, d, e, hk, l, hd, fun n en nl => ?_, fun _ => k⟩)
        subst en
        rw [tb kd n nl] at b
        cases b
      | ok kd e hk l n eu lt =>
        refine .inr (.inr ⟨kd, .int (n : Int), e, hk, l, by rw [eu]; exact .int _, fun n' en nl y dy q H' s' X => k _ H' s', fun b => ?_⟩)
        rw [tb kd n lt] at b
        cases b
    walk_at "rd"
    rcases cs with ⟨d, hd, bd, r⟩ | ⟨kd, rfl, hk, l, r⟩ | ⟨kd, d, rfl, hk, l12, hd, k1, k2⟩
    · exact ⟨kv, rfl, .inr ⟨d, hd, bd, r⟩⟩
    · refine ⟨_, rfl, .inl ⟨kd, rfl, hk, ?_⟩⟩
      walk_at "rd"
      exact ⟨x, G, R, rfl, t, sG, .inr ⟨l, r⟩⟩
    · have bl : (barsL R kd).length = (cells R).length := by unfold barsL; rw [List.length_map]
      refine ⟨_, rfl, .inl ⟨kd, rfl, hk, ?_⟩⟩
      walk_at "rd"
      refine ⟨x, G, R, rfl, t, sG, .inl ⟨l12, ?_⟩⟩
      walk_at "rd"
      refine ⟨p, x, G, R, kd, rfl, t, sG, off, ⟨_, hop⟩, fun bq H1 s1 ba => ?_⟩
      walk_at "rd"
      have l1000 : ∀ l, l ∈ barsL R kd → l.length ≤ 1000 := fun l hl => by
        unfold barsL at hl
        obtain ⟨z, _, rfl⟩ := List.mem_map.mp hl
        rw [List.length_map]
        exact needs_len g
      refine ⟨bq, _, rfl, ba, by omega, l1000, fun wq ws H2 s2 h2 W => ?_⟩
      have wl := W.len
      have ppos : 0 < 2 ^ (barsL R kd).length := Nat.pow_pos (by decide)
      have c0 := ways_cnt W (cells R).length [] List.nodup_nil (fun z h => by cases h) (Nat.zero_add _)
      rw [mask_nil] at c0
      obtain ⟨N, eN⟩ : ∃ N, N = cntR R kd (cells R).length [] := ⟨_, rfl⟩
      rw [← eN] at c0 k1 k2
      have e2 : nInt (ws[0]'(by omega)) = nInt N := by
        rw [← c0, List.getD_eq_getElem?_getD, List.getElem?_eq_getElem (show 0 < ws.length by omega)]; rfl
      have s12 := s1.trans s2
      walk_at "rd"
      refine r_ixL (SqL.of h2) (atI_nat (j := 0) (by rw [List.getElem?_map, List.getElem?_eq_getElem (show 0 < ws.length by omega)]; rfl)) ?_
      rw [e2]
      unfold nInt
      walk_at "rd"
      refine ⟨v, d, 0, (N : Int) - 1, rfl, Dp.later s12 hd, ?_⟩
      walk_at "rd"
      by_cases b : betD 0 ((N : Int) - 1) d = true
      · refine ifF (by rw [b]; rfl) ?_
        obtain ⟨n, rfl, nN⟩ : ∃ n : Nat, d = .int (n : Int) ∧ n < N := by
          cases d with
          | int i =>
            have h2 : (decide ((0 : Int) ≤ i) && decide (i ≤ (N : Int) - 1)) = true := b
            rw [Bool.and_eq_true, decide_eq_true_eq, decide_eq_true_eq] at h2
            exact ⟨i.toNat, by rw [Int.toNat_of_nonneg h2.1], by omega⟩
          | _ => cases b
        obtain rfl := Dp.intV hd
        obtain ⟨g0, dx, e0, u0, es0, ho, hl0, hpl⟩ := id t
        have sG2 := sG.trans s12
        walk_at "rd"
        refine ⟨x, dx, _, rfl, sG2 _ _ ho, two_no (by decide +kernel) (by decide +kernel), ?_⟩
        walk_at "rd"
        refine ⟨x, G, R, rfl, t, sG2, fun r3 vs3 nr3 hv3 => ?_⟩
        have s3' := Same.up (o := .lst vs3) (Same.refl H2) nr3
        have hr3 : upd H2 r3 (.lst vs3) r3 = some (.lst vs3) := upd_same
        obtain ⟨H3, eH3⟩ : ∃ H3, H3 = upd H2 r3 (.lst vs3) := ⟨_, rfl⟩
        rw [← eH3] at s3' hr3 ⊢
        have sG3 := sG2.trans s3'
        have s3 := s12.trans s3'
        have pv3 : PrsAt p H3 vs3 (cells R) := by
          have : ∀ {vs : List V} {zs : List Pr}, PrsAt x G vs zs → PrsAt p H3 vs zs := fun {vs zs} h => by
            induction h with
            | nil => exact .nil
            | cons h _ ih =>
              obtain ⟨t, e, n, ht⟩ := h
              exact .cons ⟨t, e, (fun z => by rw [z, off] at ht; cases ht), sG3 _ _ ht⟩ ih
          exact this hv3
        walk_at "rd"
        refine ⟨by show 0 ≤ sizeLine; decide, fun D nD => ?_⟩
        have s4' := Same.up (o := .lst []) (Same.refl H3) nD
        have hD4 : upd H3 D (.lst []) D = some (.lst []) := upd_same
        obtain ⟨H4, eH4⟩ : ∃ H4, H4 = upd H3 D (.lst []) := ⟨_, rfl⟩
        rw [← eH4] at s4' hD4 ⊢
        walk_at "rd"
        refine ⟨by show 4 ≤ sizeLine; decide, fun t5 nt5 => ?_⟩
        have s5' := Same.up (o := .tup [V.ref r3, V.ref D, V.int 0, V.int (n : Int)]) (Same.refl H4) nt5
        have ht5 : upd H4 t5 (.tup [V.ref r3, V.ref D, V.int 0, V.int (n : Int)]) t5 = some (.tup [V.ref r3, V.ref D, V.int 0, V.int (n : Int)]) := upd_same
        obtain ⟨H5, eH5⟩ : ∃ H5, H5 = upd H4 t5 (.tup [V.ref r3, V.ref D, V.int 0, V.int (n : Int)]) := ⟨_, rfl⟩
        rw [← eH5] at s5' ht5 ⊢
        refine r_gtup ⟨t5, _, rfl, SqT.of ht5, rfl, _, _, rfl, ?_⟩
        walk_at "rd"
        refine ⟨_, _, rfl, ?_⟩
        walk_at "rd"
        refine ⟨_, _, rfl, ?_⟩
        walk_at "rd"
        refine ⟨_, _, rfl, ?_⟩
        walk_at "rd"
        refine ⟨rfl, ?_⟩
        have s35 := s4'.trans s5'
        have hD5 := s5' _ _ hD4
        have nd0 : ([] : List Pr).Nodup := List.nodup_nil
        have m0 : (0 : Int) = ((maskL (cells R) [] : Nat) : Int) := by rw [mask_nil]; rfl
        have mon : ∀ (σ : L2.St) (H : Hp) (Q Q' : Bool → Hp → Prop), (∀ b H1, Q b H1 → Q' b H1) → tTest (tOp (rI0 fun i j => .bl (decide (i < j))) (tCB (rLen K) (tCons (tVar 6) tNil)) (tCB (rLen K) (tCons (tVar 5) tNil))) σ H Q → tTest (tOp (rI0 fun i j => .bl (decide (i < j))) (tCB (rLen K) (tCons (tVar 6) tNil)) (tCB (rLen K) (tCons (tVar 5) tNil))) σ H Q' := by
          intro σ H Q Q' h ⟨v6, e6, l6, y6, q6, t6, v5, e5, l5, y5, q5, t5, i, j, g1, g2, kq, ek, q⟩
          exact ⟨v6, e6, l6, y6, q6, t6, v5, e5, l5, y5, q5, t5, i, j, g1, g2, kq, ek, h _ _ q⟩
        refine while_by (fun σ H' => ∃ us zs r' v9, σ = [some (.ref x), some (.int (n : Int)), some (.str kd), some (.ref bq), some (.ref wq), some (.ref r3), some (.ref D), some (.int ((maskL (cells R) zs : Nat) : Int)), some (.int ((r' : Nat) : Int)), v9] ∧ Same H3 H' ∧ H' D = some (.lst us) ∧ PrsAt p H' us zs ∧ zs.Nodup ∧ (∀ z, z ∈ zs → z ∈ cells R) ∧ zs.length ≤ (cells R).length ∧ atN R kd (cells R).length [] n = zs ++ atN R kd ((cells R).length - zs.length) zs r' ∧ r' < cntR R kd ((cells R).length - zs.length) zs)
          (fun σ H' => match H' D with | some (.lst us) => 12 - us.length | _ => 0)
          ⟨[], [], n, none, ?_, s35.trans (Same.refl H5), hD5, .nil, nd0, (fun z h => by cases h), Nat.zero_le _, rfl, by rw [List.length_nil, Nat.sub_zero, ← eN]; exact nN⟩ ?_ mon
        · rw [← m0]; rfl
        rintro σ H6 ⟨us, zs, r', v9, rfl, s6, hD6, pu, nd, sub, le, ea, rl⟩
        have ul := pu.length
        have vl3 := pv3.length
        have hr6 := s6 _ _ hr3
        walk_at "rd"
        refine r_lenL (SqL.of hD6) ?_
        walk_at "rd"
        refine r_lenL (SqL.of hr6) ?_
        walk_at "rd"
        by_cases c : us.length < vs3.length
        · refine ifT (decide_eq_true (by omega)) ?_
          obtain ⟨f, ef⟩ : ∃ f, (cells R).length - zs.length = f + 1 := ⟨(cells R).length - zs.length - 1, by omega⟩
          rw [ef] at ea rl
          have ze : zs.length + (f + 1) = (cells R).length := by omega
          have fs := free_sum W nd sub ze
          have rl' := rl
          rw [← fs] at rl'
          have ml := mask_lt (cs := cells R) (ps := zs)
          rw [← bl] at ml
          have fw := free_way W nd sub ze
          have tg := turn_gen (cs := cells R) (ws := ws) (p := maskL (cells R) zs) (g := fun y => cntR R kd f (zs ++ [y])) (r := r') fw (by
            rw [← free_map]
            exact rl)
          rw [← free_map] at tg
          obtain ⟨kk, ekk⟩ : ∃ kk, kk = (turnN ws (maskL (cells R) zs) (freeN (barsL R kd) (maskL (cells R) zs)) r').1 := ⟨_, rfl⟩
          obtain ⟨rr, err⟩ : ∃ rr, rr = (turnN ws (maskL (cells R) zs) (freeN (barsL R kd) (maskL (cells R) zs)) r').2 := ⟨_, rfl⟩
          rw [← ekk, ← err] at tg
          obtain ⟨tm, tc, tr⟩ := tg
          obtain ⟨i, z, hz1, hz2, hz3, hz4⟩ := pick_spec (g := fun y => cntR R kd f (zs ++ [y])) (l := openL R kd zs) (r := r') rl
          rw [hz2] at tc
          rw [← tr] at hz3 hz4
          have zo := List.mem_of_getElem? hz1
          have ba6 : BarsAt H6 bq (barsL R kd) := ba.same (s2.trans (s3'.trans s6))
          have hw6 := s6 _ _ (s3' _ _ h2)
          walk_at "rd"
          refine ⟨bq, wq, barsL R kd, ws, maskL (cells R) zs, r', rfl, ba6, by omega, l1000, hw6, W.len, ml, rl', fun t7 H7 s7 ht7 => ?_⟩
          rw [← ekk, ← err] at ht7
          refine r_gtup ⟨t7, _, rfl, SqT.of ht7, rfl, _, _, rfl, ?_⟩
          have r3D : r3 ≠ D := fun z => by rw [← z, hr3] at nD; cases nD
          have s67 := s6.trans s7
          have hr7 := s67 _ _ hr3
          have hD7 := s7 _ _ hD6
          have pv7 := pv3.keep (Keep.same s67)
          have pu7 := pu.keep (Keep.same s7)
          obtain ⟨v, ev, pz⟩ := pv7.get tc
          have kl : kk < (cells R).length := (List.getElem?_eq_some_iff.mp tc).1
          unfold nInt
          walk_at "rd"
          refine ⟨_, _, rfl, ?_⟩
          walk_at "rd"
          refine ⟨rfl, ?_⟩
          walk_at "rd"
          refine r_bm ?_
          walk_at "rd"
          refine ⟨.inl ⟨rfl, _, SqL.of hD7⟩, ?_⟩
          walk_at "rd"
          refine r_ixL (SqL.of hr7) (atI_nat (j := kk) ev) ?_
          walk_at "rd"
          refine ⟨D, us, _, rfl, rfl, hD7, Nat.lt_of_lt_of_le (show us.length < 13 by omega) (by decide), ?_⟩
          walk_at "rd"
          refine ⟨1, (kk : Int), rfl, rfl, ⟨by omega, by omega, by decide⟩, ?_⟩
          walk_at "rd"
          rw [show (1 : Int) * 2 ^ (kk : Int).toNat = ((2 ^ kk : Nat) : Int) by rw [Int.toNat_natCast]; simp, bor_nat, ← mask_add (cells_nodup R) tc]
          have nt7 : ∀ c xs, H7 c = some (.tup xs) → upd H7 D (.lst (us ++ [v])) c = some (.tup xs) := fun c xs e => by
            rw [upd_ne (fun z => by rw [z, hD7] at e; cases e)]
            exact e
          have zo' := zo
          unfold openL at zo'
          obtain ⟨zc, ob⟩ := List.mem_filter.mp zo'
          unfold openB at ob
          rw [Bool.and_eq_true, Bool.not_eq_true', decide_eq_false_iff_not] at ob
          have len1 : (zs ++ [z]).length = zs.length + 1 := List.length_append
          refine ⟨⟨us ++ [v], zs ++ [z], rr, some (.int (kk : Int)), rfl, Same.upOff s67 nD, upd_same, (pu7.mono nt7).app ((PrsAt.cons pz .nil).mono nt7), ?_, ?_, by omega, ?_, ?_⟩, ?_⟩
          · exact List.nodup_append.mpr ⟨nd, List.nodup_cons.mpr ⟨List.not_mem_nil, List.nodup_nil⟩, fun a ha b hb q => by
              rw [List.mem_singleton.mp hb] at q
              exact ob.1 (q ▸ ha)⟩
          · intro y hy
            rcases List.mem_append.mp hy with hy | hy
            · exact sub y hy
            · rw [List.mem_singleton.mp hy]; exact zc
          · rw [show (cells R).length - (zs ++ [z]).length = f by omega, ea, atN, hz2, ← tr, List.append_assoc]
            rfl
          · rw [show (cells R).length - (zs ++ [z]).length = f by omega]
            exact hz4
          · rw [upd_same, hD6]
            show 12 - (us ++ [v]).length < 12 - us.length
            rw [List.length_append]
            show 12 - (us.length + 1) < 12 - us.length
            omega
        · refine ifF (decide_eq_false (by omega)) ?_
          have e0 : (cells R).length - zs.length = 0 := by omega
          rw [e0] at ea
          have ea : atN R kd (cells R).length [] n = zs := by rw [ea]; exact List.append_nil _
          have hop6 := s6 _ _ (s3 _ _ hop)
          have Dp' : D ≠ p := fun z => by rw [z, s3 _ _ hop] at nD; cases nD
          walk_at "rd"
          intro y dy ny nd' ne
          show spOrIF K CO CEO [V.ref y, V.ref D] _ _ _
          exact mk_or ny nd' ne ⟨op, hop6⟩ ⟨Dp', us, hD6, pu⟩ (gp_cells g nd sub (by omega)) fun H7 q7 s7 X7 => k1 n rfl nN y dy q7 H7 (s3.trans (s6.trans s7)) (by rw [ea]; exact X7)
      · refine ifT (by rw [Bool.eq_false_iff.mpr b]; rfl) ?_
        walk_at "rd"
        refine r_mkErr ?_
        walk_at "rd"
        refine r_err1 (σ := []) (.str _) (.str _) fun dd v' H' s3 h1 h2 o1 => ?_
        cases o1
        exact k2 (Bool.eq_false_iff.mpr b) dd H' (s12.trans s3) (s12.free h1) h2
end
end Pk
set_option Elab.async false
set_option linter.all false
set_option maxRecDepth 100000
set_option maxHeartbeats 4000000
namespace Pk
open PySem L2
local macro_rules | `(tactic| walk_at "rd") => `(tactic| repeat (first
  | with_reducible refine r_seq ?_ | with_reducible refine r_nxt ?_ | with_reducible refine r_asg ?_ | with_reducible refine r_to ?_ | with_reducible refine r_ret ?_ | with_reducible refine r_for ?_ | with_reducible refine r_lc ?_ | with_reducible refine r_lc2 ?_ | with_reducible refine r_rng1 ?_ | with_reducible refine r_list ?_ | with_reducible refine r_tupI ?_ | with_reducible refine r_drop ?_ | with_reducible refine r_ifs ?_
  | with_reducible refine r_op ?_ | with_reducible refine r_c ?_ | with_reducible refine r_var rfl ?_ | with_reducible refine r_var (by assumption) ?_ | with_reducible refine r_I0 ?_ | with_reducible refine r_un ?_ | with_reducible refine r_U ?_ | with_reducible refine r_make ?_ | with_reducible refine r_makeS ?_ | with_reducible refine r_ifE ?_ | with_reducible refine r_cm ?_ | with_reducible refine r_mkV rfl ?_ | with_reducible refine r_sub ?_
  | with_reducible refine r_nil ?_ | with_reducible refine r_cons ?_ | with_reducible refine r_cb ?_ | with_reducible refine r_sl ?_ | with_reducible refine r_noP ?_ | with_reducible refine r_part ?_ | with_reducible refine r_isI ?_ | with_reducible refine r_lst ?_ | with_reducible refine r_tup ?_ | with_reducible refine r_call ?_ | with_reducible refine r_callS ?_ | with_reducible refine r_sFldU ?_ | with_reducible refine r_chain ?_ | with_reducible refine r_enum ?_ | with_reducible refine r_zip ?_ | with_reducible refine r_rng3 ?_ | with_reducible refine r_gtup ?_ | with_reducible refine r_methU ?_
  | with_reducible refine r_test ?_ | with_reducible refine r_B ?_ | with_reducible refine r_and ?_ | with_reducible refine r_or ?_ | with_reducible refine r_not ?_ | with_reducible refine r_andV ?_ | with_reducible refine r_orV ?_ | with_reducible refine r_notV ?_ | with_reducible refine r_bl ?_ | with_reducible refine r_yes ?_ | with_reducible refine r_int ?_ | with_reducible refine r_is0 ?_ | with_reducible refine r_is1 ?_ | with_reducible refine iteT ?_ | with_reducible refine iteF ?_ | with_reducible refine ite_nF ?_ | with_reducible refine ite_nT ?_
  | with_reducible refine r_mod (by decide) ?_ | with_reducible refine r_div (by decide) (by decide) ?_ | with_reducible refine r_mulR (by decide) (by decide) ?_ | with_reducible refine r_mulL (by decide) (by decide) ?_ | with_reducible refine r_pow (by decide) (by decide) (by decide) ?_))
section
variable {P : Program} {w : World} {K : PySem.W.Frag} {mg : Str → Option Value} {base : Heap} {C CO CL CB CEO CN f : Addr} {fd : FuncData}
theorem ok_numOfX {fQ fO : Addr} {fdQ fdO : FuncData} (F : FunD K "number_of" "number_of" (defArgs slNumOf) (defBody slNumOf) (defScope slNumOf) [] [("kind", .str "even")] f fd) (T : Bt mg) (A : TbC K C) (mQ : Meth K C "pairs" fQ) (oQ : FnOk P w K mg base CX0 1 fQ fdQ ["self"] (spTPrs C)) (bQ : Binds K fdQ ["self"] [])
    (O : OwnC K CO) (mO : Meth K CO "pairs" fO) (oO : FnOk P w K mg base CX0 1 fO fdO ["self"] (spPairsO CO)) (bO : Binds K fdO ["self"] [])
    (DO : Df P w K mg base (L2.CX P w) "check_order" 6 ["table", "order"] (spChOX C CO CEO)) (DK : Df P w K mg base (L2.CX P w) "check_kind" 5 ["kind"] (spChKX K CB)) (DC : Df P w K mg base (L2.CX P w) "check_countable" 5 ["table"] (spCkCX C CL)) (DR : Df P w K mg base (L2.CX P w) "check_right" 6 ["table", "order", "kind"] (spCkRX K C CO CN))
    (DB : Df P w K mg base CX0 "bars_of" 4 ["table", "kind"] (spBarsOf C)) (DW : Df P w K mg base CX0 "ways_after" 2 ["bars"] spWaysA) (DF : Df P w K mg base CX0 "free_after" 1 ["bars", "placed"] spFreeA) :
    FnOk P w K mg base (L2.CX P w) 8 f fd ["table", "order", "kind"] (spNumOfX K C CO CL CB CEO CN) := by
  refine F.ok sclNumOf (fun vs H Q E h => ?_) (fun cdv A' outer s H vs Q E hr h => ?_)
  · obtain ⟨p, x, a, G, R, zs, v, o, rfl, _⟩ := h
    rfl
  · obtain ⟨p, x, a, G, R, zs, v, o, rfl, Lw, c, kc⟩ := h
    have hr1 := hr.mono (show 1 ≤ 7 by decide)
    refine ⟨_, (pss_cons (ps_expr (pe_dfS (takes_of rfl rfl rfl rfl) DO hr (by decide) (pa_cons (pv 0) (pa_cons (pv 1) pa_nil))))
  (pss_cons (ps_expr (pe_dfS (takes_of rfl rfl rfl rfl) DK hr (by decide) (pa_cons (pv 2) pa_nil)))
  (pss_cons (ps_expr (pe_dfS (takes_of rfl rfl rfl rfl) DC hr (by decide) (pa_cons (pv 0) pa_nil)))
  (pss_cons (ps_expr (pe_dfS (takes_of rfl rfl rfl rfl) DR hr (by decide) (pa_cons (pv 0) (pa_cons (pv 1) (pa_cons (pv 2) pa_nil)))))
  (pss_cons (ps_asg (pe_tup (pa_cons (pe_df DB hr (by decide) (pa_cons (pv 0) (pa_cons (pv 2) pa_nil))) (pa_cons (pe_meth0 (pv 0) A.O.cl mQ oQ hr1 bQ .nil pass0) (pa_cons pe_int (pa_cons pe_int pa_nil))))) (pg_tup (by rfl) (pgs_cons (pg_name (i := 3) sclNumOf.nd rfl (Or.inl rfl)) (pgs_cons (pg_name (i := 4) sclNumOf.nd rfl (Or.inl rfl)) (pgs_cons (pg_name (i := 5) sclNumOf.nd rfl (Or.inr rfl)) (pgs_cons (pg_name (i := 6) sclNumOf.nd rfl (Or.inl rfl)) pgs_nil))))))
  (pss_cons (ps_set (i := 7) sclNumOf.nd rfl (Or.inr rfl) (pe_df DW hr (by decide) (pa_cons (pv 3) pa_nil)))
  (pss_cons (ps_for (passes_of rfl) rfl (pi_list (pe_meth0 (pv 1) O.cl mO oO hr1 bO .nil pass0)) (pg_name (i := 8) sclNumOf.nd rfl (Or.inl rfl)) (pss_cons (ps_set (i := 9) sclNumOf.nd rfl (Or.inr rfl) (pe_bm PySem.F.plainAttrs_list PySem.F.slot_list_index PySem.F.type_list_index (mt_indexD (hu65 hr)) (pv 4) (pa_cons (pv 8) pa_nil)))
  (pss_cons (ps_set (i := 6) sclNumOf.nd rfl (Or.inl rfl) (pe_op op_add (pv 6) (pe_callB (cr_sum rfl) (by rfl) T.sum (by decide +kernel) (pa_cons (pe_lc (own := [("less", 10)]) (g := gName 10) (te := tOp (rIxL K) (tVar 7) (tOp (rI0 fun i j => .int (Builtin.bitOr i j)) (tVar 5) (tOp (rI CPow fun i j => .int (i * 2 ^ j.toNat)) (tC (.int 1)) (tVar 10)))) rfl sclNumOf.nd (pi_list (pe_df DF hr (by decide) (pa_cons (pv 3) (pa_cons (pv 5) pa_nil)))) (blkOk_by (own := [("less", 10)]) (N := ["table", "order", "kind", "bars", "pairs", "placed", "number", "ways", "pair", "k", "less"]) (sc := defScope slNumOf) (by decide +kernel)) (fun _ _ _ _ _ => pg_name (i := 10) sclNumOf.nd rfl (Or.inl rfl)) (fun _ _ _ _ _ => pts_one (pt_cmpR op_lt (pv 10) (pv 9) (nomark _))) (fun _ _ _ _ _ => (pe_ix ix_list (pv 7) (pe_op op_or (pv 5) (pe_op op_shl pe_int (pv 10))) (fun _ _ => rfl)))) pa_nil))))
  (pss_one (ps_set (i := 5) sclNumOf.nd rfl (Or.inr rfl) (pe_op op_or (pv 5) (pe_op op_shl pe_int (pv 9))))))))
  (pss_one (ps_ret (pv 6)))))))))), ?_⟩
    have t := Lw.t
    have g := t.g
    walk_at "rd"
    cases c with
    | ord b => exact ⟨p, x, a, G, R, zs, rfl, Lw, .inr ⟨b, kc⟩⟩
    | pre pm o c n =>
      refine ⟨p, x, a, G, R, zs, rfl, Lw, .inl ⟨pm, fun H1 s1 => ?_⟩⟩
      walk_at "rd"
      cases c with
      | kind d hd bd => exact ⟨v, rfl, .inr ⟨d, Dp.later s1 hd, bd, RaisesI.later kc s1⟩⟩
      | lim kd e hk l =>
        subst e
        refine ⟨_, rfl, .inl ⟨kd, rfl, hk, ?_⟩⟩
        walk_at "rd"
        exact ⟨x, G, R, rfl, t, Lw.s.trans s1, .inr ⟨l, RaisesI.later kc s1⟩⟩
      | ok kd e hk l => exact absurd rfl n
    | flt pm kd e hk l12 f fs af =>
      subst e
      refine ⟨p, x, a, G, R, zs, rfl, Lw, .inl ⟨pm, fun H1 s1 => ?_⟩⟩
      walk_at "rd"
      refine ⟨_, rfl, .inl ⟨kd, rfl, hk, ?_⟩⟩
      walk_at "rd"
      refine ⟨x, G, R, rfl, t, Lw.s.trans s1, .inl ⟨l12, ?_⟩⟩
      walk_at "rd"
      exact ⟨p, x, a, G, R, zs, kd, rfl, (Lw.same s1).g pm, .inr ⟨f, fs, af, RaisesF.later kc s1⟩⟩
    | ok pm kd e hk l12 af =>
    subst e
    have L := Lw.g pm
    have gw : GoW R kd [] zs := (walk_cnt pm ((right_all fun z hz => pm.mem_iff.mp hz).mpr af)).1
    have k : ∀ H' : Hp, Same H H' → Q (nInt (numN R kd [] zs)) H' := fun H' s' => kc _ H' s'
    have bl : (barsL R kd).length = (cells R).length := by unfold barsL; rw [List.length_map]
    refine ⟨p, x, a, G, R, zs, rfl, Lw, .inl ⟨pm, fun H1 s1 => ?_⟩⟩
    have L1 := L.same s1
    walk_at "rd"
    refine ⟨_, rfl, .inl ⟨kd, rfl, hk, ?_⟩⟩
    walk_at "rd"
    refine ⟨x, G, R, rfl, t, L1.s, .inl ⟨l12, ?_⟩⟩
    walk_at "rd"
    refine ⟨p, x, a, G, R, zs, kd, rfl, L1, .inl ⟨af, fun H2 s2 => ?_⟩⟩
    have L2' := L1.same s2
    walk_at "rd"
    refine ⟨p, x, G, R, kd, rfl, t, L2'.s, L2'.off, L2'.pp, fun bq H3 s3 ba => ?_⟩
    have L3 := L2'.same s3
    obtain ⟨g0, dx, e0, u0, es0, ho, hl0, hpl⟩ := id t
    walk_at "rd"
    refine ⟨x, dx, _, rfl, L3.s _ _ ho, two_no (by decide +kernel) (by decide +kernel), ?_⟩
    walk_at "rd"
    refine ⟨x, G, R, rfl, t, L3.s, fun r4 vs4 nr4 hv4 => ?_⟩
    have s4' := Same.up (o := .lst vs4) (Same.refl H3) nr4
    have hr4 : upd H3 r4 (.lst vs4) r4 = some (.lst vs4) := upd_same
    obtain ⟨H4, eH4⟩ : ∃ H4, H4 = upd H3 r4 (.lst vs4) := ⟨_, rfl⟩
    rw [← eH4] at s4' hr4 ⊢
    have L4 := L3.same s4'
    have pv4 : PrsAt p H4 vs4 (cells R) := by
      have : ∀ {vs : List V} {zs : List Pr}, PrsAt x G vs zs → PrsAt p H4 vs zs := fun {vs zs} h => by
        induction h with
        | nil => exact .nil
        | cons h _ ih =>
          obtain ⟨t, e, n, ht⟩ := h
          exact .cons ⟨t, e, (fun z => by rw [z, L4.off] at ht; cases ht), L4.s _ _ ht⟩ ih
      exact this hv4
    walk_at "rd"
    refine ⟨by show 4 ≤ sizeLine; decide, fun t5 nt5 => ?_⟩
    have s5' := Same.up (o := .tup [V.ref bq, V.ref r4, V.int 0, V.int 0]) (Same.refl H4) nt5
    have ht5 : upd H4 t5 (.tup [V.ref bq, V.ref r4, V.int 0, V.int 0]) t5 = some (.tup [V.ref bq, V.ref r4, V.int 0, V.int 0]) := upd_same
    obtain ⟨H5, eH5⟩ : ∃ H5, H5 = upd H4 t5 (.tup [V.ref bq, V.ref r4, V.int 0, V.int 0]) := ⟨_, rfl⟩
    rw [← eH5] at s5' ht5 ⊢
    refine r_gtup ⟨t5, _, rfl, SqT.of ht5, rfl, _, _, rfl, ?_⟩
    walk_at "rd"
    refine ⟨_, _, rfl, ?_⟩
    walk_at "rd"
    refine ⟨_, _, rfl, ?_⟩
    walk_at "rd"
    refine ⟨_, _, rfl, ?_⟩
    walk_at "rd"
    refine ⟨rfl, ?_⟩
    walk_at "rd"
    have l1000 : ∀ l, l ∈ barsL R kd → l.length ≤ 1000 := fun l hl => by
      unfold barsL at hl
      obtain ⟨z, _, rfl⟩ := List.mem_map.mp hl
      rw [List.length_map]
      exact needs_len g
    have ba5 : BarsAt H5 bq (barsL R kd) := ba.same (s4'.trans s5')
    refine ⟨bq, _, rfl, ba5, by omega, l1000, fun wq ws H6 s6 h6 W => ?_⟩
    have wl := W.len
    have L6 := (L4.same s5').same s6
    obtain ⟨dxo, q, X⟩ := id L6.o
    obtain ⟨naq, us, haq, hus⟩ := id X.l
    walk_at "rd"
    refine ⟨a, dxo, _, rfl, X.o, one_no (by decide +kernel), ?_⟩
    walk_at "rd"
    refine ⟨p, a, dxo, q, zs, us, rfl, X, haq, fun r7 nr7 => ?_⟩
    have s7' := Same.up (o := .lst us) (Same.refl H6) nr7
    have hr7 : upd H6 r7 (.lst us) r7 = some (.lst us) := upd_same
    obtain ⟨H7, eH7⟩ : ∃ H7, H7 = upd H6 r7 (.lst us) := ⟨_, rfl⟩
    rw [← eH7] at s7' hr7 ⊢
    have hu7 := hus.keep (Keep.same s7')
    have s47 := s5'.trans (s6.trans s7')
    have hr47 := s47 _ _ hr4
    have pv7 := pv4.keep (Keep.same s47)
    have ba7 := ba5.same (s6.trans s7')
    have hw7 := s7' _ _ h6
    have zl := L.pm.length_eq
    have ul := hu7.length
    have znd : zs.Nodup := L.pm.nodup_iff.mpr (cells_nodup R)
    have s07 := s1.trans (s2.trans (s3.trans (s4'.trans s47)))
    obtain ⟨N, eN⟩ : ∃ N, N = numN R kd [] zs := ⟨_, rfl⟩
    rw [← eN] at k
    refine ⟨r7, rfl, ⟨_, SqL.of hr7⟩, for_it walk_list (fun m σ H' => ∃ (no : Nat) (v8 v9 v10 : Option V), σ = [some (.ref x), some (.ref a), some (.str kd), some (.ref bq), some (.ref r4), some (.int ((maskL (cells R) (zs.take m) : Nat) : Int)), some (.int (no : Int)), some (.ref wq), v8, v9, v10] ∧ Same H7 H' ∧ no + numN R kd (zs.take m) (zs.drop m) = N) ⟨0, none, none, none, ?_, Same.refl H7, by rw [Nat.zero_add, eN]; rfl⟩ (fun m σ H' _ z => by obtain ⟨_, _, _, _, _, z, _⟩ := z; exact SqL.of (z _ _ hr7)) ?_ ?_⟩
    · rw [List.take_zero, mask_nil]; rfl
    · rintro m y σ H80 H8 hm ⟨no, v8, v9, v10, rfl, s8, en⟩ ⟨rfl, ey⟩
      have hm : m < us.length := hm
      obtain ⟨z, ez, pz⟩ := hu7.at ey
      have zc : z ∈ cells R := L.pm.mem_iff.mp (List.mem_of_getElem? ez)
      have pl : plc (cells R) z < (cells R).length := (List.getElem?_eq_some_iff.mp (plc_get zc)).1
      have ed : zs.drop m = z :: zs.drop (m + 1) := by
        obtain ⟨h1, h2⟩ := List.getElem?_eq_some_iff.mp ez
        rw [List.drop_eq_getElem_cons h1, h2]
      have tk : zs.take (m + 1) = zs.take m ++ [z] := by rw [List.take_add_one, ez]; rfl
      have ndt : (zs.take m).Nodup := znd.sublist (List.take_sublist _ _)
      have subt : ∀ y, y ∈ zs.take m → y ∈ cells R := fun y hy => L.pm.mem_iff.mp (List.mem_of_mem_take hy)
      have lt : (zs.take m).length = m := by rw [List.length_take]; omega
      have ld : (zs.drop (m + 1)).length = (cells R).length - m - 1 := by rw [List.length_drop]; omega
      have bs_ := bef_sum (z := z) (f := (zs.drop (m + 1)).length) W ndt subt (by omega)
      rw [ed, numN, ← bs_] at en
      walk_at "rd"
      refine r_bm ?_
      walk_at "rd"
      refine ⟨.inl ⟨rfl, _, SqL.of (s8 _ _ hr47)⟩, ?_⟩
      walk_at "rd"
      refine r_idxD (s8 _ _ hr47) (pv7.keep (Keep.same s8)) (pz.keep (Keep.same s8)) (cells_nodup R) zc ?_
      walk_at "rd"
      have ml := mask_lt (cs := cells R) (ps := zs.take m)
      rw [← bl] at ml
      refine ⟨bq, barsL R kd, _, rfl, ba7.same s8, by omega, l1000, fun fq H9 s9 nfq hf => ?_⟩
      obtain ⟨FR, eFR⟩ : ∃ FR, FR = freeN (barsL R kd) (maskL (cells R) (zs.take m)) := ⟨_, rfl⟩
      have fl : FR.length ≤ 12 := by
        rw [eFR]
        unfold freeN
        have := List.length_filter_le (fun k => !(maskL (cells R) (zs.take m)).testBit k && ((barsL R kd).getD k []).all fun b => decide (maskL (cells R) (zs.take m) &&& b ≠ 0)) (List.range (barsL R kd).length)
        rw [List.length_range] at this
        omega
      rw [← eFR] at hf en
      have s89 := s8.trans s9
      have hw9 := s89 _ _ hw7
      refine ⟨fq, rfl, ⟨_, SqL.of hf⟩, fun D nD => lc_it walk_list (fun i H' => Same H9 H' ∧ H' D = some (.lst ((((FR.take i).filter fun k => decide (k < plc (cells R) z)).map fun k => ws.getD (maskL (cells R) (zs.take m) ||| 2 ^ k) 0).map nInt))) ⟨Same.up (Same.refl H9) nD, upd_same⟩ (fun i H' _ z => SqL.of (z.1 _ _ hf)) ?_ ?_⟩
      · rintro i y2 Hx Hy hi ⟨sx, hD⟩ ⟨rfl, ey2⟩
        rw [List.getElem?_map] at ey2
        obtain ⟨kk, ekk, rfl⟩ := Option.map_eq_some_iff.mp ey2
        have km : kk ∈ freeN (barsL R kd) (maskL (cells R) (zs.take m)) := by rw [← eFR]; exact List.mem_of_getElem? ekk
        obtain ⟨f1, f2⟩ := freeN_mem km
        have ob := or_bit (n := (barsL R kd).length) ml f1 f2
        have tk2 : FR.take (i + 1) = FR.take i ++ [kk] := by rw [List.take_add_one, ekk]; rfl
        have fl2 : ((FR.take i).filter fun k => decide (k < plc (cells R) z)).length ≤ 12 := by
          refine Nat.le_trans (List.length_filter_le _ _) ?_
          rw [List.length_take]
          omega
        walk_at "rd"
        refine ⟨rfl, ?_⟩
        unfold nInt at hD
        unfold nInt
        walk_at "rd"
        rw [tk2, List.filter_append, List.map_append, List.map_append]
        by_cases c : kk < plc (cells R) z
        · refine ifT (decide_eq_true (by omega)) ?_
          walk_at "rd"
          refine ⟨1, (kk : Int), rfl, rfl, ⟨by omega, by omega, by decide⟩, ?_⟩
          walk_at "rd"
          rw [show (1 : Int) * 2 ^ (kk : Int).toNat = ((2 ^ kk : Nat) : Int) by rw [Int.toNat_natCast]; simp, bor_nat]
          refine r_ixL (SqL.of (sx _ _ hw9)) (atI_nat (j := maskL (cells R) (zs.take m) ||| 2 ^ kk) (v := .int (ws.getD (maskL (cells R) (zs.take m) ||| 2 ^ kk) 0 : Int)) (by rw [List.getElem?_map, List.getD_eq_getElem?_getD, List.getElem?_eq_getElem (show maskL (cells R) (zs.take m) ||| 2 ^ kk < ws.length by omega)]; rfl)) ?_
          refine ⟨_, hD, by rw [List.length_map, List.length_map]; exact Nat.lt_of_le_of_lt fl2 (by decide), Same.upOff sx nD, ?_⟩
          rw [upd_same, List.filter_cons_of_pos (by exact decide_eq_true c)]
          rfl
        · refine ifF (decide_eq_false (by omega)) ?_
          refine ⟨sx, ?_⟩
          rw [hD, List.filter_cons_of_neg (by exact fun q => c (of_decide_eq_true q))]
          simp
      · rintro Hx ⟨sx, hD⟩
        rw [show (FR.map nInt).length = FR.length from List.length_map .., List.take_of_length_le (Nat.le_refl _), nInt_map] at hD
        walk_at "rd"
        refine r_sum (SqL.of hD) ?_
        rw [sum_nat]
        walk_at "rd"
        refine ⟨1, (plc (cells R) z : Int), rfl, rfl, ⟨by omega, by omega, by decide⟩, ?_⟩
        walk_at "rd"
        rw [show (1 : Int) * 2 ^ (plc (cells R) z : Int).toNat = ((2 ^ plc (cells R) z : Nat) : Int) by rw [Int.toNat_natCast]; simp, bor_nat, ← mask_add (cells_nodup R) (plc_get zc), ← tk]
        refine ⟨_, _, _, _, rfl, s89.trans sx, ?_⟩
        rw [← en, tk, Nat.add_assoc]
    · rintro σ H8 ⟨no, v8, v9, v10, rfl, s8, en⟩
      rw [List.drop_of_length_le (by omega)] at en
      have en : no = N := en
      walk_at "rd"
      rw [en]
      exact k H8 (s07.trans s8)
end
end Pk
set_option Elab.async false
set_option linter.all false
set_option maxRecDepth 100000
set_option maxHeartbeats 1000000
namespace Pk
open PySem L2 PySem.Spec PyProof.Rows
/-- a def with one keyword-only parameter, called with it within a try (or where what it raises is let out) -/
theorem pe_kdS {X : Cx} {k j n : Nat} {ps : List Str} {kw : Str} {sp : Sp} {x : Str} {p pos : Pos} {e : Expr} {es : List Expr} {kws : List Keyword} {t tk : TA} {W : WX} (tw : Takes X W)
    (D : Dkw X.prog X.w X.K X.mg X.base (L2.CX X.prog X.w) x k ps n kw sp) (hr : Room j X.A) (l : k ≤ j) (ha : PA X (e :: es) t) (hkw : PK X kws tk) (hg : Gl X x := by rfl)
    (hall : (backToKw pos (keywordEach kws X.env)).all (·.1.isSome) = true := by rfl) (hks : (backToKw pos (keywordEach kws X.env)).filterMap (·.1) = [kw] := by rfl) (hdb : (x == ("__debug__" : Str)) = false := by decide)
    (he : starEach (e :: es) X.env = (false, eval e X.env) :: starEach es X.env := by rfl) (hpl : ((backTo pos (starEach (e :: es) X.env)).any (·.1) || (backToKw pos (keywordEach kws X.env)).any (·.1.isNone)) = false := by rfl) :
    PE X (.Call (.Name x p) (e :: es) kws pos) (tKwS n [kw].length sp (fun vs zs => vs ++ zs) (WE W) t tk) := by
  obtain ⟨f, fd, D⟩ := D
  exact pe_kwS D.ok (hr.mono l) D.at_ D.kp D.kb (fun σ => passAt tw σ) ha hkw hg hall hks hdb he hpl
/-- .. called without it -/
theorem pe_kd0 {X : Cx} {k j n : Nat} {ps : List Str} {kw : Str} {sp : Sp} {x : Str} {p pos : Pos} {e : Expr} {es : List Expr} {t : TA}
    (D : Dkw X.prog X.w X.K X.mg X.base CX0 x k ps n kw sp) (hr : Room j X.A) (l : k ≤ j) (ha : PA X (e :: es) t) (hg : Gl X x := by rfl) (hdb : (x == ("__debug__" : Str)) = false := by decide)
    (he : starEach (e :: es) X.env = (false, eval e X.env) :: starEach es X.env := by rfl) (hpl : (backTo pos (starEach es X.env)).any (·.1) = false := by rfl) :
    PE X (.Call (.Name x p) (e :: es) [] pos) (tCallSD sp [.str "even"] (fun _ => E0) t) := by
  obtain ⟨f, fd, D⟩ := D
  obtain ⟨ds, hd, hb⟩ := D.dd
  exact pe_callSD D.ok (hr.mono l) hg D.at_ D.kp hb hd (passN pass0) ha hdb he hpl
theorem r_callSD {sp : Sp} {dvs : List V} {E : L2.St → XK} {t : TA} {σ : L2.St} {H : Hp} {Q : VK} (h : t σ H fun vs H1 => sp (vs ++ dvs) H1 Q (E σ)) : tCallSD sp dvs E t σ H Q := h
end Pk
set_option Elab.async false
set_option linter.all false
set_option maxRecDepth 100000
set_option maxHeartbeats 4000000
namespace Pk
open PySem L2
local macro_rules | `(tactic| walk_at "rd") => `(tactic| repeat (first
  | with_reducible refine r_seq ?_ | with_reducible refine r_nxt ?_ | with_reducible refine r_asg ?_ | with_reducible refine r_to ?_ | with_reducible refine r_ret ?_ | with_reducible refine r_for ?_ | with_reducible refine r_lc ?_ | with_reducible refine r_lc2 ?_ | with_reducible refine r_rng1 ?_ | with_reducible refine r_list ?_ | with_reducible refine r_tupI ?_ | with_reducible refine r_drop ?_ | with_reducible refine r_ifs ?_
  | with_reducible refine r_op ?_ | with_reducible refine r_c ?_ | with_reducible refine r_var rfl ?_ | with_reducible refine r_var (by assumption) ?_ | with_reducible refine r_I0 ?_ | with_reducible refine r_un ?_ | with_reducible refine r_U ?_ | with_reducible refine r_make ?_ | with_reducible refine r_makeS ?_ | with_reducible refine r_ifE ?_ | with_reducible refine r_cm ?_ | with_reducible refine r_mkV rfl ?_ | with_reducible refine r_sub ?_
  | with_reducible refine r_nil ?_ | with_reducible refine r_cons ?_ | with_reducible refine r_cb ?_ | with_reducible refine r_sl ?_ | with_reducible refine r_noP ?_ | with_reducible refine r_part ?_ | with_reducible refine r_isI ?_ | with_reducible refine r_lst ?_ | with_reducible refine r_tup ?_ | with_reducible refine r_call ?_ | with_reducible refine r_callS ?_ | with_reducible refine r_sFldU ?_ | with_reducible refine r_chain ?_ | with_reducible refine r_enum ?_ | with_reducible refine r_zip ?_ | with_reducible refine r_rng3 ?_ | with_reducible refine r_gtup ?_ | with_reducible refine r_methU ?_
  | with_reducible refine r_test ?_ | with_reducible refine r_B ?_ | with_reducible refine r_and ?_ | with_reducible refine r_or ?_ | with_reducible refine r_not ?_ | with_reducible refine r_andV ?_ | with_reducible refine r_orV ?_ | with_reducible refine r_notV ?_ | with_reducible refine r_bl ?_ | with_reducible refine r_yes ?_ | with_reducible refine r_int ?_ | with_reducible refine r_is0 ?_ | with_reducible refine r_is1 ?_ | with_reducible refine iteT ?_ | with_reducible refine iteF ?_ | with_reducible refine ite_nF ?_ | with_reducible refine ite_nT ?_
  | with_reducible refine r_mod (by decide) ?_ | with_reducible refine r_div (by decide) (by decide) ?_ | with_reducible refine r_mulR (by decide) (by decide) ?_ | with_reducible refine r_mulL (by decide) (by decide) ?_ | with_reducible refine r_pow (by decide) (by decide) (by decide) ?_))
/-! ### which error a call raises -/
inductive CaseL (K : PySem.W.Frag) (R : Rw) (zs : List Pr) (H : Hp) (u v : V) : Int → Oc → Prop
  | cnt (o : Oc) (c : CaseK K R H v o) : CaseL K R zs H u v 0 o
  | at_ (o : Oc) (c : CaseA K R H u v o) : CaseL K R zs H u v 1 o
  | num (o : Oc) (c : CaseN K R zs H v o) : CaseL K R zs H u v 2 o
def spLCall (K : PySem.W.Frag) (C CO CL CB CEO CN : Addr) : Sp := fun vs H Q E => ∃ (p x a : Addr) (G : Hp) (R : Rw) (zs : List Pr) (u v : V) (c : Int) (o : Oc), vs = [.ref x, .ref a, u, v, .int c] ∧ OrW p C CO H x a G R zs ∧ CaseL K R zs H u v c o ∧ OutO K CL CB CEO CN H E o (∀ (r : V) (H' : Hp), Same H H' → Q r H')
def spRef52 (K : PySem.W.Frag) (C CO : Addr) : Sp := fun vs H Q _ => ∃ (p x a : Addr) (G : Hp) (R : Rw) (zs : List Pr) (u v : V) (c : Int) (o : Oc), vs = [.ref x, .ref a, u, v, .int c] ∧ OrW p C CO H x a G R zs ∧ CaseL K R zs H u v c o ∧ ∀ (r : V) (H' : Hp), Same H H' → Dp K H' r (ocD o) → Q r H'
abbrev slLCall : Stmt := top 71
abbrev slRef52 : Stmt := top 72
abbrev nmRef52 : List Str := ["_law_table", "_law_order", "_law_number", "_law_sort", "_law_choice", "_law_refused", "e"]
section
variable {P : Program} {w : World} {K : PySem.W.Frag} {mg : Str → Option Value} {base : Heap} {C CO CL CB CEO CN CPE f : Addr} {fd : FuncData}
theorem sclLCall : FnScope ["_law_table", "_law_order", "_law_number", "_law_sort", "_law_choice"] ["_law_table", "_law_order", "_law_number", "_law_sort", "_law_choice"] (defScope slLCall) := ⟨rfl, rfl, rfl, by decide +kernel, rfl, by decide +kernel, by decide +kernel⟩
theorem ok_lCall (F : Fun K "_law_call" "_law_call" slLCall f fd)
    (DC : Dkw P w K mg base (L2.CX P w) "count" 8 ["table", "kind"] 1 "kind" (spCountX K C CL CB CEO CN)) (DA : Dkw P w K mg base (L2.CX P w) "order_at" 10 ["table", "number", "kind"] 2 "kind" (spOrdAtX K C CL CB CEO CN)) (DN : Dkw P w K mg base (L2.CX P w) "number_of" 8 ["table", "order", "kind"] 2 "kind" (spNumOfX K C CO CL CB CEO CN)) :
    FnOk P w K mg base (L2.CX P w) 11 f fd ["_law_table", "_law_order", "_law_number", "_law_sort", "_law_choice"] (spLCall K C CO CL CB CEO CN) := by
  refine F.okX sclLCall (fun vs H Q E h => ?_) (fun cdv A' outer s H vs Q E hr h => ?_)
  · obtain ⟨p, x, a, G, R, zs, u, v, c, o, rfl, _⟩ := h
    rfl
  · obtain ⟨p, x, a, G, R, zs, u, v, c, o, rfl, L, cs, k⟩ := h
    refine ⟨_, (pss_cons (ps_if (pt_cmpR op_eq (pv 4) pe_int (nomark _)) (pss_one (ps_ret (pe_kdS (takes_of rfl rfl rfl rfl) DC hr (by decide) (pa_cons (pv 0) pa_nil) (pk_cons (pv 3) pk_nil)))) pss_nil)
  (pss_cons (ps_if (pt_cmpR op_eq (pv 4) pe_int (nomark _)) (pss_one (ps_ret (pe_kdS (takes_of rfl rfl rfl rfl) DA hr (by decide) (pa_cons (pv 0) (pa_cons (pv 2) pa_nil)) (pk_cons (pv 3) pk_nil)))) pss_nil)
  (pss_one (ps_ret (pe_kdS (takes_of rfl rfl rfl rfl) DN hr (by decide) (pa_cons (pv 0) (pa_cons (pv 1) pa_nil)) (pk_cons (pv 3) pk_nil)))))), ?_⟩
    have mono : ∀ {o : Oc} {G1 G2 : Prop}, (G1 → G2) → OutO K CL CB CEO CN H E o G1 → OutO K CL CB CEO CN H E o G2 := fun {o G1 G2} g h => by
      cases o with
      | ok => exact g h
      | _ => exact h
    walk_at "rd"
    cases cs with
    | cnt o c =>
      refine r_eq rfl ?_
      refine ⟨_, rfl, ifT (decide_eq_true rfl) ?_⟩
      walk_at "rd"
      refine r_kwS ?_
      walk_at "rd"
      exact ⟨rfl, rfl, p, x, G, R, v, o, rfl, L.t, L.s, L.off, L.pp, c, mono (fun z kd H' _ s' => z _ H' s') k⟩
    | at_ o c =>
      refine r_eq rfl ?_
      refine ⟨_, rfl, ifF (decide_eq_false (by intro z; cases z)) ?_⟩
      walk_at "rd"
      refine r_eq rfl ?_
      refine ⟨_, rfl, ifT (decide_eq_true rfl) ?_⟩
      walk_at "rd"
      refine r_kwS ?_
      walk_at "rd"
      exact ⟨rfl, rfl, p, x, G, R, u, v, o, rfl, L.t, L.s, L.off, L.pp, c, k⟩
    | num o c =>
      refine r_eq rfl ?_
      refine ⟨_, rfl, ifF (decide_eq_false (by intro z; cases z)) ?_⟩
      walk_at "rd"
      refine r_eq rfl ?_
      refine ⟨_, rfl, ifF (decide_eq_false (by intro z; cases z)) ?_⟩
      walk_at "rd"
      refine r_kwS ?_
      walk_at "rd"
      exact ⟨rfl, rfl, p, x, a, G, R, zs, v, o, rfl, L, c, k⟩
theorem sclRef52 : FnScope nmRef52 ["_law_table", "_law_order", "_law_number", "_law_sort", "_law_choice"] (defScope slRef52) := ⟨rfl, rfl, rfl, by decide +kernel, rfl, by decide +kernel, by decide +kernel⟩
theorem ok_ref52 (F : Fun K "_law_refusal" "_law_refusal" slRef52 f fd) (T : Bt mg)
    (fl : PySem.W.findIn K (.ref CL) "limit" = some none) (fb : PySem.W.findIn K (.ref CB) "name" = some none) (fo : PySem.W.findIn K (.ref CEO) "at" = some none) (fn : PySem.W.findIn K (.ref CN) "fault" = some none)
    (gP : mg "PairError" = some (.ref CPE))
    (EL : De P w K mg base "LimitExceeded" 3 (spErr1 K 1 CL "limit") CL) (EB : De P w K mg base "InvalidBound" 3 (spErr1 K 1 CB "name") CB) (EO : De P w K mg base "InvalidOrder" 3 (spErr1 K 1 CEO "at") CEO) (EN : De P w K mg base "NotRight" 4 (spErr1 K 2 CN "fault") CN)
    (x1 : PySem.W.exmOne K (.ref CB) (.ref CL) = some false) (x2 : PySem.W.exmOne K (.ref CEO) (.ref CL) = some false) (x3 : PySem.W.exmOne K (.ref CEO) (.ref CB) = some false)
    (x4 : PySem.W.exmOne K (.ref CN) (.ref CL) = some false) (x5 : PySem.W.exmOne K (.ref CN) (.ref CB) = some false) (x6 : PySem.W.exmOne K (.ref CN) (.ref CEO) = some false)
    (DL : Df P w K mg base (L2.CX P w) "_law_call" 11 ["_law_table", "_law_order", "_law_number", "_law_sort", "_law_choice"] (spLCall K C CO CL CB CEO CN)) :
    FnOk P w K mg base CX0 12 f fd ["_law_table", "_law_order", "_law_number", "_law_sort", "_law_choice"] (spRef52 K C CO) := by
  obtain ⟨fH, EL⟩ := EL
  obtain ⟨fI, EO⟩ := EO
  obtain ⟨fJ, EB⟩ := EB
  obtain ⟨fK, EN⟩ := EN
  refine F.ok sclRef52 (fun vs H Q E h => ?_) (fun cdv A' outer s H vs Q E hr h => ?_)
  · obtain ⟨p, x, a, G, R, zs, u, v, c, o, rfl, _⟩ := h
    rfl
  · obtain ⟨p, x, a, G, R, zs, u, v, c, o, rfl, L, cs, k⟩ := h
    refine ⟨_, (pss_cons (ps_set (i := 5) sclRef52.nd rfl (Or.inl rfl) pe_non)
  (pss_cons (ps_try_asMany (Wout := fun _ _ _ _ => False)
    (tb := fun W => tDrop (tCallS (spLCall K C CO CL CB CEO CN) (WE W) (tCons (tVar 0) (tCons (tVar 1) (tCons (tVar 2) (tCons (tVar 3) (tCons (tVar 4) tNil)))))))
    (l := [(.ref CL, 6, fun a cls d => tAsg (tTup (tCons (tC (.str "limit")) (tCons (tXf a cls d CL "limit" (tVar 6)) tNil))) (gName 5)), (.ref CB, 6, fun a cls d => tAsg (tTup (tCons (tC (.str "bound")) (tCons (tXf a cls d CB "name" (tVar 6)) tNil))) (gName 5)), (.ref CEO, 6, fun a cls d => tAsg (tTup (tCons (tC (.str "order")) (tCons (tXf a cls d CEO "at" (tVar 6)) tNil))) (gName 5)), (.ref CN, 6, fun a cls d => tAsg (tTup (tCons (tC (.str "fault")) (tCons (tXf a cls d CN "fault" (tVar 6)) tNil))) (gName 5)), (.ref CPE, 0, fun _ _ _ _ _ _ => False)])
    rfl rfl sclRef52.nd takes0
    (fun W pn xe tk _ => (pss_one (ps_expr (pe_dfS tk DL hr (by decide) (pa_cons (pv 0) (pa_cons (pv 1) (pa_cons (pv 2) (pa_cons (pv 3) (pa_cons (pv 4) pa_nil)))))))))
    (.cons ⟨rfl, by decide, Or.inl EL.at_⟩ rfl rfl (fun a oe cls d pn hz hf => (pss_one (ps_set (i := 5) sclRef52.nd rfl (Or.inl rfl) (pe_tup (pa_cons pe_str (pa_cons (pe_xf EL.xf fl hz hf (pv 6)) pa_nil)))))) (.cons ⟨rfl, by decide, Or.inl EB.at_⟩ rfl rfl (fun a oe cls d pn hz hf => (pss_one (ps_set (i := 5) sclRef52.nd rfl (Or.inl rfl) (pe_tup (pa_cons pe_str (pa_cons (pe_xf EB.xf fb hz hf (pv 6)) pa_nil)))))) (.cons ⟨rfl, by decide, Or.inl EO.at_⟩ rfl rfl (fun a oe cls d pn hz hf => (pss_one (ps_set (i := 5) sclRef52.nd rfl (Or.inl rfl) (pe_tup (pa_cons pe_str (pa_cons (pe_xf EO.xf fo hz hf (pv 6)) pa_nil)))))) (.cons ⟨rfl, by decide, Or.inl EN.at_⟩ rfl rfl (fun a oe cls d pn hz hf => (pss_one (ps_set (i := 5) sclRef52.nd rfl (Or.inl rfl) (pe_tup (pa_cons pe_str (pa_cons (pe_xf EN.xf fn hz hf (pv 6)) pa_nil)))))) (.never ⟨rfl, by decide, Or.inl gP⟩ .nil))))))
  (pss_one (ps_ret (pv 5))))), ?_⟩
    walk_at "rd"
    refine ⟨p, x, a, G, R, zs, u, v, c, o, rfl, L, cs, ?_⟩
    cases o with
    | ok =>
      intro r H' s1
      walk_at "rd"
      exact k _ H' s1 .non
    | lim =>
      intro dd H' s1 h1 h2
      refine ⟨true, EL.xm, fun _ a0 _ => ?_, fun q => Bool.noConfusion q⟩
      refine r_asg ?_
      walk_at "rd"
      refine ⟨_, rfl, rfl, rfl, dd, _, _, rfl, h2, look1 _ _, ?_⟩
      walk_at "rd"
      refine ⟨by show 2 ≤ sizeLine; decide, fun t nt => ?_⟩
      have st := Same.up (o := .tup [V.str "limit", V.int 12]) (Same.refl H') nt
      walk_at "rd"
      dsimp only [goneAt]
      walk_at "rd"
      exact k _ _ (s1.trans st) (.tup (SqT.of upd_same) (.cons (.str _) (.cons (.int _) .nil)))
    | bnd n =>
      intro dd H' s1 h1 h2
      refine ⟨false, x1, fun q => Bool.noConfusion q, fun _ => ⟨true, EB.xm, fun _ a0 _ => ?_, fun q => Bool.noConfusion q⟩⟩
      refine r_asg ?_
      walk_at "rd"
      refine ⟨_, rfl, rfl, rfl, dd, _, _, rfl, h2, look1 _ _, ?_⟩
      walk_at "rd"
      refine ⟨by show 2 ≤ sizeLine; decide, fun t nt => ?_⟩
      have st := Same.up (o := .tup [V.str "bound", V.str n]) (Same.refl H') nt
      walk_at "rd"
      dsimp only [goneAt]
      walk_at "rd"
      exact k _ _ (s1.trans st) (.tup (SqT.of upd_same) (.cons (.str _) (.cons (.str _) .nil)))
    | ord =>
      intro dd H' s1 h1 h2
      refine ⟨false, x2, fun q => Bool.noConfusion q, fun _ => ⟨false, x3, fun q => Bool.noConfusion q, fun _ => ⟨true, EO.xm, fun _ a0 _ => ?_, fun q => Bool.noConfusion q⟩⟩⟩
      refine r_asg ?_
      walk_at "rd"
      refine ⟨_, rfl, rfl, rfl, dd, _, _, rfl, h2, look1 _ _, ?_⟩
      walk_at "rd"
      refine ⟨by show 2 ≤ sizeLine; decide, fun t nt => ?_⟩
      have st := Same.up (o := .tup [V.str "order", V.int (-1)]) (Same.refl H') nt
      walk_at "rd"
      dsimp only [goneAt]
      walk_at "rd"
      exact k _ _ (s1.trans st) (.tup (SqT.of upd_same) (.cons (.str _) (.cons (.int _) .nil)))
    | flt f =>
      intro dd v2 H' s1 h1 h2 hv
      refine ⟨false, x4, fun q => Bool.noConfusion q, fun _ => ⟨false, x5, fun q => Bool.noConfusion q, fun _ => ⟨false, x6, fun q => Bool.noConfusion q, fun _ => ⟨true, EN.xm, fun _ a0 _ => ?_, fun q => Bool.noConfusion q⟩⟩⟩⟩
      refine r_asg ?_
      walk_at "rd"
      refine ⟨_, rfl, rfl, rfl, dd, _, _, rfl, h2, look1 _ _, ?_⟩
      walk_at "rd"
      refine ⟨by show 2 ≤ sizeLine; decide, fun t nt => ?_⟩
      have st := Same.up (o := .tup [V.str "fault", v2]) (Same.refl H') nt
      walk_at "rd"
      dsimp only [goneAt]
      walk_at "rd"
      exact k _ _ (s1.trans st) (.tup (SqT.of upd_same) (.cons (.str _) (.cons (Dp.later st hv) .nil)))
end
end Pk
set_option Elab.async false
set_option linter.all false
set_option maxRecDepth 100000
set_option maxHeartbeats 4000000
namespace Pk
open PySem L2
local macro_rules | `(tactic| walk_at "rd") => `(tactic| repeat (first
  | with_reducible refine r_seq ?_ | with_reducible refine r_nxt ?_ | with_reducible refine r_asg ?_ | with_reducible refine r_to ?_ | with_reducible refine r_ret ?_ | with_reducible refine r_for ?_ | with_reducible refine r_lc ?_ | with_reducible refine r_lc2 ?_ | with_reducible refine r_rng1 ?_ | with_reducible refine r_list ?_ | with_reducible refine r_tupI ?_ | with_reducible refine r_drop ?_ | with_reducible refine r_ifs ?_
  | with_reducible refine r_op ?_ | with_reducible refine r_c ?_ | with_reducible refine r_var rfl ?_ | with_reducible refine r_var (by assumption) ?_ | with_reducible refine r_I0 ?_ | with_reducible refine r_un ?_ | with_reducible refine r_U ?_ | with_reducible refine r_make ?_ | with_reducible refine r_makeS ?_ | with_reducible refine r_ifE ?_ | with_reducible refine r_cm ?_ | with_reducible refine r_mkV rfl ?_ | with_reducible refine r_sub ?_
  | with_reducible refine r_nil ?_ | with_reducible refine r_cons ?_ | with_reducible refine r_cb ?_ | with_reducible refine r_sl ?_ | with_reducible refine r_noP ?_ | with_reducible refine r_part ?_ | with_reducible refine r_isI ?_ | with_reducible refine r_lst ?_ | with_reducible refine r_tup ?_ | with_reducible refine r_call ?_ | with_reducible refine r_callS ?_ | with_reducible refine r_sFldU ?_ | with_reducible refine r_chain ?_ | with_reducible refine r_enum ?_ | with_reducible refine r_zip ?_ | with_reducible refine r_rng3 ?_ | with_reducible refine r_gtup ?_ | with_reducible refine r_methU ?_
  | with_reducible refine r_test ?_ | with_reducible refine r_B ?_ | with_reducible refine r_and ?_ | with_reducible refine r_or ?_ | with_reducible refine r_not ?_ | with_reducible refine r_andV ?_ | with_reducible refine r_orV ?_ | with_reducible refine r_notV ?_ | with_reducible refine r_bl ?_ | with_reducible refine r_yes ?_ | with_reducible refine r_int ?_ | with_reducible refine r_is0 ?_ | with_reducible refine r_is1 ?_ | with_reducible refine iteT ?_ | with_reducible refine iteF ?_ | with_reducible refine ite_nF ?_ | with_reducible refine ite_nT ?_
  | with_reducible refine r_mod (by decide) ?_ | with_reducible refine r_div (by decide) (by decide) ?_ | with_reducible refine r_mulR (by decide) (by decide) ?_ | with_reducible refine r_mulL (by decide) (by decide) ?_ | with_reducible refine r_pow (by decide) (by decide) (by decide) ?_))
/-! ### what is refused whatever the rest -/
theorem cnt_pow {R : Rw} {kd : Str} : ∀ (f : Nat) (ps : List Pr), cntR R kd f ps ≤ (cells R).length ^ f
  | 0, _ => Nat.le_refl 1
  | f + 1, ps => by
    show ((openL R kd ps).map fun z => cntR R kd f (ps ++ [z])).sum ≤ _
    have gen : ∀ l : List Pr, (l.map fun z => cntR R kd f (ps ++ [z])).sum ≤ l.length * (cells R).length ^ f := by
      intro l
      induction l with
      | nil => exact Nat.zero_le _
      | cons z l ih =>
        rw [List.map_cons, List.sum_cons, List.length_cons, Nat.succ_mul, Nat.add_comm]
        exact Nat.add_le_add ih (cnt_pow f (ps ++ [z]))
    refine Nat.le_trans (gen _) ?_
    rw [Nat.pow_succ, Nat.mul_comm]
    exact Nat.mul_le_mul_left _ (List.length_filter_le _ _)
theorem cnt_few {R : Rw} {kd : Str} (l : (cells R).length ≤ 12) : cntR R kd (cells R).length [] ≤ 12 ^ 12 := by
  refine Nat.le_trans (cnt_pow _ _) (Nat.le_trans (Nat.pow_le_pow_left l _) (Nat.pow_le_pow_right (by decide) l))
theorem oc_eqv (o : Oc) : PyData.eqv (ocD o) (ocD o) = true := by
  cases o <;> exact eqv_plain (by simp [ocD, faD, prD, PyData.plain, PyData.plainAll])
def spBnds (K : PySem.W.Frag) (C CO : Addr) : Sp := fun vs H Q _ => ∃ (p x a b : Addr) (G : Hp) (R : Rw) (zs ys : List Pr) (t : Bool), vs = [.ref x, .ref a, .ref b, .bl t] ∧ OrW p C CO H x a G R zs ∧ OrW p C CO H x b G R ys ∧ zs.Perm (cells R) ∧ BadO R ys ∧ t = decide (12 < (cells R).length) ∧ ∀ H' : Hp, Same H H' → Q (.bl true) H'
abbrev slBnds : Stmt := top 74
abbrev nmBnds : List Str := ["_law_table", "_law_order", "_law_other", "_law_large", "_law_wrong", "_law_choice", "_law_due"]
section
variable {P : Program} {w : World} {K : PySem.W.Frag} {mg : Str → Option Value} {base : Heap} {C CO f : Addr} {fd : FuncData}
theorem sclBnds : FnScope nmBnds ["_law_table", "_law_order", "_law_other", "_law_large"] (defScope slBnds) := ⟨rfl, rfl, rfl, by decide +kernel, rfl, by decide +kernel, by decide +kernel⟩
theorem ok_bnds (F : Fun K "_law_refuses_bounds" "_law_refuses_bounds" slBnds f fd) (T : Bt mg) (DR : Df P w K mg base CX0 "_law_refusal" 12 ["_law_table", "_law_order", "_law_number", "_law_sort", "_law_choice"] (spRef52 K C CO)) : FnOk P w K mg base CX0 13 f fd ["_law_table", "_law_order", "_law_other", "_law_large"] (spBnds K C CO) := by
  refine F.ok sclBnds (fun vs H Q E h => ?_) (fun cdv A' outer s H vs Q E hr h => ?_)
  · obtain ⟨p, x, a, b, G, R, zs, ys, t, rfl, _⟩ := h
    rfl
  · obtain ⟨p, x, a, b, G, R, zs, ys, t, rfl, L, M, pm, bad, et, k⟩ := h
    refine ⟨_, (pss_cons (ps_for PassesOwn.never rfl (pi_list (pe_lst (pa_cons pe_str (pa_cons pe_str (pa_cons pe_non (pa_cons pe_bl (pa_cons pe_int (pa_cons (pe_lst (pa_cons pe_str pa_nil)) pa_nil)))))))) (pg_name (i := 4) sclBnds.nd rfl (Or.inl rfl)) (pss_cons (ps_for PassesOwn.never rfl (pi_range1 rfl T.range (pa_cons pe_int pa_nil)) (pg_name (i := 5) sclBnds.nd rfl (Or.inl rfl)) (pss_one (ps_if (pt_cmpR (op_neD hr.units) (pe_df DR hr (by decide) (pa_cons (pv 0) (pa_cons (pv 1) (pa_cons pe_int (pa_cons (pv 4) (pa_cons (pv 5) pa_nil)))))) (pe_tup (pa_cons pe_str (pa_cons pe_str pa_nil))) (nomark _)) (pss_one (ps_ret pe_bl)) pss_nil)))
  (pss_one (ps_if (pt_cmpR (op_neD hr.units) (pe_df DR hr (by decide) (pa_cons (pv 0) (pa_cons (pv 2) (pa_cons pe_int (pa_cons (pv 4) (pa_cons pe_int pa_nil)))))) (pe_tup (pa_cons pe_str (pa_cons (pe_un un_neg pe_int) pa_nil))) (nomark _)) (pss_one (ps_ret pe_bl)) pss_nil))))
  (pss_cons (ps_if (pt_cmpR (op_neD hr.units) (pe_df DR hr (by decide) (pa_cons (pv 0) (pa_cons (pv 2) (pa_cons pe_int (pa_cons pe_str (pa_cons pe_int pa_nil)))))) (pe_tup (pa_cons pe_str (pa_cons (pe_un un_neg pe_int) pa_nil))) (nomark _)) (pss_one (ps_ret pe_bl)) pss_nil)
  (pss_cons (ps_for PassesOwn.never rfl (pi_list (pe_lst (pa_cons pe_bl (pa_cons pe_str (pa_cons pe_non (pa_cons (pe_un un_neg pe_int) (pa_cons (pe_op op_pow pe_int pe_int) (pa_cons (pe_lst (pa_cons pe_int pa_nil)) (pa_cons (pe_tup (pa_cons pe_int pa_nil)) pa_nil))))))))) (pg_name (i := 4) sclBnds.nd rfl (Or.inl rfl)) (pss_cons (ps_set (i := 6) sclBnds.nd rfl (Or.inl rfl) (pe_tup (pa_cons pe_str (pa_cons pe_str pa_nil))))
  (pss_cons (ps_if (pt_val (pv 3)) (pss_one (ps_set (i := 6) sclBnds.nd rfl (Or.inl rfl) (pe_tup (pa_cons pe_str (pa_cons pe_int pa_nil))))) pss_nil)
  (pss_one (ps_if (pt_cmpR (op_neD hr.units) (pe_df DR hr (by decide) (pa_cons (pv 0) (pa_cons (pv 1) (pa_cons (pv 4) (pa_cons pe_str (pa_cons pe_int pa_nil)))))) (pv 6) (nomark _)) (pss_one (ps_ret pe_bl)) pss_nil)))))
  (pss_one (ps_ret pe_bl))))), ?_⟩
    walk_at "rd"
    refine ⟨by show 1 ≤ sizeLine; decide, fun q1 nq1 => ?_⟩
    have s1 := Same.up (o := .lst [V.str "even"]) (Same.refl H) nq1
    have hq1 : upd H q1 (.lst [V.str "even"]) q1 = some (.lst [V.str "even"]) := upd_same
    obtain ⟨H1, eH1⟩ : ∃ H1, H1 = upd H q1 (.lst [V.str "even"]) := ⟨_, rfl⟩
    rw [← eH1] at s1 hq1 ⊢
    walk_at "rd"
    refine ⟨by show 6 ≤ sizeLine; decide, fun q2 nq2 => ?_⟩
    have s2' := Same.up (o := .lst [V.str "Even", V.str "", V.non, V.bl true, V.int 0, V.ref q1]) (Same.refl H1) nq2
    have hq2 : upd H1 q2 (.lst [V.str "Even", V.str "", V.non, V.bl true, V.int 0, V.ref q1]) q2 = some (.lst [V.str "Even", V.str "", V.non, V.bl true, V.int 0, V.ref q1]) := upd_same
    obtain ⟨H2, eH2⟩ : ∃ H2, H2 = upd H1 q2 (.lst [V.str "Even", V.str "", V.non, V.bl true, V.int 0, V.ref q1]) := ⟨_, rfl⟩
    rw [← eH2] at s2' hq2 ⊢
    have s2 := s1.trans s2'
    refine ⟨q2, rfl, ⟨_, SqL.of hq2⟩, for_it walk_list (fun m σ H' => ∃ v4 v5 v6, σ = [some (.ref x), some (.ref a), some (.ref b), some (.bl t), v4, v5, v6] ∧ Same H2 H') ⟨_, _, _, rfl, Same.refl H2⟩ (fun m σ H' _ z => by obtain ⟨_, _, _, _, z⟩ := z; exact SqL.of (z _ _ hq2)) ?_ ?_⟩
    · rintro m y σ H30 H3 hm ⟨v4, v5, v6, rfl, s3⟩ ⟨rfl, ey⟩
      have s03 := s2.trans s3
      obtain ⟨d, hd, bd⟩ : ∃ d, Dp K H3 y d ∧ BadK d := by
        match m, ey with
        | 0, ey => cases ey; exact ⟨_, .str _, .inl rfl⟩
        | 1, ey => cases ey; exact ⟨_, .str _, .inr (.inl rfl)⟩
        | 2, ey => cases ey; exact ⟨_, .non, .inr (.inr (by decide +kernel))⟩
        | 3, ey => cases ey; exact ⟨_, .bl _, .inr (.inr (by decide +kernel))⟩
        | 4, ey => cases ey; exact ⟨_, .int _, .inr (.inr (by decide +kernel))⟩
        | 5, ey => cases ey; exact ⟨_, .lst (SqL.of ((s2'.trans s3) _ _ hq1)) (.cons (.str _) .nil), .inr (.inr (by decide +kernel))⟩
      walk_at "rd"
      refine ⟨(3 : Int), rfl, by decide, by decide, for_it walk_range (fun i σ H' => ∃ v5, σ = [some (.ref x), some (.ref a), some (.ref b), some (.bl t), some y, v5, v6] ∧ Same H3 H') ⟨_, rfl, Same.refl H3⟩ (fun _ _ _ _ _ => trivial) ?_ ?_⟩
      · rintro i z σ H40 H4 hi ⟨v5, rfl, s4⟩ ⟨rfl, rfl⟩
        have hi : i < 3 := by simpa using hi
        have e0 : (0 : Int) + (i : Int) = (i : Int) := by omega
        simp only [e0]
        have cs : CaseL K R zs H4 (.int 0) y (i : Int) (.bnd "kind") := by
          match i, hi with
          | 0, _ => exact .cnt _ (.kind d (Dp.later s4 hd) bd)
          | 1, _ => exact .at_ _ (.pre _ (.kind d (Dp.later s4 hd) bd) (by intro z; cases z))
          | 2, _ => exact .num _ (.pre pm _ (.kind d (Dp.later s4 hd) bd) (by intro z; cases z))
        walk_at "rd"
        refine ⟨p, x, a, G, R, zs, .int 0, y, (i : Int), _, rfl, L.same (s03.trans s4), cs, fun u H5 s5 hu => ?_⟩
        walk_at "rd"
        refine ⟨by show 2 ≤ sizeLine; decide, fun t9 n9 => ?_⟩
        have s9 := Same.up (o := .tup [V.str "bound", V.str "kind"]) (Same.refl H5) n9
        walk_at "rd"
        refine ⟨_, _, Dp.later s9 hu, .tup (SqT.of upd_same) (.cons (.str _) (.cons (.str _) .nil)), by decide +kernel, by decide +kernel, ?_⟩
        rw [show PyData.eqv (ocD (.bnd "kind")) (.tuple [.str "bound", .str "kind"]) = true from oc_eqv (.bnd "kind")]
        refine ⟨_, rfl, ifF rfl ?_⟩
        walk_at "rd"
        exact ⟨_, rfl, s4.trans (s5.trans s9)⟩
      · rintro σ H4 ⟨v5, rfl, s4⟩
        walk_at "rd"
        refine ⟨p, x, b, G, R, ys, .int 0, y, 2, _, rfl, M.same (s03.trans s4), .num _ (.ord bad), fun u H5 s5 hu => ?_⟩
        walk_at "rd"
        refine ⟨by show 2 ≤ sizeLine; decide, fun t9 n9 => ?_⟩
        have s9 := Same.up (o := .tup [V.str "order", V.int (-1)]) (Same.refl H5) n9
        walk_at "rd"
        refine ⟨_, _, Dp.later s9 hu, .tup (SqT.of upd_same) (.cons (.str _) (.cons (.int _) .nil)), by decide +kernel, by decide +kernel, ?_⟩
        rw [show PyData.eqv (ocD .ord) (.tuple [.str "order", .int (-1)]) = true from oc_eqv .ord]
        refine ⟨_, rfl, ifF rfl ?_⟩
        walk_at "rd"
        exact ⟨_, _, _, rfl, s3.trans (s4.trans (s5.trans s9))⟩
    · rintro σ H3 ⟨v4, v5, v6, rfl, s3'⟩
      have s3 := s2.trans s3'
      walk_at "rd"
      refine ⟨p, x, b, G, R, ys, .int 0, .str "any", 2, _, rfl, M.same s3, .num _ (.ord bad), fun u H4 s4' hu => ?_⟩
      walk_at "rd"
      refine ⟨by show 2 ≤ sizeLine; decide, fun t9 n9 => ?_⟩
      have s9 := Same.up (o := .tup [V.str "order", V.int (-1)]) (Same.refl H4) n9
      obtain ⟨H5, eH5⟩ : ∃ H5, H5 = upd H4 t9 (.tup [V.str "order", V.int (-1)]) := ⟨_, rfl⟩
      have ht9 : upd H4 t9 (.tup [V.str "order", V.int (-1)]) t9 = some (.tup [V.str "order", V.int (-1)]) := upd_same
      rw [← eH5] at s9 ht9 ⊢
      walk_at "rd"
      refine ⟨_, _, Dp.later s9 hu, .tup (SqT.of ht9) (.cons (.str _) (.cons (.int _) .nil)), by decide +kernel, by decide +kernel, ?_⟩
      rw [show PyData.eqv (ocD .ord) (.tuple [.str "order", .int (-1)]) = true from oc_eqv .ord]
      refine ⟨_, rfl, ifF rfl ?_⟩
      have s5 := s3.trans (s4'.trans s9)
      walk_at "rd"
      obtain ⟨X, eX⟩ : ∃ X : Int, X = (10 : Int) ^ (59 : Int).toNat := ⟨_, rfl⟩
      rw [← eX]
      refine ⟨by show 1 ≤ sizeLine; decide, fun q4 nq4 => ?_⟩
      have s6' := Same.up (o := .lst [V.int 0]) (Same.refl H5) nq4
      have hq4 : upd H5 q4 (.lst [V.int 0]) q4 = some (.lst [V.int 0]) := upd_same
      obtain ⟨H6, eH6⟩ : ∃ H6, H6 = upd H5 q4 (.lst [V.int 0]) := ⟨_, rfl⟩
      rw [← eH6] at s6' hq4 ⊢
      walk_at "rd"
      refine ⟨by show 1 ≤ sizeLine; decide, fun q5 nq5 => ?_⟩
      have s7' := Same.up (o := .tup [V.int 0]) (Same.refl H6) nq5
      have hq5 : upd H6 q5 (.tup [V.int 0]) q5 = some (.tup [V.int 0]) := upd_same
      obtain ⟨H7, eH7⟩ : ∃ H7, H7 = upd H6 q5 (.tup [V.int 0]) := ⟨_, rfl⟩
      rw [← eH7] at s7' hq5 ⊢
      walk_at "rd"
      refine ⟨by show 7 ≤ sizeLine; decide, fun q6 nq6 => ?_⟩
      have s8' := Same.up (o := .lst [V.bl true, V.str "0", V.non, V.int (-1), V.int X, V.ref q4, V.ref q5]) (Same.refl H7) nq6
      have hq6 : upd H7 q6 (.lst [V.bl true, V.str "0", V.non, V.int (-1), V.int X, V.ref q4, V.ref q5]) q6 = some (.lst [V.bl true, V.str "0", V.non, V.int (-1), V.int X, V.ref q4, V.ref q5]) := upd_same
      obtain ⟨H8, eH8⟩ : ∃ H8, H8 = upd H7 q6 (.lst [V.bl true, V.str "0", V.non, V.int (-1), V.int X, V.ref q4, V.ref q5]) := ⟨_, rfl⟩
      rw [← eH8] at s8' hq6 ⊢
      have s8 := s5.trans (s6'.trans (s7'.trans s8'))
      refine ⟨q6, rfl, ⟨_, SqL.of hq6⟩, for_it walk_list (fun m σ H' => ∃ v4 v6, σ = [some (.ref x), some (.ref a), some (.ref b), some (.bl t), v4, v5, v6] ∧ Same H8 H') ⟨_, _, rfl, Same.refl H8⟩ (fun m σ H' _ z => by obtain ⟨_, _, _, z⟩ := z; exact SqL.of (z _ _ hq6)) ?_ ?_⟩
      · rintro m y σ H90 H9 hm ⟨w4, w6, rfl, s9'⟩ ⟨rfl, ey⟩
        have s09 := s8.trans s9'
        obtain ⟨d, hd, bd⟩ : ∃ d, Dp K H9 y d ∧ ((cells R).length ≤ 12 → betD 0 ((cntR R "even" (cells R).length [] : Int) - 1) d = false) := by
          match m, ey with
          | 0, ey => cases ey; exact ⟨_, .bl _, fun _ => rfl⟩
          | 1, ey => cases ey; exact ⟨_, .str _, fun _ => rfl⟩
          | 2, ey => cases ey; exact ⟨_, .non, fun _ => rfl⟩
          | 3, ey => cases ey; exact ⟨_, .int _, fun _ => rfl⟩
          | 4, ey =>
            cases ey
            refine ⟨_, .int _, fun l => ?_⟩
            have c := cnt_few (kd := "even") l
            show (decide ((0 : Int) ≤ X) && decide (X ≤ (cntR R "even" (cells R).length [] : Int) - 1)) = false
            have e2 : X = 10 ^ 59 := eX
            have e3 : ((12 ^ 12 : Nat) : Int) < 10 ^ 59 := by decide
            rw [decide_eq_false (show ¬ X ≤ (cntR R "even" (cells R).length [] : Int) - 1 by rw [e2]; omega), Bool.and_false]
          | 5, ey => cases ey; exact ⟨_, .lst (SqL.of (s9' _ _ (s8' _ _ (s7' _ _ hq4)))) (.cons (.int _) .nil), fun _ => rfl⟩
          | 6, ey => cases ey; exact ⟨_, .tup (SqT.of (s9' _ _ (s8' _ _ hq5))) (.cons (.int _) .nil), fun _ => rfl⟩
        walk_at "rd"
        refine ⟨by show 2 ≤ sizeLine; decide, fun tA ntA => ?_⟩
        have sA := Same.up (o := .tup [V.str "bound", V.str "number"]) (Same.refl H9) ntA
        have hA : upd H9 tA (.tup [V.str "bound", V.str "number"]) tA = some (.tup [V.str "bound", V.str "number"]) := upd_same
        obtain ⟨HA, eHA⟩ : ∃ HA, HA = upd H9 tA (.tup [V.str "bound", V.str "number"]) := ⟨_, rfl⟩
        rw [← eHA] at sA hA ⊢
        walk_at "rd"
        by_cases l : 12 < (cells R).length
        · rw [decide_eq_true l] at et
          subst et
          refine ifT rfl ?_
          walk_at "rd"
          refine ⟨by show 2 ≤ sizeLine; decide, fun tB ntB => ?_⟩
          have sB := Same.up (o := .tup [V.str "limit", V.int 12]) (Same.refl HA) ntB
          have hB : upd HA tB (.tup [V.str "limit", V.int 12]) tB = some (.tup [V.str "limit", V.int 12]) := upd_same
          obtain ⟨HB, eHB⟩ : ∃ HB, HB = upd HA tB (.tup [V.str "limit", V.int 12]) := ⟨_, rfl⟩
          rw [← eHB] at sB hB ⊢
          have s9B := sA.trans sB
          walk_at "rd"
          refine ⟨p, x, a, G, R, zs, y, .str "even", 1, _, rfl, L.same (s09.trans s9B), .at_ _ (.pre _ (.lim "even" rfl (.inl rfl) l) (by intro z; cases z)), fun u HC sC hu => ?_⟩
          walk_at "rd"
          refine ⟨_, _, hu, .tup (SqT.of (sC _ _ hB)) (.cons (.str _) (.cons (.int _) .nil)), by decide +kernel, by decide +kernel, ?_⟩
          rw [show PyData.eqv (ocD .lim) (.tuple [.str "limit", .int 12]) = true from oc_eqv .lim]
          refine ⟨_, rfl, ifF rfl ?_⟩
          walk_at "rd"
          exact ⟨_, _, rfl, s9'.trans (s9B.trans sC)⟩
        · rw [decide_eq_false l] at et
          subst et
          refine ifF rfl ?_
          walk_at "rd"
          refine ⟨p, x, a, G, R, zs, y, .str "even", 1, _, rfl, L.same (s09.trans sA), .at_ _ (.num "even" rfl (.inl rfl) (by omega) d (Dp.later sA hd) (bd (by omega))), fun u HC sC hu => ?_⟩
          walk_at "rd"
          refine ⟨_, _, hu, .tup (SqT.of (sC _ _ hA)) (.cons (.str _) (.cons (.str _) .nil)), by decide +kernel, by decide +kernel, ?_⟩
          rw [show PyData.eqv (ocD (.bnd "number")) (.tuple [.str "bound", .str "number"]) = true from oc_eqv (.bnd "number")]
          refine ⟨_, rfl, ifF rfl ?_⟩
          walk_at "rd"
          exact ⟨_, _, rfl, s9'.trans (sA.trans sC)⟩
      · rintro σ H9 ⟨w4, w6, rfl, s9'⟩
        walk_at "rd"
        exact k H9 (s8.trans s9')
end
end Pk
set_option Elab.async false
set_option linter.all false
set_option maxRecDepth 100000
set_option maxHeartbeats 4000000
namespace Pk
open PySem L2
local macro_rules | `(tactic| walk_at "rd") => `(tactic| repeat (first
  | with_reducible refine r_seq ?_ | with_reducible refine r_nxt ?_ | with_reducible refine r_asg ?_ | with_reducible refine r_to ?_ | with_reducible refine r_ret ?_ | with_reducible refine r_for ?_ | with_reducible refine r_lc ?_ | with_reducible refine r_lc2 ?_ | with_reducible refine r_rng1 ?_ | with_reducible refine r_list ?_ | with_reducible refine r_tupI ?_ | with_reducible refine r_drop ?_ | with_reducible refine r_ifs ?_
  | with_reducible refine r_op ?_ | with_reducible refine r_c ?_ | with_reducible refine r_var rfl ?_ | with_reducible refine r_var (by assumption) ?_ | with_reducible refine r_I0 ?_ | with_reducible refine r_un ?_ | with_reducible refine r_U ?_ | with_reducible refine r_make ?_ | with_reducible refine r_makeS ?_ | with_reducible refine r_ifE ?_ | with_reducible refine r_cm ?_ | with_reducible refine r_mkV rfl ?_ | with_reducible refine r_sub ?_
  | with_reducible refine r_nil ?_ | with_reducible refine r_cons ?_ | with_reducible refine r_cb ?_ | with_reducible refine r_sl ?_ | with_reducible refine r_noP ?_ | with_reducible refine r_part ?_ | with_reducible refine r_isI ?_ | with_reducible refine r_lst ?_ | with_reducible refine r_tup ?_ | with_reducible refine r_call ?_ | with_reducible refine r_callS ?_ | with_reducible refine r_sFldU ?_ | with_reducible refine r_chain ?_ | with_reducible refine r_enum ?_ | with_reducible refine r_zip ?_ | with_reducible refine r_rng3 ?_ | with_reducible refine r_gtup ?_ | with_reducible refine r_methU ?_
  | with_reducible refine r_test ?_ | with_reducible refine r_B ?_ | with_reducible refine r_and ?_ | with_reducible refine r_or ?_ | with_reducible refine r_not ?_ | with_reducible refine r_andV ?_ | with_reducible refine r_orV ?_ | with_reducible refine r_notV ?_ | with_reducible refine r_bl ?_ | with_reducible refine r_yes ?_ | with_reducible refine r_int ?_ | with_reducible refine r_is0 ?_ | with_reducible refine r_is1 ?_ | with_reducible refine iteT ?_ | with_reducible refine iteF ?_ | with_reducible refine ite_nF ?_ | with_reducible refine ite_nT ?_
  | with_reducible refine r_mod (by decide) ?_ | with_reducible refine r_div (by decide) (by decide) ?_ | with_reducible refine r_mulR (by decide) (by decide) ?_ | with_reducible refine r_mulL (by decide) (by decide) ?_ | with_reducible refine r_pow (by decide) (by decide) (by decide) ?_))
def crT (R : Rw) (later : List Pr) (i j r s : Nat) : Bool := decide (((i : Int), (s : Int)) ∈ later) && decide (((r : Int), (j : Int)) ∈ later) && lcB R i j r s
def crw (R : Rw) (later : List Pr) (i j r n : Nat) : List Pr := ((List.range n).filter (crT R later i j r)).map fun (s : Nat) => ((r : Int), (s : Int))
def crx (R : Rw) (later : List Pr) (i j m : Nat) : List Pr := (List.range m).flatMap fun r => crw R later i j r (wd R)
def coT (R : Rw) (later : List Pr) (i j r : Nat) : Bool := decide (((r : Int), (j : Int)) ∈ later) && decide (val R r j < val R i j)
def cow (R : Rw) (later : List Pr) (i j m : Nat) : List Pr := ((List.range m).filter (coT R later i j)).map fun (r : Nat) => ((r : Int), (j : Int))
def roT (R : Rw) (later : List Pr) (i j s : Nat) : Bool := decide (((i : Int), (s : Int)) ∈ later) && decide (val R i s < val R i j)
def row_ (R : Rw) (later : List Pr) (i j m : Nat) : List Pr := ((List.range m).filter (roT R later i j)).map fun (s : Nat) => ((i : Int), (s : Int))
theorem range_split {m k : Nat} : List.range (m + 1 + k) = List.range m ++ m :: (List.range k).map (m + 1 + ·) := by
  rw [List.range_add, List.range_succ, List.append_assoc]; rfl
theorem crw_more {R : Rw} {later : List Pr} {i j r n : Nat} : crw R later i j r (n + 1) = crw R later i j r n ++ (if crT R later i j r n = true then [((r : Int), (n : Int))] else []) := by
  unfold crw
  rw [List.range_succ, List.filter_append, List.map_append]
  cases e : crT R later i j r n with
  | true => rw [List.filter_cons_of_pos e]; rfl
  | false => rw [List.filter_cons_of_neg (by rw [e]; exact Bool.false_ne_true)]; rfl
theorem crx_more {R : Rw} {later : List Pr} {i j m : Nat} : crx R later i j (m + 1) = crx R later i j m ++ crw R later i j m (wd R) := by
  unfold crx
  rw [List.range_succ, List.flatMap_append]; simp
theorem filt_first {p : Nat → Bool} {f : Nat → Pr} {n L : Nat} (hn : n < L) (e : ((List.range n).filter p).map f = []) (t : p n = true) : ∃ rest, ((List.range L).filter p).map f = f n :: rest := by
  obtain ⟨k, rfl⟩ : ∃ k, L = n + 1 + k := ⟨L - (n + 1), by omega⟩
  rw [range_split, List.filter_append, List.map_append, e, List.filter_cons_of_pos t]
  exact ⟨_, rfl⟩
theorem crx_first {R : Rw} {later : List Pr} {i j m n : Nat} (hm : m < R.length) (hn : n < wd R) (e1 : crx R later i j m = []) (e2 : crw R later i j m n = []) (t : crT R later i j m n = true) : ∃ rest, crx R later i j R.length = ((m : Int), (n : Int)) :: rest := by
  obtain ⟨k, ek⟩ : ∃ k, R.length = m + 1 + k := ⟨R.length - (m + 1), by omega⟩
  obtain ⟨rest, er⟩ := filt_first (p := crT R later i j m) (f := fun (s : Nat) => ((m : Int), (s : Int))) hn e2 t
  have er : crw R later i j m (wd R) = _ := er
  unfold crx at e1 ⊢
  rw [ek, range_split, List.flatMap_append, e1, List.flatMap_cons, er]
  exact ⟨_, rfl⟩
theorem cross_eq {R : Rw} {later : List Pr} {i j : Nat} (sub : ∀ z, z ∈ later → z ∈ cells R) : crossL R (inB later) i j = crx R later i j R.length := by
  unfold crossL crx stB
  generalize List.range R.length = l
  induction l with
  | nil => rfl
  | cons r l ih =>
    by_cases c : (!decide (r = i) && inB later r j) = true
    · rw [List.filter_cons_of_pos (p := fun r => !decide (r = i) && inB later r j) c, List.flatMap_cons, List.flatMap_cons, ih]
      congr 1
      unfold crRow crw wiB
      rw [List.filter_filter]
      congr 1
      refine List.filter_congr fun s _ => ?_
      rw [Bool.and_eq_true, Bool.not_eq_true'] at c
      obtain ⟨c1, c2⟩ := c
      unfold inB at c2
      have p1 : (prc R r j).isSome = true := (mem_cells.mp (sub _ (of_decide_eq_true c2))).2.2
      unfold crT lcB inB
      rw [c1, c2, p1]
      by_cases d : ((i : Int), (s : Int)) ∈ later
      · have p2 : (prc R i s).isSome = true := (mem_cells.mp (sub _ d)).2.2
        rw [p2, decide_eq_true d]
        cases decide (s = j) <;> cases crB R i j r s <;> rfl
      · rw [decide_eq_false d]
        cases decide (s = j) <;> cases crB R i j r s <;> rfl
    · rw [List.filter_cons_of_neg (p := fun r => !decide (r = i) && inB later r j) c, List.flatMap_cons, ih]
      have e : crw R later i j r (wd R) = [] := by
        unfold crw
        rw [List.map_eq_nil_iff, List.filter_eq_nil_iff]
        intro s _ t
        apply c
        unfold crT lcB at t
        unfold inB
        simp only [Bool.and_eq_true] at t ⊢
        exact ⟨t.2.1.1.1.1, t.1.2⟩
      rw [e]; rfl
theorem col_eq {R : Rw} {later : List Pr} {i j : Nat} : colL R (inB later) i j = cow R later i j R.length := by
  unfold colL cow stB
  rw [List.filter_filter]
  congr 1
  refine List.filter_congr fun r _ => ?_
  unfold coT inB
  by_cases c : r = i
  · subst c
    rw [decide_eq_false (show ¬ val R r j < val R r j by omega)]
    simp
  · rw [decide_eq_false c]
    cases decide (((r : Int), (j : Int)) ∈ later) <;> cases decide (val R r j < val R i j) <;> rfl
theorem row_eq {R : Rw} {later : List Pr} {i j : Nat} : rowL R (inB later) i j = row_ R later i j (wd R) := by
  unfold rowL row_ wiB
  rw [List.filter_filter]
  congr 1
  refine List.filter_congr fun s _ => ?_
  unfold roT inB
  by_cases c : s = j
  · subst c
    rw [decide_eq_false (show ¬ val R i s < val R i s by omega)]
    simp
  · rw [decide_eq_false c]
    cases decide (((i : Int), (s : Int)) ∈ later) <;> cases decide (val R i s < val R i j) <;> rfl
def lineL (R : Rw) (later : List Pr) (i j : Nat) (kd : Str) : List (Str × Pr) := (if hasC kd = true then wrd "column" (cow R later i j R.length) else []) ++ (if hasR kd = true then wrd "row" (row_ R later i j (wd R)) else [])
theorem fau_eq {R : Rw} {later : List Pr} {i j : Nat} {kd : Str} (sub : ∀ z, z ∈ later → z ∈ cells R) : fauL R (inB later) i j kd = wrd "cross" (crx R later i j R.length) ++ lineL R later i j kd := by
  unfold fauL lineL
  rw [cross_eq sub, col_eq, row_eq, List.append_assoc]
theorem free_drop {R : Rw} {zs : List Pr} (pm : zs.Perm (cells R)) (m : Nat) : inB (freeL R (zs.take m)) = inB (zs.drop m) := by
  have nd := pm.nodup_iff.mpr (cells_nodup R)
  funext a b
  unfold inB freeL
  refine decide_eq_decide.mpr ?_
  rw [List.mem_filter, Bool.not_eq_true', decide_eq_false_iff_not, ← pm.mem_iff]
  constructor
  · rintro ⟨h, n⟩
    rw [← List.take_append_drop m zs] at h
    exact (List.mem_append.mp h).resolve_left n
  · intro h
    refine ⟨List.mem_of_mem_drop h, fun q => ?_⟩
    rw [← List.take_append_drop m zs] at nd
    exact (List.nodup_append.mp nd).2.2 _ q _ h rfl
theorem fAt_eq {R : Rw} {zs : List Pr} {kd : Str} {m i j : Nat} (pm : zs.Perm (cells R)) (e : zs[m]? = some ((i : Int), (j : Int))) : fAt R zs kd m = (wrd "cross" (crx R (zs.drop (m + 1)) i j R.length) ++ lineL R (zs.drop (m + 1)) i j kd).map fun f => (((i : Int), (j : Int)), f) := by
  unfold fAt
  rw [e]
  show (fauL R _ (i : Int).toNat (j : Int).toNat kd).map _ = _
  rw [Int.toNat_natCast, Int.toNat_natCast, free_drop pm, fau_eq fun z hz => pm.mem_iff.mp (List.mem_of_mem_drop hz)]
theorem allF_first {R : Rw} {zs : List Pr} {kd : Str} {m : Nat} {f : Pr × Str × Pr} {rest : List (Pr × Str × Pr)} (hm : m < zs.length) (e : allF R zs kd m = []) (h : fAt R zs kd m = f :: rest) : ∃ fs, allF R zs kd zs.length = f :: fs := by
  obtain ⟨k, ek⟩ : ∃ k, zs.length = m + 1 + k := ⟨zs.length - (m + 1), by omega⟩
  unfold allF at e ⊢
  rw [ek, range_split, List.flatMap_append, e, List.flatMap_cons, h]
  exact ⟨_, rfl⟩
/-! ### the first fault, as the law finds it (even) -/
def firstO (R : Rw) (zs : List Pr) : Oc := match allF R zs "even" zs.length with
  | [] => .ok
  | f :: _ => .flt f
def spFst52 (K : PySem.W.Frag) : Sp := fun vs H Q _ => ∃ (p a l : Addr) (es us : List V) (R : Rw) (zs : List Pr), vs = [.ref a, .ref l] ∧ RS K H a es R ∧ Gt R ∧ H l = some (.lst us) ∧ PrsAt p H us zs ∧ zs.Perm (cells R) ∧ (∃ o, H p = some o) ∧
  ∀ (u : V) (H' : Hp), Same H H' → Dp K H' u (ocD (firstO R zs)) → Q u H'
abbrev slFst52 : Stmt := top 73
abbrev nmFst52 : List Str := ["_law_grid", "_law_listed", "_law_at", "_law_spot", "_law_i", "_law_j", "_law_later", "_law_r", "_law_s"]
theorem line_even (R : Rw) (later : List Pr) (i j : Nat) : lineL R later i j "even" = [] := by
  unfold lineL
  rw [if_neg (show ¬ hasC "even" = true by decide +kernel), if_neg (show ¬ hasR "even" = true by decide +kernel)]
  rfl
section
variable {P : Program} {w : World} {K : PySem.W.Frag} {mg : Str → Option Value} {base : Heap} {f : Addr} {fd : FuncData}
theorem sclFst52 : FnScope nmFst52 ["_law_grid", "_law_listed"] (defScope slFst52) := ⟨rfl, rfl, rfl, by decide +kernel, rfl, by decide +kernel, by decide +kernel⟩
theorem ok_fst52 (F : Fun K "_law_first_fault" "_law_first_fault" slFst52 f fd) (T : Bt mg) (DC : Df P w K mg base CX0 "_law_cross" 1 ["_law_grid", "_law_i", "_law_j", "_law_r", "_law_s"] (spLCr K)) : FnOk P w K mg base CX0 2 f fd ["_law_grid", "_law_listed"] (spFst52 K) := by
  refine F.ok sclFst52 (fun vs H Q E h => ?_) (fun cdv A outer s H vs Q E hr h => ?_)
  · obtain ⟨p, a, l, es, us, R, zs, rfl, _⟩ := h
    rfl
  · obtain ⟨p, a, l, es, us, R, zs, rfl, rs, g, hl, pl, pm, ⟨op, hop⟩, k⟩ := h
    refine ⟨_, (pss_cons (ps_for PassesOwn.never rfl (pi_enum (by rfl) T.enumerate (pa_cons (pv 1) pa_nil)) (pg_tup (by rfl) (pgs_cons (pg_name (i := 2) sclFst52.nd rfl (Or.inl rfl)) (pgs_cons (pg_name (i := 3) sclFst52.nd rfl (Or.inl rfl)) pgs_nil))) (pss_cons (ps_asg (pv 3) (pg_tup (by rfl) (pgs_cons (pg_name (i := 4) sclFst52.nd rfl (Or.inl rfl)) (pgs_cons (pg_name (i := 5) sclFst52.nd rfl (Or.inl rfl)) pgs_nil))))
  (pss_cons (ps_set (i := 6) sclFst52.nd rfl (Or.inl rfl) (pe_slice sl_list (pv 1) (po_some (pe_op op_add (pv 2) pe_int)) po_none))
  (pss_one (ps_for PassesOwn.never rfl (pi_range1 rfl T.range (pa_cons (pe_callB cl_len (by rfl) T.len (by decide +kernel) (pa_cons (pv 0) pa_nil)) pa_nil)) (pg_name (i := 7) sclFst52.nd rfl (Or.inl rfl)) (pss_one (ps_for PassesOwn.never rfl (pi_range1 rfl T.range (pa_cons (pe_callB cl_len (by rfl) T.len (by decide +kernel) (pa_cons (pe_ix ix_list (pv 0) pe_int (fun _ _ => rfl)) pa_nil)) pa_nil)) (pg_name (i := 8) sclFst52.nd rfl (Or.inl rfl)) (pss_one (ps_if (PW.pt (pw_and (pt_cmpR (op_inP hr.units) (pe_tup (pa_cons (pv 4) (pa_cons (pv 8) pa_nil))) (pv 6) (by rfl)) (pw_and1 (pt_cmpR (op_inP hr.units) (pe_tup (pa_cons (pv 7) (pa_cons (pv 5) pa_nil))) (pv 6) (by rfl))))) (pss_one (ps_if (pt_val (pe_df DC hr (by decide) (pa_cons (pv 0) (pa_cons (pv 4) (pa_cons (pv 5) (pa_cons (pv 7) (pa_cons (pv 8) pa_nil))))))) (pss_one (ps_ret (pe_tup (pa_cons pe_str (pa_cons (pe_tup (pa_cons pe_str (pa_cons (pv 3) (pa_cons (pe_tup (pa_cons (pv 7) (pa_cons (pv 8) pa_nil))) pa_nil)))) pa_nil))))) pss_nil)) pss_nil)))))))))
  (pss_one (ps_ret pe_non))), ?_⟩
    have c64 := cells_len g
    have zl := pm.length_eq
    have ul := pl.length
    have h8 := g.h8
    have w8 := g.w8
    have h0 := g.h0
    have rl := rs.len
    walk_at "rd"
    refine ⟨l, us, rfl, SqL.of hl, for_it walk_enum (fun m σ H' => ∃ v2 v3 v4 v5 v6 v7 v8, σ = [some (.ref a), some (.ref l), v2, v3, v4, v5, v6, v7, v8] ∧ Same H H' ∧ allF R zs "even" m = []) ⟨_, _, _, _, _, _, _, rfl, Same.refl H, rfl⟩ (fun m σ H' _ z => by obtain ⟨_, _, _, _, _, _, _, _, z, _⟩ := z; exact SqL.of (z _ _ hl)) ?_ ?_⟩
    · rintro at_ y σ H2 H3 hm ⟨v2, v3, v4, v5, v6, v7, v8, rfl, s2, e2⟩ ⟨t, i', y', rfl, ht, rfl, e1, e3⟩
      cases (Option.some.inj e1)
      have e3 : us[at_]? = some y' := e3
      have hm : at_ < us.length := hm
      obtain ⟨z, ez, pz⟩ := (pl.keep (Keep.same s2)).at e3
      have s3' := Same.up (o := .tup [V.int (at_ : Int), y']) (Same.refl H2) ht
      refine r_gtup ⟨t, _, rfl, SqT.of upd_same, rfl, _, _, rfl, ?_⟩
      have pz := pz.keep (Keep.same s3')
      obtain ⟨H3, eH3⟩ : ∃ H3, H3 = upd H2 t (.tup [V.int (at_ : Int), y']) := ⟨_, rfl⟩
      rw [← eH3] at s3' pz ⊢
      have s3 := s2.trans s3'
      have zc := pm.mem_iff.mp (List.mem_of_getElem? ez)
      obtain ⟨i, j, rfl, hi, hj, pij⟩ := cells_nat zc
      have fe := fAt_eq (kd := "even") pm ez
      rw [line_even, List.append_nil] at fe
      obtain ⟨later, elt⟩ : ∃ later, later = zs.drop (at_ + 1) := ⟨_, rfl⟩
      rw [← elt] at fe
      have sub : ∀ z, z ∈ later → z ∈ cells R := fun z hz => pm.mem_iff.mp (List.mem_of_mem_drop (by rw [elt] at hz; exact hz))
      have dl : later.length ≤ 64 := by rw [elt, List.length_drop]; omega
      walk_at "rd"
      refine ⟨_, _, rfl, ?_⟩
      walk_at "rd"
      refine ⟨rfl, ?_⟩
      walk_at "rd"
      obtain ⟨t0, rfl, tp0, ht0⟩ := id pz
      refine r_gtup ⟨t0, _, rfl, SqT.of ht0, rfl, _, _, rfl, ?_⟩
      walk_at "rd"
      refine ⟨_, _, rfl, ?_⟩
      walk_at "rd"
      refine ⟨rfl, ?_⟩
      walk_at "rd"
      refine ⟨l, us, rfl, SqL.of (s3 _ _ hl), fun q4 n4 => ?_⟩
      rw [show ((at_ : Int) + 1) = ((at_ + 1 : Nat) : Int) from rfl, cutDrop (by omega)]
      have s4' := Same.up (o := .lst (us.drop (at_ + 1))) (Same.refl H3) n4
      have hq4 : upd H3 q4 (.lst (us.drop (at_ + 1))) q4 = some (.lst (us.drop (at_ + 1))) := upd_same
      obtain ⟨H4, eH4⟩ : ∃ H4, H4 = upd H3 q4 (.lst (us.drop (at_ + 1))) := ⟨_, rfl⟩
      rw [← eH4] at s4' hq4 ⊢
      have s4 := s3.trans s4'
      have pl4 : PrsAt p H4 (us.drop (at_ + 1)) later := by rw [elt]; exact (pl.keep (Keep.same s4)).drop (at_ + 1)
      have pz4 := pz.keep (Keep.same s4')
      have ht04 := s4' _ _ ht0
      walk_at "rd"
      refine r_lenL (rs.same s4).at_ ?_
      walk_at "rd"
      refine ⟨(es.length : Int), rfl, by omega, by omega, for_it walk_range (fun m σ H' => ∃ v7 v8, σ = [some (.ref a), some (.ref l), some (.int (at_ : Int)), some (.ref t0), some (.int (i : Int)), some (.int (j : Int)), some (.ref q4), v7, v8] ∧ Same H4 H' ∧ crx R later i j m = []) ⟨_, _, rfl, Same.refl H4, rfl⟩ (fun _ _ _ _ _ => trivial) ?_ ?_⟩
      · rintro m y σ H50 H5 hm' ⟨v7, v8, rfl, s5, e5⟩ ⟨rfl, rfl⟩
        have hm' : m < R.length := by have : m < ((es.length : Nat) : Int).toNat := hm'; omega
        have rs5 := rs.same (s4.trans s5)
        obtain ⟨a0, ea0, ha0⟩ := rs5.get h0
        have e0 : (0 : Int) + (m : Int) = (m : Int) := by omega
        simp only [e0]
        walk_at "rd"
        refine r_ixL rs5.at_ (atI_nat ea0) ?_
        walk_at "rd"
        refine r_lenL ha0 ?_
        rw [wd_rw0 h0]
        walk_at "rd"
        refine ⟨((wd R : Nat) : Int), rfl, by omega, by omega, for_it walk_range (fun n σ H' => ∃ v8, σ = [some (.ref a), some (.ref l), some (.int (at_ : Int)), some (.ref t0), some (.int (i : Int)), some (.int (j : Int)), some (.ref q4), some (.int (m : Int)), v8] ∧ Same H4 H' ∧ crw R later i j m n = []) ⟨_, rfl, s5, rfl⟩ (fun _ _ _ _ _ => trivial) ?_ ?_⟩
        · rintro n y σ H60 H6 hn ⟨v8, rfl, s6, e6⟩ ⟨rfl, rfl⟩
          have hn : n < wd R := by have : n < ((wd R : Nat) : Int).toNat := hn; omega
          have e0 : (0 : Int) + (n : Int) = (n : Int) := by omega
          simp only [e0]
          have s06 := s4.trans s6
          walk_at "rd"
          refine ⟨by show 2 ≤ sizeLine; decide, fun t1 nt1 => ?_⟩
          have s7' := Same.up (o := .tup [V.int (i : Int), V.int (n : Int)]) (Same.refl H6) nt1
          have ht1 : upd H6 t1 (.tup [V.int (i : Int), V.int (n : Int)]) t1 = some (.tup [V.int (i : Int), V.int (n : Int)]) := upd_same
          have tp1 : t1 ≠ p := fun z => by rw [z, s06 _ _ hop] at nt1; cases nt1
          obtain ⟨H7, eH7⟩ : ∃ H7, H7 = upd H6 t1 (.tup [V.int (i : Int), V.int (n : Int)]) := ⟨_, rfl⟩
          rw [← eH7] at s7' ht1 ⊢
          have s7 := s6.trans s7'
          walk_at "rd"
          refine ⟨((i : Int), (n : Int)), later, (show PrAt p H7 (V.ref t1) ((i : Int), (n : Int)) from ⟨t1, rfl, tp1, ht1⟩).dp, .lst (SqL.of (s7 _ _ hq4)) (pl4.keep (Keep.same s7)).dp, ?_⟩
          refine ⟨_, rfl, ?_⟩
          by_cases c1 : ((i : Int), (n : Int)) ∈ later
          · refine ifT (decide_eq_true c1) ?_
            walk_at "rd"
            refine ⟨by show 2 ≤ sizeLine; decide, fun t2 nt2 => ?_⟩
            have s8' := Same.up (o := .tup [V.int (m : Int), V.int (j : Int)]) (Same.refl H7) nt2
            have ht2 : upd H7 t2 (.tup [V.int (m : Int), V.int (j : Int)]) t2 = some (.tup [V.int (m : Int), V.int (j : Int)]) := upd_same
            have tp2 : t2 ≠ p := fun z => by rw [z, (s4.trans s7) _ _ hop] at nt2; cases nt2
            obtain ⟨H8, eH8⟩ : ∃ H8, H8 = upd H7 t2 (.tup [V.int (m : Int), V.int (j : Int)]) := ⟨_, rfl⟩
            rw [← eH8] at s8' ht2 ⊢
            have s8 := s7.trans s8'
            walk_at "rd"
            refine ⟨((m : Int), (j : Int)), later, (show PrAt p H8 (V.ref t2) ((m : Int), (j : Int)) from ⟨t2, rfl, tp2, ht2⟩).dp, .lst (SqL.of (s8 _ _ hq4)) (pl4.keep (Keep.same s8)).dp, ?_⟩
            refine ⟨_, rfl, ?_⟩
            by_cases c2 : ((m : Int), (j : Int)) ∈ later
            · refine ifT (decide_eq_true c2) ?_
              walk_at "rd"
              refine ⟨a, es, R, i, j, m, n, rfl, rs.same (s4.trans s8), g, hi, hj, hm', hn, pij, ?_⟩
              refine ⟨_, rfl, ?_⟩
              cases e : lcB R i j m n with
              | false =>
                refine ifF rfl ?_
                walk_at "rd"
                refine ⟨_, rfl, s8, ?_⟩
                rw [crw_more, e6, if_neg (by unfold crT; rw [e, Bool.and_false]; exact Bool.false_ne_true)]; rfl
              | true =>
                refine ifT rfl ?_
                have tt : crT R later i j m n = true := by unfold crT; rw [decide_eq_true c1, decide_eq_true c2, e]; rfl
                obtain ⟨rest, er⟩ := crx_first hm' hn e5 e6 tt
                obtain ⟨fs', ef'⟩ := allF_first (rest := ((wrd "cross" rest).map fun f => (((i : Int), (j : Int)), f))) (f := (((i : Int), (j : Int)), "cross", ((m : Int), (n : Int)))) (show at_ < zs.length by omega) e2 (by rw [fe, er]; rfl)
                have efo : firstO R zs = .flt (((i : Int), (j : Int)), "cross", ((m : Int), (n : Int))) := by unfold firstO; rw [ef']
                rw [efo] at k
                walk_at "rd"
                refine ⟨by show 2 ≤ sizeLine; decide, fun t3 nt3 => ?_⟩
                have s9' := Same.up (o := .tup [V.int (m : Int), V.int (n : Int)]) (Same.refl H8) nt3
                have ht3 : upd H8 t3 (.tup [V.int (m : Int), V.int (n : Int)]) t3 = some (.tup [V.int (m : Int), V.int (n : Int)]) := upd_same
                have tp3 : t3 ≠ p := fun z => by rw [z, (s4.trans s8) _ _ hop] at nt3; cases nt3
                obtain ⟨H9, eH9⟩ : ∃ H9, H9 = upd H8 t3 (.tup [V.int (m : Int), V.int (n : Int)]) := ⟨_, rfl⟩
                rw [← eH9] at s9' ht3 ⊢
                walk_at "rd"
                refine ⟨by show 3 ≤ sizeLine; decide, fun t4 nt4 => ?_⟩
                have sA' := Same.up (o := .tup [V.str "cross", V.ref t0, V.ref t3]) (Same.refl H9) nt4
                have ht4 : upd H9 t4 (.tup [V.str "cross", V.ref t0, V.ref t3]) t4 = some (.tup [V.str "cross", V.ref t0, V.ref t3]) := upd_same
                obtain ⟨HA, eHA⟩ : ∃ HA, HA = upd H9 t4 (.tup [V.str "cross", V.ref t0, V.ref t3]) := ⟨_, rfl⟩
                rw [← eHA] at sA' ht4 ⊢
                walk_at "rd"
                refine ⟨by show 2 ≤ sizeLine; decide, fun t5 nt5 => ?_⟩
                have sB' := Same.up (o := .tup [V.str "fault", V.ref t4]) (Same.refl HA) nt5
                have s4B := s8.trans (s9'.trans (sA'.trans sB'))
                have pzB := pz4.keep (Keep.same s4B)
                have pz3 : PrAt p (upd HA t5 (.tup [V.str "fault", V.ref t4])) (V.ref t3) ((m : Int), (n : Int)) := ⟨t3, rfl, tp3, sB' _ _ (sA' _ _ ht3)⟩
                exact k _ _ (s4.trans s4B) (.tup (SqT.of upd_same) (.cons (.str _) (.cons (.tup (SqT.of (sB' _ _ ht4)) (.cons (.str _) (.cons pzB.dp (.cons pz3.dp .nil)))) .nil)))
            · refine ifF (decide_eq_false c2) ?_
              walk_at "rd"
              refine ⟨_, rfl, s8, ?_⟩
              rw [crw_more, e6, if_neg (by unfold crT; rw [decide_eq_false c2, Bool.and_false]; exact Bool.false_ne_true)]; rfl
          · refine ifF (decide_eq_false c1) ?_
            walk_at "rd"
            refine ⟨_, rfl, s7, ?_⟩
            rw [crw_more, e6, if_neg (by unfold crT; rw [decide_eq_false c1]; exact Bool.false_ne_true)]; rfl
        · rintro σ H6 ⟨v8, rfl, s6, e6⟩
          walk_at "rd"
          refine ⟨_, _, rfl, s6, ?_⟩
          rw [Int.toNat_natCast] at e6
          rw [crx_more, e5, e6]; rfl
      · rintro σ H5 ⟨v7, v8, rfl, s5, e5⟩
        walk_at "rd"
        refine ⟨_, _, _, _, _, _, _, rfl, s4.trans s5, ?_⟩
        rw [Int.toNat_natCast, rl] at e5
        rw [allF_more, e2, fe, e5]; rfl
    · rintro σ H2 ⟨v2, v3, v4, v5, v6, v7, v8, rfl, s2, e2⟩
      rw [ul] at e2
      have efo : firstO R zs = .ok := by unfold firstO; rw [e2]
      rw [efo] at k
      walk_at "rd"
      exact k _ H2 s2 .non
end
end Pk
set_option Elab.async false
set_option linter.all false
set_option maxRecDepth 100000
set_option maxHeartbeats 4000000
namespace Pk
open PySem L2
local macro_rules | `(tactic| walk_at "rd") => `(tactic| repeat (first
  | with_reducible refine r_seq ?_ | with_reducible refine r_nxt ?_ | with_reducible refine r_asg ?_ | with_reducible refine r_to ?_ | with_reducible refine r_ret ?_ | with_reducible refine r_for ?_ | with_reducible refine r_lc ?_ | with_reducible refine r_lc2 ?_ | with_reducible refine r_rng1 ?_ | with_reducible refine r_list ?_ | with_reducible refine r_tupI ?_ | with_reducible refine r_drop ?_ | with_reducible refine r_ifs ?_
  | with_reducible refine r_op ?_ | with_reducible refine r_c ?_ | with_reducible refine r_var rfl ?_ | with_reducible refine r_var (by assumption) ?_ | with_reducible refine r_I0 ?_ | with_reducible refine r_un ?_ | with_reducible refine r_U ?_ | with_reducible refine r_make ?_ | with_reducible refine r_makeS ?_ | with_reducible refine r_ifE ?_ | with_reducible refine r_cm ?_ | with_reducible refine r_mkV rfl ?_ | with_reducible refine r_sub ?_
  | with_reducible refine r_nil ?_ | with_reducible refine r_cons ?_ | with_reducible refine r_cb ?_ | with_reducible refine r_sl ?_ | with_reducible refine r_noP ?_ | with_reducible refine r_part ?_ | with_reducible refine r_isI ?_ | with_reducible refine r_lst ?_ | with_reducible refine r_tup ?_ | with_reducible refine r_call ?_ | with_reducible refine r_callS ?_ | with_reducible refine r_sFldU ?_ | with_reducible refine r_chain ?_ | with_reducible refine r_enum ?_ | with_reducible refine r_zip ?_ | with_reducible refine r_rng3 ?_ | with_reducible refine r_gtup ?_ | with_reducible refine r_methU ?_
  | with_reducible refine r_test ?_ | with_reducible refine r_B ?_ | with_reducible refine r_and ?_ | with_reducible refine r_or ?_ | with_reducible refine r_not ?_ | with_reducible refine r_andV ?_ | with_reducible refine r_orV ?_ | with_reducible refine r_notV ?_ | with_reducible refine r_bl ?_ | with_reducible refine r_yes ?_ | with_reducible refine r_int ?_ | with_reducible refine r_is0 ?_ | with_reducible refine r_is1 ?_ | with_reducible refine iteT ?_ | with_reducible refine iteF ?_ | with_reducible refine ite_nF ?_ | with_reducible refine ite_nT ?_
  | with_reducible refine r_mod (by decide) ?_ | with_reducible refine r_div (by decide) (by decide) ?_ | with_reducible refine r_mulR (by decide) (by decide) ?_ | with_reducible refine r_mulL (by decide) (by decide) ?_ | with_reducible refine r_pow (by decide) (by decide) (by decide) ?_))
/-! ### rows written in place -/
def setN (R : Rw) (i j : Nat) : Rw := R.set i ((R.getD i []).set j none)
theorem setN_len (R : Rw) (i j : Nat) : (setN R i j).length = R.length := List.length_set
theorem setN_at (R : Rw) (i j a : Nat) (hi : i < R.length) : (setN R i j).getD a [] = if a = i then (R.getD i []).set j none else R.getD a [] := by
  unfold setN
  rw [List.getD_eq_getElem?_getD, List.getElem?_set]
  by_cases c : i = a
  · subst c
    rw [if_pos rfl, if_pos hi, if_pos rfl]
    rfl
  · rw [if_neg c, if_neg (Ne.symm c), List.getD_eq_getElem?_getD]
theorem setN_wd {R : Rw} (i j : Nat) (h : 0 < R.length) : wd (setN R i j) = wd R := by
  have e : ∀ S : Rw, wd S = (S.getD 0 []).length := fun S => by cases S <;> rfl
  rw [e, e]
  by_cases hi : i < R.length
  · rw [setN_at R i j 0 hi]
    by_cases c : 0 = i
    · rw [if_pos c, List.length_set, ← c]
    · rw [if_neg c]
  · unfold setN
    rw [List.set_eq_of_length_le (by omega)]
theorem setN_gt {R : Rw} (g : Gt R) {i j : Nat} (hi : i < R.length) : Gt (setN R i j) := by
  have w := setN_wd (R := R) i j g.h0
  refine ⟨by rw [setN_len]; exact g.h0, by rw [setN_len]; exact g.h8, by rw [w]; exact g.w0, by rw [w]; exact g.w8, fun r hr => ?_⟩
  rw [w]
  obtain ⟨a, ha, ea⟩ := List.getElem_of_mem hr
  have ha' : a < R.length := by rw [setN_len] at ha; exact ha
  have e : r = (setN R i j).getD a [] := by rw [List.getD_eq_getElem?_getD, List.getElem?_eq_getElem ha, ea]; rfl
  rw [e, setN_at R i j a hi]
  by_cases c : a = i
  · rw [if_pos c, List.length_set, g.getD hi, g.len hi]
  · rw [if_neg c, g.getD ha', g.len ha']
theorem setN_prc {R : Rw} {i j a b : Nat} (hi : i < R.length) (h : (prc (setN R i j) a b).isSome = true) : ¬ (a = i ∧ b = j) ∧ (prc R a b).isSome = true := by
  unfold prc at h ⊢
  rw [setN_at R i j a hi] at h
  by_cases c : a = i
  · rw [if_pos c, List.getD_eq_getElem?_getD, List.getElem?_set] at h
    by_cases d : j = b
    · rw [if_pos d] at h
      split at h <;> cases h
    · rw [if_neg d, ← List.getD_eq_getElem?_getD, ← c] at h
      exact ⟨fun z => d z.2.symm, h⟩
  · rw [if_neg c] at h
    exact ⟨fun z => c z.1, h⟩
theorem setN_cells {R : Rw} {i j : Nat} (g : Gt R) (hi : i < R.length) {z : Pr} (h : z ∈ cells (setN R i j)) : z ∈ cells R ∧ z ≠ ((i : Int), (j : Int)) := by
  obtain ⟨a, b, rfl, ha, hb, hs⟩ := cells_nat h
  rw [setN_len] at ha
  rw [setN_wd i j g.h0] at hb
  obtain ⟨n, s⟩ := setN_prc hi hs
  refine ⟨mem_cells.mpr ⟨ha, hb, s⟩, fun e => n ?_⟩
  obtain ⟨e1, e2⟩ := Prod.mk.inj e
  exact ⟨Int.ofNat.inj e1, Int.ofNat.inj e2⟩
theorem RL.setN {H : Hp} {ra a : Addr} {es : List V} {R : Rw} {i j : Nat} (l : RL H ra es R) (d : Dist es) (nr : ∀ (i : Nat) (c : Addr), es[i]? = some (V.ref c) → c ≠ ra) (hi : i < R.length) (ea : es[i]? = some (V.ref a)) : RL (upd H a (.lst (((R.getD i []).map pV).set j V.non))) ra es (Pk.setN R i j) := by
  refine ⟨by rw [upd_ne (Ne.symm (nr i a ea))]; exact l.at_, by rw [setN_len]; exact l.len, fun k v ev => ?_⟩
  obtain ⟨c, rfl, hc⟩ := l.row k v ev
  refine ⟨c, rfl, ?_⟩
  rw [setN_at R i j k hi]
  by_cases e : k = i
  · subst e
    rw [ea] at ev
    cases ev
    rw [if_pos rfl, upd_same, List.map_set]
    rfl
  · rw [if_neg e, upd_ne fun z => e (d k i c ev (by rw [ea, z]))]
    exact hc
theorem setN_prcE {R : Rw} {i j a b : Nat} (hi : i < R.length) : prc (setN R i j) a b = if a = i ∧ b = j then none else prc R a b := by
  unfold prc
  rw [setN_at R i j a hi]
  by_cases c : a = i
  · rw [if_pos c, List.getD_eq_getElem?_getD, List.getElem?_set]
    by_cases d : j = b
    · rw [if_pos d, if_pos (show a = i ∧ b = j from ⟨c, d.symm⟩)]
      split <;> rfl
    · rw [if_neg d, if_neg (show ¬ (a = i ∧ b = j) from fun z => d z.2.symm), ← List.getD_eq_getElem?_getD, ← c]
  · rw [if_neg c, if_neg (show ¬ (a = i ∧ b = j) from fun z => c z.1)]
end Pk
set_option Elab.async false
set_option linter.all false
set_option maxRecDepth 100000
set_option maxHeartbeats 4000000
namespace Pk
open PySem L2
local macro_rules | `(tactic| walk_at "rd") => `(tactic| repeat (first
  | with_reducible refine r_seq ?_ | with_reducible refine r_nxt ?_ | with_reducible refine r_asg ?_ | with_reducible refine r_to ?_ | with_reducible refine r_ret ?_ | with_reducible refine r_for ?_ | with_reducible refine r_lc ?_ | with_reducible refine r_lc2 ?_ | with_reducible refine r_rng1 ?_ | with_reducible refine r_list ?_ | with_reducible refine r_tupI ?_ | with_reducible refine r_drop ?_ | with_reducible refine r_ifs ?_
  | with_reducible refine r_op ?_ | with_reducible refine r_c ?_ | with_reducible refine r_var rfl ?_ | with_reducible refine r_var (by assumption) ?_ | with_reducible refine r_I0 ?_ | with_reducible refine r_un ?_ | with_reducible refine r_U ?_ | with_reducible refine r_make ?_ | with_reducible refine r_makeS ?_ | with_reducible refine r_ifE ?_ | with_reducible refine r_cm ?_ | with_reducible refine r_mkV rfl ?_ | with_reducible refine r_sub ?_
  | with_reducible refine r_nil ?_ | with_reducible refine r_cons ?_ | with_reducible refine r_cb ?_ | with_reducible refine r_sl ?_ | with_reducible refine r_noP ?_ | with_reducible refine r_part ?_ | with_reducible refine r_isI ?_ | with_reducible refine r_lst ?_ | with_reducible refine r_tup ?_ | with_reducible refine r_call ?_ | with_reducible refine r_callS ?_ | with_reducible refine r_sFldU ?_ | with_reducible refine r_chain ?_ | with_reducible refine r_enum ?_ | with_reducible refine r_zip ?_ | with_reducible refine r_rng3 ?_ | with_reducible refine r_gtup ?_ | with_reducible refine r_methU ?_
  | with_reducible refine r_test ?_ | with_reducible refine r_B ?_ | with_reducible refine r_and ?_ | with_reducible refine r_or ?_ | with_reducible refine r_not ?_ | with_reducible refine r_andV ?_ | with_reducible refine r_orV ?_ | with_reducible refine r_notV ?_ | with_reducible refine r_bl ?_ | with_reducible refine r_yes ?_ | with_reducible refine r_int ?_ | with_reducible refine r_is0 ?_ | with_reducible refine r_is1 ?_ | with_reducible refine iteT ?_ | with_reducible refine iteF ?_ | with_reducible refine ite_nF ?_ | with_reducible refine ite_nT ?_
  | with_reducible refine r_mod (by decide) ?_ | with_reducible refine r_div (by decide) (by decide) ?_ | with_reducible refine r_mulR (by decide) (by decide) ?_ | with_reducible refine r_mulL (by decide) (by decide) ?_ | with_reducible refine r_pow (by decide) (by decide) (by decide) ?_))
/-! ### the law, from its end -/
theorem pe_kdL {X : Cx} {k j n : Nat} {ps : List Str} {kw : Str} {sp : Sp} {x : Str} {p pos : Pos} {e : Expr} {es : List Expr} {kws : List Keyword} {t tk : TA}
    (D : Dkw X.prog X.w X.K X.mg X.base (L2.CX X.prog X.w) x k ps n kw sp) (hr : Room j X.A) (l : k ≤ j) (ha : PA X (e :: es) t) (hkw : PK X kws tk) (hg : Gl X x := by rfl)
    (hall : (backToKw pos (keywordEach kws X.env)).all (·.1.isSome) = true := by rfl) (hks : (backToKw pos (keywordEach kws X.env)).filterMap (·.1) = [kw] := by rfl) (hdb : (x == ("__debug__" : Str)) = false := by decide)
    (he : starEach (e :: es) X.env = (false, eval e X.env) :: starEach es X.env := by rfl) (hpl : ((backTo pos (starEach (e :: es) X.env)).any (·.1) || (backToKw pos (keywordEach kws X.env)).any (·.1.isNone)) = false := by rfl) :
    PE X (.Call (.Name x p) (e :: es) kws pos) (tKwS n [kw].length sp (fun vs zs => vs ++ zs) (fun _ => E0) t tk) := by
  obtain ⟨f, fd, D⟩ := D
  exact pe_kwS D.ok (hr.mono l) D.at_ D.kp D.kb (passN passL) ha hkw hg hall hks hdb he hpl
theorem pe_kd0L {X : Cx} {k j n : Nat} {ps : List Str} {kw : Str} {sp : Sp} {x : Str} {p pos : Pos} {e : Expr} {es : List Expr} {t : TA}
    (D : Dkw X.prog X.w X.K X.mg X.base (L2.CX X.prog X.w) x k ps n kw sp) (hr : Room j X.A) (l : k ≤ j) (ha : PA X (e :: es) t) (hg : Gl X x := by rfl) (hdb : (x == ("__debug__" : Str)) = false := by decide)
    (he : starEach (e :: es) X.env = (false, eval e X.env) :: starEach es X.env := by rfl) (hpl : (backTo pos (starEach es X.env)).any (·.1) = false := by rfl) :
    PE X (.Call (.Name x p) (e :: es) [] pos) (tCallSD sp [.str "even"] (fun _ => E0) t) := by
  obtain ⟨f, fd, D⟩ := D
  obtain ⟨ds, hd, hb⟩ := D.dd
  exact pe_callSD D.ok (hr.mono l) hg D.at_ D.kp hb hd (passN passL) ha hdb he hpl
theorem cutDropO (vs : List V) (i : Nat) : cutV vs (some (i : Int)) none = vs.drop i := by
  by_cases h : i ≤ vs.length
  · have e : min (i : Int).toNat vs.length = i := by simp; omega
    have n : ¬ (i : Int) < 0 := by omega
    simp only [cutV, HT.sIx, if_neg n, e]
    rw [List.take_of_length_le (by rw [List.length_drop]; omega)]
  · have e : min (i : Int).toNat vs.length = vs.length := by simp; omega
    have n : ¬ (i : Int) < 0 := by omega
    simp only [cutV, HT.sIx, if_neg n, e]
    rw [List.drop_eq_nil_of_le (by omega : vs.length ≤ i), List.drop_eq_nil_of_le (Nat.le_refl _)]
    simp
theorem all_word {R : Rw} {zs : List Pr} {k : Str} {n : Nat} {f : Pr × Str × Pr} (h : f ∈ allF R zs k n) : PyData.strOk f.2.1 = true := by
  unfold allF at h
  obtain ⟨m, _, hm⟩ := List.mem_flatMap.mp h
  unfold fAt at hm
  split at hm
  · obtain ⟨g, hg, rfl⟩ := List.mem_map.mp hm
    show PyData.strOk g.1 = true
    have wd : ∀ (z : Str) (l : List Pr), g ∈ wrd z l → g.1 = z := fun z l m => by
      unfold wrd at m
      obtain ⟨c, _, rfl⟩ := List.mem_map.mp m
      rfl
    unfold fauL at hg
    rcases List.mem_append.mp hg with hg | hg
    · rcases List.mem_append.mp hg with hg | hg
      · rw [wd _ _ hg]; decide +kernel
      · split at hg
        · rw [wd _ _ hg]; decide +kernel
        · cases hg
    · split at hg
      · rw [wd _ _ hg]; decide +kernel
      · cases hg
  · cases hm
def RowsAt (H1 : Hp) (D : Addr) (S : Rw) (i : Nat) (H' : Hp) : Prop := Same H1 H' ∧ ∃ fs, H' D = some (.lst fs) ∧ fs.length = i ∧ Dist fs ∧ ∀ j v, fs[j]? = some v → ∃ c, v = .ref c ∧ c ≠ D ∧ H1 c = none ∧ H' c = some (.lst ((S.getD j []).map pV))
theorem RowsAt.start {H1 : Hp} {D : Addr} {S : Rw} (nD : H1 D = none) : RowsAt H1 D S 0 (upd H1 D (.lst [])) := ⟨Same.up (Same.refl H1) nD, [], upd_same, rfl, Dist.nil, fun j v e => by simp at e⟩
theorem RowsAt.more {H1 H2 H4 : Hp} {D D2 : Addr} {S : Rw} {i : Nat} (nD : H1 D = none) (r : RowsAt H1 D S i H2) (s4 : Same H2 H4) (i9 : i < 9) (nD2 : H2 D2 = none) (hD4 : H4 D2 = some (.lst ((S.getD i []).map pV))) :
    ∃ acc, H4 D = some (.lst acc) ∧ acc.length < sizeLine ∧ RowsAt H1 D S (i + 1) (upd H4 D (.lst (acc ++ [.ref D2]))) := by
  obtain ⟨s2, fs, hD, fl, ds, fr⟩ := r
  have D2D : D2 ≠ D := fun z => by rw [z, hD] at nD2; cases nD2
  refine ⟨fs, s4 _ _ hD, by rw [fl]; exact Nat.lt_of_lt_of_le i9 (by decide), fun c o e => ?_, fs ++ [.ref D2], upd_same, by rw [List.length_append, fl]; rfl, ds.more fun j v ev => ?_, fun j v ev => ?_⟩
  · have n : c ≠ D := fun z => by rw [z, nD] at e; cases e
    rw [upd_ne n]
    exact s4 _ _ (s2 _ _ e)
  · obtain ⟨c, rfl, n1, n2, n3⟩ := fr j v ev
    intro z
    cases z
    rw [n3] at nD2
    cases nD2
  · by_cases ji : j < fs.length
    · rw [List.getElem?_append_left ji] at ev
      obtain ⟨c, rfl, n1, n2, n3⟩ := fr j v ev
      exact ⟨c, rfl, n1, n2, by rw [upd_ne n1]; exact s4 _ _ n3⟩
    · rw [List.getElem?_append_right (by omega)] at ev
      have : j = i := by
        have := (List.getElem?_eq_some_iff.mp ev).1
        simp at this
        omega
      subst this
      rw [fl, Nat.sub_self] at ev
      cases (Option.some.inj ev)
      exact ⟨D2, rfl, D2D, s2.free nD2, by rw [upd_ne D2D]; exact hD4⟩
theorem RowsAt.rl {H1 H' : Hp} {D : Addr} {S : Rw} (r : RowsAt H1 D S S.length H') : Same H1 H' ∧ ∃ fs, RL H' D fs S ∧ Dist fs ∧ ∀ (i : Nat) (c : Addr), fs[i]? = some (V.ref c) → H1 c = none ∧ c ≠ D := by
  obtain ⟨s2, fs, hD, fl, ds, fr⟩ := r
  exact ⟨s2, fs, ⟨hD, fl, fun i v e => by
    obtain ⟨c, e1, n1, n2, n3⟩ := fr i v e
    exact ⟨c, e1, n3⟩⟩, ds, fun i c e => by
    obtain ⟨c', e1, n1, n2, n3⟩ := fr i _ e
    cases e1
    exact ⟨n2, n1⟩⟩
theorem mk_tb2 {K : PySem.W.Frag} {C CE : Addr} {H1 : Hp} {x dx : Addr} {v : V} {R : Rw} {Q : Hp → Prop} {E : XK} (nx : H1 x = none) (nd : H1 dx = none) (ne : dx ≠ x) (hv : Dp K H1 v (rowsD R)) (g : Gt R)
    (k : ∀ (H' G : Hp), Same H1 H' → TbX C G x R → Same G H' → Fresh H1 G → Q H') : spTbI K C CE [.ref x, v] (upd (upd H1 dx (.own x)) x (.ins C dx [])) (fun v H2 => v = .non ∧ Q H2) E := mk_tb (Q := fun _ H => Q H) nx nd ne hv g k
theorem GK.setN {H0 H : Hp} {L a : Addr} {es : List V} {R : Rw} {i j : Nat} (g : GK H0 H L es R) (hi : i < R.length) (ea : es[i]? = some (.ref a)) : GK H0 (upd H a (.lst (((setN R i j).getD i []).map pV))) L es (setN R i j) := by
  obtain ⟨a', e1, na, n2, ha⟩ := g.row i _ ea
  cases e1
  refine ⟨by rw [upd_ne (Ne.symm na)]; exact g.at_, by rw [setN_len]; exact g.len, fun k v e => ?_, g.nd⟩
  obtain ⟨b, rfl, nb, n0, hb⟩ := g.row k v e
  refine ⟨b, rfl, nb, n0, ?_⟩
  by_cases c : k = i
  · subst c
    rw [ea] at e
    cases e
    rw [upd_same]
  · have ne : b ≠ a := fun q => by
      obtain ⟨h1, q1⟩ := List.getElem?_eq_some_iff.mp ea
      obtain ⟨h2, q2⟩ := List.getElem?_eq_some_iff.mp e
      exact c ((List.getElem_inj g.nd).mp (by rw [q1, q2, q]))
    rw [upd_ne ne, hb, setN_at R i j k hi, if_neg c]
def asgScope : Stmt → Scope
  | .Assign _ (.ListComp (scope := sc) ..) _ => sc
  | s => defScope s
theorem gp_perm {R : Rw} (g : Gt R) {zs : List Pr} (pm : zs.Perm (cells R)) : Gp zs := gp_cells g (pm.nodup_iff.mpr (cells_nodup R)) (fun z hz => pm.mem_iff.mp hz) (by rw [pm.length_eq]; exact cells_len g)
theorem oc_shaped (o : Oc) (h : ∀ f, o = .flt f → PyData.strOk f.2.1 = true) (hb : ∀ n, o = .bnd n → PyData.strOk n = true) : SeqAt.shaped (ocD o) = true := by
  cases o with
  | ok => decide +kernel
  | lim => decide +kernel
  | ord => decide +kernel
  | bnd n =>
    have s := hb n rfl
    have s0 : PyData.strOk "bound" = true := by decide +kernel
    have e : (PyData.tuple [.str "bound", .str n]).canLay0 = true := by simp [PyData.canLay0, PyData.canLayAll0, s, s0]
    have d : (PyData.tuple [.str "bound", .str n]).depth ≤ 64 := by simp [PyData.depth, PyData.depthAll]
    simp only [ocD, SeqAt.shaped, e, Bool.true_and]
    exact decide_eq_true d
  | flt f =>
    have s := h f rfl
    obtain ⟨⟨a, b⟩, w, ⟨c, d⟩⟩ := f
    have s : PyData.strOk w = true := s
    have s0 : PyData.strOk "fault" = true := by decide +kernel
    have e : (PyData.tuple [.str "fault", faD ((a, b), w, (c, d))]).canLay0 = true := by simp [faD, prD, PyData.canLay0, PyData.canLayAll0, s, s0]
    have d : (PyData.tuple [.str "fault", faD ((a, b), w, (c, d))]).depth ≤ 64 := by simp [faD, prD, PyData.depth, PyData.depthAll]
    simp only [ocD, SeqAt.shaped, e, Bool.true_and]
    exact decide_eq_true d
theorem first_shaped (R : Rw) (zs : List Pr) : SeqAt.shaped (ocD (firstO R zs)) = true := by
  refine oc_shaped _ (fun f e => ?_) (fun n e => ?_)
  · unfold firstO at e
    split at e
    · cases e
    · rename_i f' l q
      cases e
      exact all_word (R := R) (zs := zs) (k := "even") (n := zs.length) (by rw [q]; exact List.mem_cons_self)
  · unfold firstO at e
    split at e <;> cases e
def spLaw (K : PySem.W.Frag) : Sp := fun vs H Q _ => ∃ (l : Addr) (ns : List Int), vs = [.ref l] ∧ SqL K H l (ns.map V.int) ∧ ns.length ≤ 63 ∧ ∀ H' : Hp, Q (.bl true) H'
abbrev slaw : Stmt := top 75
abbrev nmLaw : List Str := ["_law_script", "_law_head", "_law_m", "_law_n", "_law_prices", "_law_grid", "_law_gone", "_law_i", "_law_j", "_law_spots_here", "_law_table", "_law_order", "_law_other", "_law_large", "_law_choice", "_law_many", "_law_due", "_law_row"]
theorem sclaw : FnScope nmLaw ["_law_script"] (defScope slaw) := ⟨rfl, rfl, rfl, by decide +kernel, rfl, by decide +kernel, by decide +kernel⟩
abbrev xLaw (P : Program) (w : World) (K : PySem.W.Frag) (mg : Str → Option Value) (base : Heap) (f : Addr) (cdv : Value) (A : Around) (outer : List Env) (s : Shared) (H0 : Hp) (E : XK) : Cx := (cxOf CX0 P w K mg base nmLaw "law" (defScope slaw) f cdv A outer s H0 E).nox
structure LD (P : Program) (w : World) (K : PySem.W.Frag) (mg : Str → Option Value) (base : Heap) (C CE CO CEO CL CB CN : Addr) : Prop where
  lDraws : Df P w K mg base CX0 "_law_draws" 2 ["_law_script", "_law_spot", "_law_sizes"] (spDraws K)
  lSpots : Df P w K mg base CX0 "_law_spots" 1 ["_law_grid"] (spSpots K)
  lShuf : Df P w K mg base CX0 "_law_shuffled" 1 ["_law_things", "_law_picks"] spShuf2
  lBnds : Df P w K mg base CX0 "_law_refuses_bounds" 13 ["_law_table", "_law_order", "_law_other", "_law_large"] (spBnds K C CO)
  lRef : Df P w K mg base CX0 "_law_refusal" 12 ["_law_table", "_law_order", "_law_number", "_law_sort", "_law_choice"] (spRef52 K C CO)
  lFst : Df P w K mg base CX0 "_law_first_fault" 2 ["_law_grid", "_law_listed"] (spFst52 K)
  count : Dkw P w K mg base (L2.CX P w) "count" 8 ["table", "kind"] 1 "kind" (spCountX K C CL CB CEO CN)
  made : Dk P w K mg base (L2.CX P w) "Table" 8 ["self", "rows"] (spTbI K C CE) C
  madeO : Dk P w K mg base (L2.CX P w) "Order" 8 ["self", "pairs"] (spOrIF K CO CEO) CO
section
variable {P : Program} {w : World} {K : PySem.W.Frag} {mg : Str → Option Value} {base : Heap} {C CE CO CEO CL CB CN : Addr} {f : Addr} {fd : FuncData} {cdv : Value} {A : Around} {outer : List Env} {s : Shared} {H0 : Hp} {E : XK}
theorem seg13 (hr : Room 39 (xLaw P w K mg base f cdv A outer s H0 E).A) (T : Bt mg) (D : LD P w K mg base C CE CO CEO CL CB CN) : ∃ u : TS, PSs (xLaw P w K mg base f cdv A outer s H0 E) ((defBody slaw).drop 13) u ∧
    ∀ {p x a b r9 ra : Addr} {G : Hp} {R : Rw} {es us : List V} {zs ys : List Pr} (En : Ends) (H : Hp) (v0 v1 v2 v3 v4 v6 v7 v8 v14 v15 v16 v17 : Option V), OrW p C CO H x a G R zs → OrW p C CO H x b G R ys → zs.Perm (cells R) → BadO R ys → RS K H ra es R → H r9 = some (.lst us) → PrsAt p H us zs → (∀ H', En.rt (.bl true) H') →
      u En [v0, v1, v2, v3, v4, some (.ref ra), v6, v7, v8, some (.ref r9), some (.ref x), some (.ref a), some (.ref b), some (.bl (decide (12 < (cells R).length))), v14, v15, v16, v17] H := by
  refine ⟨_, (pss_cons (ps_if (pt_not (pt_val (pe_df D.lBnds hr (by decide) (pa_cons (pv 10) (pa_cons (pv 11) (pa_cons (pv 12) (pa_cons (pv 13) pa_nil))))))) (pss_one (ps_ret pe_bl)) pss_nil)
  (pss_cons (ps_if (pt_val (pv 13)) (pss_cons (ps_for PassesOwn.never rfl (pi_range1 rfl T.range (pa_cons pe_int pa_nil)) (pg_name (i := 14) sclaw.nd rfl (Or.inl rfl)) (pss_one (ps_if (pt_cmpR (op_neD hr.units) (pe_df D.lRef hr (by decide) (pa_cons (pv 10) (pa_cons (pv 11) (pa_cons pe_int (pa_cons pe_str (pa_cons (pv 14) pa_nil)))))) (pe_tup (pa_cons pe_str (pa_cons pe_int pa_nil))) (nomark _)) (pss_one (ps_ret pe_bl)) pss_nil)))
  (pss_one (ps_ret pe_bl))) pss_nil)
  (pss_cons (ps_set (i := 15) sclaw.nd rfl (Or.inl rfl) (pe_kd0L D.count hr (by decide) (pa_cons (pv 10) pa_nil)))
  (pss_cons (ps_if (pt_cmpR (op_neD hr.units) (pe_df D.lRef hr (by decide) (pa_cons (pv 10) (pa_cons (pv 11) (pa_cons (pv 15) (pa_cons pe_str (pa_cons pe_int pa_nil)))))) (pe_tup (pa_cons pe_str (pa_cons pe_str pa_nil))) (nomark _)) (pss_one (ps_ret pe_bl)) pss_nil)
  (C8.pss_cut (ps_if (PW.pt (pw_and (pt_cmpR op_gt (pv 15) pe_int (nomark _)) (pw_and1 (pt_cmpR op_is1 (pe_df D.lRef hr (by decide) (pa_cons (pv 10) (pa_cons (pv 11) (pa_cons (pe_op op_sub (pv 15) pe_int) (pa_cons pe_str (pa_cons pe_int pa_nil)))))) pe_non (nomark _))))) (pss_one (ps_ret pe_bl)) pss_nil)
  (pss_cons (ps_set (i := 16) sclaw.nd rfl (Or.inl rfl) (pe_df D.lFst hr (by decide) (pa_cons (pv 5) (pa_cons (pv 9) pa_nil))))
  (pss_one (ps_ret (pe_cmpR (op_eqD hr.units) (pe_df D.lRef hr (by decide) (pa_cons (pv 10) (pa_cons (pv 11) (pa_cons pe_int (pa_cons pe_str (pa_cons pe_int pa_nil)))))) (pv 16) (nomark _)))))))))), ?_⟩
  intro p x a b r9 ra G R es us zs ys En H v0 v1 v2 v3 v4 v6 v7 v8 v14 v15 v16 v17 L M pm bad rs h9 pu k
  have g := L.t.g
  walk_at "rd"
  refine ⟨p, x, a, b, G, R, zs, ys, _, rfl, L, M, pm, bad, rfl, fun H1 s1 => ?_⟩
  refine ⟨_, rfl, ifF rfl ?_⟩
  have L1 := L.same s1
  by_cases l : 12 < (cells R).length
  · rw [decide_eq_true l]
    walk_at "rd"
    refine ⟨(3 : Int), rfl, by decide, by decide, for_it walk_range (fun i σ H' => ∃ v14, σ = [v0, v1, v2, v3, v4, some (.ref ra), v6, v7, v8, some (.ref r9), some (.ref x), some (.ref a), some (.ref b), some (.bl true), v14, v15, v16, v17] ∧ Same H1 H') ⟨_, rfl, Same.refl H1⟩ (fun _ _ _ _ _ => trivial) ?_ ?_⟩
    · rintro i y σ H20 H2 hi ⟨w14, rfl, s2⟩ ⟨rfl, rfl⟩
      have hi : i < 3 := by simpa using hi
      have e0 : (0 : Int) + (i : Int) = (i : Int) := by omega
      simp only [e0]
      have cs : CaseL K R zs H2 (.int 0) (.str "any") (i : Int) .lim := by
        have c : CaseK K R H2 (.str "any") .lim := .lim "any" rfl (.inr (.inr (.inr rfl))) l
        match i, hi with
        | 0, _ => exact .cnt _ c
        | 1, _ => exact .at_ _ (.pre _ c (by intro z; cases z))
        | 2, _ => exact .num _ (.pre pm _ c (by intro z; cases z))
      walk_at "rd"
      refine ⟨p, x, a, G, R, zs, .int 0, .str "any", (i : Int), _, rfl, L1.same s2, cs, fun u H3 s3 hu => ?_⟩
      walk_at "rd"
      refine ⟨by show 2 ≤ sizeLine; decide, fun t9 n9 => ?_⟩
      have s9 := Same.up (o := .tup [V.str "limit", V.int 12]) (Same.refl H3) n9
      walk_at "rd"
      refine ⟨_, _, Dp.later s9 hu, .tup (SqT.of upd_same) (.cons (.str _) (.cons (.int _) .nil)), by decide +kernel, by decide +kernel, ?_⟩
      rw [show PyData.eqv (ocD .lim) (.tuple [.str "limit", .int 12]) = true from oc_eqv .lim]
      refine ⟨_, rfl, ifF rfl ?_⟩
      walk_at "rd"
      exact ⟨_, rfl, s2.trans (s3.trans s9)⟩
    · rintro σ H2 ⟨w14, rfl, s2⟩
      walk_at "rd"
      exact k _
  · rw [decide_eq_false l]
    have l12 : (cells R).length ≤ 12 := by omega
    obtain ⟨N, eN⟩ : ∃ N, N = cntR R "even" (cells R).length [] := ⟨_, rfl⟩
    walk_at "rd"
    refine r_callSD ?_
    walk_at "rd"
    refine ⟨p, x, G, R, .str "even", .ok, rfl, L.t, L1.s, L1.off, L1.pp, .ok "even" rfl (.inl rfl) l12, fun kd H2 ekd s2 => ?_⟩
    cases ekd
    rw [← eN]
    have L2' := L1.same s2
    unfold nInt
    walk_at "rd"
    have hbN : betD 0 ((cntR R "even" (cells R).length [] : Int) - 1) (.int (N : Int)) = false := by
      rw [← eN]
      show (decide ((0 : Int) ≤ (N : Int)) && decide ((N : Int) ≤ (N : Int) - 1)) = false
      rw [decide_eq_false (show ¬ (N : Int) ≤ (N : Int) - 1 by omega), Bool.and_false]
    refine ⟨p, x, a, G, R, zs, .int (N : Int), .str "even", 1, _, rfl, L2', .at_ _ (.num "even" rfl (.inl rfl) l12 _ (.int _) hbN), fun u H3 s3 hu => ?_⟩
    walk_at "rd"
    refine ⟨by show 2 ≤ sizeLine; decide, fun t9 n9 => ?_⟩
    have s9 := Same.up (o := .tup [V.str "bound", V.str "number"]) (Same.refl H3) n9
    obtain ⟨H4, eH4⟩ : ∃ H4, H4 = upd H3 t9 (.tup [V.str "bound", V.str "number"]) := ⟨_, rfl⟩
    have ht9 : upd H3 t9 (.tup [V.str "bound", V.str "number"]) t9 = some (.tup [V.str "bound", V.str "number"]) := upd_same
    rw [← eH4] at s9 ht9 ⊢
    walk_at "rd"
    refine ⟨_, _, Dp.later s9 hu, .tup (SqT.of ht9) (.cons (.str _) (.cons (.str _) .nil)), by decide +kernel, by decide +kernel, ?_⟩
    rw [show PyData.eqv (ocD (.bnd "number")) (.tuple [.str "bound", .str "number"]) = true from oc_eqv (.bnd "number")]
    refine ⟨_, rfl, ifF rfl ?_⟩
    have s4 := s2.trans (s3.trans s9)
    walk_at "rd"
    refine r_cut (fun σ' H' => σ' = [v0, v1, v2, v3, v4, some (.ref ra), v6, v7, v8, some (.ref r9), some (.ref x), some (.ref a), some (.ref b), some (.bl false), v14, some (.int (N : Int)), v16, v17] ∧ Same H1 H') ?_ ?_
    · walk_at "rd"
      by_cases n0 : 0 < N
      · refine ifT (decide_eq_true (by omega)) ?_
        walk_at "rd"
        refine ⟨p, x, a, G, R, zs, .int ((N : Int) - 1), .str "even", 1, _, rfl, L1.same s4, .at_ _ (.ok "even" rfl (.inl rfl) l12 (N - 1) (by rw [Int.natCast_sub n0]; rfl) (by rw [← eN]; omega)), fun u H5 s5 hu => ?_⟩
        cases hu
        walk_at "rd"
        refine ifF rfl ?_
        walk_at "rd"
        exact ⟨rfl, s4.trans s5⟩
      · refine ifF (decide_eq_false (by omega)) ?_
        walk_at "rd"
        exact ⟨rfl, s4⟩
    · rintro σ' H5 ⟨rfl, s5⟩
      have s05 := s1.trans s5
      walk_at "rd"
      refine ⟨p, ra, r9, es, us, R, zs, rfl, rs.same s05, g, s05 _ _ h9, pu.keep (Keep.same s05), pm, (L.same s05).pp, fun u H6 s6 hu => ?_⟩
      walk_at "rd"
      have cs : CaseL K R zs H6 (.int 0) (.str "even") 2 (firstO R zs) := by
        unfold firstO
        split
        · rename_i q
          exact .num _ (.ok pm "even" rfl (.inl rfl) l12 q)
        · rename_i f' fs q
          exact .num _ (.flt pm "even" rfl (.inl rfl) l12 f' fs q)
      refine ⟨p, x, a, G, R, zs, .int 0, .str "even", 2, _, rfl, (L.same s05).same s6, cs, fun u2 H7 s7 hu2 => ?_⟩
      walk_at "rd"
      refine ⟨_, _, hu2, Dp.later s7 hu, first_shaped R zs, first_shaped R zs, ?_⟩
      rw [oc_eqv]
      exact k _
end
end Pk
set_option Elab.async false
set_option linter.all false
set_option maxRecDepth 100000
set_option maxHeartbeats 4000000
namespace Pk
open PySem L2
local macro_rules | `(tactic| walk_at "rd") => `(tactic| repeat (first
  | with_reducible refine r_seq ?_ | with_reducible refine r_nxt ?_ | with_reducible refine r_asg ?_ | with_reducible refine r_to ?_ | with_reducible refine r_ret ?_ | with_reducible refine r_for ?_ | with_reducible refine r_lc ?_ | with_reducible refine r_lc2 ?_ | with_reducible refine r_rng1 ?_ | with_reducible refine r_list ?_ | with_reducible refine r_tupI ?_ | with_reducible refine r_drop ?_ | with_reducible refine r_ifs ?_
  | with_reducible refine r_op ?_ | with_reducible refine r_c ?_ | with_reducible refine r_var rfl ?_ | with_reducible refine r_var (by assumption) ?_ | with_reducible refine r_I0 ?_ | with_reducible refine r_un ?_ | with_reducible refine r_U ?_ | with_reducible refine r_make ?_ | with_reducible refine r_makeS ?_ | with_reducible refine r_ifE ?_ | with_reducible refine r_cm ?_ | with_reducible refine r_mkV rfl ?_ | with_reducible refine r_sub ?_
  | with_reducible refine r_nil ?_ | with_reducible refine r_cons ?_ | with_reducible refine r_cb ?_ | with_reducible refine r_sl ?_ | with_reducible refine r_noP ?_ | with_reducible refine r_part ?_ | with_reducible refine r_isI ?_ | with_reducible refine r_lst ?_ | with_reducible refine r_tup ?_ | with_reducible refine r_call ?_ | with_reducible refine r_callS ?_ | with_reducible refine r_sFldU ?_ | with_reducible refine r_chain ?_ | with_reducible refine r_enum ?_ | with_reducible refine r_zip ?_ | with_reducible refine r_rng3 ?_ | with_reducible refine r_gtup ?_ | with_reducible refine r_methU ?_
  | with_reducible refine r_test ?_ | with_reducible refine r_B ?_ | with_reducible refine r_and ?_ | with_reducible refine r_or ?_ | with_reducible refine r_not ?_ | with_reducible refine r_andV ?_ | with_reducible refine r_orV ?_ | with_reducible refine r_notV ?_ | with_reducible refine r_bl ?_ | with_reducible refine r_yes ?_ | with_reducible refine r_int ?_ | with_reducible refine r_is0 ?_ | with_reducible refine r_is1 ?_ | with_reducible refine iteT ?_ | with_reducible refine iteF ?_ | with_reducible refine ite_nF ?_ | with_reducible refine ite_nT ?_
  | with_reducible refine r_mod (by decide) ?_ | with_reducible refine r_div (by decide) (by decide) ?_ | with_reducible refine r_mulR (by decide) (by decide) ?_ | with_reducible refine r_mulL (by decide) (by decide) ?_ | with_reducible refine r_pow (by decide) (by decide) (by decide) ?_))
theorem sub_len {xs ys : List Pr} (n : xs.Nodup) (h : ∀ z, z ∈ xs → z ∈ ys) : xs.length ≤ ys.length := by
  apply Classical.byContradiction
  intro q
  have := (perm_of n h (by omega)).length_eq
  omega
section
variable {P : Program} {w : World} {K : PySem.W.Frag} {mg : Str → Option Value} {base : Heap} {C CE CO CEO CL CB CN : Addr} {f : Addr} {fd : FuncData} {cdv : Value} {A : Around} {outer : List Env} {s : Shared} {H0 : Hp} {E : XK}
theorem seg8 (hr : Room 39 (xLaw P w K mg base f cdv A outer s H0 E).A) (T : Bt mg) (D : LD P w K mg base C CE CO CEO CL CB CN) : ∃ u : TS, PSs (xLaw P w K mg base f cdv A outer s H0 E) ((defBody slaw).drop 8) u ∧
    ∀ {p r9 ra : Addr} {Hb : Hp} {R : Rw} {es us : List V} {zs : List Pr} (En : Ends) (H : Hp) (v0 v1 v2 v3 v4 v6 v7 v8 v10 v11 v12 v13 v14 v15 v16 v17 : Option V), (∃ o, H p = some o) → GK Hb H ra es R → Gt R → zs.Perm (cells R) → H r9 = some (.lst us) → PrsAt p H us zs → (∀ H', En.rt (.bl true) H') →
      u En [v0, v1, v2, v3, v4, some (.ref ra), v6, v7, v8, some (.ref r9), v10, v11, v12, v13, v14, v15, v16, v17] H := by
  obtain ⟨u13, d13, h13⟩ := seg13 (f := f) (cdv := cdv) (outer := outer) (s := s) (H0 := H0) (E := E) hr T D
  refine ⟨_, (pss_cons (ps_set (i := 10) sclaw.nd rfl (Or.inl rfl) (pe_dkL D.made hr (by decide) (pa_cons (pe_lc (own := [("_law_row", 17)]) (g := gName 17) rfl sclaw.nd (pi_list (pv 5)) (blkOk_by (own := [("_law_row", 17)]) (N := nmLaw) (sc := defScope slaw) (by decide +kernel)) (fun _ _ _ _ _ => pg_name (i := 17) sclaw.nd rfl (Or.inl rfl)) (fun _ _ _ _ _ => pts_nil) (fun _ _ _ _ _ => (pe_callTy (T := "list") (r := rLstOf K) cl_lst (by rfl) T.list (by decide +kernel) (pa_cons (pv 17) pa_nil)))) pa_nil)))
  (pss_cons (ps_set (i := 11) sclaw.nd rfl (Or.inl rfl) (pe_dkL D.madeO hr (by decide) (pa_cons (pe_callTy cl_lst (by rfl) T.list (by decide +kernel) (pa_cons (pv 9) pa_nil)) pa_nil)))
  (pss_cons (ps_set (i := 12) sclaw.nd rfl (Or.inl rfl) (pe_dkL D.madeO hr (by decide) (pa_cons (pe_slice sl_list (pv 9) (po_some pe_int) po_none) pa_nil)))
  (pss_cons (ps_if (pt_cmpR op_eq (pe_callB cl_len (by rfl) T.len (by decide +kernel) (pa_cons (pv 9) pa_nil)) pe_int (nomark _)) (pss_one (ps_set (i := 12) sclaw.nd rfl (Or.inl rfl) (pe_dkL D.madeO hr (by decide) (pa_cons (pe_lst (pa_cons (pe_tup (pa_cons pe_int (pa_cons pe_int pa_nil))) pa_nil)) pa_nil)))) pss_nil)
  (pss_cons (ps_set (i := 13) sclaw.nd rfl (Or.inl rfl) (pe_cmpR op_gt (pe_callB cl_len (by rfl) T.len (by decide +kernel) (pa_cons (pv 9) pa_nil)) pe_int (nomark _))) d13))))), ?_⟩
  intro p r9 ra Hb R es us zs En H v0 v1 v2 v3 v4 v6 v7 v8 v10 v11 v12 v13 v14 v15 v16 v17 ⟨op, hop⟩ gk g pm h9 pu k
  have c64 := cells_len g
  have l1 := pu.length
  have zl := pm.length_eq
  have esl := gk.len
  have g8 := g.h8
  walk_at "rd"
  refine ⟨ra, rfl, ⟨_, SqL.of gk.at_⟩, fun DF nDF => lc_it walk_list (fun i H' => Same H H' ∧ ∃ es, H' DF = some (.lst es) ∧ es.length = i ∧ ∀ j v, es[j]? = some v → ∃ c, v = .ref c ∧ c ≠ DF ∧ H c = none ∧ H' c = some (.lst ((R.getD j []).map pV))) ⟨Same.up (Same.refl H) nDF, [], upd_same, rfl, fun j v e => by simp at e⟩ (fun i H2 _ z => SqL.of (z.1 _ _ gk.at_)) ?_ ?_⟩
  · rintro i y H2 H3 hi ⟨s2, fs, hDF, fl, fr⟩ ⟨rfl, ey⟩
    have hi' : i < R.length := by rw [← esl]; exact hi
    obtain ⟨b, rfl, nb, nb0, hb⟩ := gk.row i y ey
    walk_at "rd"
    refine ⟨rfl, ?_⟩
    walk_at "rd"
    refine r_lstOf (SqL.of (s2 _ _ hb)) fun c nc => ?_
    exact ⟨fs, later hDF nc, by rw [fl]; exact Nat.lt_of_lt_of_le (show i < 9 by omega) (by decide), rl_more nDF s2 hDF fl fr nc⟩
  rintro HB ⟨sB, fs, hDF, fl, fr⟩
  have lq : RL HB DF fs R := ⟨hDF, by rw [fl, esl], fun i v e => by
    obtain ⟨c, e1, n1, n2, n3⟩ := fr i v e
    exact ⟨c, e1, n3⟩⟩
  walk_at "rd"
  intro x dx nx ndx ne
  show spTbI K C CE [V.ref x, V.ref DF] _ _ _
  refine mk_tb2 nx ndx ne lq.dp g fun HC G sC' tx sG fG => ?_
  have sC := sB.trans sC'
  have offG : G p = none := fG.off (sB _ _ hop)
  walk_at "rd"
  refine r_lstOf (SqL.of (sC _ _ h9)) fun qD nD => ?_
  have sD' := Same.up (o := .lst us) (Same.refl HC) nD
  have hqD : upd HC qD (.lst us) qD = some (.lst us) := upd_same
  have qDp : qD ≠ p := fun z => by rw [z, sC _ _ hop] at nD; cases nD
  obtain ⟨HD, eHD⟩ : ∃ HD, HD = upd HC qD (.lst us) := ⟨_, rfl⟩
  rw [← eHD] at sD' hqD ⊢
  have sD := sC.trans sD'
  walk_at "rd"
  intro a da na nda nea
  show spOrIF K CO CEO [V.ref a, V.ref qD] _ _ _
  refine mk_or na nda nea ⟨_, sD _ _ hop⟩ ⟨qDp, us, hqD, pu.keep (Keep.same sD)⟩ (gp_perm g pm) fun HF qF sF' X => ?_
  have sF := sD.trans sF'
  have La : OrG p C CO HF x a G R zs := ⟨tx, sG.trans (sD'.trans sF'), offG, ⟨_, sF _ _ hop⟩, ⟨da, qF, X⟩, pm⟩
  walk_at "rd"
  refine ⟨r9, us, rfl, SqL.of (sF _ _ h9), fun qK nK => ?_⟩
  have sK' := Same.up (o := .lst (us.drop 1)) (Same.refl HF) nK
  have ecut : cutV us (some (1 : Int)) none = us.drop 1 := cutDropO us 1
  rw [ecut]
  have hqK : upd HF qK (.lst (us.drop 1)) qK = some (.lst (us.drop 1)) := upd_same
  have qKp : qK ≠ p := fun z => by rw [z, sF _ _ hop] at nK; cases nK
  obtain ⟨HK, eHK⟩ : ∃ HK, HK = upd HF qK (.lst (us.drop 1)) := ⟨_, rfl⟩
  rw [← eHK] at sK' hqK ⊢
  have sK := sF.trans sK'
  have gz := gp_perm g pm
  have gd : Gp (zs.drop 1) := ⟨gz.nd.sublist (List.drop_sublist 1 zs), fun z hz => gz.rg z (List.mem_of_mem_drop hz), by rw [List.length_drop]; have := gz.len; omega⟩
  walk_at "rd"
  intro o dO nO ndO neO
  show spOrIF K CO CEO [V.ref o, V.ref qK] _ _ _
  refine mk_or nO ndO neO ⟨_, sK _ _ hop⟩ ⟨qKp, us.drop 1, hqK, (pu.keep (Keep.same sK)).drop 1⟩ gd fun HM qM sM' Z => ?_
  have sM := sK.trans sM'
  have LaM := La.same (sK'.trans sM')
  have fin : ∀ (HV : Hp) (b : Addr) (ys : List Pr), Same HM HV → OrW p C CO HV x b G R ys → BadO R ys → tSeq (tAsg (tOp (rI0 fun i j => .bl (decide (j < i))) (tCB (rLen K) (tCons (tVar 9) tNil)) (tC (.int 12))) (gName 13)) u13 En [v0, v1, v2, v3, v4, some (.ref ra), v6, v7, v8, some (.ref r9), some (.ref x), some (.ref a), some (.ref b), v13, v14, v15, v16, v17] HV := by
    intro HV b ys sMV Wb bad
    have sV := sM.trans sMV
    walk_at "rd"
    refine r_lenL (SqL.of (sV _ _ h9)) ?_
    walk_at "rd"
    have e : decide ((12 : Int) < (us.length : Int)) = decide (12 < (cells R).length) := decide_eq_decide.mpr (by omega)
    have h := h13 En HV v0 v1 v2 v3 v4 v6 v7 v8 v14 v15 v16 v17 (LaM.same sMV).w Wb pm bad ((gk.same sV).rl.rs) (sV _ _ h9) (pu.keep (Keep.same sV)) k
    rw [← e] at h
    exact h
  walk_at "rd"
  refine r_lenL (SqL.of (sM _ _ h9)) ?_
  walk_at "rd"
  refine r_eq rfl ?_
  refine ⟨_, rfl, ?_⟩
  by_cases c : us.length = 0
  · refine ifT (decide_eq_true (by rw [c]; rfl)) ?_
    walk_at "rd"
    refine ⟨by show 2 ≤ sizeLine; decide, fun t nt => ?_⟩
    have sT := Same.up (o := .tup [V.int 0, V.int 0]) (Same.refl HM) nt
    have ht : upd HM t (.tup [V.int 0, V.int 0]) t = some (.tup [V.int 0, V.int 0]) := upd_same
    have tp : t ≠ p := fun z => by rw [z, sM _ _ hop] at nt; cases nt
    obtain ⟨HT, eHT⟩ : ∃ HT, HT = upd HM t (.tup [V.int 0, V.int 0]) := ⟨_, rfl⟩
    rw [← eHT] at sT ht ⊢
    walk_at "rd"
    refine ⟨by show 1 ≤ sizeLine; decide, fun qU nU => ?_⟩
    have sU' := Same.up (o := .lst [V.ref t]) (Same.refl HT) nU
    have hqU : upd HT qU (.lst [V.ref t]) qU = some (.lst [V.ref t]) := upd_same
    have sMT := sM.trans sT
    have qUp : qU ≠ p := fun z => by rw [z, sMT _ _ hop] at nU; cases nU
    obtain ⟨HU, eHU⟩ : ∃ HU, HU = upd HT qU (.lst [V.ref t]) := ⟨_, rfl⟩
    rw [← eHU] at sU' hqU ⊢
    have sU := sMT.trans sU'
    walk_at "rd"
    intro o2 dO2 nO2 ndO2 neO2
    show spOrIF K CO CEO [V.ref o2, V.ref qU] _ _ _
    refine mk_or (zs := [((0 : Int), (0 : Int))]) nO2 ndO2 neO2 ⟨_, sU _ _ hop⟩ ⟨qUp, [V.ref t], hqU, .cons ⟨t, rfl, tp, sU' _ _ ht⟩ .nil⟩ ⟨List.nodup_cons.mpr ⟨List.not_mem_nil, List.nodup_nil⟩, fun z hz => by rw [List.mem_singleton.mp hz]; exact ⟨by decide, by decide, by decide, by decide⟩, by decide⟩ fun HV qV sV' Z2 => ?_
    have sMV := sT.trans (sU'.trans sV')
    have sV := sM.trans sMV
    have LaV := LaM.same sMV
    refine r_to ?_
    exact fin HV o2 _ sMV ⟨tx, LaV.s, offG, ⟨_, sV _ _ hop⟩, ⟨dO2, qV, Z2⟩, by decide⟩ (.inl (by show 1 ≠ _; omega))
  · refine ifF (decide_eq_false fun z => c (by have := V.int.inj z; omega)) ?_
    refine r_nxt ?_
    exact fin HM o _ (Same.refl HM) ⟨tx, LaM.s, offG, ⟨_, sM _ _ hop⟩, ⟨dO, qM, Z⟩, gd.len⟩ (.inl (by rw [List.length_drop]; omega))
end
end Pk
set_option Elab.async false
set_option linter.all false
set_option maxRecDepth 100000
set_option maxHeartbeats 4000000
namespace Pk
open PySem L2
local macro_rules | `(tactic| walk_at "rd") => `(tactic| repeat (first
  | with_reducible refine r_seq ?_ | with_reducible refine r_nxt ?_ | with_reducible refine r_asg ?_ | with_reducible refine r_to ?_ | with_reducible refine r_ret ?_ | with_reducible refine r_for ?_ | with_reducible refine r_lc ?_ | with_reducible refine r_lc2 ?_ | with_reducible refine r_rng1 ?_ | with_reducible refine r_list ?_ | with_reducible refine r_tupI ?_ | with_reducible refine r_drop ?_ | with_reducible refine r_ifs ?_
  | with_reducible refine r_op ?_ | with_reducible refine r_c ?_ | with_reducible refine r_var rfl ?_ | with_reducible refine r_var (by assumption) ?_ | with_reducible refine r_I0 ?_ | with_reducible refine r_un ?_ | with_reducible refine r_U ?_ | with_reducible refine r_make ?_ | with_reducible refine r_makeS ?_ | with_reducible refine r_ifE ?_ | with_reducible refine r_cm ?_ | with_reducible refine r_mkV rfl ?_ | with_reducible refine r_sub ?_
  | with_reducible refine r_nil ?_ | with_reducible refine r_cons ?_ | with_reducible refine r_cb ?_ | with_reducible refine r_sl ?_ | with_reducible refine r_noP ?_ | with_reducible refine r_part ?_ | with_reducible refine r_isI ?_ | with_reducible refine r_lst ?_ | with_reducible refine r_tup ?_ | with_reducible refine r_call ?_ | with_reducible refine r_callS ?_ | with_reducible refine r_sFldU ?_ | with_reducible refine r_chain ?_ | with_reducible refine r_enum ?_ | with_reducible refine r_zip ?_ | with_reducible refine r_rng3 ?_ | with_reducible refine r_gtup ?_ | with_reducible refine r_methU ?_
  | with_reducible refine r_test ?_ | with_reducible refine r_B ?_ | with_reducible refine r_and ?_ | with_reducible refine r_or ?_ | with_reducible refine r_not ?_ | with_reducible refine r_andV ?_ | with_reducible refine r_orV ?_ | with_reducible refine r_notV ?_ | with_reducible refine r_bl ?_ | with_reducible refine r_yes ?_ | with_reducible refine r_int ?_ | with_reducible refine r_is0 ?_ | with_reducible refine r_is1 ?_ | with_reducible refine iteT ?_ | with_reducible refine iteF ?_ | with_reducible refine ite_nF ?_ | with_reducible refine ite_nT ?_
  | with_reducible refine r_mod (by decide) ?_ | with_reducible refine r_div (by decide) (by decide) ?_ | with_reducible refine r_mulR (by decide) (by decide) ?_ | with_reducible refine r_mulL (by decide) (by decide) ?_ | with_reducible refine r_pow (by decide) (by decide) (by decide) ?_))
/-- what is left when the first k of a list are barred -/
structure Bard (R0 R : Rw) (xs : List Pr) (k : Nat) : Prop where
  g : Gt R
  l : R.length = R0.length
  w : wd R = wd R0
  c : ∀ z, z ∈ cells R → z ∈ cells R0 ∧ z ∉ xs.take k
theorem Bard.more {R0 R : Rw} {xs : List Pr} {k i j : Nat} (b : Bard R0 R xs k) (e : xs[k]? = some ((i : Int), (j : Int))) (hi : i < R.length) : Bard R0 (setN R i j) xs (k + 1) := by
  refine ⟨setN_gt b.g hi, by rw [setN_len]; exact b.l, by rw [setN_wd i j b.g.h0]; exact b.w, fun z hz => ?_⟩
  obtain ⟨h1, h2⟩ := setN_cells b.g hi hz
  obtain ⟨h3, h4⟩ := b.c z h1
  refine ⟨h3, fun q => ?_⟩
  rw [List.take_add_one, e] at q
  rcases List.mem_append.mp q with q | q
  · exact h4 q
  · exact h2 (List.mem_singleton.mp q)
def grid52 (ps : List Int) (m n : Nat) : Rw := (List.range m).map fun i => (List.range n).map fun j => some (ps.getD (8 * i + j) 0)
theorem grid52_len (ps : List Int) (m n : Nat) : (grid52 ps m n).length = m := by simp [grid52]
theorem grid52_at {ps : List Int} {m n i : Nat} (h : i < m) : (grid52 ps m n).getD i [] = (List.range n).map fun j => some (ps.getD (8 * i + j) 0) := by
  unfold grid52
  rw [List.getD_eq_getElem?_getD, List.getElem?_map, List.getElem?_range h]; rfl
theorem grid52_gt {ps : List Int} {m n : Nat} (m0 : 0 < m) (m8 : m ≤ 8) (n0 : 0 < n) (n8 : n ≤ 8) : Gt (grid52 ps m n) ∧ wd (grid52 ps m n) = n := by
  have w : wd (grid52 ps m n) = n := by
    unfold wd
    have : (grid52 ps m n).headD [] = (grid52 ps m n).getD 0 [] := by cases (grid52 ps m n) <;> rfl
    rw [this, grid52_at m0, List.length_map, List.length_range]
  refine ⟨⟨by rw [grid52_len]; exact m0, by rw [grid52_len]; exact m8, by rw [w]; exact n0, by rw [w]; exact n8, fun r hr => ?_⟩, w⟩
  unfold grid52 at hr
  obtain ⟨i, _, rfl⟩ := List.mem_map.mp hr
  rw [w, List.length_map, List.length_range]
theorem RowsAt.gk {H1 H' : Hp} {D : Addr} {S : Rw} (r : RowsAt H1 D S S.length H') : ∃ fs, Same H1 H' ∧ GK H1 H' D fs S := by
  obtain ⟨s2, fs, hD, fl, ds, fr⟩ := r
  refine ⟨fs, s2, hD, fl, fr, ?_⟩
  refine List.pairwise_iff_getElem.mpr fun i j hi hj ij e => ?_
  obtain ⟨c, ec, _⟩ := fr i fs[i] (List.getElem?_eq_getElem hi)
  have e1 : fs[i]? = some (.ref c) := by rw [List.getElem?_eq_getElem hi, ec]
  have e2 : fs[j]? = some (.ref c) := by rw [List.getElem?_eq_getElem hj, ← e, ec]
  have := ds i j c e1 e2
  omega
section
variable {P : Program} {w : World} {K : PySem.W.Frag} {mg : Str → Option Value} {base : Heap} {C CE CO CEO CL CB CN : Addr} {f : Addr} {fd : FuncData} {cdv : Value} {A : Around} {outer : List Env} {s : Shared} {H0 : Hp} {E : XK}
theorem ok_law (F : Fun K "law" "law" slaw f fd) (D : LD P w K mg base C CE CO CEO CL CB CN) (T : Bt mg) : FnOk P w K mg base CX0 40 f fd ["_law_script"] (spLaw K) := by
  refine F.ok sclaw (fun vs H Q E h => ?_) (fun cdv A outer s H vs Q E hr h => ?_)
  · obtain ⟨l, ns, rfl, _⟩ := h
    rfl
  · obtain ⟨l, sc, rfl, hl, h63, kE⟩ := h
    obtain ⟨u8, d8, h8⟩ := seg8 (f := f) (cdv := cdv) (outer := outer) (s := s) (H0 := H) (E := E) hr T D
    refine ⟨_, (pss_cons (ps_set (i := 1) sclaw.nd rfl (Or.inl rfl) (pe_df D.lDraws hr (by decide) (pa_cons (pv 0) (pa_cons pe_int (pa_cons (pe_op op_cat (pe_lst (pa_cons pe_int (pa_cons pe_int (pa_cons pe_int (pa_cons pe_int pa_nil))))) (pe_op op_rep (pe_lst (pa_cons pe_int pa_nil)) pe_int)) pa_nil)))))
  (pss_cons (ps_set (i := 2) sclaw.nd rfl (Or.inl rfl) (pe_op op_add pe_int (pe_ix ix_list (pv 1) pe_int (fun _ _ => rfl))))
  (pss_cons (ps_set (i := 3) sclaw.nd rfl (Or.inr rfl) (pe_op op_add pe_int (pe_ix ix_list (pv 1) pe_int (fun _ _ => rfl))))
  (pss_cons (ps_set (i := 4) sclaw.nd rfl (Or.inr rfl) (pe_df D.lDraws hr (by decide) (pa_cons (pv 0) (pa_cons pe_int (pa_cons (pe_op op_rep (pe_lst (pa_cons pe_int pa_nil)) pe_int) pa_nil)))))
  (pss_cons (ps_setLc (i := 5) (own := [("_law_i", 7)]) (g := gName 7) (te := tLc (iRng1 (tCons (tVar 3) tNil)) (gName 8) tYes (tOp (rIxL K) (tVar 4) (tOp (rI0 fun i j => .int (i + j)) (tOp (rI CMul fun i j => .int (i * j)) (tC (.int 8)) (tVar 7)) (tVar 8))) [8]) rfl sclaw.nd rfl rfl (sw_true rfl rfl rfl (by decide +kernel)) (pi_range1 rfl T.range (pa_cons (pv 2) pa_nil)) (blkOk_by (own := [("_law_i", 7)]) (N := nmLaw) (sc := defScope slaw) (by decide +kernel)) (fun _ _ _ _ _ => pg_name (i := 7) sclaw.nd rfl (Or.inr rfl)) (fun _ _ _ _ _ => pts_nil)
    (fun _ _ _ _ _ => (pe_lc (own := [("_law_j", 8)]) (g := gName 8) rfl sclaw.nd (pi_range1 rfl T.range (pa_cons (pv 3) pa_nil)) (blkOk_by (own := [("_law_j", 8)]) (N := nmLaw) (sc := relS (asgScope ((defBody slaw).getD 4 (.Pass ⟨0, 0, 0, 0⟩))) (defScope slaw)) (by decide +kernel)) (fun _ _ _ _ _ => pg_name (i := 8) sclaw.nd rfl (Or.inl rfl)) (fun _ _ _ _ _ => pts_nil) (fun _ _ _ _ _ => (pe_ix ix_list (pv 4) (pe_op op_add (pe_op op_mul pe_int (pv 7)) (pv 8)) (fun _ _ => rfl))))))
  (pss_cons (ps_set (i := 6) sclaw.nd rfl (Or.inl rfl) (pe_df D.lShuf hr (by decide) (pa_cons (pe_df D.lSpots hr (by decide) (pa_cons (pv 5) pa_nil)) (pa_cons (pe_slice sl_list (pv 1) (po_some pe_int) po_none) pa_nil))))
  (pss_cons (ps_for PassesOwn.never rfl (pi_list (pe_slice sl_list (pv 6) (po_some (pe_ix ix_list (pv 1) pe_int (fun _ _ => rfl))) po_none)) (pg_tup (by rfl) (pgs_cons (pg_name (i := 7) sclaw.nd rfl (Or.inl rfl)) (pgs_cons (pg_name (i := 8) sclaw.nd rfl (Or.inl rfl)) pgs_nil))) (pss_one (ps_asg pe_non (pg_sub (pe_ix ix_list (pv 5) (pv 7) (fun _ _ => rfl)) (pv 8) set_list))))
  (pss_cons (ps_set (i := 9) sclaw.nd rfl (Or.inl rfl) (pe_df D.lShuf hr (by decide) (pa_cons (pe_df D.lSpots hr (by decide) (pa_cons (pv 5) pa_nil)) (pa_cons (pe_df D.lDraws hr (by decide) (pa_cons (pv 0) (pa_cons pe_int (pa_cons (pe_op op_rep (pe_lst (pa_cons pe_int pa_nil)) pe_int) pa_nil)))) pa_nil)))) d8)))))))), ?_⟩
    walk_at "rd"
    refine ⟨by show 4 ≤ sizeLine; decide, fun p np => ?_⟩
    have s1 := Same.up (o := .lst [V.int 8, V.int 8, V.int 17, V.int 4]) (Same.refl H) np
    have hp1 : upd H p (.lst [V.int 8, V.int 8, V.int 17, V.int 4]) p = some (.lst [V.int 8, V.int 8, V.int 17, V.int 4]) := upd_same
    obtain ⟨H1, eH1⟩ : ∃ H1, H1 = upd H p (.lst [V.int 8, V.int 8, V.int 17, V.int 4]) := ⟨_, rfl⟩
    rw [← eH1] at s1 hp1 ⊢
    walk_at "rd"
    refine ⟨by show 1 ≤ sizeLine; decide, fun l2 nl2 => ?_⟩
    have s2' := Same.up (o := .lst [V.int 64]) (Same.refl H1) nl2
    have hl2 : upd H1 l2 (.lst [V.int 64]) l2 = some (.lst [V.int 64]) := upd_same
    obtain ⟨H2, eH2⟩ : ∃ H2, H2 = upd H1 l2 (.lst [V.int 64]) := ⟨_, rfl⟩
    rw [← eH2] at s2' hl2 ⊢
    walk_at "rd"
    refine ⟨l2, 64, [V.int 64], rfl, rfl, hl2, by decide, by decide, by show 1 * 64 ≤ sizeLine; decide, fun l3 nl3 => ?_⟩
    rw [show (List.replicate (64 : Int).toNat [V.int 64]).flatten = List.replicate 64 (V.int 64) from rfl]
    have s3' := Same.up (o := .lst (List.replicate 64 (V.int 64))) (Same.refl H2) nl3
    have hl3 : upd H2 l3 (.lst (List.replicate 64 (V.int 64))) l3 = some (.lst (List.replicate 64 (V.int 64))) := upd_same
    obtain ⟨H3, eH3⟩ : ∃ H3, H3 = upd H2 l3 (.lst (List.replicate 64 (V.int 64))) := ⟨_, rfl⟩
    rw [← eH3] at s3' hl3 ⊢
    walk_at "rd"
    refine ⟨p, l3, _, _, rfl, rfl, s3' _ _ (s2' _ _ hp1), hl3, by rw [List.length_replicate]; decide, fun l4 nl4 => ?_⟩
    obtain ⟨zs, ezs⟩ : ∃ zs : List Int, zs = 8 :: 8 :: 17 :: 4 :: List.replicate 64 64 := ⟨_, rfl⟩
    have zl : zs.length = 68 := by rw [ezs]; rfl
    have ezv : [V.int 8, V.int 8, V.int 17, V.int 4] ++ List.replicate 64 (V.int 64) = zs.map V.int := by
      rw [ezs]
      simp only [List.map_cons, List.map_replicate]
      rfl
    rw [ezv]
    have pos : ∀ z, z ∈ zs → 0 < z ∧ z ≤ 64 := fun z hz => by
      rw [ezs] at hz
      simp only [List.mem_cons, List.mem_replicate] at hz
      rcases hz with rfl | rfl | rfl | rfl | ⟨_, rfl⟩ <;> exact ⟨by decide, by decide⟩
    have s4' := Same.up (o := .lst (zs.map V.int)) (Same.refl H3) nl4
    have hl4 : upd H3 l4 (.lst (zs.map V.int)) l4 = some (.lst (zs.map V.int)) := upd_same
    obtain ⟨H4, eH4⟩ : ∃ H4, H4 = upd H3 l4 (.lst (zs.map V.int)) := ⟨_, rfl⟩
    rw [← eH4] at s4' hl4 ⊢
    have s14 := s2'.trans (s3'.trans s4')
    have s4 := s1.trans s14
    have hp4 := s14 _ _ hp1
    walk_at "rd"
    refine ⟨l, l4, sc, zs, 0, rfl, s4.seq hl, hl4, fun z hz => szd (pos z hz).1 (Int.lt_of_le_of_lt (pos z hz).2 (by decide +kernel)), by omega, fun h H5 s5' nh hh => ?_⟩
    have s5 := s4.trans s5'
    have hp5 := s5' _ _ hp4
    have pos' : ∀ z, z ∈ zs → 0 < z := fun z hz => (pos z hz).1
    obtain ⟨x0, e0, p0, q0⟩ := drawsF_get (ns := sc) (sp := 0) pos' (i := 0) (by rw [ezs]; rfl)
    obtain ⟨x1, e1, p1, q1⟩ := drawsF_get (ns := sc) (sp := 0) pos' (i := 1) (by rw [ezs]; rfl)
    obtain ⟨x2, e2, p2, q2⟩ := drawsF_get (ns := sc) (sp := 0) pos' (i := 2) (by rw [ezs]; rfl)
    obtain ⟨hs, ehs⟩ : ∃ hs, hs = drawsF sc 0 zs := ⟨_, rfl⟩
    have h68 : hs.length = 68 := by rw [ehs, drawsF_len, zl]
    rw [← ehs] at hh e0 e1 e2
    have at_ : ∀ {i : Nat} {x : Int}, hs[i]? = some x → (hs.map V.int)[i]? = some (.int x) := fun e => by rw [List.getElem?_map, e]; rfl
    obtain ⟨m, em⟩ : ∃ m : Nat, 1 + x0 = (m : Int) := ⟨(1 + x0).toNat, by omega⟩
    obtain ⟨n, en⟩ : ∃ n : Nat, 1 + x1 = (n : Int) := ⟨(1 + x1).toNat, by omega⟩
    obtain ⟨lv, elv⟩ : ∃ lv : Nat, x2 = (lv : Int) := ⟨x2.toNat, by omega⟩
    walk_at "rd"
    refine r_ixL (SqL.of hh) (atI_nat (j := 0) (at_ e0)) ?_
    walk_at "rd"
    refine r_ixL (SqL.of hh) (atI_nat (j := 1) (at_ e1)) ?_
    walk_at "rd"
    rw [em, en]
    refine ⟨by show 1 ≤ sizeLine; decide, fun l6 nl6 => ?_⟩
    have s6' := Same.up (o := .lst [V.int 3]) (Same.refl H5) nl6
    have hl6 : upd H5 l6 (.lst [V.int 3]) l6 = some (.lst [V.int 3]) := upd_same
    obtain ⟨H6, eH6⟩ : ∃ H6, H6 = upd H5 l6 (.lst [V.int 3]) := ⟨_, rfl⟩
    rw [← eH6] at s6' hl6 ⊢
    walk_at "rd"
    refine ⟨l6, 64, [V.int 3], rfl, rfl, hl6, by decide, by decide, by show 1 * 64 ≤ sizeLine; decide, fun l7 nl7 => ?_⟩
    obtain ⟨z3, ez3⟩ : ∃ z3 : List Int, z3 = List.replicate 64 3 := ⟨_, rfl⟩
    rw [show (List.replicate (64 : Int).toNat [V.int 3]).flatten = z3.map V.int by rw [ez3]; rfl]
    have s7' := Same.up (o := .lst (z3.map V.int)) (Same.refl H6) nl7
    have hl7 : upd H6 l7 (.lst (z3.map V.int)) l7 = some (.lst (z3.map V.int)) := upd_same
    obtain ⟨H7, eH7⟩ : ∃ H7, H7 = upd H6 l7 (.lst (z3.map V.int)) := ⟨_, rfl⟩
    rw [← eH7] at s7' hl7 ⊢
    have s57 := s6'.trans s7'
    have s7 := s5.trans s57
    have z3l : z3.length = 64 := by rw [ez3]; rfl
    have pos3 : ∀ z, z ∈ z3 → 0 < z ∧ z ≤ 3 := fun z hz => by
      rw [ez3] at hz
      rw [List.eq_of_mem_replicate hz]; exact ⟨by decide, by decide⟩
    walk_at "rd"
    refine ⟨l, l7, sc, z3, 1, rfl, s7.seq hl, hl7, fun z hz => szd (pos3 z hz).1 (Int.lt_of_le_of_lt (pos3 z hz).2 (by decide +kernel)), by omega, fun rp H8 s8' nrp hrp => ?_⟩
    have s58 := s57.trans s8'
    have s8 := s5.trans s58
    obtain ⟨ps, eps⟩ : ∃ ps, ps = drawsF sc 1 z3 := ⟨_, rfl⟩
    rw [← eps] at hrp
    have psl : ps.length = 64 := by rw [eps, drawsF_len, z3l]
    have hp8 := s58 _ _ hp5
    have hh8 := s58 _ _ hh
    have m0 : 0 < m := by omega
    have m8 : m ≤ 8 := by omega
    have n0 : 0 < n := by omega
    have n8 : n ≤ 8 := by omega
    obtain ⟨gR, wR⟩ := grid52_gt (ps := ps) m0 m8 n0 n8
    walk_at "rd"
    refine ⟨(m : Int), rfl, by omega, by omega, fun D9 nD9 => lc_it walk_range (RowsAt H8 D9 (grid52 ps m n)) (RowsAt.start nD9) (fun _ _ _ _ => trivial) ?_ ?_⟩
    · rintro i y H90 H9 hi r9 ⟨rfl, rfl⟩
      have hi : i < m := by simpa using hi
      have e0 : (0 : Int) + (i : Int) = (i : Int) := by omega
      simp only [e0]
      walk_at "rd"
      refine ⟨rfl, ?_⟩
      walk_at "rd"
      refine ⟨(n : Int), rfl, by omega, by omega, fun DA nDA => lc_it walk_range (Out H9 DA fun j => V.int (ps.getD (8 * i + j) 0)) (Out.start nDA) (fun _ _ _ _ => trivial) ?_ ?_⟩
      · rintro j y HB0 HB hj o ⟨rfl, rfl⟩
        have hj : j < n := by simpa using hj
        have e0 : (0 : Int) + (j : Int) = (j : Int) := by omega
        simp only [e0]
        walk_at "rd"
        refine ⟨rfl, ?_⟩
        walk_at "rd"
        rw [show (8 : Int) * (i : Int) + (j : Int) = ((8 * i + j : Nat) : Int) by omega]
        refine r_ixL (SqL.of (o.1 _ _ (r9.1 _ _ hrp))) (atI_nat (v := .int (ps.getD (8 * i + j) 0)) (by rw [List.getElem?_map, List.getD_eq_getElem?_getD, List.getElem?_eq_getElem (show 8 * i + j < ps.length by omega)]; rfl)) ?_
        exact o.more nDA (Same.refl _) (Nat.lt_of_lt_of_le (show j < 9 by omega) (by decide))
      · rintro HB ⟨sB, hDA⟩
        refine r9.more nD9 sB (by omega) nDA ?_
        rw [hDA, grid52_at hi, List.map_map, Int.toNat_natCast]
        rfl
    rintro H9 r9
    rw [Int.toNat_natCast] at r9
    have r9 : RowsAt H8 D9 (grid52 ps m n) (grid52 ps m n).length H9 := by rw [grid52_len]; exact r9
    obtain ⟨es, s9', gk⟩ := r9.gk
    obtain ⟨R0, eR0⟩ : ∃ R0, R0 = grid52 ps m n := ⟨_, rfl⟩
    rw [← eR0] at gk gR wR
    have R0l : R0.length = m := by rw [eR0, grid52_len]
    have hp9 := s9' _ _ hp8
    have hh9 := s9' _ _ hh8
    have s9 := s8.trans s9'
    have c64 := cells_len gR
    walk_at "rd"
    refine ⟨p, D9, es, R0, rfl, gk.rl.rs, gR, ⟨_, hp9⟩, fun r10 us H10 s10' nr10 hr10 pu => ?_⟩
    walk_at "rd"
    refine ⟨h, _, rfl, SqL.of (s10' _ _ hh9), fun q11 n11 => ?_⟩
    rw [show cutV (hs.map V.int) (some (4 : Int)) none = (hs.drop 4).map V.int by rw [List.map_drop]; exact cutDropO _ 4]
    have s11' := Same.up (o := .lst ((hs.drop 4).map V.int)) (Same.refl H10) n11
    have hq11 : upd H10 q11 (.lst ((hs.drop 4).map V.int)) q11 = some (.lst ((hs.drop 4).map V.int)) := upd_same
    obtain ⟨H11, eH11⟩ : ∃ H11, H11 = upd H10 q11 (.lst ((hs.drop 4).map V.int)) := ⟨_, rfl⟩
    rw [← eH11] at s11' hq11 ⊢
    have hd64 : (hs.drop 4).length = 64 := by rw [List.length_drop]; omega
    walk_at "rd"
    refine ⟨p, r10, q11, us, cells R0, hs.drop 4, rfl, s11' _ _ hr10, pu.keep (Keep.same s11'), hq11, by omega, by omega, by omega, fun r12 ws ys H12 s12' nr12 hr12 pw pmy => ?_⟩
    have s912 := s10'.trans (s11'.trans s12')
    have hp12 := s912 _ _ hp9
    have hh12 := s912 _ _ hh9
    have gk12 := gk.same s912
    have wl := pw.length
    have yl := pmy.length_eq
    walk_at "rd"
    refine r_ixL (SqL.of hh12) (atI_nat (j := 2) (at_ e2)) ?_
    rw [elv]
    walk_at "rd"
    refine ⟨r12, ws, rfl, SqL.of hr12, fun q13 n13 => ?_⟩
    rw [cutDropO]
    have s13' := Same.up (o := .lst (ws.drop lv)) (Same.refl H12) n13
    have hq13 : upd H12 q13 (.lst (ws.drop lv)) q13 = some (.lst (ws.drop lv)) := upd_same
    have q13r : ∀ (i : Nat) (v : V), es[i]? = some v → v ≠ .ref q13 := fun i v e z => by
      obtain ⟨a, e1, _, _, h1⟩ := gk12.row i v e
      rw [z] at e1
      cases e1
      rw [h1] at n13; cases n13
    obtain ⟨H13, eH13⟩ : ∃ H13, H13 = upd H12 q13 (.lst (ws.drop lv)) := ⟨_, rfl⟩
    rw [← eH13] at s13' hq13 ⊢
    have s813 := s9'.trans (s912.trans s13')
    have pd : PrsAt p H13 (ws.drop lv) (ys.drop lv) := (pw.keep (Keep.same s13')).drop lv
    have gk13 := gk12.same s13'
    refine ⟨q13, rfl, ⟨_, SqL.of hq13⟩, for_it walk_list (fun k σ H' => ∃ v7 v8 R, σ = [some (.ref l), some (.ref h), some (.int (m : Int)), some (.int (n : Int)), some (.ref rp), some (.ref D9), some (.ref r12), v7, v8, none, none, none, none, none, none, none, none, none] ∧ Same H8 H' ∧ H' q13 = some (.lst (ws.drop lv)) ∧ PrsAt p H' (ws.drop lv) (ys.drop lv) ∧ GK H8 H' D9 es R ∧ Bard R0 R (ys.drop lv) k) ⟨_, _, R0, rfl, s813, hq13, pd, gk13, gR, rfl, rfl, fun z hz => ⟨hz, fun q => by rw [List.take_zero] at q; cases q⟩⟩ (fun k σ H' _ z => by obtain ⟨_, _, _, _, _, z, _⟩ := z; exact SqL.of z) ?_ ?_⟩
    · rintro k y σ H140 H14 hk ⟨v7, v8, R, rfl, s14, h14, p14, gk14, bar⟩ ⟨rfl, ey⟩
      obtain ⟨z, ez, pz⟩ := p14.at ey
      have zc : z ∈ cells R0 := pmy.mem_iff.mp (List.mem_of_mem_drop (List.mem_of_getElem? ez))
      obtain ⟨i, j, rfl, hi, hj, _⟩ := cells_nat zc
      obtain ⟨tt, rfl, tp, htt⟩ := id pz
      have hi' : i < R.length := by rw [bar.l]; exact hi
      have hj' : j < wd R := by rw [bar.w]; exact hj
      have ei : i < es.length := by rw [gk14.len]; exact hi'
      obtain ⟨a, ea0, na, n2, haA⟩ := gk14.row i _ (List.getElem?_eq_getElem ei)
      have ea : es[i]? = some (.ref a) := by rw [List.getElem?_eq_getElem ei, ea0]
      refine r_gtup ⟨tt, _, rfl, SqT.of htt, rfl, _, _, rfl, ?_⟩
      walk_at "rd"
      refine ⟨_, _, rfl, ?_⟩
      walk_at "rd"
      refine ⟨rfl, ?_⟩
      walk_at "rd"
      refine r_ixL (SqL.of gk14.at_) (atI_nat ea) ?_
      walk_at "rd"
      refine r_setL haA (ixN_nat (j := j) (by rw [wd_row bar.g hi']; exact hj')) ?_
      have er : ((R.getD i []).map pV).set j .non = ((setN R i j).getD i []).map pV := by
        rw [setN_at R i j i hi', if_pos rfl, List.map_set]; rfl
      rw [er]
      have gkB := gk14.setN (j := j) hi' ea
      have a8 : q13 ≠ a := fun q => q13r i _ ea (by rw [q])
      have nt : ∀ c xs, H14 c = some (.tup xs) → upd H14 a (.lst (((setN R i j).getD i []).map pV)) c = some (.tup xs) := fun c xs e => by
        rw [upd_ne (fun z => by rw [z, haA] at e; cases e)]
        exact e
      exact ⟨_, _, setN R i j, rfl, Same.upOff s14 n2, by rw [upd_ne a8]; exact h14, p14.mono nt, gkB, bar.more ez hi'⟩
    rintro σ H14 ⟨v7, v8, R, rfl, s14, h14, p14, gk14, bar⟩
    have g := bar.g
    have cs : ∀ z, z ∈ cells R → z ∈ ys.take lv := fun z hz => by
      obtain ⟨h1, h2⟩ := bar.c z hz
      have wd_ : (ws.drop lv).length = (ys.drop lv).length := p14.length
      rw [wd_, List.take_length] at h2
      have := pmy.mem_iff.mpr h1
      rw [← List.take_append_drop lv ys] at this
      exact (List.mem_append.mp this).resolve_right h2
    have c16 : (cells R).length ≤ 16 := by
      have := sub_len (cells_nodup R) cs
      rw [List.length_take] at this
      omega
    have hp14 := s14 _ _ hp8
    have s014 := s8.trans s14
    walk_at "rd"
    refine ⟨p, D9, es, R, rfl, gk14.rl.rs, g, ⟨_, hp14⟩, fun r15 us2 H15 s15' nr15 hr15 pu2 => ?_⟩
    walk_at "rd"
    refine ⟨by show 1 ≤ sizeLine; decide, fun l16 nl16 => ?_⟩
    have s16' := Same.up (o := .lst [V.int 64]) (Same.refl H15) nl16
    have hl16 : upd H15 l16 (.lst [V.int 64]) l16 = some (.lst [V.int 64]) := upd_same
    obtain ⟨H16, eH16⟩ : ∃ H16, H16 = upd H15 l16 (.lst [V.int 64]) := ⟨_, rfl⟩
    rw [← eH16] at s16' hl16 ⊢
    walk_at "rd"
    refine ⟨l16, 16, [V.int 64], rfl, rfl, hl16, by decide, by decide, by show 1 * 16 ≤ sizeLine; decide, fun l17 nl17 => ?_⟩
    obtain ⟨z6, ez6⟩ : ∃ z6 : List Int, z6 = List.replicate 16 64 := ⟨_, rfl⟩
    rw [show (List.replicate (16 : Int).toNat [V.int 64]).flatten = z6.map V.int by rw [ez6]; rfl]
    have s17' := Same.up (o := .lst (z6.map V.int)) (Same.refl H16) nl17
    have hl17 : upd H16 l17 (.lst (z6.map V.int)) l17 = some (.lst (z6.map V.int)) := upd_same
    obtain ⟨H17, eH17⟩ : ∃ H17, H17 = upd H16 l17 (.lst (z6.map V.int)) := ⟨_, rfl⟩
    rw [← eH17] at s17' hl17 ⊢
    have z6l : z6.length = 16 := by rw [ez6]; rfl
    have pos6 : ∀ z, z ∈ z6 → Szd z := fun z hz => by
      rw [ez6] at hz
      rw [List.eq_of_mem_replicate hz]; exact szd (by decide) (by decide +kernel)
    have s017 := s014.trans (s15'.trans (s16'.trans s17'))
    walk_at "rd"
    refine ⟨l, l17, sc, z6, 2, rfl, s017.seq hl, hl17, pos6, by omega, fun r18 H18 s18' nr18 hr18 => ?_⟩
    have s1518 := s16'.trans (s17'.trans s18')
    have dl18 : (drawsF sc 2 z6).length = 16 := by rw [drawsF_len, z6l]
    walk_at "rd"
    refine ⟨p, r15, r18, us2, cells R, _, rfl, s1518 _ _ hr15, pu2.keep (Keep.same s1518), hr18, by rw [dl18]; exact c16, cells_len g, by rw [dl18]; omega, fun r19 ws2 ys2 H19 s19' nr19 hr19 pw2 pm2 => ?_⟩
    have s1419 := s15'.trans (s1518.trans s19')
    exact h8 _ H19 _ _ _ _ _ _ _ _ _ _ _ _ _ _ _ _ ⟨_, s1419 _ _ hp14⟩ (gk14.same s1419) g pm2 hr19 pw2 kE
end
end Pk
set_option Elab.async false
set_option linter.all false
set_option maxRecDepth 100000
set_option maxHeartbeats 4000000
namespace Pk
open PySem PySem.Spec PySem.Calls PyProof.Rows PySem.W
section
variable {prog : Program} {w : World} {A : Around} {E : Value → Shared → Prop} {s : Shared} {K : Frag} {x D : Addr} {ox : Obj} {od : Option Obj}
/-- e.__class__, e an error of an own class, with a dict or without -/
theorem err_class {Q : Option Value → Shared → Prop} (C : L2.ExcC K D) (hf : findObj K D od "__class__" = some (.bind (.builtin "getset_descriptor.__get__") (.builtin "object.__class__"))) (X : K.In s.heap) (I : InstAt s.heap x ox D od)
    (h : Q (some (.ref D)) { s with toks := s.toks + 1 }) : wpAny (model prog w) A (getAttr? (.ref x) "__class__") Q E s := by
  obtain ⟨hp, g, d, t, os⟩ := s
  have b0 := I.type (M := model prog w)
  have b1 := looks_findIn (M := model prog w) X C.hg
  have b2 := looks_findIn (M := model prog w) X C.hk
  have b3 := looks_find (M := model prog w) X I hf
  have b4 : Looks (model prog w) hp (isInstance (.ref x) (.type "BaseException")) true := b0.andThen (looks_subIn X C.hs)
  have z0 : (false && onTheHeap (Value.builtin "BaseException.__getattribute__")) = false := rfl
  have z1 : (onTheHeap (Value.ref D) && Value.builtin "BaseException.__getattribute__" == Value.builtin "object.__getattribute__") = false := by
    rw [(by decide +kernel : (Value.builtin "BaseException.__getattribute__" == Value.builtin "object.__getattribute__") = false)]; rfl
  unfold getAttr? getAttrBy? getAttrBy
  refine wpAny_bind (wpAny_mkText (wpAny_bind (wpAny_attempt (wpAny_holding (wpAny_bind (b0.at (wpAny_bind (b1.at ?_))))))))
  show wpAny _ _ (if (onTheHeap (Value.ref D) && Value.builtin "BaseException.__getattribute__" == Value.builtin "object.__getattribute__") = true then _ else _) _ _ _
  rw [z1, if_neg Bool.false_ne_true]; unfold getAttrByItsOwn hookBefore
  refine wpAny_bind ?_
  have onh : onTheHeap (Value.ref D) = true := rfl
  rw [if_pos onh]
  refine b2.at (wpAny_bind (wpAny_attempt (wpAny_holding ?_)))
  unfold callGetattribute
  rw [z0, if_neg Bool.false_ne_true]; unfold boundAndCalled
  rw [PySem.F.excAttr_ValueError.ga.bind (.ref x)]
  refine wpAny_bind (wpAny_pure ?_)
  show wpAny _ _ (call (.builtin "BaseException.__getattribute__") [.ref x, .str "__class__" t]) _ _ _
  refine wpAny_call (codeAny_call_builtin PySem.F.excAttr_ValueError.ga.plain PySem.F.entry_bexc_ga (@check_slot (model prog w) _ _ ⟨hp, g, d, t + 1, os⟩ "BaseException.__getattribute__" "BaseException" "__getattribute__" (.ref x) [.str "__class__" t] [] _
    (by decide +kernel) (by decide +kernel) b4 (PySem.F.args_bexc_ga (.ref x) (.str "__class__" t)) ?_))
  unfold Builtin.«object.__getattribute__»
  refine wpAny_bind (wpAny_of_eq (a := ((Value.ref x : Value), [Value.str "__class__" t])) (by first | rfl | (simp only [slotArgs]; rfl)) (wpAny_bind (wpAny_pure (wpAny_bind (b0.at (wpAny_bind (b3.at ?_)))))))
  show wpAny _ _ (holding [Value.builtin "object.__class__"] (call (.builtin "getset_descriptor.__get__") [.builtin "object.__class__", .ref x, .ref D]) >>= ret) _ _ _
  refine wpAny_bind (wpAny_holding (wpAny_call (class_get (s := ⟨hp, g, d, t + 1, os⟩) (ox := ox) (od := od) X I C.hm (wpAny_pure ?_))))
  show wpAny _ _ (handedOut (.ref D)) _ _ _
  rw [handedOut_of (v := .ref D) rfl]
  first | exact wpAny_pure (wpAny_pure h) | exact wpAny_pure h | exact wpAny_pure (wpAny_bind (wpAny_pure (wpAny_pure h)))
theorem err_kit {od : Obj} (C : L2.ExcC K D) : KitX K (.ref x) (.ref D) (fun h => InstAt h x ox D (some od)) where
  ty := fun _ _ _ I => I.type
  it := fun _ _ X _ => by
    obtain ⟨cd, hc, _⟩ := any_some C.hd
    unfold clsIn at hc
    split at hc
    · rename_i ho
      intro A' Q' E' s' k q
      unfold isType loadHead
      exact wpAny_bind (wpAny_loadPart (k _ _ (X _ _ ho)) (wpAny_pure q))
    · cases hc
  ne := fun h tp dd its n sl X htp => by
    obtain ⟨cd, hc, _⟩ := any_some C.hd
    refine Bool.eq_false_iff.mpr fun q => ?_
    obtain rfl : D = tp := Value.ref.inj (beq_iff_eq.mp q)
    unfold clsIn at hc
    split at hc
    · rename_i ho
      cases (X _ _ ho).symm.trans htp
    · cases hc
  ca := fun X I k => err_class C (findObj_data (by obtain ⟨cd, hc, _⟩ := any_some C.hd; rw [hc]; rfl) C.ha C.hn C.ht) X I k
end
section
open L2
variable {X : Cx} {k : Nat}
/-- isinstance(e, c), e the error at p (of class D, its dict tracked at d) that is held -/
def rIsO (K : PySem.W.Frag) (D a d : Addr) : List V → Hp → VK → Prop := fun xs H Q => ∃ (c : V) (cv : Value) (b : Bool) (fs : List (Str × V)), xs = [.ref a, c] ∧ (∀ u, RelV c u → u = cv) ∧ H d = some (.xd fs) ∧ PySem.W.kitOne K (.ref D) cv = some b ∧ Q (.bl b) H
theorem call_isO {D d : Addr} {p : Addr × Obj} (C : ExcC X.K D) (hp : p ∈ X.pn) (hz : Zc (.ref D) (some d) p.2) (hf : ∃ vs, p.2.data = .fields vs) : CallR X (.builtin "isinstance") (rIsO X.K D p.1 d) := by
  intro pins s σ H xs us Q I r h
  obtain ⟨c, cv, b, fs, rfl, hcv, hd, e, q⟩ := h
  obtain ⟨u1, u2, rfl, rx, rt⟩ : ∃ u1 u2, us = [u1, u2] ∧ RelV (.ref p.1) u1 ∧ RelV c u2 := by
    cases r with
    | cons rx rr => cases rr with
      | cons rt rr => cases rr; exact ⟨_, _, rfl, rx, rt⟩
  cases rx
  cases hcv _ rt
  have hget := (I.pin p (List.mem_append_left _ hp)).1
  obtain ⟨vs, hv⟩ := hf
  have ob : ObjOk X.prog X.w H s.heap d (.xd fs) := I.hok d _ hd
  obtain ⟨mA, hns, hr⟩ := ob
  obtain ⟨od, ho, hl⟩ := lookIn_ns hns
  have J : PySem.W.InstAt s.heap p.1 p.2 D (some od) := ⟨hget, hz.1, by unfold PySem.W.notCls; rw [hv] <;> rfl, by rw [hz.2]; exact ho⟩
  exact PySem.W.kia_one (err_kit C) I.kIn J e (fun z => nomatch z) fun tk => ⟨.bl b, H, I.kept (t' := tk) fun _ _ z => z, rfl, q⟩
end
end Pk
set_option Elab.async false
set_option linter.all false
set_option maxRecDepth 100000
set_option maxHeartbeats 4000000
namespace Pk
open PySem L2
local macro_rules | `(tactic| walk_at "rd") => `(tactic| repeat (first
  | with_reducible refine r_seq ?_ | with_reducible refine r_nxt ?_ | with_reducible refine r_asg ?_ | with_reducible refine r_to ?_ | with_reducible refine r_ret ?_ | with_reducible refine r_for ?_ | with_reducible refine r_lc ?_ | with_reducible refine r_lc2 ?_ | with_reducible refine r_rng1 ?_ | with_reducible refine r_list ?_ | with_reducible refine r_tupI ?_ | with_reducible refine r_drop ?_ | with_reducible refine r_ifs ?_
  | with_reducible refine r_op ?_ | with_reducible refine r_c ?_ | with_reducible refine r_var rfl ?_ | with_reducible refine r_var (by assumption) ?_ | with_reducible refine r_I0 ?_ | with_reducible refine r_un ?_ | with_reducible refine r_U ?_ | with_reducible refine r_make ?_ | with_reducible refine r_makeS ?_ | with_reducible refine r_ifE ?_ | with_reducible refine r_cm ?_ | with_reducible refine r_mkV rfl ?_ | with_reducible refine r_sub ?_
  | with_reducible refine r_nil ?_ | with_reducible refine r_cons ?_ | with_reducible refine r_cb ?_ | with_reducible refine r_sl ?_ | with_reducible refine r_noP ?_ | with_reducible refine r_part ?_ | with_reducible refine r_isI ?_ | with_reducible refine r_lst ?_ | with_reducible refine r_tup ?_ | with_reducible refine r_call ?_ | with_reducible refine r_callS ?_ | with_reducible refine r_sFldU ?_ | with_reducible refine r_chain ?_ | with_reducible refine r_enum ?_ | with_reducible refine r_zip ?_ | with_reducible refine r_rng3 ?_ | with_reducible refine r_gtup ?_ | with_reducible refine r_methU ?_
  | with_reducible refine r_test ?_ | with_reducible refine r_B ?_ | with_reducible refine r_and ?_ | with_reducible refine r_or ?_ | with_reducible refine r_not ?_ | with_reducible refine r_andV ?_ | with_reducible refine r_orV ?_ | with_reducible refine r_notV ?_ | with_reducible refine r_bl ?_ | with_reducible refine r_yes ?_ | with_reducible refine r_int ?_ | with_reducible refine r_is0 ?_ | with_reducible refine r_is1 ?_ | with_reducible refine iteT ?_ | with_reducible refine iteF ?_ | with_reducible refine ite_nF ?_ | with_reducible refine ite_nT ?_
  | with_reducible refine r_mod (by decide) ?_ | with_reducible refine r_div (by decide) (by decide) ?_ | with_reducible refine r_mulR (by decide) (by decide) ?_ | with_reducible refine r_mulL (by decide) (by decide) ?_ | with_reducible refine r_pow (by decide) (by decide) (by decide) ?_))
/-! ### the errors -/
section
variable {P : Program} {w : World} {K : PySem.W.Frag} {mg : Str → Option Value} {base : Heap} {C fI cc fc : Addr} {fdc : FuncData}
abbrev slIT : Stmt := inCls 4 0
abbrev nfIT (cc c : Addr) : NdefX.NF := { name := "__init__", qual := "InvalidTable.__init__", params := defArgs slIT, body := defBody slIT, scope := defScope slIT, cl := [(("__class__" : Str), cc)], c := c }
theorem ok_IT {c : Addr} {n : Nat} (T : ErrC K C) (J : InitFn P K C fI cc (nfIT cc c)) (B : Bt mg) (G : FnOk P w K mg base CX0 (n + 1) fc fdc ["value"] (spCopy K n)) (mc : mg "own_copy" = some (.ref fc)) (kc : PySem.W.keepIn K (.ref fc) = true)
    (bc : Binds K fdc ["value"] []) (free : PySem.W.findIn K (.ref C) "at" = some none) : ErrOk P w K mg base (n + 2) C fI (spErr1 K n C "at") := by
  exact err_one (F := nfIT cc c) T J B.super G mc kc bc (NdefX.nscope_by (by show NdefX.nscB _ _ _ (defScope slIT) = true; decide +kernel)) rfl rfl rfl free (fun _ _ _ _ _ us hl => match us, hl with | [_, _], _ => rfl) (fun env => rfl) (by decide) (by decide)
abbrev slIO : Stmt := inCls 5 0
abbrev nfIO (cc c : Addr) : NdefX.NF := { name := "__init__", qual := "InvalidOrder.__init__", params := defArgs slIO, body := defBody slIO, scope := defScope slIO, cl := [(("__class__" : Str), cc)], c := c }
theorem ok_IO {c : Addr} {n : Nat} (T : ErrC K C) (J : InitFn P K C fI cc (nfIO cc c)) (B : Bt mg) (G : FnOk P w K mg base CX0 (n + 1) fc fdc ["value"] (spCopy K n)) (mc : mg "own_copy" = some (.ref fc)) (kc : PySem.W.keepIn K (.ref fc) = true)
    (bc : Binds K fdc ["value"] []) (free : PySem.W.findIn K (.ref C) "at" = some none) : ErrOk P w K mg base (n + 2) C fI (spErr1 K n C "at") := by
  exact err_one (F := nfIO cc c) T J B.super G mc kc bc (NdefX.nscope_by (by show NdefX.nscB _ _ _ (defScope slIO) = true; decide +kernel)) rfl rfl rfl free (fun _ _ _ _ _ us hl => match us, hl with | [_, _], _ => rfl) (fun env => rfl) (by decide) (by decide)
abbrev slIB : Stmt := inCls 7 0
abbrev nfIB (cc c : Addr) : NdefX.NF := { name := "__init__", qual := "InvalidBound.__init__", params := defArgs slIB, body := defBody slIB, scope := defScope slIB, cl := [(("__class__" : Str), cc)], c := c }
theorem ok_IB {c : Addr} {n : Nat} (T : ErrC K C) (J : InitFn P K C fI cc (nfIB cc c)) (B : Bt mg) (G : FnOk P w K mg base CX0 (n + 1) fc fdc ["value"] (spCopy K n)) (mc : mg "own_copy" = some (.ref fc)) (kc : PySem.W.keepIn K (.ref fc) = true)
    (bc : Binds K fdc ["value"] []) (free : PySem.W.findIn K (.ref C) "name" = some none) : ErrOk P w K mg base (n + 2) C fI (spErr1 K n C "name") := by
  exact err_one (F := nfIB cc c) T J B.super G mc kc bc (NdefX.nscope_by (by show NdefX.nscB _ _ _ (defScope slIB) = true; decide +kernel)) rfl rfl rfl free (fun _ _ _ _ _ us hl => match us, hl with | [_, _], _ => rfl) (fun env => rfl) (by decide) (by decide)
abbrev slIL : Stmt := inCls 9 0
abbrev nfIL (cc c : Addr) : NdefX.NF := { name := "__init__", qual := "LimitExceeded.__init__", params := defArgs slIL, body := defBody slIL, scope := defScope slIL, cl := [(("__class__" : Str), cc)], c := c }
theorem ok_IL {c : Addr} {n : Nat} (T : ErrC K C) (J : InitFn P K C fI cc (nfIL cc c)) (B : Bt mg) (G : FnOk P w K mg base CX0 (n + 1) fc fdc ["value"] (spCopy K n)) (mc : mg "own_copy" = some (.ref fc)) (kc : PySem.W.keepIn K (.ref fc) = true)
    (bc : Binds K fdc ["value"] []) (free : PySem.W.findIn K (.ref C) "limit" = some none) : ErrOk P w K mg base (n + 2) C fI (spErr1 K n C "limit") := by
  exact err_one (F := nfIL cc c) T J B.super G mc kc bc (NdefX.nscope_by (by show NdefX.nscB _ _ _ (defScope slIL) = true; decide +kernel)) rfl rfl rfl free (fun _ _ _ _ _ us hl => match us, hl with | [_, _], _ => rfl) (fun env => rfl) (by decide) (by decide)
abbrev slNR : Stmt := inCls 8 0
abbrev nfNR (cc c : Addr) : NdefX.NF := { name := "__init__", qual := "NotRight.__init__", params := defArgs slNR, body := defBody slNR, scope := defScope slNR, cl := [(("__class__" : Str), cc)], c := c }
theorem ok_NR {c : Addr} {n : Nat} (T : ErrC K C) (J : InitFn P K C fI cc (nfNR cc c)) (B : Bt mg) (G : FnOk P w K mg base CX0 (n + 1) fc fdc ["value"] (spCopy K n)) (mc : mg "own_copy" = some (.ref fc)) (kc : PySem.W.keepIn K (.ref fc) = true)
    (bc : Binds K fdc ["value"] []) (free : PySem.W.findIn K (.ref C) "fault" = some none) : ErrOk P w K mg base (n + 2) C fI (spErr1 K n C "fault") := by
  exact err_one (F := nfNR cc c) T J B.super G mc kc bc (NdefX.nscope_by (by show NdefX.nscB _ _ _ (defScope slNR) = true; decide +kernel)) rfl rfl rfl free (fun _ _ _ _ _ us hl => match us, hl with | [_, _], _ => rfl) (fun env => rfl) (by decide) (by decide)
end
theorem fi_of {K : PySem.W.Frag} {C f0 : Addr} {m : Str} (h1 : PySem.W.findIn K (.ref C) m = some (some (.ref f0))) (h2 : PySem.W.fnIn K f0 = true) : ∀ f, PySem.W.findIn K (.ref C) m = some (some (.ref f)) → PySem.W.fnIn K f = true := fun f e => by
  rw [h1] at e
  have z := Value.ref.inj (Option.some.inj (Option.some.inj e))
  rw [← z]
  exact h2
theorem vals_app {vs zs : List V} {us ws : List Value} (r : Vals vs us) (z : Vals zs ws) : Vals (vs ++ zs) (us ++ ws) := by
  induction r with
  | nil => exact z
  | cons a _ ih => exact .cons a ih
theorem kin_of {K : PySem.W.Frag} {a : Addr} {od : Option Addr} {its : Array Value} {n : Nat} {sl : Array (Option Value)} {xs : List V} (l : K.lookup a = some ⟨.type "tuple", od, .seq its n, sl⟩) (z : its.size ≤ 1000) (v : Vals xs its.toList) : ∀ H, SqT K H a xs :=
  fun H => .inr ⟨_, its, n, l, rfl, rfl, Nat.le_trans z (by decide), v⟩
theorem err_other {K : PySem.W.Frag} {S T : Addr} (h1 : PySem.W.subIn K (.ref T) (.type "BaseException") = some true) (h2 : PySem.W.isClsIn K T = true) (h3 : PySem.W.typeIn K (.ref T) = some (.type "type"))
    (h4 : PySem.W.subIn K (.ref S) (.ref T) = some false) : PySem.W.exmOne K (.ref S) (.ref T) = some false := by
  have h5 : (PySem.W.clsIn K T).isSome = true := h2
  unfold PySem.W.exmOne PySem.W.kitCls
  simp only [h1, h3, h4, h5]
  rfl
open PySem.W
theorem all_mk {l : PySem.W.OpenLaw} {w : World} {K : PySem.W.Frag} {h : Heap} {mg : Str → Option Value} {fa : Addr} (X : K.In h) (G : h.Ns mainGlobals mg) (hfa : mg "law" = some (.ref fa)) {CET fIET ccET cET CEO fIEO ccEO cEO CEB fIEB ccEB cEB CEL fIEL ccEL cEL CEN fIEN ccEN cEN CPE aKin CT CO : Addr}
    (bt : BtIn K)
    (top : (l.prog.main.scope.names.lookup ("super" : Str)).isSome = false)
    (d_own : DefAt K "own_copy" sCopy)
    (e_ET : ErrAt1 l.prog K "InvalidTable" "InvalidTable.__init__" slIT CET fIET ccET cET)
    (fr_ET_at : PySem.W.findIn K (.ref CET) "at" = some none)
    (e_EO : ErrAt1 l.prog K "InvalidOrder" "InvalidOrder.__init__" slIO CEO fIEO ccEO cEO)
    (fr_EO_at : PySem.W.findIn K (.ref CEO) "at" = some none)
    (e_EB : ErrAt1 l.prog K "InvalidBound" "InvalidBound.__init__" slIB CEB fIEB ccEB cEB)
    (fr_EB_name : PySem.W.findIn K (.ref CEB) "name" = some none)
    (e_EL : ErrAt1 l.prog K "LimitExceeded" "LimitExceeded.__init__" slIL CEL fIEL ccEL cEL)
    (fr_EL_limit : PySem.W.findIn K (.ref CEL) "limit" = some none)
    (e_EN : ErrAt1 l.prog K "NotRight" "NotRight.__init__" slNR CEN fIEN ccEN cEN)
    (fr_EN_fault : PySem.W.findIn K (.ref CEN) "fault" = some none)
    (gPE : PySem.W.nsIn K mainGlobals "PairError" = some (some (.ref CPE)))
    (sx1 : PySem.W.subIn K (.ref CEB) (.ref CEL) = some false)
    (sx2 : PySem.W.subIn K (.ref CEO) (.ref CEL) = some false)
    (sx3 : PySem.W.subIn K (.ref CEO) (.ref CEB) = some false)
    (sx4 : PySem.W.subIn K (.ref CEN) (.ref CEL) = some false)
    (sx5 : PySem.W.subIn K (.ref CEN) (.ref CEB) = some false)
    (sx6 : PySem.W.subIn K (.ref CEN) (.ref CEO) = some false)
    (kn : PySem.W.nsIn K mainGlobals "KINDS" = some (some (.ref aKin)))
    (kin : ∀ H, SqT K H aKin kinds)
    (d_DIK : DefAt K "is_kind" slIsKind)
    (d_DK : DefAt K "check_kind" slChKind)
    (d_DI : DefAt K "is_integer" slIsInt)
    (d_DT : DefAt K "is_two" slTwo)
    {tk_aL : Tok}
    (a_aL : PySem.W.nsIn K mainGlobals "MOST_LINES" = some (some (.int 8 tk_aL)))
    {tk_aP : Tok}
    (a_aP : PySem.W.nsIn K mainGlobals "MOST_PAIRS" = some (some (.int 64 tk_aP)))
    (d_DOd : DefAt K "is_orderable" slOrdb)
    (d_DCP : DefAt K "check_pairs" slChkP)
    (b_all : PySem.W.nsIn K mainGlobals "all" = some none)
    (d_DPr : DefAt K "is_price" slPrice)
    (d_DRo : DefAt K "is_row" slRow)
    (d_DC : DefAt K "check_rows" slChkR)
    (a_CT : PySem.W.nsIn K mainGlobals "Table" = some (some (.ref CT)))
    (me_i : MethAt K CT "__init__" "Table.__init__" slTbI)
    (me_q : MethAt K CT "pairs" "Table.pairs" slTPrs)
    (me_s : MethAt K CT "stocks" "Table.stocks" slTStk)
    (me_w : MethAt K CT "wishes" "Table.wishes" slTWsh)
    (me_r : MethAt K CT "rows" "Table.rows" slTRws)
    (me_l : MethAt K CT "__len__" "Table.__len__" slTLen)
    (O_CT : OwnC K CT)
    (mk_CT : PySem.W.makesIn K CT = true)
    (kc_CT : PySem.W.keepIn K (.ref CT) = true)
    (no_CT_entries : PySem.W.findIn K (.ref CT) "entries" = some none)
    (no_CT_used : PySem.W.findIn K (.ref CT) "used" = some none)
    (a_CO : PySem.W.nsIn K mainGlobals "Order" = some (some (.ref CO)))
    (me_oi : MethAt K CO "__init__" "Order.__init__" slOrI)
    (me_ol : MethAt K CO "__len__" "Order.__len__" slLen)
    (me_oh : MethAt K CO "__contains__" "Order.__contains__" slHas)
    (me_oq : MethAt K CO "pairs" "Order.pairs" slPrs)
    (O_CO : OwnC K CO)
    (mk_CO : PySem.W.makesIn K CO = true)
    (kc_CO : PySem.W.keepIn K (.ref CO) = true)
    (no_CO_sequence : PySem.W.findIn K (.ref CO) "sequence" = some none)
    {tk_aC : Tok}
    (a_aC : PySem.W.nsIn K mainGlobals "MOST_COUNTED" = some (some (.int 12 tk_aC)))
    (b_rev : PySem.W.nsIn K mainGlobals "reversed" = some none)
    (d_DB : DefAt K "is_between" slBet)
    (d_HC : DefAt K "has_columns" slHasC)
    (d_HR : DefAt K "has_rows" slHasR)
    (d_DS : DefAt K "stocks_behind" slStB)
    (d_DW : DefAt K "wishes_behind" slWiB)
    (d_DCr : DefAt K "is_cross" slIsCr)
    (d_DM : DefAt K "marks" slMarks)
    (d_DX : DefAt K "crosses" slCrs)
    (d_DCo : DefAt K "columns" slCol)
    (d_DLi : DefAt K "lines" slLin)
    (d_DF : DefAt K "faults_of" slFau)
    (d_DAF : DefAt K "all_faults" slAllF)
    (d_DEa : DefAt K "earliest" slEarl)
    (d_DCO : DefAt K "check_order" slChO)
    (d_DCR : DefAt K "check_right" slCkR)
    (d_DSet : DefAt K "set_of" slSetOf)
    (d_DPB : DefAt K "pairs_behind" slPBeh)
    (d_DFree : DefAt K "free_after" slFreeA)
    (d_DWays : DefAt K "ways_after" slWaysA)
    (d_DCk : DefAt K "check_countable" slCkC)
    (d_DBars : DefAt K "bars_of" slBarsOf)
    (d_DTurn : DefAt K "turn" slTurn)
    (d_DCount : DefAtK K "count" "kind" "even" slCount)
    (d_DAt : DefAtK K "order_at" "kind" "even" slOrdAt)
    (d_DNum : DefAtK K "number_of" "kind" "even" slNumOf)
    (d_L1 : DefAt K "_law_cell" slCell2)
    (d_L2x : DefAt K "_law_mixed" slMix2)
    (d_L3 : DefAt K "_law_draws" slDraws)
    (d_L5 : DefAt K "_law_spots" slSpots)
    (d_L9 : DefAt K "_law_cross" slLCr)
    (d_L7 : DefAt K "_law_shuffled" slShuf2)
    (d_LCall : DefAt K "_law_call" slLCall)
    (d_LRef : DefAt K "_law_refusal" slRef52)
    (d_LFst : DefAt K "_law_first_fault" slFst52)
    (d_LBnds : DefAt K "_law_refuses_bounds" slBnds)
    (d_law : DefAt K "law" slaw) :
    ∃ fd : FuncData, (∀ (s : Shared) (u : Value), BindsTo s fd ⟨[u], []⟩ [("_law_script", u)]) ∧ ∀ base : Heap, K.In base → base.Ns mainGlobals mg → FnOk l.prog w K mg base CX0 40 fa fd ["_law_script"] (spLaw K) := by
  have T := bt.bt X G
  obtain ⟨f1, fd1, F1, m1⟩ := d_own.fn X G
  obtain ⟨f_DIK, fd_DIK, F_DIK, m_DIK⟩ := d_DIK.fn X G
  obtain ⟨f_DK, fd_DK, F_DK, m_DK⟩ := d_DK.fn X G
  obtain ⟨f_DI, fd_DI, F_DI, m_DI⟩ := d_DI.fn X G
  obtain ⟨f_DT, fd_DT, F_DT, m_DT⟩ := d_DT.fn X G
  obtain ⟨f_DOd, fd_DOd, F_DOd, m_DOd⟩ := d_DOd.fn X G
  obtain ⟨f_DCP, fd_DCP, F_DCP, m_DCP⟩ := d_DCP.fn X G
  obtain ⟨f_DPr, fd_DPr, F_DPr, m_DPr⟩ := d_DPr.fn X G
  obtain ⟨f_DRo, fd_DRo, F_DRo, m_DRo⟩ := d_DRo.fn X G
  obtain ⟨f_DC, fd_DC, F_DC, m_DC⟩ := d_DC.fn X G
  obtain ⟨g_i, gd_i, G_i, n_i⟩ := me_i.fn
  obtain ⟨g_q, gd_q, G_q, n_q⟩ := me_q.fn
  obtain ⟨g_s, gd_s, G_s, n_s⟩ := me_s.fn
  obtain ⟨g_w, gd_w, G_w, n_w⟩ := me_w.fn
  obtain ⟨g_r, gd_r, G_r, n_r⟩ := me_r.fn
  obtain ⟨g_l, gd_l, G_l, n_l⟩ := me_l.fn
  obtain ⟨g_oi, gd_oi, G_oi, n_oi⟩ := me_oi.fn
  obtain ⟨g_ol, gd_ol, G_ol, n_ol⟩ := me_ol.fn
  obtain ⟨g_oh, gd_oh, G_oh, n_oh⟩ := me_oh.fn
  obtain ⟨g_oq, gd_oq, G_oq, n_oq⟩ := me_oq.fn
  obtain ⟨f_DB, fd_DB, F_DB, m_DB⟩ := d_DB.fn X G
  obtain ⟨f_HC, fd_HC, F_HC, m_HC⟩ := d_HC.fn X G
  obtain ⟨f_HR, fd_HR, F_HR, m_HR⟩ := d_HR.fn X G
  obtain ⟨f_DS, fd_DS, F_DS, m_DS⟩ := d_DS.fn X G
  obtain ⟨f_DW, fd_DW, F_DW, m_DW⟩ := d_DW.fn X G
  obtain ⟨f_DCr, fd_DCr, F_DCr, m_DCr⟩ := d_DCr.fn X G
  obtain ⟨f_DM, fd_DM, F_DM, m_DM⟩ := d_DM.fn X G
  obtain ⟨f_DX, fd_DX, F_DX, m_DX⟩ := d_DX.fn X G
  obtain ⟨f_DCo, fd_DCo, F_DCo, m_DCo⟩ := d_DCo.fn X G
  obtain ⟨f_DLi, fd_DLi, F_DLi, m_DLi⟩ := d_DLi.fn X G
  obtain ⟨f_DF, fd_DF, F_DF, m_DF⟩ := d_DF.fn X G
  obtain ⟨f_DAF, fd_DAF, F_DAF, m_DAF⟩ := d_DAF.fn X G
  obtain ⟨f_DEa, fd_DEa, F_DEa, m_DEa⟩ := d_DEa.fn X G
  obtain ⟨f_DCO, fd_DCO, F_DCO, m_DCO⟩ := d_DCO.fn X G
  obtain ⟨f_DCR, fd_DCR, F_DCR, m_DCR⟩ := d_DCR.fn X G
  obtain ⟨f_DSet, fd_DSet, F_DSet, m_DSet⟩ := d_DSet.fn X G
  obtain ⟨f_DPB, fd_DPB, F_DPB, m_DPB⟩ := d_DPB.fn X G
  obtain ⟨f_DFree, fd_DFree, F_DFree, m_DFree⟩ := d_DFree.fn X G
  obtain ⟨f_DWays, fd_DWays, F_DWays, m_DWays⟩ := d_DWays.fn X G
  obtain ⟨f_DCk, fd_DCk, F_DCk, m_DCk⟩ := d_DCk.fn X G
  obtain ⟨f_DBars, fd_DBars, F_DBars, m_DBars⟩ := d_DBars.fn X G
  obtain ⟨f_DTurn, fd_DTurn, F_DTurn, m_DTurn⟩ := d_DTurn.fn X G
  obtain ⟨f_DCount, fd_DCount, F_DCount, m_DCount⟩ := d_DCount.fn X G
  obtain ⟨f_DAt, fd_DAt, F_DAt, m_DAt⟩ := d_DAt.fn X G
  obtain ⟨f_DNum, fd_DNum, F_DNum, m_DNum⟩ := d_DNum.fn X G
  obtain ⟨f_L1, fd_L1, F_L1, m_L1⟩ := d_L1.fn X G
  obtain ⟨f_L2x, fd_L2x, F_L2x, m_L2x⟩ := d_L2x.fn X G
  obtain ⟨f_L3, fd_L3, F_L3, m_L3⟩ := d_L3.fn X G
  obtain ⟨f_L5, fd_L5, F_L5, m_L5⟩ := d_L5.fn X G
  obtain ⟨f_L9, fd_L9, F_L9, m_L9⟩ := d_L9.fn X G
  obtain ⟨f_L7, fd_L7, F_L7, m_L7⟩ := d_L7.fn X G
  obtain ⟨f_LCall, fd_LCall, F_LCall, m_LCall⟩ := d_LCall.fn X G
  obtain ⟨f_LRef, fd_LRef, F_LRef, m_LRef⟩ := d_LRef.fn X G
  obtain ⟨f_LFst, fd_LFst, F_LFst, m_LFst⟩ := d_LFst.fn X G
  obtain ⟨f_LBnds, fd_LBnds, F_LBnds, m_LBnds⟩ := d_LBnds.fn X G
  obtain ⟨f_law, fd_law, F_law, m_law⟩ := d_law.fn X G
  cases hfa.symm.trans m_law
  have b_law : ∀ (s : Shared) (u : Value), BindsTo s fd_law ⟨[u], []⟩ [("_law_script", u)] := fun s u => by
    obtain ⟨oc, od, kV, doc, pm, an, cdv, ct, osl, rfl, lk, hcd⟩ := F_law.ex
    exact .of_eq rfl
  refine ⟨fd_law, b_law, fun base _ _ => ?_⟩
  have mk1 : ∀ {fd x st f ps sp n}, Fun K x x st f fd → mg x = some (.ref f) → Binds K fd ps [] → FnOk l.prog w K mg base CX0 n f fd ps sp → Df l.prog w K mg base CX0 x n ps sp := fun F m b o => ⟨_, _, m, F.kp, b, o⟩
  have mkL : ∀ {fd x st f ps sp n}, Fun K x x st f fd → mg x = some (.ref f) → Binds K fd ps [] → FnOk l.prog w K mg base (L2.CX l.prog w) n f fd ps sp → Df l.prog w K mg base (L2.CX l.prog w) x n ps sp := fun F m b o => ⟨_, _, m, F.kp, b, o⟩
  have B1 : Binds K fd1 ["value"] [] := F1.binds fun _ _ _ _ _ _ us hl => match us, hl with | [_], _ => rfl
  have G1 := ok_copy (P := l.prog) (w := w) (base := base) F1 T m1 1
  have ET : De l.prog w K mg base "InvalidTable" 3 (spErr1 K 1 CET "at") CET := e_ET.de X G (ok_IT e_ET.errC (e_ET.init top ⟨_, rfl⟩) T G1 m1 F1.kp B1 fr_ET_at)
  have EO : De l.prog w K mg base "InvalidOrder" 3 (spErr1 K 1 CEO "at") CEO := e_EO.de X G (ok_IO e_EO.errC (e_EO.init top ⟨_, rfl⟩) T G1 m1 F1.kp B1 fr_EO_at)
  have EB : De l.prog w K mg base "InvalidBound" 3 (spErr1 K 1 CEB "name") CEB := e_EB.de X G (ok_IB e_EB.errC (e_EB.init top ⟨_, rfl⟩) T G1 m1 F1.kp B1 fr_EB_name)
  have EL : De l.prog w K mg base "LimitExceeded" 3 (spErr1 K 1 CEL "limit") CEL := e_EL.de X G (ok_IL e_EL.errC (e_EL.init top ⟨_, rfl⟩) T G1 m1 F1.kp B1 fr_EL_limit)
  have EN : De l.prog w K mg base "NotRight" 4 (spErr1 K 2 CEN "fault") CEN := e_EN.de X G (ok_NR e_EN.errC (e_EN.init top ⟨_, rfl⟩) T (ok_copy (P := l.prog) (w := w) (base := base) F1 T m1 2) m1 F1.kp B1 fr_EN_fault)
  have x1 := err_other e_EL.exB e_EL.isC e_EL.ty sx1
  have x2 := err_other e_EL.exB e_EL.isC e_EL.ty sx2
  have x3 := err_other e_EB.exB e_EB.isC e_EB.ty sx3
  have x4 := err_other e_EL.exB e_EL.isC e_EL.ty sx4
  have x5 := err_other e_EB.exB e_EB.isC e_EB.ty sx5
  have x6 := err_other e_EO.exB e_EO.isC e_EO.ty sx6
  have gP := PySem.W.mg_of X G gPE
  have mK := PySem.W.mg_of X G kn
  have DIK := mk1 F_DIK m_DIK (ps := ["value"]) (F_DIK.binds fun _ _ _ _ _ _ us hl => match us, hl with | [_], _ => rfl) ((ok_isKG F_DIK T mK kin).or (ok_isKX F_DIK T mK kin))
  have DK := mkL F_DK m_DK (ps := ["kind"]) (F_DK.binds fun _ _ _ _ _ _ us hl => match us, hl with | [_], _ => rfl) (ok_chKX F_DK DIK EB)
  have DI := mk1 F_DI m_DI (ps := ["value"]) (F_DI.binds fun _ _ _ _ _ _ us hl => match us, hl with | [_], _ => rfl) (ok_isInt F_DI T)
  have DT := mk1 F_DT m_DT (ps := ["value"]) (F_DT.binds fun _ _ _ _ _ _ us hl => match us, hl with | [_], _ => rfl) (ok_two F_DT T DI)
  have aL := PySem.W.mg_of X G a_aL
  have aP := PySem.W.mg_of X G a_aP
  have DOd := mk1 F_DOd m_DOd (ps := ["value"]) (F_DOd.binds fun _ _ _ _ _ _ us hl => match us, hl with | [_], _ => rfl) (ok_ordb F_DOd aL DT)
  have DCP := mkL F_DCP m_DCP (ps := ["pairs"]) (F_DCP.binds fun _ _ _ _ _ _ us hl => match us, hl with | [_], _ => rfl) (ok_chkP F_DCP T aP DOd EO)
  have tall := PySem.W.mg_none_of X G b_all
  have DPr := mk1 F_DPr m_DPr (ps := ["value"]) (F_DPr.binds fun _ _ _ _ _ _ us hl => match us, hl with | [_], _ => rfl) (ok_price F_DPr DI)
  have DRo := mk1 F_DRo m_DRo (ps := ["value", "first"]) (F_DRo.binds fun _ _ _ _ _ _ us hl => match us, hl with | [_, _], _ => rfl) (ok_row F_DRo T tall aL DPr)
  have DC := mkL F_DC m_DC (ps := ["rows"]) (F_DC.binds fun _ _ _ _ _ _ us hl => match us, hl with | [_], _ => rfl) (ok_chkR F_DC T aL DRo ET)
  have b_i : Binds K gd_i ["self", "rows"] [] := G_i.binds fun _ _ _ _ _ _ us hl => match us, hl with | [_, _], _ => rfl
  have b_q : Binds K gd_q ["self"] [] := G_q.binds fun _ _ _ _ _ _ us hl => match us, hl with | [_], _ => rfl
  have b_s : Binds K gd_s ["self"] [] := G_s.binds fun _ _ _ _ _ _ us hl => match us, hl with | [_], _ => rfl
  have b_w : Binds K gd_w ["self"] [] := G_w.binds fun _ _ _ _ _ _ us hl => match us, hl with | [_], _ => rfl
  have b_r : Binds K gd_r ["self"] [] := G_r.binds fun _ _ _ _ _ _ us hl => match us, hl with | [_], _ => rfl
  have b_l : Binds K gd_l ["self"] [] := G_l.binds fun _ _ _ _ _ _ us hl => match us, hl with | [_], _ => rfl
  have g_CT := PySem.W.mg_of X G a_CT
  have b_oi : Binds K gd_oi ["self", "pairs"] [] := G_oi.binds fun _ _ _ _ _ _ us hl => match us, hl with | [_, _], _ => rfl
  have b_ol : Binds K gd_ol ["self"] [] := G_ol.binds fun _ _ _ _ _ _ us hl => match us, hl with | [_], _ => rfl
  have b_oh : Binds K gd_oh ["self", "x"] [] := G_oh.binds fun _ _ _ _ _ _ us hl => match us, hl with | [_, _], _ => rfl
  have b_oq : Binds K gd_oq ["self"] [] := G_oq.binds fun _ _ _ _ _ _ us hl => match us, hl with | [_], _ => rfl
  have g_CO := PySem.W.mg_of X G a_CO
  have A : TbC K CT := ⟨O_CT, no_CT_entries, no_CT_used⟩
  have oS := ok_tStk (P := l.prog) (w := w) (mg := mg) (base := base) G_s T A
  have oW := ok_tWsh (P := l.prog) (w := w) (mg := mg) (base := base) G_w T A
  have oR := ok_tRws (P := l.prog) (w := w) (mg := mg) (base := base) G_r T A
  have oQ := ok_tPrs (P := l.prog) (w := w) (mg := mg) (base := base) G_q T A
  have oTL := ok_tLen (P := l.prog) (w := w) (mg := mg) (base := base) G_l T A
  have DTb : Dk l.prog w K mg base (L2.CX l.prog w) "Table" 8 ["self", "rows"] (spTbI K CT CET) CT := ⟨_, _, g_CT, ⟨mk_CT, n_i.at_, n_i.fn, kc_CT⟩, b_i, ok_tbI G_i T A DC⟩
  have nS : NoAttr K CO "sequence" := no_CO_sequence
  have DOr : Dk l.prog w K mg base (L2.CX l.prog w) "Order" 8 ["self", "pairs"] (spOrIF K CO CEO) CO := ⟨_, _, g_CO, ⟨mk_CO, n_oi.at_, n_oi.fn, kc_CO⟩, b_oi, ok_orI G_oi T O_CO nS DCP⟩
  have oOL := ok_len (P := l.prog) (w := w) (mg := mg) (base := base) G_ol T O_CO nS
  have oOH := ok_has (P := l.prog) (w := w) (mg := mg) (base := base) G_oh O_CO nS DT
  have oOQ := ok_prs (P := l.prog) (w := w) (mg := mg) (base := base) G_oq T O_CO nS

  have aC := PySem.W.mg_of X G a_aC
  have trev := PySem.W.mg_none_of X G b_rev
  have DB := mk1 F_DB m_DB (ps := ["value", "low", "high"]) (F_DB.binds fun _ _ _ _ _ _ us hl => match us, hl with | [_, _, _], _ => rfl) (ok_bet F_DB DI)
  have HC := mk1 F_HC m_HC (ps := ["kind"]) (F_HC.binds fun _ _ _ _ _ _ us hl => match us, hl with | [_], _ => rfl) (ok_hasC F_HC)
  have HR := mk1 F_HR m_HR (ps := ["kind"]) (F_HR.binds fun _ _ _ _ _ _ us hl => match us, hl with | [_], _ => rfl) (ok_hasR F_HR)
  have DS := mk1 F_DS m_DS (ps := ["behind", "pair"]) (F_DS.binds fun _ _ _ _ _ _ us hl => match us, hl with | [_, _], _ => rfl) (ok_stB F_DS T)
  have DW := mk1 F_DW m_DW (ps := ["behind", "pair"]) (F_DW.binds fun _ _ _ _ _ _ us hl => match us, hl with | [_, _], _ => rfl) (ok_wiB F_DW T)
  have DCr := mk1 F_DCr m_DCr (ps := ["prices", "pair", "cell"]) (F_DCr.binds fun _ _ _ _ _ _ us hl => match us, hl with | [_, _, _], _ => rfl) (ok_isCr F_DCr)
  have DM := mk1 F_DM m_DM (ps := ["table", "pairs"]) (F_DM.binds fun _ _ _ _ _ _ us hl => match us, hl with | [_, _], _ => rfl) (ok_marks F_DM T A n_s oS b_s n_w oW b_w)
  have DX := mk1 F_DX m_DX (ps := ["prices", "behind", "pair"]) (F_DX.binds fun _ _ _ _ _ _ us hl => match us, hl with | [_, _, _], _ => rfl) (ok_crs F_DX DS DW DCr)
  have DCo := mk1 F_DCo m_DCo (ps := ["prices", "behind", "pair"]) (F_DCo.binds fun _ _ _ _ _ _ us hl => match us, hl with | [_, _, _], _ => rfl) (ok_col F_DCo DS)
  have DLi := mk1 F_DLi m_DLi (ps := ["prices", "behind", "pair"]) (F_DLi.binds fun _ _ _ _ _ _ us hl => match us, hl with | [_, _, _], _ => rfl) (ok_lin F_DLi DW)
  have DF := mk1 F_DF m_DF (ps := ["prices", "behind", "pair", "kind"]) (F_DF.binds fun _ _ _ _ _ _ us hl => match us, hl with | [_, _, _, _], _ => rfl) (ok_fau F_DF DX DCo DLi HC HR)
  have DAF := mk1 F_DAF m_DAF (ps := ["table", "order", "kind"]) (F_DAF.binds fun _ _ _ _ _ _ us hl => match us, hl with | [_, _, _], _ => rfl) (ok_allF F_DAF A n_r oR b_r n_q oQ b_q O_CO nS n_oq oOQ b_oq DM DF)
  have DEa := mk1 F_DEa m_DEa (ps := ["table", "order", "kind"]) (F_DEa.binds fun _ _ _ _ _ _ us hl => match us, hl with | [_, _, _], _ => rfl) (ok_earl F_DEa DAF)
  have DCO := mkL F_DCO m_DCO (ps := ["table", "order"]) (F_DCO.binds fun _ _ _ _ _ _ us hl => match us, hl with | [_, _], _ => rfl) (ok_chOX F_DCO T tall A O_CO g_CO n_ol oOL b_ol n_oh oOH b_oh n_l oTL b_l n_q oQ b_q EO)
  have DCR := mkL F_DCR m_DCR (ps := ["table", "order", "kind"]) (F_DCR.binds fun _ _ _ _ _ _ us hl => match us, hl with | [_, _, _], _ => rfl) (ok_ckRX F_DCR DEa EN)
  have DSet := mk1 F_DSet m_DSet (ps := ["pairs", "members"]) (F_DSet.binds fun _ _ _ _ _ _ us hl => match us, hl with | [_, _], _ => rfl) (ok_setOf F_DSet T)
  have DPB := mk1 F_DPB m_DPB (ps := ["fault"]) (F_DPB.binds fun _ _ _ _ _ _ us hl => match us, hl with | [_], _ => rfl) (ok_pBeh F_DPB)
  have DFree := mk1 F_DFree m_DFree (ps := ["bars", "placed"]) (F_DFree.binds fun _ _ _ _ _ _ us hl => match us, hl with | [_, _], _ => rfl) (ok_freeA F_DFree T tall)
  have DWays := mk1 F_DWays m_DWays (ps := ["bars"]) (F_DWays.binds fun _ _ _ _ _ _ us hl => match us, hl with | [_], _ => rfl) (ok_waysA F_DWays T trev DFree)
  have DCk := mkL F_DCk m_DCk (ps := ["table"]) (F_DCk.binds fun _ _ _ _ _ _ us hl => match us, hl with | [_], _ => rfl) (ok_ckCX F_DCk T aC A n_l oTL b_l EL)
  have DBars := mk1 F_DBars m_DBars (ps := ["table", "kind"]) (F_DBars.binds fun _ _ _ _ _ _ us hl => match us, hl with | [_, _], _ => rfl) (ok_barsOf F_DBars A n_q oQ b_q n_r oR b_r DM DF DSet DPB)
  have DTurn := mk1 F_DTurn m_DTurn (ps := ["bars", "ways", "placed", "number"]) (F_DTurn.binds fun _ _ _ _ _ _ us hl => match us, hl with | [_, _, _, _], _ => rfl) (ok_turn F_DTurn DFree)
  obtain ⟨mv_DCount, kb_DCount⟩ := F_DCount.kbinds0 (ps := ["table", "kind"]) 1 ["kind"] [] (fun us _ ws => us ++ ws) (by simp) (fun q hq => by cases hq) (fun r _ z => vals_app r z) (fun _ _ _ _ _ _ us _ ws l1 _ l2 => match us, ws, l1, l2 with | [_], [_], _, _ => rfl)
  have dd_DCount : ∃ ds, Vals [V.str "even"] ds ∧ Binds K fd_DCount ["table", "kind"] ds := F_DCount.binds0 (ps := ["table", "kind"]) 1 (by simp) rfl (fun _ _ _ _ _ _ us ks l1 l2 => match us, ks, l1, l2 with | [_], [_], _, _ => ⟨_, _, _, _, _, _, rfl, rfl, rfl⟩)
  have DCount : Dkw l.prog w K mg base (L2.CX l.prog w) "count" 8 ["table", "kind"] 1 "kind" (spCountX K CT CEL CEB CEO CEN) := ⟨_, _, ⟨m_DCount, F_DCount.kp, ok_countX F_DCount DK DCk DBars DWays, kb_DCount, dd_DCount⟩⟩
  obtain ⟨mv_DAt, kb_DAt⟩ := F_DAt.kbinds0 (ps := ["table", "number", "kind"]) 2 ["kind"] [] (fun us _ ws => us ++ ws) (by simp) (fun q hq => by cases hq) (fun r _ z => vals_app r z) (fun _ _ _ _ _ _ us _ ws l1 _ l2 => match us, ws, l1, l2 with | [_, _], [_], _, _ => rfl)
  have dd_DAt : ∃ ds, Vals [V.str "even"] ds ∧ Binds K fd_DAt ["table", "number", "kind"] ds := F_DAt.binds0 (ps := ["table", "number", "kind"]) 2 (by simp) rfl (fun _ _ _ _ _ _ us ks l1 l2 => match us, ks, l1, l2 with | [_, _], [_], _, _ => ⟨_, _, _, _, _, _, rfl, rfl, rfl⟩)
  have DAt : Dkw l.prog w K mg base (L2.CX l.prog w) "order_at" 10 ["table", "number", "kind"] 2 "kind" (spOrdAtX K CT CEL CEB CEO CEN) := ⟨_, _, ⟨m_DAt, F_DAt.kp, ok_ordAtX F_DAt T A n_q oQ b_q DK DCk DBars DWays DTurn DB EB DOr, kb_DAt, dd_DAt⟩⟩
  obtain ⟨mv_DNum, kb_DNum⟩ := F_DNum.kbinds0 (ps := ["table", "order", "kind"]) 2 ["kind"] [] (fun us _ ws => us ++ ws) (by simp) (fun q hq => by cases hq) (fun r _ z => vals_app r z) (fun _ _ _ _ _ _ us _ ws l1 _ l2 => match us, ws, l1, l2 with | [_, _], [_], _, _ => rfl)
  have dd_DNum : ∃ ds, Vals [V.str "even"] ds ∧ Binds K fd_DNum ["table", "order", "kind"] ds := F_DNum.binds0 (ps := ["table", "order", "kind"]) 2 (by simp) rfl (fun _ _ _ _ _ _ us ks l1 l2 => match us, ks, l1, l2 with | [_, _], [_], _, _ => ⟨_, _, _, _, _, _, rfl, rfl, rfl⟩)
  have DNum : Dkw l.prog w K mg base (L2.CX l.prog w) "number_of" 8 ["table", "order", "kind"] 2 "kind" (spNumOfX K CT CO CEL CEB CEO CEN) := ⟨_, _, ⟨m_DNum, F_DNum.kp, ok_numOfX F_DNum T A n_q oQ b_q O_CO n_oq oOQ b_oq DCO DK DCk DCR DBars DWays DFree, kb_DNum, dd_DNum⟩⟩
  have L1 := mk1 F_L1 m_L1 (ps := ["_law_script", "_law_k"]) (F_L1.binds fun _ _ _ _ _ _ us hl => match us, hl with | [_, _], _ => rfl) (ok_cell2 F_L1 T)
  have L2x := mk1 F_L2x m_L2x (ps := ["_law_cell_here", "_law_k"]) (F_L2x.binds fun _ _ _ _ _ _ us hl => match us, hl with | [_, _], _ => rfl) (ok_mix2 F_L2x T)
  have L3 := mk1 F_L3 m_L3 (ps := ["_law_script", "_law_spot", "_law_sizes"]) (F_L3.binds fun _ _ _ _ _ _ us hl => match us, hl with | [_, _, _], _ => rfl) (ok_draws F_L3 T L1 L2x)
  have L5 := mk1 F_L5 m_L5 (ps := ["_law_grid"]) (F_L5.binds fun _ _ _ _ _ _ us hl => match us, hl with | [_], _ => rfl) (ok_spots F_L5 T)
  have L9 := mk1 F_L9 m_L9 (ps := ["_law_grid", "_law_i", "_law_j", "_law_r", "_law_s"]) (F_L9.binds fun _ _ _ _ _ _ us hl => match us, hl with | [_, _, _, _, _], _ => rfl) (ok_lCr F_L9)
  have L7 := mk1 F_L7 m_L7 (ps := ["_law_things", "_law_picks"]) (F_L7.binds fun _ _ _ _ _ _ us hl => match us, hl with | [_, _], _ => rfl) (ok_shuf2 F_L7 T)
  have LCall := mkL F_LCall m_LCall (ps := ["_law_table", "_law_order", "_law_number", "_law_sort", "_law_choice"]) (F_LCall.binds fun _ _ _ _ _ _ us hl => match us, hl with | [_, _, _, _, _], _ => rfl) (ok_lCall F_LCall DCount DAt DNum)
  have LRef := mk1 F_LRef m_LRef (ps := ["_law_table", "_law_order", "_law_number", "_law_sort", "_law_choice"]) (F_LRef.binds fun _ _ _ _ _ _ us hl => match us, hl with | [_, _, _, _, _], _ => rfl) (ok_ref52 F_LRef T fr_EL_limit fr_EB_name fr_EO_at fr_EN_fault gP EL EB EO EN x1 x2 x3 x4 x5 x6 LCall)
  have LFst := mk1 F_LFst m_LFst (ps := ["_law_grid", "_law_listed"]) (F_LFst.binds fun _ _ _ _ _ _ us hl => match us, hl with | [_, _], _ => rfl) (ok_fst52 F_LFst T L9)
  have LBnds := mk1 F_LBnds m_LBnds (ps := ["_law_table", "_law_order", "_law_other", "_law_large"]) (F_LBnds.binds fun _ _ _ _ _ _ us hl => match us, hl with | [_, _, _, _], _ => rfl) (ok_bnds F_LBnds T LRef)
  exact ok_law (CE := CET) (CEO := CEO) (CL := CEL) (CB := CEB) (CN := CEN) F_law ⟨L3, L5, L7, LBnds, LRef, LFst, DCount, DTb, DOr⟩ T
end Pk
set_option Elab.async false
set_option linter.all false
set_option maxRecDepth 100000
set_option maxHeartbeats 0
namespace Pk
open PySem L2 PySem.Spec PyProof.Rows PySem.W
theorem hkFacts {w : World} {K : PySem.W.Frag} {h : Heap} {mg : Str → Option Value} {fa : Addr} (X : K.In h) (G : h.Ns mainGlobals mg) (hfa : mg "law" = some (.ref fa)) (c : obsP hkFn hkEx K = valP hkFn) :
    ∃ fd : FuncData, (∀ (s : Shared) (u : Value), BindsTo s fd ⟨[u], []⟩ [("_law_script", u)]) ∧ ∀ base : Heap, K.In base → base.Ns mainGlobals mg → FnOk PySem.Challenge.rw_pairorder_k52_counting_refused.prog w K mg base CX0 40 fa fd ["_law_script"] (spLaw K) := by
  have hx := saysP_ex c
  obtain ⟨hy, hx⟩ := bb hx
  obtain ⟨x0, hy⟩ := bb hy
  obtain ⟨x1, hy⟩ := bb hy
  obtain ⟨x2, hy⟩ := bb hy
  obtain ⟨x3, hy⟩ := bb hy
  obtain ⟨x4, hy⟩ := bb hy
  obtain ⟨x5, hy⟩ := bb hy
  obtain ⟨x6, hy⟩ := bb hy
  obtain ⟨x7, hy⟩ := bb hy
  obtain ⟨x8, hy⟩ := bb hy
  obtain ⟨x9, hy⟩ := bb hy
  obtain ⟨x10, hy⟩ := bb hy
  obtain ⟨x11, hy⟩ := bb hy
  obtain ⟨x12, hy⟩ := bb hy
  obtain ⟨x13, hy⟩ := bb hy
  obtain ⟨x14, hy⟩ := bb hy
  obtain ⟨x15, hy⟩ := bb hy
  obtain ⟨hy, hx⟩ := bb hx
  obtain ⟨x16, hy⟩ := bb hy
  obtain ⟨x17, hy⟩ := bb hy
  obtain ⟨x18, hy⟩ := bb hy
  obtain ⟨x19, hy⟩ := bb hy
  obtain ⟨x20, hy⟩ := bb hy
  obtain ⟨x21, hy⟩ := bb hy
  obtain ⟨x22, hy⟩ := bb hy
  obtain ⟨x23, hy⟩ := bb hy
  obtain ⟨x24, hy⟩ := bb hy
  obtain ⟨x25, hy⟩ := bb hy
  obtain ⟨x26, hy⟩ := bb hy
  obtain ⟨x27, hy⟩ := bb hy
  obtain ⟨x28, hy⟩ := bb hy
  obtain ⟨x29, hy⟩ := bb hy
  obtain ⟨x30, hy⟩ := bb hy
  obtain ⟨x31, hy⟩ := bb hy
  obtain ⟨hy, hx⟩ := bb hx
  obtain ⟨x32, hy⟩ := bb hy
  obtain ⟨x33, hy⟩ := bb hy
  obtain ⟨x34, hy⟩ := bb hy
  obtain ⟨x35, hy⟩ := bb hy
  obtain ⟨x36, hy⟩ := bb hy
  obtain ⟨x37, hy⟩ := bb hy
  obtain ⟨x38, hy⟩ := bb hy
  obtain ⟨x39, hy⟩ := bb hy
  obtain ⟨x40, hy⟩ := bb hy
  obtain ⟨x41, hy⟩ := bb hy
  obtain ⟨x42, hy⟩ := bb hy
  obtain ⟨x43, hy⟩ := bb hy
  obtain ⟨x44, hy⟩ := bb hy
  obtain ⟨x45, hy⟩ := bb hy
  obtain ⟨x46, hy⟩ := bb hy
  obtain ⟨x47, hy⟩ := bb hy
  obtain ⟨hy, hx⟩ := bb hx
  obtain ⟨x48, hy⟩ := bb hy
  obtain ⟨x49, hy⟩ := bb hy
  obtain ⟨x50, hy⟩ := bb hy
  obtain ⟨x51, hy⟩ := bb hy
  obtain ⟨x52, hy⟩ := bb hy
  obtain ⟨x53, hy⟩ := bb hy
  obtain ⟨x54, hy⟩ := bb hy
  obtain ⟨x55, hy⟩ := bb hy
  obtain ⟨x56, hy⟩ := bb hy
  obtain ⟨x57, hy⟩ := bb hy
  obtain ⟨x58, hy⟩ := bb hy
  obtain ⟨x59, hy⟩ := bb hy
  obtain ⟨x60, hy⟩ := bb hy
  obtain ⟨x61, hy⟩ := bb hy
  obtain ⟨x62, hy⟩ := bb hy
  obtain ⟨x63, hy⟩ := bb hy
  obtain ⟨hy, hx⟩ := bb hx
  obtain ⟨x64, hy⟩ := bb hy
  obtain ⟨x65, hy⟩ := bb hy
  obtain ⟨x66, hy⟩ := bb hy
  obtain ⟨x67, hy⟩ := bb hy
  obtain ⟨x68, hy⟩ := bb hy
  obtain ⟨x69, hy⟩ := bb hy
  obtain ⟨x70, hy⟩ := bb hy
  obtain ⟨x71, hy⟩ := bb hy
  obtain ⟨x72, hy⟩ := bb hy
  obtain ⟨x73, hy⟩ := bb hy
  obtain ⟨x74, hy⟩ := bb hy
  obtain ⟨x75, hy⟩ := bb hy
  obtain ⟨x76, hy⟩ := bb hy
  obtain ⟨x77, hy⟩ := bb hy
  obtain ⟨x78, hy⟩ := bb hy
  obtain ⟨x79, hy⟩ := bb hy
  have hy := hx
  obtain ⟨x80, hy⟩ := bb hy
  obtain ⟨x81, hy⟩ := bb hy
  obtain ⟨x82, hy⟩ := bb hy
  obtain ⟨x83, hy⟩ := bb hy
  obtain ⟨x84, hy⟩ := bb hy
  obtain ⟨x85, hy⟩ := bb hy
  obtain ⟨x86, hy⟩ := bb hy
  obtain ⟨x87, hy⟩ := bb hy
  obtain ⟨x88, hy⟩ := bb hy
  obtain ⟨x89, hy⟩ := bb hy
  obtain ⟨x90, hy⟩ := bb hy
  obtain ⟨x91, hy⟩ := bb hy
  obtain ⟨x92, hy⟩ := bb hy
  obtain ⟨x93, hy⟩ := bb hy
  obtain ⟨x94, hy⟩ := bb hy
  obtain ⟨tk_aL, y_a_aL⟩ := hk_int x25
  obtain ⟨tk_aP, y_a_aP⟩ := hk_int x26
  obtain ⟨tk_aC, y_a_aC⟩ := hk_int x54
  exact all_mk (l := PySem.Challenge.rw_pairorder_k52_counting_refused) X G hfa (bt := hk_bt x0) (top := rfl) (d_own := hk_def (saysP_fn c 0 rfl) x1) (e_ET := hk_err (saysP_fn c 1 rfl) x2) (fr_ET_at := eqB_ok x3) (e_EO := hk_err (saysP_fn c 2 rfl) x4) (fr_EO_at := eqB_ok x5) (e_EB := hk_err (saysP_fn c 3 rfl) x6) (fr_EB_name := eqB_ok x7) (e_EL := hk_err (saysP_fn c 4 rfl) x8) (fr_EL_limit := eqB_ok x9) (e_EN := hk_err (saysP_fn c 5 rfl) x10) (fr_EN_fault := eqB_ok x11) (gPE := chG_ok x12) (sx1 := of_decide_eq_true x13) (sx2 := of_decide_eq_true x14) (sx3 := of_decide_eq_true x15) (sx4 := of_decide_eq_true x16) (sx5 := of_decide_eq_true x17) (sx6 := of_decide_eq_true x18) (kn := chG_ok x19) (kin := fun H => He.tupB_ok x20 H) (d_DIK := hk_def (saysP_fn c 6 rfl) x21) (d_DK := hk_def (saysP_fn c 7 rfl) x22) (d_DI := hk_def (saysP_fn c 8 rfl) x23) (d_DT := hk_def (saysP_fn c 9 rfl) x24) (a_aL := y_a_aL) (a_aP := y_a_aP) (d_DOd := hk_def (saysP_fn c 10 rfl) x27) (d_DCP := hk_def (saysP_fn c 11 rfl) x28) (b_all := eqB_ok x29) (d_DPr := hk_def (saysP_fn c 12 rfl) x30) (d_DRo := hk_def (saysP_fn c 13 rfl) x31) (d_DC := hk_def (saysP_fn c 14 rfl) x32) (a_CT := chG_ok x33) (me_i := hk_meth (saysP_fn c 15 rfl) x34) (me_q := hk_meth (saysP_fn c 16 rfl) x35) (me_s := hk_meth (saysP_fn c 17 rfl) x36) (me_w := hk_meth (saysP_fn c 18 rfl) x37) (me_r := hk_meth (saysP_fn c 19 rfl) x38) (me_l := hk_meth (saysP_fn c 20 rfl) x39) (O_CT := hk_own x40) (mk_CT := x41) (kc_CT := x42) (no_CT_entries := eqB_ok x43) (no_CT_used := eqB_ok x44) (a_CO := chG_ok x45) (me_oi := hk_meth (saysP_fn c 21 rfl) x46) (me_ol := hk_meth (saysP_fn c 22 rfl) x47) (me_oh := hk_meth (saysP_fn c 23 rfl) x48) (me_oq := hk_meth (saysP_fn c 24 rfl) x49) (O_CO := hk_own x50) (mk_CO := x51) (kc_CO := x52) (no_CO_sequence := eqB_ok x53) (a_aC := y_a_aC) (b_rev := eqB_ok x55) (d_DB := hk_def (saysP_fn c 25 rfl) x56) (d_HC := hk_def (saysP_fn c 26 rfl) x57) (d_HR := hk_def (saysP_fn c 27 rfl) x58) (d_DS := hk_def (saysP_fn c 28 rfl) x59) (d_DW := hk_def (saysP_fn c 29 rfl) x60) (d_DCr := hk_def (saysP_fn c 30 rfl) x61) (d_DM := hk_def (saysP_fn c 31 rfl) x62) (d_DX := hk_def (saysP_fn c 32 rfl) x63) (d_DCo := hk_def (saysP_fn c 33 rfl) x64) (d_DLi := hk_def (saysP_fn c 34 rfl) x65) (d_DF := hk_def (saysP_fn c 35 rfl) x66) (d_DAF := hk_def (saysP_fn c 36 rfl) x67) (d_DEa := hk_def (saysP_fn c 37 rfl) x68) (d_DCO := hk_def (saysP_fn c 38 rfl) x69) (d_DCR := hk_def (saysP_fn c 39 rfl) x70) (d_DSet := hk_def (saysP_fn c 40 rfl) x71) (d_DPB := hk_def (saysP_fn c 41 rfl) x72) (d_DFree := hk_def (saysP_fn c 42 rfl) x73) (d_DWays := hk_def (saysP_fn c 43 rfl) x74) (d_DCk := hk_def (saysP_fn c 44 rfl) x75) (d_DBars := hk_def (saysP_fn c 45 rfl) x76) (d_DTurn := hk_def (saysP_fn c 46 rfl) x77) (d_DCount := hk_defK (saysP_fn c 47 rfl) x78 x79) (d_DAt := hk_defK (saysP_fn c 48 rfl) x80 x81) (d_DNum := hk_defK (saysP_fn c 49 rfl) x82 x83) (d_L1 := hk_def (saysP_fn c 50 rfl) x84) (d_L2x := hk_def (saysP_fn c 51 rfl) x85) (d_L3 := hk_def (saysP_fn c 52 rfl) x86) (d_L5 := hk_def (saysP_fn c 53 rfl) x87) (d_L9 := hk_def (saysP_fn c 54 rfl) x88) (d_L7 := hk_def (saysP_fn c 55 rfl) x89) (d_LCall := hk_def (saysP_fn c 56 rfl) x90) (d_LRef := hk_def (saysP_fn c 57 rfl) x91) (d_LFst := hk_def (saysP_fn c 58 rfl) x92) (d_LBnds := hk_def (saysP_fn c 59 rfl) x93) (d_law := hk_def (saysP_fn c 60 rfl) x94)
end Pk
open PySem PySem.W PySem.Calls PyProof.Rows in
theorem PySem.Challenge.cw_pairorder_k52_counting_refused_holds : PySem.Challenge.rw_pairorder_k52_counting_refused.Holds := by
  w_on; o_law
  refine HandSHeadRun.head_any (r := OpenLaw.row PySem.Challenge.rw_pairorder_k52_counting_refused) (q := view (OpenLaw.row PySem.Challenge.rw_pairorder_k52_counting_refused).prog [75]) (H := Pk.hkH) (ob := Pk.hkOb) (M := 12000) (loose := Pk.hkNames) (d := HandSHeadRun.topDef (OpenLaw.row PySem.Challenge.rw_pairorder_k52_counting_refused).prog 75) (kwd := []) Pk.hkOb_eq
    (by kernel_rfl) (fun s => by kernel_rfl) Pk.hkRun (by kernel_rfl) (by kernel_rfl) (by kernel_rfl) (by rfl) (by first | assumption | decide +kernel) (by decide +kernel) ⟨rfl, rfl, rfl, rfl, rfl, by decide +kernel⟩ ?hw ?hc
  case hw => w_witness2
  case hc =>
    refine L2.walk_ofE (l := PySem.Challenge.rw_pairorder_k52_counting_refused) (n := 63) (k := 40) (x := "_law_script") (CX := L2.CX0) rfl (by decide) (by kernel_rfl) ⟨rfl, by decide, by decide⟩ ?F (fun _ _ _ _ z => z)
    intro w mg fa h Y G hmg0
    obtain ⟨K, KX, c⟩ := Y
    have hmg : mg ("law" : PySem.Str) = some (.ref fa) := by
      have e : (HandSHeadRun.topDef (OpenLaw.row PySem.Challenge.rw_pairorder_k52_counting_refused).prog 75).name = ("law" : PySem.Str) := by kernel_rfl
      rw [← e]
      exact hmg0
    obtain ⟨fd, hb, hF⟩ := Pk.hkFacts (w := w) KX G hmg c
    exact ⟨K, fd, Pk.spLaw K, KX, hb, fun H a ns hl _ hS => ⟨a, ns, rfl, hS, hl, fun _ => rfl⟩, hF⟩
