import PyProof.Rows.All
import Wide.All
import OpenK.AllK
import Wide.FinOn
import HandS.ForMost
import HandS.Exc
import HandS.TryOnly
import HandS.WordsExc
import HandS.IsInst
import HandS.ExcInit
import HandS.ExcSuper
import HandS.ExcField
import HandS.Nested
import KE.KExcSuper
import HandS.Defaults
import HandS.CallSlots
import HandS.MakeKwOnly
import KE.DataCmp
import KE.Datum
import HandS.OwnEq
import HandS.SlotsOwn
import HandS.More
import HandS.Walk
import HandS.Wide
import HandS.Deep
import HandS.Codes
import HandS.DictComp
import HandS.Iter
import HandS.TryMany
import HandS.Style
import HandS.SetFor
import KE.KListMore
import PySem.Challenge.RW_pairorder_k60_whole_normal_forms
set_option Elab.async false
set_option linter.all false
set_option maxRecDepth 100000
/-! What the laws of this program share: the reading's steps, the heap but for one object, the pool of draws. -/
namespace Pk
open PySem L2

/-! ### steps of a reading -/
section
variable {K : PySem.W.Frag} {σ : L2.St} {H : Hp} {Q : VK} {D : Ends} {ta tb te to ti : TE} {t u : TS} {tt tu : TT} {tr : TA} {i j : Nat} {v w : V} {a b : Int}
theorem r_seq (h : t { D with nx := u D } σ H) : tSeq t u D σ H := h
theorem r_nxt (h : D.nx σ H) : tNext D σ H := h
theorem r_asg {g : TG} (h : te σ H fun x H1 => g x σ H1 D.nx) : tAsg te g D σ H := h
theorem r_to {P : L2.St → Hp → Prop} (h : P (σ.set i (some v)) H) : gName i v σ H P := h
theorem r_for {wi : TI} {g : TG} (h : wi σ H fun J H1 => ∃ W : Nat → Nat → L2.St → Hp → Prop, (∃ m, W 0 m σ H1) ∧ ∀ i m σ H, W i m σ H →
    (J.stop i H ∧ D.nx σ H) ∨ (J.go i H ∧ ∃ N : L2.St → Hp → Prop, (∀ σ' H', N σ' H' → ∃ m', m' < m ∧ W (i + 1) m' σ' H') ∧ ∀ x H', J.yld i H x H' → g x σ H' fun σ2 H2 => t { D with nx := N, ct := N, bk := D.nx } σ2 H2)) : tFor wi g t D σ H := h
theorem r_lc {wi : TI} {g : TG} {vs : List Nat} (h : wi σ H fun J H1 => ∀ D, H1 D = none → ∃ W : Nat → Nat → Hp → Prop, (∃ m, W 0 m (upd H1 D (.lst []))) ∧ ∀ i m H, W i m H →
    (J.stop i H ∧ Q (.ref D) H) ∨ (J.go i H ∧ ∃ Nx : Hp → Prop, (∀ H', Nx H' → ∃ m', m' < m ∧ W (i + 1) m' H') ∧ ∀ x H', J.yld i H x H' → g x (wipe σ vs) H' fun σ2 H2 => wipe σ2 vs = wipe σ vs ∧ tt σ2 H2 fun b H3 =>
      if b = true then te σ2 H3 fun y H4 => ∃ acc, H4 D = some (.lst acc) ∧ acc.length < sizeLine ∧ Nx (upd H4 D (.lst (acc ++ [y]))) else Nx H3)) : tLc wi g tt te vs σ H Q := h
theorem r_tupI {R : It → Hp → Prop} (h : te σ H fun x H1 => ∃ l, x = .ref l ∧ (∃ xs, SqT K H1 l xs) ∧ R (Itt K l) H1) : iTup K te σ H R := h
theorem r_yes {P : Bool → Hp → Prop} (h : P true H) : tYes σ H P := h
theorem r_B {P : Bool → Hp → Prop} (h : te σ H fun x H1 => ∃ c, x = .bl c ∧ P c H1) : tB te σ H P := h
theorem r_rng1 {R : It → Hp → Prop} (h : tr σ H fun vs H1 => ∃ j : Int, vs = [.int j] ∧ -(2 ^ 62) ≤ j ∧ j < 2 ^ 62 ∧ R (Itr 0 j.toNat) H1) : iRng1 tr σ H R := h
theorem r_list {R : It → Hp → Prop} (h : te σ H fun x H1 => ∃ l, x = .ref l ∧ (∃ xs, SqL K H1 l xs) ∧ R (Itl K l) H1) : iList K te σ H R := h
theorem r_ret (h : te σ H D.rt) : tRet te D σ H := h
theorem r_drop (h : te σ H fun _ H1 => D.nx σ H1) : tDrop te D σ H := h
theorem r_ifs (h : tt σ H fun c H1 => if c = true then t D σ H1 else u D σ H1) : tIfS tt t u D σ H := h
theorem r_var (e : σ[i]? = some (some v)) (h : Q v H) : tVar i σ H Q := ⟨v, e, h⟩
theorem r_c (h : Q v H) : tC v σ H Q := h
theorem r_op {r : R2} (h : ta σ H fun x H1 => tb σ H1 fun y H2 => r x y H2 Q) : tOp r ta tb σ H Q := h
theorem r_un {r : V → Hp → VK → Prop} (h : ta σ H fun x H1 => r x H1 Q) : tUn r ta σ H Q := h
theorem r_U {g : Int → V} (h : Q (g a) H) : rU g (.int a) H Q := ⟨a, rfl, h⟩
theorem r_make {C : Addr} {sp : Sp} {dvs : List V} {E : XK} (h : tr σ H fun vs H1 => ∀ x dx, H1 x = none → H1 dx = none → dx ≠ x → sp (.ref x :: (vs ++ dvs)) (upd (upd H1 dx (.own x)) x (.ins C dx [])) (fun v H2 => v = .non ∧ Q (.ref x) H2) E) : tMake C sp dvs E tr σ H Q := h
theorem r_cat {l m : Addr} {xs zs : List V} (hl : H l = some (.lst xs)) (hm : H m = some (.lst zs)) (hz : xs.length + zs.length ≤ sizeLine) (h : ∀ p, H p = none → Q (.ref p) (upd H p (.lst (xs ++ zs)))) : rCat (.ref l) (.ref m) H Q := ⟨l, m, xs, zs, rfl, rfl, hl, hm, hz, h⟩
theorem r_sum {l : Addr} {ns : List Int} (hl : SqL K H l (ns.map V.int)) (h : Q (.int ns.sum) H) : rSum K [.ref l] H Q := ⟨l, ns, rfl, hl, h⟩
theorem r_I0 {g : Int → Int → V} (h : Q (g a b) H) : rI0 g (.int a) (.int b) H Q := ⟨a, b, rfl, rfl, h⟩
theorem r_I {C : Int → Int → Prop} {g : Int → Int → V} (c : C a b) (h : Q (g a b) H) : rI C g (.int a) (.int b) H Q := ⟨a, b, rfl, rfl, c, h⟩
theorem r_mod (c : 0 < b) (h : Q (.int (a % b)) H) : rI (fun _ j => 0 < j) (fun i j => .int (i % j)) (.int a) (.int b) H Q := r_I c h
theorem r_div (c : 0 < b) (d : b < 1073741824) (h : Q (.int (a / b)) H) : rI CDiv (fun i j => .int (i / j)) (.int a) (.int b) H Q := r_I ⟨c, d⟩ h
theorem r_mulL (c : -(2 ^ 64) < a) (d : a < 2 ^ 64) (h : Q (.int (a * b)) H) : rI CMul (fun i j => .int (i * j)) (.int a) (.int b) H Q := r_I (.inl ⟨c, d⟩) h
theorem r_mulR (c : -(2 ^ 64) < b) (d : b < 2 ^ 64) (h : Q (.int (a * b)) H) : rI CMul (fun i j => .int (i * j)) (.int a) (.int b) H Q := r_I (.inr ⟨c, d⟩) h
theorem r_pow (c : 0 ≤ b) (d : b ≤ 1000000) (e : a.natAbs < 2 ^ 64) (h : Q (.int (a ^ b.toNat)) H) : rI CPow (fun i j => .int (i ^ j.toNat)) (.int a) (.int b) H Q := r_I ⟨c, d, e⟩ h
theorem r_ixL {p : Addr} {xs : List V} (hs : SqL K H p xs) (he : atI xs a = some v) (h : Q v H) : rIxL K (.ref p) (.int a) H Q := ⟨p, xs, a, v, rfl, rfl, hs, he, h⟩
theorem r_ixT {p : Addr} {xs : List V} (hs : SqT K H p xs) (he : atI xs a = some v) (h : Q v H) : rIxT K (.ref p) (.int a) H Q := ⟨p, xs, a, v, rfl, rfl, hs, he, h⟩
theorem r_sub {s : TSet} {P : L2.St → Hp → Prop} (h : to σ H fun o H1 => ti σ H1 fun k H2 => s o k v H2 fun H3 => P σ H3) : gSub to ti s v σ H P := h
theorem r_setL {p : Addr} {xs : List V} {P : Hp → Prop} (hp : H p = some (.lst xs)) (hj : ixN xs.length a = some j) (h : P (upd H p (.lst (xs.set j v)))) : rSetL (.ref p) (.int a) v H P := ⟨p, xs, a, j, rfl, rfl, hp, hj, h⟩
theorem r_nil {R : List V → Hp → Prop} (h : R [] H) : tNil σ H R := h
theorem r_cons {R : List V → Hp → Prop} (h : ta σ H fun x H1 => tr σ H1 fun xs H2 => R (x :: xs) H2) : tCons ta tr σ H R := h
theorem r_cb {r : List V → Hp → VK → Prop} (h : tr σ H fun vs H1 => r vs H1 Q) : tCB r tr σ H Q := h
theorem r_call {sp : Sp} {dvs : List V} {E : XK} (h : tr σ H fun vs H1 => sp (vs ++ dvs) H1 Q E) : tCall sp dvs E tr σ H Q := h
theorem r_sl {r : V → Option Int → Option Int → Hp → VK → Prop} {tl th : TO} (h : te σ H fun x H1 => tl σ H1 fun l H2 => th σ H2 fun u H3 => r x l u H3 Q) : tSl r te tl th σ H Q := h
theorem r_noP {P : Option Int → Hp → Prop} (h : P none H) : tNoPart σ H P := h
theorem r_part {P : Option Int → Hp → Prop} (h : te σ H fun x H1 => ∃ i, x = .int i ∧ P (some i) H1) : tPart te σ H P := h
theorem r_isI {P : Int → Prop} (h : P a) : ∃ i, V.int a = .int i ∧ P i := ⟨a, rfl, h⟩
theorem r_lst (h : tr σ H fun xs H1 => xs.length ≤ sizeLine ∧ ∀ p, H1 p = none → Q (.ref p) (upd H1 p (.lst xs))) : tLst tr σ H Q := h
theorem r_tup (h : tr σ H fun xs H1 => xs.length ≤ sizeLine ∧ ∀ p, H1 p = none → Q (.ref p) (upd H1 p (.tup xs))) : tTup tr σ H Q := h
theorem r_test {P : Bool → Hp → Prop} (h : te σ H fun x H' => ∃ k, x = .bl k ∧ P k H') : tTest te σ H P := h
theorem r_and {P : Bool → Hp → Prop} (h : tt σ H fun c H1 => if c = true then tu σ H1 P else P false H1) : tAnd tt tu σ H P := h
theorem r_or {P : Bool → Hp → Prop} (h : tt σ H fun c H1 => if c = true then P true H1 else tu σ H1 P) : tOr tt tu σ H P := h
theorem r_not {P : Bool → Hp → Prop} (h : tt σ H fun c H1 => P (!c) H1) : tNot tt σ H P := h
theorem r_bl {P : Bool → Prop} {k : Bool} (h : P k) : ∃ c, V.bl k = .bl c ∧ P c := ⟨k, rfl, h⟩
theorem r_eq (hs : scal v w = true) (h : Q (.bl (decide (v = w))) H) : rEq v w H Q := ⟨hs, h⟩
theorem r_eqT (hs : scal v v = true) (h : Q (.bl true) H) : rEq v v H Q := ⟨hs, by rw [decide_eq_true (rfl : v = v)]; exact h⟩
theorem r_andV (h : ta σ H fun x H1 => ∃ c, x = .bl c ∧ if c = true then tb σ H1 Q else Q (.bl false) H1) : tAndV ta tb σ H Q := h
theorem r_orV (h : ta σ H fun x H1 => ∃ c, x = .bl c ∧ if c = true then Q (.bl true) H1 else tb σ H1 Q) : tOrV ta tb σ H Q := h
theorem r_notV (h : ta σ H fun x H1 => ∃ c, x = .bl c ∧ Q (.bl (!c)) H1) : tNotV ta σ H Q := h
theorem r_ne (hs : scal v w = true) (h : Q (.bl (!decide (v = w))) H) : rNe v w H Q := ⟨hs, h⟩
theorem ite_nF {A B : Prop} (h : A) : if (!false) = true then A else B := by rw [show (!false) = true from rfl, if_pos rfl]; exact h
theorem ite_nT {A B : Prop} (h : B) : if (!true) = true then A else B := by rw [show (!true) = false from rfl, if_neg Bool.false_ne_true]; exact h
theorem ite_no {c : Prop} [Decidable c] {A B : Prop} (h1 : c → A) (h2 : ¬ c → B) : if (!decide c) = true then B else A := by
  by_cases h : c
  · rw [decide_eq_true h]; exact h1 h
  · rw [decide_eq_false h]; exact h2 h
theorem ite_dec {c : Prop} [Decidable c] {A B : Prop} (h1 : c → A) (h2 : ¬ c → B) : if decide c = true then A else B := by
  by_cases h : c
  · rw [decide_eq_true h, if_pos rfl]; exact h1 h
  · rw [decide_eq_false h, if_neg Bool.false_ne_true]; exact h2 h
end

/-! ### built-ins by readings with a name -/
def rIs0 : R2 := fun x y H Q => y = .non ∧ Q (.bl (decide (x = .non))) H
def rIs1 : R2 := fun x y H Q => y = .non ∧ Q (.bl (!decide (x = .non))) H
theorem op_is0 {X : Cx} : OpR X (compareOp .Is) rIs0 := op_isN
theorem op_is1 {X : Cx} : OpR X (compareOp .IsNot) rIs1 := op_notN
theorem r_is0 {x : V} {H : Hp} {Q : VK} (h : Q (.bl (decide (x = .non))) H) : rIs0 x .non H Q := ⟨rfl, h⟩
theorem r_is1 {x : V} {H : Hp} {Q : VK} (h : Q (.bl (!decide (x = .non))) H) : rIs1 x .non H Q := ⟨rfl, h⟩
def rInt : List V → Hp → VK → Prop := fun xs H Q => ∃ n, xs = [.int n] ∧ Q (.int n) H
def rIntB : List V → Hp → VK → Prop := fun xs H Q => ∃ b, xs = [.bl b] ∧ Q (.int (if b then 1 else 0)) H
def rLen (K : PySem.W.Frag) : List V → Hp → VK → Prop := fun xs H Q => ∃ l ys, xs = [.ref l] ∧ (SqL K H l ys ∨ SqT K H l ys) ∧ Q (.int ys.length) H
theorem cl_int {X : Cx} : CallR X (.type "int") rInt := fun pins s σ H xs us Q I r h => by
  obtain ⟨n, e, q⟩ := h
  exact call_int1 pins s σ H xs us Q I r (.inl ⟨n, e, q⟩)
theorem cl_intB {X : Cx} : CallR X (.type "int") rIntB := fun pins s σ H xs us Q I r h => by
  obtain ⟨b, e, q⟩ := h
  exact call_int1 pins s σ H xs us Q I r (.inr ⟨b, e, q⟩)
def rTupOf (K : PySem.W.Frag) : List V → Hp → VK → Prop := fun xs H Q => ∃ l ys, xs = [.ref l] ∧ SqL K H l ys ∧ ∀ q, H q = none → Q (.ref q) (upd H q (.tup ys))
def rLstOf (K : PySem.W.Frag) : List V → Hp → VK → Prop := fun xs H Q => ∃ l ys, xs = [.ref l] ∧ (SqL K H l ys ∨ SqT K H l ys) ∧ ∀ q, H q = none → Q (.ref q) (upd H q (.lst ys))
theorem cl_tup {X : Cx} : CallR X (.type "tuple") (rTupOf X.K) := fun pins s σ H xs us Q I r h => by
  obtain ⟨l, ys, e, hs, q⟩ := h
  exact call_tuple_of pins s σ H xs us Q I r ⟨l, ys, e, .inl ⟨hs, q⟩⟩
theorem cl_lst {X : Cx} : CallR X (.type "list") (rLstOf X.K) := fun pins s σ H xs us Q I r h => call_list_of pins s σ H xs us Q I r h
theorem cl_len {X : Cx} : CallR X (.builtin "len") (rLen X.K) := fun pins s σ H xs us Q I r h => call_len_seq pins s σ H xs us Q I r h
section
variable {K : PySem.W.Frag} {H : Hp} {Q : VK} {l : Addr} {ys : List V}
theorem r_int {n : Int} (h : Q (.int n) H) : rInt [.int n] H Q := ⟨n, rfl, h⟩
theorem r_intB {b : Bool} (h : Q (.int (if b then 1 else 0)) H) : rIntB [.bl b] H Q := ⟨b, rfl, h⟩
theorem r_tupOf (hs : SqL K H l ys) (h : ∀ q, H q = none → Q (.ref q) (upd H q (.tup ys))) : rTupOf K [.ref l] H Q := ⟨l, ys, rfl, hs, h⟩
theorem r_lstOf (hs : SqL K H l ys) (h : ∀ q, H q = none → Q (.ref q) (upd H q (.lst ys))) : rLstOf K [.ref l] H Q := ⟨l, ys, rfl, .inl hs, h⟩
theorem r_lenL (hs : SqL K H l ys) (h : Q (.int ys.length) H) : rLen K [.ref l] H Q := ⟨l, ys, rfl, .inl hs, h⟩
theorem r_lenT (hs : SqT K H l ys) (h : Q (.int ys.length) H) : rLen K [.ref l] H Q := ⟨l, ys, rfl, .inr hs, h⟩
end

/-! ### the heap but for one object -/
/-- all that was tracked, the object at p aside, is as it was -/
def Keep (p : Addr) (H H' : Hp) : Prop := ∀ b o, b ≠ p → H b = some o → H' b = some o
section
variable {p q : Addr} {H H' H1 H2 : Hp} {o u : HO}
theorem Keep.refl : Keep p H H := fun _ _ _ h => h
theorem Keep.trans (a : Keep p H H1) (b : Keep p H1 H2) : Keep p H H2 := fun c o n h => b c o n (a c o n h)
theorem Keep.own (a : Keep p H H1) : Keep p H (upd H1 p o) := fun c v n h => by rw [upd_ne n]; exact a c v n h
theorem Keep.new (a : Keep p H H1) (hq : H1 q = none) : Keep p H (upd H1 q o) := fun c v n h => by
  have e := a c v n h
  rw [upd_ne (ne_of_none e hq)]; exact e
theorem Keep.same (s : Same H H1) : Keep p H H1 := fun c v _ h => s c v h
theorem Keep.seq {K : PySem.W.Frag} (a : Keep p H H1) {l : Addr} {xs : List V} (n : l ≠ p) (h : SqL K H l xs) : SqL K H1 l xs := by
  rcases h with (h | ⟨v, h⟩) | h
  · exact .inl (.inl (a l _ n h))
  · exact .inl (.inr ⟨v, a l _ n h⟩)
  · exact .inr h
theorem Same.up (s : Same H H1) (hq : H1 q = none) : Same H (upd H1 q o) := fun c v h => by
  have e := s c v h
  rw [upd_ne (ne_of_none e hq)]; exact e
end

/-! ### the pool of draws: at p a list of the cells' list (at c) and four ints -/
def PoolAt (H : Hp) (p c : Addr) (ns : List Int) : Prop :=
  ∃ a b s n : Int, 0 ≤ a ∧ H p = some (.lst [.ref c, .int a, .int b, .int s, .int n]) ∧ H c = some (.lst (ns.map V.int))
theorem PoolAt.ne {H : Hp} {p c : Addr} {ns : List Int} (h : PoolAt H p c ns) : c ≠ p := by
  obtain ⟨a, b, s, n, _, h1, h2⟩ := h
  intro e
  rw [e, h1] at h2
  cases ns with
  | nil => cases h2
  | cons x r =>
    have z := HO.lst.inj (Option.some.inj h2)
    rw [List.map_cons] at z
    cases (List.cons.inj z).1
/-- a store into one of its places -/
theorem PoolAt.put {H : Hp} {p c : Addr} {ns : List Int} {a b s n : Int} (ha : 0 ≤ a) (hc : H c = some (.lst (ns.map V.int))) (ne : c ≠ p) :
    PoolAt (upd H p (.lst [.ref c, .int a, .int b, .int s, .int n])) p c ns := ⟨a, b, s, n, ha, upd_same, by rw [upd_ne ne]; exact hc⟩

theorem later {H : Hp} {a q : Addr} {o u : HO} (h : H a = some o) (hq : H q = none) : upd H q u a = some o := by
  rw [upd_ne (ne_of_none h hq)]; exact h
theorem PoolAt.new {H : Hp} {p c q : Addr} {ns : List Int} {o : HO} (h : PoolAt H p c ns) (hq : H q = none) : PoolAt (upd H q o) p c ns := by
  obtain ⟨a, b, z, n, ha, hP, hC⟩ := h
  exact ⟨a, b, z, n, ha, later hP hq, later hC hq⟩
theorem PoolAt.apart {H : Hp} {p c q : Addr} {ns : List Int} (h : PoolAt H p c ns) (hq : H q = none) : q ≠ p := by
  obtain ⟨a, b, z, n, ha, hP, hC⟩ := h
  exact fun e => by rw [e, hP] at hq; cases hq
theorem PoolAt.apartC {H : Hp} {p c q : Addr} {ns : List Int} (h : PoolAt H p c ns) (hq : H q = none) : q ≠ c := by
  obtain ⟨a, b, z, n, ha, hP, hC⟩ := h
  exact fun e => by rw [e, hC] at hq; cases hq
theorem log_small {i : Int} (h : -8 < i ∧ i < 8) : i.natAbs.log2 < 1920 := by
  have e : i.natAbs < 8 := by omega
  exact Nat.lt_of_le_of_lt (Nat.log2_le_self _) (by omega)
/-- _law_mixed(pool, cell) -/
def spMix : Sp := fun vs H Q _ => ∃ (p c : Addr) (ns : List Int) (x : Int), vs = [.ref p, .int x] ∧ PoolAt H p c ns ∧
  ∀ (r : Int) (H' : Hp), 0 ≤ r → Keep p H H' → PoolAt H' p c ns → Q (.int r) H'
/-- _law_draw(pool, size) -/
def spDraw : Sp := fun vs H Q _ => ∃ (p c : Addr) (ns : List Int) (z : Int), vs = [.ref p, .int z] ∧ PoolAt H p c ns ∧ 0 < z ∧ z < 1073741824 ∧
  ∀ (r : Int) (H' : Hp), 0 ≤ r → r < z → Keep p H H' → PoolAt H' p c ns → Q (.int r) H'
/-- _law_number(pool, parts) -/
def spNum : Sp := fun vs H Q _ => ∃ (p c : Addr) (ns : List Int) (k : Int), vs = [.ref p, .int k] ∧ PoolAt H p c ns ∧ 0 ≤ k ∧ k ≤ 1000 ∧
  ∀ (r : Int) (H' : Hp), 0 ≤ r → r < 1000000 ^ k.toNat → Keep p H H' → PoolAt H' p c ns → Q (.int r) H'
/-- _law_pool(script) -/
def spPool (K : PySem.W.Frag) : Sp := fun vs H Q _ => ∃ (l : Addr) (ns : List Int), vs = [.ref l] ∧ SqL K H l (ns.map V.int) ∧ ns.length ≤ 63 ∧
  ∀ (p c : Addr) (H' : Hp), H p = none → H c = none → Same H H' → PoolAt H' p c ns → Q (.ref p) H'
theorem take_snoc {α : Type} : ∀ {l : List α} {i : Nat} {x : α}, l[i]? = some x → l.take (i + 1) = l.take i ++ [x]
  | [], i, x, h => by simp at h
  | a :: l, 0, x, h => by
    have e : a = x := Option.some.inj h
    rw [e]; rfl
  | a :: l, i + 1, x, h => by
    have ih := take_snoc (l := l) (i := i) (x := x) h
    rw [List.take_succ_cons, ih]; rfl
theorem ixN_last {α : Type} (xs : List α) (v : α) : ixN (xs ++ [v]).length (-1) = some xs.length := by
  have hl : (xs ++ [v]).length = xs.length + 1 := by simp
  unfold ixN
  rw [hl, if_neg (by decide), if_pos (by omega)]
  congr 1
  omega
theorem ixN_nat {n j : Nat} (h : j < n) : ixN n (j : Int) = some j := by
  unfold ixN
  rw [if_pos (by omega), if_pos (by omega)]
  simp
theorem set_last {α : Type} (xs : List α) (v u : α) : (xs ++ [v]).set xs.length u = xs ++ [u] := by simp
theorem cut_all {xs : List V} {n : Nat} (h : xs.length ≤ n) : cutV xs none (some (n : Int)) = xs := by
  have e1 : HT.sIx xs.length 0 none = 0 := rfl
  have e2 : HT.sIx xs.length xs.length (some (n : Int)) = xs.length := by
    rw [HT.sIx_nat]
    exact Nat.min_eq_right h
  unfold cutV
  rw [e1, e2, Nat.sub_zero, List.drop_zero, List.take_length]
end Pk
set_option Elab.async false
set_option linter.all false
set_option maxRecDepth 100000
set_option maxHeartbeats 1000000
/-! Error classes two steps below ArithmeticError, made by an __init__ that calls super().__init__ first and then stores fields. -/
namespace Pk
open PySem L2 PySem.Spec PyProof.Rows
abbrev arT : List Value := [.type "ArithmeticError", .type "Exception", .type "BaseException", .type "object"]
theorem arT_has {C pe : Addr} {z : String} (h : arT.contains (.type z) = true) : (Value.ref C :: .ref pe :: arT).contains (.type z) = true := by
  rw [List.contains_cons, List.contains_cons, h, Bool.or_true, Bool.or_true]
theorem arT_same {pe : Addr} (z : String) : (Value.ref pe :: arT).contains (.type z) = arT.contains (.type z) := by
  rw [List.contains_cons]
  simp
section
open PySem.W PySem.Calls Builtin Builtin.ObjectAttr
variable {prog : Program} {w : World} {A : Around} {R : Result → Shared → Prop} {hp : Heap} {g : Array GenState} {dn : Drawn} {tk : Nat} {os : OsState} {K : W.Frag} {nm : Str} {nt : Tok} {v : Value} {x C pe : Addr} {cd : ClassData}
/-- object.__setattr__ of such an error, up to the store in its own dict -/
theorem sa_head {ox : Obj} {od : Option Obj} (kin : K.In hp) (inst : W.InstAt hp x ox C od) (hcd : W.clsIn K C = some cd) (mro : cd.mro = .ref C :: .ref pe :: arT) (free : W.findIn K (.ref C) nm = some none)
    (go : wpAny (model prog w) A.in1 (storeInOwnDict (.ref x) (.ref C) (.str nm nt) nm v false) (fun fn st => match fn with
        | .done r => R (.ok r) st
        | .again c => c.quiet = true ∧ codeAny (model prog w) A c R st) (fun er st => R (.error er) st) ⟨hp, g, dn, tk, os⟩) :
    codeAny (model prog w) A (.call (.builtin "object.__setattr__") ⟨[.ref x, .str nm nt, v], []⟩) R ⟨hp, g, dn, tk, os⟩ := by
  have so := PySem.F.store_object
  have isO : W.mroIn K C (.type "object") = some true := by
    unfold W.mroIn
    rw [hcd, Option.bind_some, mro, if_neg (show ¬ (List.isEmpty (Value.ref C :: .ref pe :: arT) = true) from Bool.false_ne_true), arT_has (by decide +kernel)]
  have below : W.Looks (model prog w) hp (isInstance (.ref x) (.type "object")) true := inst.type.andThen (W.looks_mroIn kin isO)
  have line : W.Looks (model prog w) hp (mroOf (.ref C)) cd.mro := (W.looks_clsIn kin hcd).andThen .now
  have loop : refuseLoop (.ref x) "__setattr__" cd.mro = pure () := by
    rw [mro, refuseLoop_ref, refuseLoop_ref]
    exact PySem.F.store_ArithmeticError.passes _
  have no3 : W.Looks (model prog w) hp (storeTaker? none) none := .now
  refine codeAny_call_builtin so.slot.plain so.entry (@W.check_slot (model prog w) _ _ ⟨hp, g, dn, tk, os⟩ "object.__setattr__" "object" "__setattr__" (.ref x) [.str nm nt, v] [] _ so.kind so.split below (so.args (.ref x) (.str nm nt) v) ?_)
  rw [W.osa_eq, refuse_eq]
  refine wpAny_bind (wpAny_bind (inst.type.at (wpAny_bind (line.at ?_)))); rw [loop]
  exact wpAny_pure (wpAny_bind (inst.type.at (wpAny_bind ((W.looks_findIn kin free).at (wpAny_bind (no3.at go))))))
/-- the first field: the dict is made -/
theorem sa_first {fv : Array Value} (kin : K.In hp) (hx : hp.get? x = some { cls := .ref C, data := .fields fv }) (hcd : W.clsIn K C = some cd) (mro : cd.mro = .ref C :: .ref pe :: arT) (hasD : cd.hasDict = true) (free : W.findIn K (.ref C) nm = some none)
    (done : ∀ h2 t2 dx, (∀ b o, b ≠ x → hp.get? b = some o → h2.get? b = some o) → hp.objs.size ≤ dx → dx ≠ x → h2.get? x = some { cls := .ref C, dict := some dx, data := .fields fv } →
      h2.Ns1 dx (fun y => if y = nm then some v else none) → R (.ok (.ret .none)) ⟨h2, g, dn, t2, os⟩) :
    codeAny (model prog w) A (.call (.builtin "object.__setattr__") ⟨[.ref x, .str nm nt, v], []⟩) R ⟨hp, g, dn, tk, os⟩ := by
  have away : x ≠ hp.objs.size := Nat.ne_of_lt (Heap.lt_size hx)
  refine sa_head kin (ox := { cls := .ref C, data := .fields fv }) (od := none) ⟨hx, rfl, rfl, trivial⟩ hcd mro free ?_
  have look : W.Looks (model prog w) hp (classData C) cd := W.looks_clsIn kin hcd
  obtain ⟨c1, c2, c3, c4, c5, hd, c7, c8, c9, c10, c11⟩ := cd
  dsimp only at hasD
  subst hasD
  unfold storeInOwnDict ownDictForStores
  repeat (first | with_reducible refine HandSPX.store_in_new ?_ ?_ | with_reducible refine wpAny_loadPart_at hx ?_ | with_reducible refine look.at ?_ | wp_step)
  · exact ⟨_, #[], _, (Heap.get?_update_ne _ _ _ _ away.symm).trans (Heap.get?_push_at rfl rfl), rfl, fun e he => absurd he (by simp), fun _ => rfl⟩
  · intro h2 t2 ns sb
    have pushed : (hp.push { cls := .type "dict", data := .dict #[] }).get? x = some { cls := .ref C, data := .fields fv } := Heap.get?_push_of_some _ hx
    exact done h2 t2 hp.objs.size (fun b o hb ho => (sb.2 b (Nat.ne_of_lt (Heap.lt_size ho))).trans ((Heap.get?_update_ne _ _ _ _ hb).trans (Heap.get?_push_of_some _ ho))) (Nat.le_refl _) away.symm ((sb.2 x away).trans (Heap.get?_update_self _ pushed rfl)) ns
/-- a further field -/
theorem sa_more {fv : Array Value} {dx : Addr} {m0 : Str → Option Value} {nl : List Str} (kin : K.In hp) (hx : hp.get? x = some { cls := .ref C, dict := some dx, data := .fields fv }) (ns : hp.Ns1 dx m0) (wi : Within m0 nl) (few : nl.length ≤ 1000)
    (hcd : W.clsIn K C = some cd) (mro : cd.mro = .ref C :: .ref pe :: arT) (hasD : cd.hasDict = true) (free : W.findIn K (.ref C) nm = some none)
    (done : ∀ h2 t2, (∀ b o, b ≠ dx → hp.get? b = some o → h2.get? b = some o) → h2.Ns1 dx (fun y => if y = nm then some v else m0 y) → R (.ok (.ret .none)) ⟨h2, g, dn, t2, os⟩) :
    codeAny (model prog w) A (.call (.builtin "object.__setattr__") ⟨[.ref x, .str nm nt, v], []⟩) R ⟨hp, g, dn, tk, os⟩ := by
  obtain ⟨oD, _, _, hoD, _, _⟩ := ns.count wi
  refine sa_head kin (ox := { cls := .ref C, dict := some dx, data := .fields fv }) (od := some oD) ⟨hx, rfl, rfl, hoD⟩ hcd mro free ?_
  have look : W.Looks (model prog w) hp (classData C) cd := W.looks_clsIn kin hcd
  obtain ⟨c1, c2, c3, c4, c5, hd, c7, c8, c9, c10, c11⟩ := cd
  dsimp only at hasD
  subst hasD
  unfold storeInOwnDict ownDictForStores
  repeat (first | with_reducible refine PySem.ESX.store_in_old ns wi few ?_ | with_reducible refine wpAny_loadPart_at hx ?_ | with_reducible refine look.at ?_ | wp_step)
  exact fun h2 t2 n2 sb => done h2 t2 (fun b o hb ho => (sb.2 b hb).trans ho) n2
end

/-- what the written part says of an error class at C -/
structure ErrC (K : PySem.W.Frag) (C : Addr) : Prop where
  cls : ∃ pe nm q N bs sn sub ab col dd k0 k1 k2 k3 k5, K.lookup C = some (excClassObj nm q C N bs (.ref pe :: arT) true sn sub ab col dd k0 k1 k2 k3 k5 "ArithmeticError.__new__")
  sa : PySem.W.findIn K (.ref C) "__setattr__" = some (some (.builtin "object.__setattr__"))
  exB : PySem.W.subIn K (.ref C) (.type "BaseException") = some true
  exA : PySem.W.subIn K (.ref C) (.type "ArithmeticError") = some true
  ty : PySem.W.typeIn K (.ref C) = some (.type "type")
  kp : PySem.W.keepIn K (.ref C) = true
section
variable {X : Cx} {pins : List (Addr × Obj)} {σ : L2.St} {H : Hp} {s : Shared} {a C dx : Addr} {f : Str} {y : V} {u : Value} {fs : List (Str × V)} {Q : Unit → Shared → Prop} {E : Value → Shared → Prop} {A : Around}
theorem ErrC.data {K : PySem.W.Frag} (T : ErrC K C) : ∃ pe cd, PySem.W.clsIn K C = some cd ∧ cd.mro = .ref C :: .ref pe :: arT ∧ cd.hasDict = true := by
  obtain ⟨pe, nm, q, N, bs, sn, sub, ab, col, dd, k0, k1, k2, k3, k5, hC⟩ := T.cls
  exact ⟨pe, { name := nm, bases := bs, mro := .ref C :: .ref pe :: arT, ns := N, qualname := q, hasDict := true, slotNames := sn, subclasses := sub, abstract := ab, collection := col, hasDel := false }, by unfold PySem.W.clsIn; rw [hC] <;> rfl, rfl, rfl⟩
theorem not_at {H : Hp} {b c : Addr} {o : HO} (h : H b = some o) (n : H c = none) : c ≠ b := fun z => by
  rw [z, h] at n
  cases n
/-- self.f = y where the error has no dict as yet -/
theorem err_first (T : ErrC X.K C) (I : Inv X pins σ H s) (e : H a = some (exo a C none)) (free : PySem.W.findIn X.K (.ref C) f = some none) (ry : RelV y u)
    (go : ∀ dx st, H dx = none → dx ≠ a → Inv X pins σ (upd (upd H dx (exd dx [(f, y)])) a (exo a C (some dx))) st → Q () st) : wpAny (model X.prog X.w) A (setAttr (.ref a) f u) Q E s := by
  obtain ⟨pe, cd, hcl, hm, hh⟩ := T.data
  obtain ⟨t1, ho⟩ := exo_at I.hok e
  obtain ⟨hp, g, d, t, os⟩ := s
  refine PySem.W.set_plain I.kIn (od := none) (ox := { cls := .ref C, dict := none, data := .fields #[.ref t1, .none, .none, .none, .bool false, .none] }) ⟨ho, rfl, rfl, trivial⟩ T.sa (sa_first I.kIn ho hcl hm hh free fun h2 t2 dx k lt ne hx hn => ?_)
  have hnd : H dx = none := I.hok.fresh lt
  have old : ∀ {b : Addr} {o : Obj}, hp.get? b = some o → b ≠ dx := fun {b o} q => Nat.ne_of_lt (Nat.lt_of_lt_of_le (Heap.lt_size q) lt)
  have stay : ∀ {b : Addr} {o : HO}, H b = some o → exo a C none ≠ o → upd (upd H dx (exd dx [(f, y)])) a (exo a C (some dx)) b = some o := fun {b o} q ne => by
    rw [upd_ne (at_ne e q ne), upd_ne (ne_of_none q hnd)]; exact q
  have U : Un X.fs [] H (upd (upd H dx (exd dx [(f, y)])) a (exo a C (some dx))) hp h2 := {
    keep := fun b o q n _ _ => k b o (not_at e n) q
    slot := fun b o q n _ _ => ⟨o.slots, k b o (not_at e n) q⟩
    free := fun b o q n _ => by rw [upd_ne (not_at e n), upd_ne (old q)]; exact n
    there := fun b o q _ => by
      by_cases hb : b = a
      · exact ⟨_, hb ▸ hx⟩
      · exact ⟨o, k b o hb q⟩
    tups := fun b xs q => stay q exo_tup
    frzs := fun b o v q => stay q exo_frz
    tbls := fun b ps q => ⟨#[], by rw [stay q exo_tbl]; simp⟩ }
  refine go dx _ hnd ne (I.un (t' := t2) U fun b o q => ?_)
  by_cases hb : b = a
  · subst hb; rw [upd_same] at q; cases q; exact exo_ok hx
  · rw [upd_ne hb] at q
    by_cases hd : b = dx
    · subst hd; rw [upd_same] at q; cases q
      exact exd_ok hn (relO_put (fs := []) ry fun _ => True.intro)
    · rw [upd_ne hd] at q
      refine (I.hok b o q).stay (fun c v hc z => k c v ?_ z) (fun c hc => stay hc exo_own) fun c xs hc => stay hc exo_tup
      rcases hc with hc | hc
      · exact hc ▸ hb
      · exact at_ne e hc exo_own
/-- self.f = y, a further field -/
theorem err_more (T : ErrC X.K C) (I : Inv X pins σ H s) (e : H a = some (exo a C (some dx))) (ed : H dx = some (exd dx fs)) (few : fs.length ≤ 900) (free : PySem.W.findIn X.K (.ref C) f = some none) (ry : RelV y u)
    (go : ∀ st, Inv X pins σ (upd H dx (exd dx ((f, y) :: fs))) st → Q () st) : wpAny (model X.prog X.w) A (setAttr (.ref a) f u) Q E s := by
  obtain ⟨pe, cd, hcl, hm, hh⟩ := T.data
  obtain ⟨t1, ho⟩ := exo_at I.hok e
  obtain ⟨mA, hns, rel⟩ := exd_at I.hok ed
  have hw := within_of rel
  obtain ⟨hp, g, d, t, os⟩ := s
  obtain ⟨oD, _, _, hoD, _, _⟩ := hns.count hw
  refine PySem.W.set_plain I.kIn (od := some oD) (ox := { cls := .ref C, dict := some dx, data := .fields #[.ref t1, .none, .none, .none, .bool false, .none] }) ⟨ho, rfl, rfl, hoD⟩ T.sa (sa_more I.kIn ho hns hw (by rw [List.length_map]; omega) hcl hm hh free fun h2 t2 k hn => ?_)
  have there : ∃ o, h2.get? dx = some o := ⟨_, hn.choose_spec.choose_spec.choose_spec.1⟩
  exact go _ (I.write (t' := t2) (x := dx) (e := dx) (o := exd dx ((f, y) :: fs)) (by rw [ed]; exact True.intro) (.inl rfl) k there (exd_ok hn (relO_put ry rel)))
end
/-- self.f = e in the __init__ of such an error -/
def tErrSet (K : PySem.W.Frag) (f : Str) (to te : TE) : TS := fun D σ H => te σ H fun y H1 => to σ H1 fun x H2 => ∃ a C : Addr, x = .ref a ∧ ErrC K C ∧ PySem.W.findIn K (.ref C) f = some none ∧
  ((H2 a = some (exo a C none) ∧ ∀ dx, H2 dx = none → dx ≠ a → D.nx σ (upd (upd H2 dx (exd dx [(f, y)])) a (exo a C (some dx)))) ∨
   (∃ (dx : Addr) (fs : List (Str × V)), H2 a = some (exo a C (some dx)) ∧ H2 dx = some (exd dx fs) ∧ fs.length ≤ 900 ∧ D.nx σ (upd H2 dx (exd dx ((f, y) :: fs)))))
theorem ps_errSet {X : Cx} {o e : Expr} {to te : TE} {f : Str} {p' pos : Pos} (ho : PE X o to) (he : PE X e te) (hs : swapsWith e (some (.Attribute o f p')) pos.line X.env = pure false := by rfl) : PS X (.Assign [.Attribute o f p'] e pos) (tErrSet X.K f to te) := by
  refine ⟨fun pins s σ H D I h => plainObj_wpAny_Assign_Attribute (thn (he.run pins s σ H _ I h) fun v s1 ⟨y, H1, I1, r1, q1⟩ => thn (ho.run pins s1 σ H1 _ I1 q1) fun u s2 ⟨x, H2, I2, r2, a, C, ex, T, free, q⟩ => ?_) hs⟩
  subst ex
  obtain rfl : u = Value.ref a := r2
  rcases q with ⟨ea, q⟩ | ⟨dx, fs, ea, ed, few, q⟩
  · exact err_first T I2 ea free r1 fun dx st n ne J => ⟨σ, _, J, q dx n ne⟩
  · exact err_more T I2 ea ed few free r1 fun st J => ⟨σ, _, J, q⟩
end Pk
set_option Elab.async false
set_option linter.all false
set_option maxRecDepth 100000
set_option maxHeartbeats 1000000
namespace Pk
open PySem L2 PySem.Spec PyProof.Rows
/-- the __init__ at fI of the error class at C: F its words, cc the cell of the class -/
structure InitFn (P : Program) (K : PySem.W.Frag) (C fI cc : Addr) (F : NdefX.NF) : Prop where
  fn : ∃ (oc : Value) (od : Option Addr) (kV doc pm : Value) (an : Option Addr) (ct : Value) (osl : Array (Option Value)), K.lookup fI = some ⟨oc, od, .func (PySem.W.fnX F.name F.qual F.params F.body F.scope F.cl .none kV doc pm an (.ref F.c) ct), osl⟩
  code : PySem.W.codeIn K (.ref F.c) F.qual = true
  cl : F.cl = [(("__class__" : Str), cc)]
  cell : ∃ (a : Value) (b : Option Addr) (c : Array (Option Value)), K.lookup cc = some ⟨a, b, .cell (some (.ref C)), c⟩
  file : ∃ (a : Value) (b : Option Addr) (vs : Array Value) (c : Array (Option Value)) (f : Str) (t : Tok), K.lookup F.c = some ⟨a, b, .fields vs, c⟩ ∧ vs[2]? = some (.str f t) ∧ ((P.main.file : Str) == f) = true
  top : (P.main.scope.names.lookup ("super" : Str)).isSome = false
  opq : PySem.W.nsIn K cStatics "thirdparty.any" = some none
  self : ∃ q, (F.params.posonlyargs ++ F.params.args).head? = some { arg := "self", annotation := none, pos := q }
  sup : PySem.W.ks_superIn K C C "__init__" = some (some (.builtin "ArithmeticError.__init__"))
  below : PySem.W.mroIn K C (.ref C) = some true
section
open PySem.W PySem.Calls
variable {P : Program} {w : World} {K : PySem.W.Frag} {mg : Str → Option Value} {base : Heap} {CX : CXT} {C fI cc : Addr} {F : NdefX.NF} {N ps : List Str} {A : Around} {outer : List Env} {s : Shared} {H : Hp} {Q : VK} {E : XK} {k : Nat}
/-- super().__init__(text): the error's own arguments are laid anew, nothing else is changed -/
theorem sup_init {X : Cx} {pins : List (Addr × Obj)} {σ : L2.St} {H : Hp} {s : Shared} {x u : Addr} {us : List Value} {Qv : Value → Shared → Prop} (T : ErrC X.K C) (I : Inv X pins σ H s) (ex : H x = some (exo x C none)) (hu : s.heap.get? u = some (kxs_mw "ArithmeticError.__init__" x)) (hz : us.length ≤ sizeLine)
    (go : ∀ st, Inv X pins σ H st → Qv .none st) : wpAny (model X.prog X.w) X.A (call (.ref u) us) Qv X.xe s := by
  obtain ⟨pe, nm, q, NN, bs, sn, sub, ab, col, dd, k0, k1, k2, k3, k5, hC⟩ := T.cls
  obtain ⟨t1, ho⟩ := exo_at I.hok ex
  have hC' := I.kIn _ _ hC
  have hE := PySem.F.excBase_ArithmeticError
  have fin : ∀ h2, (∀ b o, b ≠ x → s.heap.get? b = some o → h2.get? b = some o) → h2.get? x = some (excObj C s.heap.objs.size none .none) → Qv .none { s with heap := h2 } := fun h2 keep hx => by
    have J := I.write (t' := s.toks) (x := x) (e := x) (o := exo x C none) (by rw [ex]; exact True.intro) (.inl rfl) keep ⟨_, hx⟩ (exo_ok hx)
    have e2 : upd H x (exo x C none) = H := by
      funext b
      by_cases hb : b = x
      · rw [hb, upd_same, ex]
      · rw [upd_ne hb]
    rw [e2] at J
    exact go _ J
  obtain ⟨hp, g, d, tk, os⟩ := s
  refine wpAny_call (codeAny_of_tree ?_)
  show wpAny _ X.A.in1 (callAny (.ref u) ⟨us, []⟩) _ _ _
  simp only [callAny]
  refine wpAny_bind (wpAny_load hu ?_)
  simp only [kxs_mw, show (Value.type "method-wrapper" == Value.type "method" || Value.type "method-wrapper" == Value.type "builtin_function_or_method" || Value.type "method-wrapper" == Value.type "method-wrapper") = true from by decide, if_true]
  refine KFB.if_so (by decide) (wpAny_bind (check_bound_init hE.toExcCallFacts hC' ho rfl (wpAny_bind (wpAny_pure (wpAny_pure ⟨plainId_quiet hE.init.plain _, codeAny_builtin hE.initEntry ?_⟩)))))
  exact exc_init_tree (cls := .ref C) (t0 := t1) (dv := none) (c2 := .none) (c3 := .none) (b4 := .bool false) ho hz fun h2 keep hx _ => fin h2 keep hx

/-- THE RULE of such an __init__: behind its first row the rest of its body runs as a def's body does, the class in its cell -/
theorem init_run {msg : Str} {kd : Nat} {p0 p1 p2 p3 p4 p5 : Pos} {rest : List Stmt} {us : List Value} {vs : List V} {x : Addr} (T : ErrC K C) (J : InitFn P K C fI cc F) (ms : mg "super" = none) (S : NdefX.NScope N ps ["__class__"] F.scope)
    (hB : F.body = .Expr (.Call (.Attribute (.Call (.Name "super" p0) [] [] p1) "__init__" p2) [.Constant (.str msg) kd p3] [] p4) p5 :: rest) (hsg : F.scope.names.lookup ("super" : Str) = some .globalImplicit)
    (hsl : F.scope.names.lookup ("self" : Str) = some .local) (hr : Room (k + 1) A) (e0 : Env0 P w K mg base A outer s H)
    (hb : ∀ (kV doc pm ct : Value) (an : Option Addr), BindsTo s (PySem.W.fnX F.name F.qual F.params F.body F.scope F.cl .none kV doc pm an (.ref F.c) ct) ⟨us, []⟩ (ps.zip us)) (r : Vals vs us) (hl : vs.length = ps.length)
    (hs0 : ps[0]? = some ("self" : Str)) (hv0 : vs[0]? = some (.ref x)) (ex : H x = some (exo x C none))
    {pl : Sem Bool} (he : ∀ env : Env, eval (.Call (.Attribute (.Call (.Name "super" p0) [] [] p1) "__init__" p2) [.Constant (.str msg) kd p3] [] p4) env = (do
      let ov ← attributeBase (.Call (.Name "super" p0) [] [] p1) "__init__" env (eval (.Call (.Name "super" p0) [] [] p1) env)
      standAt p2.atName
      let (f, first) ← holding [ov] (getMethod ov "__init__" pl)
      callWith p4 f first (backTo p4 (starEach [.Constant (.str msg) kd p3] env)) []))
    (hq : Room k (A.deeper (NdefX.envF F fI s.heap.objs.size)) → ∃ t, PSs (NdefX.ncx CX P w K mg base N F fI A outer s H E) rest t ∧ t { nx := fun _ H' => Q .non H', rt := Q } (NdefX.startF N vs [some (.ref C)]) H) :
    codeAny (model P w) A (.call (.ref fI) ⟨us, []⟩) (CR CX outer P w H s Q E) s := by
  obtain ⟨oc, od, kV, doc, pm, an, ct, osl, lk⟩ := J.fn
  obtain ⟨ca, cb, ccs, hcell⟩ := J.cell
  obtain ⟨fa, fb, fvs, fc, ff, ft, hcode, hvs, hfile⟩ := J.file
  obtain ⟨aq, hself⟩ := J.self
  obtain ⟨pe, cd, hcd, hmro, hhd⟩ := T.data
  have kin0 : K.In s.heap := e0.mod.kin.keeps fun b o e => (e0.bs b o e).1
  have lim : s.heap.NoLimit := e0.mod.nolimit.keeps fun b o e => (e0.bs b o e).1
  have cells : NdefX.CellsAt F.cl ["__class__"] [some (.ref C)] s.heap H := by
    have there : s.heap.IsCell cc (some (.ref C)) := ⟨_, kin0 _ _ hcell, rfl⟩
    have one : ∀ (y : Str) (c : Addr), F.cl.lookup y = some c → y = "__class__" ∧ c = cc := fun y c e => by
      rw [J.cl] at e
      have m := PySem.mem_of_lookup e
      simp only [List.mem_singleton, Prod.mk.injEq] at m
      exact m
    refine ⟨rfl, fun y c e => ?_, fun y z c e1 e2 => (one y c e1).1.trans (one z c e2).1.symm, fun i y e => ?_⟩
    · obtain ⟨_, rfl⟩ := one y c e
      exact ⟨(e0.bs _ _ (e0.mod.kin _ _ hcell)).2, _, there⟩
    · have ey : y = "__class__" := by
        match i, e with
        | 0, e => exact (Option.some.inj e).symm
        | i + 1, e => simp at e
      subst ey
      refine ⟨cc, by rw [J.cl]; simp [List.lookup], fun v e => ?_⟩
      match i, e with
      | 0, e => exact ⟨.ref C, by have z := Option.some.inj (Option.some.inj e); subst z; rfl, there⟩
      | i + 1, e => simp at e
  have ndP : ps.Nodup := by
    have q := S.nd.sublist (List.take_sublist (ps.length + [("__class__" : Str)].length) N)
    rw [S.pre] at q
    exact (List.nodup_append.mp q).1
  have hu0 : us[0]? = some (.ref x) := by
    obtain ⟨u, hu, ru⟩ := r.get hv0
    rw [hu]
    exact congrArg some ru
  refine ks_codeAny_call_defAt (fd := PySem.W.fnX F.name F.qual F.params F.body F.scope F.cl .none kV doc pm an (.ref F.c) ct) (body := F.body) (binds := ps.zip us) hr.depth (kin0 _ _ lk) rfl lim (PySem.W.codeRec_of kin0 J.code) rfl (hb kV doc pm ct an) S.nocell
    (fun ⟨n, v⟩ hy => S.par n (List.of_mem_zip hy).1) (fun h₁ hns hk₁ => ?_) S.co S.gen S.kind
  have I : Inv (NdefX.ncx CX P w K mg base N F fI A outer s H E) [] (NdefX.startF N vs [some (.ref C)]) H { s with heap := h₁, toks := s.toks + (ps.zip us).length } := NdefX.inv_startN S hr.hd e0 hl r cells hns hk₁
  obtain ⟨t, ht, hgo⟩ := hq (hr.deeper _)
  show PySem.wpAt _ (A.deeper (NdefX.envF F fI s.heap.objs.size)) (.func F.body (NdefX.envF F fI s.heap.objs.size)) (execs F.body (NdefX.envF F fI s.heap.objs.size)) _ _ _
  rw [hB]
  have hx1 : ∃ t1, h₁.get? x = some (excObj C t1 none .none) := exo_at I.hok ex
  obtain ⟨t1, hx1⟩ := hx1
  have kin1 : K.In h₁ := I.kIn
  obtain ⟨oD, hD1, hD2⟩ : ∃ oD, h₁.get? C = some oD ∧ oD.data = .cls cd := by
    have q := hcd
    unfold PySem.W.clsIn at q
    split at q
    · rename_i c' d' cd' sl' ho
      cases q
      exact ⟨_, kin1 _ _ ho, rfl⟩
    · cases q
  have fin : ∀ st, Inv (NdefX.ncx CX P w K mg base N F fI A outer s H E) [] (NdefX.startF N vs [some (.ref C)]) H st →
      wpAny (model P w) (A.deeper (NdefX.envF F fI s.heap.objs.size)) (execs rest (NdefX.envF F fI s.heap.objs.size)) (fun f s' => CR CX outer P w H s Q E (.ok (.ret (match f with | .ret v => v | _ => .none))) s')
        (fun e s' => wpAny (model P w) (A.deeper (NdefX.envF F fI s.heap.objs.size)) (leaving (NdefX.envF F fI s.heap.objs.size) e) (fun _ s'' => CR CX outer P w H s Q E (.error e) s'') (fun e' s'' => CR CX outer P w H s Q E (.error e') s'') s') st := fun st I2 => by
    refine wpAny_mono (ht.run [] st _ H _ I2 hgo) (fun fl s' hs => ?_) fun e s' hs => hs
    have close : ∀ {σ' : L2.St} {H' : Hp} {v : V} {u : Value}, Inv (NdefX.ncx CX P w K mg base N F fI A outer s H E) [] σ' H' s' → L2.RelV v u → Q v H' → CE outer P w H s Q u s' := fun {σ' H' v u} Z rv q => ⟨v, H', Z.os, Z.bare, Z.base, Z.hok, rv, q⟩
    cases fl with
    | ret u =>
      obtain ⟨v, σ', H', Z, rv, q⟩ := hs
      exact close Z rv q
    | next =>
      obtain ⟨σ', H', Z, q⟩ := hs
      exact close (v := V.non) (u := Value.none) Z rfl q
    | brk => exact (hs.choose_spec.choose_spec.2 : False).elim
    | cont => exact (hs.choose_spec.choose_spec.2 : False).elim
  refine ks_wpAt_execs_cons (ks_wpAt_Expr_any (ks_wpAt_MethodCall (ks_wpAt_super_base (cc := F.c) (f := fI) (ar := { arg := "self", annotation := none, pos := aq }) hsg (S.frk _ (by simp)) (by decide) rfl (kin1 _ _ lk) rfl hself rfl (kin1 _ _ hcode) rfl hvs hfile J.top ?_) (he _)) I.quiet ?sw)
  case sw => rfl
  obtain ⟨mb, hm1, hm2⟩ := e0.mod.blt
  refine ks_loadName_global S.kind hsg (loadGlobal_builtin (env := NdefX.envF F fI s.heap.objs.size) (e0.mod.glob.keeps I.bk) ms (hm1.keeps I.bk) ((hm2 "super" (by decide)).trans (by decide +kernel)) ⟨rfl, ?_⟩)
  refine wpAny_loadName_free S.kind (S.frk _ (by simp)) (show F.cl.lookup ("__class__" : Str) = some cc by rw [J.cl]; simp [List.lookup]) ⟨_, kin1 _ _ hcell, rfl⟩ ?_
  refine wpAny_loadName_local S.kind hsl hns (NdefX.zip_look ndP hs0 hu0) (ks_wpAny_isType_cls hD1 hD2 ⟨rfl, ?_⟩)
  have nocls : ∀ c, (excObj C t1 none .none).data ≠ .cls c := fun c z => by cases z
  refine ks_wpAny_call_super hD1 hD2 hx1 rfl nocls (PySem.W.looks_mroIn kin1 J.below) (fun h2 eso k2 => ?_)
  have I2 := I.kept (t' := s.toks + (ps.zip us).length) k2
  have kin2 : K.In h2 := I2.kIn
  have inst : PySem.W.InstAt h2 x (excObj C t1 none .none) C none := ⟨k2 _ _ hx1, rfl, rfl, trivial⟩
  have along : PySem.W.alongIn K "__init__" ((cd.mro.dropWhile (· != .ref C)).drop 1) = some (some (.builtin "ArithmeticError.__init__")) := by
    have q := J.sup
    unfold PySem.W.ks_superIn at q
    rw [hcd] at q
    exact q
  refine kxs_getMethod kxs_ArithmeticError eso (PySem.W.looks_opaque kin2 J.opq) ((PySem.W.looks_clsIn kin2 hcd).andThen .now) rfl kin2 along (inst.type.andThen (PySem.W.looks_subIn kin2 T.exA)) (PySem.W.ks_ne kin2 inst hcd) (by decide) ?_
  refine kxs_callWith (i := "ArithmeticError.__init__") (x := x) rfl ?_
  have hu : (h2.push (kxs_mw "ArithmeticError.__init__" x)).get? h2.objs.size = some (kxs_mw "ArithmeticError.__init__" x) := Heap.get?_push_at rfl rfl
  have fr : H h2.objs.size = none := I2.hok.fresh (Nat.le_refl _)
  have I3 := I2.kept (t' := s.toks + (ps.zip us).length + 1) (h' := h2.push (kxs_mw "ArithmeticError.__init__" x)) fun b o e => Heap.get?_push_of_some _ e
  have I4 : Inv (NdefX.ncx CX P w K mg base N F fI A outer s H E) [(h2.objs.size, kxs_mw "ArithmeticError.__init__" x)] (NdefX.startF N vs [some (.ref C)]) H { s with heap := h2.push (kxs_mw "ArithmeticError.__init__" x), toks := s.toks + (ps.zip us).length + 1 } :=
    ⟨I3.ok, I3.os, I3.bare, I3.base, I3.loc, I3.cell, I3.free, I3.freeC, fun p hp => by
      have e : p = (h2.objs.size, kxs_mw "ArithmeticError.__init__" x) := by
        have q : p ∈ [] ++ [(h2.objs.size, kxs_mw "ArithmeticError.__init__" x)] := hp
        simpa using q
      subst e
      exact ⟨hu, fr, Nat.ne_of_gt I2.lt, I2.nofs (Nat.le_refl _), fun v z => by cases z⟩, I3.hok, I3.len⟩
  have arg : PA (NdefX.ncx CX P w K mg base N F fI A outer s H E) [.Constant (.str msg) kd p3] (tCons (tC (.str msg)) tNil) := pa_cons pe_str pa_nil
  refine evalArgs_plain (thn (arg.run p4 _ _ _ H (fun us2 H2 => us2 = [.str msg] ∧ H2 = H) I4 ⟨rfl, rfl⟩) fun us2 s3 h3 => ?_)
  obtain ⟨vs2, H3, I5, r5, rfl, rfl⟩ := h3
  have mu : s3.heap.get? h2.objs.size = some (kxs_mw "ArithmeticError.__init__" x) := (I5.pin (h2.objs.size, kxs_mw "ArithmeticError.__init__" x) (List.mem_append_right _ (List.mem_singleton.mpr rfl))).1
  have one : us2.length ≤ sizeLine := by
    have z := Paired.length r5
    rw [← z, sizeLine_eq]
    show 1 ≤ 16777216
    decide
  refine ⟨mu, sup_init (us := us2) T I5 ex mu one fun st I6 => ?_⟩
  refine wpAt_of_wpAny (fin st ⟨I6.ok, I6.os, I6.bare, I6.base, I6.loc, I6.cell, I6.free, I6.freeC, fun p hp => I6.pin p (List.mem_append_left _ ?_), I6.hok, I6.len⟩)
  have q : p ∈ [] ++ [] := hp
  simpa using q
end
end Pk
set_option Elab.async false
set_option linter.all false
set_option maxRecDepth 100000
set_option maxHeartbeats 1000000
/-! Data of lists and tuples of bounded depth; copies of it that share no list. -/
namespace Pk
open PySem L2
/-- nested at most n deep, no list or tuple longer than 1000 -/
inductive Deep : Nat → PyData → Prop
  | non {n : Nat} : Deep n .none
  | bl {n : Nat} (b : Bool) : Deep n (.bool b)
  | int {n : Nat} (i : Int) : Deep n (.int i)
  | str {n : Nat} (z : Str) : Deep n (.str z)
  | lst {n : Nat} {ds : List PyData} (h : ∀ d ∈ ds, Deep n d) (z : ds.length ≤ 1000) : Deep (n + 1) (.list ds)
  | tup {n : Nat} {ds : List PyData} (h : ∀ d ∈ ds, Deep n d) (z : ds.length ≤ 1000) : Deep (n + 1) (.tuple ds)
theorem Deep.mono {n m : Nat} {d : PyData} (h : Deep n d) (l : n ≤ m) : Deep m d := by
  induction h generalizing m with
  | non => exact .non
  | bl b => exact .bl b
  | int i => exact .int i
  | str z => exact .str z
  | lst h z ih =>
    obtain ⟨k, rfl⟩ : ∃ k, m = k + 1 := ⟨m - 1, by omega⟩
    exact .lst (fun d hd => ih d hd (by omega)) z
  | tup h z ih =>
    obtain ⟨k, rfl⟩ : ∃ k, m = k + 1 := ⟨m - 1, by omega⟩
    exact .tup (fun d hd => ih d hd (by omega)) z
/-- v is the data d in H, and every list and tuple of it is new: not tracked in H0 -/
inductive Own (H0 H : Hp) : V → PyData → Prop
  | non : Own H0 H .non .none
  | bl (b : Bool) : Own H0 H (.bl b) (.bool b)
  | int (i : Int) : Own H0 H (.int i) (.int i)
  | str (z : Str) : Own H0 H (.str z) (.str z)
  | lst {a : Addr} {xs : List V} {ds : List PyData} (n : H0 a = none) (h : H a = some (.lst xs)) (hl : xs.length = ds.length) (hs : ∀ (i : Nat) (v : V) (d : PyData), xs[i]? = some v → ds[i]? = some d → Own H0 H v d) : Own H0 H (.ref a) (.list ds)
  | tup {a : Addr} {xs : List V} {ds : List PyData} (n : H0 a = none) (h : H a = some (.tup xs)) (hl : xs.length = ds.length) (hs : ∀ (i : Nat) (v : V) (d : PyData), xs[i]? = some v → ds[i]? = some d → Own H0 H v d) : Own H0 H (.ref a) (.tuple ds)
theorem Own.mono {H0 H H0' H' : Hp} {v : V} {d : PyData} (o : Own H0 H v d) (f : ∀ a, H0 a = none → H a ≠ none → H0' a = none) (k : ∀ a u, H0 a = none → H a = some u → (∃ xs, u = .lst xs ∨ u = .tup xs) → H' a = some u) : Own H0' H' v d := by
  induction o with
  | non => exact .non
  | bl b => exact .bl b
  | int i => exact .int i
  | str z => exact .str z
  | lst n h hl _ ih => exact .lst (f _ n (by rw [h]; exact Option.some_ne_none _)) (k _ _ n h ⟨_, .inl rfl⟩) hl fun i v d e1 e2 => ih i v d e1 e2
  | tup n h hl _ ih => exact .tup (f _ n (by rw [h]; exact Option.some_ne_none _)) (k _ _ n h ⟨_, .inr rfl⟩) hl fun i v d e1 e2 => ih i v d e1 e2
theorem Own.later {H0 H H' : Hp} {v : V} {d : PyData} (o : Own H0 H v d) (s : Same H H') : Own H0 H' v d := o.mono (fun _ n _ => n) fun a u _ h _ => s a u h
/-- made later than H0, so also later than what H0 has grown from -/
theorem Own.back {H0 H1 H : Hp} {v : V} {d : PyData} (o : Own H1 H v d) (s : Same H0 H1) : Own H0 H v d := by
  induction o with
  | non => exact .non
  | bl b => exact .bl b
  | int i => exact .int i
  | str z => exact .str z
  | lst n h hl _ ih => exact .lst (s.free n) h hl ih
  | tup n h hl _ ih => exact .tup (s.free n) h hl ih
theorem dpAll_of {K : PySem.W.Frag} {H : Hp} : ∀ {xs : List V} {ds : List PyData}, xs.length = ds.length → (∀ (i : Nat) (v : V) (d : PyData), xs[i]? = some v → ds[i]? = some d → Dp K H v d) → DpAll K H xs ds
  | [], [], _, _ => .nil
  | [], _ :: _, h, _ => by cases h
  | _ :: _, [], h, _ => by cases h
  | x :: xs, d :: ds, h, k => .cons (k 0 x d rfl rfl) (dpAll_of (Nat.succ.inj h) fun i v e e1 e2 => k (i + 1) v e e1 e2)
theorem dpAll_len {K : PySem.W.Frag} {H : Hp} : ∀ {xs : List V} {ds : List PyData}, DpAll K H xs ds → xs.length = ds.length
  | _, _, .nil => rfl
  | _, _, .cons _ t => congrArg Nat.succ (dpAll_len t)
theorem dpAll_at {K : PySem.W.Frag} {H : Hp} : ∀ {xs : List V} {ds : List PyData} {i : Nat} {v : V}, DpAll K H xs ds → xs[i]? = some v → ∃ d, ds[i]? = some d ∧ Dp K H v d
  | _, _, _, _, .nil, e => by simp at e
  | _, _, 0, _, .cons h _, e => ⟨_, rfl, by have z := Option.some.inj e; subst z; exact h⟩
  | _, _, i + 1, _, .cons _ t, e => dpAll_at (i := i) t e
theorem Own.dp {K : PySem.W.Frag} {H0 H : Hp} {v : V} {d : PyData} (o : Own H0 H v d) : Dp K H v d := by
  induction o with
  | non => exact .non
  | bl b => exact .bl b
  | int i => exact .int i
  | str z => exact .str z
  | lst n h hl _ ih => exact .lst (SqL.of h) (dpAll_of hl ih)
  | tup n h hl _ ih => exact .tup (SqT.of h) (dpAll_of hl ih)
/-- lists, tuples and what is locked -/
def IsLT (u : HO) : Prop := (∃ xs, u = .lst xs) ∨ (∃ xs, u = .tup xs) ∨ ∃ o z, u = .frz o z
/-- these are as they were -/
def SameD (H H' : Hp) : Prop := ∀ a u, IsLT u → H a = some u → H' a = some u
theorem SameD.of {H H' : Hp} (s : Same H H') : SameD H H' := fun a u _ h => s a u h
theorem SameD.trans {H H1 H2 : Hp} (a : SameD H H1) (b : SameD H1 H2) : SameD H H2 := fun c u l h => b c u l (a c u l h)
theorem SameD.seqL {K : PySem.W.Frag} {H H' : Hp} (s : SameD H H') {a : Addr} {xs : List V} (h : SqL K H a xs) : SqL K H' a xs := by
  rcases h with (h | ⟨o, h⟩) | h
  · exact .inl (.inl (s _ _ (.inl ⟨_, rfl⟩) h))
  · exact .inl (.inr ⟨o, s _ _ (.inr (.inr ⟨_, _, rfl⟩)) h⟩)
  · exact .inr h
theorem SameD.seqT {K : PySem.W.Frag} {H H' : Hp} (s : SameD H H') {a : Addr} {xs : List V} (h : SqT K H a xs) : SqT K H' a xs := by
  rcases h with (h | ⟨o, h⟩) | h
  · exact .inl (.inl (s _ _ (.inr (.inl ⟨_, rfl⟩)) h))
  · exact .inl (.inr ⟨o, s _ _ (.inr (.inr ⟨_, _, rfl⟩)) h⟩)
  · exact .inr h
mutual
theorem Dp.laterD {K : PySem.W.Frag} {H H' : Hp} (s : SameD H H') : ∀ {v : V} {d : PyData}, Dp K H v d → Dp K H' v d
  | _, _, .non => .non
  | _, _, .bl b => .bl b
  | _, _, .int i => .int i
  | _, _, .str z => .str z
  | _, _, .lst h t => .lst (s.seqL h) (DpAll.laterD s t)
  | _, _, .tup h t => .tup (s.seqT h) (DpAll.laterD s t)
theorem DpAll.laterD {K : PySem.W.Frag} {H H' : Hp} (s : SameD H H') : ∀ {xs : List V} {ds : List PyData}, DpAll K H xs ds → DpAll K H' xs ds
  | _, _, .nil => .nil
  | _, _, .cons h t => .cons (Dp.laterD s h) (DpAll.laterD s t)
end
theorem Dp.later {K : PySem.W.Frag} {H H' : Hp} (s : Same H H') {v : V} {d : PyData} (h : Dp K H v d) : Dp K H' v d := Dp.laterD (.of s) h
theorem DpAll.later {K : PySem.W.Frag} {H H' : Hp} (s : Same H H') {xs : List V} {ds : List PyData} (h : DpAll K H xs ds) : DpAll K H' xs ds := DpAll.laterD (.of s) h
/-- the built-in class of a piece of data -/
def kindOf : PyData → String
  | .none => "NoneType" | .bool _ => "bool" | .int _ => "int" | .str _ => "str" | .list _ => "list" | .tuple _ => "tuple" | _ => "object"
theorem Dp.kind {K : PySem.W.Frag} {H : Hp} {v : V} {d : PyData} (h : Dp K H v d) : TyX K H v (.type (kindOf d)) := by
  cases h with
  | non => exact .base .non
  | bl b => exact .base (.bl b)
  | int i => exact .base (.int i)
  | str z => exact .base (.str z)
  | lst h _ =>
    rcases h with (h | ⟨o, h⟩) | ⟨o, its, n, h, c, _⟩
    · exact .base (.lst h)
    · exact .base (.frz h)
    · exact .kList h c
  | tup h _ =>
    rcases h with (h | ⟨o, h⟩) | ⟨o, its, n, h, c, _⟩
    · exact .base (.tup h)
    · exact .fTuple h
    · exact .kTuple h c
/-- isinstance(x, T), T a built-in class -/
theorem r_isi {K : PySem.W.Frag} {H : Hp} {Q : VK} {x : V} {a b : String} {r : Bool} (t : TyX K H x (.type a)) (e : kitB a b = some r) (h : Q (.bl r) H) : rIsi K [x, .ty b] H Q := ⟨x, .ty b, _, _, r, rfl, .ty b, t, kit_ty e, h⟩
/-- own_copy(value), for data at most n deep -/
def spCopy (K : PySem.W.Frag) (n : Nat) : Sp := fun vs H Q _ => ∃ (v : V) (d : PyData), vs = [v] ∧ Dp K H v d ∧ Deep n d ∧ ∀ (v' : V) (H' : Hp), Same H H' → Own H H' v' d → Q v' H'
/-- _law_same(a, b) of two values that are the same data -/
def spSame (K : PySem.W.Frag) (n : Nat) : Sp := fun vs H Q _ => ∃ (a b : V) (d : PyData), vs = [a, b] ∧ Dp K H a d ∧ Dp K H b d ∧ Deep n d ∧ Q (.bl true) H
theorem kit_list (d : PyData) : ∃ r, kitB (kindOf d) "list" = some r ∧ (r = true ↔ ∃ ds, d = .list ds) := by
  cases d with
  | none => exact ⟨false, (by decide +kernel : kitB "NoneType" "list" = some false), ⟨(fun z => by cases z), (fun z => by obtain ⟨_, z⟩ := z; cases z)⟩⟩
  | bool b => exact ⟨false, (by decide +kernel : kitB "bool" "list" = some false), ⟨(fun z => by cases z), (fun z => by obtain ⟨_, z⟩ := z; cases z)⟩⟩
  | int i => exact ⟨false, (by decide +kernel : kitB "int" "list" = some false), ⟨(fun z => by cases z), (fun z => by obtain ⟨_, z⟩ := z; cases z)⟩⟩
  | str z => exact ⟨false, (by decide +kernel : kitB "str" "list" = some false), ⟨(fun z => by cases z), (fun z => by obtain ⟨_, z⟩ := z; cases z)⟩⟩
  | list ds => exact ⟨true, (by decide +kernel : kitB "list" "list" = some true), ⟨fun _ => ⟨ds, rfl⟩, fun _ => rfl⟩⟩
  | tuple ds => exact ⟨false, (by decide +kernel : kitB "tuple" "list" = some false), ⟨(fun z => by cases z), (fun z => by obtain ⟨_, z⟩ := z; cases z)⟩⟩
  | dict kv => exact ⟨false, (by decide +kernel : kitB "object" "list" = some false), ⟨(fun z => by cases z), (fun z => by obtain ⟨_, z⟩ := z; cases z)⟩⟩
theorem kit_tuple (d : PyData) : ∃ r, kitB (kindOf d) "tuple" = some r ∧ (r = true ↔ ∃ ds, d = .tuple ds) := by
  cases d with
  | none => exact ⟨false, (by decide +kernel : kitB "NoneType" "tuple" = some false), ⟨(fun z => by cases z), (fun z => by obtain ⟨_, z⟩ := z; cases z)⟩⟩
  | bool b => exact ⟨false, (by decide +kernel : kitB "bool" "tuple" = some false), ⟨(fun z => by cases z), (fun z => by obtain ⟨_, z⟩ := z; cases z)⟩⟩
  | int i => exact ⟨false, (by decide +kernel : kitB "int" "tuple" = some false), ⟨(fun z => by cases z), (fun z => by obtain ⟨_, z⟩ := z; cases z)⟩⟩
  | str z => exact ⟨false, (by decide +kernel : kitB "str" "tuple" = some false), ⟨(fun z => by cases z), (fun z => by obtain ⟨_, z⟩ := z; cases z)⟩⟩
  | list ds => exact ⟨false, (by decide +kernel : kitB "list" "tuple" = some false), ⟨(fun z => by cases z), (fun z => by obtain ⟨_, z⟩ := z; cases z)⟩⟩
  | tuple ds => exact ⟨true, (by decide +kernel : kitB "tuple" "tuple" = some true), ⟨fun _ => ⟨ds, rfl⟩, fun _ => rfl⟩⟩
  | dict kv => exact ⟨false, (by decide +kernel : kitB "object" "tuple" = some false), ⟨(fun z => by cases z), (fun z => by obtain ⟨_, z⟩ := z; cases z)⟩⟩
theorem kit_dict {n : Nat} {d : PyData} (h : Deep n d) : kitB (kindOf d) "dict" = some false := by
  cases h with
  | non => exact (by decide +kernel : kitB "NoneType" "dict" = some false)
  | bl b => exact (by decide +kernel : kitB "bool" "dict" = some false)
  | int i => exact (by decide +kernel : kitB "int" "dict" = some false)
  | str z => exact (by decide +kernel : kitB "str" "dict" = some false)
  | lst h z => exact (by decide +kernel : kitB "list" "dict" = some false)
  | tup h z => exact (by decide +kernel : kitB "tuple" "dict" = some false)
end Pk
set_option Elab.async false
set_option linter.all false
set_option maxRecDepth 100000
set_option maxHeartbeats 1000000
namespace Pk
open PySem L2 PySem.Spec PyProof.Rows
/-- the __init__ at fI keeps sp, its first argument an error that is being made -/
structure ErrOk (P : Program) (w : World) (K : PySem.W.Frag) (mg : Str → Option Value) (base : Heap) (k : Nat) (C fI : Addr) (sp : Sp) : Prop where
  run : ∀ (A : Around) (outer : List Env) (s : Shared) (H : Hp) (us : List Value) (vs : List V) (x : Addr) (Q : VK), Room k A → Env0 P w K mg base A outer s H → Vals (.ref x :: vs) us → H x = some (exo x C none) → sp (.ref x :: vs) H Q (fun _ _ _ => False) →
    codeAny (model P w) A (.call (.ref fI) ⟨us, []⟩) (CR CX0 outer P w H s Q (fun _ _ _ => False)) s
/-- C(e, ..) -/
def tMkErr (C : Addr) (sp : Sp) (ta : TA) : L2.St → Hp → XK → Prop := fun σ H Q => ta σ H fun vs H1 => vs.length ≤ 1000 ∧ ∀ x, H1 x = none →
  sp (.ref x :: vs) (upd H1 x (exo x C none)) (fun v H2 => v = .non ∧ ∃ (d : Addr) (fs : List (Str × V)), H2 x = some (exo x C (some d)) ∧ H2 d = some (exd d fs) ∧ H1 d = none ∧ Q (.ref C) (some d) (upd (del H2 x) d (.xd fs))) (fun _ _ _ => False)
theorem pmk_err {X : Cx} {x : Str} {C fI : Addr} {k : Nat} {sp : Sp} {p pos : Pos} {e : Expr} {es : List Expr} {ta : TA} (T : ErrC X.K C) (iC : PySem.W.findIn X.K (.ref C) "__init__" = some (some (.ref fI))) (tI : PySem.W.typeIn X.K (.ref fI) = some (.type "function"))
    (G : ErrOk X.prog X.w X.K X.mg X.base k C fI sp) (hr : Room (k + 1) X.A) (hg : Gl X x) (hm : X.mg x = some (.ref C)) (ha : PA X (e :: es) ta)
    (hdb : (x == ("__debug__" : Str)) = false := by decide) (he : starEach (e :: es) X.env = (false, eval e X.env) :: starEach es X.env := by rfl) (hpl : (backTo pos (starEach es X.env)).any (·.1) = false := by rfl) : PMk X (.Call (.Name x p) (e :: es) [] pos) (tMkErr C sp ta) := by
  intro pins s σ H Q I h
  obtain ⟨pe, nm, q, N, bs, sn, sub, ab, col, dd, k0, k1, k2, k3, k5, hC⟩ := T.cls
  refine wpAny_Call_Name_kw (ld_glob I hg hm (PySem.W.callWith_K (h₀ := X.base) I.ok.mod.kin T.kp (thn (ha.run pos pins s σ H _ I h) fun us s1 ⟨vs, H1, I1, r1, hz, q1⟩ => ⟨I1.kIn, ?_⟩) he hpl) hdb)
  show wpAny _ _ (call (.ref C) us) _ _ _
  obtain ⟨hp, g, dr, tk, os⟩ := s1
  have up := Nat.le_succ hp.objs.size
  have hq := q1 (hp.objs.size + 1) (I1.hok.fresh up)
  have kk : ∀ b o, hp.get? b = some o → ((hp.push (PySem.W.kdv_tup us)).push (PySem.HandSPX.excO C hp.objs.size)).get? b = some o := fun b o z => Heap.get?_push_of_some _ (Heap.get?_push_of_some _ z)
  have made : ((hp.push (PySem.W.kdv_tup us)).push (PySem.HandSPX.excO C hp.objs.size)).get? (hp.objs.size + 1) = some (PySem.HandSPX.excO C hp.objs.size) := by heap_get
  have I2 := I1.laid (t' := tk) (a := hp.objs.size + 1) (o := exo (hp.objs.size + 1) C none) kk up (exo_ok made)
  have short : us.length ≤ sizeLine := by
    rw [← Paired.length r1, sizeLine_eq]; omega
  refine wpAny_call (PySem.HandSPX.call_own PySem.F.excBase_ArithmeticError arT_same (I1.kIn _ _ hC) (PySem.W.looks_findIn I1.kIn iC) (fun z => PySem.W.bind_fn I1.kIn z tI) short
    (codeAny_mono (G.run _ X.stack _ _ (Value.ref (hp.objs.size + 1) :: us) vs (hp.objs.size + 1) _ (hr.make C us []) (I2.env0.make C us []) (.cons rfl r1) upd_same hq) fun r st z => ?_))
  cases r with
  | error er => exact (show False from z).elim
  | ok fl =>
    cases fl with
    | ret u =>
      obtain ⟨v, H2, os2, bare2, un2, hok2, rv, ev, d, fs, ea, ed, hd1, q2⟩ := z
      subst ev
      obtain ⟨h2, g2, d2, t2, os'⟩ := st
      exact ⟨rv, mk_end (raises_own T.exB T.ty) I1 up kk un2 hok2 os2 bare2 ea ed hd1 q2⟩
    | next => exact False.elim z
    | brk => exact False.elim z
    | cont => exact False.elim z

theorem r_errSet {K : PySem.W.Frag} {f : Str} {to te : TE} {D : Ends} {σ : L2.St} {H : Hp} (h : te σ H fun y H1 => to σ H1 fun x H2 => ∃ a C : Addr, x = .ref a ∧ ErrC K C ∧ PySem.W.findIn K (.ref C) f = some none ∧
  ((H2 a = some (exo a C none) ∧ ∀ dx, H2 dx = none → dx ≠ a → D.nx σ (upd (upd H2 dx (exd dx [(f, y)])) a (exo a C (some dx)))) ∨
   (∃ (dx : Addr) (fs : List (Str × V)), H2 a = some (exo a C (some dx)) ∧ H2 dx = some (exd dx fs) ∧ fs.length ≤ 900 ∧ D.nx σ (upd H2 dx (exd dx ((f, y) :: fs)))))) : tErrSet K f to te D σ H := h
/-- an __init__ of one field, a copy of what it is passed -/
def spErr1 (K : PySem.W.Frag) (n : Nat) (C : Addr) (f : Str) : Sp := fun vs H Q _ => ∃ (x : Addr) (v : V) (d : PyData), vs = [.ref x, v] ∧ H x = some (exo x C none) ∧ Dp K H v d ∧ Deep n d ∧
  ∀ (dx : Addr) (v' : V) (H' : Hp), H' x = some (exo x C (some dx)) → H' dx = some (exd dx [(f, v')]) → H dx = none → dx ≠ x → Keep x H H' → Own H H' v' d → Q .non H'
/-- .. of two fields, in this sequence -/
def spErr2 (K : PySem.W.Frag) (n : Nat) (C : Addr) (f g : Str) : Sp := fun vs H Q _ => ∃ (x : Addr) (v u : V) (d e : PyData), vs = [.ref x, v, u] ∧ H x = some (exo x C none) ∧ Dp K H v d ∧ Deep n d ∧ Dp K H u e ∧ Deep n e ∧
  ∀ (dx : Addr) (v' u' : V) (H' : Hp), H' x = some (exo x C (some dx)) → H' dx = some (exd dx [(g, u'), (f, v')]) → H dx = none → dx ≠ x → Keep x H H' → Own H H' v' d → Own H H' u' e → Q .non H'
theorem exd_lt {dx : Addr} {fs : List (Str × V)} {u : HO} (h : ∃ xs, u = .lst xs ∨ u = .tup xs) : exd dx fs ≠ u := fun z => by
  obtain ⟨xs, e | e⟩ := h
  · rw [e] at z; cases (show HO.ext _ = HO.lst xs from z)
  · rw [e] at z; cases (show HO.ext _ = HO.tup xs from z)
/-- what is new stays so when the error, which is known, and its new dict are written -/
theorem Own.stored {H H1 : Hp} {v : V} {d : PyData} {x dx : Addr} {o u : HO} (w : Own H H1 v d) (hx : H x ≠ none) (hd : H1 dx = none) : Own H (upd (upd H1 dx o) x u) v d :=
  w.mono (fun _ n _ => n) fun a z n q _ => by
    have na : a ≠ x := fun e => hx (e ▸ n)
    rw [upd_ne na, upd_ne (ne_of_none q hd)]
    exact q
section
variable {P : Program} {w : World} {K : PySem.W.Frag} {mg : Str → Option Value} {base : Heap} {C fI cc fc : Addr} {fdc : FuncData} {F : NdefX.NF} {n : Nat} {f g : Str}
theorem err_one {msg : Str} {kd : Nat} {p0 p1 p2 p3 p4 p5 q0 q1 q2 q3 q4 q5 : Pos} (T : ErrC K C) (J : InitFn P K C fI cc F) (ms : mg "super" = none) (G : FnOk P w K mg base CX0 (n + 1) fc fdc ["value"] (spCopy K n)) (mc : mg "own_copy" = some (.ref fc)) (kc : PySem.W.keepIn K (.ref fc) = true)
    (bc : Binds K fdc ["value"] []) (S : NdefX.NScope ["self", f, "__class__"] ["self", f] ["__class__"] F.scope)
    (hB : F.body = .Expr (.Call (.Attribute (.Call (.Name "super" p0) [] [] p1) "__init__" p2) [.Constant (.str msg) kd p3] [] p4) p5 :: [.Assign [.Attribute (.Name "self" q0) f q1] (.Call (.Name "own_copy" q2) [.Name f q3] [] q4) q5])
    (hsg : F.scope.names.lookup ("super" : Str) = some .globalImplicit) (hog : F.scope.names.lookup ("own_copy" : Str) = some .globalImplicit) (free : PySem.W.findIn K (.ref C) f = some none)
    (hb : ∀ (kV doc pm ct : Value) (an : Option Addr) (us : List Value), us.length = 2 → bindArgs (PySem.W.fnX F.name F.qual F.params F.body F.scope F.cl .none kV doc pm an (.ref F.c) ct) ⟨us, []⟩ = pure ((["self", f] : List Str).zip us))
    {pl : Sem Bool} (he : ∀ env : Env, eval (.Call (.Attribute (.Call (.Name "super" p0) [] [] p1) "__init__" p2) [.Constant (.str msg) kd p3] [] p4) env = (do
      let ov ← attributeBase (.Call (.Name "super" p0) [] [] p1) "__init__" env (eval (.Call (.Name "super" p0) [] [] p1) env)
      standAt p2.atName
      let (f, first) ← holding [ov] (getMethod ov "__init__" pl)
      callWith p4 f first (backTo p4 (starEach [.Constant (.str msg) kd p3] env)) []))
    (fd : (f == ("__debug__" : Str)) = false) (fcd : (f == ("__classdict__" : Str)) = false) : ErrOk P w K mg base (n + 2) C fI (spErr1 K n C f) := by
  refine ⟨fun A outer s H us vs x Q hr e0 r ex hsp => ?_⟩
  obtain ⟨x', v, d, evs, _, hv, hd, k⟩ := hsp
  obtain ⟨rfl, rfl⟩ : x = x' ∧ vs = [v] := by
    have z := List.cons.inj evs
    exact ⟨V.ref.inj z.1, z.2⟩
  have lu : us.length = 2 := by rw [← r.length]; rfl
  refine init_run (k := n + 1) (rest := [.Assign [.Attribute (.Name "self" q0) f q1] (.Call (.Name "own_copy" q2) [.Name f q3] [] q4) q5]) (x := x) T J ms S hB hsg (S.par _ (by simp)) hr e0 (fun kV doc pm ct an => BindsTo.of_eq (hb kV doc pm ct an us lu)) r rfl rfl rfl ex he fun hr' => ?_
  refine ⟨_, pss_one (ps_errSet (pe_var (i := 0) rfl (.inl (S.par _ (by simp)))) (pe_call G hr' hog mc kc bc .nil pass0 (pa_cons (pe_var (i := 1) rfl (.inl (S.par _ (by simp))) fd fcd) pa_nil)) ?sw), ?_⟩
  case sw => rfl
  refine r_errSet ?_
  refine r_call ?_
  refine r_cons ?_
  refine r_var rfl ?_
  refine r_nil ?_
  refine ⟨v, d, rfl, hv, hd, fun v' H1 s1 o1 => ?_⟩
  refine r_var rfl ?_
  refine ⟨x, C, rfl, T, free, .inl ⟨s1 _ _ ex, fun dx hdx ne => ?_⟩⟩
  refine k dx v' _ upd_same (by rw [upd_ne ne, upd_same]) (s1.free hdx) ne (Keep.own (Keep.new (Keep.same s1) hdx)) (o1.stored (by rw [ex]; exact Option.some_ne_none _) hdx)

theorem exo_lt {x : Addr} {C : Addr} {d : Option Addr} {u : HO} (h : IsLT u) : exo x C d ≠ u := fun z => by
  rcases h with ⟨_, e⟩ | ⟨_, e⟩ | ⟨_, _, e⟩
  · rw [e] at z; exact exo_lt' z
  · exact exo_tup (z.trans e)
  · exact exo_frz (z.trans e)
where exo_lt' {x C : Addr} {d : Option Addr} {xs : List V} (z : exo x C d = .lst xs) : False := by cases (show HO.ext _ = HO.lst xs from z)
/-- behind the stores into the error at x lists and tuples are as they were -/
theorem sameD_err {H : Hp} {x C dx : Addr} {d : Option Addr} {o u : HO} (hx : H x = some (exo x C d)) (hd : H dx = none) : SameD H (upd (upd H dx o) x u) := fun a z l h => by
  rw [upd_ne (at_ne hx h (exo_lt l)), upd_ne (ne_of_none h hd)]
  exact h
theorem err_two {msg : Str} {kd : Nat} {p0 p1 p2 p3 p4 p5 q0 q1 q2 q3 q4 q5 z0 z1 z2 z3 z4 z5 : Pos} (T : ErrC K C) (J : InitFn P K C fI cc F) (ms : mg "super" = none) (G : FnOk P w K mg base CX0 (n + 1) fc fdc ["value"] (spCopy K n)) (mc : mg "own_copy" = some (.ref fc)) (kc : PySem.W.keepIn K (.ref fc) = true)
    (bc : Binds K fdc ["value"] []) (S : NdefX.NScope ["self", f, g, "__class__"] ["self", f, g] ["__class__"] F.scope)
    (hB : F.body = .Expr (.Call (.Attribute (.Call (.Name "super" p0) [] [] p1) "__init__" p2) [.Constant (.str msg) kd p3] [] p4) p5 ::
      [.Assign [.Attribute (.Name "self" q0) f q1] (.Call (.Name "own_copy" q2) [.Name f q3] [] q4) q5, .Assign [.Attribute (.Name "self" z0) g z1] (.Call (.Name "own_copy" z2) [.Name g z3] [] z4) z5])
    (hsg : F.scope.names.lookup ("super" : Str) = some .globalImplicit) (hog : F.scope.names.lookup ("own_copy" : Str) = some .globalImplicit) (free : PySem.W.findIn K (.ref C) f = some none) (freeg : PySem.W.findIn K (.ref C) g = some none)
    (hb : ∀ (kV doc pm ct : Value) (an : Option Addr) (us : List Value), us.length = 3 → bindArgs (PySem.W.fnX F.name F.qual F.params F.body F.scope F.cl .none kV doc pm an (.ref F.c) ct) ⟨us, []⟩ = pure ((["self", f, g] : List Str).zip us))
    {pl : Sem Bool} (he : ∀ env : Env, eval (.Call (.Attribute (.Call (.Name "super" p0) [] [] p1) "__init__" p2) [.Constant (.str msg) kd p3] [] p4) env = (do
      let ov ← attributeBase (.Call (.Name "super" p0) [] [] p1) "__init__" env (eval (.Call (.Name "super" p0) [] [] p1) env)
      standAt p2.atName
      let (f, first) ← holding [ov] (getMethod ov "__init__" pl)
      callWith p4 f first (backTo p4 (starEach [.Constant (.str msg) kd p3] env)) []))
    (fd : (f == ("__debug__" : Str)) = false) (fcd : (f == ("__classdict__" : Str)) = false) (gd : (g == ("__debug__" : Str)) = false) (gcd : (g == ("__classdict__" : Str)) = false) : ErrOk P w K mg base (n + 2) C fI (spErr2 K n C f g) := by
  refine ⟨fun A outer s H us vs x Q hr e0 r ex hsp => ?_⟩
  obtain ⟨x', v, u, d, e, evs, _, hv, hd, hu, hde, k⟩ := hsp
  obtain ⟨rfl, rfl⟩ : x = x' ∧ vs = [v, u] := by
    have z := List.cons.inj evs
    exact ⟨V.ref.inj z.1, z.2⟩
  have lu : us.length = 3 := by rw [← r.length]; rfl
  refine init_run (k := n + 1) (rest := [.Assign [.Attribute (.Name "self" q0) f q1] (.Call (.Name "own_copy" q2) [.Name f q3] [] q4) q5, .Assign [.Attribute (.Name "self" z0) g z1] (.Call (.Name "own_copy" z2) [.Name g z3] [] z4) z5]) (x := x) T J ms S hB hsg (S.par _ (by simp)) hr e0
    (fun kV doc pm ct an => BindsTo.of_eq (hb kV doc pm ct an us lu)) r rfl rfl rfl ex he fun hr' => ?_
  refine ⟨_, pss_cons (ps_errSet (pe_var (i := 0) rfl (.inl (S.par _ (by simp)))) (pe_call G hr' hog mc kc bc .nil pass0 (pa_cons (pe_var (i := 1) rfl (.inl (S.par _ (by simp))) fd fcd) pa_nil)) ?sw)
    (pss_one (ps_errSet (pe_var (i := 0) rfl (.inl (S.par _ (by simp)))) (pe_call G hr' hog mc kc bc .nil pass0 (pa_cons (pe_var (i := 2) rfl (.inl (S.par _ (by simp))) gd gcd) pa_nil)) ?sv)), ?_⟩
  case sw => rfl
  case sv => rfl
  refine r_seq ?_
  refine r_errSet ?_
  refine r_call ?_
  refine r_cons ?_
  refine r_var rfl ?_
  refine r_nil ?_
  refine ⟨v, d, rfl, hv, hd, fun v' H1 s1 o1 => ?_⟩
  refine r_var rfl ?_
  refine ⟨x, C, rfl, T, free, .inl ⟨s1 _ _ ex, fun dx hdx ne => ?_⟩⟩
  have o2 := o1.stored (o := exd dx [(f, v')]) (u := exo x C (some dx)) (by rw [ex]; exact Option.some_ne_none _) hdx
  have sd : SameD H (upd (upd H1 dx (exd dx [(f, v')])) x (exo x C (some dx))) := (SameD.of s1).trans (sameD_err (s1 _ _ ex) hdx)
  show tErrSet K g (tVar 0) (tCall (spCopy K n) [] E0 (tCons (tVar 2) tNil)) { nx := fun _ H2 => Q .non H2, rt := Q } _ _
  refine r_errSet ?_
  refine r_call ?_
  refine r_cons ?_
  refine r_var rfl ?_
  refine r_nil ?_
  refine ⟨u, e, rfl, Dp.laterD sd hu, hde, fun u' H2 s2 o3 => ?_⟩
  refine r_var rfl ?_
  have ed2 : H2 dx = some (exd dx [(f, v')]) := s2 _ _ (by rw [upd_ne ne, upd_same])
  refine ⟨x, C, rfl, T, freeg, .inr ⟨dx, [(f, v')], s2 _ _ upd_same, ed2, by show 1 ≤ 900; decide, ?_⟩⟩
  have hdx0 : H dx = none := s1.free hdx
  have kp : Keep x H H2 := (Keep.own (Keep.new (Keep.same s1) hdx)).trans (Keep.same s2)
  have ndx : ∀ {a : Addr} {z : HO}, (∃ xs, z = .lst xs ∨ z = .tup xs) → H2 a = some z → a ≠ dx := fun {a z} l h => at_ne ed2 h (exd_lt l)
  refine k dx v' u' _ (by rw [upd_ne (Ne.symm ne)]; exact s2 _ _ upd_same) upd_same hdx0 ne (fun b o nb hbo => ?_) ((o2.later s2).mono (fun _ n _ => n) fun a z n q l => by rw [upd_ne (ndx l q)]; exact q) ?_
  · rw [upd_ne (ne_of_none hbo hdx0)]
    exact kp b o nb hbo
  · refine o3.mono (fun a n _ => ?_) fun a z n q l => by rw [upd_ne (ndx l q)]; exact q
    have na : a ≠ x := fun z => by rw [z, upd_same] at n; cases n
    have nd : a ≠ dx := fun z => by rw [z, upd_ne ne, upd_same] at n; cases n
    rw [upd_ne na, upd_ne nd] at n
    exact s1.free n
/-- C(e) in the raiser's heap: a new dict with a copy -/
theorem r_err1 {σ : L2.St} {H : Hp} {Q : XK} {v : V} {d : PyData} (hv : Dp K H v d) (hd : Deep n d) (q : ∀ (dd : Addr) (v' : V) (H' : Hp), Same H H' → H dd = none → H' dd = some (.xd [(f, v')]) → Own H H' v' d → Q (.ref C) (some dd) H') :
    [v].length ≤ 1000 ∧ ∀ x, H x = none → spErr1 K n C f (.ref x :: [v]) (upd H x (exo x C none)) (fun v H2 => v = .non ∧ ∃ (d : Addr) (fs : List (Str × V)), H2 x = some (exo x C (some d)) ∧ H2 d = some (exd d fs) ∧ H d = none ∧ Q (.ref C) (some d) (upd (del H2 x) d (.xd fs))) (fun _ _ _ => False) := by
  refine ⟨by show 1 ≤ 1000; decide, fun x hx => ?_⟩
  have s0 : Same H (upd H x (exo x C none)) := Same.up (Same.refl H) hx
  refine ⟨x, v, d, rfl, upd_same, Dp.later s0 hv, hd, fun dx v' H' h1 h2 h3 ne h4 h5 => ⟨rfl, dx, _, h1, h2, ?_, ?_⟩⟩
  · rw [upd_ne ne] at h3; exact h3
  · rw [upd_ne ne] at h3
    refine q dx v' _ (fun b o e => ?_) h3 upd_same (h5.mono (fun a n _ => s0.free n) fun a z n e l => ?_)
    · have nb : b ≠ x := ne_of_none e hx
      rw [upd_ne (ne_of_none e h3), del_ne nb]
      exact h4 b o nb (s0 b o e)
    · have na : a ≠ x := fun z => by rw [z, upd_same] at n; cases n
      rw [upd_ne (at_ne h2 e (exd_lt l)), del_ne na]
      exact e
theorem r_err2 {σ : L2.St} {H : Hp} {Q : XK} {v u : V} {d e : PyData} (hv : Dp K H v d) (hd : Deep n d) (hu : Dp K H u e) (he : Deep n e)
    (q : ∀ (dd : Addr) (v' u' : V) (H' : Hp), Same H H' → H dd = none → H' dd = some (.xd [(g, u'), (f, v')]) → Own H H' v' d → Own H H' u' e → Q (.ref C) (some dd) H') :
    [v, u].length ≤ 1000 ∧ ∀ x, H x = none → spErr2 K n C f g (.ref x :: [v, u]) (upd H x (exo x C none)) (fun v H2 => v = .non ∧ ∃ (d : Addr) (fs : List (Str × V)), H2 x = some (exo x C (some d)) ∧ H2 d = some (exd d fs) ∧ H d = none ∧ Q (.ref C) (some d) (upd (del H2 x) d (.xd fs))) (fun _ _ _ => False) := by
  refine ⟨by show 2 ≤ 1000; decide, fun x hx => ?_⟩
  have s0 : Same H (upd H x (exo x C none)) := Same.up (Same.refl H) hx
  refine ⟨x, v, u, d, e, rfl, upd_same, Dp.later s0 hv, hd, Dp.later s0 hu, he, fun dx v' u' H' h1 h2 h3 ne h4 h5 h6 => ⟨rfl, dx, _, h1, h2, ?_, ?_⟩⟩
  · rw [upd_ne ne] at h3; exact h3
  · rw [upd_ne ne] at h3
    have keep : ∀ a z, upd H x (exo x C none) a = none → H' a = some z → (∃ xs, z = .lst xs ∨ z = .tup xs) → upd (del H' x) dx (.xd [(g, u'), (f, v')]) a = some z := fun a z n e l => by
      have na : a ≠ x := fun z => by rw [z, upd_same] at n; cases n
      rw [upd_ne (at_ne h2 e (exd_lt l)), del_ne na]
      exact e
    refine q dx v' u' _ (fun b o e => ?_) h3 upd_same (h5.mono (fun a n _ => s0.free n) keep) (h6.mono (fun a n _ => s0.free n) keep)
    have nb : b ≠ x := ne_of_none e hx
    rw [upd_ne (ne_of_none e h3), del_ne nb]
    exact h4 b o nb (s0 b o e)
end
end Pk
set_option Elab.async false
set_option linter.all false
set_option maxRecDepth 100000
set_option maxHeartbeats 1000000
namespace Pk
open PySem L2 PySem.Spec PyProof.Rows
/-- a def x of the text, at f, with its promise -/
structure Df1 (P : Program) (w : World) (K : PySem.W.Frag) (mg : Str → Option Value) (base : Heap) (CX : CXT) (x : Str) (k : Nat) (ps : List Str) (sp : Sp) (f : Addr) (fd : FuncData) : Prop where
  at_ : mg x = some (.ref f)
  kp : PySem.W.keepIn K (.ref f) = true
  bd : Binds K fd ps []
  ok : FnOk P w K mg base CX k f fd ps sp
/-- an error class x of the text, at C, with the promise of its __init__ -/
structure De1 (P : Program) (w : World) (K : PySem.W.Frag) (mg : Str → Option Value) (base : Heap) (x : Str) (k : Nat) (sp : Sp) (C fI : Addr) : Prop where
  at_ : mg x = some (.ref C)
  cls : ErrC K C
  ini : PySem.W.findIn K (.ref C) "__init__" = some (some (.ref fI))
  fn : PySem.W.typeIn K (.ref fI) = some (.type "function")
  ok : ErrOk P w K mg base k C fI sp
  xf : XfC K C
  xm : PySem.W.exmOne K (.ref C) (.ref C) = some true
abbrev Df (P : Program) (w : World) (K : PySem.W.Frag) (mg : Str → Option Value) (base : Heap) (CX : CXT) (x : Str) (k : Nat) (ps : List Str) (sp : Sp) : Prop := ∃ f fd, Df1 P w K mg base CX x k ps sp f fd
abbrev De (P : Program) (w : World) (K : PySem.W.Frag) (mg : Str → Option Value) (base : Heap) (x : Str) (k : Nat) (sp : Sp) (C : Addr) : Prop := ∃ fI, De1 P w K mg base x k sp C fI
section
variable {X : Cx} {CX : CXT} {x : Str} {k j : Nat} {ps : List Str} {sp : Sp} {e : Expr} {es : List Expr} {t : TA} {p pos : Pos} {W : WX} {C : Addr}
/-- a call of what raises nothing -/
theorem pe_df (D : Df X.prog X.w X.K X.mg X.base CX0 x k ps sp) (hr : Room j X.A) (l : k ≤ j) (ha : PA X (e :: es) t) (hg : Gl X x := by rfl) (hdb : (x == ("__debug__" : Str)) = false := by decide)
    (he : starEach (e :: es) X.env = (false, eval e X.env) :: starEach es X.env := by rfl) (hpl : (backTo pos (starEach es X.env)).any (·.1) = false := by rfl) : PE X (.Call (.Name x p) (e :: es) [] pos) (tCall sp [] E0 t) :=
  let ⟨_, _, D⟩ := D; pe_call D.ok (hr.mono l) hg D.at_ D.kp D.bd .nil pass0 ha hdb he hpl
/-- .. of what may raise, and does not here -/
theorem pe_dfL (D : Df X.prog X.w X.K X.mg X.base (L2.CX X.prog X.w) x k ps sp) (hr : Room j X.A) (l : k ≤ j) (ha : PA X (e :: es) t) (hg : Gl X x := by rfl) (hdb : (x == ("__debug__" : Str)) = false := by decide)
    (he : starEach (e :: es) X.env = (false, eval e X.env) :: starEach es X.env := by rfl) (hpl : (backTo pos (starEach es X.env)).any (·.1) = false := by rfl) : PE X (.Call (.Name x p) (e :: es) [] pos) (tCall sp [] E0 t) :=
  let ⟨_, _, D⟩ := D; pe_call D.ok (hr.mono l) hg D.at_ D.kp D.bd .nil passL ha hdb he hpl
/-- .. where what is raised is taken: within a try, or by a def that lets it out -/
theorem pe_dfS (tk : Takes X W) (D : Df X.prog X.w X.K X.mg X.base (L2.CX X.prog X.w) x k ps sp) (hr : Room j X.A) (l : k ≤ j) (ha : PA X (e :: es) t) (hg : Gl X x := by rfl) (hdb : (x == ("__debug__" : Str)) = false := by decide)
    (he : starEach (e :: es) X.env = (false, eval e X.env) :: starEach es X.env := by rfl) (hpl : (backTo pos (starEach es X.env)).any (·.1) = false := by rfl) : PE X (.Call (.Name x p) (e :: es) [] pos) (tCallS sp (WE W) t) :=
  let ⟨_, _, D⟩ := D; pe_callS D.ok (hr.mono l) hg D.at_ D.kp D.bd (fun σ => passAt tk σ) ha hdb he hpl
/-- raise x(e, ..) -/
theorem ps_rse {spos : Pos} (hc : X.calm = true) (tk : Takes X W) (D : De X.prog X.w X.K X.mg X.base x k sp C) (hr : Room j X.A) (l : k + 1 ≤ j) (ha : PA X (e :: es) t) (hg : Gl X x := by rfl) (hdb : (x == ("__debug__" : Str)) = false := by decide)
    (he : starEach (e :: es) X.env = (false, eval e X.env) :: starEach es X.env := by rfl) (hpl : (backTo pos (starEach es X.env)).any (·.1) = false := by rfl) :
    PS X (.Raise (some (.Call (.Name x p) (e :: es) [] pos)) none spos) (fun _ σ H => tMkErr C sp t σ H fun cls d H' => W cls d σ H') := let ⟨_, D⟩ := D; ps_raise hc tk (pmk_err D.cls D.ini D.fn D.ok (hr.mono l) hg D.at_ ha hdb he hpl)
end
section
variable {σ : L2.St} {H : Hp} {Q : VK} {ta tk : TA} {sp : Sp} {E : L2.St → XK} {D : Ends}
theorem r_callS (h : ta σ H fun vs H1 => sp vs H1 Q (E σ)) : tCallS sp E ta σ H Q := h
theorem r_callN {n m : Nat} {gV : List V → List V → List V} {E : XK} (h : ta σ H fun vs H1 => tk σ H1 fun zs H2 => vs.length = n ∧ zs.length = m ∧ sp (gV vs zs) H2 Q E) : tCallN n m sp gV E ta tk σ H Q := h
theorem r_mkErr {C : Addr} {R : XK} (h : ta σ H fun vs H1 => vs.length ≤ 1000 ∧ ∀ x, H1 x = none →
  sp (.ref x :: vs) (upd H1 x (exo x C none)) (fun v H2 => v = .non ∧ ∃ (d : Addr) (fs : List (Str × V)), H2 x = some (exo x C (some d)) ∧ H2 d = some (exd d fs) ∧ H1 d = none ∧ R (.ref C) (some d) (upd (del H2 x) d (.xd fs))) (fun _ _ _ => False)) : tMkErr C sp ta σ H R := h
theorem r_xf {a : Addr} {C dd : Addr} {f : Str} {te : TE} {fs : List (Str × V)} {v : V} (h : te σ H fun x H1 => x = .ref a ∧ Value.ref C = .ref C ∧ ∃ (d2 : Addr) (fs : List (Str × V)) (v : V), some dd = some d2 ∧ H1 d2 = some (.xd fs) ∧ fs.lookup f = some v ∧ Q v H1) : tXf a (.ref C) (some dd) C f te σ H Q := h
end
/-- f(e, .., k = v, ..) where what is raised is wished for at the caller's slots -/
def tKwS (n m : Nat) (sp : Sp) (gV : List V → List V → List V) (E : L2.St → XK) (t tk : TA) : TE := fun σ H Q => t σ H fun vs H1 => tk σ H1 fun zs H2 => vs.length = n ∧ zs.length = m ∧ sp (gV vs zs) H2 Q (E σ)
theorem r_kwS {σ : L2.St} {H : Hp} {Q : VK} {ta tk : TA} {sp : Sp} {n m : Nat} {gV : List V → List V → List V} {E : L2.St → XK} (h : ta σ H fun vs H1 => tk σ H1 fun zs H2 => vs.length = n ∧ zs.length = m ∧ sp (gV vs zs) H2 Q (E σ)) : tKwS n m sp gV E ta tk σ H Q := h
theorem pe_kwS {X : Cx} {CX : CXT} {k n : Nat} {f : Addr} {fd : FuncData} {ps ks : List Str} {sp : Sp} {E : L2.St → XK} {x : Str} {p pos : Pos} {e : Expr} {es : List Expr} {kws : List Keyword} {t tk : TA} {g : List Value → List Value → List Value} {gV : List V → List V → List V}
    (F : FnOk X.prog X.w X.K X.mg X.base CX k f fd ps sp) (hr : Room k X.A) (hm : X.mg x = some (.ref f)) (hk : PySem.W.keepIn X.K (.ref f) = true) (hb : KBn X.K fd ps n ks g gV) (hx : ∀ σ, PassesAt CX X σ (E σ)) (ha : PA X (e :: es) t) (hkw : PK X kws tk) (hg : Gl X x := by rfl)
    (hall : (backToKw pos (keywordEach kws X.env)).all (·.1.isSome) = true := by rfl) (hks : (backToKw pos (keywordEach kws X.env)).filterMap (·.1) = ks := by rfl) (hdb : (x == ("__debug__" : Str)) = false := by decide)
    (he : starEach (e :: es) X.env = (false, eval e X.env) :: starEach es X.env := by rfl) (hpl : ((backTo pos (starEach (e :: es) X.env)).any (·.1) || (backToKw pos (keywordEach kws X.env)).any (·.1.isNone)) = false := by rfl) :
    PE X (.Call (.Name x p) (e :: es) kws pos) (tKwS n ks.length sp gV E t tk) := by
  refine ⟨fun pins s σ H Q I h => wpAny_Call_Name_kw (ld_glob I hg hm (PySem.W.callWith_KW (h₀ := X.base) I.ok.mod.kin hk hall (thn (ha.run pos pins s σ H _ I h) fun us s1 ⟨vs, H1, I1, r, q⟩ => thn (hkw.run pos pins s1 σ H1 _ I1 q) fun ws s2 ⟨zs, H2, I2, rz, l1, l2, q2⟩ => ⟨I2.kIn, ?_⟩) hpl he) hdb)⟩
  rw [hks]
  refine wpAny_call (codeAny_mono (F.run X.A X.stack s2 H2 ⟨us, ks.zip ws⟩ (g us ws) (gV vs zs) Q (E σ) hr I2.env0 (hb.to s2 us ws I2.kIn (r.length.symm.trans l1) (rz.length.symm.trans l2)) (hb.rel r rz) q2) fun r s' hq => ?_)
  cases r with
  | error er => exact hx σ pins H2 s2 er s' I2 hq
  | ok fl =>
    cases fl with
    | ret u => exact I2.after hq
    | next => exact False.elim hq
    | brk => exact False.elim hq
    | cont => exact False.elim hq
/-- an own class x of the text, made by its __init__ -/
structure Dk1 (P : Program) (w : World) (K : PySem.W.Frag) (mg : Str → Option Value) (base : Heap) (CX : CXT) (x : Str) (k : Nat) (ps : List Str) (sp : Sp) (C fI : Addr) (fd : FuncData) : Prop where
  at_ : mg x = some (.ref C)
  mkc : Mk K C fI
  bd : Binds K fd ps []
  ok : FnOk P w K mg base CX k fI fd ps sp
abbrev Dk (P : Program) (w : World) (K : PySem.W.Frag) (mg : Str → Option Value) (base : Heap) (CX : CXT) (x : Str) (k : Nat) (ps : List Str) (sp : Sp) (C : Addr) : Prop := ∃ fI fd, Dk1 P w K mg base CX x k ps sp C fI fd
theorem pe_dkL {X : Cx} {x : Str} {k j : Nat} {ps : List Str} {sp : Sp} {e : Expr} {es : List Expr} {t : TA} {p pos : Pos} {C : Addr} (D : Dk X.prog X.w X.K X.mg X.base (L2.CX X.prog X.w) x k ps sp C) (hr : Room j X.A) (l : k + 1 ≤ j) (ha : PA X (e :: es) t) (hg : Gl X x := by rfl)
    (hdb : (x == ("__debug__" : Str)) = false := by decide) (he : starEach (e :: es) X.env = (false, eval e X.env) :: starEach es X.env := by rfl) (hpl : (backTo pos (starEach es X.env)).any (·.1) = false := by rfl) : PE X (.Call (.Name x p) (e :: es) [] pos) (tMake C sp [] E0 t) :=
  let ⟨_, _, D⟩ := D; pe_make D.mkc D.ok (hr.mono l) hg D.at_ D.bd .nil passL ha hdb he hpl
theorem look1 (f : Str) (v : V) : List.lookup f [(f, v)] = some v := by simp [List.lookup]
theorem look2 (f g : Str) (v u : V) (h : (f == g) = false) : List.lookup f [(g, u), (f, v)] = some v := by simp [List.lookup, h]
theorem look2' (f g : Str) (v u : V) : List.lookup g [(g, u), (f, v)] = some u := by simp [List.lookup]
/-- built-ins that the text does not name anew -/
structure Bt (mg : Str → Option Value) : Prop where
  int : mg "int" = none
  str : mg "str" = none
  bool : mg "bool" = none
  list : mg "list" = none
  tuple : mg "tuple" = none
  dict : mg "dict" = none
  len : mg "len" = none
  range : mg "range" = none
  isinstance : mg "isinstance" = none
  sum : mg "sum" = none
  max : mg "max" = none
  min : mg "min" = none
  sorted : mg "sorted" = none
  set : mg "set" = none
  super : mg "super" = none
  enumerate : mg "enumerate" = none
  zip : mg "zip" = none
  abs : mg "abs" = none
end Pk
set_option Elab.async false
set_option linter.all false
set_option maxRecDepth 100000
set_option maxHeartbeats 1000000
namespace Pk
open PySem L2 PySem.Spec PyProof.Rows PySem.W
/-- what the top holds of a def x -/
def DefAt (K : PySem.W.Frag) (x : Str) (st : Stmt) : Prop := ∃ (f : Addr) (oc : Value) (od : Option Addr) (kV dc pm : Value) (an : Option Addr) (cd ct : Value) (sl : Array (Option Value)),
  PySem.W.nsIn K mainGlobals x = some (some (.ref f)) ∧ K.lookup f = some ⟨oc, od, .func (PySem.W.fnOf x x (defArgs st) (defBody st) (defScope st) .none kV dc pm an cd ct), sl⟩ ∧ PySem.W.codeIn K cd x = true ∧ PySem.W.keepIn K (.ref f) = true
theorem DefAt.fn {K : PySem.W.Frag} {h : Heap} {mg : Str → Option Value} {x : Str} {st : Stmt} (X : K.In h) (G : h.Ns mainGlobals mg) (d : DefAt K x st) : ∃ f fd, Fun K x x st f fd ∧ mg x = some (.ref f) := by
  obtain ⟨f, oc, od, kV, dc, pm, an, cd, ct, sl, a, l, c, k⟩ := d
  exact ⟨f, _, fun_mk (st := st) l c k, PySem.W.mg_of X G a⟩
/-- .. of a method x of the class at C -/
def MethAt (K : PySem.W.Frag) (C : Addr) (x q : Str) (st : Stmt) : Prop := ∃ (f : Addr) (oc : Value) (od : Option Addr) (kV dc pm : Value) (an : Option Addr) (cd ct : Value) (sl : Array (Option Value)),
  PySem.W.findIn K (.ref C) x = some (some (.ref f)) ∧ K.lookup f = some ⟨oc, od, .func (PySem.W.fnOf x q (defArgs st) (defBody st) (defScope st) .none kV dc pm an cd ct), sl⟩ ∧ PySem.W.codeIn K cd q = true ∧ PySem.W.keepIn K (.ref f) = true ∧ PySem.W.isFn K (.ref f) = true
theorem MethAt.fn {K : PySem.W.Frag} {C : Addr} {x q : Str} {st : Stmt} (d : MethAt K C x q st) : ∃ f fd, Fun K x q st f fd ∧ Meth K C x f := by
  obtain ⟨f, oc, od, kV, dc, pm, an, cd, ct, sl, a, l, c, k, i⟩ := d
  exact ⟨f, _, fun_mk (st := st) l c k, ⟨a, i, k⟩⟩
/-- .. of a def x with one keyword-only default, a text -/
def DefAtK (K : PySem.W.Frag) (x k : Str) (z : Str) (st : Stmt) : Prop := ∃ (f D : Addr) (oc : Value) (od : Option Addr) (dc pm : Value) (an : Option Addr) (cd ct : Value) (sl : Array (Option Value)) (t : Tok),
  PySem.W.nsIn K mainGlobals x = some (some (.ref f)) ∧ K.lookup f = some ⟨oc, od, .func (PySem.W.fnOf x x (defArgs st) (defBody st) (defScope st) .none (.ref D) dc pm an cd ct), sl⟩ ∧ PySem.W.codeIn K cd x = true ∧ PySem.W.keepIn K (.ref f) = true ∧ PySem.W.nsIn K D k = some (some (.str z t))
theorem DefAtK.fn {K : PySem.W.Frag} {h : Heap} {mg : Str → Option Value} {x k z : Str} {st : Stmt} (X : K.In h) (G : h.Ns mainGlobals mg) (d : DefAtK K x k z st) : ∃ f fd, FunD K x x (defArgs st) (defBody st) (defScope st) [] [(k, .str z)] f fd ∧ mg x = some (.ref f) := by
  obtain ⟨f, D, oc, od, dc, pm, an, cd, ct, sl, t, a, l, c, kp, n⟩ := d
  refine ⟨f, _, ⟨⟨oc, od, .none, .ref D, dc, pm, an, cd, ct, sl, rfl, l, c, .inl ⟨rfl, rfl⟩, .inr ⟨D, rfl, fun q hq => ?_⟩⟩, kp⟩, PySem.W.mg_of X G a⟩
  rw [List.mem_singleton.mp hq]
  exact ⟨_, n, t, rfl⟩
/-- what the top holds of an error class x with an __init__ of its own (st) -/
structure ErrAt1 (P : Program) (K : PySem.W.Frag) (x q : Str) (st : Stmt) (C fI cc c : Addr) : Prop where
  at_ : PySem.W.nsIn K mainGlobals x = some (some (.ref C))
  cls : ∃ pe nm qn N bs sn sub ab col dd k0 k1 k2 k3 k5, K.lookup C = some (excClassObj nm qn C N bs (.ref pe :: arT) true sn sub ab col dd k0 k1 k2 k3 k5 "ArithmeticError.__new__")
  sa : PySem.W.findIn K (.ref C) "__setattr__" = some (some (.builtin "object.__setattr__"))
  exB : PySem.W.subIn K (.ref C) (.type "BaseException") = some true
  exA : PySem.W.subIn K (.ref C) (.type "ArithmeticError") = some true
  ty : PySem.W.typeIn K (.ref C) = some (.type "type")
  kp : PySem.W.keepIn K (.ref C) = true
  ini : PySem.W.findIn K (.ref C) "__init__" = some (some (.ref fI))
  fnt : PySem.W.typeIn K (.ref fI) = some (.type "function")
  fn : ∃ (oc : Value) (od : Option Addr) (kV doc pm : Value) (an : Option Addr) (ct : Value) (osl : Array (Option Value)), K.lookup fI = some ⟨oc, od, .func (PySem.W.fnX "__init__" q (defArgs st) (defBody st) (defScope st) [(("__class__" : Str), cc)] .none kV doc pm an (.ref c) ct), osl⟩
  code : PySem.W.codeIn K (.ref c) q = true
  cell : ∃ (a : Value) (b : Option Addr) (d : Array (Option Value)), K.lookup cc = some ⟨a, b, .cell (some (.ref C)), d⟩
  file : ∃ (a : Value) (b : Option Addr) (vs : Array Value) (d : Array (Option Value)) (f : Str) (t : Tok), K.lookup c = some ⟨a, b, .fields vs, d⟩ ∧ vs[2]? = some (.str f t) ∧ ((P.main.file : Str) == f) = true
  opq : PySem.W.nsIn K cStatics "thirdparty.any" = some none
  sup : PySem.W.ks_superIn K C C "__init__" = some (some (.builtin "ArithmeticError.__init__"))
  below : PySem.W.mroIn K C (.ref C) = some true
  ga : PySem.W.findIn K (.ref C) "__getattribute__" = some (some (.builtin "BaseException.__getattribute__"))
  gg : PySem.W.findIn K (.ref C) "__getattr__" = some none
  hd : PySem.W.hasDictIn K C = true
  isC : PySem.W.isClsIn K C = true
  own : PySem.W.subIn K (.ref C) (.ref C) = some true
theorem err_self {K : PySem.W.Frag} {S : Addr} (h1 : PySem.W.subIn K (.ref S) (.type "BaseException") = some true) (h2 : PySem.W.isClsIn K S = true) (h3 : PySem.W.typeIn K (.ref S) = some (.type "type")) (h4 : PySem.W.subIn K (.ref S) (.ref S) = some true) : PySem.W.exmOne K (.ref S) (.ref S) = some true := by
  have h5 : (PySem.W.clsIn K S).isSome = true := h2
  unfold PySem.W.exmOne PySem.W.kitCls
  simp only [h1, h3, h4, h5]
  rfl
section
variable {P : Program} {w : World} {K : PySem.W.Frag} {h : Heap} {mg : Str → Option Value} {base : Heap} {x q : Str} {st : Stmt} {C fI cc c : Addr}
theorem ErrAt1.errC (e : ErrAt1 P K x q st C fI cc c) : ErrC K C := ⟨e.cls, e.sa, e.exB, e.exA, e.ty, e.kp⟩
theorem ErrAt1.init (e : ErrAt1 P K x q st C fI cc c) (top : (P.main.scope.names.lookup ("super" : Str)).isSome = false) (self : ∃ q, ((defArgs st).posonlyargs ++ (defArgs st).args).head? = some { arg := "self", annotation := none, pos := q }) :
    InitFn P K C fI cc { name := "__init__", qual := q, params := defArgs st, body := defBody st, scope := defScope st, cl := [(("__class__" : Str), cc)], c := c } :=
  ⟨e.fn, e.code, rfl, e.cell, e.file, top, e.opq, self, e.sup, e.below⟩
theorem ErrAt1.de {k : Nat} {sp : Sp} (e : ErrAt1 P K x q st C fI cc c) (X : K.In h) (G : h.Ns mainGlobals mg) (o : ErrOk P w K mg base k C fI sp) : De P w K mg base x k sp C :=
  ⟨fI, PySem.W.mg_of X G e.at_, e.errC, e.ini, e.fnt, o, ⟨e.ga, e.gg, e.exB, e.hd⟩, err_self e.exB e.isC e.ty e.own⟩
end
def BtIn (K : PySem.W.Frag) : Prop := ∀ x, x ∈ (["int", "str", "bool", "list", "tuple", "dict", "len", "range", "isinstance", "sum", "max", "min", "sorted", "set", "super", "enumerate", "zip", "abs"] : List Str) → PySem.W.nsIn K mainGlobals x = some none
theorem BtIn.bt {K : PySem.W.Frag} {h : Heap} {mg : Str → Option Value} (X : K.In h) (G : h.Ns mainGlobals mg) (b : BtIn K) : Bt mg := by
  have g : ∀ x, x ∈ (["int", "str", "bool", "list", "tuple", "dict", "len", "range", "isinstance", "sum", "max", "min", "sorted", "set", "super", "enumerate", "zip", "abs"] : List Str) → mg x = none := fun x hx => PySem.W.mg_none_of X G (b x hx)
  constructor <;> exact g _ (by decide)
theorem DefAt.of {K : PySem.W.Frag} {x : Str} {st : Stmt} {f : Addr} {oc : Value} {od : Option Addr} {kV dc pm : Value} {an : Option Addr} {cd ct : Value} {sl : Array (Option Value)} (a : PySem.W.nsIn K mainGlobals x = some (some (.ref f)))
    (l : K.lookup f = some ⟨oc, od, .func (PySem.W.fnOf x x (defArgs st) (defBody st) (defScope st) .none kV dc pm an cd ct), sl⟩) (c : PySem.W.codeIn K cd x = true) (k : PySem.W.keepIn K (.ref f) = true) : DefAt K x st := ⟨_, _, _, _, _, _, _, _, _, _, a, l, c, k⟩
theorem DefAtK.of {K : PySem.W.Frag} {x y z : Str} {st : Stmt} {f D : Addr} {oc : Value} {od : Option Addr} {dc pm : Value} {an : Option Addr} {cd ct : Value} {sl : Array (Option Value)} {t : Tok} (a : PySem.W.nsIn K mainGlobals x = some (some (.ref f)))
    (l : K.lookup f = some ⟨oc, od, .func (PySem.W.fnOf x x (defArgs st) (defBody st) (defScope st) .none (.ref D) dc pm an cd ct), sl⟩) (c : PySem.W.codeIn K cd x = true) (k : PySem.W.keepIn K (.ref f) = true) (n : PySem.W.nsIn K D y = some (some (.str z t))) : DefAtK K x y z st := ⟨_, _, _, _, _, _, _, _, _, _, _, a, l, c, k, n⟩
theorem MethAt.of {K : PySem.W.Frag} {C : Addr} {x q : Str} {st : Stmt} {f : Addr} {oc : Value} {od : Option Addr} {kV dc pm : Value} {an : Option Addr} {cd ct : Value} {sl : Array (Option Value)} (a : PySem.W.findIn K (.ref C) x = some (some (.ref f)))
    (l : K.lookup f = some ⟨oc, od, .func (PySem.W.fnOf x q (defArgs st) (defBody st) (defScope st) .none kV dc pm an cd ct), sl⟩) (c : PySem.W.codeIn K cd q = true) (k : PySem.W.keepIn K (.ref f) = true) (i : PySem.W.isFn K (.ref f) = true) : MethAt K C x q st := ⟨_, _, _, _, _, _, _, _, _, _, a, l, c, k, i⟩
theorem ErrAt1.of {P : Program} {K : PySem.W.Frag} {x q : Str} {st : Stmt} {C fI cc c pe : Addr} {nm qn : Str} {N : Addr} {bs sn sub ab col dd k0 k1 k2 k3 k5} {oc1 : Value} {od1 : Option Addr} {kV dc pm : Value} {an : Option Addr} {ct : Value} {sl1 sl2 sl3 : Array (Option Value)} {v2 v3 : Value} {o2 o3 : Option Addr} {vs : Array Value} {fl : Str} {t : Tok}
    (at_ : PySem.W.nsIn K mainGlobals x = some (some (.ref C))) (cls : K.lookup C = some (excClassObj nm qn C N bs (.ref pe :: arT) true sn sub ab col dd k0 k1 k2 k3 k5 "ArithmeticError.__new__"))
    (sa : PySem.W.findIn K (.ref C) "__setattr__" = some (some (.builtin "object.__setattr__"))) (exB : PySem.W.subIn K (.ref C) (.type "BaseException") = some true) (exA : PySem.W.subIn K (.ref C) (.type "ArithmeticError") = some true) (ty : PySem.W.typeIn K (.ref C) = some (.type "type")) (kp : PySem.W.keepIn K (.ref C) = true)
    (ini : PySem.W.findIn K (.ref C) "__init__" = some (some (.ref fI))) (fnt : PySem.W.typeIn K (.ref fI) = some (.type "function")) (fn : K.lookup fI = some ⟨oc1, od1, .func (PySem.W.fnX "__init__" q (defArgs st) (defBody st) (defScope st) [(("__class__" : Str), cc)] .none kV dc pm an (.ref c) ct), sl1⟩)
    (code : PySem.W.codeIn K (.ref c) q = true) (cell : K.lookup cc = some ⟨v2, o2, .cell (some (.ref C)), sl2⟩) (file : K.lookup c = some ⟨v3, o3, .fields vs, sl3⟩) (file2 : vs[2]? = some (.str fl t)) (file3 : ((P.main.file : Str) == fl) = true) (opq : PySem.W.nsIn K cStatics "thirdparty.any" = some none)
    (sup : PySem.W.ks_superIn K C C "__init__" = some (some (.builtin "ArithmeticError.__init__"))) (below : PySem.W.mroIn K C (.ref C) = some true) (ga : PySem.W.findIn K (.ref C) "__getattribute__" = some (some (.builtin "BaseException.__getattribute__"))) (gg : PySem.W.findIn K (.ref C) "__getattr__" = some none)
    (hd : PySem.W.hasDictIn K C = true) (isC : PySem.W.isClsIn K C = true) (own : PySem.W.subIn K (.ref C) (.ref C) = some true) : ErrAt1 P K x q st C fI cc c :=
  ⟨at_, ⟨_, _, _, _, _, _, _, _, _, _, _, _, _, _, _, cls⟩, sa, exB, exA, ty, kp, ini, fnt, ⟨_, _, _, _, _, _, _, _, fn⟩, code, ⟨_, _, _, cell⟩, ⟨_, _, _, _, _, _, file, file2, file3⟩, opq, sup, below, ga, gg, hd, isC, own⟩
end Pk
set_option Elab.async false
set_option linter.all false
set_option maxRecDepth 100000
set_option maxHeartbeats 1000000
namespace Pk
open PySem L2 PySem.Spec PyProof.Rows
/-! ### <, <=, >, >= and in, over data -/
section
variable {X : Cx}
/-- two data that may be compared, of no great depth -/
def Cmpr (K : PySem.W.Frag) (H : Hp) (x y : V) (d e : PyData) : Prop := Dp K H x d ∧ Dp K H y e ∧ PySem.W.alike d e = true ∧ d ≠ .none ∧ d.depth ≤ 32
def rCmpD (K : PySem.W.Frag) (g : PyData → PyData → Bool) : R2 := fun x y H Q => ∃ d e, Cmpr K H x y d e ∧ Q (.bl (g d e)) H
theorem op_ltD (hu : X.A.units + 64 < cLine) : OpR X (compareOp .Lt) (rCmpD X.K fun d e => PySem.W.dataLt d e) := by
  intro pins s σ H x y v u Q I rx ry h
  obtain ⟨d, e, ⟨hd, he, al, nn, dl⟩, q⟩ := h
  obtain ⟨as, r1⟩ := Dp.reads I d x v hd rx
  obtain ⟨bs, r2⟩ := Dp.reads I e y u he ry
  exact PySem.W.lt_data r1 r2 al nn (by omega) ⟨.bl _, H, I, rfl, q⟩
theorem op_gtD (hu : X.A.units + 64 < cLine) : OpR X (compareOp .Gt) (rCmpD X.K fun d e => PySem.W.dataLt e d) := by
  intro pins s σ H x y v u Q I rx ry h
  obtain ⟨d, e, ⟨hd, he, al, nn, dl⟩, q⟩ := h
  obtain ⟨as, r1⟩ := Dp.reads I d x v hd rx
  obtain ⟨bs, r2⟩ := Dp.reads I e y u he ry
  exact PySem.W.gt_data r1 r2 al nn (by omega) ⟨.bl _, H, I, rfl, q⟩
theorem op_leD (hu : X.A.units + 64 < cLine) : OpR X (compareOp .LtE) (rCmpD X.K fun d e => !PySem.W.dataLt e d) := by
  intro pins s σ H x y v u Q I rx ry h
  obtain ⟨d, e, ⟨hd, he, al, nn, dl⟩, q⟩ := h
  obtain ⟨as, r1⟩ := Dp.reads I d x v hd rx
  obtain ⟨bs, r2⟩ := Dp.reads I e y u he ry
  exact PySem.W.le_data r1 r2 al nn (by omega) ⟨.bl _, H, I, rfl, q⟩
theorem op_geD (hu : X.A.units + 64 < cLine) : OpR X (compareOp .GtE) (rCmpD X.K fun d e => !PySem.W.dataLt d e) := by
  intro pins s σ H x y v u Q I rx ry h
  obtain ⟨d, e, ⟨hd, he, al, nn, dl⟩, q⟩ := h
  obtain ⟨as, r1⟩ := Dp.reads I d x v hd rx
  obtain ⟨bs, r2⟩ := Dp.reads I e y u he ry
  exact PySem.W.ge_data r1 r2 al nn (by omega) ⟨.bl _, H, I, rfl, q⟩
end
/-! ### lists of pairs of ints -/
abbrev Pr := Int × Int
def prD (z : Pr) : PyData := .tuple [.int z.1, .int z.2]
def prsD (zs : List Pr) : PyData := .list (zs.map prD)
/-- one pair goes ahead of another -/
def prLt (x y : Pr) : Bool := decide (x.1 < y.1) || (decide (x.1 = y.1) && decide (x.2 < y.2))
def lexB : List Pr → List Pr → Bool
  | [], [] => false
  | [], _ :: _ => true
  | _ :: _, [] => false
  | x :: xs, y :: ys => if x = y then lexB xs ys else prLt x y
theorem pr_alike (x y : Pr) : PySem.W.alike (prD x) (prD y) = true := rfl
theorem prs_alike : ∀ xs ys : List Pr, PySem.W.alikeAll (xs.map prD) (ys.map prD) = true
  | [], _ => by cases ‹List Pr› <;> rfl
  | _ :: _, [] => rfl
  | x :: xs, y :: ys => by
    show (PySem.W.alike (prD x) (prD y) && PySem.W.alikeAll (xs.map prD) (ys.map prD)) = true
    rw [pr_alike, prs_alike xs ys]
    rfl
theorem pr_eqv (x y : Pr) : PyData.eqv (prD x) (prD y) = decide (x = y) := PySem.W.Datum.eqv (α := Int × Int) x y
theorem prs_eqv (xs ys : List Pr) : PyData.eqv (prsD xs) (prsD ys) = decide (xs = ys) := PySem.W.Datum.eqv (α := List (Int × Int)) xs ys
theorem pr_lt (x y : Pr) (n : x ≠ y) : PySem.W.dataLt (prD x) (prD y) = prLt x y := by
  obtain ⟨a, b⟩ := x
  obtain ⟨c, d⟩ := y
  show PySem.W.dataLt (.tuple [.int a, .int b]) (.tuple [.int c, .int d]) = _
  rw [PySem.W.dataLt_tuple]
  by_cases e : a = c
  · subst e
    rw [PySem.W.dataLt_all_yes rfl (by simp [PyData.eqv])]
    have e2 : b ≠ d := fun z => n (by rw [z])
    rw [PySem.W.dataLt_all_no rfl (by simp [PyData.eqv, e2]), PySem.W.dataLt_int]
    simp [prLt]
  · rw [PySem.W.dataLt_all_no rfl (by simp [PyData.eqv, e]), PySem.W.dataLt_int]
    simp [prLt, e]
theorem prs_lt : ∀ xs ys : List Pr, PyProof.Rows.lexLt PyProof.Rows.itemOrd (PySem.W.keyToksAll (xs.map prD)) (PySem.W.keyToksAll (ys.map prD)) = lexB xs ys
  | [], [] => by decide +kernel
  | [], y :: ys => (PyProof.Rows.lex_diff (O := PyProof.Rows.itemOrd) (x := .inl 0) (y := .inl 1) (by decide)).trans rfl
  | x :: xs, [] => (PyProof.Rows.lex_diff (O := PyProof.Rows.itemOrd) (x := .inl 1) (y := .inl 0) (by decide)).trans rfl
  | x :: xs, y :: ys => by
    rw [List.map_cons, List.map_cons, lexB]
    by_cases e : x = y
    · rw [if_pos e, PySem.W.dataLt_all_yes (pr_alike x y) (by rw [pr_eqv, decide_eq_true e]), prs_lt xs ys]
    · rw [if_neg e, PySem.W.dataLt_all_no (pr_alike x y) (by rw [pr_eqv, decide_eq_false e]), pr_lt x y e]
theorem prsLt (xs ys : List Pr) : PySem.W.dataLt (prsD xs) (prsD ys) = lexB xs ys := by
  rw [prsD, prsD, PySem.W.dataLt_list]
  exact prs_lt xs ys
end Pk
set_option Elab.async false
set_option linter.all false
set_option maxRecDepth 100000
set_option maxHeartbeats 1000000
namespace Pk
open PySem L2 PySem.Spec PyProof.Rows
/-! ### operators of an own class, by its own methods -/
section
variable {X : Cx} {CX : CXT} {pins : List (Addr × Obj)} {σ : L2.St} {H : Hp} {s : Shared} {k : Nat} {f C : Addr} {fd : FuncData} {ps : List Str} {sp : Sp} {E : L2.St → XK} {Q : VK} {us : List Value} {vs : List V} {A' : Around}
/-- the run of a method in a room around -/
theorem own_run (F : FnOk X.prog X.w X.K X.mg X.base CX k f fd ps sp) (hr : Room k A') (e0 : Env0 X.prog X.w X.K X.mg X.base A' X.stack s H) (hb : Binds X.K fd ps []) (hx : PassesAt CX X σ (E σ)) (I : Inv X pins σ H s) (r : Vals vs us) (h : sp vs H Q (E σ)) :
    wpAny (model X.prog X.w) A' (call (.ref f) us) (EP X pins σ Q) X.xe s := by
  have n : us.length = ps.length := r.length ▸ F.len _ _ _ _ h
  have b := hb s us I.kIn (by simpa using n)
  rw [List.append_nil] at b
  refine wpAny_call (codeAny_mono (F.run A' X.stack s H ⟨us, []⟩ us vs Q (E σ) hr e0 b r h) ?_)
  intro z s' hz
  rcases z with e | fl
  · exact hx pins H s e s' I hz
  · cases fl with
    | ret u => exact I.after hz
    | next => exact hz.elim
    | brk => exact hz.elim
    | cont => exact hz.elim
/-- the instance that stands at a -/
theorem own_at {a dx : Addr} {fs : List (Str × V)} (I : Inv X pins σ H s) (ha : H a = some (.ins C dx fs)) : ∃ ox od, PySem.W.InstAt s.heap a ox C (some od) := by
  obtain ⟨mA, J, _⟩ := ins_get I.hok ha
  obtain ⟨od, J, _⟩ := J.look
  exact ⟨_, od, J⟩
/-- e1 ⊕ e2, at the slots -/
def tOp2 (r : (L2.St → XK) → L2.St → V → V → Hp → VK → Prop) (E : L2.St → XK) (ta tb : TE) : TE := fun σ H Q => ta σ H fun x H1 => tb σ H1 fun y H2 => r E σ x y H2 Q
/-- the method's promise, of the instance x of C and y -/
def rOwn2 (C : Addr) (sp : Sp) : (L2.St → XK) → L2.St → V → V → Hp → VK → Prop := fun E σ x y H Q => ∃ a dx fs, x = .ref a ∧ H a = some (.ins C dx fs) ∧ sp [x, y] H Q (E σ)
/-- .. and the two are of the one class, or y is of a class that C is no base of -/
def OtherT (K : PySem.W.Frag) (C : Addr) (H : Hp) (y : V) : Prop := (∃ b dy gs, y = .ref b ∧ H b = some (.ins C dy gs)) ∨ (∃ T : String, TyX K H y (.type T) ∧ PySem.W.subIn K (.type T) (.ref C) = some false)
theorem ty_looks {y : V} {u t : Value} {M : Model} (I : Inv X pins σ H s) (ry : RelV y u) (ty : TyX X.K H y t) : PySem.W.Looks M s.heap (typeOf u) t := by
  obtain ⟨P, kx, hp, _⟩ := kit_of I ry ty
  exact kx.ty M s.heap I.kIn hp
theorem other_looks {y : V} {u : Value} {M : Model} (I : Inv X pins σ H s) (ry : RelV y u) (o : OtherT X.K C H y) (one : ∀ b dy gs, y = .ref b → H b = some (.ins C dy gs) → True) : ∃ tb, PySem.W.Looks M s.heap (typeOf u) tb ∧ PySem.W.notFirst X.K C tb = true := by
  rcases o with ⟨b, dy, gs, rfl, hb⟩ | ⟨T, ty, hs⟩
  · cases ry
    obtain ⟨ox, od, J⟩ := own_at I hb
    exact ⟨.ref C, J.type, by simp [PySem.W.notFirst]⟩
  · exact ⟨.type T, ty_looks I ry ty, by simp [PySem.W.notFirst, hs]⟩
/-- what an own method of two places must be -/
structure Two (X : Cx) (CX : CXT) (k : Nat) (C : Addr) (m : Str) (sp : Sp) : Prop where
  ex : ∃ (f : Addr) (fd : FuncData) (ps : List Str), Meth X.K C m f ∧ FnOk X.prog X.w X.K X.mg X.base CX k f fd ps sp ∧ Binds X.K fd ps []
/-- x == y, x < y, .. by the own method -/
def rOwnC (K : PySem.W.Frag) (C : Addr) (sp : Sp) : (L2.St → XK) → L2.St → V → V → Hp → VK → Prop := fun E σ x y H Q => ∃ a dx fs, x = .ref a ∧ H a = some (.ins C dx fs) ∧ OtherT K C H y ∧ sp [x, y] H Q (E σ)
theorem pe_cmpOwn {op : CmpOp} {a b : Expr} {ta tb : TE} {pos : Pos} (hop : ∀ a b, compareOp op a b = richCompare op a b) (F : Two X CX k C (cmpInfo op).2.1 sp) (hr : Room k X.A) (hx : ∀ σ, PassesAt CX X σ (E σ)) (ha : PE X a ta) (hb : PE X b tb) (hm : behindInMarks op b = false) :
    PE X (.Compare a [op] [b] pos) (tOp2 (rOwnC X.K C sp) E ta tb) := by
  obtain ⟨f, fd, ps, M, F, B⟩ := F.ex
  refine ⟨fun pins s σ H Q I h => ?_⟩
  refine wpAny_Compare1 (binT ha hb I h fun v u s2 x y H2 I2 rx ry q => ?_) hm
  obtain ⟨a, dx, fs, rfl, e, o, q⟩ := q
  cases rx
  obtain ⟨ox, od, J⟩ := own_at I2 e
  obtain ⟨tb, L, nf⟩ := other_looks (M := model X.prog X.w) I2 ry o fun _ _ _ _ _ => trivial
  obtain ⟨m, hF⟩ := I2.fr
  rw [hop]
  refine PySem.W.cmp_K (op := op) hr.units0 hF I2.ok.mod.kin J L nf M.at_ M.fn ?_
  refine wpAny_mono (own_run (us := [.ref a, u]) (vs := [.ref a, y]) F hr I2.env0 B (hx σ) I2 (.cons rfl (.cons ry .nil)) q) (fun w s' z => ?_) fun _ _ z => z
  obtain ⟨z, H3, I3, rz, qz⟩ := z
  exact SlX.cmpback rz ⟨z, H3, I3, rz, qz⟩
/-- y in x by the own __contains__ -/
def rOwnIn (C : Addr) (sp : Sp) (neg : Bool) : (L2.St → XK) → L2.St → V → V → Hp → VK → Prop := fun E σ y x H Q => ∃ a dx fs, x = .ref a ∧ H a = some (.ins C dx fs) ∧ sp [x, y] H (fun z H' => ∃ c, z = .bl c ∧ Q (.bl (if neg then !c else c)) H') (E σ)
theorem pe_inOwn {a b : Expr} {ta tb : TE} {pos : Pos} (F : Two X CX k C "__contains__" sp) (hr : Room k X.A) (hx : ∀ σ, PassesAt CX X σ (E σ)) (ha : PE X a ta) (hb : PE X b tb) (hm : behindInMarks .In b = false) :
    PE X (.Compare a [.In] [b] pos) (tOp2 (rOwnIn C sp false) E ta tb) := by
  obtain ⟨f, fd, ps, M, F, B⟩ := F.ex
  refine ⟨fun pins s σ H Q I h => ?_⟩
  refine wpAny_Compare1 (binT ha hb I h fun v u s2 y x H2 I2 ry rx q => ?_) hm
  obtain ⟨a, dx, fs, rfl, e, q⟩ := q
  cases rx
  obtain ⟨ox, od, J⟩ := own_at I2 e
  obtain ⟨m, hF⟩ := I2.fr
  refine PySem.W.in_K hF I2.ok.mod.kin J M.at_ M.fn ?_
  refine wpAny_mono (own_run (us := [.ref a, v]) (vs := [.ref a, y]) F hr I2.env0 B (hx σ) I2 (.cons rfl (.cons ry .nil)) q) (fun w s' z => ?_) fun _ _ z => z
  obtain ⟨z, H3, I3, rz, c, rfl, qz⟩ := z
  cases (show w = Value.bool c from rz)
  exact wpAny_pure ⟨.bl c, H3, I3, rfl, qz⟩
/-- len(x) by the own __len__ -/
def rOwnLen (C : Addr) (sp : Sp) : (L2.St → XK) → L2.St → List V → Hp → VK → Prop := fun E σ xs H Q => ∃ a dx fs, xs = [.ref a] ∧ H a = some (.ins C dx fs) ∧ sp xs H (fun z H' => ∃ n : Nat, z = .int n ∧ n < 2 ^ 63 ∧ Q (.int n) H') (E σ)
theorem call_lenOwn {D : XK} (F : Two X CX k C "__len__" sp) (hr : Room (k + 1) X.A) (hx : Passes CX X D) : CallR X (.builtin "len") (rOwnLen C sp (fun _ => D) []) := by
  obtain ⟨f, fd, ps, M, F, B⟩ := F.ex
  intro pins s σ H xs us Q I r q
  obtain ⟨a, dx, fs, rfl, e, q⟩ := q
  cases r with
  | cons r1 r2 =>
    cases r2
    cases r1
    obtain ⟨ox, od, J⟩ := own_at I e
    obtain ⟨m, hF⟩ := I.fr
    refine PySem.W.len_K hF I.ok.mod.kin J M.at_ M.fn ?_
    refine wpAny_mono (own_run (us := [.ref a]) (vs := [.ref a]) (E := fun _ => D) F hr.in1 I.env0.in1 B (fun pins H s e s' I z => hx pins σ H s e s' I z) I (.cons rfl .nil) q) (fun w s' z => ?_) fun _ _ z => z
    obtain ⟨z, H3, I3, rz, n, rfl, hn, qz⟩ := z
    obtain ⟨t, rfl⟩ := (show ∃ t, w = Value.int n t from rz)
    refine ⟨⟨by omega, by omega⟩, ?_⟩
    exact ⟨.int n, H3, I3.tok _, ⟨_, rfl⟩, qz⟩
/-- x[y] by the own __getitem__ -/
theorem pe_ixOwn {a b : Expr} {ta tb : TE} {pos : Pos} (F : Two X CX k C "__getitem__" sp) (fi : ∀ f, PySem.W.findIn X.K (.ref C) "__getitem__" = some (some (.ref f)) → PySem.W.fnIn X.K f = true) (hr : Room (k + 1) X.A) (hx : ∀ σ, PassesAt CX X σ (E σ)) (ha : PE X a ta) (hb : PE X b tb)
    (hs : ∀ x i, subscripted b true (.ref x) i = runValue (.builtin "lifetime.subscript" ⟨[.ref x, i], []⟩)) :
    PE X (.Subscript a b pos) (tOp2 (rOwn2 C sp) E ta tb) := by
  obtain ⟨f, fd, ps, M, F, B⟩ := F.ex
  refine ⟨fun pins s σ H Q I h => ?_⟩
  refine Subscript_ (binT ha hb I h fun v u s2 x y H2 I2 rx ry q => ?_)
  obtain ⟨c, dx, fs, rfl, e, q⟩ := q
  cases rx
  obtain ⟨ox, od, J⟩ := own_at I2 e
  obtain ⟨m, hF⟩ := I2.fr
  refine PySem.W.sub_K hF I2.ok.mod.kin J M.at_ (fi f M.at_) M.fn ?_ (hs _ _)
  exact own_run (us := [.ref c, u]) (vs := [.ref c, y]) F hr.in1 I2.env0.in1 B (hx σ) I2 (.cons rfl (.cons ry .nil)) q
end
section
open PySem.W PySem.Calls
variable {prog : Program} {w : World} {A : Around} {E : Value → Shared → Prop} {s : Shared} {K : Frag} {x f C : Addr} {ox : Obj} {od : Option Obj}
/-- x ⊕ b by the own method: b is of the one class, or of a built-in one -/
theorem bin_by_own {op : Operator} {b tb : Value} {Q : Value → Shared → Prop} (X : K.In s.heap) (I : InstAt s.heap x ox C od) (hb : Looks (model prog w) s.heap (typeOf b) tb) (hc : selfFirst K C = true)
    (hs : findIn K (.ref C) (PySem.dunder op.info.2) = some (some (.ref f))) (hf : isFn K (.ref f) = true) (hr : ∃ rc, findIn K (.ref C) (dunderR op.info.2) = some rc ∧ (rc = none ∨ ∃ g : Addr, rc = some (.ref g)))
    (ht : tb = .ref C ∨ ∃ (T : String) (fo ro : Option Value), tb = .type T ∧ findIn K (.type T) (PySem.dunder op.info.2) = some fo ∧ findIn K (.type T) (dunderR op.info.2) = some ro ∧ subIn K (.type T) (.ref C) = some false)
    (h : wpAny (model prog w) A (call (.ref f) [.ref x, b]) (PySem.W.CmpBack Q) E s) : wpAny (model prog w) A (binaryOp op (.ref x) b) Q E s := by
  obtain ⟨cd, rest, hcd, hm⟩ := ksp_first hc
  obtain ⟨rc, hr, hp⟩ := hr
  rcases hi : op.info with ⟨sym, nm'⟩
  rw [hi] at hs hr ht
  dsimp only at hs hr ht
  have one := ksp_try X I hs hf h
  obtain ⟨hh, g, d, tt, os⟩ := s
  have a1 : Looks (model prog w) hh (typeOf (.ref x)) (.ref C) := I.type
  have a2 : Looks (model prog w) hh (typeOf b) tb := hb
  have a3 : Looks (model prog w) hh (fillsNumberSlot (.ref C) nm') true := fills_K X hcd hm hs
  have a6 : Looks (model prog w) hh (numberSlotInPython (.ref C) nm') true := ksp_inPy X hs hr hp
  simp only [binaryOp, hi]
  refine wpAny_holding (wpAny_bind ?_)
  unfold binaryOp1
  refine wpAny_bind (a1.at (wpAny_bind (a2.at (wpAny_bind (a3.at ?_)))))
  rcases ht with rfl | ⟨T, fo, ro, rfl, h1, h2, hsub⟩
  · simp only [beq_self_eq_true, if_true]
    ksp_lk
    refine wpAny_mono one (fun r s' hr' => ?_) fun _ _ e => e
    obtain ⟨v, rfl, hq⟩ := hr'
    ksp_lk
    exact hq
  · have a4 := ksp_fillsT (M := model prog w) X h1 h2
    have a5 : Looks (model prog w) hh (isSubtype (.type T) (.ref C)) false := looks_subIn X hsub
    have a7 : Looks (model prog w) hh (numberSlotInPython (.type T) nm') false := Looks.of_pure rfl
    have a8 : Looks (model prog w) hh (typeLookup (.type T) (dunderR nm')) ro := looks_findIn X h2
    generalize ((fo.isSome && !isSeqSlot fo) || (ro.isSome && !isSeqSlot ro)) = right at a4
    have ne : (Value.ref C == Value.type T) = false := Bool.eq_false_iff.mpr fun q => by cases beq_iff_eq.mp q
    simp only [ne, Bool.false_eq_true, if_false]
    cases right with
    | false =>
      ksp_lk
      refine wpAny_mono one (fun r s' hr' => ?_) fun _ _ e => e
      obtain ⟨v, rfl, hq⟩ := hr'
      ksp_lk
      exact hq
    | true =>
      ksp_lk
      refine wpAny_mono one (fun r s' hr' => ?_) fun _ _ e => e
      obtain ⟨v, rfl, hq⟩ := hr'
      ksp_lk
      exact hq
end
section
variable {X : Cx} {CX : CXT} {k : Nat} {C : Addr} {sp : Sp} {E : L2.St → XK}
/-- what the other one may be in x ⊕ y -/
def OtherB (K : PySem.W.Frag) (C : Addr) (H : Hp) (nm : String) (y : V) : Prop := (∃ b dy gs, y = .ref b ∧ H b = some (.ins C dy gs)) ∨
  (∃ (T : String) (fo ro : Option Value), TyX K H y (.type T) ∧ PySem.W.findIn K (.type T) (PySem.dunder nm) = some fo ∧ PySem.W.findIn K (.type T) (dunderR nm) = some ro ∧ PySem.W.subIn K (.type T) (.ref C) = some false)
def rOwnB (K : PySem.W.Frag) (C : Addr) (nm : String) (sp : Sp) : (L2.St → XK) → L2.St → V → V → Hp → VK → Prop := fun E σ x y H Q => ∃ a dx fs, x = .ref a ∧ H a = some (.ins C dx fs) ∧ OtherB K C H nm y ∧ sp [x, y] H Q (E σ)
/-- x ⊕ y by the own method -/
theorem pe_binOwn {op : Operator} {a b : Expr} {ta tb : TE} {pos : Pos} (F : Two X CX k C (PySem.dunder op.info.2) sp) (hc : PySem.W.selfFirst X.K C = true) (hrc : ∃ rc, PySem.W.findIn X.K (.ref C) (dunderR op.info.2) = some rc ∧ (rc = none ∨ ∃ g : Addr, rc = some (.ref g)))
    (hr : Room k X.A) (hx : ∀ σ, PassesAt CX X σ (E σ)) (ha : PE X a ta) (hb : PE X b tb) : PE X (.BinOp a op b pos) (tOp2 (rOwnB X.K C op.info.2 sp) E ta tb) := by
  obtain ⟨f, fd, ps, M, F, B⟩ := F.ex
  refine ⟨fun pins s σ H Q I h => ?_⟩
  refine wpAny_BinOp (binT ha hb I h fun v u s2 x y H2 I2 rx ry q => ?_)
  obtain ⟨a, dx, fs, rfl, e, o, q⟩ := q
  cases rx
  obtain ⟨ox, od, J⟩ := own_at I2 e
  have run := wpAny_mono (own_run (us := [.ref a, u]) (vs := [.ref a, y]) F hr I2.env0 B (hx σ) I2 (.cons rfl (.cons ry .nil)) q) (Q' := PySem.W.CmpBack (EP X pins σ Q)) (fun w s' z => by
    obtain ⟨z, H3, I3, rz, qz⟩ := z
    exact SlX.cmpback rz ⟨z, H3, I3, rz, qz⟩) fun _ _ z => z
  rcases o with ⟨b, dy, gs, rfl, eb⟩ | ⟨T, fo, ro, ty, h1, h2, h3⟩
  · cases ry
    obtain ⟨oy, oe, J'⟩ := own_at I2 eb
    exact bin_by_own I2.kIn J J'.type hc M.at_ M.fn hrc (.inl rfl) run
  · exact bin_by_own I2.kIn J (ty_looks I2 ry ty) hc M.at_ M.fn hrc (.inr ⟨T, fo, ro, rfl, h1, h2, h3⟩) run
/-- what raises nothing here -/
theorem passN (hx : Passes CX X E0) : ∀ σ, PassesAt CX X σ ((fun _ => E0 : L2.St → XK) σ) := fun σ pins H s e s' I c => hx pins σ H s e s' I c
end
section
open PySem.W PySem.Calls
variable {prog : Program} {w : World} {A : Around} {E : Value → Shared → Prop} {s : Shared} {K : Frag} {x f C : Addr} {ox : Obj} {od : Option Obj} {b tb : Value}
/-- what object's != does where an own == stands -/
theorem ne_body (hu : A.units < cLine) (X : K.In s.heap) (I : InstAt s.heap x ox C od) (he : findIn K (.ref C) "__eq__" = some (some (.ref f))) (hf : isFn K (.ref f) = true) {Q : Fin → Shared → Prop}
    (h : wpAny (model prog w) A (call (.ref f) [.ref x, b]) (fun v s' => ∃ c, v = .bool c ∧ Q (.done (.ret (.bool (!c)))) s') E s) : wpAny (model prog w) A (Builtin.«object.__ne__» ⟨[.ref x, b], []⟩) Q E s := by
  unfold Builtin.«object.__ne__»
  repeat (first
    | with_reducible refine wpAny_cRoomFor hu ?_
    | (refine wpAny_bind (m := callSpecialIfBound? (.ref x) (Str.ofString "__eq__") [b]) (ifBound_K X I he hf (wpAny_mono h (fun r s' hr => by
          obtain ⟨c, rfl, hq⟩ := hr
          repeat (first | exact hq | exact wpAny_pure hq | exact wpAny_truthy_bool hq | (refine wpAny_bind (m := truthy (.bool _)) (wpAny_truthy_bool ?_)) | wp_step)) fun _ _ e => e)))
    | wp_step)
/-- x != b by the own == -/
theorem ne_by_eq (hu : A.in1.units < cLine) (hu0 : A.units < cLine) (X : K.In s.heap) (I : InstAt s.heap x ox C od) (hb : Looks (model prog w) s.heap (typeOf b) tb) (hn : notFirst K C tb = true) (hm : mroIn K C (.type "object") = some true)
    (hs : findIn K (.ref C) "__ne__" = some (some (.builtin "object.__ne__"))) (he : findIn K (.ref C) "__eq__" = some (some (.ref f))) (hf : isFn K (.ref f) = true) {Q : Value → Shared → Prop}
    (h : wpAny (model prog w) A.in1 (call (.ref f) [.ref x, b]) (fun v s' => ∃ c, v = .bool c ∧ Q (.bool (!c)) s') E s) : wpAny (model prog w) A (richCompare .NotEq (.ref x) b) Q E s := by
  have inner : ∀ {R : Value → Shared → Prop}, (∀ c s', Q (.bool c) s' → R (.bool c) s') → wpAny (model prog w) A (call (.builtin "object.__ne__") [.ref x, b]) R E s := fun {R} hR =>
    wpAny_call (codeAny_call_builtin F.cmp_object.ne.plain F.cmpEntry_ne (check_slot F.cmpKind_ne F.cmpSplit_ne (I.type.andThen (looks_mroIn X hm)) (F.cmpArgs_ne _ _)
      (ne_body hu X I he hf (wpAny_mono h (fun v s' z => by
        obtain ⟨c, e, q⟩ := z
        exact ⟨c, e, hR _ _ q⟩) fun _ _ e => e))))
  have one : wpAny (model prog w) A (tryCompare (.ref x) "__ne__" b) (fun r s' => ∃ v, r = some v ∧ Q v s') E s := by
    unfold tryCompare
    simp only [callSpecialIfBound?, bindSpecialIfBound?]
    refine wpAny_bind (wpAny_holding (wpAny_bind (wpAny_bind (wpAny_bind (I.type.here ((looks_findIn X hs).here ?_))))))
    refine wpAny_bind (wpAny_askSetting (wpAny_ite ?_))
    have fin := inner (R := fun v s' => wpAny (model prog w) A (pure (some v)) (fun r s'' => wpAny (model prog w) A (match r with | some .notImplemented | none => pure none | some v => pure (some v)) (fun r s' => ∃ v, r = some v ∧ Q v s') E s'') E s') (fun c s' q => wpAny_pure (wpAny_pure ⟨_, rfl, q⟩))
    split
    · exact wpAny_bind (wpAny_of_eq (F.cmp_object.ne.bind _) (wpAny_pure (by exact wpAny_bind fin)))
    · exact wpAny_tryCatch (wpAny_bind (wpAny_of_eq (F.cmp_object.ne.bind _) (wpAny_pure (by exact wpAny_bind fin))))
  unfold richCompare
  simp only [oneThing_ref]
  refine wpAny_holding (wpAny_bind (wpAny_cRoomFor hu0 ?_))
  refine wpAny_bind (I.type.here (wpAny_bind (hb.here ?_)))
  split
  · rename_i q
    have e : subIn K tb (.ref C) = some false := by
      rcases Bool.or_eq_true_iff.mp hn with e | e
      · rw [beq_iff_eq.mp e] at q; simp at q
      · exact beq_iff_eq.mp e
    refine wpAny_bind ((looks_subIn X e).here ?_)
    simp only [Bool.false_eq_true, if_false]
    refine wpAny_bind (wpAny_mono one (fun r s' z => ?_) fun _ _ e => e)
    obtain ⟨v, rfl, hq⟩ := z
    exact wpAny_pure hq
  · refine wpAny_bind (wpAny_pure ?_)
    simp only [Bool.false_eq_true, if_false]
    refine wpAny_bind (wpAny_mono one (fun r s' z => ?_) fun _ _ e => e)
    obtain ⟨v, rfl, hq⟩ := z
    exact wpAny_pure hq
end
section
variable {X : Cx} {CX : CXT} {k : Nat} {C : Addr} {sp : Sp} {E : L2.St → XK}
/-- x != y, where the class has an == of its own and no != -/
def rOwnNe (K : PySem.W.Frag) (C : Addr) (sp : Sp) : (L2.St → XK) → L2.St → V → V → Hp → VK → Prop := fun E σ x y H Q => ∃ a dx fs, x = .ref a ∧ H a = some (.ins C dx fs) ∧ OtherT K C H y ∧ sp [x, y] H (fun z H' => ∃ c, z = .bl c ∧ Q (.bl (!c)) H') (E σ)
theorem pe_neOwn {a b : Expr} {ta tb : TE} {pos : Pos} (F : Two X CX k C "__eq__" sp) (hs : PySem.W.findIn X.K (.ref C) "__ne__" = some (some (.builtin "object.__ne__"))) (ho : PySem.W.mroIn X.K C (.type "object") = some true) (hr : Room (k + 1) X.A) (hx : ∀ σ, PassesAt CX X σ (E σ)) (ha : PE X a ta) (hb : PE X b tb) (hm : behindInMarks .NotEq b = false) :
    PE X (.Compare a [.NotEq] [b] pos) (tOp2 (rOwnNe X.K C sp) E ta tb) := by
  obtain ⟨f, fd, ps, M, F, B⟩ := F.ex
  refine ⟨fun pins s σ H Q I h => ?_⟩
  refine wpAny_Compare1 (binT ha hb I h fun v u s2 x y H2 I2 rx ry q => ?_) hm
  obtain ⟨a, dx, fs, rfl, e, o, q⟩ := q
  cases rx
  obtain ⟨ox, od, J⟩ := own_at I2 e
  obtain ⟨tb, L, nf⟩ := other_looks (M := model X.prog X.w) I2 ry o fun _ _ _ _ _ => trivial
  show wpAny _ _ (richCompare .NotEq _ _) _ _ _
  refine ne_by_eq hr.in1.units0 hr.units0 I2.kIn J L nf ho hs M.at_ M.fn ?_
  refine wpAny_mono (own_run (us := [.ref a, u]) (vs := [.ref a, y]) F hr.in1 I2.env0.in1 B (hx σ) I2 (.cons rfl (.cons ry .nil)) q) (fun w s' z => ?_) fun _ _ z => z
  obtain ⟨z, H3, I3, rz, c, rfl, qz⟩ := z
  cases (show w = Value.bool c from rz)
  exact ⟨c, rfl, .bl (!c), H3, I3, rfl, qz⟩
end
/-! readings, step by step -/
section
variable {K : PySem.W.Frag} {C a dx : Addr} {fs : List (Str × V)} {sp : Sp} {E : L2.St → XK} {σ : L2.St} {y : V} {H : Hp} {Q : VK} {nm : String}
theorem r_op2 {r : (L2.St → XK) → L2.St → V → V → Hp → VK → Prop} {ta tb : TE} (h : ta σ H fun x H1 => tb σ H1 fun y H2 => r E σ x y H2 Q) : tOp2 r E ta tb σ H Q := h
theorem r_own2 (e : H a = some (.ins C dx fs)) (h : sp [.ref a, y] H Q (E σ)) : rOwn2 C sp E σ (.ref a) y H Q := ⟨a, dx, fs, rfl, e, h⟩
theorem r_ownC (e : H a = some (.ins C dx fs)) (o : OtherT K C H y) (h : sp [.ref a, y] H Q (E σ)) : rOwnC K C sp E σ (.ref a) y H Q := ⟨a, dx, fs, rfl, e, o, h⟩
theorem r_ownB (e : H a = some (.ins C dx fs)) (o : OtherB K C H nm y) (h : sp [.ref a, y] H Q (E σ)) : rOwnB K C nm sp E σ (.ref a) y H Q := ⟨a, dx, fs, rfl, e, o, h⟩
theorem r_ownNe (e : H a = some (.ins C dx fs)) (o : OtherT K C H y) (h : sp [.ref a, y] H (fun z H' => ∃ c, z = .bl c ∧ Q (.bl (!c)) H') (E σ)) : rOwnNe K C sp E σ (.ref a) y H Q := ⟨a, dx, fs, rfl, e, o, h⟩
theorem r_ownIn (e : H a = some (.ins C dx fs)) (h : sp [.ref a, y] H (fun z H' => ∃ c, z = .bl c ∧ Q (.bl c) H') (E σ)) : rOwnIn C sp false E σ y (.ref a) H Q := ⟨a, dx, fs, rfl, e, h⟩
theorem r_ownLen (e : H a = some (.ins C dx fs)) (h : sp [.ref a] H (fun z H' => ∃ n : Nat, z = .int n ∧ n < 2 ^ 63 ∧ Q (.int n) H') (E σ)) : rOwnLen C sp E σ [.ref a] H Q := ⟨a, dx, fs, rfl, e, h⟩
end
end Pk
set_option Elab.async false
set_option linter.all false
set_option maxRecDepth 100000
set_option maxHeartbeats 200000
namespace Pk
open PySem L2 PySem.Spec PyProof.Rows
section
open PySem.W PySem.Calls
variable {prog : Program} {w : World} {A : Around} {E : Value → Shared → Prop} {s : Shared} {K : Frag} {x f C : Addr} {ox : Obj} {od : Option Obj} {i : Int} {t : Tok}
/-- int's product with an instance: declined -/
theorem mul_no {c : Value} {dd : Option Addr} {sl : Array (Option Value)} {Q : Value → Shared → Prop} (hx : s.heap.get? x = some ⟨c, dd, .plain, sl⟩) (h : Q .notImplemented s) : wpAny (model prog w) A (call (.builtin "int.__mul__") [.int i t, .ref x]) Q E s := by
  refine wpAny_call (codeAny_call_builtin F.slot_int_mul.plain F.entry_int_mul (F.slot_int_mul.check _ _ _ _ _ _ _ _ (typeIs_int s i t) (F.args_int_mul_2 _ _) ?_))
  obtain ⟨hp, g, d, tk, os⟩ := s
  unfold Builtin.«int.__mul__» Builtin.Int.intBinary
  repeat (first
    | exact h
    | with_reducible refine wpAny_load hx ?_
    | wp_step)
theorem try_mul_int {nm : Str} {c : Value} {dd : Option Addr} {sl : Array (Option Value)} {Q : Option Value → Shared → Prop} (L : Slot "int" nm "int.__mul__") (hx : s.heap.get? x = some ⟨c, dd, .plain, sl⟩) (h : Q none s) : wpAny (model prog w) A (tryMethod (.int i t) nm (.ref x)) Q E s :=
  wpAny_tryMethod_declines (typeIs_int s i t) L (mul_no hx ⟨rfl, h⟩)
/-- a ⊕ x by x's own reflected method, a of a built-in class that has none of its own, or declines -/
theorem bin_back {op : Operator} {a : Value} {T : String} {lb : Bool} {g0 : Addr} {Q : Value → Shared → Prop} (X : K.In s.heap) (I : InstAt s.heap x ox C od) (hta : typeOf a = pure (.type T)) (hl : fillsNumberSlot (.type T) op.info.2 = pure lb) (hc : selfFirst K C = true)
    (hs : findIn K (.ref C) (PySem.dunder op.info.2) = some (some (.ref g0))) (hr : findIn K (.ref C) (dunderR op.info.2) = some (some (.ref f))) (hf : isFn K (.ref f) = true) (hsub : subIn K (.ref C) (.type T) = some false)
    (no : lb = true → ∀ {R : Option Value → Shared → Prop}, R none s → wpAny (model prog w) A (tryMethod a (PySem.dunder op.info.2) (.ref x)) R E s)
    (h : wpAny (model prog w) A (call (.ref f) [.ref x, a]) (PySem.W.CmpBack Q) E s) : wpAny (model prog w) A (binaryOp op a (.ref x)) Q E s := by
  obtain ⟨cd, rest, hcd, hm⟩ := ksp_first hc
  rcases hi : op.info with ⟨sym, nm'⟩
  rw [hi] at hs hr hl no
  dsimp only at hs hr hl no
  have one := ksp_try X I hr hf h
  obtain ⟨hh, g, d, tt, os⟩ := s
  have a1 : Looks (model prog w) hh (typeOf (.ref x)) (.ref C) := I.type
  have a2 : Looks (model prog w) hh (typeOf a) (.type T) := Looks.of_pure hta
  have a3 : Looks (model prog w) hh (fillsNumberSlot (.ref C) nm') true := fills_K X hcd hm hs
  have a4 : Looks (model prog w) hh (fillsNumberSlot (.type T) nm') lb := Looks.of_pure hl
  have a5 : Looks (model prog w) hh (isSubtype (.ref C) (.type T)) false := looks_subIn X hsub
  have a7 : Looks (model prog w) hh (numberSlotInPython (.type T) nm') false := Looks.of_pure rfl
  have ne : (Value.type T == Value.ref C) = false := Bool.eq_false_iff.mpr fun q => by cases beq_iff_eq.mp q
  simp only [binaryOp, hi]
  refine wpAny_holding (wpAny_bind ?_)
  unfold binaryOp1
  refine wpAny_bind (a2.at (wpAny_bind (a1.at (wpAny_bind (a4.at ?_)))))
  simp only [ne, Bool.false_eq_true, if_false]
  cases lb with
  | false =>
    ksp_lk
    refine wpAny_mono one (fun r s' hr' => ?_) fun _ _ e => e
    obtain ⟨v, rfl, hq⟩ := hr'
    ksp_lk
    exact hq
  | true =>
    ksp_lk
    refine no rfl ?_
    ksp_lk
    refine wpAny_mono one (fun r s' hr' => ?_) fun _ _ e => e
    obtain ⟨v, rfl, hq⟩ := hr'
    ksp_lk
    exact hq
end
theorem slot_mul_lit : Slot "int" ("__mul__" : Str) "int.__mul__" := by
  have e : PySem.dunder "mul" = ("__mul__" : Str) := by decide +kernel
  rw [← e]
  exact PySem.F.slot_int_mul
section
variable {X : Cx} {CX : CXT} {k : Nat} {C g0 : Addr} {sp : Sp} {E : L2.St → XK}
/-- i * x by the own __rmul__, i an int -/
def rMulBack (C : Addr) (sp : Sp) : (L2.St → XK) → L2.St → V → V → Hp → VK → Prop := fun E σ y x H Q => ∃ a dx fs i, x = .ref a ∧ y = .int i ∧ H a = some (.ins C dx fs) ∧ sp [x, y] H Q (E σ)
theorem pe_mulBack {op : Operator} {a b : Expr} {ta tb : TE} {pos : Pos} (hop : op = .Mult) (F : Two X CX k C "__rmul__" sp) (hc : PySem.W.selfFirst X.K C = true) (hs : PySem.W.findIn X.K (.ref C) "__mul__" = some (some (.ref g0))) (hsub : PySem.W.subIn X.K (.ref C) (.type "int") = some false)
    (hr : Room k X.A) (hx : ∀ σ, PassesAt CX X σ (E σ)) (ha : PE X a ta) (hb : PE X b tb) : PE X (.BinOp a op b pos) (tOp2 (rMulBack C sp) E ta tb) := by
  obtain ⟨f, fd, ps, M, F, B⟩ := F.ex
  refine ⟨fun pins s σ H Q I h => ?_⟩
  refine wpAny_BinOp (binT ha hb I h fun v u s2 y x H2 I2 ry rx q => ?_)
  obtain ⟨a, dx, fs, i, rfl, rfl, e, q⟩ := q
  cases rx
  obtain ⟨t, rfl⟩ := (show ∃ t, v = Value.int i t from ry)
  obtain ⟨mA, J0, _⟩ := ins_get I2.hok e
  obtain ⟨od, J, _⟩ := J0.look
  have run := wpAny_mono (own_run (us := [.ref a, .int i t]) (vs := [.ref a, .int i]) F hr I2.env0 B (hx σ) I2 (.cons rfl (.cons ⟨t, rfl⟩ .nil)) q) (Q' := PySem.W.CmpBack (EP X pins σ Q)) (fun w s' z => by
    obtain ⟨z, H3, I3, rz, qz⟩ := z
    exact SlX.cmpback rz ⟨z, H3, I3, rz, qz⟩) fun _ _ z => z
  have e0 : op.info.2 = "mul" := by rw [hop]; rfl
  have e1 : PySem.dunder op.info.2 = ("__mul__" : Str) := by rw [e0]; decide +kernel
  have e2 : dunderR op.info.2 = ("__rmul__" : Str) := by rw [e0]; decide +kernel
  have k1 : PySem.W.findIn X.K (.ref C) (PySem.dunder op.info.2) = some (some (.ref g0)) := by rw [e1]; exact hs
  have k2 : PySem.W.findIn X.K (.ref C) (dunderR op.info.2) = some (some (.ref f)) := by rw [e2]; exact M.at_
  have k3 : fillsNumberSlot (.type "int") op.info.2 = pure true := by rw [e0]; exact PySem.F.fills_int_mul
  have k5 : Slot "int" (PySem.dunder op.info.2) "int.__mul__" := by rw [e1]; exact slot_mul_lit
  have kT : typeOf (.int i t) = pure (.type "int") := rfl
  exact bin_back I2.kIn J kT k3 hc k1 k2 M.fn hsub (fun _ {R} hR => try_mul_int k5 J0.obj hR) run
theorem r_mulBack {σ : L2.St} {H : Hp} {Q : VK} {a dx : Addr} {fs : List (Str × V)} {i : Int} (e : H a = some (.ins C dx fs)) (h : sp [.ref a, .int i] H Q (E σ)) : rMulBack C sp E σ (.int i) (.ref a) H Q := ⟨a, dx, fs, i, rfl, rfl, e, h⟩
end
section
open PySem.W PySem.Calls
variable {prog : Program} {w : World} {A : Around} {E : Value → Shared → Prop} {s : Shared} {x : Addr} {b : Bool}
/-- a bool's product with an instance: declined -/
theorem mul_noB {c : Value} {dd : Option Addr} {sl : Array (Option Value)} {Q : Value → Shared → Prop} (hx : s.heap.get? x = some ⟨c, dd, .plain, sl⟩) (h : Q .notImplemented s) : wpAny (model prog w) A (call (.builtin "int.__mul__") [.bool b, .ref x]) Q E s := by
  refine wpAny_call (codeAny_call_builtin PySem.F.slot_int_mul.plain PySem.F.entry_int_mul (PySem.F.slot_bool_mul.check _ _ _ _ _ _ _ _ (PySem.typeIs_bool s b) (PySem.F.args_int_mul_2 _ _) ?_))
  obtain ⟨hp, g, d, tk, os⟩ := s
  unfold Builtin.«int.__mul__» Builtin.Int.intBinary
  repeat (first
    | exact h
    | with_reducible refine wpAny_load hx ?_
    | wp_step)
theorem try_mul_bool {nm : Str} {c : Value} {dd : Option Addr} {sl : Array (Option Value)} {Q : Option Value → Shared → Prop} (L : Slot "bool" nm "int.__mul__") (hx : s.heap.get? x = some ⟨c, dd, .plain, sl⟩) (h : Q none s) : wpAny (model prog w) A (tryMethod (.bool b) nm (.ref x)) Q E s :=
  wpAny_tryMethod_declines (PySem.typeIs_bool s b) L (mul_noB hx ⟨rfl, h⟩)
theorem slot_mul_litB : Slot "bool" ("__mul__" : Str) "int.__mul__" := by
  have e : PySem.dunder "mul" = ("__mul__" : Str) := by decide +kernel
  rw [← e]
  exact PySem.F.slot_bool_mul
end
section
variable {X : Cx} {CX : CXT} {k : Nat} {C g0 : Addr} {sp : Sp} {E : L2.St → XK}
/-- y * x by the own __rmul__, y a number, a truth, a text or none -/
def Plain1 (y : V) : Prop := (∃ i, y = .int i) ∨ (∃ b, y = .bl b) ∨ (∃ z, y = .str z) ∨ y = .non
def rMulAny (C : Addr) (sp : Sp) : (L2.St → XK) → L2.St → V → V → Hp → VK → Prop := fun E σ y x H Q => ∃ a dx fs, x = .ref a ∧ Plain1 y ∧ H a = some (.ins C dx fs) ∧ sp [x, y] H Q (E σ)
theorem none_mul : fillsNumberSlot (.type "NoneType") "mul" = pure false := by
  unfold fillsNumberSlot
  have a : typeLookup (.type "NoneType") (PySem.dunder "mul") = pure none := by rw [typeLookup_type, builtinLookup_eq_fast]; kernel_rfl
  have b : typeLookup (.type "NoneType") (dunderR "mul") = pure none := by rw [typeLookup_type, builtinLookup_eq_fast]; kernel_rfl
  simp only [a, b, pure_bind]
  rfl
theorem pe_mulAny {op : Operator} {a b : Expr} {ta tb : TE} {pos : Pos} (hop : op = .Mult) (F : Two X CX k C "__rmul__" sp) (hc : PySem.W.selfFirst X.K C = true) (hs : PySem.W.findIn X.K (.ref C) "__mul__" = some (some (.ref g0)))
    (hi : PySem.W.subIn X.K (.ref C) (.type "int") = some false) (hbo : PySem.W.subIn X.K (.ref C) (.type "bool") = some false) (hst : PySem.W.subIn X.K (.ref C) (.type "str") = some false) (hno : PySem.W.subIn X.K (.ref C) (.type "NoneType") = some false)
    (hr : Room k X.A) (hx : ∀ σ, PassesAt CX X σ (E σ)) (ha : PE X a ta) (hb : PE X b tb) : PE X (.BinOp a op b pos) (tOp2 (rMulAny C sp) E ta tb) := by
  obtain ⟨f, fd, ps, M, F, B⟩ := F.ex
  refine ⟨fun pins s σ H Q I h => ?_⟩
  refine wpAny_BinOp (binT ha hb I h fun v u s2 y x H2 I2 ry rx q => ?_)
  obtain ⟨a, dx, fs, rfl, py, e, q⟩ := q
  cases rx
  obtain ⟨mA, J0, _⟩ := ins_get I2.hok e
  obtain ⟨od, J, _⟩ := J0.look
  have run := wpAny_mono (own_run (us := [.ref a, v]) (vs := [.ref a, y]) F hr I2.env0 B (hx σ) I2 (.cons rfl (.cons ry .nil)) q) (Q' := PySem.W.CmpBack (EP X pins σ Q)) (fun w s' z => by
    obtain ⟨z, H3, I3, rz, qz⟩ := z
    exact SlX.cmpback rz ⟨z, H3, I3, rz, qz⟩) fun _ _ z => z
  have e0 : op.info.2 = "mul" := by rw [hop]; rfl
  have e1 : PySem.dunder op.info.2 = ("__mul__" : Str) := by rw [e0]; decide +kernel
  have e2 : dunderR op.info.2 = ("__rmul__" : Str) := by rw [e0]; decide +kernel
  have k1 : PySem.W.findIn X.K (.ref C) (PySem.dunder op.info.2) = some (some (.ref g0)) := by rw [e1]; exact hs
  have k2 : PySem.W.findIn X.K (.ref C) (dunderR op.info.2) = some (some (.ref f)) := by rw [e2]; exact M.at_
  rcases py with ⟨i, rfl⟩ | ⟨i, rfl⟩ | ⟨i, rfl⟩ | rfl
  · obtain ⟨t, rfl⟩ := (show ∃ t, v = Value.int i t from ry)
    have k3 : fillsNumberSlot (.type "int") op.info.2 = pure true := by rw [e0]; exact PySem.F.fills_int_mul
    have k5 : Slot "int" (PySem.dunder op.info.2) "int.__mul__" := by rw [e1]; exact slot_mul_lit
    have kT : typeOf (.int i t) = pure (.type "int") := rfl
    exact bin_back I2.kIn J kT k3 hc k1 k2 M.fn hi (fun _ {R} hR => try_mul_int k5 J0.obj hR) run
  · cases (show v = Value.bool i from ry)
    have k3 : fillsNumberSlot (.type "bool") op.info.2 = pure true := by rw [e0]; exact PySem.F.fills_bool_mul
    have k5 : Slot "bool" (PySem.dunder op.info.2) "int.__mul__" := by rw [e1]; exact slot_mul_litB
    have kT : typeOf (.bool i) = pure (.type "bool") := rfl
    exact bin_back I2.kIn J kT k3 hc k1 k2 M.fn hbo (fun _ {R} hR => try_mul_bool k5 J0.obj hR) run
  · obtain ⟨t, rfl⟩ := (show ∃ t, v = Value.str i t from ry)
    have k3 : fillsNumberSlot (.type "str") op.info.2 = pure false := by rw [e0]; exact noFill_str_mul
    have kT : typeOf (.str i t) = pure (.type "str") := rfl
    exact bin_back I2.kIn J kT k3 hc k1 k2 M.fn hst (fun z => Bool.noConfusion z) run
  · cases (show v = Value.none from ry)
    have k3 : fillsNumberSlot (.type "NoneType") op.info.2 = pure false := by rw [e0]; exact none_mul
    have kT : typeOf .none = pure (.type "NoneType") := rfl
    exact bin_back I2.kIn J kT k3 hc k1 k2 M.fn hno (fun z => Bool.noConfusion z) run
theorem r_mulAny {σ : L2.St} {H : Hp} {Q : VK} {a dx : Addr} {fs : List (Str × V)} {y : V} (e : H a = some (.ins C dx fs)) (py : Plain1 y) (h : sp [.ref a, y] H Q (E σ)) : rMulAny C sp E σ y (.ref a) H Q := ⟨a, dx, fs, rfl, py, e, h⟩
end
end Pk
set_option Elab.async false
set_option linter.all false
set_option maxRecDepth 100000
set_option maxHeartbeats 1000000
namespace Pk
open PySem L2
section
variable {K : PySem.W.Frag} {σ : L2.St} {H : Hp} {Q : VK} {D : Ends} {a C dx : Addr} {fs : List (Str × V)} {f g : Str} {v u : V} {i : Nat} {ta tv : TE}
/-- an attribute is read -/
theorem r_fldU (h : ta σ H fun x H1 => ∃ a C dx fs v, x = .ref a ∧ H1 a = some (.ins C dx fs) ∧ Cls K C ∧ NoAttr K C f ∧ fs.lookup f = some v ∧ Q v H1) : tFld K ta f σ H Q := h
theorem r_fld0 (o : H a = some (.ins C dx fs)) (c : Cls K C) (n : NoAttr K C f) (l : fs.lookup f = some v) (h : Q v H) : ∃ b C dx fs v, V.ref a = .ref b ∧ H b = some (.ins C dx fs) ∧ Cls K C ∧ NoAttr K C f ∧ fs.lookup f = some v ∧ Q v H := ⟨a, C, dx, fs, v, rfl, o, c, n, l, h⟩
theorem r_fldV (e : σ[i]? = some (some (.ref a))) (o : H a = some (.ins C dx fs)) (c : Cls K C) (n : NoAttr K C f) (l : fs.lookup f = some v) (h : Q v H) : tFld K (tVar i) f σ H Q := ⟨.ref a, e, a, C, dx, fs, v, rfl, o, c, n, l, h⟩
/-- .. is set -/
theorem r_sFldU (h : tv σ H fun y H1 => ta σ H1 fun x H2 => ∃ a C dx fs, x = .ref a ∧ H2 a = some (.ins C dx fs) ∧ Cls K C ∧ NoAttr K C f ∧ fs.length < 1000 ∧ D.nx σ (upd H2 a (.ins C dx (putF f y fs)))) : sFld K ta tv f D σ H := h
theorem r_sFld0 {P : Hp → Prop} {y : V} (o : H a = some (.ins C dx fs)) (c : Cls K C) (n : NoAttr K C f) (l : fs.length < 1000) (h : P (upd H a (.ins C dx (putF f y fs)))) :
    ∃ b C dx fs, V.ref a = .ref b ∧ H b = some (.ins C dx fs) ∧ Cls K C ∧ NoAttr K C f ∧ fs.length < 1000 ∧ P (upd H b (.ins C dx (putF f y fs))) := ⟨a, C, dx, fs, rfl, o, c, n, l, h⟩
/-- a method of an own class is called -/
theorem r_methU {m : Str} {sp : Sp} {dvs : List V} {E : XK} {t : TA} (h : ta σ H fun x H1 => ∃ a dx fs, x = .ref a ∧ H1 a = some (.ins C dx fs) ∧ fs.lookup m = none ∧ t σ H1 fun vs H2 => sp (x :: (vs ++ dvs)) H2 Q E) : tMeth C m sp dvs E ta t σ H Q := h
/-- a < b < c -/
theorem r_chain {r r' : R2} {tc : TE} (h : ta σ H fun x H1 => tv σ H1 fun y H2 => r x y H2 fun z H3 => ∃ k, z = .bl k ∧ (if k = true then tc σ H3 fun w H4 => r' y w H4 Q else Q (.bl false) H3)) : tChain r r' ta tv tc σ H Q := h
theorem ifT {c : Bool} {A B : Prop} (hc : c = true) (h : A) : if c = true then A else B := by rw [if_pos hc]; exact h
theorem ifF {c : Bool} {A B : Prop} (hc : c = false) (h : B) : if c = true then A else B := by rw [hc, if_neg Bool.false_ne_true]; exact h
/-- enumerate(list) in a for -/
theorem r_enum {ta : TA} {R : It → Hp → Prop} (h : ta σ H fun vs H1 => ∃ a xs, vs = [.ref a] ∧ SqL K H1 a xs ∧ R (Ite K a) H1) : iEnum K ta σ H R := h
theorem r_zip {ta : TA} {R : It → Hp → Prop} (h : ta σ H fun vs H1 => ∃ a b xs ys, vs = [.ref a, .ref b] ∧ SqL K H1 a xs ∧ SqL K H1 b ys ∧ R (Itz K a b) H1) : iZip K ta σ H R := h
theorem r_gtup {n : Nat} {t : TGs} {R : L2.St → Hp → Prop} (h : ∃ a xs, v = .ref a ∧ SqT K H a xs ∧ xs.length = n ∧ t xs σ H R) : gTup K n t v σ H R := h
theorem int_at {ms : List Int} {i : Nat} {y : V} (h : (ms.map V.int)[i]? = some y) : ∃ m, m ∈ ms ∧ y = .int m := by
  rw [List.getElem?_map] at h
  cases e : ms[i]? with
  | none => rw [e] at h; cases h
  | some m => rw [e] at h; exact ⟨m, List.mem_of_getElem? e, (Option.some.inj h).symm⟩
theorem int_get {ms : List Int} {i : Nat} {y : V} (h : (ms.map V.int)[i]? = some y) : y = .int (ms.getD i 0) := by
  rw [List.getElem?_map] at h
  cases e : ms[i]? with
  | none => rw [e] at h; cases h
  | some m => rw [e] at h; rw [List.getD_eq_getElem?_getD, e]; exact (Option.some.inj h).symm
/-- two attributes -/
theorem two_put (hfg : (f == g) = false) (e : ¬ f = g) : putF g u (putF f v []) = [(f, v), (g, u)] := by
  show putF g u [(f, v)] = _
  rw [show putF g u [(f, v)] = (f, v) :: putF g u [] from if_neg e]
  rfl
theorem two_fst : List.lookup f [(f, v), (g, u)] = some v := by simp [List.lookup]
theorem two_snd (hfg : (g == f) = false) : List.lookup g [(f, v), (g, u)] = some u := by simp [List.lookup, hfg]
theorem two_no {m : Str} (h1 : (m == f) = false) (h2 : (m == g) = false) : List.lookup m [(f, v), (g, u)] = none := by simp [List.lookup, h1, h2]
theorem ite_and {c d : Bool} {A B : Prop} (h : if (c && d) = true then A else B) : if c = true then (if d = true then A else B) else B := by
  cases c <;> cases d <;> simpa using h
end
/-- what isinstance asks of an own class -/
structure OwnC (K : PySem.W.Frag) (C : Addr) : Prop where
  cl : Cls K C
  ha : PySem.W.findIn K (.ref C) "__class__" = some (some (.builtin "object.__class__"))
  hn : PySem.W.specialIn K (.builtin "object.__class__") "__get__" = some (some (.builtin "getset_descriptor.__get__"))
  htk : PySem.W.takesIn K (.builtin "object.__class__") = some true
  hm : PySem.W.mroIn K C (.type "object") = some true
  isC : PySem.W.isClsIn K C = true
  ty : PySem.W.typeIn K (.ref C) = some (.type "type")
  sub : ∀ T : String, T ∈ (["NoneType", "int", "bool", "str", "list", "tuple", "dict"] : List String) → PySem.W.subIn K (.type T) (.ref C) = some false
theorem OwnC.of {K : PySem.W.Frag} {C : Addr} (pg : PySem.W.plainGet K C Str.empty = true) (hd : PySem.W.hasDictIn K C = true) (po : PySem.W.plainOver K C = true) (sa : PySem.W.findIn K (.ref C) "__setattr__" = some (some (.builtin "object.__setattr__")))
    (ha : PySem.W.findIn K (.ref C) "__class__" = some (some (.builtin "object.__class__"))) (hn : PySem.W.specialIn K (.builtin "object.__class__") "__get__" = some (some (.builtin "getset_descriptor.__get__"))) (htk : PySem.W.takesIn K (.builtin "object.__class__") = some true)
    (hm : PySem.W.mroIn K C (.type "object") = some true) (isC : PySem.W.isClsIn K C = true) (ty : PySem.W.typeIn K (.ref C) = some (.type "type")) (s1 : PySem.W.subIn K (.type "NoneType") (.ref C) = some false) (s2 : PySem.W.subIn K (.type "int") (.ref C) = some false)
    (s3 : PySem.W.subIn K (.type "bool") (.ref C) = some false) (s4 : PySem.W.subIn K (.type "str") (.ref C) = some false) (s5 : PySem.W.subIn K (.type "list") (.ref C) = some false) (s6 : PySem.W.subIn K (.type "tuple") (.ref C) = some false) (s7 : PySem.W.subIn K (.type "dict") (.ref C) = some false) : OwnC K C :=
  ⟨⟨pg, hd, po, sa⟩, ha, hn, htk, hm, isC, ty, fun T h => by
    simp only [List.mem_cons, List.not_mem_nil, or_false] at h
    rcases h with rfl | rfl | rfl | rfl | rfl | rfl | rfl
    · exact s1
    · exact s2
    · exact s3
    · exact s4
    · exact s5
    · exact s6
    · exact s7⟩
section
variable {K : PySem.W.Frag} {C a dx : Addr} {fs : List (Str × V)} {H : Hp} {Q : VK} {x : V} {T : String}
theorem OwnC.tyx (c : OwnC K C) (e : H a = some (.ins C dx fs)) : TyX K H (.ref a) (.ref C) := .base (.ins e c.cl c.ha c.hn c.htk c.hm)
/-- isinstance(x, the own class) -/
theorem r_isiSelf (c : OwnC K C) (e : H a = some (.ins C dx fs)) (h : Q (.bl true) H) : rIsi K [.ref a, .ref C] H Q :=
  ⟨.ref a, .ref C, _, _, true, rfl, .own C, c.tyx e, by unfold PySem.W.kitOne; rw [if_pos (by simp)], h⟩
theorem OwnC.kit (c : OwnC K C) (h : T ∈ (["NoneType", "int", "bool", "str", "list", "tuple", "dict"] : List String)) : PySem.W.kitOne K (.type T) (.ref C) = some false := by
  unfold PySem.W.kitOne PySem.W.kitCls
  have h1 : (PySem.W.clsIn K C).isSome = true := c.isC
  simp only [h1, c.ty, c.sub T h]
  rfl
theorem r_isiNo (c : OwnC K C) (t : TyX K H x (.type T)) (m : T ∈ (["NoneType", "int", "bool", "str", "list", "tuple", "dict"] : List String)) (h : Q (.bl false) H) : rIsi K [x, .ref C] H Q :=
  ⟨x, .ref C, _, _, false, rfl, .own C, t, c.kit m, h⟩
end
/-! ### lists of ints are compared -/
section
variable {K : PySem.W.Frag} {H : Hp} {Q : VK} {a b : Addr} {ms ns : List Int}
theorem ints_all (ns : List Int) : DpAll K H (ns.map V.int) (ns.map PyData.int) := by
  induction ns with
  | nil => exact .nil
  | cons n r ih => exact .cons (.int n) ih
theorem Dp.ints (h : SqL K H a (ns.map V.int)) : Dp K H (.ref a) (.list (ns.map PyData.int)) := .lst h (ints_all ns)
theorem eqv_ints : PyData.eqv (.list (ms.map PyData.int)) (.list (ns.map PyData.int)) = decide (ms = ns) := by
  have h := PySem.W.eqvAll_map ms ns
  rw [PyData.eqv]
  exact h
theorem r_eqL (h1 : SqL K H a (ms.map V.int)) (h2 : SqL K H b (ns.map V.int)) (h : Q (.bl (decide (ms = ns))) H) : rEqD K (.ref a) (.ref b) H Q :=
  ⟨_, _, Dp.ints h1, Dp.ints h2, PySem.W.ke_shaped_ints ms, PySem.W.ke_shaped_ints ns, by rw [eqv_ints]; exact h⟩
theorem r_neL (h1 : SqL K H a (ms.map V.int)) (h2 : SqL K H b (ns.map V.int)) (h : Q (.bl (!decide (ms = ns))) H) : rNeD K (.ref a) (.ref b) H Q :=
  ⟨_, _, Dp.ints h1, Dp.ints h2, PySem.W.ke_shaped_ints ms, PySem.W.ke_shaped_ints ns, by rw [eqv_ints]; exact h⟩
end
/-! ### a comprehension: the list at D, by its turns -/
def Out (H1 : Hp) (D : Addr) (out : Nat → V) (i : Nat) (H' : Hp) : Prop := Same H1 H' ∧ H' D = some (.lst ((List.range i).map out))
theorem Out.start {H1 : Hp} {D : Addr} {out : Nat → V} (hD : H1 D = none) : Out H1 D out 0 (upd H1 D (.lst [])) := ⟨Same.up (Same.refl H1) hD, upd_same⟩
theorem Out.more {H1 H H4 : Hp} {D : Addr} {out : Nat → V} {i : Nat} (hD : H1 D = none) (o : Out H1 D out i H) (s : Same H H4) (hi : i < sizeLine) :
    ∃ acc, H4 D = some (.lst acc) ∧ acc.length < sizeLine ∧ Out H1 D out (i + 1) (upd H4 D (.lst (acc ++ [out i]))) := by
  refine ⟨_, s _ _ o.2, by simpa using hi, fun c u e => ?_, ?_⟩
  · have n : c ≠ D := fun z => by rw [z, hD] at e; cases e
    rw [upd_ne n]
    exact s _ _ (o.1 _ _ e)
  · rw [upd_same, List.range_succ, List.map_append]
    rfl
/-! ### x ⊕ y by the own method, the other one no number of ours -/
structure BinC (K : PySem.W.Frag) (C : Addr) (nm : String) (Ts : List String) : Prop where
  sf : PySem.W.selfFirst K C = true
  rc : ∃ rc, PySem.W.findIn K (.ref C) (PySem.dunderR nm) = some rc ∧ (rc = none ∨ ∃ g : Addr, rc = some (.ref g))
  oth : ∀ T : String, T ∈ Ts → ∃ fo ro : Option Value, PySem.W.findIn K (.type T) (PySem.dunder nm) = some fo ∧ PySem.W.findIn K (.type T) (PySem.dunderR nm) = some ro
theorem BinC.other {K : PySem.W.Frag} {C : Addr} {nm T : String} {Ts : List String} {H : Hp} {y : V} (b : BinC K C nm Ts) (O : OwnC K C) (t : TyX K H y (.type T)) (m : T ∈ Ts) (m2 : T ∈ (["NoneType", "int", "bool", "str", "list", "tuple", "dict"] : List String)) : OtherB K C H nm y := by
  obtain ⟨fo, ro, h1, h2⟩ := b.oth T m
  exact .inr ⟨T, fo, ro, t, h1, h2, O.sub T m2⟩
theorem Plain1.ty {K : PySem.W.Frag} {H : Hp} {y : V} (h : Plain1 y) : ∃ T : String, TyX K H y (.type T) ∧ T ∈ (["NoneType", "int", "bool", "str"] : List String) := by
  rcases h with ⟨i, rfl⟩ | ⟨b, rfl⟩ | ⟨z, rfl⟩ | rfl
  · exact ⟨"int", .base (.int i), by simp⟩
  · exact ⟨"bool", .base (.bl b), by simp⟩
  · exact ⟨"str", .base (.str z), by simp⟩
  · exact ⟨"NoneType", .base .non, by simp⟩
end Pk
set_option Elab.async false
set_option linter.all false
set_option maxRecDepth 100000
set_option maxHeartbeats 1000000
namespace Pk
open PySem L2 PySem.Spec PyProof.Rows
theorem pr_depth (z : Pr) : (prD z).depth ≤ 1 := by
  obtain ⟨a, b⟩ := z
  simp [prD, PyData.depth, PyData.depthAll]
theorem prs_depthAll : ∀ zs : List Pr, PyData.depthAll (zs.map prD) ≤ 1
  | [] => by simp [PyData.depthAll]
  | z :: zs => by
    have h1 := prs_depthAll zs
    have h2 := pr_depth z
    simp only [List.map_cons, PyData.depthAll]
    omega
theorem prs_depth (zs : List Pr) : (prsD zs).depth ≤ 2 := by
  have h := prs_depthAll zs
  simp only [prsD, PyData.depth]
  omega
theorem pr_lay (z : Pr) : (prD z).canLay0 = true := by
  obtain ⟨a, b⟩ := z
  simp [prD, PyData.canLay0, PyData.canLayAll0]
theorem prs_layAll : ∀ zs : List Pr, PyData.canLayAll0 (zs.map prD) = true
  | [] => by simp [PyData.canLayAll0]
  | z :: zs => by simp [PyData.canLayAll0, prs_layAll zs, pr_lay z]
theorem pr_shaped (z : Pr) : SeqAt.shaped (prD z) = true := by
  have h := pr_depth z
  simp only [SeqAt.shaped, pr_lay z, Bool.true_and]
  exact decide_eq_true (by omega)
theorem prs_shaped (zs : List Pr) : SeqAt.shaped (prsD zs) = true := by
  have h := prs_depth zs
  have e : (prsD zs).canLay0 = true := by simp only [prsD, PyData.canLay0]; exact prs_layAll zs
  simp only [SeqAt.shaped, e, Bool.true_and]
  exact decide_eq_true (by omega)
theorem pr_plain (z : Pr) : (prD z).plain = true := PySem.W.Datum.plain (α := Int × Int) z
theorem prs_plainAll (zs : List Pr) : PyData.plainAll (zs.map prD) = true := PySem.W.plainAll_map (α := Int × Int) zs
/-- x in a list of pairs -/
def rInP (K : PySem.W.Frag) : R2 := fun x y H Q => ∃ z zs, Dp K H x (prD z) ∧ Dp K H y (prsD zs) ∧ Q (.bl (decide (z ∈ zs))) H
theorem op_inP {X : Cx} (hu : X.A.units + 64 < cLine) : OpR X (compareOp .In) (rInP X.K) := by
  intro pins s σ H x y v u Q I rx ry h
  obtain ⟨z, zs, hd, he, q⟩ := h
  obtain ⟨as, r1⟩ := Dp.reads I _ x v hd rx
  obtain ⟨bs, r2⟩ := Dp.reads I _ y u he ry
  have h1 := prs_depthAll zs
  refine SeqAt.in_list_data r2 r1 (prs_plainAll zs) (pr_plain z) (by omega) ⟨.bl _, H, I, rfl, ?_⟩
  have e := PySem.W.any_datum (α := Int × Int) zs z
  rw [show ((zs.map prD).any fun y => PyData.eqv y (prD z)) = decide (z ∈ zs) from e.trans (decide_eq_decide.mpr Iff.rfl)]
  exact q
/-! ### pairs on the heap -/
/-- the pair z, none of the pool's -/
def PrAt (p : Addr) (H : Hp) (v : V) (z : Pr) : Prop := ∃ t, v = .ref t ∧ t ≠ p ∧ H t = some (.tup [.int z.1, .int z.2])
inductive PrsAt (p : Addr) (H : Hp) : List V → List Pr → Prop
  | nil : PrsAt p H [] []
  | cons {v : V} {z : Pr} {vs : List V} {zs : List Pr} (h : PrAt p H v z) (r : PrsAt p H vs zs) : PrsAt p H (v :: vs) (z :: zs)
section
variable {p : Addr} {H H' : Hp} {v : V} {z : Pr} {vs us : List V} {zs ys : List Pr} {K : PySem.W.Frag} {i : Nat}
theorem PrAt.keep (h : PrAt p H v z) (k : Keep p H H') : PrAt p H' v z := by
  obtain ⟨t, e, n, h⟩ := h
  exact ⟨t, e, n, k _ _ n h⟩
theorem PrsAt.keep (h : PrsAt p H vs zs) (k : Keep p H H') : PrsAt p H' vs zs := by
  induction h with
  | nil => exact .nil
  | cons h _ ih => exact .cons (h.keep k) ih
theorem PrsAt.mono (h : PrsAt p H vs zs) (k : ∀ t xs, H t = some (.tup xs) → H' t = some (.tup xs)) : PrsAt p H' vs zs := by
  induction h with
  | nil => exact .nil
  | cons h _ ih =>
    obtain ⟨t, e, n, h⟩ := h
    exact .cons ⟨t, e, n, k _ _ h⟩ ih
theorem PrsAt.mono2 (h : PrsAt p H vs zs) (k : ∀ t xs, t ≠ p → H t = some (.tup xs) → H' t = some (.tup xs)) : PrsAt p H' vs zs := by
  induction h with
  | nil => exact .nil
  | cons h _ ih =>
    obtain ⟨t, e, n, h⟩ := h
    exact .cons ⟨t, e, n, k _ _ n h⟩ ih
theorem r_rng3 {σ : L2.St} {ta : TA} {R : It → Hp → Prop} (h : ta σ H fun vs H1 => ∃ (i j c : Int) (n : Nat), vs = [.int i, .int j, .int c] ∧ RgC i j c n ∧ R (Itc i c n) H1) : iRng3 ta σ H R := h
theorem PrsAt.length (h : PrsAt p H vs zs) : vs.length = zs.length := by
  induction h with
  | nil => rfl
  | cons _ _ ih => rw [List.length_cons, List.length_cons, ih]
theorem PrAt.dp (h : PrAt p H v z) : Dp K H v (prD z) := by
  obtain ⟨t, rfl, n, h⟩ := h
  exact .tup (SqT.of h) (.cons (.int _) (.cons (.int _) .nil))
theorem PrsAt.dp (h : PrsAt p H vs zs) : DpAll K H vs (zs.map prD) := by
  induction h with
  | nil => exact .nil
  | cons h _ ih => exact .cons h.dp ih
theorem PrsAt.at (h : PrsAt p H vs zs) : ∀ {i : Nat} {v : V}, vs[i]? = some v → ∃ z, zs[i]? = some z ∧ PrAt p H v z := by
  induction h with
  | nil => intro i v e; simp at e
  | cons h _ ih =>
    intro i v e
    cases i with
    | zero => exact ⟨_, rfl, by cases (Option.some.inj e); exact h⟩
    | succ i => exact ih (by simpa using e)
theorem PrsAt.get (h : PrsAt p H vs zs) : ∀ {i : Nat} {z : Pr}, zs[i]? = some z → ∃ v, vs[i]? = some v ∧ PrAt p H v z := by
  induction h with
  | nil => intro i v e; simp at e
  | cons h _ ih =>
    intro i v e
    cases i with
    | zero => exact ⟨_, rfl, by cases (Option.some.inj e); exact h⟩
    | succ i => exact ih (by simpa using e)
theorem PrsAt.take (h : PrsAt p H vs zs) : ∀ n, PrsAt p H (vs.take n) (zs.take n) := by
  induction h with
  | nil => intro n; cases n <;> exact .nil
  | cons h _ ih =>
    intro n
    cases n with
    | zero => exact .nil
    | succ n => exact .cons h (ih n)
theorem PrsAt.drop (h : PrsAt p H vs zs) : ∀ n, PrsAt p H (vs.drop n) (zs.drop n) := by
  induction h with
  | nil => intro n; cases n <;> exact .nil
  | cons h r ih =>
    intro n
    cases n with
    | zero => exact .cons h r
    | succ n => exact ih n
theorem PrsAt.app (h : PrsAt p H vs zs) (g : PrsAt p H us ys) : PrsAt p H (vs ++ us) (zs ++ ys) := by
  induction h with
  | nil => exact g
  | cons h _ ih => exact .cons h ih
theorem PrsAt.set (h : PrsAt p H vs zs) (g : PrAt p H v z) : ∀ i, PrsAt p H (vs.set i v) (zs.set i z) := by
  induction h with
  | nil => intro i; exact .nil
  | cons h r ih =>
    intro i
    cases i with
    | zero => exact .cons g r
    | succ i => exact .cons h (ih i)
end
/-- a list of pairs, none of the pool's -/
structure PL (p : Addr) (H : Hp) (a : Addr) (zs : List Pr) : Prop where
  ne : a ≠ p
  ex : ∃ vs, H a = some (.lst vs) ∧ PrsAt p H vs zs
section
variable {p a : Addr} {H H' : Hp} {zs : List Pr} {K : PySem.W.Frag}
theorem PL.keep (h : PL p H a zs) (k : Keep p H H') : PL p H' a zs := by
  obtain ⟨n, vs, e, r⟩ := h
  exact ⟨n, vs, k _ _ n e, r.keep k⟩
theorem PL.same (h : PL p H a zs) (k : Same H H') : PL p H' a zs := h.keep (Keep.same k)
theorem PL.dp (h : PL p H a zs) : Dp K H (.ref a) (prsD zs) := by
  obtain ⟨n, vs, e, r⟩ := h
  exact .lst (SqL.of e) r.dp
end
/-! ### the order of lists of pairs -/
theorem prLt_tri (x y : Pr) (n : x ≠ y) : prLt x y = !prLt y x := by
  obtain ⟨a, b⟩ := x
  obtain ⟨c, d⟩ := y
  simp only [prLt]
  by_cases h1 : a < c
  · have : ¬ c < a := by omega
    have : ¬ c = a := by omega
    simp [h1, *]
  · by_cases h2 : a = c
    · subst h2
      have : b ≠ d := fun z => n (by rw [z])
      by_cases h3 : b < d
      · have : ¬ d < b := by omega
        simp [h3, this]
      · have : d < b := by omega
        simp [h3, this]
    · have : c < a := by omega
      simp [h1, h2, this]
theorem prLt_trans {x y z : Pr} (h : prLt x y = true) (g : prLt y z = true) : prLt x z = true := by
  simp only [prLt, Bool.or_eq_true, Bool.and_eq_true, decide_eq_true_eq] at *
  omega
theorem prLt_irr (x : Pr) : prLt x x = false := by simp [prLt]
theorem lexB_self : ∀ xs : List Pr, lexB xs xs = false
  | [] => rfl
  | x :: xs => by rw [lexB, if_pos rfl, lexB_self xs]
theorem lexB_tri : ∀ xs ys : List Pr, xs ≠ ys → lexB xs ys = !lexB ys xs
  | [], [], n => absurd rfl n
  | [], _ :: _, _ => rfl
  | _ :: _, [], _ => rfl
  | x :: xs, y :: ys, n => by
    rw [lexB, lexB]
    by_cases e : x = y
    · subst e
      rw [if_pos rfl, if_pos rfl]
      exact lexB_tri xs ys fun z => n (by rw [z])
    · rw [if_neg e, if_neg (Ne.symm e)]
      exact prLt_tri x y e
theorem lexB_trans : ∀ xs ys zs : List Pr, lexB xs ys = true → lexB ys zs = true → lexB xs zs = true
  | [], [], _, h, _ => by cases h
  | [], _ :: _, [], _, g => by cases g
  | [], _ :: _, _ :: _, _, _ => rfl
  | _ :: _, [], _, h, _ => by cases h
  | _ :: _, _ :: _, [], _, g => by cases g
  | x :: xs, y :: ys, z :: zs, h, g => by
    rw [lexB] at h g ⊢
    by_cases e : x = y
    · subst e
      rw [if_pos rfl] at h
      by_cases e2 : x = z
      · subst e2
        rw [if_pos rfl] at g ⊢
        exact lexB_trans xs ys zs h g
      · rw [if_neg e2] at g ⊢
        exact g
    · rw [if_neg e] at h
      by_cases e2 : y = z
      · subst e2
        rw [if_neg e]
        exact h
      · rw [if_neg e2] at g
        have t := prLt_trans h g
        have : x ≠ z := fun q => by rw [q, prLt_irr] at t; cases t
        rw [if_neg this]
        exact t
end Pk
set_option Elab.async false
set_option linter.all false
set_option maxRecDepth 100000
set_option maxHeartbeats 1000000
namespace Pk
open PySem L2 PySem.Spec PyProof.Rows
/-! ### what kind of data -/
def isID : PyData → Bool | .int _ => true | _ => false
def isIB : PyData → Bool | .int _ => true | .bool _ => true | _ => false
def isBD : PyData → Bool | .bool _ => true | _ => false
def isTD : PyData → Bool | .tuple _ => true | _ => false
def isLD : PyData → Bool | .list _ => true | _ => false
theorem kit_i (d : PyData) : kitB (kindOf d) "int" = some (isIB d) := by
  cases d with
  | none => exact (by decide +kernel : kitB "NoneType" "int" = some false)
  | bool b => exact (by decide +kernel : kitB "bool" "int" = some true)
  | int i => exact (by decide +kernel : kitB "int" "int" = some true)
  | str z => exact (by decide +kernel : kitB "str" "int" = some false)
  | list ds => exact (by decide +kernel : kitB "list" "int" = some false)
  | tuple ds => exact (by decide +kernel : kitB "tuple" "int" = some false)
  | dict kv => exact (by decide +kernel : kitB "object" "int" = some false)
theorem kit_b (d : PyData) : kitB (kindOf d) "bool" = some (isBD d) := by
  cases d with
  | none => exact (by decide +kernel : kitB "NoneType" "bool" = some false)
  | bool b => exact (by decide +kernel : kitB "bool" "bool" = some true)
  | int i => exact (by decide +kernel : kitB "int" "bool" = some false)
  | str z => exact (by decide +kernel : kitB "str" "bool" = some false)
  | list ds => exact (by decide +kernel : kitB "list" "bool" = some false)
  | tuple ds => exact (by decide +kernel : kitB "tuple" "bool" = some false)
  | dict kv => exact (by decide +kernel : kitB "object" "bool" = some false)
theorem kit_t (d : PyData) : kitB (kindOf d) "tuple" = some (isTD d) := by
  cases d with
  | none => exact (by decide +kernel : kitB "NoneType" "tuple" = some false)
  | bool b => exact (by decide +kernel : kitB "bool" "tuple" = some false)
  | int i => exact (by decide +kernel : kitB "int" "tuple" = some false)
  | str z => exact (by decide +kernel : kitB "str" "tuple" = some false)
  | list ds => exact (by decide +kernel : kitB "list" "tuple" = some false)
  | tuple ds => exact (by decide +kernel : kitB "tuple" "tuple" = some true)
  | dict kv => exact (by decide +kernel : kitB "object" "tuple" = some false)
theorem kit_l (d : PyData) : kitB (kindOf d) "list" = some (isLD d) := by
  cases d with
  | none => exact (by decide +kernel : kitB "NoneType" "list" = some false)
  | bool b => exact (by decide +kernel : kitB "bool" "list" = some false)
  | int i => exact (by decide +kernel : kitB "int" "list" = some false)
  | str z => exact (by decide +kernel : kitB "str" "list" = some false)
  | list ds => exact (by decide +kernel : kitB "list" "list" = some true)
  | tuple ds => exact (by decide +kernel : kitB "tuple" "list" = some false)
  | dict kv => exact (by decide +kernel : kitB "object" "list" = some false)
section
variable {K : PySem.W.Frag} {H : Hp} {Q : VK} {v : V} {d : PyData} {ds : List PyData}
theorem r_isDI (h : Dp K H v d) (q : Q (.bl (isIB d)) H) : rIsi K [v, .ty "int"] H Q := r_isi (Dp.kind h) (kit_i d) q
theorem r_isDB (h : Dp K H v d) (q : Q (.bl (isBD d)) H) : rIsi K [v, .ty "bool"] H Q := r_isi (Dp.kind h) (kit_b d) q
theorem r_isDT (h : Dp K H v d) (q : Q (.bl (isTD d)) H) : rIsi K [v, .ty "tuple"] H Q := r_isi (Dp.kind h) (kit_t d) q
theorem r_isDL (h : Dp K H v d) (q : Q (.bl (isLD d)) H) : rIsi K [v, .ty "list"] H Q := r_isi (Dp.kind h) (kit_l d) q
theorem Dp.tupAt (h : Dp K H v (.tuple ds)) : ∃ t vs, v = .ref t ∧ SqT K H t vs ∧ DpAll K H vs ds := by
  cases h with
  | tup h1 h2 => exact ⟨_, _, rfl, h1, h2⟩
theorem Dp.lstAt (h : Dp K H v (.list ds)) : ∃ t vs, v = .ref t ∧ SqL K H t vs ∧ DpAll K H vs ds := by
  cases h with
  | lst h1 h2 => exact ⟨_, _, rfl, h1, h2⟩
theorem DpAll.len : ∀ {vs : List V} {ds : List PyData}, DpAll K H vs ds → vs.length = ds.length
  | _, _, .nil => rfl
  | _, _, .cons _ t => by rw [List.length_cons, List.length_cons, DpAll.len t]
theorem DpAll.at : ∀ {vs : List V} {ds : List PyData}, DpAll K H vs ds → ∀ {i : Nat} {v : V}, vs[i]? = some v → ∃ d, ds[i]? = some d ∧ Dp K H v d
  | _, _, .nil, i, v, e => by simp at e
  | _, _, .cons h t, 0, v, e => ⟨_, rfl, by cases (Option.some.inj e); exact h⟩
  | _, _, .cons h t, i + 1, v, e => DpAll.at t (by simpa using e)
theorem DpAll.get : ∀ {vs : List V} {ds : List PyData}, DpAll K H vs ds → ∀ {i : Nat} {d : PyData}, ds[i]? = some d → ∃ v, vs[i]? = some v ∧ Dp K H v d
  | _, _, .nil, i, v, e => by simp at e
  | _, _, .cons h t, 0, v, e => ⟨_, rfl, by cases (Option.some.inj e); exact h⟩
  | _, _, .cons h t, i + 1, v, e => DpAll.get t (by simpa using e)
theorem DpAll.take : ∀ {vs : List V} {ds : List PyData}, DpAll K H vs ds → ∀ n, DpAll K H (vs.take n) (ds.take n)
  | _, _, .nil, n => by cases n <;> exact .nil
  | _, _, .cons h t, 0 => .nil
  | _, _, .cons h t, n + 1 => .cons h (DpAll.take t n)
theorem DpAll.drop : ∀ {vs : List V} {ds : List PyData}, DpAll K H vs ds → ∀ n, DpAll K H (vs.drop n) (ds.drop n)
  | _, _, .nil, n => by cases n <;> exact .nil
  | _, _, .cons h t, 0 => .cons h t
  | _, _, .cons h t, n + 1 => DpAll.drop t n
theorem DpAll.app : ∀ {vs us : List V} {ds es : List PyData}, DpAll K H vs ds → DpAll K H us es → DpAll K H (vs ++ us) (ds ++ es)
  | _, _, _, _, .nil, g => g
  | _, _, _, _, .cons h t, g => .cons h (DpAll.app t g)
end
/-! ### in a list, over data; a list of data that can be compared -/
structure Small (ds : List PyData) : Prop where
  plain : PyData.plainAll ds = true
  deep : PyData.depthAll ds ≤ 8
def rInD (K : PySem.W.Frag) (neg : Bool) : R2 := fun x y H Q => ∃ d ds, Dp K H x d ∧ Dp K H y (.list ds) ∧ d.plain = true ∧ Small ds ∧ Q (.bl (if neg then !(ds.any fun e => PyData.eqv e d) else ds.any fun e => PyData.eqv e d)) H
theorem op_inD {X : Cx} (hu : X.A.units + 64 < cLine) : OpR X (compareOp .In) (rInD X.K false) := by
  intro pins s σ H x y v u Q I rx ry h
  obtain ⟨d, ds, hd, he, pd, sm, q⟩ := h
  obtain ⟨as, r1⟩ := Dp.reads I _ x v hd rx
  obtain ⟨bs, r2⟩ := Dp.reads I _ y u he ry
  have h1 := sm.deep
  exact SeqAt.in_list_data r2 r1 sm.plain pd (by omega) ⟨.bl _, H, I, rfl, q⟩
end Pk
set_option Elab.async false
set_option linter.all false
set_option maxRecDepth 100000
set_option maxHeartbeats 1000000
namespace Pk
open PySem L2 PySem.Spec PyProof.Rows
/-! ### an object is made where what is raised is wished for at the caller's slots -/
def tMakeS (C : Addr) (sp : Sp) (E : L2.St → XK) (t : TA) : TE := fun σ H Q => t σ H fun zs H1 => ∀ y dy, H1 y = none → H1 dy = none → dy ≠ y →
  sp (.ref y :: zs) (upd (upd H1 dy (.own y)) y (.ins C dy [])) (fun r H2 => r = .non ∧ Q (.ref y) H2) (E σ)
theorem r_makeS {C : Addr} {sp : Sp} {E : L2.St → XK} {t : TA} {σ : L2.St} {H : Hp} {Q : VK} (h : t σ H fun zs H1 => ∀ y dy, H1 y = none → H1 dy = none → dy ≠ y → sp (.ref y :: zs) (upd (upd H1 dy (.own y)) y (.ins C dy [])) (fun r H2 => r = .non ∧ Q (.ref y) H2) (E σ)) : tMakeS C sp E t σ H Q := h
section
variable {X : Cx} {CX : CXT} {k : Nat} {f C : Addr} {fd : FuncData} {ps : List Str} {sp : Sp} {E : L2.St → XK}
theorem made_at {pins : List (Addr × Obj)} {τ : L2.St} {G : Hp} {sh : Shared} {R : VK} {as : List Value} {zs : List V} (mk : Mk X.K C f) (ok : FnOk X.prog X.w X.K X.mg X.base CX k f fd ps sp) (room : Room (k + 1) X.A) (bd : Binds X.K fd ps []) (px : PassesAt CX X τ (E τ)) (J : Inv X pins τ G sh) (rl : Vals zs as)
    (want : ∀ y dy, G y = none → G dy = none → dy ≠ y → sp (.ref y :: zs) (upd (upd G dy (.own y)) y (.ins C dy [])) (fun r H2 => r = .non ∧ R (.ref y) H2) (E τ)) : wpAny (model X.prog X.w) X.A (call (.ref C) as) (EP X pins τ R) X.xe sh := by
  have w1 := want (sh.heap.objs.size + 1) sh.heap.objs.size (J.hok.fresh (Nat.le_succ _)) (J.hok.fresh (Nat.le_refl _)) (Nat.ne_of_lt (Nat.lt_succ_self _))
  have J2 := Inv.made (C := C) J
  have rl2 : Vals (V.ref (sh.heap.objs.size + 1) :: zs) (Value.ref (sh.heap.objs.size + 1) :: as) := .cons rfl rl
  have len : (Value.ref (sh.heap.objs.size + 1) :: as ++ []).length = ps.length := by
    rw [List.append_nil]
    exact rl2.length.symm.trans (ok.len _ _ _ _ w1)
  have b2 := bd _ (Value.ref (sh.heap.objs.size + 1) :: as) J2.kIn len
  rw [List.append_nil] at b2
  refine wpAny_call (make_map (f := f) J.kIn mk.makes mk.init (beq_iff_eq.mp mk.fn) (codeAny_mono (ok.run _ X.stack _ _ ⟨Value.ref (sh.heap.objs.size + 1) :: as, []⟩
    (Value.ref (sh.heap.objs.size + 1) :: as) _ _ (E τ) (room.make C as []) (J2.env0.make C as []) b2 rl2 w1) fun fin t ht => ?_))
  rcases fin with er | fl
  · exact px pins _ _ er t J2 ht
  · cases fl with
    | ret u =>
      obtain ⟨r, G', J3, rr, er, q3⟩ := J2.after ht
      subst er
      exact ⟨rr, ⟨V.ref (sh.heap.objs.size + 1), G', J3, rfl, q3⟩⟩
    | next => exact ht.elim
    | brk => exact ht.elim
    | cont => exact ht.elim
end
theorem pe_dkS {X : Cx} {W : WX} {x : Str} {k j : Nat} {ps : List Str} {sp : Sp} {e : Expr} {es : List Expr} {t : TA} {p pos : Pos} {C : Addr} (tk : Takes X W) (D : Dk X.prog X.w X.K X.mg X.base (L2.CX X.prog X.w) x k ps sp C) (hr : Room j X.A) (l : k + 1 ≤ j) (ha : PA X (e :: es) t) (hg : Gl X x := by rfl)
    (hdb : (x == ("__debug__" : Str)) = false := by decide) (he : starEach (e :: es) X.env = (false, eval e X.env) :: starEach es X.env := by rfl) (hpl : (backTo pos (starEach es X.env)).any (·.1) = false := by rfl) : PE X (.Call (.Name x p) (e :: es) [] pos) (tMakeS C sp (WE W) t) := by
  obtain ⟨_, _, D⟩ := D
  refine ⟨fun pins s σ H Q J h => ?_⟩
  refine wpAny_Call_Name_kw (ld_glob J hg D.at_ ?_ hdb)
  refine PySem.W.callWith_K (h₀ := X.base) J.ok.mod.kin D.mkc.kp (thn (ha.run pos pins s σ H _ J h) fun us s1 ⟨vs, H1, J1, r, q⟩ => ⟨J1.kIn, ?_⟩) he hpl
  exact made_at D.mkc D.ok (hr.mono l) D.bd (passAt tk σ) J1 r q
end Pk
set_option Elab.async false
set_option linter.all false
set_option maxRecDepth 100000
set_option maxHeartbeats 1000000
namespace Pk
open PySem L2 PySem.Spec PyProof.Rows
/-! ### loops, whatever stands in them -/
theorem lc_any {J : It} {n : Nat} {G : Hp → Prop} {Y : Nat → Hp → V → Hp → Prop} (w : Walk J n G Y) {B : (Hp → Prop) → V → Hp → Prop} {H0 : Hp} {Qd : Hp → Prop} (Pv : Nat → Hp → Prop) (h0 : Pv 0 H0) (hG : ∀ i H, i ≤ n → Pv i H → G H)
    (hs : ∀ i x H H', i < n → Pv i H → Y i H x H' → B (Pv (i + 1)) x H') (hd : ∀ H, Pv n H → Qd H) : ∃ W : Nat → Nat → Hp → Prop, (∃ m, W 0 m H0) ∧ ∀ i m H, W i m H →
      (J.stop i H ∧ Qd H) ∨ (J.go i H ∧ ∃ Nx : Hp → Prop, (∀ H', Nx H' → ∃ m', m' < m ∧ W (i + 1) m' H') ∧ ∀ x H', J.yld i H x H' → B Nx x H') := by
  refine ⟨fun i m H => m = n - i ∧ i ≤ n ∧ Pv i H, ⟨n, (Nat.sub_zero n).symm, Nat.zero_le _, h0⟩, fun i m H hw => ?_⟩
  obtain ⟨rfl, hi, p⟩ := hw
  rcases Nat.lt_or_ge i n with lt | ge
  · refine .inr ⟨w.goes i H lt (hG i H hi p), Pv (i + 1), fun H' p' => ⟨n - (i + 1), by omega, rfl, lt, p'⟩, fun x H' y => ?_⟩
    exact hs i x H H' lt p (w.yields i H x H' lt (hG i H hi p) y)
  · obtain rfl : i = n := Nat.le_antisymm hi ge
    exact .inl ⟨w.stops H (hG _ H hi p), hd H p⟩
theorem r_lc2 {wi wi1 : TI} {g g1 : TG} {tt tt1 : TT} {te : TE} {vs vs1 : List Nat} {σ : L2.St} {H : Hp} {Q : VK} (h : wi σ H fun J H1 => ∀ D, H1 D = none → ∃ W : Nat → Nat → Hp → Prop, (∃ m, W 0 m (upd H1 D (.lst []))) ∧ ∀ i m H, W i m H →
  (J.stop i H ∧ Q (.ref D) H) ∨ (J.go i H ∧ ∃ Nx : Hp → Prop, (∀ H', Nx H' → ∃ m', m' < m ∧ W (i + 1) m' H') ∧ ∀ x H', J.yld i H x H' → g x (wipe σ vs) H' fun σ2 H2 => wipe σ2 vs = wipe σ vs ∧ tt σ2 H2 fun b H3 =>
    if b = true then wi1 σ2 H3 fun J1 H4 => ∃ W1 : Nat → Nat → Hp → Prop, (∃ m, W1 0 m H4) ∧ ∀ j k H, W1 j k H →
      (J1.stop j H ∧ Nx H) ∨ (J1.go j H ∧ ∃ Nx1 : Hp → Prop, (∀ H', Nx1 H' → ∃ k', k' < k ∧ W1 (j + 1) k' H') ∧ ∀ x H', J1.yld j H x H' → g1 x (wipe σ2 vs1) H' fun σ3 H5 => wipe σ3 vs1 = wipe σ2 vs1 ∧ tt1 σ3 H5 fun b H6 =>
        if b = true then te σ3 H6 fun y H7 => ∃ acc, H7 D = some (.lst acc) ∧ acc.length < sizeLine ∧ Nx1 (upd H7 D (.lst (acc ++ [y]))) else Nx1 H6)
    else Nx H3)) : tLc2 wi g tt wi1 g1 tt1 te vs vs1 σ H Q := h
/-! ### a part of the heap -/
/-- all of G was not tracked in H -/
def Fresh (H G : Hp) : Prop := ∀ a o, G a = some o → H a = none
theorem Fresh.off {H G : Hp} {b : Addr} {o : HO} (f : Fresh H G) (h : H b = some o) : G b = none := by
  cases e : G b with
  | none => rfl
  | some u => rw [f b u e] at h; cases h
theorem Fresh.back {H0 H G : Hp} (f : Fresh H G) (s : Same H0 H) : Fresh H0 G := fun a o e => s.free (f a o e)
theorem Same.part {G H H' : Hp} {b : Addr} (s : Same G H) (n : G b = none) (k : Keep b H H') : Same G H' := fun a o e => k a o (fun z => by rw [z, n] at e; cases e) (s a o e)
theorem Same.upOff {G H : Hp} {b : Addr} {o : HO} (s : Same G H) (n : G b = none) : Same G (upd H b o) := fun a u e => by
  rw [upd_ne (fun z => by rw [z, n] at e; cases e)]
  exact s a u e
/-! ### tables -/
abbrev Rw := List (List (Option Int))
def pV : Option Int → V
  | .none => .non
  | .some i => .int i
def pD : Option Int → PyData
  | .none => .none
  | .some i => .int i
def rowD (r : List (Option Int)) : PyData := .list (r.map pD)
def rowsD (R : Rw) : PyData := .list (R.map rowD)
def wd (R : Rw) : Nat := (R.headD []).length
def prc (R : Rw) (i j : Nat) : Option Int := (R.getD i []).getD j none
/-- the pairs, in ascending order -/
def cells (R : Rw) : List Pr := (List.range R.length).flatMap fun i => ((List.range (wd R)).filter fun j => (prc R i j).isSome).map fun (j : Nat) => (((i : Nat) : Int), (j : Int))
structure Gt (R : Rw) : Prop where
  h0 : 0 < R.length
  h8 : R.length ≤ 8
  w0 : 0 < wd R
  w8 : wd R ≤ 8
  sq : ∀ r, r ∈ R → r.length = wd R
instance : PySem.W.Datum (Option Int) where
  toD := pD
  plain z := by cases z <;> rfl
  eqv a b := by cases a <;> cases b <;> simp [pD, PyData.eqv, PySem.W.beq_decide]
  depth := 0
  depth_le z := by cases z <;> simp [pD, PyData.depth]
theorem rows_eqv (R S : Rw) : PyData.eqv (rowsD R) (rowsD S) = decide (R = S) := PySem.W.Datum.eqv (α := List (List (Option Int))) R S
theorem row_depthAll : ∀ r : List (Option Int), PyData.depthAll (r.map pD) = 0
  | [] => by simp [PyData.depthAll]
  | z :: r => by cases z <;> simp [PyData.depthAll, PyData.depth, pD, row_depthAll r]
theorem row_depth (r : List (Option Int)) : (rowD r).depth = 1 := by simp [rowD, PyData.depth, row_depthAll r]
theorem rows_depthAll : ∀ R : Rw, PyData.depthAll (R.map rowD) ≤ 1
  | [] => by simp [PyData.depthAll]
  | r :: R => by
    have h1 := rows_depthAll R
    simp only [List.map_cons, PyData.depthAll, row_depth]
    omega
theorem rows_depth (R : Rw) : (rowsD R).depth ≤ 2 := by
  have h := rows_depthAll R
  simp only [rowsD, PyData.depth]
  omega
theorem row_layAll : ∀ r : List (Option Int), PyData.canLayAll0 (r.map pD) = true
  | [] => by simp [PyData.canLayAll0]
  | z :: r => by cases z <;> simp [PyData.canLayAll0, PyData.canLay0, pD, row_layAll r]
theorem row_lay (r : List (Option Int)) : (rowD r).canLay0 = true := by simp [rowD, PyData.canLay0, row_layAll r]
theorem rows_layAll : ∀ R : Rw, PyData.canLayAll0 (R.map rowD) = true
  | [] => by simp [PyData.canLayAll0]
  | r :: R => by simp [PyData.canLayAll0, rows_layAll R, row_lay r]
theorem rows_shaped (R : Rw) : SeqAt.shaped (rowsD R) = true := by
  have h := rows_depth R
  have e : (rowsD R).canLay0 = true := by simp only [rowsD, PyData.canLay0]; exact rows_layAll R
  simp only [SeqAt.shaped, e, Bool.true_and]
  exact decide_eq_true (by omega)
theorem rows_plain (R : Rw) : (rowsD R).plain = true := PySem.W.Datum.plain (α := List (List (Option Int))) R
theorem pV_dp {K : PySem.W.Frag} {H : Hp} (z : Option Int) : Dp K H (pV z) (pD z) := by
  cases z
  · exact .non
  · exact .int _
theorem row_dp {K : PySem.W.Frag} {H : Hp} (r : List (Option Int)) : DpAll K H (r.map pV) (r.map pD) := by
  induction r with
  | nil => exact .nil
  | cons z r ih => exact .cons (pV_dp z) ih
theorem deep_pD (z : Option Int) {n : Nat} : Deep n (pD z) := by
  cases z
  · exact .non
  · exact .int _
theorem deep_row {r : List (Option Int)} (h : r.length ≤ 1000) : Deep 1 (rowD r) := .lst (fun d hd => by
  obtain ⟨z, _, rfl⟩ := List.mem_map.mp hd
  exact deep_pD z) (by rw [List.length_map]; exact h)
theorem Gt.len {R : Rw} (g : Gt R) {i : Nat} (h : i < R.length) : R[i].length = wd R := g.sq _ (List.getElem_mem h)
theorem Gt.getD {R : Rw} (g : Gt R) {i : Nat} (h : i < R.length) : R.getD i [] = R[i] := by
  rw [List.getD_eq_getElem?_getD, List.getElem?_eq_getElem h]
  rfl
theorem deep_rows {R : Rw} (g : Gt R) : Deep 2 (rowsD R) := .lst (fun d hd => by
  obtain ⟨r, hr, rfl⟩ := List.mem_map.mp hd
  have h1 := g.sq r hr
  have h2 := g.w8
  exact deep_row (by omega)) (by rw [List.length_map]; have := g.h8; omega)
/-- a list of rows, each a list of its own -/
structure RL (G : Hp) (e : Addr) (es : List V) (R : Rw) : Prop where
  at_ : G e = some (.lst es)
  len : es.length = R.length
  row : ∀ i v, es[i]? = some v → ∃ a, v = .ref a ∧ G a = some (.lst ((R.getD i []).map pV))
theorem RL.same {G H : Hp} {e : Addr} {es : List V} {R : Rw} (l : RL G e es R) (s : Same G H) : RL H e es R := ⟨s _ _ l.at_, l.len, fun i v h => by
  obtain ⟨a, e1, e2⟩ := l.row i v h
  exact ⟨a, e1, s _ _ e2⟩⟩
theorem RL.get {G : Hp} {e : Addr} {es : List V} {R : Rw} (l : RL G e es R) {i : Nat} (h : i < R.length) : ∃ a, es[i]? = some (.ref a) ∧ G a = some (.lst ((R.getD i []).map pV)) := by
  have hi : i < es.length := by rw [l.len]; exact h
  obtain ⟨a, e1, e2⟩ := l.row i _ (List.getElem?_eq_getElem hi)
  exact ⟨a, by rw [List.getElem?_eq_getElem hi, e1], e2⟩
theorem RL.all {K : PySem.W.Frag} {G : Hp} {e : Addr} {es : List V} {R : Rw} (l : RL G e es R) : DpAll K G es (R.map rowD) := by
  refine dpAll_of (by rw [List.length_map]; exact l.len) fun i v d hv hd => ?_
  obtain ⟨a, rfl, h⟩ := l.row i v hv
  rw [List.getElem?_map] at hd
  cases q : R[i]? with
  | none => rw [q] at hd; cases hd
  | some r =>
    rw [q] at hd
    cases (Option.some.inj hd)
    rw [List.getD_eq_getElem?_getD, q] at h
    exact .lst (SqL.of h) (row_dp r)
theorem RL.dp {K : PySem.W.Frag} {G : Hp} {e : Addr} {es : List V} {R : Rw} (l : RL G e es R) : Dp K G (.ref e) (rowsD R) := .lst (SqL.of l.at_) l.all
/-- the table at x, whose parts are all in G -/
structure TbX (C : Addr) (G : Hp) (x : Addr) (R : Rw) : Prop where
  g : Gt R
  ex : ∃ dx e u es, G x = some (.ins C dx [("entries", .ref e), ("used", .ref u)]) ∧ RL G e es R ∧ PL x G u (cells R)
theorem pr_at {R : Rw} {i j : Nat} (hi : i < R.length) (hj : j < wd R) : (R.getD i []).length = R[i].length := by
  rw [List.getD_eq_getElem?_getD, List.getElem?_eq_getElem hi]
  rfl
theorem prc_get {R : Rw} (g : Gt R) {i j : Nat} (hi : i < R.length) (hj : j < wd R) : ((R.getD i []).map pV)[j]? = some (pV (prc R i j)) := by
  have l : j < (R.getD i []).length := by rw [g.getD hi, g.len hi]; exact hj
  rw [List.getElem?_map, List.getElem?_eq_getElem l, prc, List.getD_eq_getElem?_getD (l := R.getD i []), List.getElem?_eq_getElem l]
  rfl
/-! ### over data -/
def priceD : PyData → Bool
  | .none => true
  | .int _ => true
  | _ => false
theorem price_inv {d : PyData} (h : priceD d = true) : ∃ z, d = pD z := by
  cases d with
  | none => exact ⟨none, rfl⟩
  | int i => exact ⟨some i, rfl⟩
  | _ => cases h
/-- a list of 1 to 8 prices, as many as the other list has entries -/
def rowOk : PyData → PyData → Bool
  | .list ds, .list es => decide (1 ≤ ds.length) && decide (ds.length ≤ 8) && decide (ds.length = es.length) && ds.all priceD
  | _, _ => false
def firstRow (ds : List PyData) : Option Nat := (List.range ds.length).find? fun i => !rowOk (ds.getD i .none) (ds.getD 0 .none)
/-- what is told of a value as rows: none where it is good -/
def badT : PyData → Option Int
  | .list ds => if ds.length = 0 ∨ 8 < ds.length then some (-1) else (firstRow ds).map Int.ofNat
  | _ => some (-1)
theorem badT_no {d : PyData} (h : isLD d = false) : badT d = some (-1) := by
  cases d with
  | list ds => cases h
  | _ => rfl
theorem firstRow_some {ds : List PyData} {i : Nat} (hi : i < ds.length) (h : ∀ j, j < i → rowOk (ds.getD j .none) (ds.getD 0 .none) = true) (b : rowOk (ds.getD i .none) (ds.getD 0 .none) = false) : firstRow ds = some i := by
  unfold firstRow
  rw [List.find?_range_eq_some]
  exact ⟨by rw [b]; rfl, by simpa using hi, fun j hj => by rw [h j hj]; rfl⟩
theorem firstRow_none {ds : List PyData} (h : ∀ j, j < ds.length → rowOk (ds.getD j .none) (ds.getD 0 .none) = true) : firstRow ds = none := by
  unfold firstRow
  rw [List.find?_eq_none]
  intro j hj
  rw [h j (by simpa using hj)]
  decide
theorem firstRow_all {ds : List PyData} (h : firstRow ds = none) {j : Nat} (hj : j < ds.length) : rowOk (ds.getD j .none) (ds.getD 0 .none) = true := by
  unfold firstRow at h
  rw [List.find?_eq_none] at h
  have := h j (by simpa using hj)
  simpa using this
theorem all_prices {r : List (Option Int)} : (r.map pD).all priceD = true := by
  rw [List.all_map, List.all_eq_true]
  intro z _
  cases z <;> rfl
theorem prices_inv {ds : List PyData} (h : ds.all priceD = true) : ∃ r : List (Option Int), ds = r.map pD := by
  induction ds with
  | nil => exact ⟨[], rfl⟩
  | cons d ds ih =>
    rw [List.all_cons, Bool.and_eq_true] at h
    obtain ⟨z, rfl⟩ := price_inv h.1
    obtain ⟨r, rfl⟩ := ih h.2
    exact ⟨z :: r, rfl⟩
theorem row_okD {R : Rw} (g : Gt R) {i : Nat} (hi : i < R.length) : rowOk ((R.map rowD).getD i .none) ((R.map rowD).getD 0 .none) = true := by
  have e : ∀ k (hk : k < R.length), (R.map rowD).getD k .none = rowD R[k] := fun k hk => by
    rw [List.getD_eq_getElem?_getD, List.getElem?_map, List.getElem?_eq_getElem hk]
    rfl
  rw [e i hi, e 0 g.h0]
  have l1 := g.len hi
  have l2 := g.len g.h0
  have h1 := g.w0
  have h2 := g.w8
  simp only [rowD, rowOk, List.length_map, l1, l2, all_prices, Bool.and_eq_true, decide_eq_true_eq, and_true]
  omega
theorem badT_good {R : Rw} (g : Gt R) : badT (rowsD R) = none := by
  have h0 := g.h0
  have h8 := g.h8
  show (if (R.map rowD).length = 0 ∨ 8 < (R.map rowD).length then some (-1) else (firstRow (R.map rowD)).map Int.ofNat) = none
  rw [if_neg (by rw [List.length_map]; omega), firstRow_none (fun j hj => row_okD g (by simpa using hj))]
  rfl
/-- what is good is a table's rows -/
theorem badT_inv {d : PyData} (h : badT d = none) : ∃ R, d = rowsD R ∧ Gt R := by
  cases d with
  | list ds =>
    by_cases c : ds.length = 0 ∨ 8 < ds.length
    · have : badT (.list ds) = some (-1) := if_pos c
      rw [this] at h
      cases h
    · have hb : badT (.list ds) = (firstRow ds).map Int.ofNat := if_neg c
      rw [hb] at h
      have hf : firstRow ds = none := by
        cases e : firstRow ds with
        | none => rfl
        | some k => rw [e] at h; cases h
      have all := fun {j} (hj : j < ds.length) => firstRow_all hf hj
      have rows : ∀ d, d ∈ ds → ∃ r : List (Option Int), d = rowD r ∧ 1 ≤ r.length ∧ r.length ≤ 8 ∧ ∀ es, ds.getD 0 .none = .list es → r.length = es.length := by
        intro d hd
        obtain ⟨j, hj, rfl⟩ := List.getElem_of_mem hd
        have a := all hj
        rw [List.getD_eq_getElem?_getD (l := ds) (i := j), List.getElem?_eq_getElem hj] at a
        simp only [Option.getD_some] at a
        cases e1 : ds[j] with
        | list xs =>
          cases e2 : ds.getD 0 .none with
          | list es =>
            rw [e1, e2] at a
            simp only [rowOk, Bool.and_eq_true, decide_eq_true_eq] at a
            obtain ⟨⟨⟨a1, a2⟩, a3⟩, a4⟩ := a
            obtain ⟨r, rfl⟩ := prices_inv a4
            rw [List.length_map] at a1 a2 a3
            exact ⟨r, rfl, a1, a2, fun fs q => by cases q; exact a3⟩
          | _ => rw [e1, e2] at a; cases a
        | _ => rw [e1] at a; cases a
      have ex : ∃ R : Rw, ds = R.map rowD := by
        have : ∀ es : List PyData, (∀ d, d ∈ es → ∃ r : List (Option Int), d = rowD r) → ∃ R : Rw, es = R.map rowD := by
          intro es
          induction es with
          | nil => intro _; exact ⟨[], rfl⟩
          | cons d es ih =>
            intro k
            obtain ⟨r, rfl⟩ := k d List.mem_cons_self
            obtain ⟨R, rfl⟩ := ih fun e he => k e (List.mem_cons_of_mem _ he)
            exact ⟨r :: R, rfl⟩
        exact this ds fun d hd => by
          obtain ⟨r, e, _⟩ := rows d hd
          exact ⟨r, e⟩
      obtain ⟨R, rfl⟩ := ex
      rw [List.length_map] at c
      refine ⟨R, rfl, ?_⟩
      have hR : 0 < R.length := by omega
      have e0 : (R.map rowD).getD 0 .none = rowD R[0] := by
        rw [List.getD_eq_getElem?_getD, List.getElem?_map, List.getElem?_eq_getElem hR]
        rfl
      have w : wd R = R[0].length := by
        cases R with
        | nil => cases hR
        | cons r R => rfl
      have one : ∀ r, r ∈ R → 1 ≤ r.length ∧ r.length ≤ 8 ∧ r.length = wd R := by
        intro r hr
        obtain ⟨r', e, b1, b2, b3⟩ := rows (rowD r) (List.mem_map.mpr ⟨r, hr, rfl⟩)
        have l : r.length = r'.length := by
          have := PyData.list.inj e
          have := congrArg List.length this
          simpa using this
        have := b3 _ e0
        rw [List.length_map] at this
        exact ⟨by omega, by omega, by omega⟩
      have o := one _ (List.getElem_mem hR)
      exact ⟨hR, by omega, by omega, by omega, fun r hr => (one r hr).2.2⟩
  | _ => cases h
/-- a tuple of two ints -/
def twoD : PyData → Bool
  | .tuple [.int _, .int _] => true
  | _ => false
theorem twoD_inv {d : PyData} (h : twoD d = true) : ∃ a b, d = .tuple [.int a, .int b] := by
  unfold twoD at h
  split at h
  · exact ⟨_, _, rfl⟩
  · cases h
/-- a cell of the table -/
def cellD (R : Rw) : PyData → Bool
  | .tuple [.int a, .int b] => decide (0 ≤ a) && decide (a < R.length) && decide (0 ≤ b) && decide (b < wd R)
  | _ => false
theorem cellD_no {R : Rw} {d : PyData} (h : twoD d = false) : cellD R d = false := by
  unfold cellD
  split
  · rename_i a b
    exact absurd (show twoD (.tuple [.int a, .int b]) = true from rfl) (by rw [h]; decide)
  · rfl
theorem cellD_inv {R : Rw} {d : PyData} (h : cellD R d = true) : ∃ i j : Nat, d = prD ((i : Int), (j : Int)) ∧ i < R.length ∧ j < wd R := by
  unfold cellD at h
  split at h
  · rename_i a b
    simp only [Bool.and_eq_true, decide_eq_true_eq] at h
    obtain ⟨⟨⟨h1, h2⟩, h3⟩, h4⟩ := h
    refine ⟨a.toNat, b.toNat, ?_, by omega, by omega⟩
    rw [show ((a.toNat : Nat) : Int) = a by omega, show ((b.toNat : Nat) : Int) = b by omega]
    rfl
  · cases h
/-- its price, where it is a cell -/
def cellP (R : Rw) : PyData → Option Int
  | .tuple [.int a, .int b] => prc R a.toNat b.toNat
  | _ => none
theorem mem_cells {R : Rw} {i j : Nat} : ((i : Int), (j : Int)) ∈ cells R ↔ i < R.length ∧ j < wd R ∧ (prc R i j).isSome = true := by
  simp only [cells, List.mem_flatMap, List.mem_range, List.mem_map, List.mem_filter, Prod.mk.injEq]
  constructor
  · rintro ⟨a, ha, b, ⟨hb, hp⟩, e1, e2⟩
    have : a = i := by omega
    have : b = j := by omega
    subst_vars
    exact ⟨ha, hb, hp⟩
  · rintro ⟨ha, hb, hp⟩
    exact ⟨i, ha, j, ⟨hb, hp⟩, rfl, rfl⟩
end Pk
set_option Elab.async false
set_option linter.all false
set_option maxRecDepth 100000
set_option maxHeartbeats 1000000
namespace Pk
open PySem L2 PySem.Spec PyProof.Rows
/-! ### a cut behind a statement -/
theorem r_cut {t u : TS} {D : Ends} {σ : L2.St} {H : Hp} (Mid : L2.St → Hp → Prop) (h1 : t { D with nx := Mid } σ H) (h2 : ∀ σ' H', Mid σ' H' → u D σ' H') : C8.tCut t u D σ H := ⟨Mid, h1, h2⟩
/-! ### the pool, further -/
theorem PoolAt.sameS {H H' : Hp} {p c : Addr} {ns : List Int} (h : PoolAt H p c ns) (s : Same H H') : PoolAt H' p c ns := by
  obtain ⟨a, b, z, n, h0, hP, hC⟩ := h
  exact ⟨a, b, z, n, h0, s _ _ hP, s _ _ hC⟩
theorem PoolAt.off {H : Hp} {p c D : Addr} {ns : List Int} {o : HO} (h : PoolAt H p c ns) (n1 : D ≠ p) (n2 : D ≠ c) : PoolAt (upd H D o) p c ns := by
  obtain ⟨a, b, z, n, h0, hP, hC⟩ := h
  exact ⟨a, b, z, n, h0, by rw [upd_ne (Ne.symm n1)]; exact hP, by rw [upd_ne (Ne.symm n2)]; exact hC⟩
theorem PoolAt.ex {H : Hp} {p c : Addr} {ns : List Int} (h : PoolAt H p c ns) : ∃ o, H p = some o := by
  obtain ⟨a, b, z, n, h0, hP, hC⟩ := h
  exact ⟨_, hP⟩
theorem PoolAt.exC {H : Hp} {p c : Addr} {ns : List Int} (h : PoolAt H p c ns) : ∃ o, H c = some o := by
  obtain ⟨a, b, z, n, h0, hP, hC⟩ := h
  exact ⟨_, hC⟩
theorem Keep.free {p a : Addr} {H H' : Hp} (k : Keep p H H') (n : H' a = none) (np : a ≠ p) : H a = none := by
  cases e : H a with
  | none => rfl
  | some o => rw [k a o np e] at n; cases n
theorem Keep.put {p D : Addr} {H H' : Hp} {o : HO} (k : Keep p H H') (n : H D = none) : Keep p H (upd H' D o) := fun b u nb e => by
  rw [upd_ne (fun z => by rw [z, n] at e; cases e)]
  exact k b u nb e
/-! ### prices that are drawn -/
def Sb (i : Int) : Prop := i.natAbs < 2 ^ 100
def Sz (i : Int) : Prop := i.natAbs < 2 ^ 204
theorem Sb.mul {a b : Int} (h : Sb a) (g : Sb b) : (a * b).natAbs < 2 ^ 200 := by
  rw [Int.natAbs_mul]
  have := Nat.mul_lt_mul'' h g
  exact Nat.lt_of_lt_of_le this (by decide)
theorem Sb.wide {a b : Int} (h : Sb a) (g : Sb b) : CMulW a b := wide_mul h g (by decide) (by decide) (by decide)
def Bd (R : Rw) : Prop := ∀ r, r ∈ R → ∀ i : Int, some i ∈ r → Sz i
/-- tops: pairs of prices -/
structure TL (p D : Addr) (tv : List V) (H : Hp) : Prop where
  ne : D ≠ p
  at_ : H D = some (.lst tv)
  all : ∀ (j : Nat) (v : V), tv[j]? = some v → ∃ (t : Addr) (b y : Int), v = .ref t ∧ t ≠ p ∧ H t = some (.tup [.int b, .int y]) ∧ Sb b ∧ Sb y
theorem TL.keep {p D : Addr} {tv : List V} {H H' : Hp} (l : TL p D tv H) (k : Keep p H H') : TL p D tv H' := ⟨l.ne, k _ _ l.ne l.at_, fun j v e => by
  obtain ⟨t, b, y, e1, n, h, h1, h2⟩ := l.all j v e
  exact ⟨t, b, y, e1, n, k _ _ n h, h1, h2⟩⟩
theorem TL.put {p D L : Addr} {tv ws : List V} {H : Hp} {o : HO} (l : TL p D tv H) (hL : H L = some (.lst ws)) (n : D ≠ L) : TL p D tv (upd H L o) := ⟨l.ne, by rw [upd_ne n]; exact l.at_, fun j v e => by
  obtain ⟨t, b, y, e1, m, h, h1, h2⟩ := l.all j v e
  exact ⟨t, b, y, e1, m, by rw [upd_ne (fun z => by rw [z, hL] at h; cases h)]; exact h, h1, h2⟩⟩
/-- no list stands twice -/
def Dist (es : List V) : Prop := ∀ (i j : Nat) (a : Addr), es[i]? = some (V.ref a) → es[j]? = some (V.ref a) → i = j
theorem Dist.nil : Dist [] := fun i j a e _ => by simp at e
theorem Dist.more {es : List V} {b : Addr} (h : Dist es) (m : ∀ (j : Nat) (v : V), es[j]? = some v → v ≠ .ref b) : Dist (es ++ [.ref b]) := fun i j a e1 e2 => by
  have side : ∀ {k : Nat}, (es ++ [V.ref b])[k]? = some (.ref a) → (k < es.length ∧ es[k]? = some (.ref a)) ∨ (k = es.length ∧ a = b) := fun {k} e => by
    by_cases c : k < es.length
    · rw [List.getElem?_append_left c] at e
      exact .inl ⟨c, e⟩
    · rw [List.getElem?_append_right (by omega)] at e
      have : k - es.length = 0 := by
        have := (List.getElem?_eq_some_iff.mp e).1
        simp at this
        omega
      rw [this] at e
      cases (Option.some.inj e)
      exact .inr ⟨by omega, rfl⟩
  rcases side e1 with ⟨c1, f1⟩ | ⟨c1, f1⟩ <;> rcases side e2 with ⟨c2, f2⟩ | ⟨c2, f2⟩
  · exact h i j a f1 f2
  · exact absurd (by rw [f2]) (m i _ f1)
  · exact absurd (by rw [f1]) (m j _ f2)
  · omega
/-- the rows made so far -/
structure RK (p : Addr) (H0 H : Hp) (L : Addr) (es : List V) (R : Rw) : Prop where
  ne : L ≠ p
  nw : H0 L = none
  at_ : H L = some (.lst es)
  len : es.length = R.length
  row : ∀ (j : Nat) (v : V), es[j]? = some v → ∃ a, v = .ref a ∧ a ≠ p ∧ a ≠ L ∧ H0 a = none ∧ H a = some (.lst ((R.getD j []).map pV))
  dist : Dist es
theorem RK.keep {p L : Addr} {H0 H H' : Hp} {es : List V} {R : Rw} (l : RK p H0 H L es R) (k : Keep p H H') : RK p H0 H' L es R := ⟨l.ne, l.nw, k _ _ l.ne l.at_, l.len, fun j v e => by
  obtain ⟨a, e1, n1, n2, n3, h⟩ := l.row j v e
  exact ⟨a, e1, n1, n2, n3, k _ _ n1 h⟩, l.dist⟩
theorem RK.put {p L b : Addr} {H0 H : Hp} {es : List V} {R : Rw} {o : HO} (l : RK p H0 H L es R) (n : L ≠ b) (m : ∀ (j : Nat) (v : V), es[j]? = some v → v ≠ .ref b) : RK p H0 (upd H b o) L es R := ⟨l.ne, l.nw, by rw [upd_ne n]; exact l.at_, l.len, fun j v e => by
  obtain ⟨a, e1, n1, n2, n3, h⟩ := l.row j v e
  exact ⟨a, e1, n1, n2, n3, by rw [upd_ne (fun z => m j v e (by rw [e1, z]))]; exact h⟩, l.dist⟩
theorem RK.more {p L b : Addr} {H0 H : Hp} {es : List V} {R : Rw} {r : List (Option Int)} (l : RK p H0 H L es R) (h1 : b ≠ p) (h2 : b ≠ L) (h3 : H0 b = none) (h4 : H b = some (.lst (r.map pV))) (m : ∀ (j : Nat) (v : V), es[j]? = some v → v ≠ .ref b) : RK p H0 (upd H L (.lst (es ++ [.ref b]))) L (es ++ [.ref b]) (R ++ [r]) := by
  refine ⟨l.ne, l.nw, upd_same, by rw [List.length_append, List.length_append, l.len]; rfl, fun j v e => ?_, l.dist.more m⟩
  by_cases ji : j < es.length
  · rw [List.getElem?_append_left ji] at e
    obtain ⟨a, e1, n1, n2, n3, h⟩ := l.row j v e
    refine ⟨a, e1, n1, n2, n3, ?_⟩
    rw [upd_ne n2, h, List.getD_eq_getElem?_getD, List.getD_eq_getElem?_getD, List.getElem?_append_left (by rw [← l.len]; exact ji)]
  · rw [List.getElem?_append_right (by omega)] at e
    have : j = es.length := by
      have := (List.getElem?_eq_some_iff.mp e).1
      simp at this
      omega
    subst this
    rw [Nat.sub_self] at e
    cases (Option.some.inj e)
    refine ⟨b, rfl, h1, h2, h3, ?_⟩
    rw [upd_ne h2, h4, l.len, List.getD_eq_getElem?_getD, List.getElem?_append_right (Nat.le_refl _), Nat.sub_self]
    rfl
/-- a list of rows, new since H, the pool aside -/
structure NewK (p : Addr) (H H' : Hp) (r : Addr) (es : List V) (R : Rw) : Prop where
  ne : r ≠ p
  nw : H r = none
  rl : RL H' r es R
  rows : ∀ (i : Nat) (c : Addr), es[i]? = some (V.ref c) → H c = none ∧ c ≠ r ∧ c ≠ p
  dist : Dist es
theorem RK.new {p L : Addr} {H0 H : Hp} {es : List V} {R : Rw} (l : RK p H0 H L es R) : NewK p H0 H L es R := ⟨l.ne, l.nw, ⟨l.at_, l.len, fun i v e => by
  obtain ⟨a, e1, n1, n2, n3, h⟩ := l.row i v e
  exact ⟨a, e1, h⟩⟩, fun i c e => by
  obtain ⟨a, e1, n1, n2, n3, h⟩ := l.row i _ e
  cases e1
  exact ⟨n3, n2, n1⟩, l.dist⟩
theorem RL.keepK {p : Addr} {G H : Hp} {e : Addr} {es : List V} {R : Rw} (l : RL G e es R) (k : Keep p G H) (n : e ≠ p) (m : ∀ (i : Nat) (a : Addr), es[i]? = some (V.ref a) → a ≠ p) : RL H e es R := ⟨k _ _ n l.at_, l.len, fun i v h => by
  obtain ⟨a, e1, e2⟩ := l.row i v h
  exact ⟨a, e1, k _ _ (m i a (by rw [h, e1])) e2⟩⟩
abbrev hpOf {H H' : Hp} (_ : Same H H') : Hp := H'
/-- rows that may be read, tracked or written -/
structure RS (K : PySem.W.Frag) (G : Hp) (e : Addr) (es : List V) (R : Rw) : Prop where
  at_ : SqL K G e es
  len : es.length = R.length
  row : ∀ (i : Nat) (v : V), es[i]? = some v → ∃ a, v = .ref a ∧ SqL K G a ((R.getD i []).map pV)
theorem RL.rs {K : PySem.W.Frag} {G : Hp} {e : Addr} {es : List V} {R : Rw} (l : RL G e es R) : RS K G e es R := ⟨SqL.of l.at_, l.len, fun i v h => by
  obtain ⟨a, e1, e2⟩ := l.row i v h
  exact ⟨a, e1, SqL.of e2⟩⟩
theorem RS.get {K : PySem.W.Frag} {G : Hp} {e : Addr} {es : List V} {R : Rw} (l : RS K G e es R) {i : Nat} (h : i < R.length) : ∃ a, es[i]? = some (.ref a) ∧ SqL K G a ((R.getD i []).map pV) := by
  have hi : i < es.length := by rw [l.len]; exact h
  obtain ⟨a, e1, e2⟩ := l.row i _ (List.getElem?_eq_getElem hi)
  exact ⟨a, by rw [List.getElem?_eq_getElem hi, e1], e2⟩
theorem RS.same {K : PySem.W.Frag} {G H : Hp} {e : Addr} {es : List V} {R : Rw} (l : RS K G e es R) (s : Same G H) : RS K H e es R := ⟨s.seq l.at_, l.len, fun i v h => by
  obtain ⟨a, e1, e2⟩ := l.row i v h
  exact ⟨a, e1, s.seq e2⟩⟩
theorem RS.all {K : PySem.W.Frag} {G : Hp} {e : Addr} {es : List V} {R : Rw} (l : RS K G e es R) : DpAll K G es (R.map rowD) := by
  refine dpAll_of (by rw [List.length_map]; exact l.len) fun i v d hv hd => ?_
  obtain ⟨a, rfl, h⟩ := l.row i v hv
  rw [List.getElem?_map] at hd
  cases q : R[i]? with
  | none => rw [q] at hd; cases hd
  | some r =>
    rw [q] at hd
    cases (Option.some.inj hd)
    rw [List.getD_eq_getElem?_getD, q] at h
    exact .lst h (row_dp r)
theorem RS.dp {K : PySem.W.Frag} {G : Hp} {e : Addr} {es : List V} {R : Rw} (l : RS K G e es R) : Dp K G (.ref e) (rowsD R) := .lst l.at_ l.all
theorem dp_pV {K : PySem.W.Frag} {H : Hp} {v : V} {z : Option Int} (h : Dp K H v (pD z)) : v = pV z := by
  cases z with
  | none => cases h; rfl
  | some i => cases h; rfl
theorem dp_pVs {K : PySem.W.Frag} {H : Hp} : ∀ {vs : List V} {r : List (Option Int)}, DpAll K H vs (r.map pD) → vs = r.map pV
  | [], [], _ => rfl
  | _ :: _, [], h => by cases h
  | [], _ :: _, h => by cases h
  | v :: vs, z :: r, h => by
    cases h with
    | cons h1 h2 => rw [dp_pV h1, dp_pVs h2]; rfl
theorem RS.of {K : PySem.W.Frag} {G : Hp} {v : V} {R : Rw} (h : Dp K G v (rowsD R)) : ∃ e es, v = .ref e ∧ RS K G e es R := by
  obtain ⟨e, es, rfl, he, ha⟩ := Dp.lstAt h
  refine ⟨e, es, rfl, he, by have := DpAll.len ha; rwa [List.length_map] at this, fun i v hv => ?_⟩
  obtain ⟨d, hd, pd⟩ := DpAll.at ha hv
  rw [List.getElem?_map] at hd
  cases q : R[i]? with
  | none => rw [q] at hd; cases hd
  | some r =>
    rw [q] at hd
    cases (Option.some.inj hd)
    obtain ⟨a, vs, rfl, h1, h2⟩ := Dp.lstAt pd
    rw [dp_pVs h2] at h1
    exact ⟨a, rfl, by rw [List.getD_eq_getElem?_getD, q]; exact h1⟩
/-! ### small data that can be laid and compared -/
structure Ni (n : Nat) (d : PyData) : Prop where
  lay : d.canLay0 = true
  deep : d.depth ≤ n
  plain : d.plain = true
theorem Ni.mono {n m : Nat} {d : PyData} (h : Ni n d) (l : n ≤ m) : Ni m d := ⟨h.lay, Nat.le_trans h.deep l, h.plain⟩
theorem ni_all {n : Nat} : ∀ {ds : List PyData}, (∀ d, d ∈ ds → Ni n d) → PyData.canLayAll0 ds = true ∧ PyData.depthAll ds ≤ n ∧ PyData.plainAll ds = true
  | [], _ => ⟨by simp [PyData.canLayAll0], by simp [PyData.depthAll], rfl⟩
  | d :: ds, h => by
    obtain ⟨a, b, c⟩ := ni_all (ds := ds) fun e he => h e (List.mem_cons_of_mem _ he)
    have k := h d List.mem_cons_self
    refine ⟨by simp [PyData.canLayAll0, k.lay, a], ?_, by simp [PyData.plainAll, k.plain, c]⟩
    rw [PyData.depthAll]
    exact Nat.max_le.mpr ⟨k.deep, b⟩
theorem Ni.list {n : Nat} {ds : List PyData} (h : ∀ d, d ∈ ds → Ni n d) : Ni (n + 1) (.list ds) := by
  obtain ⟨a, b, c⟩ := ni_all h
  exact ⟨by simp only [PyData.canLay0]; exact a, by simp only [PyData.depth]; omega, by simp only [PyData.plain]; exact c⟩
theorem Ni.tuple {n : Nat} {ds : List PyData} (h : ∀ d, d ∈ ds → Ni n d) : Ni (n + 1) (.tuple ds) := by
  obtain ⟨a, b, c⟩ := ni_all h
  exact ⟨by simp only [PyData.canLay0]; exact a, by simp only [PyData.depth]; omega, by simp only [PyData.plain]; exact c⟩
theorem Ni.int {n : Nat} (i : Int) : Ni n (.int i) := ⟨by simp [PyData.canLay0], by simp [PyData.depth], rfl⟩
theorem Ni.non {n : Nat} : Ni n .none := ⟨by simp [PyData.canLay0], by simp [PyData.depth], rfl⟩
theorem Ni.bl {n : Nat} (b : Bool) : Ni n (.bool b) := ⟨by simp [PyData.canLay0], by simp [PyData.depth], rfl⟩
theorem Ni.pD {n : Nat} (z : Option Int) : Ni n (pD z) := by
  cases z
  · exact .non
  · exact .int _
theorem Ni.row {n : Nat} (r : List (Option Int)) : Ni (n + 1) (rowD r) := Ni.list fun d hd => by
  obtain ⟨z, _, rfl⟩ := List.mem_map.mp hd
  exact .pD z
theorem Ni.rows {n : Nat} (R : Rw) : Ni (n + 2) (rowsD R) := Ni.list fun d hd => by
  obtain ⟨r, _, rfl⟩ := List.mem_map.mp hd
  exact .row r
theorem Ni.shaped {n : Nat} {d : PyData} (h : Ni n d) (l : n ≤ 30) : SeqAt.shaped d = true := by
  have := h.deep
  simp only [SeqAt.shaped, h.lay, Bool.true_and]
  exact decide_eq_true (by omega)
theorem eqv_plain {d : PyData} (h : d.plain = true) : PyData.eqv d d = true := PySem.SeqAt.eqv_refl_plain d h
def spPrc : Sp := fun vs H Q _ => ∃ (p c : Addr) (ns : List Int) (z : Int), vs = [.ref p, .int z] ∧ PoolAt H p c ns ∧ ∀ (r : Int) (H' : Hp), Sb r → Keep p H H' → PoolAt H' p c ns → Q (.int r) H'
def spEnt : Sp := fun vs H Q _ => ∃ st q a b x y : Int, vs = [.int st, .int q, .int a, .int b, .int x, .int y] ∧ Sb q ∧ Sb a ∧ Sb b ∧ Sb x ∧ Sb y ∧ ∀ r : Int, Sz r → Q (.int r) H
/-- _law_rows(pool, most) -/
def spLRws : Sp := fun vs H Q _ => ∃ (p c : Addr) (ns : List Int) (m : Int), vs = [.ref p, .int m] ∧ PoolAt H p c ns ∧ 0 < m ∧ m ≤ 8 ∧
  ∀ (r : Addr) (es : List V) (R : Rw) (H' : Hp), Keep p H H' → PoolAt H' p c ns → NewK p H H' r es R → Gt R → Bd R → (R.length : Int) ≤ m → (wd R : Int) ≤ m → Q (.ref r) H'
/-- _law_copy(rows) -/
def spLCpy (K : PySem.W.Frag) : Sp := fun vs H Q _ => ∃ (a : Addr) (es : List V) (R : Rw), vs = [.ref a] ∧ RS K H a es R ∧ R.length ≤ 8 ∧ ∀ (r : Addr) (fs : List V) (H' : Hp), Same H H' → H r = none → RL H' r fs R → (∀ (i : Nat) (c : Addr), fs[i]? = some (V.ref c) → H c = none ∧ c ≠ r) → Q (.ref r) H'
/-- _law_pairs(rows) -/
def spLPrs (K : PySem.W.Frag) : Sp := fun vs H Q _ => ∃ (a : Addr) (es : List V) (R : Rw), vs = [.ref a] ∧ RS K H a es R ∧ Gt R ∧ ∀ (r : Addr) (us : List V) (H' : Hp), Same H H' → H r = none → H' r = some (.lst us) → PrsAt r H' us (cells R) → Q (.ref r) H'
end Pk
set_option Elab.async false
set_option linter.all false
set_option maxRecDepth 100000
set_option maxHeartbeats 1000000
namespace Pk
open PySem L2 PySem.Spec PyProof.Rows
/-! ### an own comparison as a test -/
section
variable {X : Cx} {CX : CXT} {k : Nat} {C : Addr} {sp : Sp} {E : L2.St → XK} {a b : Expr} {ta tb : TE} {pos : Pos}
theorem core_cmpOwn {op : CmpOp} (hop : ∀ a b, compareOp op a b = richCompare op a b) (F : Two X CX k C (cmpInfo op).2.1 sp) (hr : Room k X.A) (hx : ∀ σ, PassesAt CX X σ (E σ))
    {pins : List (Addr × Obj)} {σ : L2.St} {H2 : Hp} {s2 : Shared} {x y : V} {v u : Value} {Q : VK} (I2 : Inv X pins σ H2 s2) (rx : RelV x v) (ry : RelV y u) (q : rOwnC X.K C sp E σ x y H2 Q) :
    wpAny (model X.prog X.w) X.A (compareOp op v u) (EP X pins σ Q) X.xe s2 := by
  obtain ⟨f, fd, ps, M, F, B⟩ := F.ex
  obtain ⟨a, dx, fs, rfl, e, o, q⟩ := q
  cases rx
  obtain ⟨ox, od, J⟩ := own_at I2 e
  obtain ⟨tb, L, nf⟩ := other_looks (M := model X.prog X.w) I2 ry o fun _ _ _ _ _ => trivial
  obtain ⟨m, hF⟩ := I2.fr
  rw [hop]
  refine PySem.W.cmp_K (op := op) hr.units0 hF I2.ok.mod.kin J L nf M.at_ M.fn ?_
  refine wpAny_mono (own_run (us := [.ref a, u]) (vs := [.ref a, y]) F hr I2.env0 B (hx σ) I2 (.cons rfl (.cons ry .nil)) q) (fun w s' z => ?_) fun _ _ z => z
  obtain ⟨z, H3, I3, rz, qz⟩ := z
  exact SlX.cmpback rz ⟨z, H3, I3, rz, qz⟩
theorem pt_cmpOwn {op : CmpOp} (hop : ∀ a b, compareOp op a b = richCompare op a b) (F : Two X CX k C (cmpInfo op).2.1 sp) (hr : Room k X.A) (hx : ∀ σ, PassesAt CX X σ (E σ)) (ha : PE X a ta) (hb : PE X b tb) (hm : behindInMarks op b = false) :
    PT X (.Compare a [op] [b] pos) (tTest (tOp2 (rOwnC X.K C sp) E ta tb)) := by
  refine ⟨fun pins s σ H Q I h => ?_⟩
  refine wpAny_isTrue_Compare1 (binT ha hb I h fun v u s2 x y H2 I2 rx ry q => ?_) hm
  refine thn (core_cmpOwn hop F hr hx I2 rx ry q) fun c s3 ⟨z, H3, I3, r3, k, e, q3⟩ => ?_
  subst e
  cases r3
  exact wpAny_truthy_bool ⟨H3, I3, q3⟩
theorem core_neOwn (F : Two X CX k C "__eq__" sp) (hs : PySem.W.findIn X.K (.ref C) "__ne__" = some (some (.builtin "object.__ne__"))) (ho : PySem.W.mroIn X.K C (.type "object") = some true) (hr : Room (k + 1) X.A) (hx : ∀ σ, PassesAt CX X σ (E σ))
    {pins : List (Addr × Obj)} {σ : L2.St} {H2 : Hp} {s2 : Shared} {x y : V} {v u : Value} {Q : VK} (I2 : Inv X pins σ H2 s2) (rx : RelV x v) (ry : RelV y u) (q : rOwnNe X.K C sp E σ x y H2 Q) :
    wpAny (model X.prog X.w) X.A (compareOp .NotEq v u) (EP X pins σ Q) X.xe s2 := by
  obtain ⟨f, fd, ps, M, F, B⟩ := F.ex
  obtain ⟨a, dx, fs, rfl, e, o, q⟩ := q
  cases rx
  obtain ⟨ox, od, J⟩ := own_at I2 e
  obtain ⟨tb, L, nf⟩ := other_looks (M := model X.prog X.w) I2 ry o fun _ _ _ _ _ => trivial
  show wpAny _ _ (richCompare .NotEq _ _) _ _ _
  refine ne_by_eq hr.in1.units0 hr.units0 I2.kIn J L nf ho hs M.at_ M.fn ?_
  refine wpAny_mono (own_run (us := [.ref a, u]) (vs := [.ref a, y]) F hr.in1 I2.env0.in1 B (hx σ) I2 (.cons rfl (.cons ry .nil)) q) (fun w s' z => ?_) fun _ _ z => z
  obtain ⟨z, H3, I3, rz, c, rfl, qz⟩ := z
  cases (show w = Value.bool c from rz)
  exact ⟨c, rfl, .bl (!c), H3, I3, rfl, qz⟩
theorem pt_neOwn (F : Two X CX k C "__eq__" sp) (hs : PySem.W.findIn X.K (.ref C) "__ne__" = some (some (.builtin "object.__ne__"))) (ho : PySem.W.mroIn X.K C (.type "object") = some true) (hr : Room (k + 1) X.A) (hx : ∀ σ, PassesAt CX X σ (E σ)) (ha : PE X a ta) (hb : PE X b tb) (hm : behindInMarks .NotEq b = false) :
    PT X (.Compare a [.NotEq] [b] pos) (tTest (tOp2 (rOwnNe X.K C sp) E ta tb)) := by
  refine ⟨fun pins s σ H Q I h => ?_⟩
  refine wpAny_isTrue_Compare1 (binT ha hb I h fun v u s2 x y H2 I2 rx ry q => ?_) hm
  refine thn (core_neOwn F hs ho hr hx I2 rx ry q) fun c s3 ⟨z, H3, I3, r3, k, e, q3⟩ => ?_
  subst e
  cases r3
  exact wpAny_truthy_bool ⟨H3, I3, q3⟩
end
end Pk
set_option Elab.async false
set_option linter.all false
set_option maxRecDepth 100000
set_option maxHeartbeats 1000000
namespace Pk
open PySem L2 PySem.Spec PyProof.Rows
/-! ### either promise of a def -/
def spOr (a b : Sp) : Sp := fun vs H Q E => a vs H Q E ∨ b vs H Q E
theorem _root_.L2.FnOk.or {P : Program} {w : World} {K : PySem.W.Frag} {mg : Str → Option Value} {base : Heap} {CX : CXT} {k : Nat} {f : Addr} {fd : FuncData} {ps : List Str} {a b : Sp} (A : FnOk P w K mg base CX k f fd ps a) (B : FnOk P w K mg base CX k f fd ps b) : FnOk P w K mg base CX k f fd ps (spOr a b) :=
  ⟨fun vs H Q E h => h.elim (A.len vs H Q E) (B.len vs H Q E), fun A' outer s H args us vs Q E hr he hb hv hs => hs.elim (A.run A' outer s H args us vs Q E hr he hb hv) (B.run A' outer s H args us vs Q E hr he hb hv)⟩
theorem ErrOk.or {P : Program} {w : World} {K : PySem.W.Frag} {mg : Str → Option Value} {base : Heap} {k : Nat} {C fI : Addr} {a b : Sp} (A : ErrOk P w K mg base k C fI a) (B : ErrOk P w K mg base k C fI b) : ErrOk P w K mg base k C fI (spOr a b) :=
  ⟨fun A' outer s H us vs x Q hr he hv hx hs => hs.elim (A.run A' outer s H us vs x Q hr he hv hx) (B.run A' outer s H us vs x Q hr he hv hx)⟩
/-! ### the dict {0: 1} -/
abbrev kvs01 : List (Key × V) := [(.inl 0, .int 1)]
def D01 (H : Hp) (v : V) : Prop := ∃ a : Addr, v = .ref a ∧ H a = some (.dK kvs01)
theorem D01.later {H H' : Hp} {v : V} (s : Same H H') (h : D01 H v) : D01 H' v := let ⟨a, e, q⟩ := h; ⟨a, e, s _ _ q⟩
theorem D01.ty {K : PySem.W.Frag} {H : Hp} {v : V} (h : D01 H v) : TyX K H v (.type "dict") := by
  obtain ⟨a, rfl, q⟩ := h
  exact .base (.dK q)
/-- .. new since H0 -/
def D01n (H0 H : Hp) (v : V) : Prop := ∃ a : Addr, v = .ref a ∧ H0 a = none ∧ H a = some (.dK kvs01)
theorem D01n.at_ {H0 H : Hp} {v : V} (h : D01n H0 H v) : D01 H v := let ⟨a, e, _, q⟩ := h; ⟨a, e, q⟩
/-- own_copy of it -/
def spCopyD : Sp := fun vs H Q _ => ∃ v : V, vs = [v] ∧ D01 H v ∧ ∀ (v' : V) (H' : Hp), Same H H' → D01n H H' v' → Q v' H'
/-- an __init__ of one field, a copy of such a dict -/
def spErrD (K : PySem.W.Frag) (C : Addr) (f : Str) : Sp := fun vs H Q _ => ∃ (x : Addr) (v : V), vs = [.ref x, v] ∧ H x = some (exo x C none) ∧ D01 H v ∧
  ∀ (dx : Addr) (v' : V) (H' : Hp), H' x = some (exo x C (some dx)) → H' dx = some (exd dx [(f, v')]) → H dx = none → dx ≠ x → Keep x H H' → D01n H H' v' → Q .non H'
theorem exd_dk {dx : Addr} {fs : List (Str × V)} {kvs : List (Key × V)} : exd dx fs ≠ .dK kvs := fun z => by cases (show HO.ext _ = HO.dK kvs from z)
theorem dc_it {J : It} {n : Nat} {G : Hp → Prop} {Y : Nat → Hp → V → Hp → Prop} (w : Walk J n G Y) {g : TG} {tt : TT} {tk tv : TE} {vs : List Nat} {σ : L2.St} {H1 : Hp} {D : Addr} {Qd : Hp → Prop} (Pv : Nat → Hp → Prop) (h0 : Pv 0 (upd H1 D (.dK []))) (hG : ∀ i H, i ≤ n → Pv i H → G H)
    (hs : ∀ i x H H', i < n → Pv i H → Y i H x H' → g x (wipe σ vs) H' fun σ2 H2 => wipe σ2 vs = wipe σ vs ∧ tt σ2 H2 fun b H3 =>
      if b = true then tk σ2 H3 fun y H4 => tv σ2 H4 fun z H5 => ∃ kvs k, y = kV k ∧ H5 D = some (.dK kvs) ∧ kvs.length < sizeLine ∧ Pv (i + 1) (upd H5 D (.dK (putK kvs k z))) else Pv (i + 1) H3) (hd : ∀ H, Pv n H → Qd H) :
    ∃ W : Nat → Nat → Hp → Prop, (∃ m, W 0 m (upd H1 D (.dK []))) ∧ ∀ i m H, W i m H →
      (J.stop i H ∧ Qd H) ∨ (J.go i H ∧ ∃ Nx : Hp → Prop, (∀ H', Nx H' → ∃ m', m' < m ∧ W (i + 1) m' H') ∧ ∀ x H', J.yld i H x H' → g x (wipe σ vs) H' fun σ2 H2 => wipe σ2 vs = wipe σ vs ∧ tt σ2 H2 fun b H3 =>
        if b = true then tk σ2 H3 fun y H4 => tv σ2 H4 fun z H5 => ∃ kvs k, y = kV k ∧ H5 D = some (.dK kvs) ∧ kvs.length < sizeLine ∧ Nx (upd H5 D (.dK (putK kvs k z))) else Nx H3) :=
  lc_any w (B := fun Nx x H' => g x (wipe σ vs) H' fun σ2 H2 => wipe σ2 vs = wipe σ vs ∧ tt σ2 H2 fun b H3 => if b = true then tk σ2 H3 fun y H4 => tv σ2 H4 fun z H5 => ∃ kvs k, y = kV k ∧ H5 D = some (.dK kvs) ∧ kvs.length < sizeLine ∧ Nx (upd H5 D (.dK (putK kvs k z))) else Nx H3) Pv h0 hG hs hd
section
variable {P : Program} {w : World} {K : PySem.W.Frag} {mg : Str → Option Value} {base : Heap} {C fI cc fc : Addr} {fdc : FuncData} {F : NdefX.NF} {n : Nat} {f g : Str}
theorem err_oneD {msg : Str} {kd : Nat} {p0 p1 p2 p3 p4 p5 q0 q1 q2 q3 q4 q5 : Pos} (T : ErrC K C) (J : InitFn P K C fI cc F) (ms : mg "super" = none) (G : FnOk P w K mg base CX0 (n + 1) fc fdc ["value"] spCopyD) (mc : mg "own_copy" = some (.ref fc)) (kc : PySem.W.keepIn K (.ref fc) = true)
    (bc : Binds K fdc ["value"] []) (S : NdefX.NScope ["self", f, "__class__"] ["self", f] ["__class__"] F.scope)
    (hB : F.body = .Expr (.Call (.Attribute (.Call (.Name "super" p0) [] [] p1) "__init__" p2) [.Constant (.str msg) kd p3] [] p4) p5 :: [.Assign [.Attribute (.Name "self" q0) f q1] (.Call (.Name "own_copy" q2) [.Name f q3] [] q4) q5])
    (hsg : F.scope.names.lookup ("super" : Str) = some .globalImplicit) (hog : F.scope.names.lookup ("own_copy" : Str) = some .globalImplicit) (free : PySem.W.findIn K (.ref C) f = some none)
    (hb : ∀ (kV doc pm ct : Value) (an : Option Addr) (us : List Value), us.length = 2 → bindArgs (PySem.W.fnX F.name F.qual F.params F.body F.scope F.cl .none kV doc pm an (.ref F.c) ct) ⟨us, []⟩ = pure ((["self", f] : List Str).zip us))
    {pl : Sem Bool} (he : ∀ env : Env, eval (.Call (.Attribute (.Call (.Name "super" p0) [] [] p1) "__init__" p2) [.Constant (.str msg) kd p3] [] p4) env = (do
      let ov ← attributeBase (.Call (.Name "super" p0) [] [] p1) "__init__" env (eval (.Call (.Name "super" p0) [] [] p1) env)
      standAt p2.atName
      let (f, first) ← holding [ov] (getMethod ov "__init__" pl)
      callWith p4 f first (backTo p4 (starEach [.Constant (.str msg) kd p3] env)) []))
    (fd : (f == ("__debug__" : Str)) = false) (fcd : (f == ("__classdict__" : Str)) = false) : ErrOk P w K mg base (n + 2) C fI (spErrD K C f) := by
  refine ⟨fun A outer s H us vs x Q hr e0 r ex hsp => ?_⟩
  obtain ⟨x', v, evs, _, hv, k⟩ := hsp
  obtain ⟨rfl, rfl⟩ : x = x' ∧ vs = [v] := by
    have z := List.cons.inj evs
    exact ⟨V.ref.inj z.1, z.2⟩
  have lu : us.length = 2 := by rw [← r.length]; rfl
  refine init_run (k := n + 1) (rest := [.Assign [.Attribute (.Name "self" q0) f q1] (.Call (.Name "own_copy" q2) [.Name f q3] [] q4) q5]) (x := x) T J ms S hB hsg (S.par _ (by simp)) hr e0 (fun kV doc pm ct an => BindsTo.of_eq (hb kV doc pm ct an us lu)) r rfl rfl rfl ex he fun hr' => ?_
  refine ⟨_, pss_one (ps_errSet (pe_var (i := 0) rfl (.inl (S.par _ (by simp)))) (pe_call G hr' hog mc kc bc .nil pass0 (pa_cons (pe_var (i := 1) rfl (.inl (S.par _ (by simp))) fd fcd) pa_nil)) ?sw), ?_⟩
  case sw => rfl
  refine r_errSet ?_
  refine r_call ?_
  refine r_cons ?_
  refine r_var rfl ?_
  refine r_nil ?_
  refine ⟨v, rfl, hv, fun v' H1 s1 o1 => ?_⟩
  refine r_var rfl ?_
  refine ⟨x, C, rfl, T, free, .inl ⟨s1 _ _ ex, fun dx hdx ne => ?_⟩⟩
  obtain ⟨b, e1, n1, h1⟩ := o1
  refine k dx v' _ upd_same (by rw [upd_ne ne, upd_same]) (s1.free hdx) ne (Keep.own (Keep.new (Keep.same s1) hdx)) ⟨b, e1, n1, ?_⟩
  have nx : b ≠ x := fun z => by rw [z, ex] at n1; cases n1
  have nd : b ≠ dx := fun z => by rw [z, hdx] at h1; cases h1
  rw [upd_ne nx, upd_ne nd]
  exact h1
theorem r_errD {σ : L2.St} {H : Hp} {Q : XK} {v : V} (hv : D01 H v) (q : ∀ (dd : Addr) (v' : V) (H' : Hp), Same H H' → H dd = none → H' dd = some (.xd [(f, v')]) → D01n H H' v' → Q (.ref C) (some dd) H') :
    [v].length ≤ 1000 ∧ ∀ x, H x = none → spErrD K C f (.ref x :: [v]) (upd H x (exo x C none)) (fun v H2 => v = .non ∧ ∃ (d : Addr) (fs : List (Str × V)), H2 x = some (exo x C (some d)) ∧ H2 d = some (exd d fs) ∧ H d = none ∧ Q (.ref C) (some d) (upd (del H2 x) d (.xd fs))) (fun _ _ _ => False) := by
  refine ⟨by show 1 ≤ 1000; decide, fun x hx => ?_⟩
  have s0 : Same H (upd H x (exo x C none)) := Same.up (Same.refl H) hx
  refine ⟨x, v, rfl, upd_same, hv.later s0, fun dx v' H' h1 h2 h3 ne h4 h5 => ⟨rfl, dx, _, h1, h2, ?_, ?_⟩⟩
  · rw [upd_ne ne] at h3; exact h3
  · rw [upd_ne ne] at h3
    obtain ⟨b, e1, n1, hb⟩ := h5
    have nx : b ≠ x := fun z => by rw [z, upd_same] at n1; cases n1
    have nd : b ≠ dx := fun z => by
      rw [z, h2] at hb
      exact exd_dk (Option.some.inj hb)
    refine q dx v' _ (fun b o e => ?_) h3 upd_same ⟨b, e1, s0.free n1, ?_⟩
    · have nb : b ≠ x := ne_of_none e hx
      rw [upd_ne (ne_of_none e h3), del_ne nb]
      exact h4 b o nb (s0 b o e)
    · rw [upd_ne nd, del_ne nx]
      exact hb
end
end Pk
set_option Elab.async false
set_option linter.all false
set_option maxRecDepth 100000
set_option maxHeartbeats 1000000
namespace Pk
open PySem L2 PySem.Spec PyProof.Rows
/-- a clause's ends: its name is gone behind it -/
def goneAt (i : Nat) (D : Ends) : Ends := { nx := fun τ G => D.nx (τ.set i none) G, rt := D.rt, bk := fun τ G => D.bk (τ.set i none) G, ct := fun τ G => D.ct (τ.set i none) G }
abbrev Cl := Value × Nat × (Addr → Value → Option Addr → TS)
/-- what several clauses 'except c as n' wish of an exception of the body, one behind another -/
def wAsMany (K : PySem.W.Frag) (Wout : WX) (D : Ends) : List Cl → WX
  | [] => Wout
  | (c, i, ts) :: r => fun k d τ G => ∃ b, PySem.W.exmOne K k c = some b ∧ (b = true → ∀ a, G a = none → ts a k d (goneAt i D) (τ.set i (some (.ref a))) G) ∧ (b = false → wAsMany K Wout D r k d τ G)
inductive ClsOk (X : Cx) : List ExceptHandler → List Cl → Prop
  | nil : ClsOk X [] []
  | cons {x n : Str} {c : Value} {i : Nat} {ts : Addr → Value → Option Addr → TS} {b₀ : Stmt} {su : List Stmt} {np ps : Pos} {hds : List ExceptHandler} {l : List Cl} (hc : Names X x c) (hi : X.N[i]? = some n) (hk : X.env.kindOf n = some .local)
      (hsu : ∀ (a : Addr) (oe : Obj) (k : Value) (d : Option Addr) (pn : List (Addr × Obj)), Zc k d oe → (∃ vs, oe.data = .fields vs) → PSs (X.suite a ((a, oe) :: pn)) (b₀ :: su) (ts a k d)) (r : ClsOk X hds l) :
      ClsOk X (.ExceptHandler (some (.Name x np)) (some n) (b₀ :: su) ps :: hds) ((c, i, ts) :: l)
section
variable {X : Cx} {body : List Stmt} {h₀ : ExceptHandler} {hds : List ExceptHandler} {l : List Cl} {pos : Pos} {tb : WX → TS} {Wout : WX}
theorem ps_try_asMany (hs : X.stack = X.env :: X.outer) (hf : X.env.frame = some X.env.locals) (hN : X.N.Nodup) (tk : Takes X Wout)
    (hb : ∀ (W : WX) (pn : List (Addr × Obj)) (xe : Value → Shared → Prop), Takes (X.tr pn xe) W → PassesOwn (model X.prog X.w) X.A X.env xe → PSs (X.tr pn xe) body (tb W)) (hh : ClsOk X (h₀ :: hds) l) :
    PS X (.Try body (h₀ :: hds) [] [] pos) (fun D τ G => tb (wAsMany X.K Wout D l) D τ G) := by
  refine ⟨fun pins s τ G D I h => ?_⟩
  have oki := I.ok
  have frm : X.A.frames = some (X.env :: X.outer) := oki.frames.trans (congrArg some hs)
  refine wpAny_Try_except (wpAny_mono ((hb (wAsMany X.K Wout D l) (X.pn ++ pins) (fun e s₁ => wpAny (model X.prog X.w) X.A (noteFrame e X.env) (fun _ s₂ => wpAny (model X.prog X.w) X.A (setFlight e none)
    (fun _ s₃ => wpAny (model X.prog X.w) X.A (handleBy e X.env (h₀ :: hds)) (SP X pins D) X.xe s₃) X.xe s₂) X.xe s₁) (fun u st xx => ?caught) PassesOwn.looking).run [] s τ G D (I.toTry _) h) (fun fl st hsp => ?through) (fun e st he => he))
  case through =>
    cases fl with
    | next => obtain ⟨τ', G', J, q⟩ := hsp; exact wpAny_execs_nil ⟨τ', G', J.ofTry oki, q⟩
    | brk => obtain ⟨τ', G', J, q⟩ := hsp; exact ⟨τ', G', J.ofTry oki, q⟩
    | cont => obtain ⟨τ', G', J, q⟩ := hsp; exact ⟨τ', G', J.ofTry oki, q⟩
    | ret u => obtain ⟨v, τ', G', J, r, q⟩ := hsp; exact ⟨v, τ', G', J.ofTry oki, r, q⟩
  case caught =>
    obtain ⟨a, B, sI, pins', τ', G', k, d, rfl, J', nb, up, sky, na, os, ag, w⟩ := xx
    have J : Inv X pins τ' G' sI := J'.ofTry oki
    have skyB : Sky B (X.env :: X.outer) a (Zc k d) X.env.locals st.heap := hs ▸ sky
    show wpAny (model X.prog X.w) X.A (noteFrame (.ref a) X.env) _ _ _
    refine Sky.land Zc.steady frm hf skyB fun h3 fl3 up3 => ?_
    have J3 : Inv X pins τ' G' { st with heap := h3 } := J.landed nb fl3.1 (up.trans up3) os ag
    obtain ⟨oe3, vs3, he3, hz3, hd3⟩ := fl3.there
    have off : a ∉ frs (X.env :: X.outer) := fun hm => by
      obtain ⟨_, o', e', hnf⟩ := fl3.2.2.1.mem hm
      cases he3.symm.trans e'; exact hnf _ hd3
    have nL : a ≠ X.env.locals := fun z => off (List.mem_filterMap.mpr ⟨X.env, List.mem_cons_self, by rw [hf, z]⟩)
    have nF : a ∉ X.fs := fun hm => let ⟨e, he, q⟩ := List.mem_filterMap.mp hm; off (List.mem_filterMap.mpr ⟨e, List.mem_cons_of_mem _ he, q⟩)
    have S3 := J3.suite he3 hd3 na nL nF
    suffices go : ∀ {ks : List ExceptHandler} {m : List Cl}, ClsOk X ks m → wAsMany X.K Wout D m k d τ' G' → wpAny (model X.prog X.w) X.A (handleBy (.ref a) X.env ks) (SP X pins D) X.xe { st with heap := h3 } from go hh w
    intro ks m hk
    induction hk with
    | nil =>
      intro w; refine wpAny_handleBy_nil ?_
      obtain ⟨_, _, _, oe, vs, T, oT, tz, he, hz, hd, h1, hr⟩ := id fl3
      unfold PySem.passOn
      refine wpAny_bind (wpAny_field he hd h1 ?_)
      rw [if_neg (by simp : ¬ ((Value.ref T == Value.none) = true))]
      have out : wpAny (model X.prog X.w) X.A (setFlight (.ref a) X.env.frame) (fun _ s4 => wpAny (model X.prog X.w) X.A (throw (.ref a) : Sem Flow) (SP X pins D) X.xe s4) X.xe { st with heap := h3 } := by
        rw [hf]; refine HandSPX.setFlight_upZ fl3 fun h4 hh4 up4 => wpAny_throw (tk _ _ ?_)
        exact ⟨a, B, sI, pins, τ', G', k, d, rfl, J, nb, (up.trans up3).trans up4, .inr (.inr (hs.symm ▸ hh4)), na, os, ag, w⟩
      first | exact wpAny_bind (wpAny_pure (wpAny_bind out)) | exact wpAny_bind out
    | @cons x n c i ts b₀ su np ps hds2 l2 hc hi hln hsu r ih =>
      intro w
      obtain ⟨b, hb1, yes, no⟩ := w
      refine wpAny_handleBy_cons (codeAny_handlers_test ?_) (by intro q; cases q)
      have tyL : PySem.W.Looks (model X.prog X.w) h3 (typeOf (.ref a)) k := fun A Q E s kk q => wpAny_typeOf_ref (kk _ _ he3) (hz3.1.symm ▸ q)
      have mt := PySem.W.exm_one (M := model X.prog X.w) (J3.kIn) tyL hb1
      have ask : ∀ {Q : Value → Shared → Prop} {E : Value → Shared → Prop}, Q c { st with heap := h3 } → wpAny (model X.prog X.w) (X.A.mark (some (.ref a))) (eval (.Name x np) X.env) Q E { st with heap := h3 } := fun {Q E} q => by
        obtain ⟨hg, hdb, g | ⟨g, hv, hnn⟩⟩ := hc
        · exact ld_glob (X := X.suite a ((a, oe3) :: (X.pn ++ pins))) S3 hg g q hdb
        · exact ld_blt (X := X.suite a ((a, oe3) :: (X.pn ++ pins))) S3 hg g hv q hnn hdb
      refine ask (mt.here ?_)
      cases b with
      | false => show wpAny _ X.A (handleBy (.ref a) X.env hds2) _ _ _; exact ih (no rfl)
      | true =>
        refine codeAny_handlers_suite_as (HandSPX.lands_againZ fl3 fun h4 fl4 up4 => ?_)
        have J4 : Inv X pins τ' G' { st with heap := h4 } := J.landed nb fl4.1 ((up.trans up3).trans up4) os ag
        obtain ⟨oe4, vs4, he4, hz4, hd4⟩ := fl4.there
        have S4 := J4.suite he4 hd4 na nL nF
        refine store_ok (X := X.suite a ((a, oe4) :: (X.pn ++ pins))) (v := .ref a) S4 hN hi (.inl hln) rfl (fun s5 S5 => ?_) (.inr hln)
        refine wpAny_mono ((hsu a oe4 k d (X.pn ++ pins) hz4 ⟨_, hd4⟩).run [] s5 _ G' _ S5 (yes rfl a na)) (fun f s6 hsp => ?_) (fun _ _ z => False.elim z)
        have fin : ∀ {τ6 : L2.St} {G6 : Hp} {Q : Shared → Prop}, Inv (X.suite a ((a, oe4) :: (X.pn ++ pins))) [] τ6 G6 s6 → (∀ s7, Inv X pins (τ6.set i none) G6 s7 → Q s7) →
            wpAny (model X.prog X.w) X.A (do bindName X.env n .none; unbindBehindTheSuite X.env n ps) (fun _ s7 => Q s7) X.xe s6 := fun {τ6 G6 Q} S6 hq => gone_ok (S6.unsuite oki) hN hi hln hq
        cases f with
        | next => obtain ⟨τ6, G6, S6, q6⟩ := hsp; exact fin S6 fun s7 J7 => ⟨_, _, J7, q6⟩
        | brk => obtain ⟨τ6, G6, S6, q6⟩ := hsp; exact fin S6 fun s7 J7 => ⟨_, _, J7, q6⟩
        | cont => obtain ⟨τ6, G6, S6, q6⟩ := hsp; exact fin S6 fun s7 J7 => ⟨_, _, J7, q6⟩
        | ret u => obtain ⟨v6, τ6, G6, S6, r6, q6⟩ := hsp; exact fin S6 fun s7 J7 => ⟨_, _, _, J7, r6, q6⟩
end
end Pk
set_option Elab.async false
set_option linter.all false
set_option maxRecDepth 100000
set_option maxHeartbeats 1000000
namespace Pk
open PySem L2 PySem.Spec PyProof.Rows
/-! ### a method is called where what it raises is wished for at the caller's slots -/
def tMethT (C : Addr) (m : Str) (sp : Sp) (E : L2.St → XK) (ta : TE) (t : TA) : TE := fun σ H Q => ta σ H fun x H1 => ∃ a dx fs, x = .ref a ∧ H1 a = some (.ins C dx fs) ∧ fs.lookup m = none ∧ t σ H1 fun vs H2 => sp (x :: vs) H2 Q (E σ)
theorem r_methT {C : Addr} {m : Str} {sp : Sp} {E : L2.St → XK} {ta : TE} {t : TA} {σ : L2.St} {H : Hp} {Q : VK} (h : ta σ H fun x H1 => ∃ a dx fs, x = .ref a ∧ H1 a = some (.ins C dx fs) ∧ fs.lookup m = none ∧ t σ H1 fun vs H2 => sp (x :: vs) H2 Q (E σ)) : tMethT C m sp E ta t σ H Q := h
theorem pe_methT {X : Cx} {CX : CXT} {k : Nat} {f C : Addr} {fd : FuncData} {ps : List Str} {sp : Sp} {E : L2.St → XK} {m : Str} {pos apos : Pos} {o e : Expr} {es : List Expr} {ta : TE} {t : TA} {pl : Sem Bool} (he : PE X o ta) (c : Cls X.K C) (hm : Meth X.K C m f)
    (F : FnOk X.prog X.w X.K X.mg X.base CX k f fd ps sp) (hr : Room k X.A) (hb : Binds X.K fd ps []) (hx : ∀ σ, PassesAt CX X σ (E σ)) (ha : PA X (e :: es) t)
    (hst : starEach (e :: es) X.env = (false, eval e X.env) :: starEach es X.env := by rfl) (hpl : (backTo pos (starEach es X.env)).any (·.1) = false := by rfl)
    (ht : eval (.Call (.Attribute o m apos) (e :: es) [] pos) X.env = (do
      let ov ← eval o X.env
      standAt apos.atName
      let (f, first) ← holding [ov] (getMethod ov m pl)
      callWith pos f first (backTo pos (starEach (e :: es) X.env)) (backToKw pos (keywordEach [] X.env))) := by rfl) :
    PE X (.Call (.Attribute o m apos) (e :: es) [] pos) (tMethT C m sp E ta t) := by
  refine ⟨fun pins s σ H Q I h => ?_⟩
  refine PySem.W.methodCall_KW (pl := pl) (thn (he.run pins s σ H _ I h) fun u s1 ⟨x, H1, I1, rx, a, dx, fs, ex, ea, l, q⟩ => ?_) ht
  subst ex
  obtain rfl : u = Value.ref a := rx
  refine getmeth_ok I1 ea c hm l ?_
  refine PySem.W.callWith_K (first := [.ref a]) (h₀ := X.base) I.ok.mod.kin hm.kp (thn (ha.run pos pins s1 σ H1 _ I1 q) fun us s2 ⟨vs, H2, I2, r, q2⟩ => ⟨I2.kIn, ?_⟩) hst hpl
  exact run_fnS (us := .ref a :: us) (vs := .ref a :: vs) F hr hb (hx σ) I2 (.cons rfl r) q2
end Pk
set_option Elab.async false
set_option linter.all false
set_option maxRecDepth 100000
set_option maxHeartbeats 1000000
namespace Pk
open PySem L2 PySem.Spec PyProof.Rows
/-- x not in a list of pairs -/
def rNotInP (K : PySem.W.Frag) : R2 := fun x y H Q => ∃ z zs, Dp K H x (prD z) ∧ Dp K H y (prsD zs) ∧ Q (.bl (!decide (z ∈ zs))) H
theorem op_notInP {X : Cx} (room : X.A.units + 64 < cLine) : OpR X (compareOp .NotIn) (rNotInP X.K) := by
  intro pn sh τ G a b va vb R J ra rb want
  obtain ⟨z, zs, da, db, q⟩ := want
  obtain ⟨as, r1⟩ := Dp.reads J _ a va da ra
  obtain ⟨bs, r2⟩ := Dp.reads J _ b vb db rb
  have deep := prs_depthAll zs
  have e := PySem.W.any_datum (α := Int × Int) zs z
  refine SeqAt.notIn_list_data r2 r1 (prs_plainAll zs) (pr_plain z) (by omega) ⟨.bl _, G, J, rfl, ?_⟩
  rw [show ((zs.map prD).any fun y => PyData.eqv y (prD z)) = decide (z ∈ zs) from e.trans (decide_eq_decide.mpr Iff.rfl)]
  exact q
section
variable {X : Cx} {CX : CXT} {k : Nat} {C : Addr} {sp : Sp} {E : L2.St → XK} {a b : Expr} {ta tb : TE} {pos : Pos}
/-- y not in x, x of an own class -/
theorem pt_notIn2 (F : Two X CX k C "__contains__" sp) (hr : Room k X.A) (hx : ∀ σ, PassesAt CX X σ (E σ)) (ha : PE X a ta) (hb : PE X b tb) (hm : behindInMarks .NotIn b = false) :
    PT X (.Compare a [.NotIn] [b] pos) (tTest (tOp2 (rOwnIn C sp true) E ta tb)) := by
  obtain ⟨f, fd, ps, M, F, B⟩ := F.ex
  refine ⟨fun pins s σ H Q I h => ?_⟩
  refine wpAny_isTrue_Compare1 (binT ha hb I h fun v u s2 y x H2 I2 ry rx q => ?_) hm
  obtain ⟨a, dx, fs, rfl, e, q⟩ := q
  cases rx
  obtain ⟨ox, od, J⟩ := own_at I2 e
  obtain ⟨m, hF⟩ := I2.fr
  refine PySem.W.notIn_K hF I2.ok.mod.kin J M.at_ M.fn ?_
  refine wpAny_mono (own_run (us := [.ref a, v]) (vs := [.ref a, y]) F hr I2.env0 B (hx σ) I2 (.cons rfl (.cons ry .nil)) q) (fun w s' z => ?_) fun _ _ z => z
  obtain ⟨z, H3, I3, rz, c, rfl, qz⟩ := z
  cases (show w = Value.bool c from rz)
  obtain ⟨k2, e2, q2⟩ := qz
  cases e2
  exact wpAny_pure (wpAny_truthy_bool ⟨H3, I3, q2⟩)
end
theorem cutAt {vs : List V} {i : Nat} (h : i ≤ vs.length) : cutV vs none (some (i : Int)) = vs.take i := by
  have e : min (i : Int).toNat vs.length = i := by simp; omega
  have n : ¬ (i : Int) < 0 := by omega
  simp only [cutV, HT.sIx, if_neg n, e, List.drop_zero, Nat.sub_zero]
theorem notBefore {zs : List Pr} {z : Pr} {i : Nat} (nd : zs.Nodup) (h : zs[i]? = some z) : z ∉ zs.take i := by
  intro m
  obtain ⟨j, hj, e⟩ := List.getElem_of_mem m
  rw [List.length_take] at hj
  rw [List.getElem_take] at e
  obtain ⟨hi, e2⟩ := List.getElem?_eq_some_iff.mp h
  exact (List.pairwise_iff_getElem.mp nd) j i (by omega) hi (by omega) (by rw [e, e2])
end Pk
set_option Elab.async false
set_option linter.all false
set_option maxRecDepth 100000
set_option maxHeartbeats 1000000
namespace Pk
open PySem L2 PySem.Spec PyProof.Rows
/-- how often a pair is in a list of pairs -/
def rCountP (K : PySem.W.Frag) : V → List V → Hp → VK → Prop := fun x xs H Q => ∃ (a : Addr) (y : V) (z : Pr) (zs : List Pr), x = V.ref a ∧ xs = [y] ∧ Dp K H (V.ref a) (prsD zs) ∧ Dp K H y (prD z) ∧ Q (.int ((zs.countP fun u => decide (u = z) : Nat) : Int)) H
theorem mt_countP {X : Cx} (hu : X.A.units + 64 < cLine) : MtR X "list.count" (rCountP X.K) := by
  intro pins s σ H x xs v us Q I rx rxs h
  obtain ⟨a, y, z, zs, rfl, rfl, hl, hy, q⟩ := h
  cases rx
  cases rxs with
  | cons ry rt =>
    rename_i uy ut
    cases rt
    obtain ⟨bs, r1⟩ := Dp.reads I (prD z) y uy hy ry
    cases hl with
    | lst hs ha =>
      obtain ⟨its, rv, ⟨⟨cls, dd, data, sls⟩, n, ho, hc, hdn, hdt⟩, hlen⟩ := I.list hs
      simp only at hc hdt
      subst hc hdt
      obtain ⟨as, h4⟩ := Dp.readsAll I _ _ its ha rv
      have e : ((zs.map prD).countP fun y => PyData.eqv y (prD z)) = zs.countP fun u => decide (u = z) := PySem.W.count_datum (α := Int × Int) zs z
      have dp := prs_depthAll zs
      refine SeqAt.count_list_data (vs := its.toArray) ⟨_, ho, rfl, n, rfl⟩ (by simpa using h4) r1 (prs_plainAll zs) (pr_plain z) (by omega) ?_
      rw [e]
      exact ⟨.int _, H, I.tok _, ⟨_, rfl⟩, q⟩
theorem cutDrop {vs : List V} {i : Nat} (h : i ≤ vs.length) : cutV vs (some (i : Int)) none = vs.drop i := by
  have e : min (i : Int).toNat vs.length = i := by simp; omega
  have n : ¬ (i : Int) < 0 := by omega
  have e2 : min vs.length vs.length = vs.length := by omega
  simp only [cutV, HT.sIx, if_neg n, e]
  first | rfl | (rw [List.take_of_length_le (by rw [List.length_drop]; omega)]) | simp
/-- a def with one keyword-only parameter, called with it -/
structure Dkw1 (P : Program) (w : World) (K : PySem.W.Frag) (mg : Str → Option Value) (base : Heap) (CX : CXT) (x : Str) (k : Nat) (ps : List Str) (n : Nat) (kw : Str) (sp : Sp) (f : Addr) (fd : FuncData) : Prop where
  at_ : mg x = some (.ref f)
  kp : PySem.W.keepIn K (.ref f) = true
  ok : FnOk P w K mg base CX k f fd ps sp
  kb : KBn K fd ps n [kw] (fun us ws => us ++ ws) (fun vs zs => vs ++ zs)
  dd : ∃ ds, Vals [V.str "even"] ds ∧ Binds K fd ps ds
abbrev Dkw (P : Program) (w : World) (K : PySem.W.Frag) (mg : Str → Option Value) (base : Heap) (CX : CXT) (x : Str) (k : Nat) (ps : List Str) (n : Nat) (kw : Str) (sp : Sp) : Prop := ∃ f fd, Dkw1 P w K mg base CX x k ps n kw sp f fd
theorem pe_kd {X : Cx} {k j n : Nat} {ps : List Str} {kw : Str} {sp : Sp} {x : Str} {p pos : Pos} {e : Expr} {es : List Expr} {kws : List Keyword} {t tk : TA}
    (D : Dkw X.prog X.w X.K X.mg X.base CX0 x k ps n kw sp) (hr : Room j X.A) (l : k ≤ j) (ha : PA X (e :: es) t) (hkw : PK X kws tk) (hg : Gl X x := by rfl)
    (hall : (backToKw pos (keywordEach kws X.env)).all (·.1.isSome) = true := by rfl) (hks : (backToKw pos (keywordEach kws X.env)).filterMap (·.1) = [kw] := by rfl) (hdb : (x == ("__debug__" : Str)) = false := by decide)
    (he : starEach (e :: es) X.env = (false, eval e X.env) :: starEach es X.env := by rfl) (hpl : ((backTo pos (starEach (e :: es) X.env)).any (·.1) || (backToKw pos (keywordEach kws X.env)).any (·.1.isNone)) = false := by rfl) :
    PE X (.Call (.Name x p) (e :: es) kws pos) (tKwS n [kw].length sp (fun vs zs => vs ++ zs) (fun _ => E0) t tk) := by
  obtain ⟨f, fd, D⟩ := D
  exact pe_kwS D.ok (hr.mono l) D.at_ D.kp D.kb (passN pass0) ha hkw hg hall hks hdb he hpl
end Pk
set_option Elab.async false
set_option linter.all false
set_option maxRecDepth 100000
set_option maxHeartbeats 1000000
namespace Pk
open PySem L2
local macro_rules | `(tactic| walk_at "rd") => `(tactic| repeat (first
  | with_reducible refine r_seq ?_ | with_reducible refine r_nxt ?_ | with_reducible refine r_asg ?_ | with_reducible refine r_to ?_ | with_reducible refine r_ret ?_ | with_reducible refine r_for ?_ | with_reducible refine r_lc ?_ | with_reducible refine r_rng1 ?_ | with_reducible refine r_list ?_ | with_reducible refine r_tupI ?_ | with_reducible refine r_drop ?_ | with_reducible refine r_ifs ?_
  | with_reducible refine r_op ?_ | with_reducible refine r_c ?_ | with_reducible refine r_var rfl ?_ | with_reducible refine r_I0 ?_ | with_reducible refine r_un ?_ | with_reducible refine r_U ?_ | with_reducible refine r_make ?_ | with_reducible refine r_sub ?_
  | with_reducible refine r_nil ?_ | with_reducible refine r_cons ?_ | with_reducible refine r_cb ?_ | with_reducible refine r_sl ?_ | with_reducible refine r_noP ?_ | with_reducible refine r_part ?_ | with_reducible refine r_isI ?_ | with_reducible refine r_lst ?_ | with_reducible refine r_tup ?_ | with_reducible refine r_call ?_
  | with_reducible refine r_test ?_ | with_reducible refine r_B ?_ | with_reducible refine r_and ?_ | with_reducible refine r_or ?_ | with_reducible refine r_not ?_ | with_reducible refine r_andV ?_ | with_reducible refine r_orV ?_ | with_reducible refine r_notV ?_ | with_reducible refine r_bl ?_ | with_reducible refine r_yes ?_ | with_reducible refine r_int ?_ | with_reducible refine r_is0 ?_ | with_reducible refine r_is1 ?_ | with_reducible refine iteT ?_ | with_reducible refine iteF ?_ | with_reducible refine ite_nF ?_ | with_reducible refine ite_nT ?_
  | with_reducible refine r_mod (by decide) ?_ | with_reducible refine r_div (by decide) (by decide) ?_ | with_reducible refine r_mulR (by decide) (by decide) ?_ | with_reducible refine r_mulL (by decide) (by decide) ?_ | with_reducible refine r_pow (by decide) (by decide) (by decide) ?_))
def top (i : Nat) : Stmt := PySem.Challenge.pw_pairorder_k60_whole_normal_forms.main.body.getD i (.Pass ⟨0, 0, 0, 0⟩)
abbrev sCopy : Stmt := top 2
section
variable {P : Program} {w : World} {K : PySem.W.Frag} {mg : Str → Option Value} {base : Heap}
/-- the copies made so far stand in the list at D -/
def Copied (H : Hp) (D : Addr) (ds : List PyData) (i : Nat) (H' : Hp) : Prop :=
  ∃ ys, H' D = some (.lst ys) ∧ ys.length = i ∧ Same H H' ∧ ∀ (j : Nat) (v : V) (d : PyData), ys[j]? = some v → ds[j]? = some d → Own (upd H D (.lst [])) H' v d
theorem Copied.start {H : Hp} {D : Addr} {ds : List PyData} (hD : H D = none) : Copied H D ds 0 (upd H D (.lst [])) :=
  ⟨[], upd_same, rfl, fun b o e => by rw [upd_ne (ne_of_none e hD)]; exact e, fun j v d e => by simp at e⟩
theorem Copied.more {H H1 H2 : Hp} {D : Addr} {ds : List PyData} {i : Nat} {v : V} {d : PyData} (hD : H D = none) (c : Copied H D ds i H1) (s : Same H1 H2) (o : Own H1 H2 v d) (hd : ds[i]? = some d) :
    ∃ acc, H2 D = some (.lst acc) ∧ acc.length = i ∧ Copied H D ds (i + 1) (upd H2 D (.lst (acc ++ [v]))) := by
  obtain ⟨ys, h1, h2, h3, h4⟩ := c
  have nD : ∀ {a : Addr}, upd H D (.lst []) a = none → a ≠ D := fun {a} n z => by rw [z, upd_same] at n; cases n
  refine ⟨ys, s _ _ h1, h2, ys ++ [v], upd_same, by rw [List.length_append, h2]; rfl, fun b o e => ?_, fun j u e e1 e2 => ?_⟩
  · have n : b ≠ D := ne_of_none e hD
    rw [upd_ne n]
    exact s _ _ (h3 _ _ e)
  · by_cases hj : j < ys.length
    · rw [List.getElem?_append_left hj] at e1
      exact ((h4 j u e e1 e2).later s).mono (fun a n _ => n) fun a z n q _ => by rw [upd_ne (nD n)]; exact q
    · have ej : j = i := by
        have z := (List.getElem?_eq_some_iff.mp e1).1
        rw [List.length_append, List.length_singleton] at z
        omega
      subst ej
      rw [List.getElem?_append_right (by omega), h2, Nat.sub_self] at e1
      have eu : v = u := Option.some.inj e1
      have ee : d = e := Option.some.inj (hd.symm.trans e2)
      subst eu ee
      refine o.mono (fun a n _ => ?_) fun a z n q _ => ?_
      · have na : a ≠ D := fun z => by rw [z, h1] at n; cases n
        rw [upd_ne na]
        exact h3.free n
      · have na : a ≠ D := fun z => by rw [z, h1] at n; cases n
        rw [upd_ne na]
        exact q
theorem Copied.done {H H' : Hp} {D : Addr} {ds : List PyData} (hD : H D = none) (c : Copied H D ds ds.length H') : ∃ ys, H' D = some (.lst ys) ∧ ys.length = ds.length ∧ Same H H' ∧ ∀ (j : Nat) (v : V) (d : PyData), ys[j]? = some v → ds[j]? = some d → Own H H' v d := by
  obtain ⟨ys, h1, h2, h3, h4⟩ := c
  refine ⟨ys, h1, h2, h3, fun j v d e1 e2 => (h4 j v d e1 e2).mono (fun a n _ => ?_) fun a u _ q _ => q⟩
  have na : a ≠ D := fun z => by rw [z, upd_same] at n; cases n
  rw [upd_ne na] at n
  exact n

theorem scCopy : FnScope ["value", "entry"] ["value"] (defScope sCopy) := ⟨rfl, rfl, rfl, by decide +kernel, rfl, by decide +kernel, by decide +kernel⟩
theorem ok_copy {f : Addr} {fd : FuncData} (F : Fun K "own_copy" "own_copy" sCopy f fd) (T : Bt mg) (me : mg "own_copy" = some (.ref f)) : ∀ n : Nat, FnOk P w K mg base CX0 (n + 1) f fd ["value"] (spCopy K n)
  | 0 => by
    refine F.ok scCopy (fun vs H Q E h => ?_) (fun cdv A outer s H vs Q E hr h => ?_)
    · obtain ⟨v, d, rfl, _⟩ := h
      rfl
    · obtain ⟨v, d, rfl, hv, hd, k⟩ := h
      refine ⟨_, pss_cons (ps_if (pt_val (pe_callB call_isi (by rfl) T.isinstance (by decide +kernel) (pa_cons (pv 0) (pa_cons (pe_bltn (v := .ty "list") (by rfl) T.list (by decide +kernel) rfl) pa_nil)))) pss_never pss_nil)
        (pss_cons (ps_if (pt_val (pe_callB call_isi (by rfl) T.isinstance (by decide +kernel) (pa_cons (pv 0) (pa_cons (pe_bltn (v := .ty "tuple") (by rfl) T.tuple (by decide +kernel) rfl) pa_nil)))) pss_never pss_nil)
        (pss_cons (ps_if (pt_val (pe_callB call_isi (by rfl) T.isinstance (by decide +kernel) (pa_cons (pv 0) (pa_cons (pe_bltn (v := .ty "dict") (by rfl) T.dict (by decide +kernel) rfl) pa_nil)))) pss_never pss_nil)
        (pss_one (ps_ret (pv 0))))), ?_⟩
      obtain ⟨r1, e1, f1⟩ := kit_list d
      obtain ⟨r2, e2, f2⟩ := kit_tuple d
      have n1 : r1 = false := by
        cases r1 with
        | false => rfl
        | true => obtain ⟨ds, rfl⟩ := f1.mp rfl; cases hd
      have n2 : r2 = false := by
        cases r2 with
        | false => rfl
        | true => obtain ⟨ds, rfl⟩ := f2.mp rfl; cases hd
      subst n1 n2
      walk_at "rd"
      refine r_isi (Dp.kind hv) e1 ?_
      walk_at "rd"
      refine r_isi (Dp.kind hv) e2 ?_
      walk_at "rd"
      refine r_isi (Dp.kind hv) (kit_dict hd) ?_
      walk_at "rd"
      refine k v H (Same.refl H) ?_
      cases hd with
      | non => cases hv; exact .non
      | bl b => cases hv; exact .bl b
      | int i => cases hv; exact .int i
      | str z => cases hv; exact .str z
  | n + 1 => by
    have G := ok_copy F T me n
    have b : Binds K fd ["value"] [] := F.binds fun _ _ _ _ _ _ us hl => match us, hl with | [_], _ => rfl
    refine F.ok scCopy (fun vs H Q E h => ?_) (fun cdv A outer s H vs Q E hr h => ?_)
    · obtain ⟨v, d, rfl, _⟩ := h
      rfl
    · obtain ⟨v, d, rfl, hv, hd, k⟩ := h
      refine ⟨_, pss_cons (ps_if (pt_val (pe_callB call_isi (by rfl) T.isinstance (by decide +kernel) (pa_cons (pv 0) (pa_cons (pe_bltn (v := .ty "list") (by rfl) T.list (by decide +kernel) rfl) pa_nil))))
          (pss_one (ps_ret (pe_lc (own := [("entry", 1)]) (g := gName 1) rfl scCopy.nd (pi_list (pv 0)) (blkOk_by (own := [("entry", 1)]) (N := ["value", "entry"]) (sc := defScope sCopy) (by decide +kernel)) (fun _ _ _ _ _ => pg_name (i := 1) scCopy.nd rfl (Or.inl rfl)) (fun _ _ _ _ _ => pts_nil)
            (fun _ _ _ _ _ => pe_call G hr rfl me F.kp b .nil pass0 (pa_cons (pv 1) pa_nil))))) pss_nil)
        (pss_cons (ps_if (pt_val (pe_callB call_isi (by rfl) T.isinstance (by decide +kernel) (pa_cons (pv 0) (pa_cons (pe_bltn (v := .ty "tuple") (by rfl) T.tuple (by decide +kernel) rfl) pa_nil))))
          (pss_one (ps_ret (pe_callTy cl_tup (by rfl) T.tuple (by decide +kernel) (pa_cons (pe_lc (own := [("entry", 1)]) (g := gName 1) rfl scCopy.nd (pi_tup (pv 0)) (blkOk_by (own := [("entry", 1)]) (N := ["value", "entry"]) (sc := defScope sCopy) (by decide +kernel)) (fun _ _ _ _ _ => pg_name (i := 1) scCopy.nd rfl (Or.inl rfl)) (fun _ _ _ _ _ => pts_nil)
            (fun _ _ _ _ _ => pe_call G hr rfl me F.kp b .nil pass0 (pa_cons (pv 1) pa_nil))) pa_nil)))) pss_nil)
        (pss_cons (ps_if (pt_val (pe_callB call_isi (by rfl) T.isinstance (by decide +kernel) (pa_cons (pv 0) (pa_cons (pe_bltn (v := .ty "dict") (by rfl) T.dict (by decide +kernel) rfl) pa_nil)))) pss_never pss_nil)
        (pss_one (ps_ret (pv 0))))), ?_⟩
      obtain ⟨r1, e1, f1⟩ := kit_list d
      obtain ⟨r2, e2, f2⟩ := kit_tuple d
      walk_at "rd"
      refine r_isi (Dp.kind hv) e1 ?_
      walk_at "rd"
      cases r1 with
      | true =>
        obtain ⟨ds, rfl⟩ := f1.mp rfl
        cases hd with
        | lst hds hz =>
          cases hv with
          | @lst a xs _ hS hA =>
            have ln := dpAll_len hA
            walk_at "rd"
            refine ⟨a, rfl, ⟨_, hS⟩, fun D hD => lc_list (K := K) (a := a) (xs := xs) (Copied H D ds) (Copied.start hD) (fun i H' _ c => c.choose_spec.2.2.1.seq hS) (fun i x H' hi c => ?_) (fun H' c => ?_)⟩
            · obtain ⟨d, hd, hx⟩ := dpAll_at hA hi
              have s1 : Same H H' := c.choose_spec.2.2.1
              walk_at "rd"
              refine ⟨rfl, ?_⟩
              walk_at "rd"
              refine ⟨x, d, rfl, Dp.later s1 hx, hds d (List.mem_of_getElem? hd), fun v' H2 s2 o => ?_⟩
              obtain ⟨acc, h1, h2, h3⟩ := c.more hD s2 o hd
              refine ⟨acc, h1, Nat.lt_of_lt_of_le ?_ (show 1001 ≤ sizeLine by decide), h3⟩
              have := (List.getElem?_eq_some_iff.mp hd).1
              omega
            · rw [ln] at c
              obtain ⟨ys, h1, h2, h3, h4⟩ := Copied.done hD c
              exact k _ _ h3 (.lst hD h1 h2 h4)
      | false =>
        walk_at "rd"
        refine r_isi (Dp.kind hv) e2 ?_
        walk_at "rd"
        cases r2 with
        | true =>
          obtain ⟨ds, rfl⟩ := f2.mp rfl
          cases hd with
          | tup hds hz =>
            cases hv with
            | @tup a xs _ hS hA =>
              have ln := dpAll_len hA
              walk_at "rd"
              refine ⟨a, rfl, ⟨_, hS⟩, fun D hD => lc_tup (K := K) (a := a) (xs := xs) (Copied H D ds) (Copied.start hD) (fun i H' _ c => ?_) (fun i x H' hi c => ?_) (fun H' c => ?_)⟩
              · have s1 : Same H H' := c.choose_spec.2.2.1
                rcases hS with (h | ⟨o, h⟩) | h
                · exact .inl (.inl (s1 _ _ h))
                · exact .inl (.inr ⟨o, s1 _ _ h⟩)
                · exact .inr h
              · obtain ⟨d, hd, hx⟩ := dpAll_at hA hi
                have s1 : Same H H' := c.choose_spec.2.2.1
                walk_at "rd"
                refine ⟨rfl, ?_⟩
                walk_at "rd"
                refine ⟨x, d, rfl, Dp.later s1 hx, hds d (List.mem_of_getElem? hd), fun v' H2 s2 o => ?_⟩
                obtain ⟨acc, h1, h2, h3⟩ := c.more hD s2 o hd
                refine ⟨acc, h1, Nat.lt_of_lt_of_le ?_ (show 1001 ≤ sizeLine by decide), h3⟩
                have := (List.getElem?_eq_some_iff.mp hd).1
                omega
              · rw [ln] at c
                obtain ⟨ys, h1, h2, h3, h4⟩ := Copied.done hD c
                walk_at "rd"
                refine r_tupOf (SqL.of h1) fun q hq => ?_
                have s2 : Same H (upd H' q (.tup ys)) := Same.up h3 hq
                exact k _ _ s2 (.tup (h3.free hq) upd_same h2 fun j v d e1 e2 => (h4 j v d e1 e2).later (Same.up (Same.refl H') hq))
        | false =>
          walk_at "rd"
          refine r_isi (Dp.kind hv) (kit_dict hd) ?_
          walk_at "rd"
          refine k v H (Same.refl H) ?_
          cases hd with
          | non => cases hv; exact .non
          | bl b => cases hv; exact .bl b
          | int i => cases hv; exact .int i
          | str z => cases hv; exact .str z
          | lst h z => exact absurd (f1.mpr ⟨_, rfl⟩) Bool.false_ne_true
          | tup h z => exact absurd (f2.mpr ⟨_, rfl⟩) Bool.false_ne_true
end
end Pk
set_option Elab.async false
set_option linter.all false
set_option maxRecDepth 100000
set_option maxHeartbeats 4000000
namespace Pk
open PySem L2
local macro_rules | `(tactic| walk_at "rd") => `(tactic| repeat (first
  | with_reducible refine r_seq ?_ | with_reducible refine r_nxt ?_ | with_reducible refine r_asg ?_ | with_reducible refine r_to ?_ | with_reducible refine r_ret ?_ | with_reducible refine r_for ?_ | with_reducible refine r_lc ?_ | with_reducible refine r_lc2 ?_ | with_reducible refine r_rng1 ?_ | with_reducible refine r_list ?_ | with_reducible refine r_tupI ?_ | with_reducible refine r_drop ?_ | with_reducible refine r_ifs ?_
  | with_reducible refine r_op ?_ | with_reducible refine r_c ?_ | with_reducible refine r_var rfl ?_ | with_reducible refine r_var (by assumption) ?_ | with_reducible refine r_I0 ?_ | with_reducible refine r_un ?_ | with_reducible refine r_U ?_ | with_reducible refine r_make ?_ | with_reducible refine r_makeS ?_ | with_reducible refine r_ifE ?_ | with_reducible refine r_cm ?_ | with_reducible refine r_mkV rfl ?_ | with_reducible refine r_sub ?_
  | with_reducible refine r_nil ?_ | with_reducible refine r_cons ?_ | with_reducible refine r_cb ?_ | with_reducible refine r_sl ?_ | with_reducible refine r_noP ?_ | with_reducible refine r_part ?_ | with_reducible refine r_isI ?_ | with_reducible refine r_lst ?_ | with_reducible refine r_tup ?_ | with_reducible refine r_call ?_ | with_reducible refine r_callS ?_ | with_reducible refine r_sFldU ?_ | with_reducible refine r_chain ?_ | with_reducible refine r_enum ?_ | with_reducible refine r_zip ?_ | with_reducible refine r_rng3 ?_ | with_reducible refine r_gtup ?_ | with_reducible refine r_methU ?_
  | with_reducible refine r_test ?_ | with_reducible refine r_B ?_ | with_reducible refine r_and ?_ | with_reducible refine r_or ?_ | with_reducible refine r_not ?_ | with_reducible refine r_andV ?_ | with_reducible refine r_orV ?_ | with_reducible refine r_notV ?_ | with_reducible refine r_bl ?_ | with_reducible refine r_yes ?_ | with_reducible refine r_int ?_ | with_reducible refine r_is0 ?_ | with_reducible refine r_is1 ?_ | with_reducible refine iteT ?_ | with_reducible refine iteF ?_ | with_reducible refine ite_nF ?_ | with_reducible refine ite_nT ?_
  | with_reducible refine r_mod (by decide) ?_ | with_reducible refine r_div (by decide) (by decide) ?_ | with_reducible refine r_mulR (by decide) (by decide) ?_ | with_reducible refine r_mulL (by decide) (by decide) ?_ | with_reducible refine r_pow (by decide) (by decide) (by decide) ?_))
/-! ### is_integer, is_between, is_two -/
theorem one_fst {f : Str} {v : V} : List.lookup f [(f, v)] = some v := by simp [List.lookup]
theorem one_no {m f : Str} {v : V} (h : (m == f) = false) : List.lookup m [(f, v)] = none := by simp [List.lookup, h]
theorem cut_take {vs : List V} {i : Nat} (h : i ≤ vs.length) : cutV vs none (some (i : Int)) = vs.take i := by
  have e : min (i : Int).toNat vs.length = i := by simp; omega
  have n : ¬ (i : Int) < 0 := by omega
  simp only [cutV, HT.sIx, if_neg n, e, List.drop_zero, Nat.sub_zero]
theorem cut_drop {vs : List V} {i : Nat} (h : i ≤ vs.length) : cutV vs (some (i : Int)) none = vs.drop i := by
  have e : min (i : Int).toNat vs.length = i := by simp; omega
  have n : ¬ (i : Int) < 0 := by omega
  simp only [cutV, HT.sIx, if_neg n, e]
  exact List.take_of_length_le (by rw [List.length_drop]; omega)
theorem two_eq {x y : PyData} (h : isID x = true) : twoD (.tuple [x, y]) = isID y := by
  cases x <;> cases h
  cases y <;> rfl
theorem two_noD {x y : PyData} (h : isID x = false) : twoD (.tuple [x, y]) = false := by
  cases x <;> first | rfl | cases h
theorem len2 {ds : List PyData} (h : ds.length = 2) : ∃ d1 d2, ds = [d1, d2] := by
  match ds, h with
  | [a, b], _ => exact ⟨a, b, rfl⟩
theorem all2 {K : PySem.W.Frag} {H : Hp} {vs : List V} {x y : PyData} (h : DpAll K H vs [x, y]) : ∃ v u, vs = [v, u] ∧ Dp K H v x ∧ Dp K H u y := by
  cases h with
  | cons h1 r => cases r with
    | cons h2 r2 => cases r2; exact ⟨_, _, rfl, h1, h2⟩
def betD (lo hi : Int) : PyData → Bool
  | .int i => decide (lo ≤ i) && decide (i ≤ hi)
  | _ => false
def spIntD (K : PySem.W.Frag) : Sp := fun vs H Q _ => ∃ (v : V) (d : PyData), vs = [v] ∧ Dp K H v d ∧ Q (.bl (isID d)) H
def spTwoD (K : PySem.W.Frag) : Sp := fun vs H Q _ => ∃ (v : V) (d : PyData), vs = [v] ∧ Dp K H v d ∧ Q (.bl (twoD d)) H
def spBetD (K : PySem.W.Frag) : Sp := fun vs H Q _ => ∃ (v : V) (d : PyData) (lo hi : Int), vs = [v, .int lo, .int hi] ∧ Dp K H v d ∧ Q (.bl (betD lo hi d)) H
/-- the def within a class's text -/
def inCls (i j : Nat) : Stmt := match top i with
  | .ClassDef (body := b) .. => b.getD j (.Pass ⟨0, 0, 0, 0⟩)
  | _ => .Pass ⟨0, 0, 0, 0⟩
abbrev slIsInt : Stmt := top 10
abbrev slTwo : Stmt := top 12
section
variable {P : Program} {w : World} {K : PySem.W.Frag} {mg : Str → Option Value} {base : Heap} {C CE f : Addr} {fd : FuncData}
theorem sclIsInt : FnScope ["value"] ["value"] (defScope slIsInt) := ⟨rfl, rfl, rfl, by decide +kernel, rfl, by decide +kernel, by decide +kernel⟩
theorem ok_isInt (F : Fun K "is_integer" "is_integer" slIsInt f fd) (T : Bt mg) : FnOk P w K mg base CX0 1 f fd ["value"] (spIntD K) := by
  refine F.ok sclIsInt (fun vs H Q E h => ?_) (fun cdv A outer s H vs Q E hr h => ?_)
  · obtain ⟨v, d, rfl, _⟩ := h
    rfl
  · obtain ⟨v, d, rfl, hd, k⟩ := h
    refine ⟨_, (pss_one (ps_ret (pe_and (pe_callB call_isi (by rfl) T.isinstance (by decide +kernel) (pa_cons (pv 0) (pa_cons (pe_bltn (v := .ty "int") (by rfl) T.int (by decide +kernel) rfl) pa_nil))) (pe_one (pe_not (pe_callB call_isi (by rfl) T.isinstance (by decide +kernel) (pa_cons (pv 0) (pa_cons (pe_bltn (v := .ty "bool") (by rfl) T.bool (by decide +kernel) rfl) pa_nil)))))))), ?_⟩
    walk_at "rd"
    refine r_isDI hd ?_
    walk_at "rd"
    by_cases e : isIB d = true
    · refine ifT e ?_
      walk_at "rd"
      refine r_isDB hd ?_
      walk_at "rd"
      rw [show isID d = !isBD d from by cases d <;> first | rfl | cases e] at k
      exact k
    · refine ifF (Bool.eq_false_iff.mpr e) ?_
      rw [show isID d = false from by cases d <;> first | exact absurd rfl e | rfl] at k
      exact k
theorem sclTwo : FnScope ["value"] ["value"] (defScope slTwo) := ⟨rfl, rfl, rfl, by decide +kernel, rfl, by decide +kernel, by decide +kernel⟩
theorem ok_two (F : Fun K "is_two" "is_two" slTwo f fd) (T : Bt mg) (DI : Df P w K mg base CX0 "is_integer" 1 ["value"] (spIntD K)) : FnOk P w K mg base CX0 2 f fd ["value"] (spTwoD K) := by
  refine F.ok sclTwo (fun vs H Q E h => ?_) (fun cdv A outer s H vs Q E hr h => ?_)
  · obtain ⟨v, d, rfl, _⟩ := h
    rfl
  · obtain ⟨v, d, rfl, hd, k⟩ := h
    refine ⟨_, (pss_one (ps_ret (pe_and (pe_callB call_isi (by rfl) T.isinstance (by decide +kernel) (pa_cons (pv 0) (pa_cons (pe_bltn (v := .ty "tuple") (by rfl) T.tuple (by decide +kernel) rfl) pa_nil))) (pe_and (pe_cmpR op_eq (pe_callB cl_len (by rfl) T.len PySem.boot_len (pa_cons (pv 0) pa_nil)) pe_int (nomark _)) (pe_and (pe_df DI hr (by decide) (pa_cons (pe_ix ix_tup (pv 0) pe_int (fun _ _ => rfl)) pa_nil)) (pe_one (pe_df DI hr (by decide) (pa_cons (pe_ix ix_tup (pv 0) pe_int (fun _ _ => rfl)) pa_nil)))))))), ?_⟩
    walk_at "rd"
    refine r_isDT hd ?_
    walk_at "rd"
    by_cases e : isTD d = true
    · refine ifT e ?_
      obtain ⟨ds, rfl⟩ : ∃ ds, d = .tuple ds := by cases d <;> first | exact ⟨_, rfl⟩ | cases e
      obtain ⟨t, vs, rfl, ht, hv⟩ := Dp.tupAt hd
      have vl := DpAll.len hv
      walk_at "rd"
      refine r_lenT ht ?_
      walk_at "rd"
      refine r_eq rfl ?_
      walk_at "rd"
      rw [show decide (V.int (vs.length : Int) = V.int 2) = decide (ds.length = 2) from decide_eq_decide.mpr ⟨fun h => by have := V.int.inj h; omega, fun h => by rw [vl, h]; rfl⟩]
      by_cases e2 : ds.length = 2
      · refine ifT (decide_eq_true e2) ?_
        obtain ⟨d1, d2, rfl⟩ : ∃ d1 d2, ds = [d1, d2] := len2 e2
        obtain ⟨v1, v2, rfl, h1, h2⟩ := all2 hv
        walk_at "rd"
        refine r_ixT ht (atI_nat (j := 0) rfl) ?_
        walk_at "rd"
        refine ⟨_, d1, rfl, h1, ?_⟩
        walk_at "rd"
        by_cases e3 : isID d1 = true
        · refine ifT e3 ?_
          walk_at "rd"
          refine r_ixT ht (atI_nat (j := 1) rfl) ?_
          walk_at "rd"
          refine ⟨_, d2, rfl, h2, ?_⟩
          rw [two_eq e3] at k
          exact k
        · refine ifF (Bool.eq_false_iff.mpr e3) ?_
          rw [two_noD (Bool.eq_false_iff.mpr e3)] at k
          exact k
      · refine ifF (decide_eq_false e2) ?_
        have : twoD (.tuple ds) = false := by
          cases q : twoD (.tuple ds) with
          | false => rfl
          | true =>
            obtain ⟨a, b, z⟩ := twoD_inv q
            cases z
            exact absurd rfl e2
        rw [this] at k
        exact k
    · refine ifF (Bool.eq_false_iff.mpr e) ?_
      rw [show twoD d = false from by cases d <;> first | exact absurd rfl e | rfl] at k
      exact k
theorem Dp.intV {H : Hp} {v : V} {i : Int} (h : Dp K H v (.int i)) : v = .int i := by
  cases h
  rfl
end
abbrev slBet : Stmt := top 11
section
variable {P : Program} {w : World} {K : PySem.W.Frag} {mg : Str → Option Value} {base : Heap} {C CE f : Addr} {fd : FuncData}
theorem sclBet : FnScope ["value", "low", "high"] ["value", "low", "high"] (defScope slBet) := ⟨rfl, rfl, rfl, by decide +kernel, rfl, by decide +kernel, by decide +kernel⟩
theorem ok_bet (F : Fun K "is_between" "is_between" slBet f fd) (DI : Df P w K mg base CX0 "is_integer" 1 ["value"] (spIntD K)) : FnOk P w K mg base CX0 2 f fd ["value", "low", "high"] (spBetD K) := by
  refine F.ok sclBet (fun vs H Q E h => ?_) (fun cdv A outer s H vs Q E hr h => ?_)
  · obtain ⟨v, d, lo, hi, rfl, _⟩ := h
    rfl
  · obtain ⟨v, d, lo, hi, rfl, hd, k⟩ := h
    refine ⟨_, (pss_one (ps_ret (pe_and (pe_df DI hr (by decide) (pa_cons (pv 0) pa_nil)) (pe_one (pe_chain op_le op_le (pv 1) (pv 0) (pv 2)))))), ?_⟩
    walk_at "rd"
    refine ⟨v, d, rfl, hd, ?_⟩
    walk_at "rd"
    by_cases e : isID d = true
    · refine ifT e ?_
      obtain ⟨i, rfl⟩ : ∃ i, d = .int i := by
        cases d with
        | int i => exact ⟨i, rfl⟩
        | _ => cases e
      obtain rfl := Dp.intV hd
      walk_at "rd"
      by_cases c : lo ≤ i
      · refine ifT (decide_eq_true c) ?_
        rw [betD, decide_eq_true c, Bool.true_and] at k
        walk_at "rd"
        exact k
      · refine ifF (decide_eq_false c) ?_
        rw [betD, decide_eq_false c, Bool.false_and] at k
        exact k
    · refine ifF (Bool.eq_false_iff.mpr e) ?_
      rw [show betD lo hi d = false from by cases d <;> first | rfl | exact absurd rfl e] at k
      exact k
end
/-! ### a table is made -/
theorem pV_of {K : PySem.W.Frag} {H : Hp} {v : V} {z : Option Int} (h : Dp K H v (pD z)) : v = pV z := by
  cases z with
  | none => cases h; rfl
  | some i => cases h; rfl
theorem pVs_of {K : PySem.W.Frag} {H : Hp} : ∀ {vs : List V} {r : List (Option Int)}, DpAll K H vs (r.map pD) → vs = r.map pV
  | [], [], _ => rfl
  | _ :: _, [], h => by cases h
  | [], _ :: _, h => by cases h
  | v :: vs, z :: r, h => by
    cases h with
    | cons h1 h2 => rw [pV_of h1, pVs_of h2]; rfl
def isND : PyData → Bool
  | .none => true
  | _ => false
theorem non_iff {K : PySem.W.Frag} {H : Hp} {v : V} {d : PyData} (h : Dp K H v d) : decide (v = .non) = isND d := by
  cases h <;> rfl
def spPrice (K : PySem.W.Frag) : Sp := fun vs H Q _ => ∃ (v : V) (d : PyData), vs = [v] ∧ Dp K H v d ∧ Q (.bl (priceD d)) H
def spRow (K : PySem.W.Frag) : Sp := fun vs H Q _ => ∃ (v u : V) (d e : PyData), vs = [v, u] ∧ Dp K H v d ∧ Dp K H u e ∧ (isLD d = true → isLD e = true) ∧ ∀ H' : Hp, Same H H' → Q (.bl (rowOk d e)) H'
def spChkR (K : PySem.W.Frag) (CE : Addr) : Sp := fun vs H Q E => ∃ (v : V) (d : PyData), vs = [v] ∧ Dp K H v d ∧ (badT d = none → ∀ H' : Hp, Same H H' → Q .non H') ∧
  (∀ k, badT d = some k → ∀ (dd : Addr) (H' : Hp), Same H H' → H dd = none → H' dd = some (.xd [("at", .int k)]) → E (.ref CE) (some dd) H')
/-- Table.__init__ -/
def spTbI (K : PySem.W.Frag) (C CE : Addr) : Sp := fun vs H Q E => ∃ (x dx : Addr) (v : V) (d : PyData), vs = [.ref x, v] ∧ H x = some (.ins C dx []) ∧ H dx = some (.own x) ∧ dx ≠ x ∧ Dp K H v d ∧
  (∀ R, d = rowsD R → Gt R → ∀ (H' G : Hp), TbX C G x R → Same G H' → (∀ a o, G a = some o → a = x ∨ H a = none) → (∀ a o, a ≠ x → H a = some o → H' a = some o) → Q .non H') ∧
  (∀ k, badT d = some k → ∀ (dd : Addr) (H' : Hp), Same H H' → H dd = none → H' dd = some (.xd [("at", .int k)]) → E (.ref CE) (some dd) H')
abbrev slPrice : Stmt := top 26
abbrev slRow : Stmt := top 27
abbrev slChkR : Stmt := top 28
abbrev slTbI : Stmt := inCls 31 0
structure TbC (K : PySem.W.Frag) (C : Addr) : Prop where
  O : OwnC K C
  e : NoAttr K C "entries"
  u : NoAttr K C "used"
section
variable {P : Program} {w : World} {K : PySem.W.Frag} {mg : Str → Option Value} {base : Heap} {C CE f : Addr} {fd : FuncData}
theorem sclPrice : FnScope ["value"] ["value"] (defScope slPrice) := ⟨rfl, rfl, rfl, by decide +kernel, rfl, by decide +kernel, by decide +kernel⟩
theorem ok_price (F : Fun K "is_price" "is_price" slPrice f fd) (DI : Df P w K mg base CX0 "is_integer" 1 ["value"] (spIntD K)) : FnOk P w K mg base CX0 2 f fd ["value"] (spPrice K) := by
  refine F.ok sclPrice (fun vs H Q E h => ?_) (fun cdv A outer s H vs Q E hr h => ?_)
  · obtain ⟨v, d, rfl, _⟩ := h
    rfl
  · obtain ⟨v, d, rfl, hd, k⟩ := h
    refine ⟨_, (pss_one (ps_ret (pe_or (pe_cmpR op_is0 (pv 0) pe_non (nomark _)) (pe_one (pe_df DI hr (by decide) (pa_cons (pv 0) pa_nil)))))), ?_⟩
    walk_at "rd"
    rw [non_iff hd]
    by_cases e : isND d = true
    · refine ifT e ?_
      rw [show priceD d = true from by cases d <;> first | rfl | cases e] at k
      exact k
    · refine ifF (Bool.eq_false_iff.mpr e) ?_
      walk_at "rd"
      refine ⟨v, d, rfl, hd, ?_⟩
      rw [show priceD d = isID d from by cases d <;> first | rfl | exact absurd rfl e] at k
      exact k
theorem sclRow : FnScope ["value", "first", "entry"] ["value", "first"] (defScope slRow) := ⟨rfl, rfl, rfl, by decide +kernel, rfl, by decide +kernel, by decide +kernel⟩
theorem ok_row (F : Fun K "is_row" "is_row" slRow f fd) (T : Bt mg) (tall : mg "all" = none) {tk : Tok} (hM : mg "MOST_LINES" = some (.int 8 tk)) (DP : Df P w K mg base CX0 "is_price" 2 ["value"] (spPrice K)) : FnOk P w K mg base CX0 3 f fd ["value", "first"] (spRow K) := by
  refine F.ok sclRow (fun vs H Q E h => ?_) (fun cdv A outer s H vs Q E hr h => ?_)
  · obtain ⟨v, u, d, e, rfl, _⟩ := h
    rfl
  · obtain ⟨v, u, d, e, rfl, hd, he, hl, k⟩ := h
    refine ⟨_, (pss_cons (ps_if (PW.pt (pw_or (pt_not (pt_val (pe_callB call_isi (by rfl) T.isinstance (by decide +kernel) (pa_cons (pv 0) (pa_cons (pe_bltn (v := .ty "list") (by rfl) T.list (by decide +kernel) rfl) pa_nil))))) (pw_or (pt_not (pt_chain op_le op_le pe_int (pe_callB cl_len (by rfl) T.len PySem.boot_len (pa_cons (pv 0) pa_nil)) (pe_glob (v := .int 8) (by rfl) hM ⟨tk, rfl⟩))) (pw_or1 (pt_cmpR op_ne (pe_callB cl_len (by rfl) T.len PySem.boot_len (pa_cons (pv 0) pa_nil)) (pe_callB cl_len (by rfl) T.len PySem.boot_len (pa_cons (pv 1) pa_nil)) (nomark _)))))) (pss_one (ps_ret pe_bl)) pss_nil)
  (pss_one (ps_ret (pe_callB (cr_all rfl) (by rfl) tall (by decide +kernel) (pa_cons (pe_lc (own := [("entry", 2)]) (g := gName 2) rfl sclRow.nd (pi_list (pv 0)) (blkOk_by (own := [("entry", 2)]) (N := ["value", "first", "entry"]) (sc := defScope slRow) (by decide +kernel)) (fun _ _ _ _ _ => pg_name (i := 2) sclRow.nd rfl (Or.inl rfl)) (fun _ _ _ _ _ => pts_nil) (fun _ _ _ _ _ => (pe_df DP hr (by decide) (pa_cons (pv 2) pa_nil)))) pa_nil))))), ?_⟩
    have no : rowOk d e = false → Q (.bl false) H := fun z => by
      have := k H (Same.refl H)
      rw [z] at this
      exact this
    walk_at "rd"
    refine r_isDL hd ?_
    walk_at "rd"
    by_cases c0 : isLD d = true
    · refine ifF (by rw [c0]; rfl) ?_
      obtain ⟨ds, rfl⟩ : ∃ ds, d = .list ds := by
        cases d with
        | list ds => exact ⟨ds, rfl⟩
        | _ => cases c0
      obtain ⟨es, rfl⟩ : ∃ es, e = .list es := by
        have := hl c0
        cases e with
        | list ds => exact ⟨ds, rfl⟩
        | _ => cases this
      obtain ⟨a, vs, rfl, ha, hv⟩ := Dp.lstAt hd
      obtain ⟨b, us, rfl, hb, hu⟩ := Dp.lstAt he
      have vl := DpAll.len hv
      have ul := DpAll.len hu
      walk_at "rd"
      refine r_lenL ha ?_
      walk_at "rd"
      by_cases c1 : 1 ≤ ds.length
      · refine ifT (decide_eq_true (by omega)) ?_
        walk_at "rd"
        by_cases c2 : ds.length ≤ 8
        · refine ifF (by rw [decide_eq_true (by omega)]; rfl) ?_
          walk_at "rd"
          refine r_lenL ha ?_
          walk_at "rd"
          refine r_lenL hb ?_
          walk_at "rd"
          refine r_ne rfl ?_
          walk_at "rd"
          by_cases c3 : ds.length = es.length
          · refine ifF (by rw [decide_eq_true (by rw [vl, ul, c3])]; rfl) ?_
            walk_at "rd"
            refine ⟨a, rfl, ⟨_, ha⟩, fun D nD => lc_it walk_list (Out H D fun i => V.bl (priceD (ds.getD i .none))) (Out.start nD) (fun i H1 _ o => o.1.seq ha) ?_ ?_⟩
            · rintro i y H1 H2 hi o ⟨rfl, e1⟩
              obtain ⟨dy, hdy, py⟩ := DpAll.at hv e1
              walk_at "rd"
              refine ⟨rfl, ?_⟩
              walk_at "rd"
              refine ⟨y, dy, rfl, Dp.later o.1 py, ?_⟩
              have ey : V.bl (priceD dy) = (fun i => V.bl (priceD (ds.getD i .none))) i := by
                show _ = V.bl (priceD (ds.getD i .none))
                rw [List.getD_eq_getElem?_getD, hdy]
                rfl
              rw [ey]
              exact o.more nD (Same.refl _) (Nat.lt_of_lt_of_le (show i < 9 by omega) (by decide))
            · rintro H1 ⟨s1, hD⟩
              walk_at "rd"
              refine ⟨D, ds.map priceD, rfl, SqL.of (hD.trans ?_), ?_⟩
              · congr 2
                apply List.ext_getElem
                · simp [vl]
                · intro n h1 h2
                  have hn : n < ds.length := by simpa using h2
                  simp [List.getElem?_eq_getElem hn]
              · rw [show ((ds.map priceD).all id) = rowOk (.list ds) (.list es) from by
                  simp only [rowOk, List.all_map]
                  rw [decide_eq_true c1, decide_eq_true c2, decide_eq_true c3]
                  rfl]
                exact k H1 s1
          · refine ifT (by rw [decide_eq_false (fun z => c3 (by have := V.int.inj z; omega))]; rfl) ?_
            walk_at "rd"
            exact no (by simp [rowOk, c3])
        · refine ifT (by rw [decide_eq_false (by omega)]; rfl) ?_
          walk_at "rd"
          exact no (by simp [rowOk, c2])
      · refine ifF (decide_eq_false (by omega)) ?_
        walk_at "rd"
        exact no (by simp [rowOk, c1])
    · refine ifT (by rw [Bool.eq_false_iff.mpr c0]; rfl) ?_
      walk_at "rd"
      exact no (by
        cases d with
        | list ds => exact absurd rfl c0
        | _ => rfl)
theorem sclChkR : FnScope ["rows", "i", "row"] ["rows"] (defScope slChkR) := ⟨rfl, rfl, rfl, by decide +kernel, rfl, by decide +kernel, by decide +kernel⟩
theorem ok_chkR (F : Fun K "check_rows" "check_rows" slChkR f fd) (T : Bt mg) {tk : Tok} (hM : mg "MOST_LINES" = some (.int 8 tk)) (DR : Df P w K mg base CX0 "is_row" 3 ["value", "first"] (spRow K)) (ET : De P w K mg base "InvalidTable" 3 (spErr1 K 1 CE "at") CE) :
    FnOk P w K mg base (L2.CX P w) 6 f fd ["rows"] (spChkR K CE) := by
  refine F.okX sclChkR (fun vs H Q E h => ?_) (fun cdv A outer s H vs Q E hr h => ?_)
  · obtain ⟨v, d, rfl, _⟩ := h
    rfl
  · obtain ⟨v, d, rfl, hd, k1, k2⟩ := h
    refine ⟨_, (pss_cons (ps_if (PW.pt (pw_or (pt_not (pt_val (pe_callB call_isi (by rfl) T.isinstance (by decide +kernel) (pa_cons (pv 0) (pa_cons (pe_bltn (v := .ty "list") (by rfl) T.list (by decide +kernel) rfl) pa_nil))))) (pw_or1 (pt_not (pt_chain op_le op_le pe_int (pe_callB cl_len (by rfl) T.len PySem.boot_len (pa_cons (pv 0) pa_nil)) (pe_glob (v := .int 8) (by rfl) hM ⟨tk, rfl⟩)))))) (pss_one (ps_rse rfl (takes_of rfl rfl rfl rfl) ET hr (by decide) (pa_cons (pe_un un_neg pe_int) pa_nil))) pss_nil)
  (pss_one (ps_for (passes_of rfl) rfl (pi_enum (by rfl) T.enumerate (pa_cons (pv 0) pa_nil)) (pg_tup (by rfl) (pgs_cons (pg_name (i := 1) sclChkR.nd rfl (Or.inl rfl)) (pgs_cons (pg_name (i := 2) sclChkR.nd rfl (Or.inl rfl)) pgs_nil))) (pss_one (ps_if (pt_not (pt_val (pe_df DR hr (by decide) (pa_cons (pv 2) (pa_cons (pe_ix ix_list (pv 0) pe_int (fun _ _ => rfl)) pa_nil))))) (pss_one (ps_rse rfl (takes_of rfl rfl rfl rfl) ET hr (by decide) (pa_cons (pv 1) pa_nil))) pss_nil))))), ?_⟩
    have raise1 : badT d = some (-1) → tMkErr CE (spErr1 K 1 CE "at") (tCons (tUn (rU fun i => .int (-i)) (tC (.int 1))) tNil) [some v, none, none] H (fun cls d H' => E cls d H') := fun b => by
      refine r_mkErr ?_
      walk_at "rd"
      refine r_err1 (σ := []) (.int _) (.int _) fun dd v' H' s1 h1 h2 o1 => ?_
      cases o1
      exact k2 (-1) b dd H' s1 h1 h2
    walk_at "rd"
    refine r_isDL hd ?_
    walk_at "rd"
    by_cases e : isLD d = true
    · refine ifF (by rw [e]; rfl) ?_
      obtain ⟨ds, rfl⟩ : ∃ ds, d = .list ds := by
        cases d with
        | list ds => exact ⟨ds, rfl⟩
        | _ => cases e
      obtain ⟨a, vs, rfl, ha, hv⟩ := Dp.lstAt hd
      have vl := DpAll.len hv
      walk_at "rd"
      refine r_lenL ha ?_
      walk_at "rd"
      by_cases c1 : 1 ≤ ds.length
      · refine ifT (decide_eq_true (by omega)) ?_
        walk_at "rd"
        by_cases c2 : ds.length ≤ 8
        · refine ifF (by rw [decide_eq_true (by omega)]; rfl) ?_
          have bd : badT (.list ds) = (firstRow ds).map Int.ofNat := if_neg (by omega)
          have e0 := List.getElem?_eq_getElem (l := vs) (i := 0) (by omega)
          obtain ⟨d0, hd0, p0⟩ := DpAll.at hv e0
          have g0 : ds.getD 0 .none = d0 := by rw [List.getD_eq_getElem?_getD, hd0]; rfl
          walk_at "rd"
          refine ⟨a, _, rfl, ha, for_it walk_enum (fun i σ H' => ∃ u v, σ = [some (.ref a), u, v] ∧ Same H H' ∧ ∀ j, j < i → rowOk (ds.getD j .none) (ds.getD 0 .none) = true) ⟨none, none, rfl, Same.refl H, fun j hj => by cases hj⟩ (fun i σ H' _ ⟨_, _, _, s, _⟩ => s.seq ha) ?_ ?_⟩
          · rintro i x σ H1 H2 hi ⟨u, v, rfl, s1, prev⟩ ⟨t, i', y, rfl, ht, rfl, e1, e2⟩
            obtain ⟨dy, hdy, py⟩ := DpAll.at hv e2
            cases (Option.some.inj e1)
            have gd : ds.getD i .none = dy := by rw [List.getD_eq_getElem?_getD, hdy]; rfl
            have st : Same H (upd H1 t (.tup [.int (i : Int), y])) := Same.up s1 ht
            refine r_gtup ⟨t, _, rfl, SqT.of upd_same, rfl, _, _, rfl, ?_⟩
            walk_at "rd"
            refine ⟨_, _, rfl, ?_⟩
            walk_at "rd"
            refine ⟨rfl, ?_⟩
            walk_at "rd"
            refine r_ixL (st.seq ha) (atI_nat (j := 0) e0) ?_
            walk_at "rd"
            refine ⟨y, _, dy, d0, rfl, Dp.later st py, Dp.later st p0, fun z => ?_, fun H3 s3 => ?_⟩
            · by_cases i0 : i = 0
              · subst i0
                rw [gd] at g0
                rw [← g0]
                exact z
              · have a0 := prev 0 (by omega)
                rw [g0] at a0
                cases d0 with
                | list es => rfl
                | _ => cases a0
            · walk_at "rd"
              by_cases o : rowOk dy d0 = true
              · refine ifF (by rw [o]; rfl) ?_
                walk_at "rd"
                refine ⟨_, _, rfl, st.trans s3, fun j hj => ?_⟩
                by_cases ji : j < i
                · exact prev j ji
                · have : j = i := by omega
                  rw [this, gd, g0]
                  exact o
              · refine ifT (by rw [Bool.eq_false_iff.mpr o]; rfl) ?_
                walk_at "rd"
                refine r_mkErr ?_
                walk_at "rd"
                refine r_err1 (σ := []) (.int _) (.int _) fun dd v' H' s4 h1 h2 o1 => ?_
                cases o1
                exact k2 (i : Int) (by rw [bd, firstRow_some (by omega) prev (by rw [gd, g0]; exact Bool.eq_false_iff.mpr o)]; rfl) dd H' ((st.trans s3).trans s4) ((st.trans s3).free h1) h2
          · rintro σ H1 ⟨u, v, rfl, s1, prev⟩
            exact k1 (by rw [bd, firstRow_none (fun j hj => prev j (by omega))]; rfl) H1 s1
        · refine ifT (by rw [decide_eq_false (by omega)]; rfl) ?_
          exact raise1 (if_pos (by omega))
      · refine ifF (decide_eq_false (by omega)) ?_
        walk_at "rd"
        exact raise1 (if_pos (by omega))
    · refine ifT (by rw [Bool.eq_false_iff.mpr e]; rfl) ?_
      exact raise1 (badT_no (Bool.eq_false_iff.mpr e))
end
end Pk
set_option Elab.async false
set_option linter.all false
set_option maxRecDepth 100000
set_option maxHeartbeats 4000000
namespace Pk
open PySem L2
local macro_rules | `(tactic| walk_at "rd") => `(tactic| repeat (first
  | with_reducible refine r_seq ?_ | with_reducible refine r_nxt ?_ | with_reducible refine r_asg ?_ | with_reducible refine r_to ?_ | with_reducible refine r_ret ?_ | with_reducible refine r_for ?_ | with_reducible refine r_lc ?_ | with_reducible refine r_lc2 ?_ | with_reducible refine r_rng1 ?_ | with_reducible refine r_list ?_ | with_reducible refine r_tupI ?_ | with_reducible refine r_drop ?_ | with_reducible refine r_ifs ?_
  | with_reducible refine r_op ?_ | with_reducible refine r_c ?_ | with_reducible refine r_var rfl ?_ | with_reducible refine r_var (by assumption) ?_ | with_reducible refine r_I0 ?_ | with_reducible refine r_un ?_ | with_reducible refine r_U ?_ | with_reducible refine r_make ?_ | with_reducible refine r_makeS ?_ | with_reducible refine r_ifE ?_ | with_reducible refine r_cm ?_ | with_reducible refine r_mkV rfl ?_ | with_reducible refine r_sub ?_
  | with_reducible refine r_nil ?_ | with_reducible refine r_cons ?_ | with_reducible refine r_cb ?_ | with_reducible refine r_sl ?_ | with_reducible refine r_noP ?_ | with_reducible refine r_part ?_ | with_reducible refine r_isI ?_ | with_reducible refine r_lst ?_ | with_reducible refine r_tup ?_ | with_reducible refine r_call ?_ | with_reducible refine r_callS ?_ | with_reducible refine r_sFldU ?_ | with_reducible refine r_chain ?_ | with_reducible refine r_enum ?_ | with_reducible refine r_zip ?_ | with_reducible refine r_rng3 ?_ | with_reducible refine r_gtup ?_ | with_reducible refine r_methU ?_
  | with_reducible refine r_test ?_ | with_reducible refine r_B ?_ | with_reducible refine r_and ?_ | with_reducible refine r_or ?_ | with_reducible refine r_not ?_ | with_reducible refine r_andV ?_ | with_reducible refine r_orV ?_ | with_reducible refine r_notV ?_ | with_reducible refine r_bl ?_ | with_reducible refine r_yes ?_ | with_reducible refine r_int ?_ | with_reducible refine r_is0 ?_ | with_reducible refine r_is1 ?_ | with_reducible refine iteT ?_ | with_reducible refine iteF ?_ | with_reducible refine ite_nF ?_ | with_reducible refine ite_nT ?_
  | with_reducible refine r_mod (by decide) ?_ | with_reducible refine r_div (by decide) (by decide) ?_ | with_reducible refine r_mulR (by decide) (by decide) ?_ | with_reducible refine r_mulL (by decide) (by decide) ?_ | with_reducible refine r_pow (by decide) (by decide) (by decide) ?_))
/-! ### Table.__init__ -/
theorem SameD.ofKeep {x C dx : Addr} {fs : List (Str × V)} {H H' : Hp} (k : Keep x H H') (hx : H x = some (.ins C dx fs)) : SameD H H' := fun a u l h => k a u (fun z => by
  rw [z, hx] at h
  cases (Option.some.inj h)
  rcases l with ⟨_, l⟩ | ⟨_, l⟩ | ⟨_, _, l⟩ <;> cases l) h
/-- what is new since H, and x -/
def part (x : Addr) (H H' : Hp) : Hp := fun a => if a = x then H' a else match H a with
  | .none => H' a
  | .some _ => .none
theorem part_sub {x : Addr} {H H' : Hp} : Same (part x H H') H' := fun a o e => by
  unfold part at e
  split at e
  · exact e
  · split at e
    · exact e
    · cases e
theorem part_new {x a : Addr} {H H' : Hp} (n : H a = none) : part x H H' a = H' a := by
  unfold part
  rw [n]
  simp
theorem part_x {x : Addr} {H H' : Hp} : part x H H' x = H' x := by simp [part]
theorem part_off {x : Addr} {H H' : Hp} : ∀ a o, part x H H' a = some o → a = x ∨ H a = none := fun a o e => by
  unfold part at e
  split at e
  · rename_i h; exact .inl h
  · split at e
    · rename_i h; exact .inr h
    · cases e
theorem PrsAt.part {x : Addr} {H H3 H' : Hp} {us : List V} {zs : List Pr} (h : PrsAt x H3 us zs) (fr : ∀ v, v ∈ us → ∀ t, v = .ref t → H t = none) (k : Keep x H3 H') : PrsAt x (Pk.part x H H') us zs := by
  induction h with
  | nil => exact .nil
  | cons h _ ih =>
    obtain ⟨t, rfl, n, h⟩ := h
    refine .cons ⟨t, rfl, n, ?_⟩ (ih fun v hv => fr v (List.mem_cons_of_mem _ hv))
    rw [part_new (fr _ List.mem_cons_self t rfl)]
    exact k _ _ n h
def crow (R : Rw) (i j : Nat) : List Pr := ((List.range j).filter fun j => (prc R i j).isSome).map fun (j : Nat) => (((i : Nat) : Int), (j : Int))
def cpre (R : Rw) (i : Nat) : List Pr := (List.range i).flatMap fun i => crow R i (wd R)
theorem crow_more (R : Rw) (i j : Nat) : crow R i (j + 1) = crow R i j ++ (if (prc R i j).isSome = true then [((i : Int), (j : Int))] else []) := by
  unfold crow
  rw [List.range_succ, List.filter_append, List.map_append]
  congr 1
  cases h : (prc R i j).isSome <;> simp [h]
theorem cpre_more (R : Rw) (i : Nat) : cpre R (i + 1) = cpre R i ++ crow R i (wd R) := by
  unfold cpre
  rw [List.range_succ, List.flatMap_append]
  simp
theorem crow_len (R : Rw) (i : Nat) : ∀ j, (crow R i j).length ≤ j
  | 0 => by simp [crow]
  | j + 1 => by
    have := crow_len R i j
    rw [crow_more, List.length_append]
    split <;> simp <;> omega
theorem cpre_len (R : Rw) : ∀ i, (cpre R i).length ≤ i * wd R
  | 0 => by simp [cpre]
  | i + 1 => by
    have h1 := cpre_len R i
    have h2 := crow_len R i (wd R)
    rw [cpre_more, List.length_append, Nat.succ_mul]
    omega
section
variable {P : Program} {w : World} {K : PySem.W.Frag} {mg : Str → Option Value} {base : Heap} {C CE f : Addr} {fd : FuncData}
theorem sclTbI : FnScope ["self", "rows", "row", "price", "j", "i"] ["self", "rows"] (defScope slTbI) := ⟨rfl, rfl, rfl, by decide +kernel, rfl, by decide +kernel, by decide +kernel⟩
theorem ok_tbI (F : Fun K "__init__" "Table.__init__" slTbI f fd) (T : Bt mg) (A : TbC K C) (DC : Df P w K mg base (L2.CX P w) "check_rows" 6 ["rows"] (spChkR K CE)) : FnOk P w K mg base (L2.CX P w) 8 f fd ["self", "rows"] (spTbI K C CE) := by
  refine F.okX sclTbI (fun vs H Q E h => ?_) (fun cdv A' outer s H vs Q E hr h => ?_)
  · obtain ⟨x, dx, v, d, rfl, _⟩ := h
    rfl
  · obtain ⟨x, dx, v, d, rfl, hx, hdx, ne, hd, kgood, kbad⟩ := h
    refine ⟨_, (pss_cons (ps_expr (pe_dfS (takes_of rfl rfl rfl rfl) DC hr (by decide) (pa_cons (pv 1) pa_nil)))
  (pss_cons (ps_fld (pv 0) (pe_lc (own := [("row", 2)]) (g := gName 2) rfl sclTbI.nd (pi_list (pv 1)) (blkOk_by (own := [("row", 2)]) (N := ["self", "rows", "row", "price", "j", "i"]) (sc := defScope slTbI) (by decide +kernel)) (fun _ _ _ _ _ => pg_name (i := 2) sclTbI.nd rfl (Or.inl rfl)) (fun _ _ _ _ _ => pts_nil) (fun _ _ _ _ _ => (pe_callTy (T := "list") (r := rLstOf K) cl_lst (by rfl) T.list (by decide +kernel) (pa_cons (pv 2) pa_nil)))) rfl)
  (pss_one (ps_fld (pv 0) (pe_lc2 (own := [("i", 5), ("row", 2), ("j", 4), ("price", 3)]) (vs1 := [4, 3]) (g := gTup K 2 (gCons (gName 5) (gCons (gName 2) gNil))) (tt := tYes) (wi1 := iEnum K (tCons (tVar 2) tNil)) (g1 := gTup K 2 (gCons (gName 4) (gCons (gName 3) gNil))) (tt1 := tTest (tOp rIs1 (tVar 3) (tC .non))) (te := tTup (tCons (tVar 5) (tCons (tVar 4) tNil))) rfl sclTbI.nd (pi_enum (by rfl) T.enumerate (pa_cons (pv 1) pa_nil)) (blkOk_by (own := [("i", 5), ("row", 2), ("j", 4), ("price", 3)]) (N := ["self", "rows", "row", "price", "j", "i"]) (sc := defScope slTbI) (by decide +kernel)) (by decide)
    (fun _ _ _ _ _ => pg_tup (by rfl) (pgs_cons (pg_name (i := 5) sclTbI.nd rfl (Or.inl rfl)) (pgs_cons (pg_name (i := 2) sclTbI.nd rfl (Or.inl rfl)) pgs_nil))) (fun _ _ _ _ _ => pts_nil) (fun _ _ _ _ _ => pi_enum (by rfl) T.enumerate (pa_cons (pv 2) pa_nil)) (fun _ _ _ _ _ => pg_tup (by rfl) (pgs_cons (pg_name (i := 4) sclTbI.nd rfl (Or.inl rfl)) (pgs_cons (pg_name (i := 3) sclTbI.nd rfl (Or.inl rfl)) pgs_nil)))
    (fun _ _ _ _ _ => pts_one (pt_cmpR op_is1 (pv 3) pe_non (nomark _))) (fun _ _ _ _ _ => (pe_tup (pa_cons (pv 5) (pa_cons (pv 4) pa_nil))))) rfl)))), ?_⟩
    walk_at "rd"
    refine ⟨v, d, rfl, hd, fun b H1 s1 => ?_, fun k e dd H' s1 h1 h2 => kbad k e dd H' s1 h1 h2⟩
    obtain ⟨R, rfl, g⟩ := badT_inv b
    obtain ⟨a, vs, rfl, ha, hv⟩ := Dp.lstAt hd
    have vl : vs.length = R.length := by have := DpAll.len hv; rwa [List.length_map] at this
    have g8 := g.h8
    have w8 := g.w8
    walk_at "rd"
    refine ⟨a, rfl, ⟨_, s1.seq ha⟩, fun D nD => lc_it walk_list (fun i H' => Same H1 H' ∧ ∃ es, H' D = some (.lst es) ∧ es.length = i ∧ ∀ j v, es[j]? = some v → ∃ c, v = .ref c ∧ c ≠ D ∧ H1 c = none ∧ H' c = some (.lst ((R.getD j []).map pV))) ⟨Same.up (Same.refl H1) nD, [], upd_same, rfl, fun j v e => by simp at e⟩ (fun i H2 _ z => z.1.seq (s1.seq ha)) ?_ ?_⟩
    · rintro i y H2 H3 hi ⟨s2, es, hD, el, er⟩ ⟨rfl, e1⟩
      obtain ⟨dy, hdy, py⟩ := DpAll.at hv e1
      have hi' : i < R.length := by omega
      rw [List.getElem?_map, List.getElem?_eq_getElem hi'] at hdy
      cases (Option.some.inj hdy)
      obtain ⟨b, ws, rfl, hb, hw⟩ := Dp.lstAt py
      obtain rfl := pVs_of hw
      walk_at "rd"
      refine ⟨rfl, ?_⟩
      walk_at "rd"
      refine r_lstOf ((s1.trans s2).seq hb) fun c nc => ?_
      have sc := Same.up (o := .lst (R[i].map pV)) (Same.refl H3) nc
      have cD : c ≠ D := fun z => by rw [z, hD] at nc; cases nc
      refine ⟨es, sc _ _ hD, by rw [el]; exact Nat.lt_of_lt_of_le (show i < 9 by omega) (by decide), fun b o e => ?_, es ++ [.ref c], upd_same, by rw [List.length_append, el]; rfl, fun j v e => ?_⟩
      · have n : b ≠ D := fun z => by rw [z, nD] at e; cases e
        rw [upd_ne n]
        exact sc _ _ (s2 _ _ e)
      · by_cases ji : j < es.length
        · rw [List.getElem?_append_left ji] at e
          obtain ⟨c', rfl, n1, n2, n3⟩ := er j v e
          exact ⟨c', rfl, n1, n2, by rw [upd_ne n1]; exact sc _ _ n3⟩
        · rw [List.getElem?_append_right (by omega)] at e
          have : j = i := by
            have := (List.getElem?_eq_some_iff.mp e).1
            simp at this
            omega
          subst this
          rw [el, Nat.sub_self] at e
          cases (Option.some.inj e)
          exact ⟨c, rfl, cD, s2.free nc, by rw [upd_ne cD, upd_same, g.getD hi']⟩
    · rintro H2 ⟨s2, es, hD, el, er⟩
      have hx2 := s2 _ _ (s1 _ _ hx)
      have xD : x ≠ D := fun z => by rw [← z, s1 _ _ hx] at nD; cases nD
      walk_at "rd"
      refine r_sFld0 (C := C) (dx := dx) (fs := []) hx2 A.O.cl A.e (by decide) ?_
      have kx : Keep x H2 (upd H2 x (.ins C dx (putF "entries" (.ref D) []))) := Keep.refl.own
      have sd : SameD H (upd H2 x (.ins C dx (putF "entries" (.ref D) []))) := (SameD.of (s1.trans s2)).trans (SameD.ofKeep kx hx2)
      obtain ⟨Hx, eHx⟩ : ∃ Hx, Hx = upd H2 x (.ins C dx (putF "entries" (.ref D) [])) := ⟨_, rfl⟩
      rw [← eHx] at kx sd ⊢
      have hxx : Hx x = some (.ins C dx [("entries", .ref D)]) := by rw [eHx, upd_same]; rfl
      have fx : ∀ b, Hx b = none → H b = none := fun b e => by
        by_cases z : b = x
        · rw [z, hxx] at e; cases e
        · cases q : H b with
          | none => rfl
          | some o => rw [kx b o z ((s1.trans s2) _ _ q)] at e; cases e
      have hvx := DpAll.laterD sd hv
      walk_at "rd"
      refine ⟨a, vs, rfl, sd.seqL ha, fun D2 nD2 => lc_any walk_enum (fun i H' => Same Hx H' ∧ ∃ us, H' D2 = some (.lst us) ∧ PrsAt x H' us (cpre R i) ∧ ∀ v, v ∈ us → ∀ t, v = .ref t → Hx t = none ∧ t ≠ D2) ⟨Same.up (Same.refl Hx) nD2, [], upd_same, .nil, fun v hv => by cases hv⟩ (fun i H' _ z => z.1.seq (sd.seqL ha)) ?_ ?_⟩
      · rintro i y H3 H4 hi ⟨s3, us, hD2, hu, fr⟩ ⟨t, i', y', rfl, ht, rfl, e1, e2⟩
        cases (Option.some.inj e1)
        obtain ⟨dy, hdy, py⟩ := DpAll.at hvx e2
        have hi' : i < R.length := by omega
        rw [List.getElem?_map, List.getElem?_eq_getElem hi'] at hdy
        cases (Option.some.inj hdy)
        obtain ⟨b, ws, rfl, hb, hw⟩ := Dp.lstAt py
        obtain rfl := pVs_of hw
        have s4 : Same Hx (upd H3 t (.tup [.int (i : Int), .ref b])) := Same.up s3 ht
        have tD2 : t ≠ D2 := fun z => by rw [z, hD2] at ht; cases ht
        have wl : (R[i].map pV).length = wd R := by rw [List.length_map, g.len hi']
        refine r_gtup ⟨t, _, rfl, SqT.of upd_same, rfl, _, _, rfl, ?_⟩
        walk_at "rd"
        refine ⟨_, _, rfl, ?_⟩
        walk_at "rd"
        refine ⟨rfl, rfl, ?_⟩
        walk_at "rd"
        refine ⟨b, _, rfl, s4.seq hb, lc_any walk_enum (fun j H' => Same Hx H' ∧ ∃ us, H' D2 = some (.lst us) ∧ PrsAt x H' us (cpre R i ++ crow R i j) ∧ ∀ v, v ∈ us → ∀ t, v = .ref t → Hx t = none ∧ t ≠ D2) ⟨s4, us, later hD2 ht, by rw [show crow R i 0 = [] from rfl, List.append_nil]; exact hu.keep (Keep.same (Same.up (Same.refl H3) ht)), fr⟩ (fun j H' _ z => z.1.seq hb) ?_ ?_⟩
        · rintro j y2 H5 H6 hj ⟨s5, us5, hD5, hu5, fr5⟩ ⟨t2, j', z', rfl, ht2, rfl, f1, f2⟩
          cases (Option.some.inj f1)
          have hj' : j < wd R := by omega
          have ez := prc_get g hi' hj'
          rw [g.getD hi', show (R[i].map pV)[j]? = some z' from f2] at ez
          cases (Option.some.inj ez)
          have s6 : Same H5 (upd H5 t2 (.tup [.int (j : Int), pV (prc R i j)])) := Same.up (Same.refl H5) ht2
          refine r_gtup ⟨t2, _, rfl, SqT.of upd_same, rfl, _, _, rfl, ?_⟩
          walk_at "rd"
          refine ⟨_, _, rfl, ?_⟩
          walk_at "rd"
          refine ⟨rfl, rfl, ?_⟩
          walk_at "rd"
          cases q : prc R i j with
          | none =>
            refine ifF rfl ⟨s5.trans ?_, us5, ?_, ?_, fr5⟩
            · rw [q] at s6; exact s6
            · rw [q] at s6; exact s6 _ _ hD5
            · rw [crow_more, q, if_neg (by simp), List.append_nil]
              rw [q] at s6
              exact hu5.keep (Keep.same s6)
          | some m =>
            rw [q] at s6
            refine ifT rfl ?_
            walk_at "rd"
            refine ⟨by show 2 ≤ sizeLine; decide, fun r nr => ?_⟩
            have sr := Same.up (o := .tup [.int (i : Int), .int (j : Int)]) s6 nr
            have r5 : H5 r = none := s6.free nr
            have rx : Hx r = none := s5.free r5
            have rD2 : r ≠ D2 := fun z => by rw [z, hD5] at r5; cases r5
            have xr : r ≠ x := fun z => by rw [z, hxx] at rx; cases rx
            have ul := hu5.length
            have l1 := cpre_len R i
            have l2 := crow_len R i j
            have l3 : i * wd R ≤ 7 * 8 := Nat.mul_le_mul (by omega) w8
            refine ⟨us5, sr _ _ hD5, by rw [ul, List.length_append]; exact Nat.lt_of_lt_of_le (show _ < 65 by omega) (by decide), fun c o e => ?_, us5 ++ [.ref r], upd_same, ?_, fun v hv t' et => ?_⟩
            · have n : c ≠ D2 := fun z => by rw [z, nD2] at e; cases e
              rw [upd_ne n]
              exact sr _ _ (s5 _ _ e)
            · rw [crow_more, q, if_pos (show (some m).isSome = true from rfl), ← List.append_assoc]
              have kD : ∀ c xs, (upd (upd H5 t2 (.tup [.int (j : Int), pV (some m)])) r (.tup [.int (i : Int), .int (j : Int)])) c = some (.tup xs) → (upd (upd (upd H5 t2 (.tup [.int (j : Int), pV (some m)])) r (.tup [.int (i : Int), .int (j : Int)])) D2 (.lst (us5 ++ [.ref r]))) c = some (.tup xs) := fun c xs e => by
                have n : c ≠ D2 := fun z => by rw [z, sr _ _ hD5] at e; cases e
                rw [upd_ne n]
                exact e
              exact ((hu5.keep (Keep.same sr)).mono kD).app (.cons ⟨r, rfl, xr, kD _ _ upd_same⟩ .nil)
            · rcases List.mem_append.mp hv with h | h
              · exact fr5 v h t' et
              · rw [List.mem_singleton] at h
                rw [h] at et
                cases et
                exact ⟨rx, rD2⟩
        · rintro H5 ⟨s5, us5, hD5, hu5, fr5⟩
          rw [wl] at hu5
          exact ⟨s5, us5, hD5, by rw [cpre_more]; exact hu5, fr5⟩
      · rintro H3 ⟨s3, us, hD2, hu, fr⟩
        rw [vl] at hu
        have hx3 := s3 _ _ hxx
        walk_at "rd"
        refine r_sFld0 (C := C) (dx := dx) hx3 A.O.cl A.u (by show 1 < 1000; decide) ?_
        rw [show putF "used" (V.ref D2) [("entries", V.ref D)] = ([("entries", V.ref D), ("used", V.ref D2)] : List (Str × V)) from two_put (f := "entries") (g := "used") (v := .ref D) (u := .ref D2) (by decide +kernel) (by decide +kernel)]
        have x2 : x ≠ D2 := fun z => by rw [← z, hxx] at nD2; cases nD2
        have kf : Keep x H (upd H3 x (.ins C dx [("entries", .ref D), ("used", .ref D2)])) := (((Keep.same (s1.trans s2)).trans kx).trans (Keep.same s3)).own
        have k2 : Keep x H2 (upd H3 x (.ins C dx [("entries", .ref D), ("used", .ref D2)])) := (kx.trans (Keep.same s3)).own
        have nDH : H D = none := s1.free nD
        refine kgood R rfl g _ (part x H (upd H3 x (.ins C dx [("entries", .ref D), ("used", .ref D2)]))) ⟨g, dx, D, D2, es, by rw [part_x, upd_same], ⟨?_, by rw [el, vl], fun i v e => ?_⟩, ⟨Ne.symm x2, us, ?_, hu.part (fun v hv t e => fx t (fr v hv t e).1) Keep.refl.own⟩⟩ part_sub part_off (fun c o n e => kf c o n e)
        · rw [part_new nDH]
          exact k2 _ _ (Ne.symm xD) hD
        · obtain ⟨c, rfl, n1, n2, n3⟩ := er i v e
          have cx : c ≠ x := fun z => by rw [z, s1 _ _ hx] at n2; cases n2
          exact ⟨c, rfl, by rw [part_new (s1.free n2)]; exact k2 _ _ cx n3⟩
        · rw [part_new (fx _ nD2), upd_ne (Ne.symm x2)]
          exact hD2
end
theorem r_ifE {t : TT} {ta tb : TE} {σ : L2.St} {H : Hp} {Q : VK} (h : t σ H fun c H1 => if c = true then ta σ H1 Q else tb σ H1 Q) : tIf t ta tb σ H Q := h
theorem r_bm {K : PySem.W.Frag} {T : String} {r : V → List V → Hp → VK → Prop} {to : TE} {t : TA} {σ : L2.St} {H : Hp} {Q : VK} (h : to σ H fun x H1 => tyV K T x H1 ∧ t σ H1 fun xs H2 => r x xs H2 Q) : tBM K T r to t σ H Q := h
theorem rows_inj {R S : Rw} (h : rowsD R = rowsD S) : R = S := by
  have e := rows_eqv R S
  rw [h, eqv_plain (rows_plain S)] at e
  exact of_decide_eq_true e.symm
/-- a good table is made -/
theorem mk_tb {K : PySem.W.Frag} {C CE : Addr} {H1 : Hp} {x dx : Addr} {v : V} {R : Rw} {Q : VK} {E : XK} (nx : H1 x = none) (nd : H1 dx = none) (ne : dx ≠ x) (hv : Dp K H1 v (rowsD R)) (g : Gt R)
    (k : ∀ (H' G : Hp), Same H1 H' → TbX C G x R → Same G H' → Fresh H1 G → Q (.ref x) H') : spTbI K C CE [.ref x, v] (upd (upd H1 dx (.own x)) x (.ins C dx [])) (fun v H2 => v = .non ∧ Q (.ref x) H2) E := by
  have sy : Same H1 (upd (upd H1 dx (.own x)) x (.ins C dx [])) := fun d o e => by
    have n1 : d ≠ x := fun z => by rw [z, nx] at e; cases e
    have n2 : d ≠ dx := fun z => by rw [z, nd] at e; cases e
    rw [upd_ne n1, upd_ne n2]
    exact e
  refine ⟨x, dx, v, rowsD R, rfl, upd_same, by rw [upd_ne ne, upd_same], ne, Dp.later sy hv, fun R' eR g' H' G t sG fG kp => ⟨rfl, ?_⟩, fun k1 e1 => by rw [badT_good g] at e1; cases e1⟩
  obtain rfl := rows_inj eR
  refine k H' G (fun d o e => kp _ _ (fun z => by rw [z, nx] at e; cases e) (sy _ _ e)) t sG fun a o e => ?_
  rcases fG a o e with z | z
  · rw [z]; exact nx
  · exact sy.free z
def spTStk (C : Addr) : Sp := fun vs H Q _ => ∃ (x : Addr) (G : Hp) (R : Rw), vs = [.ref x] ∧ TbX C G x R ∧ Same G H ∧ Q (.int (R.length : Int)) H
abbrev slTStk : Stmt := inCls 31 12
section
variable {P : Program} {w : World} {K : PySem.W.Frag} {mg : Str → Option Value} {base : Heap} {C CE CP f : Addr} {fd : FuncData}
theorem sclTStk : FnScope ["self"] ["self"] (defScope slTStk) := ⟨rfl, rfl, rfl, by decide +kernel, rfl, by decide +kernel, by decide +kernel⟩
theorem ok_tStk (F : Fun K "stocks" "Table.stocks" slTStk f fd) (T : Bt mg) (A : TbC K C) : FnOk P w K mg base CX0 1 f fd ["self"] (spTStk C) := by
  refine F.ok sclTStk (fun vs H Q E h => ?_) (fun cdv A' outer s H vs Q E hr h => ?_)
  · obtain ⟨x, G, R, rfl, _⟩ := h
    rfl
  · obtain ⟨x, G, R, rfl, ⟨g, dx, e, u, es, ho, hl, hp⟩, sG, k⟩ := h
    refine ⟨_, (pss_one (ps_ret (pe_callB cl_len (by rfl) T.len PySem.boot_len (pa_cons (pe_fld (pv 0) rfl) pa_nil)))), ?_⟩
    walk_at "rd"
    refine r_fldV rfl (sG _ _ ho) A.O.cl A.e two_fst ?_
    walk_at "rd"
    refine r_lenL (SqL.of (sG _ _ hl.at_)) ?_
    rw [hl.len]
    exact k
end
def spTWsh (C : Addr) : Sp := fun vs H Q _ => ∃ (x : Addr) (G : Hp) (R : Rw), vs = [.ref x] ∧ TbX C G x R ∧ Same G H ∧ Q (.int (wd R : Int)) H
abbrev slTWsh : Stmt := inCls 31 13
section
variable {P : Program} {w : World} {K : PySem.W.Frag} {mg : Str → Option Value} {base : Heap} {C CE CP f : Addr} {fd : FuncData}
theorem wd_row {R : Rw} (g : Gt R) {i : Nat} (h : i < R.length) : ((R.getD i []).map pV).length = wd R := by rw [List.length_map, g.getD h, g.len h]
theorem sclTWsh : FnScope ["self"] ["self"] (defScope slTWsh) := ⟨rfl, rfl, rfl, by decide +kernel, rfl, by decide +kernel, by decide +kernel⟩
theorem ok_tWsh (F : Fun K "wishes" "Table.wishes" slTWsh f fd) (T : Bt mg) (A : TbC K C) : FnOk P w K mg base CX0 1 f fd ["self"] (spTWsh C) := by
  refine F.ok sclTWsh (fun vs H Q E h => ?_) (fun cdv A' outer s H vs Q E hr h => ?_)
  · obtain ⟨x, G, R, rfl, _⟩ := h
    rfl
  · obtain ⟨x, G, R, rfl, ⟨g, dx, e, u, es, ho, hl, hp⟩, sG, k⟩ := h
    refine ⟨_, (pss_one (ps_ret (pe_callB cl_len (by rfl) T.len PySem.boot_len (pa_cons (pe_ix ix_list (pe_fld (pv 0) rfl) pe_int (fun _ _ => rfl)) pa_nil)))), ?_⟩
    obtain ⟨a, ea, ha⟩ := hl.get g.h0
    walk_at "rd"
    refine r_fldV rfl (sG _ _ ho) A.O.cl A.e two_fst ?_
    walk_at "rd"
    refine r_ixL (SqL.of (sG _ _ hl.at_)) (atI_nat (j := 0) ea) ?_
    walk_at "rd"
    refine r_lenL (SqL.of (sG _ _ ha)) ?_
    rw [wd_row g g.h0]
    exact k
end
/-- a list of rows, new since H -/
def NewRL (H H' : Hp) (r : Addr) (es : List V) (R : Rw) : Prop := Same H H' ∧ H r = none ∧ RL H' r es R ∧ ∀ (i : Nat) (c : Addr), es[i]? = some (V.ref c) → H c = none ∧ c ≠ r
def spTRws (C : Addr) : Sp := fun vs H Q _ => ∃ (x : Addr) (G : Hp) (R : Rw), vs = [.ref x] ∧ TbX C G x R ∧ Same G H ∧ ∀ r es H', NewRL H H' r es R → Q (.ref r) H'
abbrev slTRws : Stmt := inCls 31 14
section
variable {P : Program} {w : World} {K : PySem.W.Frag} {mg : Str → Option Value} {base : Heap} {C CE CP f : Addr} {fd : FuncData}
theorem sclTRws : FnScope ["self", "row"] ["self"] (defScope slTRws) := ⟨rfl, rfl, rfl, by decide +kernel, rfl, by decide +kernel, by decide +kernel⟩
theorem rl_more {H1 H : Hp} {D c : Addr} {es : List V} {R : Rw} {i : Nat} (nD : H1 D = none) (s2 : Same H1 H) (hD : H D = some (.lst es)) (el : es.length = i) (er : ∀ (j : Nat) (v : V), es[j]? = some v → ∃ c, v = .ref c ∧ c ≠ D ∧ H1 c = none ∧ H c = some (.lst ((R.getD j []).map pV)))
    (nc : H c = none) : Same H1 (upd (upd H c (.lst ((R.getD i []).map pV))) D (.lst (es ++ [V.ref c]))) ∧ ∃ fs : List V, (upd (upd H c (.lst ((R.getD i []).map pV))) D (.lst (es ++ [V.ref c]))) D = some (.lst fs) ∧ fs.length = i + 1 ∧
      ∀ (j : Nat) (v : V), fs[j]? = some v → ∃ b, v = .ref b ∧ b ≠ D ∧ H1 b = none ∧ (upd (upd H c (.lst ((R.getD i []).map pV))) D (.lst (es ++ [V.ref c]))) b = some (.lst ((R.getD j []).map pV)) := by
  have sc := Same.up (o := .lst ((R.getD i []).map pV)) (Same.refl H) nc
  have cD : c ≠ D := fun z => by rw [z, hD] at nc; cases nc
  refine ⟨fun b o e => ?_, es ++ [.ref c], upd_same, by rw [List.length_append, el]; rfl, fun j v e => ?_⟩
  · have n : b ≠ D := fun z => by rw [z, nD] at e; cases e
    rw [upd_ne n]
    exact sc _ _ (s2 _ _ e)
  · by_cases ji : j < es.length
    · rw [List.getElem?_append_left ji] at e
      obtain ⟨b, rfl, n1, n2, n3⟩ := er j v e
      exact ⟨b, rfl, n1, n2, by rw [upd_ne n1]; exact sc _ _ n3⟩
    · rw [List.getElem?_append_right (by omega)] at e
      have : j = i := by
        have := (List.getElem?_eq_some_iff.mp e).1
        simp at this
        omega
      subst this
      rw [el, Nat.sub_self] at e
      cases (Option.some.inj e)
      exact ⟨c, rfl, cD, s2.free nc, by rw [upd_ne cD, upd_same]⟩
theorem ok_tRws (F : Fun K "rows" "Table.rows" slTRws f fd) (T : Bt mg) (A : TbC K C) : FnOk P w K mg base CX0 1 f fd ["self"] (spTRws C) := by
  refine F.ok sclTRws (fun vs H Q E h => ?_) (fun cdv A' outer s H vs Q E hr h => ?_)
  · obtain ⟨x, G, R, rfl, _⟩ := h
    rfl
  · obtain ⟨x, G, R, rfl, ⟨g, dx, e, u, es, ho, hl, hp⟩, sG, k⟩ := h
    have hl := hl.same sG
    have g8 := g.h8
    refine ⟨_, (pss_one (ps_ret (pe_lc (own := [("row", 1)]) (g := gName 1) rfl sclTRws.nd (pi_list (pe_fld (pv 0) rfl)) (blkOk_by (own := [("row", 1)]) (N := ["self", "row"]) (sc := defScope slTRws) (by decide +kernel)) (fun _ _ _ _ _ => pg_name (i := 1) sclTRws.nd rfl (Or.inl rfl)) (fun _ _ _ _ _ => pts_nil) (fun _ _ _ _ _ => (pe_callTy (T := "list") (r := rLstOf K) cl_lst (by rfl) T.list (by decide +kernel) (pa_cons (pv 1) pa_nil)))))), ?_⟩
    walk_at "rd"
    refine r_fldV rfl (sG _ _ ho) A.O.cl A.e two_fst ?_
    refine ⟨e, rfl, ⟨_, SqL.of hl.at_⟩, fun D nD => lc_it walk_list (fun i H' => Same H H' ∧ ∃ es, H' D = some (.lst es) ∧ es.length = i ∧ ∀ j v, es[j]? = some v → ∃ c, v = .ref c ∧ c ≠ D ∧ H c = none ∧ H' c = some (.lst ((R.getD j []).map pV))) ⟨Same.up (Same.refl H) nD, [], upd_same, rfl, fun j v e => by simp at e⟩ (fun i H2 _ z => SqL.of (z.1 _ _ hl.at_)) ?_ ?_⟩
    · rintro i y H2 H3 hi ⟨s2, fs, hD, fl, fr⟩ ⟨rfl, e1⟩
      have hi' : i < R.length := by rw [← hl.len]; exact hi
      obtain ⟨b, rfl, hb⟩ := hl.row i y e1
      walk_at "rd"
      refine ⟨rfl, ?_⟩
      walk_at "rd"
      refine r_lstOf (SqL.of (s2 _ _ hb)) fun c nc => ?_
      exact ⟨fs, later hD nc, by rw [fl]; exact Nat.lt_of_lt_of_le (show i < 9 by omega) (by decide), rl_more nD s2 hD fl fr nc⟩
    · rintro H2 ⟨s2, fs, hD, fl, fr⟩
      rw [hl.len] at fl
      exact k D fs H2 ⟨s2, nD, ⟨hD, fl, fun i v e => by
        obtain ⟨c, e1, n1, n2, n3⟩ := fr i v e
        exact ⟨c, e1, n3⟩⟩, fun i c e => by
        obtain ⟨c', e1, n1, n2, n3⟩ := fr i _ e
        cases e1
        exact ⟨n2, n1⟩⟩
end
def spTPrs (C : Addr) : Sp := fun vs H Q _ => ∃ (x : Addr) (G : Hp) (R : Rw), vs = [.ref x] ∧ TbX C G x R ∧ Same G H ∧ ∀ r us, H r = none → PrsAt x G us (cells R) → Q (.ref r) (upd H r (.lst us))
abbrev slTPrs : Stmt := inCls 31 11
section
variable {P : Program} {w : World} {K : PySem.W.Frag} {mg : Str → Option Value} {base : Heap} {C CE CP f : Addr} {fd : FuncData}
theorem sclTPrs : FnScope ["self"] ["self"] (defScope slTPrs) := ⟨rfl, rfl, rfl, by decide +kernel, rfl, by decide +kernel, by decide +kernel⟩
theorem ok_tPrs (F : Fun K "pairs" "Table.pairs" slTPrs f fd) (T : Bt mg) (A : TbC K C) : FnOk P w K mg base CX0 1 f fd ["self"] (spTPrs C) := by
  refine F.ok sclTPrs (fun vs H Q E h => ?_) (fun cdv A' outer s H vs Q E hr h => ?_)
  · obtain ⟨x, G, R, rfl, _⟩ := h
    rfl
  · obtain ⟨x, G, R, rfl, ⟨g, dx, e, u, es, ho, hl, ⟨nu, us, hu, hp⟩⟩, sG, k⟩ := h
    refine ⟨_, (pss_one (ps_ret (pe_callTy cl_lst (by rfl) T.list (by decide +kernel) (pa_cons (pe_fld (pv 0) rfl) pa_nil)))), ?_⟩
    walk_at "rd"
    refine r_fldV rfl (sG _ _ ho) A.O.cl A.u (two_snd (by decide +kernel)) ?_
    walk_at "rd"
    exact r_lstOf (SqL.of (sG _ _ hu)) fun r nr => k r us nr hp
end
theorem pV_some (z : Option Int) : (!decide (pV z = .non)) = z.isSome := by cases z <;> rfl
def spTLen (C : Addr) : Sp := fun vs H Q _ => ∃ (x : Addr) (G : Hp) (R : Rw), vs = [.ref x] ∧ TbX C G x R ∧ Same G H ∧ Q (.int ((cells R).length : Int)) H
abbrev slTLen : Stmt := inCls 31 5
section
variable {P : Program} {w : World} {K : PySem.W.Frag} {mg : Str → Option Value} {base : Heap} {C CE CP f : Addr} {fd : FuncData}
theorem sclTLen : FnScope ["self"] ["self"] (defScope slTLen) := ⟨rfl, rfl, rfl, by decide +kernel, rfl, by decide +kernel, by decide +kernel⟩
theorem ok_tLen (F : Fun K "__len__" "Table.__len__" slTLen f fd) (T : Bt mg) (A : TbC K C) : FnOk P w K mg base CX0 1 f fd ["self"] (spTLen C) := by
  refine F.ok sclTLen (fun vs H Q E h => ?_) (fun cdv A' outer s H vs Q E hr h => ?_)
  · obtain ⟨x, G, R, rfl, _⟩ := h
    rfl
  · obtain ⟨x, G, R, rfl, ⟨g, dx, e, u, es, ho, hl, ⟨nu, us, hu, hp⟩⟩, sG, k⟩ := h
    refine ⟨_, (pss_one (ps_ret (pe_callB cl_len (by rfl) T.len PySem.boot_len (pa_cons (pe_fld (pv 0) rfl) pa_nil)))), ?_⟩
    walk_at "rd"
    refine r_fldV rfl (sG _ _ ho) A.O.cl A.u (two_snd (by decide +kernel)) ?_
    walk_at "rd"
    refine r_lenL (SqL.of (sG _ _ hu)) ?_
    rw [hp.length]
    exact k
end
end Pk
set_option Elab.async false
set_option linter.all false
set_option maxRecDepth 100000
set_option maxHeartbeats 4000000
namespace Pk
open PySem L2
local macro_rules | `(tactic| walk_at "rd") => `(tactic| repeat (first
  | with_reducible refine r_seq ?_ | with_reducible refine r_nxt ?_ | with_reducible refine r_asg ?_ | with_reducible refine r_to ?_ | with_reducible refine r_ret ?_ | with_reducible refine r_for ?_ | with_reducible refine r_lc ?_ | with_reducible refine r_lc2 ?_ | with_reducible refine r_rng1 ?_ | with_reducible refine r_list ?_ | with_reducible refine r_tupI ?_ | with_reducible refine r_drop ?_ | with_reducible refine r_ifs ?_
  | with_reducible refine r_op ?_ | with_reducible refine r_c ?_ | with_reducible refine r_var rfl ?_ | with_reducible refine r_var (by assumption) ?_ | with_reducible refine r_I0 ?_ | with_reducible refine r_un ?_ | with_reducible refine r_U ?_ | with_reducible refine r_make ?_ | with_reducible refine r_makeS ?_ | with_reducible refine r_ifE ?_ | with_reducible refine r_cm ?_ | with_reducible refine r_mkV rfl ?_ | with_reducible refine r_sub ?_
  | with_reducible refine r_nil ?_ | with_reducible refine r_cons ?_ | with_reducible refine r_cb ?_ | with_reducible refine r_sl ?_ | with_reducible refine r_noP ?_ | with_reducible refine r_part ?_ | with_reducible refine r_isI ?_ | with_reducible refine r_lst ?_ | with_reducible refine r_tup ?_ | with_reducible refine r_call ?_ | with_reducible refine r_callS ?_ | with_reducible refine r_sFldU ?_ | with_reducible refine r_chain ?_ | with_reducible refine r_enum ?_ | with_reducible refine r_zip ?_ | with_reducible refine r_rng3 ?_ | with_reducible refine r_gtup ?_ | with_reducible refine r_methU ?_
  | with_reducible refine r_test ?_ | with_reducible refine r_B ?_ | with_reducible refine r_and ?_ | with_reducible refine r_or ?_ | with_reducible refine r_not ?_ | with_reducible refine r_andV ?_ | with_reducible refine r_orV ?_ | with_reducible refine r_notV ?_ | with_reducible refine r_bl ?_ | with_reducible refine r_yes ?_ | with_reducible refine r_int ?_ | with_reducible refine r_is0 ?_ | with_reducible refine r_is1 ?_ | with_reducible refine iteT ?_ | with_reducible refine iteF ?_ | with_reducible refine ite_nF ?_ | with_reducible refine ite_nT ?_
  | with_reducible refine r_mod (by decide) ?_ | with_reducible refine r_div (by decide) (by decide) ?_ | with_reducible refine r_mulR (by decide) (by decide) ?_ | with_reducible refine r_mulL (by decide) (by decide) ?_ | with_reducible refine r_pow (by decide) (by decide) (by decide) ?_))
/-! ### the drawn numbers of a script, without a pool -/
def cellF (ns : List Int) (k : Nat) : Int := ns.getD k 0
def mixF (c k : Int) : Int :=
  ((((((c + 7919 * k + 1) * 48271) % 2147483647) * ((((c + 7919 * k + 1) * 48271) % 2147483647) / 1009 + 69621)) % 2147483647) * (((((((c + 7919 * k + 1) * 48271) % 2147483647) * ((((c + 7919 * k + 1) * 48271) % 2147483647) / 1009 + 69621)) % 2147483647)) / 2003 + 40692)) % 2147483399
theorem mixF_nn (c k : Int) : 0 ≤ mixF c k := Int.emod_nonneg _ (by decide)
theorem mixF_lt (c k : Int) : mixF c k < 2147483399 := Int.emod_lt_of_pos _ (by decide)
def numF (c sp : Int) (k : Nat) (z : Int) : Int := if z > 10 ^ 8 then mixF c (1009 * sp + k) / 16 * (10 ^ 22 + 9) + mixF (c + 1) (1009 * sp + k) / 16 else mixF c (1009 * sp + k) / 16
def dStep (c sp : Int) (k : Nat) (z l : Int) : Int × Int := if 10 ^ 18 ≤ c ∧ 0 < l then (l % z, l / z) else (numF c sp k z % z, l)
theorem dStep_nn {c sp : Int} {k : Nat} {z l : Int} (h : 0 < z) : 0 ≤ (dStep c sp k z l).1 ∧ (dStep c sp k z l).1 < z := by
  unfold dStep
  by_cases g : 10 ^ 18 ≤ c ∧ 0 < l
  · rw [if_pos g]; exact ⟨Int.emod_nonneg _ (by omega), Int.emod_lt_of_pos _ h⟩
  · rw [if_neg g]; exact ⟨Int.emod_nonneg _ (by omega), Int.emod_lt_of_pos _ h⟩
def dAt (c sp : Int) (zs : List Int) : Nat → List Int × Int
  | 0 => ([], c)
  | m + 1 => match zs[m]? with
    | some z => ((dAt c sp zs m).1 ++ [(dStep c sp m z (dAt c sp zs m).2).1], (dStep c sp m z (dAt c sp zs m).2).2)
    | none => dAt c sp zs m
def drawsF (ns : List Int) (sp : Nat) (zs : List Int) : List Int := (dAt (cellF ns sp) sp zs zs.length).1
theorem dAt_more {c sp : Int} {zs : List Int} {m : Nat} {z : Int} (e : zs[m]? = some z) : dAt c sp zs (m + 1) = ((dAt c sp zs m).1 ++ [(dStep c sp m z (dAt c sp zs m).2).1], (dStep c sp m z (dAt c sp zs m).2).2) := by
  show (match zs[m]? with | some z => _ | none => _) = _
  rw [e]
theorem dAt_len {c sp : Int} {zs : List Int} : ∀ {m : Nat}, m ≤ zs.length → (dAt c sp zs m).1.length = m
  | 0, _ => rfl
  | m + 1, h => by
    rw [dAt_more (List.getElem?_eq_getElem (show m < zs.length by omega))]
    show (_ ++ [_]).length = _
    rw [List.length_append, dAt_len (by omega)]
    rfl
theorem drawsF_len (ns : List Int) (sp : Nat) (zs : List Int) : (drawsF ns sp zs).length = zs.length := dAt_len (Nat.le_refl _)
theorem dAt_get {c sp : Int} {zs : List Int} (pos : ∀ z, z ∈ zs → 0 < z) : ∀ {m i : Nat} {d : Int}, m ≤ zs.length → (dAt c sp zs m).1[i]? = some d → ∃ z, zs[i]? = some z ∧ 0 ≤ d ∧ d < z
  | 0, i, d, _, e => by simp [dAt] at e
  | m + 1, i, d, h, e => by
    have em := List.getElem?_eq_getElem (show m < zs.length by omega)
    rw [dAt_more em] at e
    have l := dAt_len (c := c) (sp := sp) (show m ≤ zs.length by omega)
    by_cases c0 : i < m
    · rw [List.getElem?_append_left (by omega)] at e
      exact dAt_get pos (by omega) e
    · rw [List.getElem?_append_right (by omega), l] at e
      have : i = m := by
        by_cases d0 : i - m = 0
        · omega
        · obtain ⟨q, hq⟩ : ∃ q, i - m = q + 1 := ⟨i - m - 1, by omega⟩
          rw [hq] at e
          simp at e
      subst this
      rw [Nat.sub_self] at e
      cases e
      exact ⟨_, em, dStep_nn (pos _ (List.mem_of_getElem? em))⟩
theorem drawsF_get {ns : List Int} {sp : Nat} {zs : List Int} (pos : ∀ z, z ∈ zs → 0 < z) {i : Nat} {z : Int} (e : zs[i]? = some z) : ∃ d, (drawsF ns sp zs)[i]? = some d ∧ 0 ≤ d ∧ d < z := by
  have hi : i < (drawsF ns sp zs).length := by rw [drawsF_len]; exact (List.getElem?_eq_some_iff.mp e).1
  have e1 := List.getElem?_eq_getElem hi
  obtain ⟨z', ez, h1, h2⟩ := dAt_get pos (Nat.le_refl _) e1
  rw [e] at ez
  cases ez
  exact ⟨_, e1, h1, h2⟩
def spCell2 (K : PySem.W.Frag) : Sp := fun vs H Q _ => ∃ (l : Addr) (ns : List Int) (k : Nat), vs = [.ref l, .int (k : Int)] ∧ SqL K H l (ns.map V.int) ∧ Q (.int (cellF ns k)) H
def spMix2 : Sp := fun vs H Q _ => ∃ c k : Int, vs = [.int c, .int k] ∧ Q (.int (mixF c k)) H
/-- a size that can be drawn from -/
def Szd (z : Int) : Prop := 0 < z ∧ z.natAbs.log2 < 9000
def spDraws (K : PySem.W.Frag) : Sp := fun vs H Q _ => ∃ (l zl : Addr) (ns zs : List Int) (sp : Nat), vs = [.ref l, .int (sp : Int), .ref zl] ∧ SqL K H l (ns.map V.int) ∧ H zl = some (.lst (zs.map V.int)) ∧ (∀ z, z ∈ zs → Szd z) ∧ zs.length ≤ 1000 ∧
  ∀ (r : Addr) (H' : Hp), Same H H' → H r = none → H' r = some (.lst ((drawsF ns sp zs).map V.int)) → Q (.ref r) H'
abbrev slCell2 : Stmt := top 33
abbrev slMix2 : Stmt := top 34
abbrev slDraws : Stmt := top 35
theorem r_aug {i : Nat} {te : TE} {ti : TIp} {D : Ends} {σ : L2.St} {H : Hp} {v : V} (e : σ[i]? = some (some v)) (h : te σ H fun y H1 => ti v y H1 fun z H2 => D.nx (σ.set i (some z)) H2) : tAug i te ti D σ H := ⟨v, e, h⟩
theorem r_divW {a b : Int} {H : Hp} {Q : VK} (c : Szd b) (h : Q (.int (a / b)) H) : rI CDivW (fun i j => .int (i / j)) (.int a) (.int b) H Q := r_I c h
section
variable {P : Program} {w : World} {K : PySem.W.Frag} {mg : Str → Option Value} {base : Heap} {f : Addr} {fd : FuncData}
theorem sclCell2 : FnScope ["_law_script", "_law_k"] ["_law_script", "_law_k"] (defScope slCell2) := ⟨rfl, rfl, rfl, by decide +kernel, rfl, by decide +kernel, by decide +kernel⟩
theorem ok_cell2 (F : Fun K "_law_cell" "_law_cell" slCell2 f fd) (T : Bt mg) : FnOk P w K mg base CX0 1 f fd ["_law_script", "_law_k"] (spCell2 K) := by
  refine F.ok sclCell2 (fun vs H Q E h => ?_) (fun cdv A outer s H vs Q E hr h => ?_)
  · obtain ⟨l, ns, k, rfl, _⟩ := h
    rfl
  · obtain ⟨l, ns, k, rfl, hl, kk⟩ := h
    refine ⟨_, (pss_cons (ps_if (pt_cmpR op_lt (pv 1) (pe_callB cl_len (by rfl) T.len (by decide +kernel) (pa_cons (pv 0) pa_nil)) (nomark _)) (pss_one (ps_ret (pe_callTy cl_int (by rfl) T.int (by decide +kernel) (pa_cons (pe_ix ix_list (pv 0) (pv 1) (fun _ _ => rfl)) pa_nil)))) pss_nil)
  (pss_one (ps_ret pe_int))), ?_⟩
    walk_at "rd"
    refine r_lenL hl ?_
    walk_at "rd"
    by_cases c : k < ns.length
    · refine ifT (decide_eq_true (by rw [List.length_map]; omega)) ?_
      walk_at "rd"
      refine r_ixL hl (v := .int ns[k]) (atI_nat (j := k) (by rw [List.getElem?_map, List.getElem?_eq_getElem c]; rfl)) ?_
      walk_at "rd"
      have e : cellF ns k = ns[k] := by unfold cellF; rw [List.getD_eq_getElem?_getD, List.getElem?_eq_getElem c]; rfl
      rw [← e]
      exact kk
    · refine ifF (decide_eq_false (by rw [List.length_map]; omega)) ?_
      walk_at "rd"
      have e : cellF ns k = 0 := by unfold cellF; rw [List.getD_eq_getElem?_getD, List.getElem?_eq_none (by omega)]; rfl
      rw [← e]
      exact kk
theorem sclMix2 : FnScope ["_law_cell_here", "_law_k", "_law_number"] ["_law_cell_here", "_law_k"] (defScope slMix2) := ⟨rfl, rfl, rfl, by decide +kernel, rfl, by decide +kernel, by decide +kernel⟩
theorem ok_mix2 (F : Fun K "_law_mixed" "_law_mixed" slMix2 f fd) (T : Bt mg) : FnOk P w K mg base CX0 1 f fd ["_law_cell_here", "_law_k"] spMix2 := by
  refine F.ok sclMix2 (fun vs H Q E h => ?_) (fun cdv A outer s H vs Q E hr h => ?_)
  · obtain ⟨c, k, rfl, _⟩ := h
    rfl
  · obtain ⟨c, k, rfl, kk⟩ := h
    refine ⟨_, (pss_cons (ps_set (i := 2) sclMix2.nd rfl (Or.inl rfl) (pe_op op_mod (pe_callTy cl_int (by rfl) T.int (by decide +kernel) (pa_cons (pe_op op_mul (pe_op op_add (pe_op op_add (pv 0) (pe_op op_mul pe_int (pv 1))) pe_int) pe_int) pa_nil)) pe_int))
  (pss_cons (ps_set (i := 2) sclMix2.nd rfl (Or.inl rfl) (pe_op op_mod (pe_callTy cl_int (by rfl) T.int (by decide +kernel) (pa_cons (pe_op op_mul (pv 2) (pe_op op_add (pe_op op_fdiv (pv 2) pe_int) pe_int)) pa_nil)) pe_int))
  (pss_one (ps_ret (pe_op op_mod (pe_callTy cl_int (by rfl) T.int (by decide +kernel) (pa_cons (pe_op op_mul (pv 2) (pe_op op_add (pe_op op_fdiv (pv 2) pe_int) pe_int)) pa_nil)) pe_int))))), ?_⟩
    walk_at "rd"
    obtain ⟨a, ea⟩ : ∃ a, a = ((c + 7919 * k + 1) * 48271) % 2147483647 := ⟨_, rfl⟩
    have a0 : 0 ≤ a := by rw [ea]; exact Int.emod_nonneg _ (by decide)
    have a1 : a < 2147483647 := by rw [ea]; exact Int.emod_lt_of_pos _ (by decide)
    rw [← ea]
    refine r_mulL (Int.lt_of_lt_of_le (by decide) a0) (Int.lt_trans a1 (by decide)) ?_
    walk_at "rd"
    obtain ⟨b, eb⟩ : ∃ b, b = (a * (a / 1009 + 69621)) % 2147483647 := ⟨_, rfl⟩
    have b0 : 0 ≤ b := by rw [eb]; exact Int.emod_nonneg _ (by decide)
    have b1 : b < 2147483647 := by rw [eb]; exact Int.emod_lt_of_pos _ (by decide)
    rw [← eb]
    refine r_mulL (Int.lt_of_lt_of_le (by decide) b0) (Int.lt_trans b1 (by decide)) ?_
    walk_at "rd"
    have e : mixF c k = (b * (b / 2003 + 40692)) % 2147483399 := by rw [eb, ea]; rfl
    rw [← e]
    exact kk
theorem sclDraws : FnScope ["_law_script", "_law_spot", "_law_sizes", "_law_cell_here", "_law_left", "_law_drawn", "_law_k", "_law_size", "_law_number"] ["_law_script", "_law_spot", "_law_sizes"] (defScope slDraws) := ⟨rfl, rfl, rfl, by decide +kernel, rfl, by decide +kernel, by decide +kernel⟩
theorem ok_draws (F : Fun K "_law_draws" "_law_draws" slDraws f fd) (T : Bt mg) (DC : Df P w K mg base CX0 "_law_cell" 1 ["_law_script", "_law_k"] (spCell2 K)) (DM : Df P w K mg base CX0 "_law_mixed" 1 ["_law_cell_here", "_law_k"] spMix2) : FnOk P w K mg base CX0 2 f fd ["_law_script", "_law_spot", "_law_sizes"] (spDraws K) := by
  refine F.ok sclDraws (fun vs H Q E h => ?_) (fun cdv A outer s H vs Q E hr h => ?_)
  · obtain ⟨l, zl, ns, zs, sp, rfl, _⟩ := h
    rfl
  · obtain ⟨l, zl, ns, zs, sp, rfl, hl, hz, sz, z1000, kk⟩ := h
    refine ⟨_, (pss_cons (ps_set (i := 3) sclDraws.nd rfl (Or.inl rfl) (pe_df DC hr (by decide) (pa_cons (pv 0) (pa_cons (pv 1) pa_nil))))
  (pss_cons (ps_set (i := 4) sclDraws.nd rfl (Or.inl rfl) (pv 3))
  (pss_cons (ps_set (i := 5) sclDraws.nd rfl (Or.inl rfl) (pe_lst pa_nil))
  (pss_cons (ps_for PassesOwn.never rfl (pi_enum (by rfl) T.enumerate (pa_cons (pv 2) pa_nil)) (pg_tup (by rfl) (pgs_cons (pg_name (i := 6) sclDraws.nd rfl (Or.inl rfl)) (pgs_cons (pg_name (i := 7) sclDraws.nd rfl (Or.inl rfl)) pgs_nil))) (pss_one (ps_if (PW.pt (pw_and (pt_cmpR op_ge (pv 3) (pe_op op_pow pe_int pe_int) (nomark _)) (pw_and1 (pt_cmpR op_gt (pv 4) pe_int (nomark _))))) (pss_cons (ps_expr (pe_bm PySem.F.plainAttrs_list PySem.F.slot_list_append PySem.F.type_list_append mt_append (pv 5) (pa_cons (pe_op op_mod (pe_callTy cl_int (by rfl) T.int (by decide +kernel) (pa_cons (pv 4) pa_nil)) (pv 7)) pa_nil)))
  (pss_one (ps_set (i := 4) sclDraws.nd rfl (Or.inl rfl) (pe_op op_fdivW (pv 4) (pv 7))))) (pss_cons (ps_set (i := 8) sclDraws.nd rfl (Or.inl rfl) (pe_op op_fdiv (pe_df DM hr (by decide) (pa_cons (pv 3) (pa_cons (pe_op op_add (pe_op op_mul pe_int (pv 1)) (pv 6)) pa_nil))) pe_int))
  (C8.pss_cut (ps_if (pt_cmpR op_gt (pv 7) (pe_op op_pow pe_int pe_int) (nomark _)) (pss_cons (ps_set (i := 8) sclDraws.nd rfl (Or.inl rfl) (pe_op op_mul (pv 8) (pe_op op_add (pe_op op_pow pe_int pe_int) pe_int)))
  (pss_one (ps_aug (i := 8) sclDraws.nd rfl (Or.inl rfl) (pe_op op_fdiv (pe_df DM hr (by decide) (pa_cons (pe_op op_add (pv 3) pe_int) (pa_cons (pe_op op_add (pe_op op_mul pe_int (pv 1)) (pv 6)) pa_nil))) pe_int) ip_add))) pss_nil)
  (pss_one (ps_expr (pe_bm PySem.F.plainAttrs_list PySem.F.slot_list_append PySem.F.type_list_append mt_append (pv 5) (pa_cons (pe_op op_mod (pe_callTy cl_int (by rfl) T.int (by decide +kernel) (pa_cons (pv 8) pa_nil)) (pv 7)) pa_nil)))))))))
  (pss_one (ps_ret (pv 5))))))), ?_⟩
    walk_at "rd"
    refine ⟨l, ns, sp, rfl, hl, ?_⟩
    obtain ⟨c, ec⟩ : ∃ c, c = cellF ns sp := ⟨_, rfl⟩
    rw [← ec]
    walk_at "rd"
    refine ⟨Nat.zero_le _, fun D nD => ?_⟩
    have s1 := Same.up (o := .lst []) (Same.refl H) nD
    have hD1 : upd H D (.lst []) D = some (.lst []) := upd_same
    obtain ⟨H1, eH1⟩ : ∃ H1, H1 = upd H D (.lst []) := ⟨_, rfl⟩
    rw [← eH1] at s1 hD1 ⊢
    walk_at "rd"
    refine ⟨zl, zs.map V.int, rfl, SqL.of (s1 _ _ hz), for_it walk_enum (fun m σ H' => ∃ v6 v7 v8, σ = [some (.ref l), some (.int (sp : Int)), some (.ref zl), some (.int c), some (.int (dAt c sp zs m).2), some (.ref D), v6, v7, v8] ∧ Same H H' ∧ H' D = some (.lst ((dAt c sp zs m).1.map V.int))) ⟨_, _, _, rfl, s1, hD1⟩ (fun m σ H' _ z => by obtain ⟨_, _, _, _, z, _⟩ := z; exact SqL.of (z _ _ hz)) ?_ ?_⟩
    · rintro m y σ H2 H3 hm ⟨v6, v7, v8, rfl, s2, hD2⟩ ⟨t, i', y', rfl, ht, rfl, e1, e2⟩
      cases (Option.some.inj e1)
      have e2 : (zs.map V.int)[m]? = some y' := e2
      rw [List.getElem?_map] at e2
      obtain ⟨z, ez, rfl⟩ := Option.map_eq_some_iff.mp e2
      have sz' := sz z (List.mem_of_getElem? ez)
      have hm' : m < zs.length := (List.getElem?_eq_some_iff.mp ez).1
      have dl := dAt_len (c := c) (sp := sp) (show m ≤ zs.length by omega)
      refine r_gtup ⟨t, _, rfl, SqT.of upd_same, rfl, _, _, rfl, ?_⟩
      have hD3 := Same.up (o := .tup [V.int (m : Int), V.int z]) (Same.refl H2) ht _ _ hD2
      have s3 := s2.trans (Same.up (o := .tup [V.int (m : Int), V.int z]) (Same.refl H2) ht)
      obtain ⟨H3, eH3⟩ : ∃ H3, H3 = upd H2 t (.tup [V.int (m : Int), V.int z]) := ⟨_, rfl⟩
      rw [← eH3] at s3 hD3 ⊢
      have put : ∀ v : V, Same H (upd H3 D (.lst ((dAt c sp zs m).1.map V.int ++ [v]))) := fun v c o e => by
        rw [upd_ne (fun z => by rw [z, nD] at e; cases e)]
        exact s3 _ _ e
      have lD : ((dAt c sp zs m).1.map V.int).length < sizeLine := Nat.lt_of_le_of_lt (show _ ≤ 1000 by rw [List.length_map]; omega) (by decide)
      have dm := dAt_more (c := c) (sp := sp) ez
      walk_at "rd"
      refine ⟨_, _, rfl, ?_⟩
      walk_at "rd"
      refine ⟨rfl, ?_⟩
      walk_at "rd"
      by_cases gd : 10 ^ 18 ≤ c ∧ 0 < (dAt c sp zs m).2
      · have ds : dStep c sp m z (dAt c sp zs m).2 = ((dAt c sp zs m).2 % z, (dAt c sp zs m).2 / z) := by unfold dStep; rw [if_pos gd]
        rw [ds] at dm
        refine ifT (decide_eq_true gd.1) ?_
        walk_at "rd"
        refine ifT (decide_eq_true gd.2) ?_
        walk_at "rd"
        refine r_bm ?_
        walk_at "rd"
        refine ⟨.inl ⟨rfl, _, SqL.of hD3⟩, ?_⟩
        walk_at "rd"
        refine r_mod sz'.1 ?_
        walk_at "rd"
        refine ⟨D, _, _, rfl, rfl, hD3, lD, ?_⟩
        walk_at "rd"
        refine r_divW sz' ?_
        walk_at "rd"
        refine ⟨some (.int (m : Int)), some (.int z), v8, ?_, put _, ?_⟩
        · rw [dm]; rfl
        · rw [dm, upd_same, List.map_append]; rfl
      · have ds : dStep c sp m z (dAt c sp zs m).2 = (numF c sp m z % z, (dAt c sp zs m).2) := by unfold dStep; rw [if_neg gd]
        rw [ds] at dm
        have two : decide (10 ^ (18 : Int).toNat ≤ c) = false ∨ (decide (10 ^ (18 : Int).toNat ≤ c) = true ∧ decide (0 < (dAt c sp zs m).2) = false) := by
          by_cases c18 : 10 ^ 18 ≤ c
          · exact .inr ⟨decide_eq_true c18, decide_eq_false fun z => gd ⟨c18, z⟩⟩
          · exact .inl (decide_eq_false c18)
        rcases two with h | ⟨h, h'⟩
        all_goals
          first
            | refine ifF h ?_
            | (refine ifT h ?_
               walk_at "rd"
               refine ifF h' ?_)
          walk_at "rd"
          refine ⟨c, _, rfl, ?_⟩
          walk_at "rd"
          have b0 := mixF_nn c (1009 * (sp : Int) + (m : Int))
          have b1 := mixF_lt c (1009 * (sp : Int) + (m : Int))
          refine r_cut (fun σ' H' => σ' = [some (.ref l), some (.int (sp : Int)), some (.ref zl), some (.int c), some (.int (dAt c sp zs m).2), some (.ref D), some (.int (m : Int)), some (.int z), some (.int (numF c sp m z))] ∧ H3 = H') ?_ ?_
          · walk_at "rd"
            by_cases z8 : z > 10 ^ 8
            · refine ifT (decide_eq_true z8) ?_
              walk_at "rd"
              refine r_mulL (by omega) (by omega) ?_
              walk_at "rd"
              refine r_aug rfl ?_
              walk_at "rd"
              refine ⟨_, _, rfl, ?_⟩
              walk_at "rd"
              refine ⟨_, _, rfl, rfl, ?_⟩
              refine ⟨?_, rfl⟩
              unfold numF
              rw [if_pos z8]
              rfl
            · refine ifF (decide_eq_false z8) ?_
              refine ⟨?_, rfl⟩
              unfold numF
              rw [if_neg z8]
              rfl
          · rintro σ' H' ⟨rfl, rfl⟩
            walk_at "rd"
            refine r_bm ?_
            walk_at "rd"
            refine ⟨.inl ⟨rfl, _, SqL.of hD3⟩, ?_⟩
            walk_at "rd"
            refine r_mod sz'.1 ?_
            walk_at "rd"
            refine ⟨D, _, _, rfl, rfl, hD3, lD, ?_⟩
            refine ⟨some (.int (m : Int)), some (.int z), some (.int (numF c sp m z)), ?_, put _, ?_⟩
            · rw [dm]
            · rw [dm, upd_same, List.map_append]; rfl
    · rintro σ H2 ⟨v6, v7, v8, rfl, s2, hD2⟩
      rw [List.length_map] at hD2
      walk_at "rd"
      refine kk D H2 s2 nD ?_
      rw [hD2, ec]
      rfl
end
end Pk
set_option Elab.async false
set_option linter.all false
set_option maxRecDepth 100000
set_option maxHeartbeats 4000000
namespace Pk
open PySem L2
local macro_rules | `(tactic| walk_at "rd") => `(tactic| repeat (first
  | with_reducible refine r_seq ?_ | with_reducible refine r_nxt ?_ | with_reducible refine r_asg ?_ | with_reducible refine r_to ?_ | with_reducible refine r_ret ?_ | with_reducible refine r_for ?_ | with_reducible refine r_lc ?_ | with_reducible refine r_lc2 ?_ | with_reducible refine r_rng1 ?_ | with_reducible refine r_list ?_ | with_reducible refine r_tupI ?_ | with_reducible refine r_drop ?_ | with_reducible refine r_ifs ?_
  | with_reducible refine r_op ?_ | with_reducible refine r_c ?_ | with_reducible refine r_var rfl ?_ | with_reducible refine r_var (by assumption) ?_ | with_reducible refine r_I0 ?_ | with_reducible refine r_un ?_ | with_reducible refine r_U ?_ | with_reducible refine r_make ?_ | with_reducible refine r_makeS ?_ | with_reducible refine r_ifE ?_ | with_reducible refine r_cm ?_ | with_reducible refine r_mkV rfl ?_ | with_reducible refine r_sub ?_
  | with_reducible refine r_nil ?_ | with_reducible refine r_cons ?_ | with_reducible refine r_cb ?_ | with_reducible refine r_sl ?_ | with_reducible refine r_noP ?_ | with_reducible refine r_part ?_ | with_reducible refine r_isI ?_ | with_reducible refine r_lst ?_ | with_reducible refine r_tup ?_ | with_reducible refine r_call ?_ | with_reducible refine r_callS ?_ | with_reducible refine r_sFldU ?_ | with_reducible refine r_chain ?_ | with_reducible refine r_enum ?_ | with_reducible refine r_zip ?_ | with_reducible refine r_rng3 ?_ | with_reducible refine r_gtup ?_ | with_reducible refine r_methU ?_
  | with_reducible refine r_test ?_ | with_reducible refine r_B ?_ | with_reducible refine r_and ?_ | with_reducible refine r_or ?_ | with_reducible refine r_not ?_ | with_reducible refine r_andV ?_ | with_reducible refine r_orV ?_ | with_reducible refine r_notV ?_ | with_reducible refine r_bl ?_ | with_reducible refine r_yes ?_ | with_reducible refine r_int ?_ | with_reducible refine r_is0 ?_ | with_reducible refine r_is1 ?_ | with_reducible refine iteT ?_ | with_reducible refine iteF ?_ | with_reducible refine ite_nF ?_ | with_reducible refine ite_nT ?_
  | with_reducible refine r_mod (by decide) ?_ | with_reducible refine r_div (by decide) (by decide) ?_ | with_reducible refine r_mulR (by decide) (by decide) ?_ | with_reducible refine r_mulL (by decide) (by decide) ?_ | with_reducible refine r_pow (by decide) (by decide) (by decide) ?_))
/-! ### the grid of prices of a script -/
structure GK (H0 H : Hp) (L : Addr) (es : List V) (R : Rw) : Prop where
  at_ : H L = some (.lst es)
  len : es.length = R.length
  row : ∀ (i : Nat) (v : V), es[i]? = some v → ∃ a, v = .ref a ∧ a ≠ L ∧ H0 a = none ∧ H a = some (.lst ((R.getD i []).map pV))
theorem GK.same {H0 H H' : Hp} {L : Addr} {es : List V} {R : Rw} (g : GK H0 H L es R) (s : Same H H') : GK H0 H' L es R := ⟨s _ _ g.at_, g.len, fun i v e => by
  obtain ⟨a, e1, n1, n2, h⟩ := g.row i v e
  exact ⟨a, e1, n1, n2, s _ _ h⟩⟩
theorem GK.put {H0 H : Hp} {L q : Addr} {es : List V} {R : Rw} {o : HO} (g : GK H0 H L es R) (n : L ≠ q) (m : ∀ (j : Nat) (v : V), es[j]? = some v → v ≠ .ref q) : GK H0 (upd H q o) L es R := ⟨by rw [upd_ne n]; exact g.at_, g.len, fun i v e => by
  obtain ⟨a, e1, n1, n2, h⟩ := g.row i v e
  exact ⟨a, e1, n1, n2, by rw [upd_ne (fun z => m i v e (by rw [e1, z]))]; exact h⟩⟩
theorem GK.more {H0 H : Hp} {L rw0 : Addr} {es : List V} {R : Rw} {cur : List (Option Int)} (g : GK H0 H L es R) (nl : rw0 ≠ L) (n0 : H0 rw0 = none) (hr : H rw0 = some (.lst (cur.map pV))) : GK H0 (upd H L (.lst (es ++ [.ref rw0]))) L (es ++ [.ref rw0]) (R ++ [cur]) := by
  refine ⟨upd_same, by rw [List.length_append, List.length_append, g.len]; rfl, fun i v e => ?_⟩
  have gl := g.len
  by_cases c : i < es.length
  · rw [List.getElem?_append_left c] at e
    obtain ⟨a, e1, n1, n2, h⟩ := g.row i v e
    refine ⟨a, e1, n1, n2, ?_⟩
    rw [upd_ne n1, h]
    congr 3
    rw [List.getD_eq_getElem?_getD, List.getD_eq_getElem?_getD, List.getElem?_append_left (by omega)]
  · rw [List.getElem?_append_right (by omega)] at e
    have : i = es.length := by
      by_cases d0 : i - es.length = 0
      · omega
      · obtain ⟨q, hq⟩ : ∃ q, i - es.length = q + 1 := ⟨i - es.length - 1, by omega⟩
        rw [hq] at e
        simp at e
    subst this
    rw [Nat.sub_self] at e
    cases e
    refine ⟨rw0, rfl, nl, n0, ?_⟩
    rw [upd_ne nl, hr]
    congr 3
    rw [List.getD_eq_getElem?_getD, List.getElem?_append_right (by omega), gl, Nat.sub_self]
    rfl
theorem GK.rl {H0 H : Hp} {L : Addr} {es : List V} {R : Rw} (g : GK H0 H L es R) : RL H L es R := ⟨g.at_, g.len, fun i v e => by
  obtain ⟨a, e1, _, _, h⟩ := g.row i v e
  exact ⟨a, e1, h⟩⟩
/-- prices of at most 120 digits -/
def PB (R : Rw) : Prop := ∀ r, r ∈ R → ∀ i : Int, some i ∈ r → -(10 ^ 120) < i ∧ i < 10 ^ 120
theorem grid_big {h w S : Int} (s : S ≤ 10 ^ 59) (h0 : 0 ≤ h) (h1 : h < S) (w0 : 0 ≤ w) (w1 : w < S) : -(10 ^ 120) < h + 2 * w - h * w ∧ h + 2 * w - h * w < 10 ^ 120 := by
  have a := Int.mul_nonneg h0 w0
  have b := Int.mul_le_mul (show h ≤ 10 ^ 59 by omega) (show w ≤ 10 ^ 59 by omega) w0 (by decide)
  rw [show (10 : Int) ^ 59 * 10 ^ 59 = 10 ^ 118 from by decide] at b
  generalize h * w = q at a b
  omega
theorem log_lt {n : Int} {k : Nat} (h : n.natAbs < 2 ^ k) (k0 : 0 < k) : n.natAbs.log2 < k := by
  by_cases z : n.natAbs = 0
  · rw [z]
    show Nat.log2 0 < k
    rw [show Nat.log2 0 = 0 from by decide]
    exact k0
  · exact (Nat.log2_lt z).mpr h
theorem szd {z : Int} (p : 0 < z) (h : z < 2 ^ 250) : Szd z := ⟨p, Nat.lt_trans (log_lt (k := 250) (by omega) (by decide)) (by decide)⟩
theorem cut_mid {vs : List V} {a b : Nat} (h : a ≤ b) (hb : b ≤ vs.length) : cutV vs (some (a : Int)) (some (b : Int)) = (vs.drop a).take (b - a) := by
  unfold cutV
  rw [HT.sIx_nat, HT.sIx_nat, Nat.min_eq_left hb, Nat.min_eq_left (show a ≤ vs.length by omega)]
def spGrid (K : PySem.W.Frag) : Sp := fun vs H Q _ => ∃ (l : Addr) (ns : List Int) (sp m n : Nat) (st sh : Int), vs = [.ref l, .int (sp : Int), .int (m : Int), .int (n : Int), .int st, .int sh] ∧ SqL K H l (ns.map V.int) ∧ 0 < m ∧ m ≤ 8 ∧ 0 < n ∧ n ≤ 8 ∧ 0 ≤ st ∧ st < 8 ∧ 0 ≤ sh ∧ sh ≤ 8 ∧
  ∀ (ra : Addr) (es : List V) (R : Rw) (H' : Hp), Same H H' → GK H H' ra es R → H ra = none → Gt R → R.length = m → wd R = n → PB R → Q (.ref ra) H'
abbrev slGrid : Stmt := top 36
section
variable {P : Program} {w : World} {K : PySem.W.Frag} {mg : Str → Option Value} {base : Heap} {f : Addr} {fd : FuncData}
theorem sclGrid : FnScope ["_law_script", "_law_spot", "_law_m", "_law_n", "_law_style", "_law_share_here", "_law_spread", "_law_sizes", "_law_drawn", "_law_high", "_law_wide", "_law_grid_here", "_law_i", "_law_row", "_law_j", "_law_number", "_law_price"] ["_law_script", "_law_spot", "_law_m", "_law_n", "_law_style", "_law_share_here"] (defScope slGrid) := ⟨rfl, rfl, rfl, by decide +kernel, rfl, by decide +kernel, by decide +kernel⟩
theorem ok_grid (F : Fun K "_law_grid" "_law_grid" slGrid f fd) (T : Bt mg) (DD : Df P w K mg base CX0 "_law_draws" 2 ["_law_script", "_law_spot", "_law_sizes"] (spDraws K)) : FnOk P w K mg base CX0 3 f fd ["_law_script", "_law_spot", "_law_m", "_law_n", "_law_style", "_law_share_here"] (spGrid K) := by
  refine F.ok sclGrid (fun vs H Q E h => ?_) (fun cdv A outer s H vs Q E hr h => ?_)
  · obtain ⟨l, ns, sp, m, n, st, sh, rfl, _⟩ := h
    rfl
  · obtain ⟨l, ns, sp, m, n, st, sh, rfl, hl, m0, m8, n0, n8, st0, st8, sh0, sh8, kk⟩ := h
    refine ⟨_, (pss_cons (ps_set (i := 6) sclGrid.nd rfl (Or.inl rfl) (pe_ix ix_list (pe_lst (pa_cons pe_int (pa_cons pe_int (pa_cons pe_int (pa_cons (pe_op op_pow pe_int pe_int) pa_nil))))) (pe_op op_mod (pv 4) pe_int) (fun _ _ => rfl)))
  (C8.pss_cut (ps_if (pt_cmpR op_eq (pv 4) pe_int (nomark _)) (pss_one (ps_set (i := 6) sclGrid.nd rfl (Or.inl rfl) (pe_op op_pow pe_int pe_int))) pss_nil)
  (pss_cons (ps_set (i := 7) sclGrid.nd rfl (Or.inl rfl) (pe_op op_cat (pe_op op_rep (pe_lst (pa_cons (pe_op op_mul pe_int (pv 6)) pa_nil)) (pe_op op_mul (pv 2) (pv 3))) (pe_op op_rep (pe_lst (pa_cons (pv 6) pa_nil)) (pe_op op_add (pv 2) (pv 3)))))
  (pss_cons (ps_set (i := 8) sclGrid.nd rfl (Or.inl rfl) (pe_df DD hr (by decide) (pa_cons (pv 0) (pa_cons (pv 1) (pa_cons (pv 7) pa_nil)))))
  (pss_cons (ps_set (i := 9) sclGrid.nd rfl (Or.inl rfl) (pe_slice sl_list (pv 8) (po_some (pe_op op_mul (pv 2) (pv 3))) (po_some (pe_op op_add (pe_op op_mul (pv 2) (pv 3)) (pv 2)))))
  (pss_cons (ps_set (i := 10) sclGrid.nd rfl (Or.inl rfl) (pe_slice sl_list (pv 8) (po_some (pe_op op_add (pe_op op_mul (pv 2) (pv 3)) (pv 2))) po_none))
  (pss_cons (ps_set (i := 11) sclGrid.nd rfl (Or.inl rfl) (pe_lst pa_nil))
  (pss_cons (ps_for PassesOwn.never rfl (pi_range1 rfl T.range (pa_cons (pv 2) pa_nil)) (pg_name (i := 12) sclGrid.nd rfl (Or.inl rfl)) (pss_cons (ps_set (i := 13) sclGrid.nd rfl (Or.inl rfl) (pe_lst pa_nil))
  (pss_cons (ps_for PassesOwn.never rfl (pi_range1 rfl T.range (pa_cons (pv 3) pa_nil)) (pg_name (i := 14) sclGrid.nd rfl (Or.inl rfl)) (pss_cons (ps_set (i := 15) sclGrid.nd rfl (Or.inl rfl) (pe_ix ix_list (pv 8) (pe_op op_add (pe_op op_mul (pv 12) (pv 3)) (pv 14)) (fun _ _ => rfl)))
  (pss_cons (ps_set (i := 16) sclGrid.nd rfl (Or.inl rfl) (pe_op op_sub (pe_op op_fdiv (pv 15) pe_int) (pe_op op_fdiv (pv 6) pe_int)))
  (C8.pss_cut (ps_if (pt_cmpR op_ge (pv 4) pe_int (nomark _)) (pss_one (ps_set (i := 16) sclGrid.nd rfl (Or.inl rfl) (pe_op op_sub (pe_op op_add (pe_ix ix_list (pv 9) (pv 12) (fun _ _ => rfl)) (pe_op op_mul pe_int (pe_ix ix_list (pv 10) (pv 14) (fun _ _ => rfl)))) (pe_op op_mulW (pe_ix ix_list (pv 9) (pv 12) (fun _ _ => rfl)) (pe_ix ix_list (pv 10) (pv 14) (fun _ _ => rfl)))))) pss_nil)
  (C8.pss_cut (ps_if (PW.pt (pw_and (pt_cmpR op_gt (pv 5) pe_int (nomark _)) (pw_and1 (pt_cmpR op_eq (pe_op op_mod (pe_callTy cl_int (by rfl) T.int (by decide +kernel) (pa_cons (pv 15) pa_nil)) (pe_callB (call_max2 rfl) (by rfl) T.max (by decide +kernel) (pa_cons pe_int (pa_cons (pv 5) pa_nil)))) pe_int (nomark _))))) (pss_one (ps_set (i := 16) sclGrid.nd rfl (Or.inl rfl) pe_non)) pss_nil)
  (pss_one (ps_expr (pe_bm PySem.F.plainAttrs_list PySem.F.slot_list_append PySem.F.type_list_append mt_append (pv 13) (pa_cons (pv 16) pa_nil)))))))))
  (pss_one (ps_expr (pe_bm PySem.F.plainAttrs_list PySem.F.slot_list_append PySem.F.type_list_append mt_append (pv 11) (pa_cons (pv 13) pa_nil)))))))
  (pss_one (ps_ret (pv 11))))))))))), ?_⟩
    walk_at "rd"
    refine ⟨by show 4 ≤ sizeLine; decide, fun q1 n1 => ?_⟩
    have s1 := Same.up (o := .lst [V.int 3, V.int 8, V.int 1000, V.int (10 ^ 59)]) (Same.refl H) n1
    have hq1 : upd H q1 (.lst [V.int 3, V.int 8, V.int 1000, V.int (10 ^ 59)]) q1 = some (.lst [V.int 3, V.int 8, V.int 1000, V.int (10 ^ 59)]) := upd_same
    obtain ⟨H1, eH1⟩ : ∃ H1, H1 = upd H q1 (.lst [V.int 3, V.int 8, V.int 1000, V.int (10 ^ 59)]) := ⟨_, rfl⟩
    rw [show (10 : Int) ^ ((59 : Int)).toNat = 10 ^ 59 from rfl, ← eH1]
    rw [← eH1] at s1 hq1
    walk_at "rd"
    obtain ⟨S0, eS, S0p, S0l⟩ : ∃ S0 : Int, [V.int 3, V.int 8, V.int 1000, V.int (10 ^ 59)][(st % 4).toNat]? = some (.int S0) ∧ 0 < S0 ∧ S0 ≤ 10 ^ 59 := by
      have : (st % 4).toNat < 4 := by omega
      match (st % 4).toNat, this with
      | 0, _ => exact ⟨3, rfl, by decide, by decide⟩
      | 1, _ => exact ⟨8, rfl, by decide, by decide⟩
      | 2, _ => exact ⟨1000, rfl, by decide, by decide⟩
      | 3, _ => exact ⟨10 ^ 59, rfl, by decide, by decide⟩
    have e4 : st % 4 = (((st % 4).toNat : Nat) : Int) := by omega
    rw [e4]
    refine r_ixL (SqL.of hq1) (atI_nat eS) ?_
    walk_at "rd"
    refine r_cut (fun σ' H' => ∃ S : Int, 0 < S ∧ S ≤ 10 ^ 59 ∧ σ' = [some (.ref l), some (.int (sp : Int)), some (.int (m : Int)), some (.int (n : Int)), some (.int st), some (.int sh), some (.int S), none, none, none, none, none, none, none, none, none, none] ∧ H1 = H') ?_ ?_
    · walk_at "rd"
      refine r_eq rfl ?_
      walk_at "rd"
      refine ite_dec (fun _ => ?_) (fun _ => ?_)
      · walk_at "rd"
        exact ⟨10 ^ 29, by decide, by decide, rfl, rfl⟩
      · exact ⟨S0, S0p, S0l, rfl, rfl⟩
    · rintro σ' H1' ⟨S, Sp, Sl, rfl, rfl⟩
      have mn8 : m * n ≤ 8 * 8 := Nat.mul_le_mul m8 n8
      have emn : (m : Int) * (n : Int) = ((m * n : Nat) : Int) := (Int.natCast_mul m n).symm
      obtain ⟨mn, hmn⟩ : ∃ mn, mn = m * n := ⟨_, rfl⟩
      walk_at "rd"
      refine ⟨by show 1 ≤ sizeLine; decide, fun q2 n2 => ?_⟩
      have s2 := s1.trans (Same.up (o := .lst [V.int (18 * S)]) (Same.refl H1) n2)
      have hq2 : upd H1 q2 (.lst [V.int (18 * S)]) q2 = some (.lst [V.int (18 * S)]) := upd_same
      obtain ⟨H2, eH2⟩ : ∃ H2, H2 = upd H1 q2 (.lst [V.int (18 * S)]) := ⟨_, rfl⟩
      rw [← eH2] at s2 hq2 ⊢
      walk_at "rd"
      refine r_mulL (by omega) (by omega) ?_
      rw [emn, ← hmn]
      rw [← hmn] at mn8
      refine ⟨q2, _, _, rfl, rfl, hq2, by omega, by omega, Nat.le_trans (show 1 * ((mn : Nat) : Int).toNat ≤ 64 by omega) (by decide), fun q3 n3 => ?_⟩
      rw [List.flatten_replicate_singleton, Int.toNat_natCast]
      have s3 := s2.trans (Same.up (o := .lst (List.replicate mn (V.int (18 * S)))) (Same.refl H2) n3)
      have hq3 : upd H2 q3 (.lst (List.replicate mn (V.int (18 * S)))) q3 = some (.lst (List.replicate mn (V.int (18 * S)))) := upd_same
      obtain ⟨H3, eH3⟩ : ∃ H3, H3 = upd H2 q3 (.lst (List.replicate mn (V.int (18 * S)))) := ⟨_, rfl⟩
      rw [← eH3] at s3 hq3 ⊢
      walk_at "rd"
      refine ⟨by show 1 ≤ sizeLine; decide, fun q4 n4 => ?_⟩
      have s4 := s3.trans (Same.up (o := .lst [V.int S]) (Same.refl H3) n4)
      have hq34 := Same.up (o := .lst [V.int S]) (Same.refl H3) n4 _ _ hq3
      have hq4 : upd H3 q4 (.lst [V.int S]) q4 = some (.lst [V.int S]) := upd_same
      obtain ⟨H4, eH4⟩ : ∃ H4, H4 = upd H3 q4 (.lst [V.int S]) := ⟨_, rfl⟩
      rw [← eH4] at s4 hq34 hq4 ⊢
      walk_at "rd"
      refine ⟨q4, _, _, rfl, rfl, hq4, by omega, by omega, Nat.le_trans (show 1 * ((m : Int) + (n : Int)).toNat ≤ 64 by omega) (by decide), fun q5 n5 => ?_⟩
      rw [List.flatten_replicate_singleton, show ((m : Int) + (n : Int)).toNat = m + n by omega]
      have s5 := s4.trans (Same.up (o := .lst (List.replicate (m + n) (V.int S))) (Same.refl H4) n5)
      have hq35 := Same.up (o := .lst (List.replicate (m + n) (V.int S))) (Same.refl H4) n5 _ _ hq34
      have hq5 : upd H4 q5 (.lst (List.replicate (m + n) (V.int S))) q5 = some (.lst (List.replicate (m + n) (V.int S))) := upd_same
      obtain ⟨H5, eH5⟩ : ∃ H5, H5 = upd H4 q5 (.lst (List.replicate (m + n) (V.int S))) := ⟨_, rfl⟩
      rw [← eH5] at s5 hq35 hq5 ⊢
      refine r_cat hq35 hq5 (Nat.le_trans (show _ ≤ 128 by rw [List.length_replicate, List.length_replicate]; omega) (by decide)) fun q6 n6 => ?_
      obtain ⟨zs, ezs⟩ : ∃ zs : List Int, zs = List.replicate mn (18 * S) ++ List.replicate (m + n) S := ⟨_, rfl⟩
      have ezv : List.replicate mn (V.int (18 * S)) ++ List.replicate (m + n) (V.int S) = zs.map V.int := by rw [ezs, List.map_append, List.map_replicate, List.map_replicate]
      rw [ezv]
      have zl : zs.length = mn + (m + n) := by rw [ezs, List.length_append, List.length_replicate, List.length_replicate]
      have zz : ∀ z, z ∈ zs → Szd z := fun z hz => by
        rw [ezs] at hz
        rcases List.mem_append.mp hz with hz | hz
        · rw [(List.mem_replicate.mp hz).2]; exact szd (by omega) (by omega)
        · rw [(List.mem_replicate.mp hz).2]; exact szd (by omega) (by omega)
      have s6 := s5.trans (Same.up (o := .lst (zs.map V.int)) (Same.refl H5) n6)
      have hq6 : upd H5 q6 (.lst (zs.map V.int)) q6 = some (.lst (zs.map V.int)) := upd_same
      obtain ⟨H6, eH6⟩ : ∃ H6, H6 = upd H5 q6 (.lst (zs.map V.int)) := ⟨_, rfl⟩
      rw [← eH6] at s6 hq6 ⊢
      walk_at "rd"
      refine ⟨l, q6, ns, zs, sp, rfl, s6.seq hl, hq6, zz, by omega, fun r H7 s7' nr hr7 => ?_⟩
      have s7 := s6.trans s7'
      obtain ⟨ds, eds⟩ : ∃ ds, ds = drawsF ns sp zs := ⟨_, rfl⟩
      rw [← eds] at hr7
      have dl : ds.length = mn + (m + n) := by rw [eds, drawsF_len, zl]
      have pos : ∀ z, z ∈ zs → 0 < z := fun z hz => (zz z hz).1
      have dlow : ∀ a : Nat, a < mn → ∃ d, ds[a]? = some d ∧ 0 ≤ d ∧ d < 18 * S := fun a ha => by
        rw [eds]
        exact drawsF_get pos (by rw [ezs, List.getElem?_append_left (by rw [List.length_replicate]; exact ha), List.getElem?_replicate, if_pos ha])
      have dhigh : ∀ a : Nat, a < m + n → ∃ d, ds[mn + a]? = some d ∧ 0 ≤ d ∧ d < S := fun a ha => by
        rw [eds]
        exact drawsF_get pos (by rw [ezs, List.getElem?_append_right (by rw [List.length_replicate]; omega), List.length_replicate, List.getElem?_replicate, if_pos (by omega)])
      have dvl : (ds.map V.int).length = mn + (m + n) := by rw [List.length_map, dl]
      walk_at "rd"
      refine r_mulL (by omega) (by omega) ?_
      walk_at "rd"
      refine r_mulL (by omega) (by omega) ?_
      walk_at "rd"
      rw [emn, ← hmn]
      refine ⟨r, ds.map V.int, rfl, SqL.of hr7, fun q8 n8 => ?_⟩
      rw [show ((mn : Int) + (m : Int)) = ((mn + m : Nat) : Int) from rfl, cut_mid (by omega) (by omega)]
      have s8' := Same.up (o := .lst (((ds.map V.int).drop mn).take (mn + m - mn))) (Same.refl H7) n8
      have s8 := s7.trans s8'
      have hr8 := s8' _ _ hr7
      have hq8 : upd H7 q8 (.lst (((ds.map V.int).drop mn).take (mn + m - mn))) q8 = some (.lst (((ds.map V.int).drop mn).take (mn + m - mn))) := upd_same
      obtain ⟨hv, ehv⟩ : ∃ hv, hv = ((ds.map V.int).drop mn).take (mn + m - mn) := ⟨_, rfl⟩
      rw [← ehv] at s8 s8' hr8 hq8 ⊢
      obtain ⟨H8, eH8⟩ : ∃ H8, H8 = upd H7 q8 (.lst hv) := ⟨_, rfl⟩
      rw [← eH8] at s8 s8' hr8 hq8 ⊢
      have hvg : ∀ i : Nat, i < m → ∃ d, hv[i]? = some (.int d) ∧ 0 ≤ d ∧ d < S := fun i hi => by
        obtain ⟨d, e, q⟩ := dhigh i (by omega)
        exact ⟨d, by rw [ehv, List.getElem?_take, if_pos (by omega), List.getElem?_drop, List.getElem?_map, e]; rfl, q⟩
      walk_at "rd"
      refine r_mulL (by omega) (by omega) ?_
      walk_at "rd"
      rw [emn, ← hmn]
      refine ⟨r, ds.map V.int, rfl, SqL.of hr8, fun q9 n9 => ?_⟩
      rw [show ((mn : Int) + (m : Int)) = ((mn + m : Nat) : Int) from rfl, cutDrop (by omega)]
      have s9' := Same.up (o := .lst ((ds.map V.int).drop (mn + m))) (Same.refl H8) n9
      have s9 := s8.trans s9'
      have hr9 := s9' _ _ hr8
      have hq89 := s9' _ _ hq8
      have hq9 : upd H8 q9 (.lst ((ds.map V.int).drop (mn + m))) q9 = some (.lst ((ds.map V.int).drop (mn + m))) := upd_same
      obtain ⟨wv, ewv⟩ : ∃ wv, wv = (ds.map V.int).drop (mn + m) := ⟨_, rfl⟩
      rw [← ewv] at s9 s9' hr9 hq9 hq89 ⊢
      obtain ⟨H9, eH9⟩ : ∃ H9, H9 = upd H8 q9 (.lst wv) := ⟨_, rfl⟩
      rw [← eH9] at s9 s9' hr9 hq9 hq89 ⊢
      have wvg : ∀ j : Nat, j < n → ∃ d, wv[j]? = some (.int d) ∧ 0 ≤ d ∧ d < S := fun j hj => by
        obtain ⟨d, e, q⟩ := dhigh (m + j) (by omega)
        exact ⟨d, by rw [ewv, List.getElem?_drop, List.getElem?_map, Nat.add_assoc, e]; rfl, q⟩
      walk_at "rd"
      refine ⟨Nat.zero_le _, fun L nL => ?_⟩
      have sL := Same.up (o := .lst []) (Same.refl H9) nL
      have hL0 : upd H9 L (.lst []) L = some (.lst []) := upd_same
      obtain ⟨H10, eH10⟩ : ∃ H10, H10 = upd H9 L (.lst []) := ⟨_, rfl⟩
      rw [← eH10] at sL hL0 ⊢
      walk_at "rd"
      refine ⟨(m : Int), rfl, by omega, by omega, for_it walk_range (fun i σ H' => ∃ (es : List V) (R : Rw) (v12 v13 v14 v15 v16 : Option V), σ = [some (.ref l), some (.int (sp : Int)), some (.int (m : Int)), some (.int (n : Int)), some (.int st), some (.int sh), some (.int S), some (.ref q6), some (.ref r), some (.ref q8), some (.ref q9), some (.ref L), v12, v13, v14, v15, v16] ∧ Same H9 H' ∧ GK H9 H' L es R ∧ R.length = i ∧ (∀ r, r ∈ R → r.length = n) ∧ PB R)
        ⟨[], [], _, _, _, _, _, rfl, sL, ⟨hL0, rfl, fun i v e => by simp at e⟩, rfl, (fun r hr => by cases hr), (fun r hr => by cases hr)⟩ (fun _ _ _ _ _ => trivial) ?_ ?_⟩
      · rintro i y σ H20 H11 hi ⟨es, R, v12, v13, v14, v15, v16, rfl, s11, g11, Rl, Rn, Rb⟩ ⟨rfl, rfl⟩
        have hi : i < m := by simpa using hi
        have e0 : (0 : Int) + (i : Int) = (i : Int) := by omega
        simp only [e0]
        walk_at "rd"
        refine ⟨Nat.zero_le _, fun rw0 nr0 => ?_⟩
        have nr9 := s11.free nr0
        have rL : rw0 ≠ L := fun z => by rw [z, g11.at_] at nr0; cases nr0
        have rE : ∀ (j : Nat) (v : V), es[j]? = some v → v ≠ .ref rw0 := fun j v e z => by
          obtain ⟨a', e1, _, _, h⟩ := g11.row j v e
          rw [e1] at z
          cases z
          rw [h] at nr0
          cases nr0
        have sr := Same.up (o := .lst []) (Same.refl H11) nr0
        have g12 := g11.same sr
        have hr12 : upd H11 rw0 (.lst []) rw0 = some (.lst []) := upd_same
        have s12 := s11.trans sr
        obtain ⟨H12, eH12⟩ : ∃ H12, H12 = upd H11 rw0 (.lst []) := ⟨_, rfl⟩
        rw [← eH12] at g12 hr12 s12 ⊢
        have il := g11.len
        walk_at "rd"
        refine ⟨(n : Int), rfl, by omega, by omega, for_it walk_range (fun j σ H' => ∃ (cur : List (Option Int)) (v14 v15 v16 : Option V), σ = [some (.ref l), some (.int (sp : Int)), some (.int (m : Int)), some (.int (n : Int)), some (.int st), some (.int sh), some (.int S), some (.ref q6), some (.ref r), some (.ref q8), some (.ref q9), some (.ref L), some (.int (i : Int)), some (.ref rw0), v14, v15, v16] ∧ Same H9 H' ∧ GK H9 H' L es R ∧ H' rw0 = some (.lst (cur.map pV)) ∧ cur.length = j ∧ ∀ x : Int, some x ∈ cur → -(10 ^ 120) < x ∧ x < 10 ^ 120)
          ⟨[], _, _, _, rfl, s12, g12, hr12, rfl, fun x hx => by cases hx⟩ (fun _ _ _ _ _ => trivial) ?_ ?_⟩
        · rintro j y σ H30 H13 hj ⟨cur, v14, v15, v16, rfl, s13, g13, hc, cl, cb⟩ ⟨rfl, rfl⟩
          have hj : j < n := by simpa using hj
          have e0 : (0 : Int) + (j : Int) = (j : Int) := by omega
          simp only [e0]
          have hij : i * n + j < mn := by
            have h1 : (i + 1) * n ≤ m * n := Nat.mul_le_mul_right n hi
            rw [Nat.succ_mul] at h1
            omega
          have ein : (i : Int) * (n : Int) + (j : Int) = ((i * n + j : Nat) : Int) := by rw [Int.natCast_add, Int.natCast_mul]
          obtain ⟨x, ex, x0, x1⟩ := dlow _ hij
          obtain ⟨hh, eh, hh0, hh1⟩ := hvg i hi
          obtain ⟨ww, ew, ww0, ww1⟩ := wvg j hj
          walk_at "rd"
          refine r_mulL (by omega) (by omega) ?_
          walk_at "rd"
          rw [ein]
          refine r_ixL (SqL.of (s13 _ _ hr9)) (atI_nat (v := .int x) (by rw [List.getElem?_map, ex]; rfl)) ?_
          walk_at "rd"
          refine r_cut (fun σ' H' => ∃ pr : Int, σ' = [some (.ref l), some (.int (sp : Int)), some (.int (m : Int)), some (.int (n : Int)), some (.int st), some (.int sh), some (.int S), some (.ref q6), some (.ref r), some (.ref q8), some (.ref q9), some (.ref L), some (.int (i : Int)), some (.ref rw0), some (.int (j : Int)), some (.int x), some (.int pr)] ∧ H13 = H' ∧ -(10 ^ 120) < pr ∧ pr < 10 ^ 120) ?_ ?_
          · walk_at "rd"
            by_cases c4 : st ≥ 4
            · refine ifT (decide_eq_true c4) ?_
              walk_at "rd"
              refine r_ixL (SqL.of (s13 _ _ hq89)) (atI_nat eh) ?_
              walk_at "rd"
              refine r_ixL (SqL.of (s13 _ _ hq9)) (atI_nat ew) ?_
              walk_at "rd"
              refine r_ixL (SqL.of (s13 _ _ hq89)) (atI_nat eh) ?_
              walk_at "rd"
              refine r_ixL (SqL.of (s13 _ _ hq9)) (atI_nat ew) ?_
              refine r_I (show hh.natAbs.log2 + ww.natAbs.log2 < 1000000 from ?_) ?_
              · have a1 := log_lt (n := hh) (k := 250) (by omega) (by decide)
                have a2 := log_lt (n := ww) (k := 250) (by omega) (by decide)
                omega
              walk_at "rd"
              exact ⟨_, rfl, rfl, grid_big Sl hh0 hh1 ww0 ww1⟩
            · refine ifF (decide_eq_false c4) ?_
              exact ⟨_, rfl, rfl, by omega, by omega⟩
          · rintro σ' H14 ⟨pr, rfl, rfl, pr0, pr1⟩
            walk_at "rd"
            refine r_cut (fun σ' H' => ∃ z : Option Int, σ' = [some (.ref l), some (.int (sp : Int)), some (.int (m : Int)), some (.int (n : Int)), some (.int st), some (.int sh), some (.int S), some (.ref q6), some (.ref r), some (.ref q8), some (.ref q9), some (.ref L), some (.int (i : Int)), some (.ref rw0), some (.int (j : Int)), some (.int x), some (pV z)] ∧ H13 = H' ∧ ∀ y : Int, z = some y → -(10 ^ 120) < y ∧ y < 10 ^ 120) ?_ ?_
            · walk_at "rd"
              have keep : ∀ y : Int, some pr = some y → -(10 ^ 120) < y ∧ y < 10 ^ 120 := fun y e => by cases e; exact ⟨pr0, pr1⟩
              by_cases cs : sh > 0
              · refine ifT (decide_eq_true cs) ?_
                walk_at "rd"
                refine ⟨_, _, rfl, ?_⟩
                refine r_mod (by split <;> omega) ?_
                walk_at "rd"
                refine r_eq rfl ?_
                walk_at "rd"
                refine ite_dec (fun _ => ?_) (fun _ => ?_)
                · walk_at "rd"
                  exact ⟨none, rfl, rfl, fun y e => by cases e⟩
                · exact ⟨some pr, rfl, rfl, keep⟩
              · refine ifF (decide_eq_false cs) ?_
                exact ⟨some pr, rfl, rfl, keep⟩
            · rintro σ' H15 ⟨z, rfl, rfl, zb⟩
              walk_at "rd"
              refine r_bm ?_
              walk_at "rd"
              refine ⟨.inl ⟨rfl, _, SqL.of hc⟩, ?_⟩
              walk_at "rd"
              refine ⟨rw0, _, _, rfl, rfl, hc, by rw [List.length_map, cl]; exact Nat.lt_of_lt_of_le (show j < 9 by omega) (by decide), ?_⟩
              refine ⟨cur ++ [z], some (.int (j : Int)), some (.int x), some (pV z), rfl, fun c o e => ?_, g13.put (Ne.symm rL) rE, by rw [upd_same, List.map_append]; rfl, by rw [List.length_append, cl]; rfl, fun y hy => ?_⟩
              · rw [upd_ne (fun z => by rw [z, nr9] at e; cases e)]
                exact s13 _ _ e
              · rcases List.mem_append.mp hy with h | h
                · exact cb y h
                · rw [List.mem_singleton] at h
                  exact zb y h.symm
        · rintro σ H13 ⟨cur, v14, v15, v16, rfl, s13, g13, hc, cl, cb⟩
          have cl : cur.length = n := by rw [cl]; omega
          walk_at "rd"
          refine r_bm ?_
          walk_at "rd"
          refine ⟨.inl ⟨rfl, _, SqL.of g13.at_⟩, ?_⟩
          walk_at "rd"
          refine ⟨L, _, _, rfl, rfl, g13.at_, by rw [g13.len, Rl]; exact Nat.lt_of_lt_of_le (show i < 9 by omega) (by decide), ?_⟩
          refine ⟨es ++ [.ref rw0], R ++ [cur], some (.int (i : Int)), some (.ref rw0), v14, v15, v16, rfl, fun c o e => ?_, g13.more rL nr9 hc, by rw [List.length_append, Rl]; rfl, fun r hr => ?_, fun r hr => ?_⟩
          · rw [upd_ne (fun z => by rw [z, nL] at e; cases e)]
            exact s13 _ _ e
          · rcases List.mem_append.mp hr with h | h
            · exact Rn r h
            · rw [List.mem_singleton] at h
              rw [h, cl]
          · rcases List.mem_append.mp hr with h | h
            · exact Rb r h
            · rw [List.mem_singleton] at h
              rw [h]
              exact cb
      · rintro σ H11 ⟨es, R, v12, v13, v14, v15, v16, rfl, s11, g11, Rl, Rn, Rb⟩
        have Rl : R.length = m := by rw [Rl]; omega
        walk_at "rd"
        have wR : wd R = n := by
          cases R with
          | nil => rw [List.length_nil] at Rl; omega
          | cons r R => exact Rn r List.mem_cons_self
        exact kk L es R H11 (s9.trans s11) ⟨g11.at_, g11.len, fun i v e => by
          obtain ⟨a, e1, n1, n2, h⟩ := g11.row i v e
          exact ⟨a, e1, n1, s9.free n2, h⟩⟩ (s9.free nL) ⟨by omega, by omega, by omega, by omega, fun r hr => by rw [wR]; exact Rn r hr⟩ Rl wR Rb
end
end Pk
set_option Elab.async false
set_option linter.all false
set_option maxRecDepth 100000
set_option maxHeartbeats 4000000
namespace Pk
open PySem L2
local macro_rules | `(tactic| walk_at "rd") => `(tactic| repeat (first
  | with_reducible refine r_seq ?_ | with_reducible refine r_nxt ?_ | with_reducible refine r_asg ?_ | with_reducible refine r_to ?_ | with_reducible refine r_ret ?_ | with_reducible refine r_for ?_ | with_reducible refine r_lc ?_ | with_reducible refine r_lc2 ?_ | with_reducible refine r_rng1 ?_ | with_reducible refine r_list ?_ | with_reducible refine r_tupI ?_ | with_reducible refine r_drop ?_ | with_reducible refine r_ifs ?_
  | with_reducible refine r_op ?_ | with_reducible refine r_c ?_ | with_reducible refine r_var rfl ?_ | with_reducible refine r_var (by assumption) ?_ | with_reducible refine r_I0 ?_ | with_reducible refine r_un ?_ | with_reducible refine r_U ?_ | with_reducible refine r_make ?_ | with_reducible refine r_makeS ?_ | with_reducible refine r_ifE ?_ | with_reducible refine r_cm ?_ | with_reducible refine r_mkV rfl ?_ | with_reducible refine r_sub ?_
  | with_reducible refine r_nil ?_ | with_reducible refine r_cons ?_ | with_reducible refine r_cb ?_ | with_reducible refine r_sl ?_ | with_reducible refine r_noP ?_ | with_reducible refine r_part ?_ | with_reducible refine r_isI ?_ | with_reducible refine r_lst ?_ | with_reducible refine r_tup ?_ | with_reducible refine r_call ?_ | with_reducible refine r_callS ?_ | with_reducible refine r_sFldU ?_ | with_reducible refine r_chain ?_ | with_reducible refine r_enum ?_ | with_reducible refine r_zip ?_ | with_reducible refine r_rng3 ?_ | with_reducible refine r_gtup ?_ | with_reducible refine r_methU ?_
  | with_reducible refine r_test ?_ | with_reducible refine r_B ?_ | with_reducible refine r_and ?_ | with_reducible refine r_or ?_ | with_reducible refine r_not ?_ | with_reducible refine r_andV ?_ | with_reducible refine r_orV ?_ | with_reducible refine r_notV ?_ | with_reducible refine r_bl ?_ | with_reducible refine r_yes ?_ | with_reducible refine r_int ?_ | with_reducible refine r_is0 ?_ | with_reducible refine r_is1 ?_ | with_reducible refine iteT ?_ | with_reducible refine iteF ?_ | with_reducible refine ite_nF ?_ | with_reducible refine ite_nT ?_
  | with_reducible refine r_mod (by decide) ?_ | with_reducible refine r_div (by decide) (by decide) ?_ | with_reducible refine r_mulR (by decide) (by decide) ?_ | with_reducible refine r_mulL (by decide) (by decide) ?_ | with_reducible refine r_pow (by decide) (by decide) (by decide) ?_))
/-! ### the spots of a grid; things in a drawn sequence -/
def spSpots (K : PySem.W.Frag) : Sp := fun vs H Q _ => ∃ (p ra : Addr) (es : List V) (R : Rw), vs = [.ref ra] ∧ RS K H ra es R ∧ Gt R ∧ (∃ o, H p = some o) ∧
  ∀ (r : Addr) (us : List V) (H' : Hp), Same H H' → H r = none → H' r = some (.lst us) → PrsAt p H' us (cells R) → Q (.ref r) H'
def spShuf2 : Sp := fun vs H Q _ => ∃ (p a b : Addr) (us : List V) (zs : List Pr) (ps : List Int), vs = [.ref a, .ref b] ∧ H a = some (.lst us) ∧ PrsAt p H us zs ∧ H b = some (.lst (ps.map V.int)) ∧ zs.length ≤ ps.length ∧ zs.length ≤ 64 ∧ ps.length ≤ 1000 ∧
  ∀ (r : Addr) (ws : List V) (ys : List Pr) (H' : Hp), Same H H' → H r = none → H' r = some (.lst ws) → PrsAt p H' ws ys → ys.Perm zs → Q (.ref r) H'
theorem erase_perm : ∀ {l : List Pr} {k : Nat} {z : Pr}, l[k]? = some z → (z :: l.eraseIdx k).Perm l
  | [], k, z, e => by simp at e
  | a :: l, 0, z, e => by cases e; exact .refl _
  | a :: l, k + 1, z, e => by
    have ih := erase_perm (l := l) (k := k) (z := z) e
    exact (List.Perm.swap a z _).trans (List.Perm.cons a ih)
theorem PrsAt.eraseI {p : Addr} {H : Hp} {vs : List V} {zs : List Pr} (h : PrsAt p H vs zs) (j : Nat) : PrsAt p H (vs.eraseIdx j) (zs.eraseIdx j) := by
  rw [List.eraseIdx_eq_take_drop_succ, List.eraseIdx_eq_take_drop_succ]
  exact (h.take j).app (h.drop (j + 1))
abbrev slSpots : Stmt := top 37
abbrev slShuf2 : Stmt := top 39
section
variable {P : Program} {w : World} {K : PySem.W.Frag} {mg : Str → Option Value} {base : Heap} {f : Addr} {fd : FuncData}
theorem sclSpots : FnScope ["_law_grid_here", "_law_spots_here", "_law_i", "_law_row", "_law_j", "_law_price"] ["_law_grid_here"] (defScope slSpots) := ⟨rfl, rfl, rfl, by decide +kernel, rfl, by decide +kernel, by decide +kernel⟩
theorem ok_spots (F : Fun K "_law_spots" "_law_spots" slSpots f fd) (T : Bt mg) : FnOk P w K mg base CX0 1 f fd ["_law_grid_here"] (spSpots K) := by
  refine F.ok sclSpots (fun vs H Q E h => ?_) (fun cdv A outer s H vs Q E hr h => ?_)
  · obtain ⟨p, ra, es, R, rfl, _⟩ := h
    rfl
  · obtain ⟨p, ra, es, R, rfl, rs, g, ⟨op, hop⟩, kk⟩ := h
    have h8 := g.h8
    have w8 := g.w8
    have rl := rs.len
    refine ⟨_, (pss_cons (ps_set (i := 1) sclSpots.nd rfl (Or.inl rfl) (pe_lst pa_nil))
  (pss_cons (ps_for PassesOwn.never rfl (pi_enum (by rfl) T.enumerate (pa_cons (pv 0) pa_nil)) (pg_tup (by rfl) (pgs_cons (pg_name (i := 2) sclSpots.nd rfl (Or.inl rfl)) (pgs_cons (pg_name (i := 3) sclSpots.nd rfl (Or.inl rfl)) pgs_nil))) (pss_one (ps_for PassesOwn.never rfl (pi_enum (by rfl) T.enumerate (pa_cons (pv 3) pa_nil)) (pg_tup (by rfl) (pgs_cons (pg_name (i := 4) sclSpots.nd rfl (Or.inl rfl)) (pgs_cons (pg_name (i := 5) sclSpots.nd rfl (Or.inl rfl)) pgs_nil))) (pss_one (ps_if (pt_cmpR op_is1 (pv 5) pe_non (nomark _)) (pss_one (ps_expr (pe_bm PySem.F.plainAttrs_list PySem.F.slot_list_append PySem.F.type_list_append mt_append (pv 1) (pa_cons (pe_tup (pa_cons (pv 2) (pa_cons (pv 4) pa_nil))) pa_nil)))) pss_nil)))))
  (pss_one (ps_ret (pv 1))))), ?_⟩
    walk_at "rd"
    refine ⟨Nat.zero_le _, fun D nD => ?_⟩
    have s1 := Same.up (o := .lst []) (Same.refl H) nD
    have hD1 : upd H D (.lst []) D = some (.lst []) := upd_same
    obtain ⟨H1, eH1⟩ : ∃ H1, H1 = upd H D (.lst []) := ⟨_, rfl⟩
    rw [← eH1] at s1 hD1 ⊢
    walk_at "rd"
    refine ⟨ra, es, rfl, (rs.same s1).at_, for_it walk_enum (fun m σ H' => ∃ v2 v3 v4 v5 us, σ = [some (.ref ra), some (.ref D), v2, v3, v4, v5] ∧ Same H H' ∧ H' D = some (.lst us) ∧ PrsAt p H' us (cpre R m)) ⟨_, _, _, _, [], rfl, s1, hD1, .nil⟩ (fun m σ H' _ z => by obtain ⟨_, _, _, _, _, _, z, _⟩ := z; exact (rs.same z).at_) ?_ ?_⟩
    · rintro i y σ H2 H3 hi ⟨v2, v3, v4, v5, us, rfl, s2, hD2, hu⟩ ⟨t, i', y', rfl, ht, rfl, e1, e2⟩
      cases (Option.some.inj e1)
      have e2 : es[i]? = some y' := e2
      obtain ⟨b, rfl, hb⟩ := rs.row i _ e2
      have hi' : i < R.length := by rw [← rl]; exact (List.getElem?_eq_some_iff.mp e2).1
      have cl := cpre_len R i
      have sz := Nat.mul_le_mul (show i ≤ 8 by omega) w8
      refine r_gtup ⟨t, _, rfl, SqT.of upd_same, rfl, _, _, rfl, ?_⟩
      have s3' := Same.up (o := .tup [V.int (i : Int), V.ref b]) (Same.refl H2) ht
      have s3 := s2.trans s3'
      have hD3 := s3' _ _ hD2
      have hu3 := hu.keep (Keep.same s3')
      obtain ⟨H3, eH3⟩ : ∃ H3, H3 = upd H2 t (.tup [V.int (i : Int), V.ref b]) := ⟨_, rfl⟩
      rw [← eH3] at s3 hD3 hu3 ⊢
      walk_at "rd"
      refine ⟨_, _, rfl, ?_⟩
      walk_at "rd"
      refine ⟨rfl, ?_⟩
      walk_at "rd"
      have rowl : ((R.getD i []).map pV).length = wd R := by rw [List.length_map, g.getD hi', g.len hi']
      refine ⟨b, (R.getD i []).map pV, rfl, s3.seq hb, for_it walk_enum (fun m σ H' => ∃ v4 v5 us, σ = [some (.ref ra), some (.ref D), some (.int (i : Int)), some (.ref b), v4, v5] ∧ Same H H' ∧ H' D = some (.lst us) ∧ PrsAt p H' us (cpre R i ++ crow R i m)) ⟨_, _, us, rfl, s3, hD3, by rw [show crow R i 0 = [] from rfl, List.append_nil]; exact hu3⟩ (fun m σ H' _ z => by obtain ⟨_, _, _, _, z, _⟩ := z; exact z.seq hb) ?_ ?_⟩
      · rintro j y σ H4 H5 hj ⟨v4, v5, us4, rfl, s4, hD4, hu4⟩ ⟨t5, i5, y5, rfl, ht5, rfl, e3, e4⟩
        cases (Option.some.inj e3)
        have e4 : ((R.getD i []).map pV)[j]? = some y5 := e4
        have hj' : j < wd R := by rw [← rowl]; exact (List.getElem?_eq_some_iff.mp e4).1
        have ey : y5 = pV (prc R i j) := by
          have := prc_get g hi' hj'
          rw [this] at e4
          exact (Option.some.inj e4).symm
        subst ey
        refine r_gtup ⟨t5, _, rfl, SqT.of upd_same, rfl, _, _, rfl, ?_⟩
        have s5' := Same.up (o := .tup [V.int (j : Int), pV (prc R i j)]) (Same.refl H4) ht5
        have s5 := s4.trans s5'
        have hD5 := s5' _ _ hD4
        have hu5 := hu4.keep (Keep.same s5')
        obtain ⟨H5, eH5⟩ : ∃ H5, H5 = upd H4 t5 (.tup [V.int (j : Int), pV (prc R i j)]) := ⟨_, rfl⟩
        rw [← eH5] at s5 hD5 hu5 ⊢
        walk_at "rd"
        refine ⟨_, _, rfl, ?_⟩
        walk_at "rd"
        refine ⟨rfl, ?_⟩
        walk_at "rd"
        rw [pV_some]
        cases q : prc R i j with
        | none =>
          refine ifF rfl ?_
          refine ⟨some (.int (j : Int)), some (pV none), us4, rfl, s5, hD5, ?_⟩
          rw [crow_more, q, if_neg (by simp), List.append_nil]
          exact hu5
        | some x =>
          refine ifT rfl ?_
          walk_at "rd"
          refine r_bm ?_
          walk_at "rd"
          refine ⟨.inl ⟨rfl, _, SqL.of hD5⟩, ?_⟩
          walk_at "rd"
          refine ⟨by show 2 ≤ sizeLine; decide, fun t6 n6 => ?_⟩
          have s6' := Same.up (o := .tup [V.int (i : Int), V.int (j : Int)]) (Same.refl H5) n6
          have s6 := s5.trans s6'
          have hD6 := s6' _ _ hD5
          have hu6 := hu5.keep (Keep.same s6')
          have t6p : t6 ≠ p := fun z => by rw [z, s5 _ _ hop] at n6; cases n6
          have ht6 : upd H5 t6 (.tup [V.int (i : Int), V.int (j : Int)]) t6 = some (.tup [V.int (i : Int), V.int (j : Int)]) := upd_same
          obtain ⟨H6, eH6⟩ : ∃ H6, H6 = upd H5 t6 (.tup [V.int (i : Int), V.int (j : Int)]) := ⟨_, rfl⟩
          rw [← eH6] at s6 hD6 hu6 ht6 ⊢
          walk_at "rd"
          have ul := hu6.length
          have cr := crow_len R i j
          refine ⟨D, us4, _, rfl, rfl, hD6, Nat.lt_of_le_of_lt (show us4.length ≤ 128 by rw [ul, List.length_append]; omega) (by decide), ?_⟩
          have nt : ∀ c xs, H6 c = some (.tup xs) → upd H6 D (.lst (us4 ++ [V.ref t6])) c = some (.tup xs) := fun c xs e => by
            rw [upd_ne (fun z => by rw [z, hD6] at e; cases e)]
            exact e
          refine ⟨some (.int (j : Int)), some (pV (some x)), us4 ++ [.ref t6], rfl, fun c o e => ?_, upd_same, ?_⟩
          · rw [upd_ne (fun z => by rw [z, nD] at e; cases e)]
            exact s6 _ _ e
          · rw [crow_more, q, if_pos (show (some x).isSome = true from rfl), ← List.append_assoc]
            exact (hu6.mono nt).app (.cons ⟨t6, rfl, t6p, nt _ _ ht6⟩ .nil)
      · rintro σ H4 ⟨v4, v5, us4, rfl, s4, hD4, hu4⟩
        rw [rowl] at hu4
        exact ⟨_, _, v4, v5, us4, rfl, s4, hD4, by rw [cpre_more]; exact hu4⟩
    · rintro σ H2 ⟨v2, v3, v4, v5, us, rfl, s2, hD2, hu⟩
      rw [rl] at hu
      walk_at "rd"
      exact kk D us H2 s2 nD hD2 hu
theorem sclShuf2 : FnScope ["_law_things", "_law_picks", "_law_left", "_law_taken", "_law_pick"] ["_law_things", "_law_picks"] (defScope slShuf2) := ⟨rfl, rfl, rfl, by decide +kernel, rfl, by decide +kernel, by decide +kernel⟩
theorem ok_shuf2 (F : Fun K "_law_shuffled" "_law_shuffled" slShuf2 f fd) (T : Bt mg) : FnOk P w K mg base CX0 1 f fd ["_law_things", "_law_picks"] spShuf2 := by
  refine F.ok sclShuf2 (fun vs H Q E h => ?_) (fun cdv A outer s H vs Q E hr h => ?_)
  · obtain ⟨p, a, b, us, zs, ps, rfl, _⟩ := h
    rfl
  · obtain ⟨p, a, b, us, zs, ps, rfl, ha, hu, hb, zp, z64, p1000, kk⟩ := h
    refine ⟨_, (pss_cons (ps_set (i := 2) sclShuf2.nd rfl (Or.inl rfl) (pe_callTy cl_lst (by rfl) T.list (by decide +kernel) (pa_cons (pv 0) pa_nil)))
  (pss_cons (ps_set (i := 3) sclShuf2.nd rfl (Or.inl rfl) (pe_lst pa_nil))
  (pss_cons (ps_for PassesOwn.never rfl (pi_list (pv 1)) (pg_name (i := 4) sclShuf2.nd rfl (Or.inl rfl)) (pss_one (ps_if (pt_cmpR op_gt (pe_callB cl_len (by rfl) T.len (by decide +kernel) (pa_cons (pv 2) pa_nil)) pe_int (nomark _)) (pss_one (ps_expr (pe_bm PySem.F.plainAttrs_list PySem.F.slot_list_append PySem.F.type_list_append mt_append (pv 3) (pa_cons (pe_bm PySem.F.plainAttrs_list PySem.F.slot_list_pop PySem.F.type_list_pop mt_popAt (pv 2) (pa_cons (pe_op op_mod (pe_callTy cl_int (by rfl) T.int (by decide +kernel) (pa_cons (pv 4) pa_nil)) (pe_callB cl_len (by rfl) T.len (by decide +kernel) (pa_cons (pv 2) pa_nil))) pa_nil)) pa_nil)))) pss_nil)))
  (pss_one (ps_ret (pv 3)))))), ?_⟩
    walk_at "rd"
    refine r_lstOf (SqL.of ha) fun q nq => ?_
    have s1 := Same.up (o := .lst us) (Same.refl H) nq
    have hq1 : upd H q (.lst us) q = some (.lst us) := upd_same
    have hu1 := hu.keep (Keep.same s1)
    obtain ⟨H1, eH1⟩ : ∃ H1, H1 = upd H q (.lst us) := ⟨_, rfl⟩
    rw [← eH1] at s1 hq1 hu1 ⊢
    walk_at "rd"
    refine ⟨Nat.zero_le _, fun D nD => ?_⟩
    have Dq : D ≠ q := fun z => by rw [z, hq1] at nD; cases nD
    have nD0 := s1.free nD
    have s2' := Same.up (o := .lst []) (Same.refl H1) nD
    have s2 := s1.trans s2'
    have hq2 := s2' _ _ hq1
    have hu2 := hu1.keep (Keep.same s2')
    have hD2 : upd H1 D (.lst []) D = some (.lst []) := upd_same
    obtain ⟨H2, eH2⟩ : ∃ H2, H2 = upd H1 D (.lst []) := ⟨_, rfl⟩
    rw [← eH2] at s2 hq2 hu2 hD2 ⊢
    walk_at "rd"
    refine ⟨b, rfl, ⟨_, SqL.of (s2 _ _ hb)⟩, for_it walk_list (fun m σ H' => ∃ (v4 : Option V) (lw tw : List V) (lz tz : List Pr), σ = [some (.ref a), some (.ref b), some (.ref q), some (.ref D), v4] ∧ Same H H' ∧ H' q = some (.lst lw) ∧ PrsAt p H' lw lz ∧ H' D = some (.lst tw) ∧ PrsAt p H' tw tz ∧ (tz ++ lz).Perm zs ∧ lz.length + min m zs.length = zs.length) ⟨_, us, [], zs, [], rfl, s2, hq2, hu2, hD2, .nil, .refl _, by omega⟩ (fun m σ H' _ z => by obtain ⟨_, _, _, _, _, _, z, _⟩ := z; exact SqL.of (z _ _ hb)) ?_ ?_⟩
    · rintro m y σ H30 H3 hm ⟨v4, lw, tw, lz, tz, rfl, s3, hq3, hl3, hD3, ht3, pm, ll⟩ ⟨rfl, ey⟩
      rw [List.getElem?_map] at ey
      obtain ⟨pk, ek, rfl⟩ := Option.map_eq_some_iff.mp ey
      have lwl := hl3.length
      have twl := ht3.length
      have tot := pm.length_eq
      rw [List.length_append] at tot
      walk_at "rd"
      refine r_lenL (SqL.of hq3) ?_
      walk_at "rd"
      by_cases c0 : 0 < lw.length
      · refine ifT (decide_eq_true (by omega)) ?_
        walk_at "rd"
        refine r_bm ?_
        walk_at "rd"
        refine ⟨.inl ⟨rfl, _, SqL.of hD3⟩, ?_⟩
        walk_at "rd"
        refine r_bm ?_
        walk_at "rd"
        refine ⟨.inl ⟨rfl, _, SqL.of hq3⟩, ?_⟩
        walk_at "rd"
        refine r_lenL (SqL.of hq3) ?_
        refine r_mod (by omega) ?_
        obtain ⟨k, ek2⟩ : ∃ k : Nat, pk % (lw.length : Int) = (k : Int) := ⟨(pk % (lw.length : Int)).toNat, by have := Int.emod_nonneg pk (show (lw.length : Int) ≠ 0 by omega); omega⟩
        have kl : k < lw.length := by have := Int.emod_lt_of_pos pk (show 0 < (lw.length : Int) by omega); omega
        rw [ek2]
        obtain ⟨z, ez, pz⟩ := hl3.at (List.getElem?_eq_getElem kl)
        walk_at "rd"
        refine ⟨q, lw, (k : Int), k, lw[k], rfl, rfl, hq3, by omega, by omega, ?_, List.getElem?_eq_getElem kl, ?_⟩
        · exact (ixN_seq (ixN_nat kl)).1
        have nt4 : ∀ c xs, H3 c = some (.tup xs) → upd H3 q (.lst (lw.eraseIdx k)) c = some (.tup xs) := fun c xs e => by
          rw [upd_ne (fun z => by rw [z, hq3] at e; cases e)]
          exact e
        have s4 : Same H (upd H3 q (.lst (lw.eraseIdx k))) := fun c o e => by
          rw [upd_ne (fun z => by rw [z, nq] at e; cases e)]
          exact s3 _ _ e
        have hD4 : upd H3 q (.lst (lw.eraseIdx k)) D = some (.lst tw) := by rw [upd_ne Dq]; exact hD3
        have hq4 : upd H3 q (.lst (lw.eraseIdx k)) q = some (.lst (lw.eraseIdx k)) := upd_same
        have hl4 := (hl3.eraseI k).mono nt4
        have ht4 := ht3.mono nt4
        have pz4 : PrAt p (upd H3 q (.lst (lw.eraseIdx k))) lw[k] z := by
          obtain ⟨t, e, n, h⟩ := pz
          exact ⟨t, e, n, nt4 _ _ h⟩
        obtain ⟨H4, eH4⟩ : ∃ H4, H4 = upd H3 q (.lst (lw.eraseIdx k)) := ⟨_, rfl⟩
        rw [← eH4] at s4 hD4 hq4 hl4 ht4 pz4 ⊢
        walk_at "rd"
        refine ⟨D, tw, _, rfl, rfl, hD4, Nat.lt_of_le_of_lt (show tw.length ≤ 64 by omega) (by decide), ?_⟩
        have nt5 : ∀ c xs, H4 c = some (.tup xs) → upd H4 D (.lst (tw ++ [lw[k]])) c = some (.tup xs) := fun c xs e => by
          rw [upd_ne (fun z => by rw [z, hD4] at e; cases e)]
          exact e
        have pz5 : PrAt p (upd H4 D (.lst (tw ++ [lw[k]]))) lw[k] z := by
          obtain ⟨t, e, n, h⟩ := pz4
          exact ⟨t, e, n, nt5 _ _ h⟩
        refine ⟨some (.int pk), lw.eraseIdx k, tw ++ [lw[k]], lz.eraseIdx k, tz ++ [z], rfl, fun c o e => ?_, by rw [upd_ne (Ne.symm Dq)]; exact hq4, hl4.mono nt5, upd_same, (ht4.mono nt5).app (.cons pz5 .nil), ?_, ?_⟩
        · rw [upd_ne (fun z => by rw [z, nD0] at e; cases e)]
          exact s4 _ _ e
        · rw [List.append_assoc]
          exact ((erase_perm ez).append_left tz).trans pm
        · rw [List.length_eraseIdx_of_lt (by omega)]
          omega
      · refine ifF (decide_eq_false (by omega)) ?_
        exact ⟨_, lw, tw, lz, tz, rfl, s3, hq3, hl3, hD3, ht3, pm, by omega⟩
    · rintro σ H3 ⟨v4, lw, tw, lz, tz, rfl, s3, hq3, hl3, hD3, ht3, pm, ll⟩
      rw [List.length_map] at ll
      have l0 : lz = [] := List.eq_nil_of_length_eq_zero (by omega)
      rw [l0, List.append_nil] at pm
      walk_at "rd"
      exact kk D tw tz H3 s3 nD0 hD3 ht3 pm
end
/-! ### rows copied, their pairs -/
abbrev slLCpy : Stmt := top 38
section
variable {P : Program} {w : World} {K : PySem.W.Frag} {mg : Str → Option Value} {base : Heap} {C CE f : Addr} {fd : FuncData}
theorem sclLCpy : FnScope ["_law_grid_here", "_law_row"] ["_law_grid_here"] (defScope slLCpy) := ⟨rfl, rfl, rfl, by decide +kernel, rfl, by decide +kernel, by decide +kernel⟩
theorem ok_lCpy (F : Fun K "_law_copy" "_law_copy" slLCpy f fd) (T : Bt mg) : FnOk P w K mg base CX0 1 f fd ["_law_grid_here"] (spLCpy K) := by
  refine F.ok sclLCpy (fun vs H Q E h => ?_) (fun cdv A' outer s H vs Q E hr h => ?_)
  · obtain ⟨a, es, R, rfl, _⟩ := h
    rfl
  · obtain ⟨a, es, R, rfl, hl, g8, k⟩ := h
    refine ⟨_, (pss_one (ps_ret (pe_lc (own := [("_law_row", 1)]) (g := gName 1) rfl sclLCpy.nd (pi_list (pv 0)) (blkOk_by (own := [("_law_row", 1)]) (N := ["_law_grid_here", "_law_row"]) (sc := defScope slLCpy) (by decide +kernel)) (fun _ _ _ _ _ => pg_name (i := 1) sclLCpy.nd rfl (Or.inl rfl)) (fun _ _ _ _ _ => pts_nil) (fun _ _ _ _ _ => (pe_callTy (T := "list") (r := rLstOf K) cl_lst (by rfl) T.list (by decide +kernel) (pa_cons (pv 1) pa_nil)))))), ?_⟩
    walk_at "rd"
    refine ⟨a, rfl, ⟨_, hl.at_⟩, fun D nD => lc_it walk_list (fun i H' => Same H H' ∧ ∃ es, H' D = some (.lst es) ∧ es.length = i ∧ ∀ j v, es[j]? = some v → ∃ c, v = .ref c ∧ c ≠ D ∧ H c = none ∧ H' c = some (.lst ((R.getD j []).map pV))) ⟨Same.up (Same.refl H) nD, [], upd_same, rfl, fun j v e => by simp at e⟩ (fun i H2 _ z => z.1.seq hl.at_) ?_ ?_⟩
    · rintro i y H2 H3 hi ⟨s2, fs, hD, fl, fr⟩ ⟨rfl, e1⟩
      have hi' : i < R.length := by rw [← hl.len]; exact hi
      obtain ⟨b, rfl, hb⟩ := hl.row i y e1
      walk_at "rd"
      refine ⟨rfl, ?_⟩
      walk_at "rd"
      refine r_lstOf (s2.seq hb) fun c nc => ?_
      exact ⟨fs, later hD nc, by rw [fl]; exact Nat.lt_of_lt_of_le (show i < 9 by omega) (by decide), rl_more nD s2 hD fl fr nc⟩
    · rintro H2 ⟨s2, fs, hD, fl, fr⟩
      rw [hl.len] at fl
      exact k D fs H2 s2 nD ⟨hD, fl, fun i v e => by
        obtain ⟨c, e1, n1, n2, n3⟩ := fr i v e
        exact ⟨c, e1, n3⟩⟩ (fun i c e => by
        obtain ⟨c', e1, n1, n2, n3⟩ := fr i _ e
        cases e1
        exact ⟨n2, n1⟩)
end
end Pk
set_option Elab.async false
set_option linter.all false
set_option maxRecDepth 100000
set_option maxHeartbeats 4000000
namespace Pk
open PySem L2
local macro_rules | `(tactic| walk_at "rd") => `(tactic| repeat (first
  | with_reducible refine r_seq ?_ | with_reducible refine r_nxt ?_ | with_reducible refine r_asg ?_ | with_reducible refine r_to ?_ | with_reducible refine r_ret ?_ | with_reducible refine r_for ?_ | with_reducible refine r_lc ?_ | with_reducible refine r_lc2 ?_ | with_reducible refine r_rng1 ?_ | with_reducible refine r_list ?_ | with_reducible refine r_tupI ?_ | with_reducible refine r_drop ?_ | with_reducible refine r_ifs ?_
  | with_reducible refine r_op ?_ | with_reducible refine r_c ?_ | with_reducible refine r_var rfl ?_ | with_reducible refine r_var (by assumption) ?_ | with_reducible refine r_I0 ?_ | with_reducible refine r_un ?_ | with_reducible refine r_U ?_ | with_reducible refine r_make ?_ | with_reducible refine r_makeS ?_ | with_reducible refine r_ifE ?_ | with_reducible refine r_cm ?_ | with_reducible refine r_mkV rfl ?_ | with_reducible refine r_sub ?_
  | with_reducible refine r_nil ?_ | with_reducible refine r_cons ?_ | with_reducible refine r_cb ?_ | with_reducible refine r_sl ?_ | with_reducible refine r_noP ?_ | with_reducible refine r_part ?_ | with_reducible refine r_isI ?_ | with_reducible refine r_lst ?_ | with_reducible refine r_tup ?_ | with_reducible refine r_call ?_ | with_reducible refine r_callS ?_ | with_reducible refine r_sFldU ?_ | with_reducible refine r_chain ?_ | with_reducible refine r_enum ?_ | with_reducible refine r_zip ?_ | with_reducible refine r_rng3 ?_ | with_reducible refine r_gtup ?_ | with_reducible refine r_methU ?_
  | with_reducible refine r_test ?_ | with_reducible refine r_B ?_ | with_reducible refine r_and ?_ | with_reducible refine r_or ?_ | with_reducible refine r_not ?_ | with_reducible refine r_andV ?_ | with_reducible refine r_orV ?_ | with_reducible refine r_notV ?_ | with_reducible refine r_bl ?_ | with_reducible refine r_yes ?_ | with_reducible refine r_int ?_ | with_reducible refine r_is0 ?_ | with_reducible refine r_is1 ?_ | with_reducible refine iteT ?_ | with_reducible refine iteF ?_ | with_reducible refine ite_nF ?_ | with_reducible refine ite_nT ?_
  | with_reducible refine r_mod (by decide) ?_ | with_reducible refine r_div (by decide) (by decide) ?_ | with_reducible refine r_mulR (by decide) (by decide) ?_ | with_reducible refine r_mulL (by decide) (by decide) ?_ | with_reducible refine r_pow (by decide) (by decide) (by decide) ?_))
/-! ### class Order, where what is handed in is good -/
def Rg (z : Pr) : Prop := 0 ≤ z.1 ∧ z.1 < 8 ∧ 0 ≤ z.2 ∧ z.2 < 8
structure Gp (zs : List Pr) : Prop where
  nd : zs.Nodup
  rg : ∀ z, z ∈ zs → Rg z
  len : zs.length ≤ 64
structure OrX (p C : Addr) (H : Hp) (x dx q : Addr) (zs : List Pr) : Prop where
  ne : x ≠ p
  o : H x = some (.ins C dx [("sequence", .ref q)])
  l : PL p H q zs
theorem OrX.keep {p C : Addr} {H H' : Hp} {x dx q : Addr} {zs : List Pr} (a : OrX p C H x dx q zs) (s : Keep p H H') : OrX p C H' x dx q zs := ⟨a.ne, s _ _ a.ne a.o, a.l.keep s⟩
theorem OrX.same {p C : Addr} {H H' : Hp} {x dx q : Addr} {zs : List Pr} (a : OrX p C H x dx q zs) (s : Same H H') : OrX p C H' x dx q zs := a.keep (Keep.same s)
theorem not_before {zs : List Pr} {z : Pr} {i : Nat} (nd : zs.Nodup) (h : zs[i]? = some z) : z ∉ zs.take i := by
  intro m
  obtain ⟨j, hj, e⟩ := List.getElem_of_mem m
  rw [List.length_take] at hj
  rw [List.getElem_take] at e
  obtain ⟨hi, e2⟩ := List.getElem?_eq_some_iff.mp h
  have := (List.pairwise_iff_getElem.mp nd) j i (by omega) hi (by omega)
  exact this (by rw [e, e2])
def ordD : PyData → Bool
  | .tuple [.int a, .int b] => decide (0 ≤ a) && decide (a < 8) && decide (0 ≤ b) && decide (b < 8)
  | _ => false
theorem notL {d : PyData} (h : ¬ isLD d = true) (P : PyData → Prop) (g : ∀ e, isLD e = false → P e) : P d := g d (Bool.eq_false_iff.mpr h)
theorem ordD_no {d : PyData} (h : twoD d = false) : ordD d = false := by
  unfold ordD
  split
  · rename_i a b
    exact absurd (show twoD (.tuple [.int a, .int b]) = true from rfl) (by rw [h]; decide)
  · rfl
def badAt (ds : List PyData) (k : Nat) : Bool := !ordD (ds.getD k .none) || (ds.take k).any fun e => PyData.eqv e (ds.getD k .none)
def firstBad (ds : List PyData) : Option Nat := (List.range ds.length).find? (badAt ds)
/-- what is told of a value: -2 where it is good -/
def badD : PyData → Option Int
  | .list ds => if 64 < ds.length then some (-1) else (firstBad ds).map Int.ofNat
  | _ => some (-1)
theorem badD_no {d : PyData} (h : isLD d = false) : badD d = some (-1) := by
  cases d with
  | list ds => cases h
  | _ => rfl
theorem first_some {ds : List PyData} {i : Nat} (hi : i < ds.length) (h : ∀ j, j < i → badAt ds j = false) (b : badAt ds i = true) : firstBad ds = some i := by
  unfold firstBad
  rw [List.find?_range_eq_some]
  exact ⟨b, by simpa using hi, fun j hj => by rw [h j hj]; rfl⟩
theorem first_none {ds : List PyData} (h : ∀ j, j < ds.length → badAt ds j = false) : firstBad ds = none := by
  unfold firstBad
  rw [List.find?_eq_none]
  intro j hj
  rw [h j (by simpa using hj)]
  decide
theorem badAt_good {zs : List Pr} (g : Gp zs) {k : Nat} (hk : k < zs.length) : badAt (zs.map prD) k = false := by
  have e : (zs.map prD).getD k .none = prD zs[k] := by
    rw [List.getD_eq_getElem?_getD, List.getElem?_map, List.getElem?_eq_getElem hk]
    rfl
  have r := g.rg _ (List.getElem_mem hk)
  unfold badAt
  rw [e, ← List.map_take]
  have o : ordD (prD zs[k]) = true := by
    show (decide (0 ≤ zs[k].1) && decide (zs[k].1 < 8) && decide (0 ≤ zs[k].2) && decide (zs[k].2 < 8)) = true
    rw [decide_eq_true r.1, decide_eq_true r.2.1, decide_eq_true r.2.2.1, decide_eq_true r.2.2.2]
    rfl
  rw [o, Bool.not_true, Bool.false_or, List.any_eq_false]
  intro x hx
  obtain ⟨z, hz, rfl⟩ := List.mem_map.mp hx
  rw [pr_eqv]
  have := not_before g.nd (List.getElem?_eq_getElem hk)
  simp only [decide_eq_true_eq]
  exact fun q => this (by rw [← q]; exact hz)
theorem badD_good {zs : List Pr} (g : Gp zs) : badD (prsD zs) = none := by
  show (if 64 < (zs.map prD).length then some (-1) else (firstBad (zs.map prD)).map Int.ofNat) = none
  have := g.len
  rw [if_neg (by rw [List.length_map]; omega), first_none (fun j hj => badAt_good g (by simpa using hj))]
  rfl
def spOrdD (K : PySem.W.Frag) : Sp := fun vs H Q _ => ∃ (v : V) (d : PyData), vs = [v] ∧ Dp K H v d ∧ Q (.bl (ordD d)) H
/-- data that may be handed in -/
def Ok (d : PyData) : Prop := ∀ ds, d = .list ds → Small ds ∧ ds.length ≤ 1000
def spChkD (K : PySem.W.Frag) (CE : Addr) : Sp := fun vs H Q E => ∃ (v : V) (d : PyData), vs = [v] ∧ Dp K H v d ∧ Ok d ∧ (badD d = none → ∀ H' : Hp, Same H H' → Q .non H') ∧
  (∀ k, badD d = some k → ∀ (dd : Addr) (H' : Hp), Same H H' → H dd = none → H' dd = some (.xd [("at", .int k)]) → E (.ref CE) (some dd) H')
abbrev slOrdb : Stmt := top 15
abbrev slChkP : Stmt := top 16
section
variable {P : Program} {w : World} {K : PySem.W.Frag} {mg : Str → Option Value} {base : Heap} {C CE f : Addr} {fd : FuncData}
theorem sclOrdb : FnScope ["value"] ["value"] (defScope slOrdb) := ⟨rfl, rfl, rfl, by decide +kernel, rfl, by decide +kernel, by decide +kernel⟩
theorem ok_ordb (F : Fun K "is_orderable" "is_orderable" slOrdb f fd) {tk : Tok} (hM : mg "MOST_LINES" = some (.int 8 tk)) (DT : Df P w K mg base CX0 "is_two" 2 ["value"] (spTwoD K)) : FnOk P w K mg base CX0 3 f fd ["value"] (spOrdD K) := by
  refine F.ok sclOrdb (fun vs H Q E h => ?_) (fun cdv A outer s H vs Q E hr h => ?_)
  · obtain ⟨v, d, rfl, _⟩ := h
    rfl
  · obtain ⟨v, d, rfl, hd, k⟩ := h
    refine ⟨_, (pss_one (ps_ret (pe_and (pe_df DT hr (by decide) (pa_cons (pv 0) pa_nil)) (pe_and (pe_chain op_le op_lt pe_int (pe_ix ix_tup (pv 0) pe_int (fun _ _ => rfl)) (pe_glob (v := .int 8) (by rfl) hM ⟨tk, rfl⟩)) (pe_one (pe_chain op_le op_lt pe_int (pe_ix ix_tup (pv 0) pe_int (fun _ _ => rfl)) (pe_glob (v := .int 8) (by rfl) hM ⟨tk, rfl⟩))))))), ?_⟩
    walk_at "rd"
    refine ⟨v, d, rfl, hd, ?_⟩
    walk_at "rd"
    by_cases e : twoD d = true
    · refine ifT e ?_
      obtain ⟨a, b, rfl⟩ := twoD_inv e
      obtain ⟨t, vs, rfl, ht, hv⟩ := Dp.tupAt hd
      obtain ⟨rfl⟩ : vs = [.int a, .int b] := by
        cases hv with
        | cons h1 r => cases h1; cases r with
          | cons h2 r2 => cases h2; cases r2; rfl
      walk_at "rd"
      refine r_ixT ht (atI_nat (j := 0) rfl) ?_
      walk_at "rd"
      have kk : ∀ {x : Bool}, x = (decide (0 ≤ a) && decide (a < 8) && decide (0 ≤ b) && decide (b < 8)) → Q (.bl x) H := fun {x} q => by rw [q]; exact k
      by_cases g1 : 0 ≤ a
      · refine ifT (decide_eq_true g1) ?_
        walk_at "rd"
        by_cases g2 : a < 8
        · refine ifT (decide_eq_true g2) ?_
          walk_at "rd"
          refine r_ixT ht (atI_nat (j := 1) rfl) ?_
          walk_at "rd"
          by_cases g3 : 0 ≤ b
          · refine ifT (decide_eq_true g3) ?_
            walk_at "rd"
            exact kk (by simp [g1, g2, g3])
          · refine ifF (decide_eq_false g3) ?_
            exact kk (by simp [g3])
        · refine ifF (decide_eq_false g2) ?_
          exact kk (by simp [g2])
      · refine ifF (decide_eq_false g1) ?_
        exact ⟨false, rfl, ifF rfl (kk (by simp [g1]))⟩
    · refine ifF (Bool.eq_false_iff.mpr e) ?_
      rw [ordD_no (Bool.eq_false_iff.mpr e)] at k
      exact k
end
section
variable {P : Program} {w : World} {K : PySem.W.Frag} {mg : Str → Option Value} {base : Heap} {C CE f : Addr} {fd : FuncData}
theorem sclChkP : FnScope ["pairs", "at", "pair"] ["pairs"] (defScope slChkP) := ⟨rfl, rfl, rfl, by decide +kernel, rfl, by decide +kernel, by decide +kernel⟩
theorem small_at {ds : List PyData} (s : PyData.plainAll ds = true) {i : Nat} {d : PyData} (h : ds[i]? = some d) : d.plain = true := by
  induction ds generalizing i with
  | nil => simp at h
  | cons x r ih =>
    rw [PyData.plainAll, Bool.and_eq_true] at s
    cases i with
    | zero => cases (Option.some.inj h); exact s.1
    | succ i => exact ih s.2 (by simpa using h)
theorem plain_take {ds : List PyData} (s : PyData.plainAll ds = true) : ∀ n, PyData.plainAll (ds.take n) = true := by
  induction ds with
  | nil => intro n; cases n <;> rfl
  | cons x r ih =>
    rw [PyData.plainAll, Bool.and_eq_true] at s
    intro n
    cases n with
    | zero => rfl
    | succ n => rw [List.take_succ_cons, PyData.plainAll, s.1, ih s.2 n]; rfl
theorem depth_take {ds : List PyData} {m : Nat} (s : PyData.depthAll ds ≤ m) : ∀ n, PyData.depthAll (ds.take n) ≤ m := by
  induction ds with
  | nil => intro n; cases n <;> exact s
  | cons x r ih =>
    rw [PyData.depthAll] at s
    intro n
    cases n with
    | zero => exact Nat.zero_le _
    | succ n =>
      rw [List.take_succ_cons, PyData.depthAll]
      have := ih (by omega) n
      omega
theorem Small.take {ds : List PyData} (s : Small ds) (n : Nat) : Small (ds.take n) := ⟨plain_take s.plain n, depth_take s.deep n⟩
end
section
variable {P : Program} {w : World} {K : PySem.W.Frag} {mg : Str → Option Value} {base : Heap} {C CE f : Addr} {fd : FuncData}
theorem ok_chkP (F : Fun K "check_pairs" "check_pairs" slChkP f fd) (T : Bt mg) {tk : Tok} (hM : mg "MOST_PAIRS" = some (.int 64 tk)) (DO : Df P w K mg base CX0 "is_orderable" 3 ["value"] (spOrdD K)) (EO : De P w K mg base "InvalidOrder" 3 (spErr1 K 1 CE "at") CE) :
    FnOk P w K mg base (L2.CX P w) 6 f fd ["pairs"] (spChkD K CE) := by
  refine F.okX sclChkP (fun vs H Q E h => ?_) (fun cdv A outer s H vs Q E hr h => ?_)
  · obtain ⟨v, d, rfl, _⟩ := h
    rfl
  · obtain ⟨v, d, rfl, hd, ok, k1, k2⟩ := h
    refine ⟨_, (pss_cons (ps_if (PW.pt (pw_or (pt_not (pt_val (pe_callB call_isi (by rfl) T.isinstance (by decide +kernel) (pa_cons (pv 0) (pa_cons (pe_bltn (v := .ty "list") (by rfl) T.list (by decide +kernel) rfl) pa_nil))))) (pw_or1 (pt_cmpR op_gt (pe_callB cl_len (by rfl) T.len PySem.boot_len (pa_cons (pv 0) pa_nil)) (pe_glob (v := .int 64) (by rfl) hM ⟨tk, rfl⟩) (nomark _))))) (pss_one (ps_rse rfl (takes_of rfl rfl rfl rfl) EO hr (by decide) (pa_cons (pe_un un_neg pe_int) pa_nil))) pss_nil)
  (pss_one (ps_for (passes_of rfl) rfl (pi_enum (by rfl) T.enumerate (pa_cons (pv 0) pa_nil)) (pg_tup (by rfl) (pgs_cons (pg_name (i := 1) sclChkP.nd rfl (Or.inl rfl)) (pgs_cons (pg_name (i := 2) sclChkP.nd rfl (Or.inl rfl)) pgs_nil))) (pss_one (ps_if (PW.pt (pw_or (pt_not (pt_val (pe_df DO hr (by decide) (pa_cons (pv 2) pa_nil)))) (pw_or1 (pt_cmpR (op_inD hr.units) (pv 2) (pe_slice sl_list (pv 0) po_none (po_some (pv 1))) (by rfl))))) (pss_one (ps_rse rfl (takes_of rfl rfl rfl rfl) EO hr (by decide) (pa_cons (pv 1) pa_nil))) pss_nil))))), ?_⟩
    walk_at "rd"
    refine r_isDL hd ?_
    walk_at "rd"
    by_cases e : isLD d = true
    · refine ifF (by rw [e]; rfl) ?_
      obtain ⟨ds, rfl⟩ : ∃ ds, d = .list ds := by cases d <;> first | exact ⟨_, rfl⟩ | cases e
      obtain ⟨sm, d1000⟩ := ok ds rfl
      obtain ⟨a, vs, rfl, ha, hv⟩ := Dp.lstAt hd
      have vl := DpAll.len hv
      walk_at "rd"
      refine r_lenL ha ?_
      walk_at "rd"
      by_cases e64 : 64 < ds.length
      · refine ifT (decide_eq_true (by omega)) ?_
        walk_at "rd"
        refine r_mkErr ?_
        walk_at "rd"
        refine r_err1 (σ := []) (.int _) (.int _) fun dd v' H' s1 h1 h2 o1 => ?_
        cases o1
        exact k2 (-1) (by show (if 64 < ds.length then some (-1) else _) = _; rw [if_pos e64]) dd H' s1 h1 h2
      · refine ifF (decide_eq_false (by omega)) ?_
        have bd : badD (.list ds) = (firstBad ds).map Int.ofNat := if_neg e64
        walk_at "rd"
        refine ⟨a, _, rfl, ha, for_it walk_enum (fun i σ H' => ∃ u v, σ = [some (.ref a), u, v] ∧ Same H H' ∧ ∀ j, j < i → badAt ds j = false) ⟨none, none, rfl, Same.refl H, fun j hj => by cases hj⟩ (fun i σ H' _ ⟨_, _, _, s, _⟩ => s.seq ha) ?_ ?_⟩
        · rintro i x σ H1 H2 hi ⟨u, v, rfl, s1, prev⟩ ⟨t, i', y, rfl, ht, rfl, e1, e2⟩
          obtain ⟨dy, hdy, py⟩ := DpAll.at hv e2
          cases (Option.some.inj e1)
          have gd : ds.getD i .none = dy := by rw [List.getD_eq_getElem?_getD, hdy]; rfl
          have st : Same H (upd H1 t (.tup [.int (i : Int), y])) := Same.up s1 ht
          refine r_gtup ⟨t, _, rfl, SqT.of upd_same, rfl, _, _, rfl, ?_⟩
          walk_at "rd"
          refine ⟨_, _, rfl, ?_⟩
          walk_at "rd"
          refine ⟨rfl, ?_⟩
          walk_at "rd"
          refine ⟨y, dy, rfl, Dp.later st py, ?_⟩
          walk_at "rd"
          have raise : ∀ (H3 : Hp), Same H H3 → badAt ds i = true → tMkErr CE (spErr1 K 1 CE "at") (tCons (tVar 1) tNil) [some (.ref a), some (.int (i : Int)), some y] H3 fun cls d H' => E cls d H' := fun H3 s3 b => by
            refine r_mkErr ?_
            walk_at "rd"
            refine r_err1 (σ := []) (.int _) (.int _) fun dd v' H' s4 h1 h2 o1 => ?_
            cases o1
            exact k2 (i : Int) (by rw [bd, first_some (by omega) prev b]; rfl) dd H' (s3.trans s4) (s3.free h1) h2
          by_cases o : ordD dy = true
          · refine ifF (by rw [o]; rfl) ?_
            walk_at "rd"
            refine ⟨a, vs, rfl, st.seq ha, fun q nq => ?_⟩
            rw [cut_take (by omega)]
            have sq := Same.up (o := .lst (vs.take i)) st nq
            refine ⟨dy, ds.take i, Dp.later sq py, .lst (SqL.of upd_same) (DpAll.later sq (DpAll.take hv i)), small_at sm.plain hdy, sm.take i, ?_⟩
            walk_at "rd"
            have be : badAt ds i = (ds.take i).any fun e => PyData.eqv e dy := by rw [badAt, gd, o]; rfl
            by_cases inn : ((ds.take i).any fun e => PyData.eqv e dy) = true
            · refine ifT inn ?_
              exact raise _ sq (by rw [be]; exact inn)
            · refine ifF (Bool.eq_false_iff.mpr inn) ?_
              walk_at "rd"
              refine ⟨_, _, rfl, sq, fun j hj => ?_⟩
              by_cases ji : j < i
              · exact prev j ji
              · have : j = i := by omega
                rw [this, be]
                exact Bool.eq_false_iff.mpr inn
          · refine ifT (by rw [Bool.eq_false_iff.mpr o]; rfl) ?_
            exact raise _ st (by rw [badAt, gd, Bool.eq_false_iff.mpr o]; rfl)
        · rintro σ H1 ⟨u, v, rfl, s1, prev⟩
          exact k1 (by rw [bd, first_none (fun j hj => prev j (by omega))]; rfl) H1 s1
    · refine ifT (by rw [Bool.eq_false_iff.mpr e]; rfl) ?_
      walk_at "rd"
      refine r_mkErr ?_
      walk_at "rd"
      refine r_err1 (σ := []) (.int _) (.int _) fun dd v' H' s1 h1 h2 o1 => ?_
      cases o1
      exact k2 (-1) (badD_no (Bool.eq_false_iff.mpr e)) dd H' s1 h1 h2
end
section
variable {X : Cx} {CX : CXT} {k : Nat} {C : Addr} {sp : Sp} {E : L2.St → XK} {a b : Expr} {ta tb : TE} {pos : Pos}
theorem pt_notInOwn (F : Two X CX k C "__contains__" sp) (hr : Room k X.A) (hx : ∀ σ, PassesAt CX X σ (E σ)) (ha : PE X a ta) (hb : PE X b tb) (hm : behindInMarks .NotIn b = false) :
    PT X (.Compare a [.NotIn] [b] pos) (tTest (tOp2 (rOwnIn C sp true) E ta tb)) := by
  obtain ⟨f, fd, ps, M, F, B⟩ := F.ex
  refine ⟨fun pins s σ H Q I h => ?_⟩
  refine wpAny_isTrue_Compare1 (binT ha hb I h fun v u s2 y x H2 I2 ry rx q => ?_) hm
  obtain ⟨a, dx, fs, rfl, e, q⟩ := q
  cases rx
  obtain ⟨ox, od, J⟩ := own_at I2 e
  obtain ⟨m, hF⟩ := I2.fr
  refine PySem.W.notIn_K hF I2.ok.mod.kin J M.at_ M.fn ?_
  refine wpAny_mono (own_run (us := [.ref a, v]) (vs := [.ref a, y]) F hr I2.env0 B (hx σ) I2 (.cons rfl (.cons ry .nil)) q) (fun w s' z => ?_) fun _ _ z => z
  obtain ⟨z, H3, I3, rz, c, rfl, qz⟩ := z
  cases (show w = Value.bool c from rz)
  obtain ⟨k2, e2, q2⟩ := qz
  cases e2
  exact wpAny_pure (wpAny_truthy_bool ⟨H3, I3, q2⟩)
end
theorem hu65 {k : Nat} {A : Around} (r : Room k A) : A.units + 65 < cLine := by have := r.un; omega
theorem OkPrs (zs : List Pr) (h : zs.length ≤ 64) : Ok (prsD zs) := fun ds e => by
  cases e
  exact ⟨⟨prs_plainAll zs, Nat.le_trans (prs_depthAll zs) (by decide)⟩, by rw [List.length_map]; omega⟩
def spOrIF (K : PySem.W.Frag) (C CE : Addr) : Sp := fun vs H Q E => ∃ (p x dx : Addr) (v : V), vs = [.ref x, v] ∧ H x = some (.ins C dx []) ∧ H dx = some (.own x) ∧ dx ≠ x ∧ x ≠ p ∧ (∃ o, H p = some o) ∧
  ((∃ (a : Addr) (zs : List Pr), v = .ref a ∧ PL p H a zs ∧ Gp zs ∧ ∀ (H' : Hp) (q : Addr), H q = none → OrX p C H' x dx q zs → (∀ c o, c ≠ x → H c = some o → H' c = some o) → Q .non H') ∨
   (∃ (d : PyData) (k : Int), Dp K H v d ∧ Ok d ∧ badD d = some k ∧ ∀ (dd : Addr) (H' : Hp), Same H H' → H dd = none → H' dd = some (.xd [("at", .int k)]) → E (.ref CE) (some dd) H'))
def spLenO (C : Addr) : Sp := fun vs H Q _ => ∃ (p x dx q : Addr) (zs : List Pr), vs = [.ref x] ∧ OrX p C H x dx q zs ∧ Q (.int (zs.length : Int)) H
def spHasO (C : Addr) : Sp := fun vs H Q _ => ∃ (p r x dx q : Addr) (zs : List Pr) (y : V) (z : Pr), vs = [.ref x, y] ∧ OrX p C H x dx q zs ∧ PrAt r H y z ∧ Q (.bl (decide (z ∈ zs))) H
def spPairsO (C : Addr) : Sp := fun vs H Q _ => ∃ (p x dx q : Addr) (zs : List Pr) (vs' : List V), vs = [.ref x] ∧ OrX p C H x dx q zs ∧ H q = some (.lst vs') ∧ ∀ r, H r = none → Q (.ref r) (upd H r (.lst vs'))
abbrev slOrI : Stmt := inCls 18 0
abbrev slLen : Stmt := inCls 18 3
abbrev slHas : Stmt := inCls 18 4
abbrev slPrs : Stmt := inCls 18 14
section
variable {P : Program} {w : World} {K : PySem.W.Frag} {mg : Str → Option Value} {base : Heap} {C CE f : Addr} {fd : FuncData}
theorem sclOrI : FnScope ["self", "pairs"] ["self", "pairs"] (defScope slOrI) := ⟨rfl, rfl, rfl, by decide +kernel, rfl, by decide +kernel, by decide +kernel⟩
theorem ok_orI (F : Fun K "__init__" "Order.__init__" slOrI f fd) (T : Bt mg) (O : OwnC K C) (nS : NoAttr K C "sequence") (DC : Df P w K mg base (L2.CX P w) "check_pairs" 6 ["pairs"] (spChkD K CE)) : FnOk P w K mg base (L2.CX P w) 8 f fd ["self", "pairs"] (spOrIF K C CE) := by
  refine F.okX sclOrI (fun vs H Q E h => ?_) (fun cdv A outer s H vs Q E hr h => ?_)
  · obtain ⟨p, x, dx, v, rfl, _⟩ := h
    rfl
  · obtain ⟨p, x, dx, v, rfl, hx, hdx, ne, xp, ⟨op, hp⟩, k⟩ := h
    refine ⟨_, (pss_cons (ps_expr (pe_dfS (takes_of rfl rfl rfl rfl) DC hr (by decide) (pa_cons (pv 1) pa_nil))) (pss_one (ps_fld (pv 0) (pe_callTy cl_lst (by rfl) T.list (by decide +kernel) (pa_cons (pv 1) pa_nil)) rfl))), ?_⟩
    walk_at "rd"
    rcases k with ⟨a, zs, rfl, la, g, k⟩ | ⟨d, k0, hd, ok, bd, k⟩
    · refine ⟨_, prsD zs, rfl, la.dp, OkPrs zs g.len, fun _ H1 s1 => ?_, fun k1 e => by rw [badD_good g] at e; cases e⟩
      obtain ⟨na, vs, ha, hv⟩ := la
      walk_at "rd"
      refine r_lstOf (SqL.of (s1 _ _ ha)) fun q nq => ?_
      have x1 : x ≠ q := fun z => by
        have e := s1 _ _ hx
        rw [z, nq] at e
        cases e
      have q1 : q ≠ p := fun z => by
        have e := s1 _ _ hp
        rw [← z, nq] at e
        cases e
      have s2 := Same.up (o := .lst vs) s1 nq
      walk_at "rd"
      refine r_sFld0 (C := C) (dx := dx) (fs := []) (by rw [upd_ne x1]; exact s1 _ _ hx) O.cl nS (by decide) ?_
      have kp : ∀ c o, c ≠ x → H c = some o → (upd (upd H1 q (.lst vs)) x (.ins C dx (putF "sequence" (.ref q) []))) c = some o := fun c o n e => by
        rw [upd_ne n]
        exact s2 _ _ e
      have nt : ∀ c o, H c = some o → o ≠ .ins C dx [] → c ≠ x := fun c o e n z => by
        rw [z, hx] at e
        exact n (Option.some.inj e).symm
      exact k _ q (s1.free nq) ⟨xp, upd_same, q1, vs, by rw [upd_ne (Ne.symm x1), upd_same], hv.mono fun t xs e => kp t _ (nt t _ e fun z => by cases z) e⟩ kp
    · refine ⟨v, d, rfl, hd, ok, fun e => ?_, fun k1 e dd H' s1 h1 h2 => ?_⟩
      · rw [bd] at e
        cases e
      · rw [bd] at e
        cases (Option.some.inj e)
        exact k dd H' s1 h1 h2
theorem sclLen : FnScope ["self"] ["self"] (defScope slLen) := ⟨rfl, rfl, rfl, by decide +kernel, rfl, by decide +kernel, by decide +kernel⟩
theorem ok_len (F : Fun K "__len__" "Order.__len__" slLen f fd) (T : Bt mg) (O : OwnC K C) (nS : NoAttr K C "sequence") : FnOk P w K mg base CX0 1 f fd ["self"] (spLenO C) := by
  refine F.ok sclLen (fun vs H Q E h => ?_) (fun cdv A outer s H vs Q E hr h => ?_)
  · obtain ⟨p, x, dx, q, zs, rfl, _⟩ := h
    rfl
  · obtain ⟨p, x, dx, q, zs, rfl, X, k⟩ := h
    obtain ⟨nq, vs, hq, hv⟩ := X.l
    refine ⟨_, (pss_one (ps_ret (pe_callB cl_len (by rfl) T.len PySem.boot_len (pa_cons (pe_fld (pv 0) rfl) pa_nil)))), ?_⟩
    walk_at "rd"
    refine r_fldV rfl X.o O.cl nS one_fst ?_
    walk_at "rd"
    refine r_lenL (SqL.of hq) ?_
    rw [hv.length]
    exact k
theorem sclHas : FnScope ["self", "x"] ["self", "x"] (defScope slHas) := ⟨rfl, rfl, rfl, by decide +kernel, rfl, by decide +kernel, by decide +kernel⟩
theorem ok_has (F : Fun K "__contains__" "Order.__contains__" slHas f fd) (O : OwnC K C) (nS : NoAttr K C "sequence") (DT : Df P w K mg base CX0 "is_two" 2 ["value"] (spTwoD K)) : FnOk P w K mg base CX0 3 f fd ["self", "x"] (spHasO C) := by
  refine F.ok sclHas (fun vs H Q E h => ?_) (fun cdv A outer s H vs Q E hr h => ?_)
  · obtain ⟨p, r, x, dx, q, zs, y, z, rfl, _⟩ := h
    rfl
  · obtain ⟨p, r, x, dx, q, zs, y, z, rfl, X, hy, k⟩ := h
    refine ⟨_, (pss_one (ps_ret (pe_and (pe_df DT hr (by decide) (pa_cons (pv 1) pa_nil)) (pe_one (pe_cmpR (op_inP hr.units) (pv 1) (pe_fld (pv 0) rfl) (by rfl)))))), ?_⟩
    walk_at "rd"
    refine ⟨y, prD z, rfl, hy.dp, ?_⟩
    refine ⟨true, rfl, ifT rfl ?_⟩
    walk_at "rd"
    refine r_fldV rfl X.o O.cl nS one_fst ?_
    exact ⟨z, zs, hy.dp, X.l.dp, k⟩
theorem sclPrs : FnScope ["self"] ["self"] (defScope slPrs) := ⟨rfl, rfl, rfl, by decide +kernel, rfl, by decide +kernel, by decide +kernel⟩
theorem ok_prs (F : Fun K "pairs" "Order.pairs" slPrs f fd) (T : Bt mg) (O : OwnC K C) (nS : NoAttr K C "sequence") : FnOk P w K mg base CX0 1 f fd ["self"] (spPairsO C) := by
  refine F.ok sclPrs (fun vs H Q E h => ?_) (fun cdv A outer s H vs Q E hr h => ?_)
  · obtain ⟨p, x, dx, q, zs, vs, rfl, _⟩ := h
    rfl
  · obtain ⟨p, x, dx, q, zs, vs, rfl, X, hq, k⟩ := h
    refine ⟨_, (pss_one (ps_ret (pe_callTy cl_lst (by rfl) T.list (by decide +kernel) (pa_cons (pe_fld (pv 0) rfl) pa_nil)))), ?_⟩
    walk_at "rd"
    refine r_fldV rfl X.o O.cl nS one_fst ?_
    walk_at "rd"
    exact r_lstOf (SqL.of hq) k
end
theorem Gp.perm {zs ys : List Pr} (g : Gp zs) (p : ys.Perm zs) : Gp ys := ⟨p.nodup_iff.mpr g.nd, fun z h => g.rg z (p.mem_iff.mp h), by have := g.len; rw [p.length_eq]; exact this⟩
theorem Gp.take {zs : List Pr} (g : Gp zs) (n : Nat) : Gp (zs.take n) := ⟨g.nd.sublist (List.take_sublist n zs), fun z h => g.rg z (List.mem_of_mem_take h), by have := g.len; rw [List.length_take]; omega⟩
/-- an order is made of good pairs -/
theorem mk_or {K : PySem.W.Frag} {C CE p : Addr} {H1 : Hp} {x dx a : Addr} {zs : List Pr} {Q : Hp → Prop} {E : XK} (nx : H1 x = none) (nd : H1 dx = none) (ne : dx ≠ x) (hp : ∃ o, H1 p = some o) (la : PL p H1 a zs) (g : Gp zs)
    (k : ∀ (H' : Hp) (q : Addr), Same H1 H' → OrX p C H' x dx q zs → Q H') : spOrIF K C CE [.ref x, .ref a] (upd (upd H1 dx (.own x)) x (.ins C dx [])) (fun v H2 => v = .non ∧ Q H2) E := by
  obtain ⟨op, hp⟩ := hp
  have st : ∀ c o, H1 c = some o → c ≠ x ∧ (upd (upd H1 dx (.own x)) x (.ins C dx [])) c = some o := fun c o e => by
    have c1 : c ≠ x := fun z => by rw [z, nx] at e; cases e
    have c2 : c ≠ dx := fun z => by rw [z, nd] at e; cases e
    exact ⟨c1, by rw [upd_ne c1, upd_ne c2]; exact e⟩
  have sm : Same H1 (upd (upd H1 dx (.own x)) x (.ins C dx [])) := fun c o e => (st c o e).2
  refine ⟨p, x, dx, .ref a, rfl, upd_same, by rw [upd_ne ne, upd_same], ne, (fun z => by rw [z, hp] at nx; cases nx), ⟨op, sm _ _ hp⟩, .inl ⟨a, zs, rfl, la.same sm, g, fun H3 r nr X fr => ⟨rfl, ?_⟩⟩⟩
  exact k H3 r (fun c o e => by
    have := st c o e
    exact fr _ _ this.1 this.2) X
/-- a new order -/
def NewO (p C : Addr) (H H' : Hp) (x : Addr) (zs : List Pr) : Prop := Same H H' ∧ ∃ dx q, OrX p C H' x dx q zs
end Pk
set_option Elab.async false
set_option linter.all false
set_option maxRecDepth 100000
set_option maxHeartbeats 4000000
namespace Pk
open PySem L2
local macro_rules | `(tactic| walk_at "rd") => `(tactic| repeat (first
  | with_reducible refine r_seq ?_ | with_reducible refine r_nxt ?_ | with_reducible refine r_asg ?_ | with_reducible refine r_to ?_ | with_reducible refine r_ret ?_ | with_reducible refine r_for ?_ | with_reducible refine r_lc ?_ | with_reducible refine r_lc2 ?_ | with_reducible refine r_rng1 ?_ | with_reducible refine r_list ?_ | with_reducible refine r_tupI ?_ | with_reducible refine r_drop ?_ | with_reducible refine r_ifs ?_
  | with_reducible refine r_op ?_ | with_reducible refine r_c ?_ | with_reducible refine r_var rfl ?_ | with_reducible refine r_var (by assumption) ?_ | with_reducible refine r_I0 ?_ | with_reducible refine r_un ?_ | with_reducible refine r_U ?_ | with_reducible refine r_make ?_ | with_reducible refine r_makeS ?_ | with_reducible refine r_ifE ?_ | with_reducible refine r_cm ?_ | with_reducible refine r_mkV rfl ?_ | with_reducible refine r_sub ?_
  | with_reducible refine r_nil ?_ | with_reducible refine r_cons ?_ | with_reducible refine r_cb ?_ | with_reducible refine r_sl ?_ | with_reducible refine r_noP ?_ | with_reducible refine r_part ?_ | with_reducible refine r_isI ?_ | with_reducible refine r_lst ?_ | with_reducible refine r_tup ?_ | with_reducible refine r_call ?_ | with_reducible refine r_callS ?_ | with_reducible refine r_sFldU ?_ | with_reducible refine r_chain ?_ | with_reducible refine r_enum ?_ | with_reducible refine r_zip ?_ | with_reducible refine r_rng3 ?_ | with_reducible refine r_gtup ?_ | with_reducible refine r_methU ?_
  | with_reducible refine r_test ?_ | with_reducible refine r_B ?_ | with_reducible refine r_and ?_ | with_reducible refine r_or ?_ | with_reducible refine r_not ?_ | with_reducible refine r_andV ?_ | with_reducible refine r_orV ?_ | with_reducible refine r_notV ?_ | with_reducible refine r_bl ?_ | with_reducible refine r_yes ?_ | with_reducible refine r_int ?_ | with_reducible refine r_is0 ?_ | with_reducible refine r_is1 ?_ | with_reducible refine iteT ?_ | with_reducible refine iteF ?_ | with_reducible refine ite_nF ?_ | with_reducible refine ite_nT ?_
  | with_reducible refine r_mod (by decide) ?_ | with_reducible refine r_div (by decide) (by decide) ?_ | with_reducible refine r_mulR (by decide) (by decide) ?_ | with_reducible refine r_mulL (by decide) (by decide) ?_ | with_reducible refine r_pow (by decide) (by decide) (by decide) ?_))
theorem cells_nat {R : Rw} {z : Pr} (h : z ∈ cells R) : ∃ i j : Nat, z = ((i : Int), (j : Int)) ∧ i < R.length ∧ j < wd R ∧ (prc R i j).isSome = true := by
  unfold cells at h
  rw [List.mem_flatMap] at h
  obtain ⟨i, hi, h⟩ := h
  obtain ⟨j, hj, rfl⟩ := List.mem_map.mp h
  rw [List.mem_filter, List.mem_range] at hj
  exact ⟨i, j, rfl, List.mem_range.mp hi, hj.1, hj.2⟩
theorem cells_len {R : Rw} (g : Gt R) : (cells R).length ≤ 64 := by
  have h1 := cpre_len R R.length
  have h2 : R.length * wd R ≤ 8 * 8 := Nat.mul_le_mul g.h8 g.w8
  exact Nat.le_trans h1 h2
theorem crow_nodup (R : Rw) (i n : Nat) : (crow R i n).Nodup := by
  unfold crow
  refine List.Pairwise.map _ ?_ (List.Pairwise.filter _ List.nodup_range)
  intro a b n e
  have := (Prod.mk.inj e).2
  omega
theorem cells_nodup (R : Rw) : (cells R).Nodup := by
  have : ∀ n, (cpre R n).Nodup := by
    intro n
    induction n with
    | zero => exact List.nodup_nil
    | succ n ih =>
      rw [cpre_more, List.nodup_append]
      refine ⟨ih, crow_nodup R n _, fun a ha b hb e => ?_⟩
      subst e
      unfold cpre at ha
      rw [List.mem_flatMap] at ha
      obtain ⟨i, hi, h⟩ := ha
      unfold crow at h hb
      obtain ⟨j, _, rfl⟩ := List.mem_map.mp h
      obtain ⟨j', _, e2⟩ := List.mem_map.mp hb
      have := (Prod.mk.inj e2).1
      have := List.mem_range.mp hi
      omega
  exact this R.length
/-! ### orders beside a table; check_order, refusing -/
/-- an order of a table's pairs, beside the table -/
structure OrG (p C CO : Addr) (H : Hp) (x a : Addr) (G : Hp) (R : Rw) (zs : List Pr) : Prop where
  t : TbX C G x R
  s : Same G H
  off : G p = none
  pp : ∃ o, H p = some o
  o : ∃ dx q, OrX p CO H a dx q zs
  pm : zs.Perm (cells R)
theorem OrG.same {p C CO : Addr} {H H' : Hp} {x a : Addr} {G : Hp} {R : Rw} {zs : List Pr} (h : OrG p C CO H x a G R zs) (s : Same H H') : OrG p C CO H' x a G R zs :=
  ⟨h.t, h.s.trans s, h.off, by obtain ⟨o, ho⟩ := h.pp; exact ⟨o, s _ _ ho⟩, by obtain ⟨dx, q, X⟩ := h.o; exact ⟨dx, q, X.same s⟩, h.pm⟩
/-- an order beside a table, right or wrong -/
structure OrW (p C CO : Addr) (H : Hp) (x a : Addr) (G : Hp) (R : Rw) (zs : List Pr) : Prop where
  t : TbX C G x R
  s : Same G H
  off : G p = none
  pp : ∃ o, H p = some o
  o : ∃ dx q, OrX p CO H a dx q zs
  l64 : zs.length ≤ 64
theorem OrW.same {p C CO : Addr} {H H' : Hp} {x a : Addr} {G : Hp} {R : Rw} {zs : List Pr} (h : OrW p C CO H x a G R zs) (s : Same H H') : OrW p C CO H' x a G R zs :=
  ⟨h.t, h.s.trans s, h.off, by obtain ⟨o, ho⟩ := h.pp; exact ⟨o, s _ _ ho⟩, by obtain ⟨dx, q, X⟩ := h.o; exact ⟨dx, q, X.same s⟩, h.l64⟩
theorem OrG.w {p C CO : Addr} {H : Hp} {x a : Addr} {G : Hp} {R : Rw} {zs : List Pr} (h : OrG p C CO H x a G R zs) : OrW p C CO H x a G R zs := ⟨h.t, h.s, h.off, h.pp, h.o, by rw [h.pm.length_eq]; exact cells_len h.t.g⟩
def BadO (R : Rw) (zs : List Pr) : Prop := zs.length ≠ (cells R).length ∨ ∃ z, z ∈ cells R ∧ z ∉ zs
def spChOX (C CO CEO : Addr) : Sp := fun vs H Q E => ∃ (p x a : Addr) (G : Hp) (R : Rw) (zs : List Pr), vs = [.ref x, .ref a] ∧ OrW p C CO H x a G R zs ∧ ((zs.Perm (cells R) ∧ ∀ H' : Hp, Same H H' → Q .non H') ∨
  (BadO R zs ∧ ∀ (dd : Addr) (H' : Hp), Same H H' → H dd = none → H' dd = some (.xd [("at", .int (-1))]) → E (.ref CEO) (some dd) H'))
abbrev slChO : Stmt := top 17
section
variable {P : Program} {w : World} {K : PySem.W.Frag} {mg : Str → Option Value} {base : Heap} {C CO CEO CB f aK : Addr} {fd : FuncData}
theorem sclChO : FnScope ["table", "order", "pair"] ["table", "order"] (defScope slChO) := ⟨rfl, rfl, rfl, by decide +kernel, rfl, by decide +kernel, by decide +kernel⟩
theorem ok_chOX {fL fh fT fQ : Addr} {fdL fdh fdT fdQ : FuncData} (F : Fun K "check_order" "check_order" slChO f fd) (T : Bt mg) (tall : mg "all" = none) (A : TbC K C) (O : OwnC K CO) (gO : mg "Order" = some (.ref CO))
    (mL : Meth K CO "__len__" fL) (oL : FnOk P w K mg base CX0 1 fL fdL ["self"] (spLenO CO)) (bL : Binds K fdL ["self"] [])
    (mH : Meth K CO "__contains__" fh) (oH : FnOk P w K mg base CX0 3 fh fdh ["self", "x"] (spHasO CO)) (bH : Binds K fdh ["self", "x"] [])
    (mT : Meth K C "__len__" fT) (oT : FnOk P w K mg base CX0 1 fT fdT ["self"] (spTLen C)) (bT : Binds K fdT ["self"] [])
    (mQ : Meth K C "pairs" fQ) (oQ : FnOk P w K mg base CX0 1 fQ fdQ ["self"] (spTPrs C)) (bQ : Binds K fdQ ["self"] []) (EO : De P w K mg base "InvalidOrder" 3 (spErr1 K 1 CEO "at") CEO) :
    FnOk P w K mg base (L2.CX P w) 6 f fd ["table", "order"] (spChOX C CO CEO) := by
  refine F.okX sclChO (fun vs H Q E h => ?_) (fun cdv A' outer s H vs Q E hr h => ?_)
  · obtain ⟨p, x, a, G, R, zs, rfl, _⟩ := h
    rfl
  · obtain ⟨p, x, a, G, R, zs, rfl, L, k⟩ := h
    have hr1 := hr.mono (show 1 ≤ 5 by decide)
    have hr2 := hr.mono (show 2 ≤ 5 by decide)
    have hr3 := hr.mono (show 3 ≤ 5 by decide)
    obtain ⟨g, dx, e0, u0, es, ho, hl, hpl⟩ := id L.t
    obtain ⟨adx, q0, X⟩ := id L.o
    have c64 := cells_len g
    refine ⟨_, (pss_cons (ps_if (PW.pt (pw_or (pt_not (pt_val (pe_callB call_isi (by rfl) T.isinstance (by decide +kernel) (pa_cons (pv 1) (pa_cons (pe_glob (v := .ref CO) (by rfl) gO rfl) pa_nil))))) (pw_or1 (pt_cmpR op_ne (pe_callB (call_lenOwn (D := E0) ⟨fL, fdL, _, mL, oL, bL⟩ hr2 pass0) (by rfl) T.len PySem.boot_len (pa_cons (pv 1) pa_nil)) (pe_callB (call_lenOwn (D := E0) ⟨fT, fdT, _, mT, oT, bT⟩ hr2 pass0) (by rfl) T.len PySem.boot_len (pa_cons (pv 0) pa_nil)) (nomark _))))) (pss_one (ps_rse rfl (takes_of rfl rfl rfl rfl) EO hr (by decide) (pa_cons (pe_un un_neg pe_int) pa_nil))) pss_nil)
  (pss_one (ps_if (pt_not (pt_val (pe_callB (cr_all rfl) (by rfl) tall (by decide +kernel) (pa_cons (pe_lc (own := [("pair", 2)]) (g := gName 2) rfl sclChO.nd (pi_list (pe_meth0 (pv 0) A.O.cl mQ oQ hr1 bQ .nil pass0)) (blkOk_by (own := [("pair", 2)]) (N := ["table", "order", "pair"]) (sc := defScope slChO) (by decide +kernel)) (fun _ _ _ _ _ => pg_name (i := 2) sclChO.nd rfl (Or.inl rfl)) (fun _ _ _ _ _ => pts_nil) (te := tOp2 (rOwnIn CO (spHasO CO) false) (fun _ => E0) (tVar 2) (tVar 1)) (fun _ _ _ _ _ => (pe_inOwn (E := fun _ => E0) ⟨fh, fdh, _, mH, oH, bH⟩ hr3 (passN pass0) (pv 2) (pv 1) (by rfl)))) pa_nil)))) (pss_one (ps_rse rfl (takes_of rfl rfl rfl rfl) EO hr (by decide) (pa_cons (pe_un un_neg pe_int) pa_nil))) pss_nil))), ?_⟩
    walk_at "rd"
    refine r_isiSelf O X.o ?_
    walk_at "rd"
    refine r_ownLen X.o ⟨p, a, adx, q0, zs, rfl, X, _, rfl, by have := L.l64; omega, ?_⟩
    walk_at "rd"
    refine r_ownLen (L.s _ _ ho) ⟨x, G, R, rfl, L.t, L.s, _, rfl, by omega, ?_⟩
    walk_at "rd"
    refine r_ne rfl ?_
    walk_at "rd"
    by_cases le : zs.length = (cells R).length
    · refine ifF (by rw [le, decide_eq_true rfl]; rfl) ?_
      walk_at "rd"
      refine ⟨x, dx, _, rfl, L.s _ _ ho, two_no (by decide +kernel) (by decide +kernel), ?_⟩
      walk_at "rd"
      refine ⟨x, G, R, rfl, L.t, L.s, fun r2 vs2 nr2 hv2 => ?_⟩
      have s2 := Same.up (o := .lst vs2) (Same.refl H) nr2
      have hr2' : upd H r2 (.lst vs2) r2 = some (.lst vs2) := upd_same
      obtain ⟨H2, eH2⟩ : ∃ H2, H2 = upd H r2 (.lst vs2) := ⟨_, rfl⟩
      rw [← eH2] at s2 hr2' ⊢
      have vl := hv2.length
      refine ⟨r2, rfl, ⟨_, SqL.of hr2'⟩, fun D nD => lc_it walk_list (Out H2 D fun i => V.bl (decide ((cells R).getD i (0, 0) ∈ zs))) (Out.start nD) (fun i H1 _ o => SqL.of (o.1 _ _ hr2')) ?_ ?_⟩
      · rintro i y H1 H3 hi o ⟨rfl, e1⟩
        obtain ⟨z, ez, pz⟩ := hv2.at e1
        have X3 := X.same (s2.trans o.1)
        walk_at "rd"
        refine ⟨rfl, ?_⟩
        walk_at "rd"
        refine r_op2 ?_
        walk_at "rd"
        refine r_ownIn X3.o ⟨p, x, a, adx, q0, zs, y, z, rfl, X3, pz.keep (Keep.same (L.s.trans (s2.trans o.1))), _, rfl, ?_⟩
        have e2 : V.bl (decide (z ∈ zs)) = (fun i => V.bl (decide ((cells R).getD i (0, 0) ∈ zs))) i := by
          show _ = V.bl (decide ((cells R).getD i (0, 0) ∈ zs))
          rw [List.getD_eq_getElem?_getD, ez]
          rfl
        rw [e2]
        exact o.more nD (Same.refl _) (Nat.lt_of_lt_of_le (show i < 65 by omega) (by decide))
      · rintro H1 ⟨s1, hD⟩
        have s12 := s2.trans s1
        walk_at "rd"
        refine ⟨D, (cells R).map fun z => decide (z ∈ zs), rfl, SqL.of (hD.trans ?_), ?_⟩
        · congr 2
          apply List.ext_getElem
          · simp [vl]
          · intro n h1 h2
            have hn : n < (cells R).length := by simpa using h2
            simp [List.getElem?_eq_getElem hn]
        · walk_at "rd"
          rcases k with ⟨pm, k⟩ | ⟨bad, k⟩
          · refine ifF ?_ ?_
            · have : ((cells R).map fun z => decide (z ∈ zs)).all id = true := by
                rw [List.all_map, List.all_eq_true]
                intro z hz
                exact decide_eq_true (pm.mem_iff.mpr hz)
              rw [this]; rfl
            · walk_at "rd"
              exact k H1 s12
          · refine ifT ?_ ?_
            · have : ((cells R).map fun z => decide (z ∈ zs)).all id = false := by
                rcases bad with b | ⟨z, hz, nz⟩
                · exact absurd le b
                · rw [List.all_map, List.all_eq_false]
                  exact ⟨z, hz, by show ¬ (decide (z ∈ zs)) = true; rw [decide_eq_false nz]; decide⟩
              rw [this]; rfl
            · walk_at "rd"
              refine r_mkErr ?_
              walk_at "rd"
              refine r_err1 (σ := []) (.int _) (.int _) fun dd v' H' s3 h1 h2 o1 => ?_
              cases o1
              exact k dd H' (s12.trans s3) (s12.free h1) h2
    · refine ifT (by rw [decide_eq_false (fun z => le (by have := V.int.inj z; omega))]; rfl) ?_
      rcases k with ⟨pm, k⟩ | ⟨bad, k⟩
      · exact absurd pm.length_eq le
      · walk_at "rd"
        refine r_mkErr ?_
        walk_at "rd"
        refine r_err1 (σ := []) (.int _) (.int _) fun dd v' H' s3 h1 h2 o1 => ?_
        cases o1
        exact k dd H' s3 h1 h2
end
end Pk
set_option Elab.async false
set_option linter.all false
set_option maxRecDepth 100000
set_option maxHeartbeats 2000000
/-! A dict comprehension whose keys are tuples. -/
namespace Pk
open PySem L2 PySem.Spec PyProof.Rows
/-- an entry is stored under a tuple -/
def PutT (H : Hp) (D : Addr) (y z : V) (H' : Hp) : Prop := ∃ (kvs : List (List Key × V)) (k : List Key) (b : Addr), y = V.ref b ∧ H b = some (.tup (k.map kV)) ∧ H D = some (.dT kvs) ∧ kvs.length < sizeLine ∧ H' = upd H D (.dT (putK kvs k z))
section
variable {X : Cx} {pn : List (Addr × Obj)} {τ : L2.St} {G G' : Hp} {sh : Shared} {D : Addr} {y z : V} {key val : Value} {Er : Value → Shared → Prop} {Qd : Unit → Shared → Prop}
theorem put_dictT (room : X.A.units + 64 < cLine) (J : Inv X pn τ G sh) (st : PutT G D y z G') (ry : RelV y key) (rz : RelV z val)
    (want : ∀ s', Inv X pn τ G' s' → Qd () s') : wpAny (model X.prog X.w) X.A (dictSet D key val) Qd Er sh := by
  obtain ⟨kvs, k, b, rfl, atb, atD, short, rfl⟩ := st
  cases (show key = Value.ref b from ry)
  obtain ⟨line, notSys, entries, rel, isD⟩ := dt_of J.hok atD
  have fits : entries.length ≤ sizeLine := by rw [← Paired.length rel]; exact line
  have after : (putK kvs k z).length ≤ sizeLine := by have := length_putK kvs k z; omega
  refine wpAny_dictSet_heap (hsz := fits) (show X.A.units < cLine by omega) (key_of J.hok atb) isD fun h' isD' but => want _ ?_
  obtain ⟨o, es, ep, ho, p2, p3, p4, _, p5⟩ := isD'
  refine d_write J (by rw [atD]; exact True.intro) but ⟨o, ho⟩ ⟨after, notSys, _, (rel.put k atb rz).keeps fun c ys ec => ?_, o, es, ep, ho, p2, p3, p4, p5⟩
  rw [upd_ne (ne_of ec atD (fun q => nomatch q))]
  exact ec
end
/-- what {k: v for target in iter if ..} asks, the keys tuples -/
def tDcT (wi : TI) (g : TG) (tt : TT) (tk tv : TE) (vs : List Nat) : TE := fun σ H Q => wi σ H fun J H1 => ∀ D, H1 D = none →
  ∃ W : Nat → Nat → Hp → Prop, (∃ m, W 0 m (upd H1 D (.dT []))) ∧ ∀ i m H, W i m H →
    (J.stop i H ∧ Q (.ref D) H) ∨
    (J.go i H ∧ ∃ Nx : Hp → Prop, (∀ H', Nx H' → ∃ m', m' < m ∧ W (i + 1) m' H') ∧
      ∀ x H', J.yld i H x H' → g x (wipe σ vs) H' fun σ2 H2 => wipe σ2 vs = wipe σ vs ∧
        tt σ2 H2 fun b H3 => if b = true then tk σ2 H3 fun y H4 => tv σ2 H4 fun z H5 => ∃ H6, PutT H5 D y z H6 ∧ Nx H6 else Nx H3)
section
variable {X : Cx}
theorem pe_dcT {kx vx tg iter : Expr} {ifs : List Expr} {scope : Scope} {own : List (Str × Nat)} {pos : Pos} {wi : TI} {g : TG} {tt : TT} {tk tv : TE}
    (room : X.A.units + 64 < cLine) (hc : X.calm = true) (hN : X.N.Nodup) (hi : PI X tg iter wi) (ok : BlkOk X.N X.env.scope scope own)
    (hg : ∀ (s : Shared) (H : Hp) (C : Addr) (cl : List (Str × Addr)) (fp : List Addr),
      PG (X.blk s H scope (compEnvC scope cl C X.env) fp) tg g)
    (ht : ∀ (s : Shared) (H : Hp) (C : Addr) (cl : List (Str × Addr)) (fp : List Addr),
      PTs (X.blk s H scope (compEnvC scope cl C X.env) fp) ifs tt)
    (hk : ∀ (s : Shared) (H : Hp) (C : Addr) (cl : List (Str × Addr)) (fp : List Addr),
      PE (X.blk s H scope (compEnvC scope cl C X.env) fp) kx tk)
    (he : ∀ (s : Shared) (H : Hp) (C : Addr) (cl : List (Str × Addr)) (fp : List Addr),
      PE (X.blk s H scope (compEnvC scope cl C X.env) fp) vx tv)
    (fold : ∀ x, foldedSetIterable iter X.env x = pure x := by intro _; rfl) :
    PE X (.DictComp kx vx [⟨tg, iter, ifs, 0⟩] scope pos) (tDcT wi g tt tk tv (own.map (·.2))) := by
  refine ⟨fun pn sh τ G Q J want => ?_⟩
  rw [arm_eval_DictComp]
  have cells : ∀ y ∈ scope.names, y.2 = .free → ∃ c, X.env.cells.lookup y.1 = some c := fun y hy e =>
    (ok.free y hy e).elim (fun k => J.ok.has _ (.inl k)) (fun k => J.ok.has _ (.inr k))
  refine wpAny_comprehension_free rfl fold (closure_ok cells) ok.kind (fun y hy e => by rw [ok.uniq y hy, e]) ?_
  refine thn (hi.run pn sh τ G _ J want) fun src s1 begun => thn begun fun itv s2 begun2 => ?_
  obtain ⟨it, fp, turns, walk, G2, rfl, J2, T, at0, fps, q⟩ := begun2
  refine wpAny_newObj_type (newEnv_comp ?_)
  obtain ⟨D, eD⟩ : ∃ D, D = s2.heap.objs.size := ⟨_, rfl⟩
  have newD : G2 D = none := J2.hok.fresh (Nat.le_of_eq eD.symm)
  obtain ⟨W, ⟨m0, w0⟩, turn⟩ := q D newD
  obtain ⟨s3, es3⟩ : ∃ s3 : Shared, s3 = { s2 with heap := s2.heap.push { cls := .type "dict", data := .dict #[] } } := ⟨_, rfl⟩
  have heap3 : s3.heap = s2.heap.push { cls := .type "dict", data := .dict #[] } := by rw [es3]
  have J3 : Inv X pn τ (upd G2 D (.dT [])) s3 := by
    rw [es3]
    refine J2.laid (t' := s2.toks) (fun b o e => Heap.get?_push_of_some _ e) (Nat.le_of_eq eD.symm) ?_
    rw [eD]
    exact dt_empty s2.heap J2.big
  have below : ∀ b ∈ fp, b < s2.heap.objs.size := fun b hb => (T.obj _ _ at0 b hb).elim fun o e => Heap.lt_size e.1
  have fps3 : ∀ b ∈ fp, FpOk X pn (upd G2 D (.dT [])) b ∧ b < s3.heap.objs.size := fun b hb => by
    have lt := below b hb
    refine ⟨⟨?_, (fps b hb).2⟩, by rw [heap3, Heap.size_push]; exact Nat.lt_succ_of_lt lt⟩
    rw [upd_ne (by rw [eD]; exact Nat.ne_of_lt lt)]
    exact (fps b hb).1
  have at3 : turns 0 s3.heap := T.keep _ _ _ at0 fun b _ o e => by rw [heap3]; exact Heap.get?_push_of_some _ e
  have J4 := block_start J3 ok hN fps3
  -- the block's frame and its parts
  obtain ⟨cl, ecl⟩ : ∃ cl, cl = cellsFrom (s3.heap.objs.size + 1) scope.names (cloFrom X.env.cells scope.names []) := ⟨_, rfl⟩
  obtain ⟨G3, eG3⟩ : ∃ G3, G3 = upd G2 D (.dT []) := ⟨_, rfl⟩
  rw [← ecl, ← eG3] at J4
  rw [← eG3] at J3 w0 fps3
  have target := hg s3 G3 s3.heap.objs.size cl fp
  have tests := ht s3 G3 s3.heap.objs.size cl fp
  have keys := hk s3 G3 s3.heap.objs.size cl fp
  have values := he s3 G3 s3.heap.objs.size cl fp
  obtain ⟨s4, es4⟩ : ∃ s4 : Shared, s4 = { s3 with heap := pushCells (s3.heap.push { cls := .type "dict", data := .dict #[] }) scope.names } := ⟨_, rfl⟩
  rw [← es4] at J4
  have at4 : turns 0 s4.heap := T.keep _ _ _ at3 fun b _ o e => by rw [es4]; exact pushCells_keeps _ _ _ _ (Heap.get?_push_of_some _ e)
  obtain ⟨ce, ece⟩ : ∃ ce, ce = compEnvC scope cl s3.heap.objs.size X.env := ⟨_, rfl⟩
  have frame : ce.locals = s3.heap.objs.size := by rw [ece]; rfl
  rw [← ece] at J4 target tests keys values
  have still : ∀ {σ' : L2.St} {H' : Hp} {s' : Shared}, Inv (X.blk s3 G3 scope ce fp) [] σ' H' s' → (∀ b ∈ fp, H' b = none) →
      ∀ b ∈ fp, FpOk (X.blk s3 G3 scope ce fp) [] H' b := fun {σ' H' s'} J' off b hb =>
    ⟨off b hb, (J'.ok.exf b hb).1, J'.ok.exfs b hb, .inl hb, fun x c e => (J'.ok.exf b hb).2 x c e, fun p hp => absurd (show p ∈ ([] : List (Addr × Obj)) ++ [] from hp) (by simp)⟩
  have stopsAt : ∀ {s' : Shared} {m : PySem.Str → Option Value} {H' : Hp}, Inv X pn τ H' s' → Q (.ref D) H' → s'.heap.Ns ce.locals m → FpOk X pn H' ce.locals →
      compPost (model X.prog X.w) X.A X.xe none (EP X pn τ Q) (.ref D) ce.locals (.ok .next) s' := fun {s' m H'} J' q' ns fpok => by
    refine ⟨m, ns, fun h'' sb => ?_⟩
    obtain ⟨a0, a1, a2, a3, a4, a5⟩ := fpok
    exact ⟨.ref D, H', J'.turned (t' := s'.toks) (fun b o hb e => (sb.2 b hb).trans e) a0 a1 a3 a4 a5, rfl, q'⟩
  suffices goes : codeAny (model X.prog X.w) X.A (.compLoop (.DictComp kx vx [⟨tg, iter, ifs, 0⟩] scope pos) 0 (.ref it) (.ref D) ce)
      (compPost (model X.prog X.w) X.A X.xe none (EP X pn τ Q) (.ref D) ce.locals) s4 by
    have := codeAny_compStart_dict goes (T.self X.A 0 _ _ _ at4 goes)
    subst ece ecl es4 es3 eD
    exact this
  refine compLoop_anyD (fun n s' => ∃ i H', Inv (X.blk s3 G3 scope ce fp) [] (wipe τ (own.map (·.2))) H' s' ∧ turns i s'.heap ∧ (∀ b ∈ fp, H' b = none) ∧ W i n H') ?_ m0
    ⟨0, G3, J4, at4, (fun b hb => (fps3 b hb).1.1), w0⟩
  rintro n s5 ⟨i, G5, J5, at5, off5, w5⟩
  rcases turn i n G5 w5 with ⟨stop, here⟩ | ⟨go, Nx, less, step⟩
  · refine thnF (T.done (X.blk s3 G3 scope ce fp) rfl rfl rfl hc i [] s5 _ G5 (fun _ _ => False) J5 (still J5 off5) at5 stop) fun r s6 ended => ?_
    obtain ⟨rfl, J6⟩ := ended
    have J7 : Inv X pn τ G5 s6 := J3.call' (ch := fp) J6.os J6.base J6.hok J6.bare fun b hb =>
      ⟨(fps3 b hb).1.2.2.2.1, (fps3 b hb).1.2.1, (fps3 b hb).1.2.2.2.2.1, (fps3 b hb).1.2.2.2.2.2⟩
    obtain ⟨m, names, _⟩ := J6.loc
    refine stopsAt J7 here names ?_
    have free : G5 ce.locals = none := J6.free
    rw [frame] at free ⊢
    exact J3.fpOk (Nat.le_refl _) free
  · refine thnF (T.item (X.blk s3 G3 scope ce fp) rfl rfl rfl hc i [] s5 _ G5 (fun _ _ => False) J5 (still J5 off5) at5 go) fun r s6 got => ?_
    obtain ⟨u, rfl, got⟩ := got
    refine thnF got fun _ s7 had => ?_
    obtain ⟨x, G7, J7, rx, yx, at7, off7⟩ := had
    have J7' := J7.pinned (still J7 off7) (T.obj _ _ at7)
    refine thnF (target.run _ s7 _ G7 x u _ J7' rx (step x G7 yx)) fun _ s8 named => ?_
    obtain ⟨τ8, G8, J8, same8, q8⟩ := named
    refine thnF (tests.run _ s8 τ8 G8 _ J8 q8) fun b s9 told => ?_
    obtain ⟨G9, J9, q9⟩ := told
    have next : ∀ {s' : Shared} {H' : Hp}, Inv (X.blk s3 G3 scope ce fp) ([] ++ pinsAt fp s7.heap) τ8 H' s' → Nx H' →
        ∃ m, m < n ∧ ∃ i H', Inv (X.blk s3 G3 scope ce fp) [] (wipe τ (own.map (·.2))) H' s' ∧ turns i s'.heap ∧ (∀ b ∈ fp, H' b = none) ∧ W i m H' := fun {s' H'} J' nx => by
      obtain ⟨m', lt, w'⟩ := less H' nx
      have kept : ∀ b ∈ fp, ∀ o, s7.heap.get? b = some o → s'.heap.get? b = some o ∧ H' b = none := fun b hb o e => by
        have pin := J'.pin (b, o) (List.mem_append_right _ (List.mem_append_right _ (mem_pinsAt hb e)))
        exact ⟨pin.1, pin.2.1⟩
      refine ⟨m', lt, i + 1, H', (J'.unpinned (pins := [])).weak (by rw [← same8, wipe_length]) (fun j v e => ?_), T.keep _ _ _ at7 fun b hb o e => (kept b hb o e).1, fun b hb => ?_, w'⟩
      · rw [← same8] at e
        exact (wipe_some e).1
      · obtain ⟨o, e, _⟩ := T.obj _ _ at7 b hb
        exact (kept b hb o e).2
    cases b with
    | false =>
      rw [if_neg Bool.false_ne_true] at q9 ⊢
      exact next J9 q9
    | true =>
      rw [if_pos rfl] at q9 ⊢
      refine thnF (keys.run _ s9 τ8 G9 _ J9 q9) fun kv s10 keyed => ?_
      obtain ⟨yk, G10, J10, rk, q10⟩ := keyed
      refine thnF (values.run _ s10 τ8 G10 _ J10 q10) fun vv s11 valued => ?_
      obtain ⟨yv, G11, J11, rv, G12, put, nx⟩ := valued
      exact put_dictT (X := X.blk s3 G3 scope ce fp) room J11 put rk rv fun s12 J12 => next J12 nx
end
end Pk
set_option Elab.async false
set_option linter.all false
set_option maxRecDepth 100000
set_option maxHeartbeats 4000000
namespace Pk
open PySem L2
local macro_rules | `(tactic| walk_at "rd") => `(tactic| repeat (first
  | with_reducible refine r_seq ?_ | with_reducible refine r_nxt ?_ | with_reducible refine r_asg ?_ | with_reducible refine r_to ?_ | with_reducible refine r_ret ?_ | with_reducible refine r_for ?_ | with_reducible refine r_lc ?_ | with_reducible refine r_lc2 ?_ | with_reducible refine r_rng1 ?_ | with_reducible refine r_list ?_ | with_reducible refine r_tupI ?_ | with_reducible refine r_drop ?_ | with_reducible refine r_ifs ?_
  | with_reducible refine r_op ?_ | with_reducible refine r_c ?_ | with_reducible refine r_var rfl ?_ | with_reducible refine r_var (by assumption) ?_ | with_reducible refine r_I0 ?_ | with_reducible refine r_un ?_ | with_reducible refine r_U ?_ | with_reducible refine r_make ?_ | with_reducible refine r_makeS ?_ | with_reducible refine r_ifE ?_ | with_reducible refine r_cm ?_ | with_reducible refine r_mkV rfl ?_ | with_reducible refine r_sub ?_
  | with_reducible refine r_nil ?_ | with_reducible refine r_cons ?_ | with_reducible refine r_cb ?_ | with_reducible refine r_sl ?_ | with_reducible refine r_noP ?_ | with_reducible refine r_part ?_ | with_reducible refine r_isI ?_ | with_reducible refine r_lst ?_ | with_reducible refine r_tup ?_ | with_reducible refine r_call ?_ | with_reducible refine r_callS ?_ | with_reducible refine r_sFldU ?_ | with_reducible refine r_chain ?_ | with_reducible refine r_enum ?_ | with_reducible refine r_zip ?_ | with_reducible refine r_rng3 ?_ | with_reducible refine r_gtup ?_ | with_reducible refine r_methU ?_
  | with_reducible refine r_test ?_ | with_reducible refine r_B ?_ | with_reducible refine r_and ?_ | with_reducible refine r_or ?_ | with_reducible refine r_not ?_ | with_reducible refine r_andV ?_ | with_reducible refine r_orV ?_ | with_reducible refine r_notV ?_ | with_reducible refine r_bl ?_ | with_reducible refine r_yes ?_ | with_reducible refine r_int ?_ | with_reducible refine r_is0 ?_ | with_reducible refine r_is1 ?_ | with_reducible refine iteT ?_ | with_reducible refine iteF ?_ | with_reducible refine ite_nF ?_ | with_reducible refine ite_nT ?_
  | with_reducible refine r_mod (by decide) ?_ | with_reducible refine r_div (by decide) (by decide) ?_ | with_reducible refine r_mulR (by decide) (by decide) ?_ | with_reducible refine r_mulL (by decide) (by decide) ?_ | with_reducible refine r_pow (by decide) (by decide) (by decide) ?_))
/-! ### the places of an order's pairs, in a dict -/
theorem pe_nev {X : Cx} {e : Expr} : PE X e (fun _ _ _ => False) := ⟨fun _ _ _ _ _ _ h => h.elim⟩
theorem r_par3p {i j l : Nat} {ta : TA} {D : Ends} {σ : L2.St} {H : Hp} (h : ta σ H fun vs H1 => ∃ u v w, vs = [u, v, w] ∧ D.nx (((σ.set i (some u)).set j (some v)).set l (some w)) H1) : tPar3 i j l ta D σ H := h
theorem dcT_it {J : It} {n : Nat} {G : Hp → Prop} {Y : Nat → Hp → V → Hp → Prop} (w : Walk J n G Y) {g : TG} {tt : TT} {tk tv : TE} {vs : List Nat} {σ : L2.St} {H1 : Hp} {D : Addr} {Qd : Hp → Prop} (Pv : Nat → Hp → Prop) (h0 : Pv 0 (upd H1 D (.dT []))) (hG : ∀ i H, i ≤ n → Pv i H → G H)
    (hs : ∀ i x H H', i < n → Pv i H → Y i H x H' → g x (wipe σ vs) H' fun σ2 H2 => wipe σ2 vs = wipe σ vs ∧ tt σ2 H2 fun b H3 =>
      if b = true then tk σ2 H3 fun y H4 => tv σ2 H4 fun z H5 => ∃ H6, PutT H5 D y z H6 ∧ Pv (i + 1) H6 else Pv (i + 1) H3) (hd : ∀ H, Pv n H → Qd H) :
    ∃ W : Nat → Nat → Hp → Prop, (∃ m, W 0 m (upd H1 D (.dT []))) ∧ ∀ i m H, W i m H →
      (J.stop i H ∧ Qd H) ∨ (J.go i H ∧ ∃ Nx : Hp → Prop, (∀ H', Nx H' → ∃ m', m' < m ∧ W (i + 1) m' H') ∧ ∀ x H', J.yld i H x H' → g x (wipe σ vs) H' fun σ2 H2 => wipe σ2 vs = wipe σ vs ∧ tt σ2 H2 fun b H3 =>
        if b = true then tk σ2 H3 fun y H4 => tv σ2 H4 fun z H5 => ∃ H6, PutT H5 D y z H6 ∧ Nx H6 else Nx H3) :=
  lc_any w (B := fun Nx x H' => g x (wipe σ vs) H' fun σ2 H2 => wipe σ2 vs = wipe σ vs ∧ tt σ2 H2 fun b H3 => if b = true then tk σ2 H3 fun y H4 => tv σ2 H4 fun z H5 => ∃ H6, PutT H5 D y z H6 ∧ Nx H6 else Nx H3) Pv h0 hG hs hd
/-- a dict that tells each pair's place -/
def PlD (H : Hp) (d : Addr) (zs : List Pr) : Prop := ∃ kvs : List (List Key × V), H d = some (.dT kvs) ∧ ∀ (k : Nat) (z : Pr), zs[k]? = some z → valV kvs [.inl z.1, .inl z.2] = some (.int (k : Int))
theorem PlD.same {H H' : Hp} {d : Addr} {zs : List Pr} (h : PlD H d zs) (s : Same H H') : PlD H' d zs := by
  obtain ⟨kvs, e, q⟩ := h
  exact ⟨kvs, s _ _ e, q⟩
theorem keyZ {x z : Pr} : ([Sum.inl x.1, Sum.inl x.2] : List Key) = [Sum.inl z.1, Sum.inl z.2] ↔ x = z := by
  constructor
  · intro h
    exact Prod.ext (Sum.inl.inj (List.cons.inj h).1) (Sum.inl.inj (List.cons.inj (List.cons.inj h).2).1)
  · rintro rfl; rfl
def spPlaces (CO : Addr) : Sp := fun vs H Q _ => ∃ (p a : Addr) (zs : List Pr), vs = [.ref a] ∧ (∃ dx q, OrX p CO H a dx q zs) ∧ zs.Nodup ∧ zs.length ≤ 64 ∧ ∀ (d : Addr) (H' : Hp), Same H H' → PlD H' d zs → Q (.ref d) H'
def spShare (K : PySem.W.Frag) : Sp := fun vs H Q _ => ∃ (p : Addr) (u v : V) (y z : Pr), vs = [u, v] ∧ PrAt p H u y ∧ PrAt p H v z ∧ Q (.bl (decide (y.1 = z.1) || decide (y.2 = z.2))) H
abbrev slPlaces : Stmt := top 21
abbrev slShare : Stmt := top 20
section
variable {P : Program} {w : World} {K : PySem.W.Frag} {mg : Str → Option Value} {base : Heap} {C CO CEO CB f aK : Addr} {fd : FuncData}
theorem sclPlaces : FnScope ["order", "k", "pair"] ["order"] (defScope slPlaces) := ⟨rfl, rfl, rfl, by decide +kernel, rfl, by decide +kernel, by decide +kernel⟩
theorem ok_places {fO : Addr} {fdO : FuncData} (F : Fun K "places_in" "places_in" slPlaces f fd) (T : Bt mg) (O : OwnC K CO) (mO : Meth K CO "pairs" fO) (oO : FnOk P w K mg base CX0 1 fO fdO ["self"] (spPairsO CO)) (bO : Binds K fdO ["self"] []) : FnOk P w K mg base CX0 2 f fd ["order"] (spPlaces CO) := by
  refine F.ok sclPlaces (fun vs H Q E h => ?_) (fun cdv A outer s H vs Q E hr h => ?_)
  · obtain ⟨p, a, zs, rfl, _⟩ := h
    rfl
  · obtain ⟨p, a, zs, rfl, ⟨dx, q, X⟩, nd, l64, kk⟩ := h
    have hr1 := hr.mono (show 1 ≤ 1 by decide)
    obtain ⟨nq, us, hq, hu⟩ := id X.l
    have ul := hu.length
    refine ⟨_, (pss_one (ps_ret (pe_dcT hr.units (own := [("k", 1), ("pair", 2)]) (g := gTup K 2 (gCons (gName 1) (gCons (gName 2) gNil))) (tt := tYes) (tk := tVar 2) (tv := tVar 1) rfl sclPlaces.nd (pi_enum (by rfl) T.enumerate (pa_cons (pe_meth0 (pv 0) O.cl mO oO hr1 bO .nil pass0) pa_nil)) (blkOk_by (own := [("k", 1), ("pair", 2)]) (N := ["order", "k", "pair"]) (sc := defScope slPlaces) (by decide +kernel))
      (fun _ _ _ _ _ => pg_tup (by rfl) (pgs_cons (pg_name (i := 1) sclPlaces.nd rfl (Or.inl rfl)) (pgs_cons (pg_name (i := 2) sclPlaces.nd rfl (Or.inl rfl)) pgs_nil))) (fun _ _ _ _ _ => pts_nil) (fun _ _ _ _ _ => pv 2) (fun _ _ _ _ _ => pv 1)))), ?_⟩
    refine r_ret ?_
    show tDcT _ _ _ _ _ _ _ _ _
    unfold tDcT
    walk_at "rd"
    refine ⟨a, dx, _, rfl, X.o, one_no (by decide +kernel), ?_⟩
    walk_at "rd"
    refine ⟨p, a, dx, q, zs, us, rfl, X, hq, fun r nr => ?_⟩
    have s1 := Same.up (o := .lst us) (Same.refl H) nr
    have hr1 : upd H r (.lst us) r = some (.lst us) := upd_same
    have hu1 := hu.keep (Keep.same s1)
    obtain ⟨H1, eH1⟩ : ∃ H1, H1 = upd H r (.lst us) := ⟨_, rfl⟩
    rw [← eH1] at s1 hr1 hu1 ⊢
    refine ⟨r, us, rfl, SqL.of hr1, fun D nD => dcT_it walk_enum (fun m H' => Same H1 H' ∧ ∃ kvs, H' D = some (.dT kvs) ∧ kvs.length ≤ m ∧ ∀ (k : Nat) (z : Pr), k < m → zs[k]? = some z → valV kvs [.inl z.1, .inl z.2] = some (.int (k : Int))) ⟨Same.up (Same.refl H1) nD, [], upd_same, Nat.le_refl _, fun k z hk => absurd hk (Nat.not_lt_zero _)⟩ (fun m H' _ z => SqL.of (z.1 _ _ hr1)) ?_ ?_⟩
    · rintro m y H2 H3 hm ⟨s2, kvs, hD, kl, hv⟩ ⟨t, i', y', rfl, ht, rfl, e1, e2⟩
      cases (Option.some.inj e1)
      have e2 : us[m]? = some y' := e2
      obtain ⟨z, ez, pz⟩ := hu1.at e2
      have s3' := Same.up (o := .tup [V.int (m : Int), y']) (Same.refl H2) ht
      have s3 := s2.trans s3'
      have hD3 := s3' _ _ hD
      refine r_gtup ⟨t, _, rfl, SqT.of upd_same, rfl, _, _, rfl, ?_⟩
      obtain ⟨H3, eH3⟩ : ∃ H3, H3 = upd H2 t (.tup [V.int (m : Int), y']) := ⟨_, rfl⟩
      rw [← eH3] at s3 hD3 ⊢
      obtain ⟨tz, rfl, tp, htz⟩ := pz.keep (Keep.same s3)
      walk_at "rd"
      refine ⟨_, _, rfl, ?_⟩
      walk_at "rd"
      refine ⟨rfl, ?_⟩
      walk_at "rd"
      refine ⟨rfl, ?_⟩
      walk_at "rd"
      refine ⟨_, ⟨kvs, [.inl z.1, .inl z.2], tz, rfl, htz, hD3, Nat.lt_of_le_of_lt (show kvs.length ≤ 64 by have : m < us.length := hm; omega) (by decide), rfl⟩, fun c o e => ?_, _, upd_same, ?_, fun k x hk ek => ?_⟩
      · rw [upd_ne (fun z => by rw [z, nD] at e; cases e)]
        exact s3 _ _ e
      · have := length_putK kvs [Sum.inl z.1, Sum.inl z.2] (V.int (m : Int))
        omega
      · rw [valV_put]
        by_cases d : x = z
        · rw [if_pos (keyZ.mpr d)]
          have : k = m := by
            subst d
            obtain ⟨h1, h2⟩ := List.getElem?_eq_some_iff.mp ek
            obtain ⟨h3, h4⟩ := List.getElem?_eq_some_iff.mp ez
            have pw := List.pairwise_iff_getElem.mp nd
            rcases Nat.lt_trichotomy k m with c | c | c
            · exact absurd (h2.trans h4.symm) (pw k m h1 h3 c)
            · exact c
            · exact absurd (h4.trans h2.symm) (pw m k h3 h1 c)
          rw [this]
        · rw [if_neg (fun q => d (keyZ.mp q))]
          have : k ≠ m := fun c => d (by rw [c, ez] at ek; exact (Option.some.inj ek).symm)
          exact hv k x (by omega) ek
    · rintro H2 ⟨s2, kvs, hD, kl, hv⟩
      exact kk D H2 (s1.trans s2) ⟨kvs, hD, fun k z ek => hv k z (by have := (List.getElem?_eq_some_iff.mp ek).1; omega) ek⟩
theorem sclShare : FnScope ["one", "other"] ["one", "other"] (defScope slShare) := ⟨rfl, rfl, rfl, by decide +kernel, rfl, by decide +kernel, by decide +kernel⟩
theorem ok_share (F : Fun K "share_line" "share_line" slShare f fd) : FnOk P w K mg base CX0 1 f fd ["one", "other"] (spShare K) := by
  refine F.ok sclShare (fun vs H Q E h => ?_) (fun cdv A outer s H vs Q E hr h => ?_)
  · obtain ⟨p, u, v, y, z, rfl, _⟩ := h
    rfl
  · obtain ⟨p, u, v, y, z, rfl, ⟨t1, rfl, _, h1⟩, ⟨t2, rfl, _, h2⟩, kk⟩ := h
    refine ⟨_, (pss_one (ps_ret (pe_or (pe_cmpR op_eq (pe_ix ix_tup (pv 0) pe_int (fun _ _ => rfl)) (pe_ix ix_tup (pv 1) pe_int (fun _ _ => rfl)) (nomark _)) (pe_one (pe_cmpR op_eq (pe_ix ix_tup (pv 0) pe_int (fun _ _ => rfl)) (pe_ix ix_tup (pv 1) pe_int (fun _ _ => rfl)) (nomark _)))))), ?_⟩
    have dI : ∀ a b : Int, decide (V.int a = V.int b) = decide (a = b) := fun a b => decide_eq_decide.mpr ⟨V.int.inj, fun h => by rw [h]⟩
    walk_at "rd"
    refine r_ixT (SqT.of h1) (atI_nat (j := 0) rfl) ?_
    walk_at "rd"
    refine r_ixT (SqT.of h2) (atI_nat (j := 0) rfl) ?_
    refine r_eq rfl ?_
    rw [dI]
    walk_at "rd"
    by_cases c : y.1 = z.1
    · refine ifT (decide_eq_true c) ?_
      rw [decide_eq_true c, Bool.true_or] at kk
      exact kk
    · refine ifF (decide_eq_false c) ?_
      rw [decide_eq_false c, Bool.false_or] at kk
      walk_at "rd"
      refine r_ixT (SqT.of h1) (atI_nat (j := 1) rfl) ?_
      walk_at "rd"
      refine r_ixT (SqT.of h2) (atI_nat (j := 1) rfl) ?_
      refine r_eq rfl ?_
      rw [dI]
      exact kk
end
end Pk
set_option Elab.async false
set_option linter.all false
set_option maxRecDepth 100000
set_option maxHeartbeats 4000000
namespace Pk
open PySem L2
local macro_rules | `(tactic| walk_at "rd") => `(tactic| repeat (first
  | with_reducible refine r_seq ?_ | with_reducible refine r_nxt ?_ | with_reducible refine r_asg ?_ | with_reducible refine r_to ?_ | with_reducible refine r_ret ?_ | with_reducible refine r_for ?_ | with_reducible refine r_lc ?_ | with_reducible refine r_lc2 ?_ | with_reducible refine r_rng1 ?_ | with_reducible refine r_list ?_ | with_reducible refine r_tupI ?_ | with_reducible refine r_drop ?_ | with_reducible refine r_ifs ?_
  | with_reducible refine r_op ?_ | with_reducible refine r_c ?_ | with_reducible refine r_var rfl ?_ | with_reducible refine r_var (by assumption) ?_ | with_reducible refine r_I0 ?_ | with_reducible refine r_un ?_ | with_reducible refine r_U ?_ | with_reducible refine r_make ?_ | with_reducible refine r_makeS ?_ | with_reducible refine r_ifE ?_ | with_reducible refine r_cm ?_ | with_reducible refine r_mkV rfl ?_ | with_reducible refine r_sub ?_
  | with_reducible refine r_nil ?_ | with_reducible refine r_cons ?_ | with_reducible refine r_cb ?_ | with_reducible refine r_sl ?_ | with_reducible refine r_noP ?_ | with_reducible refine r_part ?_ | with_reducible refine r_isI ?_ | with_reducible refine r_lst ?_ | with_reducible refine r_tup ?_ | with_reducible refine r_call ?_ | with_reducible refine r_callS ?_ | with_reducible refine r_sFldU ?_ | with_reducible refine r_chain ?_ | with_reducible refine r_enum ?_ | with_reducible refine r_zip ?_ | with_reducible refine r_rng3 ?_ | with_reducible refine r_gtup ?_ | with_reducible refine r_methU ?_
  | with_reducible refine r_test ?_ | with_reducible refine r_B ?_ | with_reducible refine r_and ?_ | with_reducible refine r_or ?_ | with_reducible refine r_not ?_ | with_reducible refine r_andV ?_ | with_reducible refine r_orV ?_ | with_reducible refine r_notV ?_ | with_reducible refine r_bl ?_ | with_reducible refine r_yes ?_ | with_reducible refine r_int ?_ | with_reducible refine r_is0 ?_ | with_reducible refine r_is1 ?_ | with_reducible refine iteT ?_ | with_reducible refine iteF ?_ | with_reducible refine ite_nF ?_ | with_reducible refine ite_nT ?_
  | with_reducible refine r_mod (by decide) ?_ | with_reducible refine r_div (by decide) (by decide) ?_ | with_reducible refine r_mulR (by decide) (by decide) ?_ | with_reducible refine r_mulL (by decide) (by decide) ?_ | with_reducible refine r_pow (by decide) (by decide) (by decide) ?_))
/-! ### where two orders part -/
def plc (zs : List Pr) (z : Pr) : Nat := zs.idxOf z
theorem plc_get {zs : List Pr} {z : Pr} (h : z ∈ zs) : zs[plc zs z]? = some z := by
  unfold plc
  have hl := List.idxOf_lt_length_iff.mpr h
  rw [List.getElem?_eq_getElem hl, List.getElem_idxOf hl]
def difB (zs ys : List Pr) (p q : Pr) : Bool := (decide (p.1 = q.1) || decide (p.2 = q.2)) && !decide (decide (plc zs p < plc zs q) = decide (plc ys p < plc ys q))
theorem dif_self (zs : List Pr) (p q : Pr) : difB zs zs p q = false := by
  unfold difB
  rw [decide_eq_true rfl]
  simp
def partI (zs ys : List Pr) (p : Pr) (qs : List Pr) : Option (Pr × Pr) := qs.findSome? fun q => if difB zs ys p q = true then some (p, q) else none
def partO (cs zs ys : List Pr) (m : Nat) : Option (Pr × Pr) := (List.range m).findSome? fun k => (cs[k]?).bind fun p => partI zs ys p (cs.drop (k + 1))
def partF (R : Rw) (zs ys : List Pr) : Option (Pr × Pr) := partO (cells R) zs ys (cells R).length
theorem partF_self (R : Rw) (zs : List Pr) : partF R zs zs = none := by
  unfold partF partO
  rw [List.findSome?_eq_none_iff]
  intro k _
  cases (cells R)[k]? with
  | none => rfl
  | some p =>
    show partI zs zs p _ = none
    unfold partI
    rw [List.findSome?_eq_none_iff]
    intro q _
    rw [if_neg (by rw [dif_self]; exact Bool.false_ne_true)]
theorem partI_some {zs ys : List Pr} {z : Pr} {qs : List Pr} {n : Nat} {r : Pr × Pr} (h : partI zs ys z (qs.take n) = some r) : partI zs ys z qs = some r := by
  unfold partI at h ⊢
  rw [← List.take_append_drop n qs, List.findSome?_append, h]
  rfl
theorem partO_more {cs zs ys : List Pr} {m : Nat} {r : Pr × Pr} (h : partO cs zs ys m = some r) : ∀ d, partO cs zs ys (m + d) = some r
  | 0 => h
  | d + 1 => by
    have ih := partO_more h d
    unfold partO at ih ⊢
    rw [← Nat.add_assoc, List.range_succ, List.findSome?_append, ih]
    rfl
theorem partO_some {cs zs ys : List Pr} {m n : Nat} {r : Pr × Pr} (l : m ≤ n) (h : partO cs zs ys m = some r) : partO cs zs ys n = some r := by
  obtain ⟨d, rfl⟩ : ∃ d, n = m + d := ⟨n - m, by omega⟩
  exact partO_more h d
/-- what is told of two orders -/
def PartAt (p : Addr) (H : Hp) (u : V) : Option (Pr × Pr) → Prop
  | none => u = .non
  | some (y, z) => ∃ t v1 v2, u = .ref t ∧ H t = some (.tup [v1, v2]) ∧ PrAt p H v1 y ∧ PrAt p H v2 z
def spParted (C CO CEO : Addr) : Sp := fun vs H Q E => ∃ (p x a b : Addr) (G : Hp) (R : Rw) (zs ys : List Pr), vs = [.ref x, .ref a, .ref b] ∧ OrW p C CO H x a G R zs ∧ OrW p C CO H x b G R ys ∧
  ((BadO R zs ∧ ∀ (dd : Addr) (H' : Hp), Same H H' → H dd = none → H' dd = some (.xd [("at", .int (-1))]) → E (.ref CEO) (some dd) H') ∨
   (zs.Perm (cells R) ∧ BadO R ys ∧ ∀ (dd : Addr) (H' : Hp), Same H H' → H dd = none → H' dd = some (.xd [("at", .int (-1))]) → E (.ref CEO) (some dd) H') ∨
   (zs.Perm (cells R) ∧ ys.Perm (cells R) ∧ ∀ (u : V) (H' : Hp), Same H H' → PartAt p H' u (partF R zs ys) → Q u H'))
theorem r_dget {td ty : TE} {σ : L2.St} {H : Hp} {Q : VK} (h : td σ H fun x H1 => ty σ H1 fun y H2 => ∃ a v, x = .ref a ∧ DGet H2 a y (some v) ∧ Q v H2) : tDGet td ty σ H Q := h
theorem PlD.get {H : Hp} {d t : Addr} {zs : List Pr} {z : Pr} (h : PlD H d zs) (m : z ∈ zs) (e : H t = some (.tup [.int z.1, .int z.2])) : DGet H d (.ref t) (some (.int (plc zs z : Int))) := by
  obtain ⟨kvs, hd, q⟩ := h
  rw [← q _ _ (plc_get m)]
  exact DGet.t (k := [.inl z.1, .inl z.2]) hd e
abbrev slParted : Stmt := top 22
section
variable {P : Program} {w : World} {K : PySem.W.Frag} {mg : Str → Option Value} {base : Heap} {C CO CEO CB f aK : Addr} {fd : FuncData}
theorem sclParted : FnScope ["table", "one", "other", "pairs", "places", "other_places", "k", "p", "q"] ["table", "one", "other"] (defScope slParted) := ⟨rfl, rfl, rfl, by decide +kernel, rfl, by decide +kernel, by decide +kernel⟩
theorem ok_parted {fQ : Addr} {fdQ : FuncData} (F : Fun K "parted" "parted" slParted f fd) (T : Bt mg) (A : TbC K C) (mQ : Meth K C "pairs" fQ) (oQ : FnOk P w K mg base CX0 1 fQ fdQ ["self"] (spTPrs C)) (bQ : Binds K fdQ ["self"] [])
    (DO : Df P w K mg base (L2.CX P w) "check_order" 6 ["table", "order"] (spChOX C CO CEO)) (DP : Df P w K mg base CX0 "places_in" 2 ["order"] (spPlaces CO)) (DS : Df P w K mg base CX0 "share_line" 1 ["one", "other"] (spShare K)) :
    FnOk P w K mg base (L2.CX P w) 7 f fd ["table", "one", "other"] (spParted C CO CEO) := by
  refine F.okX sclParted (fun vs H Q E h => ?_) (fun cdv A' outer s H vs Q E hr h => ?_)
  · obtain ⟨p, x, a, b, G, R, zs, ys, rfl, _⟩ := h
    rfl
  · obtain ⟨p, x, a, b, G, R, zs, ys, rfl, L, M, k⟩ := h
    have hr1 := hr.mono (show 1 ≤ 6 by decide)
    have hu1 := Nat.lt_of_le_of_lt (Nat.add_le_add_left (show 1 ≤ 64 by decide) _) hr.units
    obtain ⟨g, dx, e0, u0, es, ho, hl, hpl⟩ := id L.t
    have c64 := cells_len g
    refine ⟨_, (pss_cons (ps_expr (pe_dfS (takes_of rfl rfl rfl rfl) DO hr (by decide) (pa_cons (pv 0) (pa_cons (pv 1) pa_nil))))
  (pss_cons (ps_expr (pe_dfS (takes_of rfl rfl rfl rfl) DO hr (by decide) (pa_cons (pv 0) (pa_cons (pv 2) pa_nil))))
  (pss_cons (ps_par3 (i := 3) (j := 4) (l := 5) rfl sclParted.nd rfl rfl rfl (by decide) (by decide) (by decide) rfl rfl rfl (pa_cons (pe_meth0 (pv 0) A.O.cl mQ oQ hr1 bQ .nil pass0) (pa_cons (pe_df DP hr (by decide) (pa_cons (pv 1) pa_nil)) (pa_cons (pe_df DP hr (by decide) (pa_cons (pv 2) pa_nil)) pa_nil))) rfl)
  (pss_cons (ps_for (passes_of rfl) rfl (pi_enum (by rfl) T.enumerate (pa_cons (pv 3) pa_nil)) (pg_tup (by rfl) (pgs_cons (pg_name (i := 6) sclParted.nd rfl (Or.inl rfl)) (pgs_cons (pg_name (i := 7) sclParted.nd rfl (Or.inl rfl)) pgs_nil))) (pss_one (ps_for (passes_of rfl) rfl (pi_list (pe_slice sl_list (pv 3) (po_some (pe_op op_add (pv 6) pe_int)) po_none)) (pg_name (i := 8) sclParted.nd rfl (Or.inl rfl)) (pss_one (ps_if (PW.pt (pw_and (pt_val (pe_df DS hr (by decide) (pa_cons (pv 7) (pa_cons (pv 8) pa_nil)))) (pw_and1 (pt_cmpR op_ne (pe_cmpR op_lt (pe_dget hu1 (pv 4) (pv 7) (by intro _ _; rfl)) (pe_dget hu1 (pv 4) (pv 8) (by intro _ _; rfl)) (nomark _)) (pe_cmpR op_lt (pe_dget hu1 (pv 5) (pv 7) (by intro _ _; rfl)) (pe_dget hu1 (pv 5) (pv 8) (by intro _ _; rfl)) (nomark _)) (nomark _))))) (pss_one (ps_ret (pe_tup (pa_cons (pv 7) (pa_cons (pv 8) pa_nil))))) pss_nil)))))
  (pss_one (ps_ret pe_non)))))), ?_⟩
    walk_at "rd"
    rcases k with ⟨bad, k⟩ | ⟨pz, bad, k⟩ | ⟨pz, py, k⟩
    · exact ⟨p, x, a, G, R, zs, rfl, L, .inr ⟨bad, k⟩⟩
    · refine ⟨p, x, a, G, R, zs, rfl, L, .inl ⟨pz, fun H1 s1 => ?_⟩⟩
      walk_at "rd"
      exact ⟨p, x, b, G, R, ys, rfl, M.same s1, .inr ⟨bad, fun dd H' s2 h1 h2 => k dd H' (s1.trans s2) (s1.free h1) h2⟩⟩
    · refine ⟨p, x, a, G, R, zs, rfl, L, .inl ⟨pz, fun H1 s1 => ?_⟩⟩
      have M1 := M.same s1
      walk_at "rd"
      refine ⟨p, x, b, G, R, ys, rfl, M1, .inl ⟨py, fun H2 s2 => ?_⟩⟩
      have s02 := s1.trans s2
      have L2 := L.same s02
      have M2 := M.same s02
      walk_at "rd"
      refine r_par3p ?_
      walk_at "rd"
      refine ⟨x, dx, _, rfl, L2.s _ _ ho, two_no (by decide +kernel) (by decide +kernel), ?_⟩
      walk_at "rd"
      refine ⟨x, G, R, rfl, L.t, L2.s, fun r us nr hv => ?_⟩
      have s3 := Same.up (o := .lst us) (Same.refl H2) nr
      have hr3 : upd H2 r (.lst us) r = some (.lst us) := upd_same
      obtain ⟨H3, eH3⟩ : ∃ H3, H3 = upd H2 r (.lst us) := ⟨_, rfl⟩
      rw [← eH3] at s3 hr3 ⊢
      have pu : PrsAt p H3 us (cells R) := by
        have : ∀ {vs : List V} {zs : List Pr}, PrsAt x G vs zs → PrsAt p H3 vs zs := fun {vs zs} h => by
          induction h with
          | nil => exact .nil
          | cons h _ ih =>
            obtain ⟨t, e, n, ht⟩ := h
            exact .cons ⟨t, e, (fun z => by rw [z, L.off] at ht; cases ht), s3 _ _ (L2.s _ _ ht)⟩ ih
        exact this hv
      have ul := pu.length
      walk_at "rd"
      refine ⟨p, a, zs, rfl, (L2.same s3).o, pz.symm.nodup (cells_nodup R), by rw [pz.length_eq]; exact c64, fun d1 H4 s4 D1 => ?_⟩
      walk_at "rd"
      refine ⟨p, b, ys, rfl, (M2.same (s3.trans s4)).o, py.symm.nodup (cells_nodup R), by rw [py.length_eq]; exact c64, fun d2 H5 s5 D2 => ?_⟩
      have D1 := D1.same s5
      have s45 := s4.trans s5
      have hr5 := s45 _ _ hr3
      have pu5 := pu.keep (Keep.same s45)
      have s05 := s02.trans (s3.trans s45)
      walk_at "rd"
      refine ⟨_, _, _, rfl, ?_⟩
      walk_at "rd"
      refine ⟨r, us, rfl, SqL.of hr5, for_it walk_enum (fun m σ H' => ∃ v6 v7 v8, σ = [some (.ref x), some (.ref a), some (.ref b), some (.ref r), some (.ref d1), some (.ref d2), v6, v7, v8] ∧ Same H5 H' ∧ partO (cells R) zs ys m = none) ⟨_, _, _, rfl, Same.refl _, rfl⟩ (fun m σ H' _ z => by obtain ⟨_, _, _, _, z, _⟩ := z; exact SqL.of (z _ _ hr5)) ?_ ?_⟩
      · rintro m y σ H6 H7 hm ⟨v6, v7, v8, rfl, s6, no⟩ ⟨t, i', y', rfl, ht, rfl, e1, e2⟩
        cases (Option.some.inj e1)
        have e2 : us[m]? = some y' := e2
        obtain ⟨z, ez, pzz⟩ := pu5.at e2
        have s7 := s6.trans (Same.up (o := .tup [V.int (m : Int), y']) (Same.refl H6) ht)
        refine r_gtup ⟨t, _, rfl, SqT.of upd_same, rfl, _, _, rfl, ?_⟩
        obtain ⟨H7, eH7⟩ : ∃ H7, H7 = upd H6 t (.tup [V.int (m : Int), y']) := ⟨_, rfl⟩
        rw [← eH7] at s7 ⊢
        walk_at "rd"
        refine ⟨_, _, rfl, ?_⟩
        walk_at "rd"
        refine ⟨rfl, ?_⟩
        walk_at "rd"
        have ml : m < us.length := hm
        refine ⟨r, us, rfl, SqL.of (s7 _ _ hr5), fun q8 n8 => ?_⟩
        rw [show ((m : Int) + 1) = ((m + 1 : Nat) : Int) from rfl, cutDrop (by omega)]
        have s8 := s7.trans (Same.up (o := .lst (us.drop (m + 1))) (Same.refl H7) n8)
        have hq8 : upd H7 q8 (.lst (us.drop (m + 1))) q8 = some (.lst (us.drop (m + 1))) := upd_same
        obtain ⟨H8, eH8⟩ : ∃ H8, H8 = upd H7 q8 (.lst (us.drop (m + 1))) := ⟨_, rfl⟩
        rw [← eH8] at s8 hq8 ⊢
        have pd := pu5.drop (m + 1)
        walk_at "rd"
        refine ⟨q8, rfl, ⟨_, SqL.of hq8⟩, for_it walk_list (fun n σ H' => ∃ w8, σ = [some (.ref x), some (.ref a), some (.ref b), some (.ref r), some (.ref d1), some (.ref d2), some (.int (m : Int)), some y', w8] ∧ Same H8 H' ∧ partI zs ys z (((cells R).drop (m + 1)).take n) = none) ⟨_, rfl, Same.refl _, rfl⟩ (fun n σ H' _ z => by obtain ⟨_, _, z, _⟩ := z; exact SqL.of (z _ _ hq8)) ?_ ?_⟩
        · rintro n v σ H90 H9 hn ⟨w8, rfl, s9, noI⟩ ⟨rfl, ev⟩
          obtain ⟨q, eq, pq⟩ := pd.at ev
          have s59 := s8.trans s9
          have pz9 := pzz.keep (Keep.same s59)
          have pq9 := pq.keep (Keep.same s59)
          have zm := List.mem_of_getElem? ez
          have qm := List.mem_of_mem_drop (List.mem_of_getElem? eq)
          obtain ⟨t1, rfl, t1p, ht1⟩ := id pz9
          obtain ⟨t2, rfl, t2p, ht2⟩ := id pq9
          have D19 := D1.same s59
          have D29 := D2.same s59
          have more : partI zs ys z (((cells R).drop (m + 1)).take (n + 1)) = if difB zs ys z q = true then some (z, q) else none := by
            unfold partI at noI ⊢
            rw [List.take_add_one, eq, List.findSome?_append, noI]
            rw [Option.none_or, Option.toList_some, List.findSome?_singleton]
          walk_at "rd"
          refine ⟨p, _, _, z, q, rfl, pz9, pq9, ?_⟩
          walk_at "rd"
          by_cases sh : (decide (z.1 = q.1) || decide (z.2 = q.2)) = true
          · refine ifT sh ?_
            walk_at "rd"
            refine r_dget ?_
            walk_at "rd"
            refine ⟨d1, _, rfl, D19.get (pz.mem_iff.mpr zm) ht1, ?_⟩
            walk_at "rd"
            refine r_dget ?_
            walk_at "rd"
            refine ⟨d1, _, rfl, D19.get (pz.mem_iff.mpr qm) ht2, ?_⟩
            walk_at "rd"
            refine r_dget ?_
            walk_at "rd"
            refine ⟨d2, _, rfl, D29.get (py.mem_iff.mpr zm) ht1, ?_⟩
            walk_at "rd"
            refine r_dget ?_
            walk_at "rd"
            refine ⟨d2, _, rfl, D29.get (py.mem_iff.mpr qm) ht2, ?_⟩
            walk_at "rd"
            refine r_ne rfl ?_
            walk_at "rd"
            have eb : decide (V.bl (decide ((plc zs z : Int) < (plc zs q : Int))) = V.bl (decide ((plc ys z : Int) < (plc ys q : Int)))) = decide (decide (plc zs z < plc zs q) = decide (plc ys z < plc ys q)) := by
              rw [show decide ((plc zs z : Int) < (plc zs q : Int)) = decide (plc zs z < plc zs q) from decide_eq_decide.mpr (by omega), show decide ((plc ys z : Int) < (plc ys q : Int)) = decide (plc ys z < plc ys q) from decide_eq_decide.mpr (by omega)]
              exact decide_eq_decide.mpr ⟨V.bl.inj, fun h => by rw [h]⟩
            rw [eb]
            have ed : difB zs ys z q = !decide (decide (plc zs z < plc zs q) = decide (plc ys z < plc ys q)) := by
              unfold difB
              rw [sh, Bool.true_and]
            rw [← ed]
            by_cases c : difB zs ys z q = true
            · refine ifT c ?_
              walk_at "rd"
              refine ⟨by show 2 ≤ sizeLine; decide, fun t10 n10 => ?_⟩
              have s10 := Same.up (o := .tup [V.ref t1, V.ref t2]) (Same.refl H9) n10
              refine k _ _ (s05.trans (s59.trans s10)) ?_
              have : partF R zs ys = some (z, q) := by
                have h1 : partI zs ys z ((cells R).drop (m + 1)) = some (z, q) := partI_some (n := n + 1) (by rw [more, if_pos c])
                refine partO_some (m := m + 1) (by omega) ?_
                unfold partO at no ⊢
                rw [List.range_succ, List.findSome?_append, no, Option.none_or]
                have e0 : ((cells R)[m]?).bind (fun p => partI zs ys p ((cells R).drop (m + 1))) = some (z, q) := by
                  rw [ez]
                  exact h1
                rw [List.findSome?_singleton]
                exact e0
              rw [this]
              exact ⟨t10, _, _, rfl, upd_same, pz9.keep (Keep.same s10), pq9.keep (Keep.same s10)⟩
            · refine ifF (Bool.eq_false_iff.mpr c) ?_
              exact ⟨_, rfl, s9, by rw [more, if_neg c]⟩
          · refine ifF (Bool.eq_false_iff.mpr sh) ?_
            have c : ¬ difB zs ys z q = true := by
              unfold difB
              rw [Bool.eq_false_iff.mpr sh, Bool.false_and]
              exact Bool.false_ne_true
            exact ⟨_, rfl, s9, by rw [more, if_neg c]⟩
        · rintro σ H9 ⟨w8, rfl, s9, noI⟩
          refine ⟨_, _, _, rfl, s8.trans s9, ?_⟩
          unfold partO at no ⊢
          rw [List.range_succ, List.findSome?_append, no]
          rw [Option.none_or, List.findSome?_singleton]
          have e0 : ((cells R)[m]?).bind (fun p => partI zs ys p ((cells R).drop (m + 1))) = none := by
            rw [ez]
            show partI zs ys z _ = none
            rw [← noI, List.take_of_length_le]
            rw [List.length_drop, List.length_drop, ul]
            exact Nat.le_refl _
          exact e0
      · rintro σ H6 ⟨v6, v7, v8, rfl, s6, no⟩
        walk_at "rd"
        refine k _ _ (s05.trans s6) ?_
        have : partF R zs ys = none := by
          unfold partF
          rw [← ul]
          exact no
        rw [this]
        exact rfl
end
end Pk
set_option Elab.async false
set_option linter.all false
set_option maxRecDepth 100000
set_option maxHeartbeats 4000000
namespace Pk
open PySem L2
local macro_rules | `(tactic| walk_at "rd") => `(tactic| repeat (first
  | with_reducible refine r_seq ?_ | with_reducible refine r_nxt ?_ | with_reducible refine r_asg ?_ | with_reducible refine r_to ?_ | with_reducible refine r_ret ?_ | with_reducible refine r_for ?_ | with_reducible refine r_lc ?_ | with_reducible refine r_lc2 ?_ | with_reducible refine r_rng1 ?_ | with_reducible refine r_list ?_ | with_reducible refine r_tupI ?_ | with_reducible refine r_drop ?_ | with_reducible refine r_ifs ?_
  | with_reducible refine r_op ?_ | with_reducible refine r_c ?_ | with_reducible refine r_var rfl ?_ | with_reducible refine r_var (by assumption) ?_ | with_reducible refine r_I0 ?_ | with_reducible refine r_un ?_ | with_reducible refine r_U ?_ | with_reducible refine r_make ?_ | with_reducible refine r_makeS ?_ | with_reducible refine r_ifE ?_ | with_reducible refine r_cm ?_ | with_reducible refine r_mkV rfl ?_ | with_reducible refine r_sub ?_
  | with_reducible refine r_nil ?_ | with_reducible refine r_cons ?_ | with_reducible refine r_cb ?_ | with_reducible refine r_sl ?_ | with_reducible refine r_noP ?_ | with_reducible refine r_part ?_ | with_reducible refine r_isI ?_ | with_reducible refine r_lst ?_ | with_reducible refine r_tup ?_ | with_reducible refine r_call ?_ | with_reducible refine r_callS ?_ | with_reducible refine r_sFldU ?_ | with_reducible refine r_chain ?_ | with_reducible refine r_enum ?_ | with_reducible refine r_zip ?_ | with_reducible refine r_rng3 ?_ | with_reducible refine r_gtup ?_ | with_reducible refine r_methU ?_
  | with_reducible refine r_test ?_ | with_reducible refine r_B ?_ | with_reducible refine r_and ?_ | with_reducible refine r_or ?_ | with_reducible refine r_not ?_ | with_reducible refine r_andV ?_ | with_reducible refine r_orV ?_ | with_reducible refine r_notV ?_ | with_reducible refine r_bl ?_ | with_reducible refine r_yes ?_ | with_reducible refine r_int ?_ | with_reducible refine r_is0 ?_ | with_reducible refine r_is1 ?_ | with_reducible refine iteT ?_ | with_reducible refine iteF ?_ | with_reducible refine ite_nF ?_ | with_reducible refine ite_nT ?_
  | with_reducible refine r_mod (by decide) ?_ | with_reducible refine r_div (by decide) (by decide) ?_ | with_reducible refine r_mulR (by decide) (by decide) ?_ | with_reducible refine r_mulL (by decide) (by decide) ?_ | with_reducible refine r_pow (by decide) (by decide) (by decide) ?_))
/-! ### normal orders: the mathematics of pairs that may change places -/
def shB (a b : Pr) : Bool := decide (a.1 = b.1) || decide (a.2 = b.2)
theorem shB_comm (a b : Pr) : shB a b = shB b a := by
  unfold shB
  rw [decide_eq_decide.mpr (eq_comm (a := a.1)), decide_eq_decide.mpr (eq_comm (a := a.2))]
def bef (w : List Pr) (a b : Pr) : Prop := [a, b].Sublist w
theorem bef_cons {x a b : Pr} {w : List Pr} : bef (x :: w) a b ↔ bef w a b ∨ (a = x ∧ b ∈ w) := by
  unfold bef
  constructor
  · intro h
    cases h with
    | cons _ h => exact .inl h
    | cons_cons _ h => exact .inr ⟨rfl, List.singleton_sublist.mp h⟩
  · rintro (h | ⟨rfl, h⟩)
    · exact h.cons _
    · exact (List.singleton_sublist.mpr h).cons_cons _
theorem bef_nil {a b : Pr} : ¬ bef [] a b := fun h => by cases h
theorem bef.mem {w : List Pr} {a b : Pr} (h : bef w a b) : a ∈ w ∧ b ∈ w := ⟨h.subset (List.mem_cons_self ..), h.subset (List.mem_cons_of_mem _ (List.mem_cons_self ..))⟩
theorem bef_ne {w : List Pr} (nd : w.Nodup) {a b : Pr} (h : bef w a b) : a ≠ b := fun e => by
  have := List.Nodup.sublist h nd
  rw [e] at this
  simp at this
theorem bef_tot : ∀ {w : List Pr} {a b : Pr}, a ∈ w → b ∈ w → a ≠ b → bef w a b ∨ bef w b a
  | x :: w, a, b, ha, hb, n => by
    rw [bef_cons, bef_cons]
    rcases List.mem_cons.mp ha with e1 | h1
    · rcases List.mem_cons.mp hb with e2 | h2
      · exact absurd (e1.trans e2.symm) n
      · exact .inl (.inr ⟨e1, h2⟩)
    · rcases List.mem_cons.mp hb with e2 | h2
      · exact .inr (.inr ⟨e2, h1⟩)
      · rcases bef_tot h1 h2 n with h | h
        · exact .inl (.inl h)
        · exact .inr (.inl h)
theorem bef_asy : ∀ {w : List Pr} {a b : Pr}, w.Nodup → bef w a b → ¬ bef w b a
  | [], _, _, _, h, _ => bef_nil h
  | x :: w, a, b, nd, h, g => by
    obtain ⟨nx, nw⟩ := List.nodup_cons.mp nd
    rcases bef_cons.mp h with h1 | ⟨e1, hb⟩
    · rcases bef_cons.mp g with g1 | ⟨e2, ha⟩
      · exact bef_asy nw h1 g1
      · exact nx (e2 ▸ h1.mem.2)
    · rcases bef_cons.mp g with g1 | ⟨e2, _⟩
      · exact nx (e1 ▸ g1.mem.2)
      · exact nx (e2 ▸ hb)
theorem bef_app {u v : List Pr} {a b : Pr} : bef (u ++ v) a b ↔ bef u a b ∨ bef v a b ∨ (a ∈ u ∧ b ∈ v) := by
  induction u with
  | nil => simp [bef_nil]
  | cons x u ih =>
    rw [List.cons_append, bef_cons, bef_cons, ih, List.mem_append, List.mem_cons]
    constructor
    · rintro ((h | h | ⟨h, g⟩) | ⟨rfl, h | h⟩)
      · exact .inl (.inl h)
      · exact .inr (.inl h)
      · exact .inr (.inr ⟨.inr h, g⟩)
      · exact .inl (.inr ⟨rfl, h⟩)
      · exact .inr (.inr ⟨.inl rfl, h⟩)
    · rintro ((h | ⟨rfl, h⟩) | h | ⟨rfl | h, g⟩)
      · exact .inl (.inl h)
      · exact .inr ⟨rfl, .inl h⟩
      · exact .inl (.inr (.inl h))
      · exact .inr ⟨rfl, .inr g⟩
      · exact .inl (.inr (.inr ⟨h, g⟩))
theorem bef_erase {w : List Pr} (nd : w.Nodup) {x a b : Pr} : bef (w.erase x) a b ↔ bef w a b ∧ a ≠ x ∧ b ≠ x := by
  constructor
  · intro h
    refine ⟨h.trans (List.erase_sublist ..), fun e => ?_, fun e => ?_⟩
    · exact nd.not_mem_erase (e ▸ h.mem.1)
    · exact nd.not_mem_erase (e ▸ h.mem.2)
  · rintro ⟨h, n1, n2⟩
    have := List.Sublist.erase x h
    rw [List.erase_of_not_mem (by simp [Ne.symm n1, Ne.symm n2])] at this
    exact this
/-- nothing that shares a line with it comes before it -/
def Fre (w : List Pr) (z : Pr) : Prop := z ∈ w ∧ ∀ y, bef w y z → shB y z = false
/-- the same pairs, those that share a line in the same order -/
structure Alk (w v : List Pr) : Prop where
  pm : w.Perm v
  or_ : ∀ a b, shB a b = true → a ≠ b → (bef w a b ↔ bef v a b)
theorem Alk.refl (w : List Pr) : Alk w w := ⟨.refl _, fun _ _ _ _ => Iff.rfl⟩
theorem Alk.symm {w v : List Pr} (h : Alk w v) : Alk v w := ⟨h.pm.symm, fun a b s n => (h.or_ a b s n).symm⟩
theorem Alk.trans {u w v : List Pr} (h : Alk u w) (g : Alk w v) : Alk u v := ⟨h.pm.trans g.pm, fun a b s n => (h.or_ a b s n).trans (g.or_ a b s n)⟩
theorem Alk.fre {w v : List Pr} (h : Alk w v) (nd : v.Nodup) {z : Pr} (f : Fre w z) : Fre v z := ⟨h.pm.mem_iff.mp f.1, fun y hy => by
  cases e : shB y z with
  | false => rfl
  | true =>
    have := f.2 y ((h.or_ y z e (bef_ne nd hy)).mpr hy)
    rw [e] at this
    exact this⟩
theorem Alk.erase {w v : List Pr} (h : Alk w v) (nd : w.Nodup) (z : Pr) : Alk (w.erase z) (v.erase z) := ⟨h.pm.erase z, fun a b s n => by
  rw [bef_erase nd, bef_erase (h.pm.nodup_iff.mp nd), h.or_ a b s n]⟩
/-- the least free pair, again and again -/
inductive NF : List Pr → List Pr → Prop
  | nil : NF [] []
  | cons {w n : List Pr} (z : Pr) (hz : Fre w z) (least : ∀ y, Fre w y → prLt y z = false) (r : NF (w.erase z) n) : NF w (z :: n)
theorem pr_tri {a b : Pr} (h1 : prLt a b = false) (h2 : prLt b a = false) : a = b := by
  obtain ⟨a1, a2⟩ := a
  obtain ⟨b1, b2⟩ := b
  unfold prLt at h1 h2
  simp at h1 h2
  have : a1 = b1 := by omega
  have : a2 = b2 := by omega
  subst_vars
  rfl
theorem NF.one {w n m : List Pr} (h : NF w n) (g : NF w m) : n = m := by
  induction h generalizing m with
  | nil =>
    cases g with
    | nil => rfl
    | cons z hz => cases hz.1
  | cons z hz l r ih =>
    cases g with
    | nil => cases hz.1
    | cons y hy l2 r2 =>
      obtain rfl := pr_tri (l2 z hz) (l y hy)
      rw [ih r2]
theorem NF.congr {w v n : List Pr} (h : NF w n) (nd : w.Nodup) (a : Alk w v) : NF v n := by
  induction h generalizing v with
  | nil =>
    rw [List.Perm.nil_eq a.pm |>.symm]
    exact .nil
  | cons z hz l r ih =>
    have nv := a.pm.nodup_iff.mp nd
    exact .cons z (a.fre nv hz) (fun y hy => l y (a.symm.fre nd hy)) (ih (nd.erase z) (a.erase nd z))
theorem NF.alk {w n : List Pr} (h : NF w n) (nd : w.Nodup) : Alk w n := by
  induction h with
  | nil => exact .refl _
  | @cons w n z hz l r ih =>
    have ne := nd.erase z
    have A := ih ne
    have pm : w.Perm (z :: n) := (List.perm_cons_erase hz.1).trans (A.pm.cons z)
    have nn : (z :: n).Nodup := pm.nodup_iff.mp nd
    have zn := (List.nodup_cons.mp nn).1
    refine ⟨pm, fun a b s nab => ?_⟩
    rw [bef_cons]
    by_cases ca : a = z
    · subst ca
      constructor
      · intro h
        exact .inr ⟨rfl, (List.mem_cons.mp (pm.mem_iff.mp h.mem.2)).resolve_left fun e => nab e.symm⟩
      · rintro (h | ⟨_, h⟩)
        · exact absurd h.mem.1 zn
        · have hb : b ∈ w := pm.mem_iff.mpr (List.mem_cons_of_mem _ h)
          rcases bef_tot hz.1 hb nab with g | g
          · exact g
          · have := hz.2 b g
            rw [shB_comm, s] at this
            cases this
    · by_cases cb : b = z
      · subst cb
        constructor
        · intro h
          have := hz.2 a h
          rw [s] at this
          cases this
        · rintro (h | ⟨e, _⟩)
          · exact absurd h.mem.2 zn
          · exact absurd e ca
      · constructor
        · intro h
          exact .inl ((A.or_ a b s nab).mp ((bef_erase nd).mpr ⟨h, ca, cb⟩))
        · rintro (h | ⟨e, _⟩)
          · exact ((bef_erase nd).mp ((A.or_ a b s nab).mpr h)).1
          · exact absurd e ca
/-- two neighbours without a common line -/
theorem alk_swap (xs ds : List Pr) {a b : Pr} (h : shB a b = false) : Alk (xs ++ [a, b] ++ ds) (xs ++ [b, a] ++ ds) := by
  refine ⟨List.Perm.append_right _ (List.Perm.append_left _ (List.Perm.swap ..)), fun p q s n => ?_⟩
  have m : ∀ z : Pr, z ∈ [a, b] ↔ z ∈ [b, a] := fun z => by simp [or_comm]
  have i1 : ¬ bef [a, b] p q := fun e => by
    rcases bef_cons.mp e with e1 | ⟨e1, e2⟩
    · rcases bef_cons.mp e1 with e2 | ⟨_, e2⟩
      · exact bef_nil e2
      · cases e2
    · rw [e1, List.mem_singleton.mp e2, h] at s
      cases s
  have i2 : ¬ bef [b, a] p q := fun e => by
    rcases bef_cons.mp e with e1 | ⟨e1, e2⟩
    · rcases bef_cons.mp e1 with e2 | ⟨_, e2⟩
      · exact bef_nil e2
      · cases e2
    · rw [e1, List.mem_singleton.mp e2, shB_comm, h] at s
      cases s
  simp only [bef_app, List.mem_append, m, i1, i2]
/-! where it stands -/
theorem bef_idx : ∀ {w : List Pr} {a b : Pr}, w.Nodup → a ∈ w → b ∈ w → (bef w a b ↔ w.idxOf a < w.idxOf b)
  | x :: w, a, b, nd, ha, hb => by
    obtain ⟨nx, nw⟩ := List.nodup_cons.mp nd
    rw [bef_cons, List.idxOf_cons, List.idxOf_cons]
    by_cases ca : a = x
    · subst ca
      rw [beq_self_eq_true, cond_true]
      by_cases cb : b = a
      · subst cb
        rw [beq_self_eq_true, cond_true]
        exact ⟨fun h => h.elim (fun h => absurd h.mem.1 nx) fun h => absurd h.2 nx, fun h => by omega⟩
      · rw [show (a == b) = false from beq_false_of_ne fun e => cb e.symm, cond_false]
        exact ⟨fun _ => by omega, fun _ => .inr ⟨rfl, (List.mem_cons.mp hb).resolve_left cb⟩⟩
    · have ha := (List.mem_cons.mp ha).resolve_left ca
      rw [show (x == a) = false from beq_false_of_ne fun e => ca e.symm, cond_false]
      by_cases cb : b = x
      · subst cb
        rw [beq_self_eq_true, cond_true]
        exact ⟨fun h => h.elim (fun h => absurd h.mem.2 nx) fun h => absurd h.1 ca, fun h => by omega⟩
      · have hb := (List.mem_cons.mp hb).resolve_left cb
        rw [show (x == b) = false from beq_false_of_ne fun e => cb e.symm, cond_false]
        exact ⟨fun h => h.elim (fun h => by have := (bef_idx nw ha hb).mp h; omega) fun h => absurd h.1 ca, fun h => .inl ((bef_idx nw ha hb).mpr (by omega))⟩
/-! less than or the same, first to last -/
def lexLE : List Pr → List Pr → Bool
  | [], _ => true
  | _ :: _, [] => false
  | a :: as, b :: bs => prLt a b || (decide (a = b) && lexLE as bs)
theorem fre_head {x : Pr} {w : List Pr} (nd : (x :: w).Nodup) : Fre (x :: w) x := ⟨List.mem_cons_self .., fun y h => by
  have nx := (List.nodup_cons.mp nd).1
  rcases bef_cons.mp h with h | ⟨_, h⟩
  · exact absurd h.mem.2 nx
  · exact absurd h nx⟩
theorem NF.le {w n : List Pr} (h : NF w n) (nd : w.Nodup) : lexLE n w = true := by
  induction h with
  | nil => rfl
  | @cons w n z hz l r ih =>
    cases w with
    | nil => cases hz.1
    | cons x w =>
      have hl := l x (fre_head nd)
      show (prLt z x || (decide (z = x) && lexLE n w)) = true
      by_cases c : z = x
      · subst c
        have := ih (nd.erase z)
        rw [List.erase_cons_head] at this
        rw [this, decide_eq_true rfl]
        simp
      · cases e : prLt z x with
        | true => rfl
        | false => exact absurd (pr_tri e hl) c
end Pk
set_option Elab.async false
set_option linter.all false
set_option maxRecDepth 100000
set_option maxHeartbeats 4000000
namespace Pk
open PySem L2
local macro_rules | `(tactic| walk_at "rd") => `(tactic| repeat (first
  | with_reducible refine r_seq ?_ | with_reducible refine r_nxt ?_ | with_reducible refine r_asg ?_ | with_reducible refine r_to ?_ | with_reducible refine r_ret ?_ | with_reducible refine r_for ?_ | with_reducible refine r_lc ?_ | with_reducible refine r_lc2 ?_ | with_reducible refine r_rng1 ?_ | with_reducible refine r_list ?_ | with_reducible refine r_tupI ?_ | with_reducible refine r_drop ?_ | with_reducible refine r_ifs ?_
  | with_reducible refine r_op ?_ | with_reducible refine r_c ?_ | with_reducible refine r_var rfl ?_ | with_reducible refine r_var (by assumption) ?_ | with_reducible refine r_I0 ?_ | with_reducible refine r_un ?_ | with_reducible refine r_U ?_ | with_reducible refine r_make ?_ | with_reducible refine r_makeS ?_ | with_reducible refine r_ifE ?_ | with_reducible refine r_cm ?_ | with_reducible refine r_mkV rfl ?_ | with_reducible refine r_sub ?_
  | with_reducible refine r_nil ?_ | with_reducible refine r_cons ?_ | with_reducible refine r_cb ?_ | with_reducible refine r_sl ?_ | with_reducible refine r_noP ?_ | with_reducible refine r_part ?_ | with_reducible refine r_isI ?_ | with_reducible refine r_lst ?_ | with_reducible refine r_tup ?_ | with_reducible refine r_call ?_ | with_reducible refine r_callS ?_ | with_reducible refine r_sFldU ?_ | with_reducible refine r_chain ?_ | with_reducible refine r_enum ?_ | with_reducible refine r_zip ?_ | with_reducible refine r_rng3 ?_ | with_reducible refine r_gtup ?_ | with_reducible refine r_methU ?_
  | with_reducible refine r_test ?_ | with_reducible refine r_B ?_ | with_reducible refine r_and ?_ | with_reducible refine r_or ?_ | with_reducible refine r_not ?_ | with_reducible refine r_andV ?_ | with_reducible refine r_orV ?_ | with_reducible refine r_notV ?_ | with_reducible refine r_bl ?_ | with_reducible refine r_yes ?_ | with_reducible refine r_int ?_ | with_reducible refine r_is0 ?_ | with_reducible refine r_is1 ?_ | with_reducible refine iteT ?_ | with_reducible refine iteF ?_ | with_reducible refine ite_nF ?_ | with_reducible refine ite_nT ?_
  | with_reducible refine r_mod (by decide) ?_ | with_reducible refine r_div (by decide) (by decide) ?_ | with_reducible refine r_mulR (by decide) (by decide) ?_ | with_reducible refine r_mulL (by decide) (by decide) ?_ | with_reducible refine r_pow (by decide) (by decide) (by decide) ?_))
/-! ### nothing parts two orders exactly where they are alike -/
theorem plc_inj {zs : List Pr} {a b : Pr} (ha : a ∈ zs) (hb : b ∈ zs) (e : plc zs a = plc zs b) : a = b := by
  have h1 := plc_get ha
  rw [e, plc_get hb] at h1
  exact (Option.some.inj h1).symm
theorem dif_none {zs ys : List Pr} {p q : Pr} (h : difB zs ys p q = false) (s : shB p q = true) : (plc zs p < plc zs q ↔ plc ys p < plc ys q) := by
  unfold difB at h
  rw [show (decide (p.1 = q.1) || decide (p.2 = q.2)) = true from s, Bool.true_and] at h
  have e : decide (plc zs p < plc zs q) = decide (plc ys p < plc ys q) := by
    by_cases c : decide (plc zs p < plc zs q) = decide (plc ys p < plc ys q)
    · exact c
    · rw [decide_eq_false c] at h; cases h
  exact decide_eq_decide.mp e
theorem dif_of {zs ys : List Pr} {p q : Pr} (h : shB p q = true → (plc zs p < plc zs q ↔ plc ys p < plc ys q)) : difB zs ys p q = false := by
  unfold difB
  cases s : shB p q with
  | false => rw [show (decide (p.1 = q.1) || decide (p.2 = q.2)) = false from s]; rfl
  | true =>
    rw [decide_eq_decide.mpr (h s), decide_eq_true rfl]
    simp
theorem partI_none {zs ys : List Pr} {p : Pr} {qs : List Pr} : partI zs ys p qs = none ↔ ∀ q, q ∈ qs → difB zs ys p q = false := by
  unfold partI
  rw [List.findSome?_eq_none_iff]
  refine ⟨fun h q hq => ?_, fun h q hq => ?_⟩
  · have := h q hq
    cases e : difB zs ys p q with
    | false => rfl
    | true => rw [if_pos e] at this; cases this
  · rw [h q hq]; rfl
theorem bef_drop : ∀ {w : List Pr} {a b : Pr}, bef w a b ↔ ∃ k, w[k]? = some a ∧ b ∈ w.drop (k + 1)
  | [], a, b => ⟨fun h => absurd h bef_nil, fun ⟨k, e, _⟩ => by simp at e⟩
  | x :: w, a, b => by
    rw [bef_cons, bef_drop]
    constructor
    · rintro (⟨k, e, m⟩ | ⟨rfl, m⟩)
      · exact ⟨k + 1, e, m⟩
      · exact ⟨0, rfl, m⟩
    · rintro ⟨k, e, m⟩
      cases k with
      | zero => cases e; exact .inr ⟨rfl, m⟩
      | succ k => exact .inl ⟨k, e, m⟩
theorem partF_none {R : Rw} {zs ys : List Pr} : partF R zs ys = none ↔ ∀ p q, bef (cells R) p q → difB zs ys p q = false := by
  unfold partF partO
  rw [List.findSome?_eq_none_iff]
  constructor
  · intro h p q hb
    obtain ⟨k, e, m⟩ := bef_drop.mp hb
    have := h k (List.mem_range.mpr (List.getElem?_eq_some_iff.mp e).1)
    rw [e] at this
    exact partI_none.mp this q m
  · intro h k _
    cases e : (cells R)[k]? with
    | none => rfl
    | some p => exact partI_none.mpr fun q m => h p q (bef_drop.mpr ⟨k, e, m⟩)
theorem part_alk {R : Rw} {zs ys : List Pr} (pz : zs.Perm (cells R)) (py : ys.Perm (cells R)) : partF R zs ys = none ↔ Alk zs ys := by
  have nc := cells_nodup R
  have nz := pz.nodup_iff.mpr nc
  have ny := py.nodup_iff.mpr nc
  rw [partF_none]
  constructor
  · intro h
    refine ⟨pz.trans py.symm, fun a b s nab => ?_⟩
    by_cases ha : a ∈ cells R
    · by_cases hb : b ∈ cells R
      · have za := pz.mem_iff.mpr ha
        have zb := pz.mem_iff.mpr hb
        have ya := py.mem_iff.mpr ha
        have yb := py.mem_iff.mpr hb
        rw [bef_idx nz za zb, bef_idx ny ya yb]
        rcases bef_tot ha hb nab with g | g
        · exact dif_none (h a b g) s
        · have d := dif_none (h b a g) (by rw [shB_comm]; exact s)
          have i1 : zs.idxOf a ≠ zs.idxOf b := fun e => nab (plc_inj za zb e)
          have i2 : ys.idxOf a ≠ ys.idxOf b := fun e => nab (plc_inj ya yb e)
          unfold plc at d
          omega
      · exact ⟨fun g => absurd (pz.mem_iff.mp g.mem.2) hb, fun g => absurd (py.mem_iff.mp g.mem.2) hb⟩
    · exact ⟨fun g => absurd (pz.mem_iff.mp g.mem.1) ha, fun g => absurd (py.mem_iff.mp g.mem.1) ha⟩
  · intro h p q g
    refine dif_of fun s => ?_
    have m := g.mem
    have := h.or_ p q s (bef_ne nc g)
    rw [bef_idx nz (pz.mem_iff.mpr m.1) (pz.mem_iff.mpr m.2), bef_idx ny (py.mem_iff.mpr m.1) (py.mem_iff.mpr m.2)] at this
    exact this
theorem bef_take {zs : List Pr} {m : Nat} {z y : Pr} (nd : zs.Nodup) (ez : zs[m]? = some z) : bef zs y z ↔ y ∈ zs.take m := by
  have hm := (List.getElem?_eq_some_iff.mp ez).1
  have e : zs = zs.take m ++ z :: zs.drop (m + 1) := by
    have e2 := (List.getElem?_eq_some_iff.mp ez).2
    rw [← e2, ← List.drop_eq_getElem_cons hm, List.take_append_drop]
  have nd2 := nd
  rw [e] at nd2
  obtain ⟨n1, n2, n3⟩ := List.nodup_append.mp nd2
  have zu : z ∉ zs.take m := fun h => n3 z h z (List.mem_cons_self ..) rfl
  have zv := (List.nodup_cons.mp n2).1
  constructor
  · intro h
    rw [e, bef_app] at h
    rcases h with h | h | h
    · exact absurd h.mem.2 zu
    · rcases bef_cons.mp h with h | ⟨_, h⟩
      · exact absurd h.mem.2 zv
      · exact absurd h zv
    · exact h.1
  · intro h
    rw [e, bef_app]
    exact .inr (.inr ⟨h, List.mem_cons_self ..⟩)
theorem fre_at {zs : List Pr} {m : Nat} {z : Pr} (nd : zs.Nodup) (ez : zs[m]? = some z) : Fre zs z ↔ z.1 ∉ (zs.take m).map (·.1) ∧ z.2 ∉ (zs.take m).map (·.2) := by
  constructor
  · intro h
    constructor
    · intro i
      obtain ⟨y, hy, e⟩ := List.mem_map.mp i
      have := h.2 y ((bef_take nd ez).mpr hy)
      unfold shB at this
      rw [decide_eq_true e] at this
      cases this
    · intro i
      obtain ⟨y, hy, e⟩ := List.mem_map.mp i
      have := h.2 y ((bef_take nd ez).mpr hy)
      unfold shB at this
      rw [decide_eq_true e, Bool.or_true] at this
      cases this
  · rintro ⟨h1, h2⟩
    refine ⟨List.mem_of_getElem? ez, fun y hy => ?_⟩
    have my := (bef_take nd ez).mp hy
    unfold shB
    rw [decide_eq_false fun e => h1 (List.mem_map.mpr ⟨y, my, e⟩), decide_eq_false fun e => h2 (List.mem_map.mpr ⟨y, my, e⟩)]
    rfl
theorem pr_irr (a : Pr) : prLt a a = false := by
  unfold prLt
  simp
theorem pr_trans {a b c : Pr} (h : prLt a b = true) (g : prLt b c = true) : prLt a c = true := by
  unfold prLt at *
  simp at h g ⊢
  omega
theorem erase_idx {xs : List Pr} {n : Nat} {z : Pr} (nd : xs.Nodup) (e : xs[n]? = some z) : xs.eraseIdx n = xs.erase z := by
  obtain ⟨h, e2⟩ := List.getElem?_eq_some_iff.mp e
  have m : z ∈ xs := List.mem_of_getElem? e
  rw [List.erase_eq_eraseIdx_of_idxOf (i := n)]
  have hl := List.idxOf_lt_length_iff.mpr m
  have g := List.getElem_idxOf hl
  by_cases c : xs.idxOf z = n
  · exact c
  · exfalso
    rcases Nat.lt_or_gt_of_ne c with c | c
    · exact (List.pairwise_iff_getElem.mp nd) _ _ hl h c (g.trans e2.symm)
    · exact (List.pairwise_iff_getElem.mp nd) _ _ h hl c (e2.trans g.symm)
end Pk
set_option Elab.async false
set_option linter.all false
set_option maxRecDepth 100000
set_option maxHeartbeats 1000000
namespace Pk
open PySem L2 PySem.Spec PyProof.Rows
/-- list.remove, of a pair in a list of pairs -/
def rRemP (K : PySem.W.Frag) : V → List V → Hp → VK → Prop := fun x xs H Q => ∃ (a : Addr) (y : V) (us : List V) (z : Pr) (zs : List Pr) (j : Nat), x = V.ref a ∧ xs = [y] ∧ H a = some (.lst us) ∧ DpAll K H us (zs.map prD) ∧ Dp K H y (prD z) ∧ zs[j]? = some z ∧ (∀ m : Nat, m < j → zs[m]? ≠ some z) ∧ Q .non (upd H a (.lst (us.eraseIdx j)))
theorem place_pr : ∀ {zs : List Pr} {z : Pr} {j : Nat}, zs[j]? = some z → (∀ m : Nat, m < j → zs[m]? ≠ some z) → SeqAt.dataPlace (zs.map prD) (prD z) = some j := by
  intro zs z j hj hno
  unfold SeqAt.dataPlace
  rw [List.findIdx?_eq_some_iff_getElem]
  obtain ⟨h1, h2⟩ := List.getElem?_eq_some_iff.mp hj
  have eq : ∀ a b : Pr, PyData.eqv (prD a) (prD b) = decide (a = b) := fun a b => by
    have := PySem.W.any_datum (α := Int × Int) [a] b
    have e : ([a].map prD).any (fun y => PyData.eqv y (prD b)) = decide (b ∈ [a]) := this.trans (decide_eq_decide.mpr Iff.rfl)
    simp only [List.map_cons, List.map_nil, List.any_cons, List.any_nil, Bool.or_false, List.mem_singleton] at e
    rw [e]
    exact decide_eq_decide.mpr ⟨fun h => h.symm, fun h => h.symm⟩
  refine ⟨by rw [List.length_map]; exact h1, ?_, fun m hm => ?_⟩
  · rw [List.getElem_map, eq, h2]
    exact decide_eq_true rfl
  · rw [List.getElem_map, eq, decide_eq_true_eq]
    intro e
    exact hno m hm (by rw [List.getElem?_eq_getElem (by omega), e])
theorem vals_erase {vs : List V} {us : List Value} (r : Vals vs us) (j : Nat) : Vals (vs.eraseIdx j) (us.eraseIdx j) := r.eraseIdx j
theorem mt_removeP {X : Cx} (hu : X.A.units + 64 < cLine) : MtM X "list.remove" (rRemP X.K) := by
  intro pins s σ H x xs v us Q I rx rxs h
  obtain ⟨a, y, ws, z, zs, j, rfl, rfl, hH, hda, hy, hj, hno, q⟩ := h
  cases rx
  obtain ⟨u, rfl, ry⟩ := rxs.one
  obtain ⟨bs, r1⟩ := Dp.reads I (prD z) y u hy ry
  obtain ⟨z1, its, n, r, hl, e⟩ := I.lstM hH
  obtain ⟨as, h4⟩ := Dp.readsAll I _ _ its hda r
  have dp := prs_depthAll zs
  refine SeqAt.remove_list_data (vs := its.toArray) ⟨_, e, rfl, n, rfl⟩ (by simpa using h4) r1 (prs_plainAll zs) (pr_plain z) (by omega) (place_pr hj hno) (by rw [List.size_toArray]; omega) ?_
  have rr := r.eraseIdx j
  refine ⟨.non, _, I.lset (its' := its.eraseIdx j) (t' := s.toks) hH e ?_ rr ?_, rfl, q⟩
  · show its.toArray.eraseIdxIfInBounds j = (its.eraseIdx j).toArray
    rw [List.eraseIdxIfInBounds_toArray]
  · have : (ws.eraseIdx j).length ≤ ws.length := List.length_eraseIdx_le ..
    omega
end Pk
set_option Elab.async false
set_option linter.all false
set_option maxRecDepth 100000
set_option maxHeartbeats 4000000
namespace Pk
open PySem L2
local macro_rules | `(tactic| walk_at "rd") => `(tactic| repeat (first
  | with_reducible refine r_seq ?_ | with_reducible refine r_nxt ?_ | with_reducible refine r_asg ?_ | with_reducible refine r_to ?_ | with_reducible refine r_ret ?_ | with_reducible refine r_for ?_ | with_reducible refine r_lc ?_ | with_reducible refine r_lc2 ?_ | with_reducible refine r_rng1 ?_ | with_reducible refine r_list ?_ | with_reducible refine r_tupI ?_ | with_reducible refine r_drop ?_ | with_reducible refine r_ifs ?_
  | with_reducible refine r_op ?_ | with_reducible refine r_c ?_ | with_reducible refine r_var rfl ?_ | with_reducible refine r_var (by assumption) ?_ | with_reducible refine r_I0 ?_ | with_reducible refine r_un ?_ | with_reducible refine r_U ?_ | with_reducible refine r_make ?_ | with_reducible refine r_makeS ?_ | with_reducible refine r_ifE ?_ | with_reducible refine r_cm ?_ | with_reducible refine r_mkV rfl ?_ | with_reducible refine r_sub ?_
  | with_reducible refine r_nil ?_ | with_reducible refine r_cons ?_ | with_reducible refine r_cb ?_ | with_reducible refine r_sl ?_ | with_reducible refine r_noP ?_ | with_reducible refine r_part ?_ | with_reducible refine r_isI ?_ | with_reducible refine r_lst ?_ | with_reducible refine r_tup ?_ | with_reducible refine r_call ?_ | with_reducible refine r_callS ?_ | with_reducible refine r_sFldU ?_ | with_reducible refine r_chain ?_ | with_reducible refine r_enum ?_ | with_reducible refine r_zip ?_ | with_reducible refine r_rng3 ?_ | with_reducible refine r_gtup ?_ | with_reducible refine r_methU ?_
  | with_reducible refine r_test ?_ | with_reducible refine r_B ?_ | with_reducible refine r_and ?_ | with_reducible refine r_or ?_ | with_reducible refine r_not ?_ | with_reducible refine r_andV ?_ | with_reducible refine r_orV ?_ | with_reducible refine r_notV ?_ | with_reducible refine r_bl ?_ | with_reducible refine r_yes ?_ | with_reducible refine r_int ?_ | with_reducible refine r_is0 ?_ | with_reducible refine r_is1 ?_ | with_reducible refine iteT ?_ | with_reducible refine iteF ?_ | with_reducible refine ite_nF ?_ | with_reducible refine ite_nT ?_
  | with_reducible refine r_mod (by decide) ?_ | with_reducible refine r_div (by decide) (by decide) ?_ | with_reducible refine r_mulR (by decide) (by decide) ?_ | with_reducible refine r_mulL (by decide) (by decide) ?_ | with_reducible refine r_pow (by decide) (by decide) (by decide) ?_))
/-! ### the least pair that may stand first; the normal order -/
theorem r_par2 {i j : Nat} {ta : TA} {D : Ends} {σ : L2.St} {H : Hp} (h : ta σ H fun vs H1 => ∃ v w, vs = [v, w] ∧ D.nx ((σ.set i (some v)).set j (some w)) H1) : tPar i j ta D σ H := h
def spLeastF : Sp := fun vs H Q _ => ∃ (p l : Addr) (us : List V) (zs : List Pr), vs = [.ref l] ∧ H l = some (.lst us) ∧ PrsAt p H us zs ∧ zs ≠ [] ∧ zs.length ≤ 64 ∧ zs.Nodup ∧ (∃ o, H p = some o) ∧
  ∀ (v : V) (z : Pr) (H' : Hp), Same H H' → PrAt p H' v z → Fre zs z → (∀ y, Fre zs y → prLt y z = false) → Q v H'
def spNormal (C CO CEO : Addr) : Sp := fun vs H Q E => ∃ (p x a : Addr) (G : Hp) (R : Rw) (zs : List Pr), vs = [.ref x, .ref a] ∧ OrW p C CO H x a G R zs ∧ ((zs.Perm (cells R) ∧ ∀ (b : Addr) (ys : List Pr) (H' : Hp), Same H H' → NF zs ys → (∃ dx q, OrX p CO H' b dx q ys) → Q (.ref b) H') ∨
  (BadO R zs ∧ ∀ (dd : Addr) (H' : Hp), Same H H' → H dd = none → H' dd = some (.xd [("at", .int (-1))]) → E (.ref CEO) (some dd) H'))
theorem PrAt.mono1 {p : Addr} {H H' : Hp} {v : V} {z : Pr} (h : PrAt p H v z) (k : ∀ t xs, H t = some (.tup xs) → H' t = some (.tup xs)) : PrAt p H' v z := by
  obtain ⟨t, e, tp, ht⟩ := h
  exact ⟨t, e, tp, k _ _ ht⟩
theorem flatI : ∀ ns : List Int, (ns.map V.int).all flatV = true
  | [] => rfl
  | n :: ns => by rw [List.map_cons, List.all_cons, flatI ns]; rfl
theorem inV_intsN (m : Int) : ∀ ms : List Int, inV (.int m) (ms.map V.int) = decide (m ∈ ms)
  | [] => by simp [inV]
  | n :: ms => by
    have ih := inV_intsN m ms
    simp only [inV, List.map_cons, List.any_cons] at ih ⊢
    rw [ih, show eqV (.int n) (.int m) = decide (n = m) from rfl]
    by_cases e : n = m
    · simp [e]
    · have e2 : ¬ m = n := fun z => e z.symm
      simp [e, e2]
theorem pr_ltT (x y : Pr) : PySem.W.dataLt (prD x) (prD y) = prLt x y := by
  by_cases c : x = y
  · subst c
    rw [prLt_irr]
    obtain ⟨a, b⟩ := x
    show PySem.W.dataLt (.tuple [.int a, .int b]) (.tuple [.int a, .int b]) = _
    rw [PySem.W.dataLt_tuple, PySem.W.dataLt_all_yes rfl (by simp [PyData.eqv]), PySem.W.dataLt_all_yes rfl (by simp [PyData.eqv])]
    decide +kernel
  · exact pr_lt x y c
abbrev slLeastF : Stmt := top 23
abbrev slNormal : Stmt := top 24
section
variable {P : Program} {w : World} {K : PySem.W.Frag} {mg : Str → Option Value} {base : Heap} {C CO CEO f aK : Addr} {fd : FuncData}
theorem two_app {K : PySem.W.Frag} {D : Ends} {l u a b : V} {D1 D2 : Addr} {H : Hp} {xs ys : List V} (h1 : H D1 = some (.lst xs)) (h2 : H D2 = some (.lst ys)) (ne : D1 ≠ D2) (l1 : xs.length < sizeLine) (l2 : ys.length < sizeLine)
    (k : D.nx [some l, some u, some (.ref D1), some (.ref D2), some a, some b] (upd (upd H D1 (.lst (xs ++ [a]))) D2 (.lst (ys ++ [b])))) :
    tSeq (tDrop (tBM K "list" rAppend (tVar 2) (tCons (tVar 4) tNil))) (tDrop (tBM K "list" rAppend (tVar 3) (tCons (tVar 5) tNil))) D [some l, some u, some (.ref D1), some (.ref D2), some a, some b] H := by
  walk_at "rd"
  refine r_bm ?_
  walk_at "rd"
  refine ⟨.inl ⟨rfl, _, SqL.of h1⟩, ?_⟩
  walk_at "rd"
  refine ⟨D1, xs, _, rfl, rfl, h1, l1, ?_⟩
  have h2' : upd H D1 (.lst (xs ++ [a])) D2 = some (.lst ys) := by rw [upd_ne ne.symm]; exact h2
  walk_at "rd"
  refine r_bm ?_
  walk_at "rd"
  refine ⟨.inl ⟨rfl, _, SqL.of h2'⟩, ?_⟩
  walk_at "rd"
  exact ⟨D2, ys, _, rfl, rfl, h2', l2, k⟩
theorem sclLeastF : FnScope ["left", "found", "stocks", "wishes", "i", "j"] ["left"] (defScope slLeastF) := ⟨rfl, rfl, rfl, by decide +kernel, rfl, by decide +kernel, by decide +kernel⟩
theorem ok_leastF (F : Fun K "least_first" "least_first" slLeastF f fd) : FnOk P w K mg base CX0 1 f fd ["left"] spLeastF := by
  refine F.ok sclLeastF (fun vs H Q E h => ?_) (fun cdv A' outer s H vs Q E hr h => ?_)
  · obtain ⟨p, l, us, zs, rfl, _⟩ := h
    rfl
  · obtain ⟨p, l, us, zs, rfl, hl, pu, ne, z64, znd, ⟨op, hop⟩, k⟩ := h
    have ul := pu.length
    refine ⟨_, (pss_cons (ps_par3 (i := 1) (j := 2) (l := 3) rfl sclLeastF.nd rfl rfl rfl (by decide) (by decide) (by decide) rfl rfl rfl (pa_cons (pe_ix ix_list (pv 0) pe_int (fun _ _ => rfl)) (pa_cons (pe_lst pa_nil) (pa_cons (pe_lst pa_nil) pa_nil))) rfl)
  (pss_cons (ps_for PassesOwn.never rfl (pi_list (pv 0)) (pg_tup (by rfl) (pgs_cons (pg_name (i := 4) sclLeastF.nd rfl (Or.inl rfl)) (pgs_cons (pg_name (i := 5) sclLeastF.nd rfl (Or.inl rfl)) pgs_nil))) (pss_cons (ps_if (PW.pt (pw_and (pt_cmpR op_notIn_seq (pv 4) (pv 2) (by rfl)) (pw_and (pt_cmpR op_notIn_seq (pv 5) (pv 3) (by rfl)) (pw_and1 (pt_cmpR (op_ltD hr.units) (pe_tup (pa_cons (pv 4) (pa_cons (pv 5) pa_nil))) (pv 1) (nomark _)))))) (pss_one (ps_set (i := 1) sclLeastF.nd rfl (Or.inl rfl) (pe_tup (pa_cons (pv 4) (pa_cons (pv 5) pa_nil))))) pss_nil)
  (pss_cons (ps_expr (pe_bm PySem.F.plainAttrs_list PySem.F.slot_list_append PySem.F.type_list_append mt_append (pv 2) (pa_cons (pv 4) pa_nil)))
  (pss_one (ps_expr (pe_bm PySem.F.plainAttrs_list PySem.F.slot_list_append PySem.F.type_list_append mt_append (pv 3) (pa_cons (pv 5) pa_nil)))))))
  (pss_one (ps_ret (pv 1))))), ?_⟩
    walk_at "rd"
    obtain ⟨z0, ez0⟩ : ∃ z0, zs[0]? = some z0 := by
      cases zs with
      | nil => exact absurd rfl ne
      | cons z0 _ => exact ⟨z0, rfl⟩
    obtain ⟨v0, ev0, pv0⟩ := pu.get ez0
    have fz0 : Fre zs z0 := by
      cases zs with
      | nil => cases ez0
      | cons a l => cases ez0; exact fre_head znd
    refine r_par3p ?_
    walk_at "rd"
    refine r_ixL (SqL.of hl) (atI_nat (j := 0) ev0) ?_
    walk_at "rd"
    refine ⟨by show 0 ≤ sizeLine; decide, fun D1 nD1 => ?_⟩
    have s1 := Same.up (o := .lst []) (Same.refl H) nD1
    have hD1 : upd H D1 (.lst []) D1 = some (.lst []) := upd_same
    obtain ⟨H1, eH1⟩ : ∃ H1, H1 = upd H D1 (.lst []) := ⟨_, rfl⟩
    rw [← eH1] at s1 hD1 ⊢
    walk_at "rd"
    refine ⟨by show 0 ≤ sizeLine; decide, fun D2 nD2 => ?_⟩
    have s2' := Same.up (o := .lst []) (Same.refl H1) nD2
    have s2 := s1.trans s2'
    have hD2 : upd H1 D2 (.lst []) D2 = some (.lst []) := upd_same
    have D12 : D1 ≠ D2 := fun z => by rw [← z, hD1] at nD2; cases nD2
    have hD1 := s2' _ _ hD1
    obtain ⟨H2, eH2⟩ : ∃ H2, H2 = upd H1 D2 (.lst []) := ⟨_, rfl⟩
    rw [← eH2] at s2 hD1 hD2 ⊢
    have nD2 := s1.free nD2
    walk_at "rd"
    refine ⟨_, _, _, rfl, ?_⟩
    walk_at "rd"
    refine ⟨l, rfl, ⟨_, SqL.of (s2 _ _ hl)⟩, for_it walk_list (fun m σ H' => ∃ (fnd : V) (zf : Pr) (as bs : List Int) (v4 v5 : Option V), σ = [some (.ref l), some fnd, some (.ref D1), some (.ref D2), v4, v5] ∧ Same H H' ∧ H' D1 = some (.lst (as.map V.int)) ∧ H' D2 = some (.lst (bs.map V.int)) ∧ as = (zs.take m).map (·.1) ∧ bs = (zs.take m).map (·.2) ∧ PrAt p H' fnd zf ∧ Fre zs zf ∧ ∀ k, k < m → ∀ y, zs[k]? = some y → Fre zs y → prLt y zf = false)
      ⟨v0, z0, [], [], none, none, rfl, s2, hD1, hD2, rfl, rfl, pv0.keep (Keep.same s2), fz0, fun k hk => absurd hk (Nat.not_lt_zero k)⟩ (fun m σ H' _ z => by obtain ⟨_, _, _, _, _, _, _, z, _⟩ := z; exact SqL.of (z _ _ hl)) ?_ ?_⟩
    · rintro m y σ H30 H3 hm ⟨fnd, zf, as, bs, v4, v5, rfl, s3, h1, h2, ea, eb, pf, fz, bd⟩ ⟨rfl, ey⟩
      have ml : m < 64 := by
        have : m < us.length := hm
        omega
      obtain ⟨z, ez, pz⟩ := pu.at ey
      obtain ⟨t, rfl, tp, ht⟩ := id (pz.keep (Keep.same s3))
      have ml2 := (List.getElem?_eq_some_iff.mp ez).1
      have al : as.length = m := by rw [ea, List.length_map, List.length_take]; omega
      have bl : bs.length = m := by rw [eb, List.length_map, List.length_take]; omega
      have fr := fre_at znd ez
      rw [← ea, ← eb] at fr
      have bdN : ∀ zu : Pr, prLt z zu = false ∨ ¬ Fre zs z → (∀ k, k < m → ∀ y, zs[k]? = some y → Fre zs y → prLt y zu = false) → ∀ k, k < m + 1 → ∀ y, zs[k]? = some y → Fre zs y → prLt y zu = false := fun zu h g k hk y eyy fy => by
        by_cases c : k = m
        · subst c
          rw [ez] at eyy
          cases eyy
          exact h.elim id fun n => absurd fy n
        · exact g k (by omega) y eyy fy
      refine r_gtup ⟨t, _, rfl, SqT.of ht, rfl, _, _, rfl, ?_⟩
      walk_at "rd"
      refine ⟨_, _, rfl, ?_⟩
      walk_at "rd"
      refine ⟨rfl, ?_⟩
      have nL : ∀ (H4 : Hp) (u : V) (zu : Pr), Same H H4 → H4 D1 = some (.lst (as.map V.int)) → H4 D2 = some (.lst (bs.map V.int)) → PrAt p H4 u zu → Fre zs zu → (∀ k, k < m + 1 → ∀ y, zs[k]? = some y → Fre zs y → prLt y zu = false) →
          (fun m σ H' => ∃ (fnd : V) (zf : Pr) (as bs : List Int) (v4 v5 : Option V), σ = [some (.ref l), some fnd, some (.ref D1), some (.ref D2), v4, v5] ∧ Same H H' ∧ H' D1 = some (.lst (as.map V.int)) ∧ H' D2 = some (.lst (bs.map V.int)) ∧ as = (zs.take m).map (·.1) ∧ bs = (zs.take m).map (·.2) ∧ PrAt p H' fnd zf ∧ Fre zs zf ∧ ∀ k, k < m → ∀ y, zs[k]? = some y → Fre zs y → prLt y zf = false) (m + 1) [some (.ref l), some u, some (.ref D1), some (.ref D2), some (.int z.1), some (.int z.2)] (upd (upd H4 D1 (.lst (as.map V.int ++ [.int z.1]))) D2 (.lst (bs.map V.int ++ [.int z.2]))) := by
        intro H4 u zu s4 g1 g2 pu4 zm4 bd4
        refine ⟨u, zu, as ++ [z.1], bs ++ [z.2], _, _, rfl, Same.upOff (Same.upOff s4 nD1) nD2, ?_, ?_, ?_, ?_, ?_, zm4, bd4⟩
        · rw [upd_ne D12, upd_same, List.map_append]; rfl
        · rw [upd_same, List.map_append]; rfl
        · rw [List.take_add_one, ez, List.map_append, ← ea]; rfl
        · rw [List.take_add_one, ez, List.map_append, ← eb]; rfl
        · refine pu4.mono1 fun c xs e => ?_
          rw [upd_ne (fun z => by rw [z, g2] at e; cases e), upd_ne (fun z => by rw [z, g1] at e; cases e)]
          exact e
      have la : (as.map V.int).length < sizeLine := Nat.lt_of_lt_of_le (show _ < 65 by rw [List.length_map]; omega) (by decide)
      have lb : (bs.map V.int).length < sizeLine := Nat.lt_of_lt_of_le (show _ < 65 by rw [List.length_map]; omega) (by decide)
      walk_at "rd"
      refine ⟨D1, _, rfl, .inl (SqL.of h1), rfl, flatI _, ?_⟩
      walk_at "rd"
      by_cases c1 : inV (V.int z.1) (as.map V.int) = true
      · refine ifF (by rw [c1]; rfl) ?_
        exact two_app h1 h2 D12 la lb (nL H3 fnd zf s3 h1 h2 pf fz (bdN zf (.inr fun f => (fr.mp f).1 (by rw [inV_intsN] at c1; exact of_decide_eq_true c1)) bd))
      · refine ifT (by rw [Bool.eq_false_iff.mpr c1]; rfl) ?_
        walk_at "rd"
        refine ⟨D2, _, rfl, .inl (SqL.of h2), rfl, flatI _, ?_⟩
        walk_at "rd"
        by_cases c2 : inV (V.int z.2) (bs.map V.int) = true
        · refine ifF (by rw [c2]; rfl) ?_
          exact two_app h1 h2 D12 la lb (nL H3 fnd zf s3 h1 h2 pf fz (bdN zf (.inr fun f => (fr.mp f).2 (by rw [inV_intsN] at c2; exact of_decide_eq_true c2)) bd))
        · refine ifT (by rw [Bool.eq_false_iff.mpr c2]; rfl) ?_
          have fz1 : Fre zs z := fr.mpr ⟨fun i => c1 (by rw [inV_intsN]; exact decide_eq_true i), fun i => c2 (by rw [inV_intsN]; exact decide_eq_true i)⟩
          walk_at "rd"
          refine ⟨by show 2 ≤ sizeLine; decide, fun t4 n4 => ?_⟩
          have s4' := Same.up (o := .tup [V.int z.1, V.int z.2]) (Same.refl H3) n4
          have t4p : t4 ≠ p := fun z => by rw [z, s3 _ _ hop] at n4; cases n4
          have pz4 : PrAt p (upd H3 t4 (.tup [V.int z.1, V.int z.2])) (.ref t4) z := ⟨t4, rfl, t4p, upd_same⟩
          have pf4 := pf.keep (Keep.same s4')
          have h14 := s4' _ _ h1
          have h24 := s4' _ _ h2
          have s4 := s3.trans s4'
          obtain ⟨H4, eH4⟩ : ∃ H4, H4 = upd H3 t4 (.tup [V.int z.1, V.int z.2]) := ⟨_, rfl⟩
          rw [← eH4] at s4 pz4 pf4 h14 h24 ⊢
          walk_at "rd"
          refine ⟨prD z, prD zf, ⟨pz4.dp, pf4.dp, pr_alike _ _, (fun z => by cases z), Nat.le_trans (pr_depth _) (by decide)⟩, ?_⟩
          walk_at "rd"
          by_cases c3 : PySem.W.dataLt (prD z) (prD zf) = true
          · refine ifT c3 ?_
            walk_at "rd"
            refine ⟨by show 2 ≤ sizeLine; decide, fun t5 n5 => ?_⟩
            have s5' := Same.up (o := .tup [V.int z.1, V.int z.2]) (Same.refl H4) n5
            have t5p : t5 ≠ p := fun z => by rw [z, s4 _ _ hop] at n5; cases n5
            exact two_app (s5' _ _ h14) (s5' _ _ h24) D12 la lb (nL _ (.ref t5) z (s4.trans s5') (s5' _ _ h14) (s5' _ _ h24) ⟨t5, rfl, t5p, upd_same⟩ fz1 (bdN z (.inl (prLt_irr z)) fun k hk y ey fy => by
              have h1 := bd k hk y ey fy
              cases e : prLt y z with
              | false => rfl
              | true =>
                rw [pr_ltT] at c3
                rw [prLt_trans e c3] at h1
                cases h1))
          · refine ifF (Bool.eq_false_iff.mpr c3) ?_
            exact two_app h14 h24 D12 la lb (nL H4 fnd zf s4 h14 h24 pf4 fz (bdN zf (.inl (by rw [pr_ltT] at c3; exact Bool.eq_false_iff.mpr c3)) bd))
    · rintro σ H3 ⟨fnd, zf, as, bs, v4, v5, rfl, s3, h1, h2, ea, eb, pf, fz, bd⟩
      walk_at "rd"
      refine k _ _ _ s3 pf fz fun y fy => ?_
      obtain ⟨n, hn, en⟩ := List.getElem_of_mem fy.1
      exact bd n (by rw [ul]; exact hn) y (by rw [List.getElem?_eq_getElem hn, en]) fy
theorem sclNormal : FnScope ["table", "order", "left", "found", "pair"] ["table", "order"] (defScope slNormal) := ⟨rfl, rfl, rfl, by decide +kernel, rfl, by decide +kernel, by decide +kernel⟩
theorem BadO.perm {R : Rw} {zs : List Pr} (h : zs.Perm (cells R)) (g : Gt R) : Gp zs := ⟨h.nodup_iff.mpr (cells_nodup R), fun z hz => by
  obtain ⟨i, j, rfl, hi, hj, _⟩ := cells_nat (h.mem_iff.mp hz)
  have h8 := g.h8
  have w8 := g.w8
  exact ⟨by show (0 : Int) ≤ (i : Int); omega, by show (i : Int) < 8; omega, by show (0 : Int) ≤ (j : Int); omega, by show (j : Int) < 8; omega⟩, by rw [h.length_eq]; exact cells_len g⟩
theorem ok_normal {fQ : Addr} {fdQ : FuncData} (F : Fun K "normal" "normal" slNormal f fd) (O : OwnC K CO) (mQ : Meth K CO "pairs" fQ) (oQ : FnOk P w K mg base CX0 1 fQ fdQ ["self"] (spPairsO CO)) (bQ : Binds K fdQ ["self"] [])
    (DC : Df P w K mg base (L2.CX P w) "check_order" 6 ["table", "order"] (spChOX C CO CEO)) (DL : Df P w K mg base CX0 "least_first" 1 ["left"] spLeastF) (DO : Dk P w K mg base (L2.CX P w) "Order" 8 ["self", "pairs"] (spOrIF K CO CEO) CO) :
    FnOk P w K mg base (L2.CX P w) 10 f fd ["table", "order"] (spNormal C CO CEO) := by
  refine F.okX sclNormal (fun vs H Q E h => ?_) (fun cdv A' outer s H vs Q E hr h => ?_)
  · obtain ⟨p, x, a, G, R, zs, rfl, _⟩ := h
    rfl
  · obtain ⟨p, x, a, G, R, zs, rfl, L, k⟩ := h
    have hr1 := hr.mono (show 1 ≤ 9 by decide)
    refine ⟨_, (pss_cons (ps_expr (pe_dfS (takes_of rfl rfl rfl rfl) DC hr (by decide) (pa_cons (pv 0) (pa_cons (pv 1) pa_nil))))
  (pss_cons (ps_par (i := 2) (j := 3) rfl sclNormal.nd rfl rfl (by decide) rfl rfl (pa_cons (pe_meth0 (pv 1) O.cl mQ oQ hr1 bQ .nil pass0) (pa_cons (pe_lst pa_nil) pa_nil)) rfl)
  (pss_cons (ps_while (passes_of rfl) (pt_truth (pv 2) (fun _ => rfl)) (pss_cons (ps_set (i := 4) sclNormal.nd rfl (Or.inl rfl) (pe_df DL hr (by decide) (pa_cons (pv 2) pa_nil)))
  (pss_cons (ps_expr (pe_bm PySem.F.plainAttrs_list PySem.F.slot_list_remove PySem.F.type_list_remove (mt_removeP hr.units) (pv 2) (pa_cons (pv 4) pa_nil)))
  (pss_one (ps_expr (pe_bm PySem.F.plainAttrs_list PySem.F.slot_list_append PySem.F.type_list_append mt_append (pv 3) (pa_cons (pv 4) pa_nil)))))))
  (pss_one (ps_ret (pe_dkS (takes_of rfl rfl rfl rfl) DO hr (by decide) (pa_cons (pv 3) pa_nil))))))), ?_⟩
    walk_at "rd"
    refine ⟨p, x, a, G, R, zs, rfl, L, ?_⟩
    rcases k with ⟨pm, k⟩ | ⟨bad, k⟩
    · refine .inl ⟨pm, fun H1 s1 => ?_⟩
      have L1 := L.same s1
      have g := L.t.g
      have gp := BadO.perm pm g
      obtain ⟨dx, q, X⟩ := id L1.o
      obtain ⟨op, hop⟩ := id L1.pp
      obtain ⟨naq, us, haq, hus⟩ := id X.l
      have z64 := L.l64
      walk_at "rd"
      refine r_par2 ?_
      walk_at "rd"
      refine ⟨a, dx, _, rfl, X.o, one_no (by decide +kernel), ?_⟩
      walk_at "rd"
      refine ⟨p, a, dx, q, zs, us, rfl, X, haq, fun r2 nr2 => ?_⟩
      have s2 := Same.up (o := .lst us) (Same.refl H1) nr2
      have hr2' : upd H1 r2 (.lst us) r2 = some (.lst us) := upd_same
      have hu2 := hus.keep (Keep.same s2)
      obtain ⟨H2, eH2⟩ : ∃ H2, H2 = upd H1 r2 (.lst us) := ⟨_, rfl⟩
      rw [← eH2] at s2 hr2' hu2 ⊢
      walk_at "rd"
      refine ⟨by show 0 ≤ sizeLine; decide, fun D nD => ?_⟩
      have s3' := Same.up (o := .lst []) (Same.refl H2) nD
      have hD3 : upd H2 D (.lst []) D = some (.lst []) := upd_same
      have hr3 := s3' _ _ hr2'
      have hu3 := hu2.keep (Keep.same s3')
      have Dr : D ≠ r2 := fun z => by rw [z, hr2'] at nD; cases nD
      have s3 := s2.trans s3'
      have Dp' : D ≠ p := fun z => by have := s2.free nD; rw [z, hop] at this; cases this
      have nD1 := s2.free nD
      obtain ⟨H3, eH3⟩ : ∃ H3, H3 = upd H2 D (.lst []) := ⟨_, rfl⟩
      rw [← eH3] at s3 hD3 hr3 hu3 ⊢
      walk_at "rd"
      refine ⟨_, _, rfl, ?_⟩
      walk_at "rd"
      refine while_by (fun σ H' => ∃ xs ys ws vs v4, σ = [some (.ref x), some (.ref a), some (.ref r2), some (.ref D), v4] ∧ Same H1 H' ∧ H' r2 = some (.lst ws) ∧ PrsAt p H' ws xs ∧ H' D = some (.lst vs) ∧ PrsAt p H' vs ys ∧ (ys ++ xs).Perm zs ∧ ∀ n, NF xs n → NF zs (ys ++ n))
        (fun σ H' => match H' r2 with | some (.lst ws) => ws.length | _ => 0)
        ⟨zs, [], us, [], _, rfl, s3, hr3, hu3, hD3, .nil, List.Perm.refl _, fun _ h => h⟩ ?_ (fun σ H Q Q' h ⟨v, e, k, tr, q⟩ => ⟨v, e, k, tr, h _ _ q⟩)
      rintro σ H4 ⟨xs, ys, ws, vs, v4, rfl, s4, h2, pw, hD, pv, pxy, nf⟩
      walk_at "rd"
      have lxy := pxy.length_eq
      rw [List.length_append] at lxy
      have wl := pw.length
      have vl := pv.length
      have hop4 := s4 _ _ hop
      refine ⟨!ws.isEmpty, .inl ⟨ws, SqL.of h2, rfl⟩, ?_⟩
      cases ws with
      | nil =>
        obtain rfl : xs = [] := List.eq_nil_of_length_eq_zero wl.symm
        rw [List.append_nil] at pxy
        refine ifF rfl ?_
        walk_at "rd"
        intro b dy ny nd ne
        show spOrIF K CO CEO [V.ref b, V.ref D] _ _ _
        exact mk_or ny nd ne ⟨op, hop4⟩ ⟨Dp', vs, hD, pv⟩ ⟨pxy.nodup_iff.mpr gp.nd, fun z hz => gp.rg z (pxy.mem_iff.mp hz), by rw [pxy.length_eq]; exact gp.len⟩ fun H5 q5 s5 X5 => k b ys H5 (s1.trans (s4.trans s5)) (by have := nf [] .nil; rw [List.append_nil] at this; exact this) ⟨dy, q5, X5⟩
      | cons w0 ws0 =>
        refine ifT rfl ?_
        walk_at "rd"
        have xne : xs ≠ [] := fun z => by rw [z] at wl; cases wl
        have xnd : xs.Nodup := (List.nodup_append.mp (pxy.nodup_iff.mpr gp.nd)).2.1
        refine ⟨p, r2, _, xs, rfl, h2, pw, xne, by omega, xnd, ⟨op, hop4⟩, fun v z H5 s5 pz fz lz => ?_⟩
        have zm := fz.1
        obtain ⟨ws, ews⟩ : ∃ ws, ws = w0 :: ws0 := ⟨_, rfl⟩
        rw [← ews] at wl h2 pw
        have h5 := s5 _ _ h2
        have hD5 := s5 _ _ hD
        have pw5 := pw.keep (Keep.same s5)
        have pv5 := pv.keep (Keep.same s5)
        have s15 := s4.trans s5
        obtain ⟨n, hn, en⟩ := List.getElem_of_mem zm
        have ez : xs[n]? = some z := by rw [List.getElem?_eq_getElem hn, en]
        have noB : ∀ m, m < n → xs[m]? ≠ some z := fun m hm e => by
          obtain ⟨h1, h2⟩ := List.getElem?_eq_some_iff.mp e
          exact (List.pairwise_iff_getElem.mp xnd) m n h1 hn hm (h2.trans en.symm)
        walk_at "rd"
        refine r_bm ?_
        walk_at "rd"
        refine ⟨.inl ⟨rfl, _, SqL.of h5⟩, ?_⟩
        walk_at "rd"
        refine ⟨r2, _, ws, z, xs, n, rfl, rfl, h5, pw5.dp, pz.dp, ez, noB, ?_⟩
        have r1n : H1 r2 = none := nr2
        have s6 : Same H1 (upd H5 r2 (.lst (ws.eraseIdx n))) := fun c o e => by
          rw [upd_ne (fun z => by rw [z, r1n] at e; cases e)]
          exact s15 _ _ e
        have nt : ∀ c xs, H5 c = some (.tup xs) → upd H5 r2 (.lst (ws.eraseIdx n)) c = some (.tup xs) := fun c xs e => by
          rw [upd_ne (fun z => by rw [z, h5] at e; cases e)]
          exact e
        have pw6 := (pw5.eraseI n).mono nt
        have pv6 := pv5.mono nt
        have pz6 := pz.mono1 nt
        have h6 : upd H5 r2 (.lst (ws.eraseIdx n)) r2 = some (.lst (ws.eraseIdx n)) := upd_same
        have hD6 : upd H5 r2 (.lst (ws.eraseIdx n)) D = some (.lst vs) := by rw [upd_ne Dr]; exact hD5
        obtain ⟨H6, eH6⟩ : ∃ H6, H6 = upd H5 r2 (.lst (ws.eraseIdx n)) := ⟨_, rfl⟩
        rw [← eH6] at s6 pw6 pv6 pz6 h6 hD6 ⊢
        walk_at "rd"
        refine r_bm ?_
        walk_at "rd"
        refine ⟨.inl ⟨rfl, _, SqL.of hD6⟩, ?_⟩
        walk_at "rd"
        refine ⟨D, vs, _, rfl, rfl, hD6, Nat.lt_of_lt_of_le (show vs.length < 65 by omega) (by decide), ?_⟩
        have nt7 : ∀ c xs, H6 c = some (.tup xs) → upd H6 D (.lst (vs ++ [v])) c = some (.tup xs) := fun c xs e => by
          rw [upd_ne (fun z => by rw [z, hD6] at e; cases e)]
          exact e
        have h7 : upd H6 D (.lst (vs ++ [v])) r2 = some (.lst (ws.eraseIdx n)) := by rw [upd_ne Dr.symm]; exact h6
        refine ⟨⟨xs.eraseIdx n, ys ++ [z], ws.eraseIdx n, vs ++ [v], _, rfl, Same.upOff s6 nD1, h7, pw6.mono nt7, upd_same, (pv6.mono nt7).app (.cons (pz6.mono1 nt7) .nil), ?_, fun n' h => ?_⟩, ?_⟩
        · rw [List.append_assoc]
          exact ((erase_perm ez).append_left ys).trans pxy
        · rw [List.append_assoc]
          rw [erase_idx xnd ez] at h
          exact nf (z :: n') (.cons z fz lz h)
        · rw [h7]
          show (ws.eraseIdx n).length < (match H4 r2 with | some (.lst ws) => ws.length | _ => 0)
          rw [h2]
          show (ws.eraseIdx n).length < ws.length
          rw [List.length_eraseIdx_of_lt (by omega)]
          omega
    · exact .inr ⟨bad, fun dd H' s h1 h2 => k dd H' s h1 h2⟩
end
end Pk
set_option Elab.async false
set_option linter.all false
set_option maxRecDepth 100000
set_option maxHeartbeats 4000000
namespace Pk
open PySem L2
local macro_rules | `(tactic| walk_at "rd") => `(tactic| repeat (first
  | with_reducible refine r_seq ?_ | with_reducible refine r_nxt ?_ | with_reducible refine r_asg ?_ | with_reducible refine r_to ?_ | with_reducible refine r_ret ?_ | with_reducible refine r_for ?_ | with_reducible refine r_lc ?_ | with_reducible refine r_lc2 ?_ | with_reducible refine r_rng1 ?_ | with_reducible refine r_list ?_ | with_reducible refine r_tupI ?_ | with_reducible refine r_drop ?_ | with_reducible refine r_ifs ?_
  | with_reducible refine r_op ?_ | with_reducible refine r_c ?_ | with_reducible refine r_var rfl ?_ | with_reducible refine r_var (by assumption) ?_ | with_reducible refine r_I0 ?_ | with_reducible refine r_un ?_ | with_reducible refine r_U ?_ | with_reducible refine r_make ?_ | with_reducible refine r_makeS ?_ | with_reducible refine r_ifE ?_ | with_reducible refine r_cm ?_ | with_reducible refine r_mkV rfl ?_ | with_reducible refine r_sub ?_
  | with_reducible refine r_nil ?_ | with_reducible refine r_cons ?_ | with_reducible refine r_cb ?_ | with_reducible refine r_sl ?_ | with_reducible refine r_noP ?_ | with_reducible refine r_part ?_ | with_reducible refine r_isI ?_ | with_reducible refine r_lst ?_ | with_reducible refine r_tup ?_ | with_reducible refine r_call ?_ | with_reducible refine r_callS ?_ | with_reducible refine r_sFldU ?_ | with_reducible refine r_chain ?_ | with_reducible refine r_enum ?_ | with_reducible refine r_zip ?_ | with_reducible refine r_rng3 ?_ | with_reducible refine r_gtup ?_ | with_reducible refine r_methU ?_
  | with_reducible refine r_test ?_ | with_reducible refine r_B ?_ | with_reducible refine r_and ?_ | with_reducible refine r_or ?_ | with_reducible refine r_not ?_ | with_reducible refine r_andV ?_ | with_reducible refine r_orV ?_ | with_reducible refine r_notV ?_ | with_reducible refine r_bl ?_ | with_reducible refine r_yes ?_ | with_reducible refine r_int ?_ | with_reducible refine r_is0 ?_ | with_reducible refine r_is1 ?_ | with_reducible refine iteT ?_ | with_reducible refine iteF ?_ | with_reducible refine ite_nF ?_ | with_reducible refine ite_nT ?_
  | with_reducible refine r_mod (by decide) ?_ | with_reducible refine r_div (by decide) (by decide) ?_ | with_reducible refine r_mulR (by decide) (by decide) ?_ | with_reducible refine r_mulL (by decide) (by decide) ?_ | with_reducible refine r_pow (by decide) (by decide) (by decide) ?_))
/-! ### the law's own parting -/
def spLPart (K : PySem.W.Frag) : Sp := fun vs H Q _ => ∃ (p s a b : Addr) (us ws xs : List V) (R : Rw) (zs ys : List Pr), vs = [.ref s, .ref a, .ref b] ∧ Gt R ∧ H s = some (.lst us) ∧ PrsAt p H us (cells R) ∧ H a = some (.lst ws) ∧ PrsAt p H ws zs ∧ H b = some (.lst xs) ∧ PrsAt p H xs ys ∧ zs.Perm (cells R) ∧ ys.Perm (cells R) ∧ (∃ o, H p = some o) ∧
  ∀ (u : V) (H' : Hp), Same H H' → PartAt p H' u (partF R zs ys) → Q u H'
theorem r_idxD {K : PySem.W.Frag} {p r q : Addr} {y : V} {zs : List Pr} {z : Pr} {us : List V} {H : Hp} {Q : VK} (hq : H q = some (.lst us)) (hv : PrsAt p H us zs) (hy : PrAt r H y z) (nd : zs.Nodup) (hz : z ∈ zs) (kk : Q (.int (plc zs z : Int)) H) : rIndexD K (.ref q) [y] H Q := by
  have e := plc_get hz
  refine ⟨q, y, prD z, zs.map prD, plc zs z, prD z, rfl, rfl, .lst (SqL.of hq) hv.dp, hy.dp, prs_shaped zs, pr_shaped z, by rw [List.getElem?_map, e]; rfl, by rw [pr_eqv, decide_eq_true rfl], fun m z' hm hz' => ?_, kk⟩
  obtain ⟨y', hy', rfl⟩ : ∃ y', zs[m]? = some y' ∧ z' = prD y' := by
    rw [List.getElem?_map] at hz'
    cases e : zs[m]? with
    | none => rw [e] at hz'; cases hz'
    | some y' => rw [e] at hz'; exact ⟨y', rfl, (Option.some.inj hz').symm⟩
  rw [pr_eqv]
  refine decide_eq_false fun e2 => not_before nd e ?_
  have mm : y' ∈ zs.take (plc zs z) := List.mem_of_getElem? (i := m) (by rw [List.getElem?_take]; simp [hm, hy'])
  exact (congrArg (· ∈ zs.take (plc zs z)) e2).mp mm
abbrev slLShare : Stmt := top 40
abbrev slLPart : Stmt := top 41
section
variable {P : Program} {w : World} {K : PySem.W.Frag} {mg : Str → Option Value} {base : Heap} {f : Addr} {fd : FuncData}
theorem sclLShare : FnScope ["_law_spot", "_law_other_here"] ["_law_spot", "_law_other_here"] (defScope slLShare) := ⟨rfl, rfl, rfl, by decide +kernel, rfl, by decide +kernel, by decide +kernel⟩
theorem ok_lShare (F : Fun K "_law_share" "_law_share" slLShare f fd) : FnOk P w K mg base CX0 1 f fd ["_law_spot", "_law_other_here"] (spShare K) := by
  refine F.ok sclLShare (fun vs H Q E h => ?_) (fun cdv A outer s H vs Q E hr h => ?_)
  · obtain ⟨p, u, v, y, z, rfl, _⟩ := h
    rfl
  · obtain ⟨p, u, v, y, z, rfl, ⟨t1, rfl, _, h1⟩, ⟨t2, rfl, _, h2⟩, kk⟩ := h
    refine ⟨_, (pss_one (ps_ret (pe_or (pe_cmpR op_eq (pe_ix ix_tup (pv 0) pe_int (fun _ _ => rfl)) (pe_ix ix_tup (pv 1) pe_int (fun _ _ => rfl)) (nomark _)) (pe_one (pe_cmpR op_eq (pe_ix ix_tup (pv 0) pe_int (fun _ _ => rfl)) (pe_ix ix_tup (pv 1) pe_int (fun _ _ => rfl)) (nomark _)))))), ?_⟩
    have dI : ∀ a b : Int, decide (V.int a = V.int b) = decide (a = b) := fun a b => decide_eq_decide.mpr ⟨V.int.inj, fun h => by rw [h]⟩
    walk_at "rd"
    refine r_ixT (SqT.of h1) (atI_nat (j := 0) rfl) ?_
    walk_at "rd"
    refine r_ixT (SqT.of h2) (atI_nat (j := 0) rfl) ?_
    refine r_eq rfl ?_
    rw [dI]
    walk_at "rd"
    by_cases c : y.1 = z.1
    · refine ifT (decide_eq_true c) ?_
      rw [decide_eq_true c, Bool.true_or] at kk
      exact kk
    · refine ifF (decide_eq_false c) ?_
      rw [decide_eq_false c, Bool.false_or] at kk
      walk_at "rd"
      refine r_ixT (SqT.of h1) (atI_nat (j := 1) rfl) ?_
      walk_at "rd"
      refine r_ixT (SqT.of h2) (atI_nat (j := 1) rfl) ?_
      refine r_eq rfl ?_
      rw [dI]
      exact kk
theorem sclLPart : FnScope ["_law_spots_here", "_law_one", "_law_two", "_law_at", "_law_spot", "_law_other_here", "_law_ahead"] ["_law_spots_here", "_law_one", "_law_two"] (defScope slLPart) := ⟨rfl, rfl, rfl, by decide +kernel, rfl, by decide +kernel, by decide +kernel⟩
theorem ok_lPart (F : Fun K "_law_parted" "_law_parted" slLPart f fd) (T : Bt mg) (DS : Df P w K mg base CX0 "_law_share" 1 ["_law_spot", "_law_other_here"] (spShare K)) : FnOk P w K mg base CX0 2 f fd ["_law_spots_here", "_law_one", "_law_two"] (spLPart K) := by
  refine F.ok sclLPart (fun vs H Q E h => ?_) (fun cdv A outer s H vs Q E hr h => ?_)
  · obtain ⟨p, s0, a, b, us, ws, xs, R, zs, ys, rfl, _⟩ := h
    rfl
  · obtain ⟨p, s0, a, b, us, ws, xs, R, zs, ys, rfl, g, hs, pu, ha, pz, hb, py, pmz, pmy, ⟨op, hop⟩, k⟩ := h
    have c64 := cells_len g
    have ul := pu.length
    refine ⟨_, (pss_cons (ps_for PassesOwn.never rfl (pi_enum (by rfl) T.enumerate (pa_cons (pv 0) pa_nil)) (pg_tup (by rfl) (pgs_cons (pg_name (i := 3) sclLPart.nd rfl (Or.inl rfl)) (pgs_cons (pg_name (i := 4) sclLPart.nd rfl (Or.inl rfl)) pgs_nil))) (pss_one (ps_for PassesOwn.never rfl (pi_list (pe_slice sl_list (pv 0) (po_some (pe_op op_add (pv 3) pe_int)) po_none)) (pg_name (i := 5) sclLPart.nd rfl (Or.inl rfl)) (pss_one (ps_if (pt_val (pe_df DS hr (by decide) (pa_cons (pv 4) (pa_cons (pv 5) pa_nil)))) (pss_cons (ps_set (i := 6) sclLPart.nd rfl (Or.inl rfl) (pe_cmpR op_lt (pe_bm PySem.F.plainAttrs_list PySem.F.slot_list_index PySem.F.type_list_index (mt_indexD (hu65 hr)) (pv 1) (pa_cons (pv 4) pa_nil)) (pe_bm PySem.F.plainAttrs_list PySem.F.slot_list_index PySem.F.type_list_index (mt_indexD (hu65 hr)) (pv 1) (pa_cons (pv 5) pa_nil)) (nomark _)))
  (pss_one (ps_if (pt_cmpR op_ne (pv 6) (pe_cmpR op_lt (pe_bm PySem.F.plainAttrs_list PySem.F.slot_list_index PySem.F.type_list_index (mt_indexD (hu65 hr)) (pv 2) (pa_cons (pv 4) pa_nil)) (pe_bm PySem.F.plainAttrs_list PySem.F.slot_list_index PySem.F.type_list_index (mt_indexD (hu65 hr)) (pv 2) (pa_cons (pv 5) pa_nil)) (nomark _)) (nomark _)) (pss_one (ps_ret (pe_tup (pa_cons (pv 4) (pa_cons (pv 5) pa_nil))))) pss_nil))) pss_nil)))))
  (pss_one (ps_ret pe_non))), ?_⟩
    walk_at "rd"
    refine ⟨s0, us, rfl, SqL.of hs, for_it walk_enum (fun m σ H' => ∃ v3 v4 v5 v6, σ = [some (.ref s0), some (.ref a), some (.ref b), v3, v4, v5, v6] ∧ Same H H' ∧ partO (cells R) zs ys m = none) ⟨_, _, _, _, rfl, Same.refl H, rfl⟩ (fun m σ H' _ z => by obtain ⟨_, _, _, _, _, z, _⟩ := z; exact SqL.of (z _ _ hs)) ?_ ?_⟩
    · rintro m y σ H6 H7 hm ⟨v3, v4, v5, v6, rfl, s6, no⟩ ⟨t, i', y', rfl, ht, rfl, e1, e2⟩
      cases (Option.some.inj e1)
      have e2 : us[m]? = some y' := e2
      obtain ⟨z, ez, pzz⟩ := (pu.keep (Keep.same s6)).at e2
      have s7 := s6.trans (Same.up (o := .tup [V.int (m : Int), y']) (Same.refl H6) ht)
      have pzz := pzz.keep (Keep.same (Same.up (o := .tup [V.int (m : Int), y']) (Same.refl H6) ht))
      refine r_gtup ⟨t, _, rfl, SqT.of upd_same, rfl, _, _, rfl, ?_⟩
      obtain ⟨H7, eH7⟩ : ∃ H7, H7 = upd H6 t (.tup [V.int (m : Int), y']) := ⟨_, rfl⟩
      rw [← eH7] at s7 pzz ⊢
      walk_at "rd"
      refine ⟨_, _, rfl, ?_⟩
      walk_at "rd"
      refine ⟨rfl, ?_⟩
      walk_at "rd"
      have ml : m < us.length := hm
      refine ⟨s0, us, rfl, SqL.of (s7 _ _ hs), fun q8 n8 => ?_⟩
      rw [show ((m : Int) + 1) = ((m + 1 : Nat) : Int) from rfl, cutDrop (by omega)]
      have s8' := Same.up (o := .lst (us.drop (m + 1))) (Same.refl H7) n8
      have s8 := s7.trans s8'
      have hq8 : upd H7 q8 (.lst (us.drop (m + 1))) q8 = some (.lst (us.drop (m + 1))) := upd_same
      have pzz := pzz.keep (Keep.same s8')
      obtain ⟨H8, eH8⟩ : ∃ H8, H8 = upd H7 q8 (.lst (us.drop (m + 1))) := ⟨_, rfl⟩
      rw [← eH8] at s8 hq8 pzz ⊢
      have pd := (pu.keep (Keep.same s8)).drop (m + 1)
      walk_at "rd"
      refine ⟨q8, rfl, ⟨_, SqL.of hq8⟩, for_it walk_list (fun n σ H' => ∃ w5 w6, σ = [some (.ref s0), some (.ref a), some (.ref b), some (.int (m : Int)), some y', w5, w6] ∧ Same H8 H' ∧ partI zs ys z (((cells R).drop (m + 1)).take n) = none) ⟨_, _, rfl, Same.refl _, rfl⟩ (fun n σ H' _ z => by obtain ⟨_, _, _, z, _⟩ := z; exact SqL.of (z _ _ hq8)) ?_ ?_⟩
      · rintro n v σ H90 H9 hn ⟨w5, w6, rfl, s9, noI⟩ ⟨rfl, ev⟩
        obtain ⟨q, eq, pq⟩ := pd.at ev
        have s09 := s8.trans s9
        have pz9 := pzz.keep (Keep.same s9)
        have pq9 := pq.keep (Keep.same s9)
        have zm := List.mem_of_getElem? ez
        have qm := List.mem_of_mem_drop (List.mem_of_getElem? eq)
        have ha9 := s09 _ _ ha
        have hb9 := s09 _ _ hb
        have wz := pz.keep (Keep.same s09)
        have wy := py.keep (Keep.same s09)
        have ndz := pmz.symm.nodup (cells_nodup R)
        have ndy := pmy.symm.nodup (cells_nodup R)
        have more : partI zs ys z (((cells R).drop (m + 1)).take (n + 1)) = if difB zs ys z q = true then some (z, q) else none := by
          unfold partI at noI ⊢
          rw [List.take_add_one, eq, List.findSome?_append, noI]
          rw [Option.none_or, Option.toList_some, List.findSome?_singleton]
        walk_at "rd"
        refine ⟨p, _, _, z, q, rfl, pz9, pq9, ?_⟩
        walk_at "rd"
        by_cases sh : (decide (z.1 = q.1) || decide (z.2 = q.2)) = true
        · refine ifT sh ?_
          walk_at "rd"
          refine r_bm ?_
          walk_at "rd"
          refine ⟨.inl ⟨rfl, _, SqL.of ha9⟩, ?_⟩
          walk_at "rd"
          refine r_idxD ha9 wz pz9 ndz (pmz.mem_iff.mpr zm) ?_
          walk_at "rd"
          refine r_bm ?_
          walk_at "rd"
          refine ⟨.inl ⟨rfl, _, SqL.of ha9⟩, ?_⟩
          walk_at "rd"
          refine r_idxD ha9 wz pq9 ndz (pmz.mem_iff.mpr qm) ?_
          walk_at "rd"
          refine r_bm ?_
          walk_at "rd"
          refine ⟨.inl ⟨rfl, _, SqL.of hb9⟩, ?_⟩
          walk_at "rd"
          refine r_idxD hb9 wy pz9 ndy (pmy.mem_iff.mpr zm) ?_
          walk_at "rd"
          refine r_bm ?_
          walk_at "rd"
          refine ⟨.inl ⟨rfl, _, SqL.of hb9⟩, ?_⟩
          walk_at "rd"
          refine r_idxD hb9 wy pq9 ndy (pmy.mem_iff.mpr qm) ?_
          walk_at "rd"
          refine r_ne rfl ?_
          walk_at "rd"
          have eb : decide (V.bl (decide ((plc zs z : Int) < (plc zs q : Int))) = V.bl (decide ((plc ys z : Int) < (plc ys q : Int)))) = decide (decide (plc zs z < plc zs q) = decide (plc ys z < plc ys q)) := by
            rw [show decide ((plc zs z : Int) < (plc zs q : Int)) = decide (plc zs z < plc zs q) from decide_eq_decide.mpr (by omega), show decide ((plc ys z : Int) < (plc ys q : Int)) = decide (plc ys z < plc ys q) from decide_eq_decide.mpr (by omega)]
            exact decide_eq_decide.mpr ⟨V.bl.inj, fun h => by rw [h]⟩
          rw [eb]
          have ed : difB zs ys z q = !decide (decide (plc zs z < plc zs q) = decide (plc ys z < plc ys q)) := by
            unfold difB
            rw [sh, Bool.true_and]
          rw [← ed]
          by_cases c : difB zs ys z q = true
          · refine ifT c ?_
            walk_at "rd"
            refine ⟨by show 2 ≤ sizeLine; decide, fun t10 n10 => ?_⟩
            have s10 := Same.up (o := .tup [y', v]) (Same.refl H9) n10
            refine k _ _ (s09.trans s10) ?_
            have : partF R zs ys = some (z, q) := by
              have h1 : partI zs ys z ((cells R).drop (m + 1)) = some (z, q) := partI_some (n := n + 1) (by rw [more, if_pos c])
              refine partO_some (m := m + 1) (by omega) ?_
              unfold partO at no ⊢
              rw [List.range_succ, List.findSome?_append, no, Option.none_or]
              have e0 : ((cells R)[m]?).bind (fun p => partI zs ys p ((cells R).drop (m + 1))) = some (z, q) := by
                rw [ez]
                exact h1
              rw [List.findSome?_singleton]
              exact e0
            rw [this]
            exact ⟨t10, _, _, rfl, upd_same, pz9.keep (Keep.same s10), pq9.keep (Keep.same s10)⟩
          · refine ifF (Bool.eq_false_iff.mpr c) ?_
            exact ⟨_, _, rfl, s9, by rw [more, if_neg c]⟩
        · refine ifF (Bool.eq_false_iff.mpr sh) ?_
          have c : ¬ difB zs ys z q = true := by
            unfold difB
            rw [Bool.eq_false_iff.mpr sh, Bool.false_and]
            exact Bool.false_ne_true
          exact ⟨_, _, rfl, s9, by rw [more, if_neg c]⟩
      · rintro σ H9 ⟨w5, w6, rfl, s9, noI⟩
        refine ⟨_, _, _, _, rfl, s8.trans s9, ?_⟩
        unfold partO at no ⊢
        rw [List.range_succ, List.findSome?_append, no]
        rw [Option.none_or, List.findSome?_singleton]
        have e0 : ((cells R)[m]?).bind (fun p => partI zs ys p ((cells R).drop (m + 1))) = none := by
          rw [ez]
          show partI zs ys z _ = none
          rw [← noI, List.take_of_length_le]
          rw [List.length_drop, List.length_drop, ul]
          exact Nat.le_refl _
        exact e0
    · rintro σ H6 ⟨v3, v4, v5, v6, rfl, s6, no⟩
      walk_at "rd"
      refine k _ _ s6 ?_
      have : partF R zs ys = none := by
        unfold partF
        rw [← ul]
        exact no
      rw [this]
      exact rfl
end
end Pk
set_option Elab.async false
set_option linter.all false
set_option maxRecDepth 100000
set_option maxHeartbeats 1000000
namespace Pk
open PySem L2 PySem.Spec PyProof.Rows
/-- list.insert, at a place of the list or behind it -/
def rInsertN : V → List V → Hp → VK → Prop := fun x vs H Q => ∃ (l : Addr) (xs : List V) (k : Nat) (y : V), x = .ref l ∧ vs = [.int (k : Int), y] ∧ H l = some (.lst xs) ∧ k ≤ xs.length ∧ xs.length < sizeLine ∧ xs.length < 2 ^ 62 ∧ Q .non (upd H l (.lst (xs.take k ++ y :: xs.drop k)))
theorem mt_insertN {X : Cx} : MtM X "list.insert" rInsertN := by
  intro pins s σ H x vs v us Q I rx rv h
  obtain ⟨l, xs, k, y, rfl, rfl, hH, hk, hz, h62, q⟩ := h
  cases rx
  obtain ⟨u1, u2, rfl, r1, r2⟩ : ∃ u1 u2, us = [u1, u2] ∧ RelV (.int (k : Int)) u1 ∧ RelV y u2 := by
    cases rv with
    | cons rx rr => cases rr with
      | cons rt rr => cases rr; exact ⟨_, _, rfl, rx, rt⟩
  obtain ⟨t, rfl⟩ := r1
  obtain ⟨z, its, n, r, hl, e⟩ := I.lstM hH
  have kl : k ≤ its.length := by rw [← hl]; exact hk
  have hsz : its.toArray.size ≤ sizeLine := by
    rw [List.size_toArray, ← hl]
    exact Nat.le_of_lt hz
  obtain ⟨x, hx⟩ : ∃ x : Int, x = (k : Int) := ⟨_, rfl⟩
  have hfit : ¬(!Builtin.List.listFitsIndex x) = true := by
    have h1 : -(2 ^ 63) ≤ x := by omega
    have h2 : x < 2 ^ 63 := by omega
    have h3 := fitsIndex_both h1 h2
    simp [h3]
  rw [← hx]
  refine call_meets PySem.F.slot_list_insert ⟨_, e, rfl⟩ PySem.F.entry_list_insert (PySem.F.args_list_insert_3 _ _ _) (PySem.AutoSeq1.list_insert_list_int_val_1 l its.toArray n x t u2 hfit hsz) ⟨e, ?_⟩
  refine ⟨.non, _, I.lset (its' := its.take k ++ u2 :: its.drop k) hH e ?_ ?_ ?_, rfl, q⟩
  · have h0 : ¬ (x < 0) := by omega
    have e1 := PySem.W.kl_ins_eq its k u2
    have key : (if x < 0 then (x + (its.toArray.size : Int)).toNat else min x.toNat its.toArray.size) = k := by
      rw [if_neg h0, List.size_toArray, hx, Int.toNat_natCast, Nat.min_eq_left kl]
    show (its.toArray.extract 0 (if x < 0 then (x + (its.toArray.size : Int)).toNat else min x.toNat its.toArray.size)).push u2 ++ its.toArray.extract (if x < 0 then (x + (its.toArray.size : Int)).toNat else min x.toNat its.toArray.size) = (its.take k ++ u2 :: its.drop k).toArray
    rw [key]
    exact e1
  · exact (r.take k).append (.cons r2 (r.drop k))
  · have : (xs.take k ++ y :: xs.drop k).length = xs.length + 1 := by
      rw [List.length_append, List.length_cons, List.length_take, List.length_drop]
      omega
    omega
end Pk
set_option Elab.async false
set_option linter.all false
set_option maxRecDepth 100000
set_option maxHeartbeats 4000000
namespace Pk
open PySem L2
local macro_rules | `(tactic| walk_at "rd") => `(tactic| repeat (first
  | with_reducible refine r_seq ?_ | with_reducible refine r_nxt ?_ | with_reducible refine r_asg ?_ | with_reducible refine r_to ?_ | with_reducible refine r_ret ?_ | with_reducible refine r_for ?_ | with_reducible refine r_lc ?_ | with_reducible refine r_lc2 ?_ | with_reducible refine r_rng1 ?_ | with_reducible refine r_list ?_ | with_reducible refine r_tupI ?_ | with_reducible refine r_drop ?_ | with_reducible refine r_ifs ?_
  | with_reducible refine r_op ?_ | with_reducible refine r_c ?_ | with_reducible refine r_var rfl ?_ | with_reducible refine r_var (by assumption) ?_ | with_reducible refine r_I0 ?_ | with_reducible refine r_un ?_ | with_reducible refine r_U ?_ | with_reducible refine r_make ?_ | with_reducible refine r_makeS ?_ | with_reducible refine r_ifE ?_ | with_reducible refine r_cm ?_ | with_reducible refine r_mkV rfl ?_ | with_reducible refine r_sub ?_
  | with_reducible refine r_nil ?_ | with_reducible refine r_cons ?_ | with_reducible refine r_cb ?_ | with_reducible refine r_sl ?_ | with_reducible refine r_noP ?_ | with_reducible refine r_part ?_ | with_reducible refine r_isI ?_ | with_reducible refine r_lst ?_ | with_reducible refine r_tup ?_ | with_reducible refine r_call ?_ | with_reducible refine r_callS ?_ | with_reducible refine r_sFldU ?_ | with_reducible refine r_chain ?_ | with_reducible refine r_enum ?_ | with_reducible refine r_zip ?_ | with_reducible refine r_rng3 ?_ | with_reducible refine r_gtup ?_ | with_reducible refine r_methU ?_
  | with_reducible refine r_test ?_ | with_reducible refine r_B ?_ | with_reducible refine r_and ?_ | with_reducible refine r_or ?_ | with_reducible refine r_not ?_ | with_reducible refine r_andV ?_ | with_reducible refine r_orV ?_ | with_reducible refine r_notV ?_ | with_reducible refine r_bl ?_ | with_reducible refine r_yes ?_ | with_reducible refine r_int ?_ | with_reducible refine r_is0 ?_ | with_reducible refine r_is1 ?_ | with_reducible refine iteT ?_ | with_reducible refine iteF ?_ | with_reducible refine ite_nF ?_ | with_reducible refine ite_nT ?_
  | with_reducible refine r_mod (by decide) ?_ | with_reducible refine r_div (by decide) (by decide) ?_ | with_reducible refine r_mulR (by decide) (by decide) ?_ | with_reducible refine r_mulL (by decide) (by decide) ?_ | with_reducible refine r_pow (by decide) (by decide) (by decide) ?_))
/-! ### a sequence loosened -/
def spLoose : Sp := fun vs H Q _ => ∃ (p a b : Addr) (us : List V) (zs : List Pr) (ps : List Int), vs = [.ref a, .ref b] ∧ H a = some (.lst us) ∧ PrsAt p H us zs ∧ H b = some (.lst (ps.map V.int)) ∧ zs.length ≤ 64 ∧
  ∀ (r : Addr) (ws : List V) (ys : List Pr) (H' : Hp), Same H H' → H r = none → H' r = some (.lst ws) → PrsAt p H' ws ys → Alk zs ys → Q (.ref r) H'
theorem swap_perm {α : Type} {zs : List α} {k : Nat} {y z : α} (h1 : zs[k]? = some y) (h2 : zs[k + 1]? = some z) : (zs.take k ++ [z, y] ++ zs.drop (k + 2)).Perm zs := by
  have e : zs = zs.take k ++ y :: z :: zs.drop (k + 2) := by
    have a := (List.getElem?_eq_some_iff.mp h1)
    have b := (List.getElem?_eq_some_iff.mp h2)
    obtain ⟨a1, a2⟩ := a
    obtain ⟨b1, b2⟩ := b
    conv => lhs; rw [← List.take_append_drop k zs]
    rw [List.drop_eq_getElem_cons a1, List.drop_eq_getElem_cons b1, a2, b2]
  conv => rhs; rw [e]
  rw [List.append_assoc]
  exact List.Perm.append_left _ (List.Perm.swap ..)
theorem alk_swapA {zs : List Pr} {k : Nat} {y z : Pr} (h1 : zs[k]? = some y) (h2 : zs[k + 1]? = some z) (h : shB y z = false) : Alk zs (zs.take k ++ [z, y] ++ zs.drop (k + 2)) := by
  have e : zs = zs.take k ++ [y, z] ++ zs.drop (k + 2) := by
    obtain ⟨a1, a2⟩ := List.getElem?_eq_some_iff.mp h1
    obtain ⟨b1, b2⟩ := List.getElem?_eq_some_iff.mp h2
    conv => lhs; rw [← List.take_append_drop k zs]
    rw [List.drop_eq_getElem_cons a1, List.drop_eq_getElem_cons b1, a2, b2, List.append_assoc]
    rfl
  have A := alk_swap (zs.take k) (zs.drop (k + 2)) h
  rw [← e] at A
  exact A
abbrev slLoose : Stmt := top 42
section
variable {P : Program} {w : World} {K : PySem.W.Frag} {mg : Str → Option Value} {base : Heap} {f : Addr} {fd : FuncData}
theorem sclLoose : FnScope ["_law_listed", "_law_picks", "_law_now", "_law_pick", "_law_step"] ["_law_listed", "_law_picks"] (defScope slLoose) := ⟨rfl, rfl, rfl, by decide +kernel, rfl, by decide +kernel, by decide +kernel⟩
theorem ok_loose (F : Fun K "_law_loosened" "_law_loosened" slLoose f fd) (T : Bt mg) (DS : Df P w K mg base CX0 "_law_share" 1 ["_law_spot", "_law_other_here"] (spShare K)) : FnOk P w K mg base CX0 2 f fd ["_law_listed", "_law_picks"] spLoose := by
  refine F.ok sclLoose (fun vs H Q E h => ?_) (fun cdv A outer s H vs Q E hr h => ?_)
  · obtain ⟨p, a, b, us, zs, ps, rfl, _⟩ := h
    rfl
  · obtain ⟨p, a, b, us, zs, ps, rfl, ha, pu, hb, z64, k⟩ := h
    refine ⟨_, (pss_cons (ps_set (i := 2) sclLoose.nd rfl (Or.inl rfl) (pe_callTy cl_lst (by rfl) T.list (by decide +kernel) (pa_cons (pv 0) pa_nil)))
  (pss_cons (ps_for PassesOwn.never rfl (pi_list (pv 1)) (pg_name (i := 3) sclLoose.nd rfl (Or.inl rfl)) (pss_cons (ps_set (i := 4) sclLoose.nd rfl (Or.inl rfl) (pe_op op_mod (pv 3) (pe_callB (call_max2 rfl) (by rfl) T.max (by decide +kernel) (pa_cons pe_int (pa_cons (pe_op op_sub (pe_callB cl_len (by rfl) T.len (by decide +kernel) (pa_cons (pv 2) pa_nil)) pe_int) pa_nil)))))
  (pss_one (ps_if (PW.pt (pw_and (pt_cmpR op_gt (pe_callB cl_len (by rfl) T.len (by decide +kernel) (pa_cons (pv 2) pa_nil)) pe_int (nomark _)) (pw_and1 (pt_not (pt_val (pe_df DS hr (by decide) (pa_cons (pe_ix ix_list (pv 2) (pv 4) (fun _ _ => rfl)) (pa_cons (pe_ix ix_list (pv 2) (pe_op op_add (pv 4) pe_int) (fun _ _ => rfl)) pa_nil)))))))) (pss_one (ps_set (i := 2) sclLoose.nd rfl (Or.inl rfl) (pe_op op_cat (pe_op op_cat (pe_slice sl_list (pv 2) po_none (po_some (pv 4))) (pe_lst (pa_cons (pe_ix ix_list (pv 2) (pe_op op_add (pv 4) pe_int) (fun _ _ => rfl)) (pa_cons (pe_ix ix_list (pv 2) (pv 4) (fun _ _ => rfl)) pa_nil)))) (pe_slice sl_list (pv 2) (po_some (pe_op op_add (pv 4) pe_int)) po_none)))) pss_nil))))
  (pss_one (ps_ret (pv 2))))), ?_⟩
    walk_at "rd"
    refine r_lstOf (SqL.of ha) fun q nq => ?_
    have s1 := Same.up (o := .lst us) (Same.refl H) nq
    have hq1 : upd H q (.lst us) q = some (.lst us) := upd_same
    have pu1 := pu.keep (Keep.same s1)
    obtain ⟨H1, eH1⟩ : ∃ H1, H1 = upd H q (.lst us) := ⟨_, rfl⟩
    rw [← eH1] at s1 hq1 pu1 ⊢
    walk_at "rd"
    refine ⟨b, rfl, ⟨_, SqL.of (s1 _ _ hb)⟩, for_it walk_list (fun m σ H' => ∃ (c : Addr) (v3 v4 : Option V) (ws : List V) (ys : List Pr), σ = [some (.ref a), some (.ref b), some (.ref c), v3, v4] ∧ Same H H' ∧ H c = none ∧ H' c = some (.lst ws) ∧ PrsAt p H' ws ys ∧ Alk zs ys)
      ⟨q, _, _, us, zs, rfl, s1, nq, hq1, pu1, Alk.refl _⟩ (fun m σ H' _ z => by obtain ⟨_, _, _, _, _, _, z, _⟩ := z; exact SqL.of (z _ _ hb)) ?_ ?_⟩
    · rintro m y σ H20 H2 hm ⟨c, v3, v4, ws, ys, rfl, s2, nc, hc, pw, pm⟩ ⟨rfl, ey⟩
      rw [List.getElem?_map] at ey
      obtain ⟨pk, ek, rfl⟩ := Option.map_eq_some_iff.mp ey
      have wl := pw.length
      have yl := pm.pm.symm.length_eq
      walk_at "rd"
      refine r_lenL (SqL.of hc) ?_
      walk_at "rd"
      refine ⟨1, _, rfl, ?_⟩
      refine r_mod (by split <;> omega) ?_
      obtain ⟨n, en⟩ : ∃ n : Nat, pk % (if (ws.length : Int) - 1 > 1 then (ws.length : Int) - 1 else 1) = (n : Int) := ⟨(pk % (if (ws.length : Int) - 1 > 1 then (ws.length : Int) - 1 else 1)).toNat, by
        have := Int.emod_nonneg pk (b := if (ws.length : Int) - 1 > 1 then (ws.length : Int) - 1 else 1) (by split <;> omega)
        omega⟩
      have nl : (n : Int) < (if (ws.length : Int) - 1 > 1 then (ws.length : Int) - 1 else 1) := by
        rw [← en]
        exact Int.emod_lt_of_pos pk (by split <;> omega)
      rw [en]
      walk_at "rd"
      refine r_lenL (SqL.of hc) ?_
      walk_at "rd"
      by_cases c1 : 1 < ws.length
      · refine ifT (decide_eq_true (by omega)) ?_
        have n1 : n + 1 < ws.length := by split at nl <;> omega
        obtain ⟨v1, ev1⟩ : ∃ v, ws[n]? = some v := ⟨_, List.getElem?_eq_getElem (by omega)⟩
        obtain ⟨v2, ev2⟩ : ∃ v, ws[n + 1]? = some v := ⟨_, List.getElem?_eq_getElem n1⟩
        obtain ⟨z1, ez1, pz1⟩ := pw.at ev1
        obtain ⟨z2, ez2, pz2⟩ := pw.at ev2
        walk_at "rd"
        refine r_ixL (SqL.of hc) (atI_nat ev1) ?_
        walk_at "rd"
        rw [show ((n : Int) + 1) = ((n + 1 : Nat) : Int) from rfl]
        refine r_ixL (SqL.of hc) (atI_nat ev2) ?_
        walk_at "rd"
        refine ⟨p, v1, v2, z1, z2, rfl, pz1, pz2, ?_⟩
        walk_at "rd"
        by_cases sh : (decide (z1.1 = z2.1) || decide (z1.2 = z2.2)) = true
        · refine ifF (by rw [sh]; rfl) ?_
          exact ⟨c, _, _, ws, ys, rfl, s2, nc, hc, pw, pm⟩
        · refine ifT (by rw [Bool.eq_false_iff.mpr sh]; rfl) ?_
          walk_at "rd"
          refine ⟨c, ws, rfl, SqL.of hc, fun q3 n3 => ?_⟩
          rw [cutAt (by omega)]
          have s3' := Same.up (o := .lst (ws.take n)) (Same.refl H2) n3
          have hq3 : upd H2 q3 (.lst (ws.take n)) q3 = some (.lst (ws.take n)) := upd_same
          have hc3 := s3' _ _ hc
          obtain ⟨H3, eH3⟩ : ∃ H3, H3 = upd H2 q3 (.lst (ws.take n)) := ⟨_, rfl⟩
          rw [← eH3] at s3' hq3 hc3 ⊢
          walk_at "rd"
          rw [show ((n : Int) + 1) = ((n + 1 : Nat) : Int) from rfl]
          refine r_ixL (SqL.of hc3) (atI_nat ev2) ?_
          walk_at "rd"
          refine r_ixL (SqL.of hc3) (atI_nat ev1) ?_
          walk_at "rd"
          refine ⟨by show 2 ≤ sizeLine; decide, fun q4 n4 => ?_⟩
          have s4' := Same.up (o := .lst [v2, v1]) (Same.refl H3) n4
          have hq4 : upd H3 q4 (.lst [v2, v1]) q4 = some (.lst [v2, v1]) := upd_same
          have hq34 := s4' _ _ hq3
          obtain ⟨H4, eH4⟩ : ∃ H4, H4 = upd H3 q4 (.lst [v2, v1]) := ⟨_, rfl⟩
          rw [← eH4] at s4' hq4 hq34 ⊢
          walk_at "rd"
          refine ⟨q3, q4, _, _, rfl, rfl, hq34, hq4, Nat.le_trans (show (ws.take n).length + 2 ≤ 100 by rw [List.length_take]; omega) (by decide), fun q5 n5 => ?_⟩
          have s5' := Same.up (o := .lst (ws.take n ++ [v2, v1])) (Same.refl H4) n5
          have hq5 : upd H4 q5 (.lst (ws.take n ++ [v2, v1])) q5 = some (.lst (ws.take n ++ [v2, v1])) := upd_same
          have s25 := s3'.trans (s4'.trans s5')
          obtain ⟨H5, eH5⟩ : ∃ H5, H5 = upd H4 q5 (.lst (ws.take n ++ [v2, v1])) := ⟨_, rfl⟩
          rw [← eH5] at s25 hq5 ⊢
          walk_at "rd"
          refine ⟨c, ws, rfl, SqL.of (s25 _ _ hc), fun q6 n6 => ?_⟩
          rw [show ((n : Int) + 2) = ((n + 2 : Nat) : Int) from rfl, cutDrop (by omega)]
          have s6' := Same.up (o := .lst (ws.drop (n + 2))) (Same.refl H5) n6
          have hq6 : upd H5 q6 (.lst (ws.drop (n + 2))) q6 = some (.lst (ws.drop (n + 2))) := upd_same
          have hq56 := s6' _ _ hq5
          obtain ⟨H6, eH6⟩ : ∃ H6, H6 = upd H5 q6 (.lst (ws.drop (n + 2))) := ⟨_, rfl⟩
          rw [← eH6] at s6' hq6 hq56 ⊢
          walk_at "rd"
          refine ⟨q5, q6, _, _, rfl, rfl, hq56, hq6, Nat.le_trans (show (ws.take n ++ [v2, v1]).length + (ws.drop (n + 2)).length ≤ 200 by rw [List.length_append, List.length_take, List.length_drop]; show min n ws.length + 2 + _ ≤ _; omega) (by decide), fun q7 n7 => ?_⟩
          have s7' := Same.up (o := .lst (ws.take n ++ [v2, v1] ++ ws.drop (n + 2))) (Same.refl H6) n7
          have s27 := s25.trans (s6'.trans s7')
          have pw7 := pw.keep (Keep.same s27)
          refine ⟨q7, _, _, _, ys.take n ++ [z2, z1] ++ ys.drop (n + 2), rfl, s2.trans s27, (s2.trans (s25.trans s6')).free n7, upd_same, ((pw7.take n).app (.cons (pz2.keep (Keep.same s27)) (.cons (pz1.keep (Keep.same s27)) .nil))).app (pw7.drop (n + 2)), pm.trans (alk_swapA ez1 ez2 (Bool.eq_false_iff.mpr sh))⟩
      · refine ifF (decide_eq_false (by omega)) ?_
        exact ⟨c, _, _, ws, ys, rfl, s2, nc, hc, pw, pm⟩
    · rintro σ H2 ⟨c, v3, v4, ws, ys, rfl, s2, nc, hc, pw, pm⟩
      walk_at "rd"
      exact k c ws ys H2 s2 nc hc pw pm
end
end Pk
set_option Elab.async false
set_option linter.all false
set_option maxRecDepth 100000
set_option maxHeartbeats 4000000
namespace Pk
open PySem L2
local macro_rules | `(tactic| walk_at "rd") => `(tactic| repeat (first
  | with_reducible refine r_seq ?_ | with_reducible refine r_nxt ?_ | with_reducible refine r_asg ?_ | with_reducible refine r_to ?_ | with_reducible refine r_ret ?_ | with_reducible refine r_for ?_ | with_reducible refine r_lc ?_ | with_reducible refine r_lc2 ?_ | with_reducible refine r_rng1 ?_ | with_reducible refine r_list ?_ | with_reducible refine r_tupI ?_ | with_reducible refine r_drop ?_ | with_reducible refine r_ifs ?_
  | with_reducible refine r_op ?_ | with_reducible refine r_c ?_ | with_reducible refine r_var rfl ?_ | with_reducible refine r_var (by assumption) ?_ | with_reducible refine r_I0 ?_ | with_reducible refine r_un ?_ | with_reducible refine r_U ?_ | with_reducible refine r_make ?_ | with_reducible refine r_makeS ?_ | with_reducible refine r_ifE ?_ | with_reducible refine r_cm ?_ | with_reducible refine r_mkV rfl ?_ | with_reducible refine r_sub ?_
  | with_reducible refine r_nil ?_ | with_reducible refine r_cons ?_ | with_reducible refine r_cb ?_ | with_reducible refine r_sl ?_ | with_reducible refine r_noP ?_ | with_reducible refine r_part ?_ | with_reducible refine r_isI ?_ | with_reducible refine r_lst ?_ | with_reducible refine r_tup ?_ | with_reducible refine r_call ?_ | with_reducible refine r_callS ?_ | with_reducible refine r_sFldU ?_ | with_reducible refine r_chain ?_ | with_reducible refine r_enum ?_ | with_reducible refine r_zip ?_ | with_reducible refine r_rng3 ?_ | with_reducible refine r_gtup ?_ | with_reducible refine r_methU ?_
  | with_reducible refine r_test ?_ | with_reducible refine r_B ?_ | with_reducible refine r_and ?_ | with_reducible refine r_or ?_ | with_reducible refine r_not ?_ | with_reducible refine r_andV ?_ | with_reducible refine r_orV ?_ | with_reducible refine r_notV ?_ | with_reducible refine r_bl ?_ | with_reducible refine r_yes ?_ | with_reducible refine r_int ?_ | with_reducible refine r_is0 ?_ | with_reducible refine r_is1 ?_ | with_reducible refine iteT ?_ | with_reducible refine iteF ?_ | with_reducible refine ite_nF ?_ | with_reducible refine ite_nT ?_
  | with_reducible refine r_mod (by decide) ?_ | with_reducible refine r_div (by decide) (by decide) ?_ | with_reducible refine r_mulR (by decide) (by decide) ?_ | with_reducible refine r_mulL (by decide) (by decide) ?_ | with_reducible refine r_pow (by decide) (by decide) (by decide) ?_))
/-! ### another sequence of the same spots -/
def spOther (K : PySem.W.Frag) : Sp := fun vs H Q _ => ∃ (p l a b : Addr) (us ws : List V) (zs cs : List Pr) (ns : List Int) (c : Int), vs = [.ref l, .ref a, .ref b, .int c] ∧ SqL K H l (ns.map V.int) ∧ H a = some (.lst us) ∧ PrsAt p H us zs ∧ H b = some (.lst ws) ∧ PrsAt p H ws cs ∧ zs.Perm cs ∧ cs.length ≤ 36 ∧
  ∀ (r : Addr) (xs : List V) (ys : List Pr) (H' : Hp), Same H H' → H' r = some (.lst xs) → PrsAt p H' xs ys → ys.Perm cs → Q (.ref r) H'
theorem deq_int (a b : Int) : decide (V.int a = V.int b) = decide (a = b) := decide_eq_decide.mpr ⟨V.int.inj, fun h => by rw [h]⟩
theorem rep_flat1 {α : Type} (n : Nat) (a : α) : (List.replicate n [a]).flatten = List.replicate n a := by
  induction n with
  | zero => rfl
  | succ n ih => rw [List.replicate_succ, List.flatten_cons, ih, List.replicate_succ]; rfl
theorem ins_perm {α : Type} {l : List α} {z : α} (k : Nat) : (l.take k ++ z :: l.drop k).Perm (z :: l) := by
  have h := (List.perm_middle (a := z) (l₁ := l.take k) (l₂ := l.drop k))
  rw [List.take_append_drop] at h
  exact h
abbrev slOther : Stmt := top 43
section
variable {P : Program} {w : World} {K : PySem.W.Frag} {mg : Str → Option Value} {base : Heap} {f : Addr} {fd : FuncData}
theorem sclOther : FnScope ["_law_script", "_law_one", "_law_spots_here", "_law_choice", "_law_drawn", "_law_two", "_law_spot"] ["_law_script", "_law_one", "_law_spots_here", "_law_choice"] (defScope slOther) := ⟨rfl, rfl, rfl, by decide +kernel, rfl, by decide +kernel, by decide +kernel⟩
theorem ok_other (F : Fun K "_law_other" "_law_other" slOther f fd) (T : Bt mg) (DD : Df P w K mg base CX0 "_law_draws" 2 ["_law_script", "_law_spot", "_law_sizes"] (spDraws K)) (DH : Df P w K mg base CX0 "_law_shuffled" 1 ["_law_things", "_law_picks"] spShuf2) (DL : Df P w K mg base CX0 "_law_loosened" 2 ["_law_listed", "_law_picks"] spLoose) :
    FnOk P w K mg base CX0 3 f fd ["_law_script", "_law_one", "_law_spots_here", "_law_choice"] (spOther K) := by
  refine F.ok sclOther (fun vs H Q E h => ?_) (fun cdv A outer s H vs Q E hr h => ?_)
  · obtain ⟨p, l, a, b, us, ws, zs, cs, ns, c, rfl, _⟩ := h
    rfl
  · obtain ⟨p, l, a, b, us, ws, zs, cs, ns, c, rfl, hl, ha, pu, hb, pw, pm, c36, k⟩ := h
    refine ⟨_, (pss_cons (ps_if (pt_cmpR op_eq (pv 3) pe_int (nomark _)) (pss_one (ps_ret (pe_df DH hr (by decide) (pa_cons (pv 2) (pa_cons (pe_df DD hr (by decide) (pa_cons (pv 0) (pa_cons pe_int (pa_cons (pe_op op_rep (pe_lst (pa_cons pe_int pa_nil)) pe_int) pa_nil)))) pa_nil))))) pss_nil)
  (pss_cons (ps_set (i := 4) sclOther.nd rfl (Or.inl rfl) (pe_df DD hr (by decide) (pa_cons (pv 0) (pa_cons pe_int (pa_cons (pe_op op_cat (pe_lst (pa_cons pe_int (pa_cons pe_int pa_nil))) (pe_op op_rep (pe_lst (pa_cons pe_int pa_nil)) pe_int)) pa_nil)))))
  (pss_cons (ps_set (i := 5) sclOther.nd rfl (Or.inl rfl) (pe_df DL hr (by decide) (pa_cons (pv 1) (pa_cons (pe_slice sl_list (pv 4) (po_some pe_int) po_none) pa_nil))))
  (pss_cons (ps_if (PW.pt (pw_and (pt_cmpR op_eq (pv 3) pe_int (nomark _)) (pw_and1 (pt_cmpR op_gt (pe_callB cl_len (by rfl) T.len (by decide +kernel) (pa_cons (pv 5) pa_nil)) pe_int (nomark _))))) (pss_cons (ps_set (i := 6) sclOther.nd rfl (Or.inl rfl) (pe_bm PySem.F.plainAttrs_list PySem.F.slot_list_pop PySem.F.type_list_pop mt_popAt (pv 5) (pa_cons (pe_op op_mod (pe_ix ix_list (pv 4) pe_int (fun _ _ => rfl)) (pe_callB cl_len (by rfl) T.len (by decide +kernel) (pa_cons (pv 5) pa_nil))) pa_nil)))
  (pss_one (ps_expr (pe_bm PySem.F.plainAttrs_list PySem.F.slot_list_insert PySem.F.type_list_insert mt_insertN (pv 5) (pa_cons (pe_op op_mod (pe_ix ix_list (pv 4) pe_int (fun _ _ => rfl)) (pe_op op_add (pe_callB cl_len (by rfl) T.len (by decide +kernel) (pa_cons (pv 5) pa_nil)) pe_int)) (pa_cons (pv 6) pa_nil)))))) pss_nil)
  (pss_one (ps_ret (pv 5))))))), ?_⟩
    walk_at "rd"
    refine r_eq rfl ?_
    rw [deq_int]
    refine ⟨_, rfl, ?_⟩
    by_cases c0 : c = 0
    · refine ifT (decide_eq_true c0) ?_
      walk_at "rd"
      refine ⟨by show 1 ≤ sizeLine; decide, fun l6 nl6 => ?_⟩
      have s6' := Same.up (o := .lst [V.int 36]) (Same.refl H) nl6
      have hl6 : upd H l6 (.lst [V.int 36]) l6 = some (.lst [V.int 36]) := upd_same
      obtain ⟨H6, eH6⟩ : ∃ H6, H6 = upd H l6 (.lst [V.int 36]) := ⟨_, rfl⟩
      rw [← eH6] at s6' hl6 ⊢
      walk_at "rd"
      refine ⟨l6, 36, [V.int 36], rfl, rfl, hl6, by decide, by decide, by decide, fun l7 nl7 => ?_⟩
      rw [rep_flat1]
      have s7' := Same.up (o := .lst (List.replicate (36 : Int).toNat (V.int 36))) (Same.refl H6) nl7
      have hl7 : upd H6 l7 (.lst (List.replicate (36 : Int).toNat (V.int 36))) l7 = some (.lst ((List.replicate 36 (36 : Int)).map V.int)) := by rw [upd_same, List.map_replicate]; rfl
      obtain ⟨H7, eH7⟩ : ∃ H7, H7 = upd H6 l7 (.lst (List.replicate (36 : Int).toNat (V.int 36))) := ⟨_, rfl⟩
      rw [← eH7] at s7' hl7 ⊢
      have s57 := s6'.trans s7'
      walk_at "rd"
      refine ⟨l, l7, ns, List.replicate 36 36, 3, rfl, s57.seq hl, hl7, fun z hz => ?_, by rw [List.length_replicate]; decide, fun r8 H8 s8' nr8 hr8 => ?_⟩
      · rw [List.eq_of_mem_replicate hz]
        exact szd (by decide) (by decide)
      have s58 := s57.trans s8'
      walk_at "rd"
      refine ⟨p, b, r8, ws, cs, drawsF ns 3 (List.replicate 36 36), rfl, s58 _ _ hb, pw.keep (Keep.same s58), hr8, by rw [drawsF_len, List.length_replicate]; exact c36, by omega, by rw [drawsF_len, List.length_replicate]; decide, fun r9 xs ys H9 s9' _ hr9 px py => ?_⟩
      exact k r9 xs ys H9 (s58.trans s9') hr9 px py
    · refine ifF (decide_eq_false c0) ?_
      walk_at "rd"
      refine ⟨by show 2 ≤ sizeLine; decide, fun l5 nl5 => ?_⟩
      have s5' := Same.up (o := .lst [V.int 36, V.int 36]) (Same.refl H) nl5
      have hl5 : upd H l5 (.lst [V.int 36, V.int 36]) l5 = some (.lst [V.int 36, V.int 36]) := upd_same
      obtain ⟨H5, eH5⟩ : ∃ H5, H5 = upd H l5 (.lst [V.int 36, V.int 36]) := ⟨_, rfl⟩
      rw [← eH5] at s5' hl5 ⊢
      walk_at "rd"
      refine ⟨by show 1 ≤ sizeLine; decide, fun l6 nl6 => ?_⟩
      have s6' := Same.up (o := .lst [V.int 40]) (Same.refl H5) nl6
      have hl6 : upd H5 l6 (.lst [V.int 40]) l6 = some (.lst [V.int 40]) := upd_same
      have hl56 := s6' _ _ hl5
      obtain ⟨H6, eH6⟩ : ∃ H6, H6 = upd H5 l6 (.lst [V.int 40]) := ⟨_, rfl⟩
      rw [← eH6] at s6' hl6 hl56 ⊢
      walk_at "rd"
      refine ⟨l6, 60, [V.int 40], rfl, rfl, hl6, by decide, by decide, by decide, fun l7 nl7 => ?_⟩
      rw [rep_flat1]
      have s7' := Same.up (o := .lst (List.replicate (60 : Int).toNat (V.int 40))) (Same.refl H6) nl7
      have hl7 : upd H6 l7 (.lst (List.replicate (60 : Int).toNat (V.int 40))) l7 = some (.lst (List.replicate (60 : Int).toNat (V.int 40))) := upd_same
      have hl57 := s7' _ _ hl56
      obtain ⟨H7, eH7⟩ : ∃ H7, H7 = upd H6 l7 (.lst (List.replicate (60 : Int).toNat (V.int 40))) := ⟨_, rfl⟩
      rw [← eH7] at s7' hl7 hl57 ⊢
      walk_at "rd"
      refine ⟨l5, l7, _, _, rfl, rfl, hl57, hl7, by rw [List.length_replicate]; decide, fun l8 nl8 => ?_⟩
      have s8' := Same.up (o := .lst ([V.int 36, V.int 36] ++ List.replicate (60 : Int).toNat (V.int 40))) (Same.refl H7) nl8
      have hl8 : upd H7 l8 (.lst ([V.int 36, V.int 36] ++ List.replicate (60 : Int).toNat (V.int 40))) l8 = some (.lst (((36 : Int) :: 36 :: List.replicate 60 40).map V.int)) := by
        rw [upd_same, List.map_cons, List.map_cons, List.map_replicate]; rfl
      have s8 := s5'.trans (s6'.trans (s7'.trans s8'))
      obtain ⟨H8, eH8⟩ : ∃ H8, H8 = upd H7 l8 (.lst ([V.int 36, V.int 36] ++ List.replicate (60 : Int).toNat (V.int 40))) := ⟨_, rfl⟩
      rw [← eH8] at s8 hl8 ⊢
      walk_at "rd"
      refine ⟨l, l8, ns, 36 :: 36 :: List.replicate 60 40, 3, rfl, s8.seq hl, hl8, fun z hz => ?_, by rw [List.length_cons, List.length_cons, List.length_replicate]; decide, fun r9 H9 s9' nr9 hr9 => ?_⟩
      · rcases List.mem_cons.mp hz with rfl | hz
        · exact szd (by decide) (by decide)
        · rcases List.mem_cons.mp hz with rfl | hz
          · exact szd (by decide) (by decide)
          · rw [List.eq_of_mem_replicate hz]
            exact szd (by decide) (by decide)
      have dl : (drawsF ns 3 (36 :: 36 :: List.replicate 60 40)).length = 62 := by rw [drawsF_len, List.length_cons, List.length_cons, List.length_replicate]
      obtain ⟨d0, d1, ds, ed⟩ : ∃ d0 d1 ds, drawsF ns 3 (36 :: 36 :: List.replicate 60 40) = d0 :: d1 :: ds := by
        match h : drawsF ns 3 (36 :: 36 :: List.replicate 60 40), dl with
        | d0 :: d1 :: ds, _ => exact ⟨d0, d1, ds, rfl⟩
        | [_], e => cases e
        | [], e => cases e
      rw [ed] at hr9
      have s9 := s8.trans s9'
      walk_at "rd"
      refine ⟨r9, _, rfl, SqL.of hr9, fun q1 nq1 => ?_⟩
      rw [show (2 : Int) = ((2 : Nat) : Int) from rfl, cutDrop (by rw [List.length_map]; simp)]
      have s10' := Same.up (o := .lst (((d0 :: d1 :: ds).map V.int).drop 2)) (Same.refl H9) nq1
      have hq1 : upd H9 q1 (.lst (((d0 :: d1 :: ds).map V.int).drop 2)) q1 = some (.lst (ds.map V.int)) := upd_same
      have hr10 := s10' _ _ hr9
      obtain ⟨H10, eH10⟩ : ∃ H10, H10 = upd H9 q1 (.lst (((d0 :: d1 :: ds).map V.int).drop 2)) := ⟨_, rfl⟩
      rw [← eH10] at s10' hq1 hr10 ⊢
      have s10 := s9.trans s10'
      have zl := pm.length_eq
      walk_at "rd"
      refine ⟨p, a, q1, us, zs, ds, rfl, s10 _ _ ha, pu.keep (Keep.same s10), hq1, by omega, fun r xs ys H11 s11' nr hr px pyA => ?_⟩
      have py := pyA.pm.symm
      have s11 := s10.trans s11'
      have hr11 := s11' _ _ hr10
      have nr0 := s10.free nr
      have xl := px.length
      have yl := py.length_eq
      walk_at "rd"
      refine r_eq rfl ?_
      rw [deq_int]
      refine ⟨_, rfl, ?_⟩
      by_cases c1 : c = 1
      · refine ifT (decide_eq_true c1) ?_
        walk_at "rd"
        refine r_lenL (SqL.of hr) ?_
        walk_at "rd"
        by_cases x0 : 0 < xs.length
        · refine ifT (decide_eq_true (by omega)) ?_
          walk_at "rd"
          refine r_bm ?_
          walk_at "rd"
          refine ⟨.inl ⟨rfl, _, SqL.of hr⟩, ?_⟩
          walk_at "rd"
          refine r_ixL (SqL.of hr11) (atI_nat (j := 0) rfl) ?_
          walk_at "rd"
          refine r_lenL (SqL.of hr) ?_
          refine r_mod (by omega) ?_
          obtain ⟨m, em⟩ : ∃ m : Nat, d0 % (xs.length : Int) = (m : Int) := ⟨(d0 % (xs.length : Int)).toNat, by have := Int.emod_nonneg d0 (show (xs.length : Int) ≠ 0 by omega); omega⟩
          have ml : m < xs.length := by have := Int.emod_lt_of_pos d0 (show 0 < (xs.length : Int) by omega); omega
          rw [em]
          obtain ⟨z, ez, pz⟩ := px.at (List.getElem?_eq_getElem ml)
          walk_at "rd"
          refine ⟨r, xs, (m : Int), m, xs[m], rfl, rfl, hr, by omega, by omega, (ixN_seq (ixN_nat ml)).1, List.getElem?_eq_getElem ml, ?_⟩
          have nt : ∀ c es, H11 c = some (.tup es) → upd H11 r (.lst (xs.eraseIdx m)) c = some (.tup es) := fun c es e => by
            rw [upd_ne (fun z => by rw [z, hr] at e; cases e)]
            exact e
          have rr : r9 ≠ r := fun z => by rw [← z, hr10] at nr; cases nr
          have s12 : Same H (upd H11 r (.lst (xs.eraseIdx m))) := Same.upOff s11 nr0
          have hr12 : upd H11 r (.lst (xs.eraseIdx m)) r = some (.lst (xs.eraseIdx m)) := upd_same
          have hd12 : upd H11 r (.lst (xs.eraseIdx m)) r9 = some (.lst ((d0 :: d1 :: ds).map V.int)) := by rw [upd_ne rr]; exact hr11
          have px12 := (px.eraseI m).mono nt
          have pz12 : PrAt p (upd H11 r (.lst (xs.eraseIdx m))) xs[m] z := by
            obtain ⟨t, e, tp, ht⟩ := pz
            exact ⟨t, e, tp, nt _ _ ht⟩
          have el : (xs.eraseIdx m).length = xs.length - 1 := List.length_eraseIdx_of_lt ml
          obtain ⟨H12, eH12⟩ : ∃ H12, H12 = upd H11 r (.lst (xs.eraseIdx m)) := ⟨_, rfl⟩
          rw [← eH12] at s12 hr12 hd12 px12 pz12 ⊢
          walk_at "rd"
          refine r_bm ?_
          walk_at "rd"
          refine ⟨.inl ⟨rfl, _, SqL.of hr12⟩, ?_⟩
          walk_at "rd"
          refine r_ixL (SqL.of hd12) (atI_nat (j := 1) rfl) ?_
          walk_at "rd"
          refine r_lenL (SqL.of hr12) ?_
          refine r_c ?_
          refine r_I0 ?_
          refine r_mod (by omega) ?_
          obtain ⟨n, en⟩ : ∃ n : Nat, d1 % (((xs.eraseIdx m).length : Int) + 1) = (n : Int) := ⟨(d1 % (((xs.eraseIdx m).length : Int) + 1)).toNat, by have := Int.emod_nonneg d1 (show (((xs.eraseIdx m).length : Int) + 1) ≠ 0 by omega); omega⟩
          have nl : n ≤ (xs.eraseIdx m).length := by have := Int.emod_lt_of_pos d1 (show 0 < (((xs.eraseIdx m).length : Int) + 1) by omega); omega
          rw [en]
          walk_at "rd"
          refine ⟨r, xs.eraseIdx m, n, xs[m], rfl, rfl, hr12, nl, Nat.lt_of_le_of_lt (show _ ≤ 36 by omega) (by decide), Nat.lt_of_le_of_lt (show _ ≤ 36 by omega) (by decide), ?_⟩
          have nt2 : ∀ c es, H12 c = some (.tup es) → upd H12 r (.lst ((xs.eraseIdx m).take n ++ xs[m] :: (xs.eraseIdx m).drop n)) c = some (.tup es) := fun c es e => by
            rw [upd_ne (fun z => by rw [z, hr12] at e; cases e)]
            exact e
          walk_at "rd"
          refine k r _ ((ys.eraseIdx m).take n ++ z :: (ys.eraseIdx m).drop n) _ (Same.upOff s12 nr0) upd_same ?_ (((ins_perm n).trans (erase_perm ez)).trans (py.trans pm))
          have pz13 : PrAt p (upd H12 r (.lst ((xs.eraseIdx m).take n ++ xs[m] :: (xs.eraseIdx m).drop n))) xs[m] z := by
            obtain ⟨t, e, tp, ht⟩ := pz12
            exact ⟨t, e, tp, nt2 _ _ ht⟩
          exact ((px12.take n).mono nt2).app (.cons pz13 ((px12.drop n).mono nt2))
        · refine ifF (decide_eq_false (by omega)) ?_
          walk_at "rd"
          exact k r xs ys H11 s11 hr px (py.trans pm)
      · refine ifF (decide_eq_false c1) ?_
        walk_at "rd"
        exact k r xs ys H11 s11 hr px (py.trans pm)
end
end Pk
set_option Elab.async false
set_option linter.all false
set_option maxRecDepth 100000
set_option maxHeartbeats 4000000
namespace Pk
open PySem L2
local macro_rules | `(tactic| walk_at "rd") => `(tactic| repeat (first
  | with_reducible refine r_seq ?_ | with_reducible refine r_nxt ?_ | with_reducible refine r_asg ?_ | with_reducible refine r_to ?_ | with_reducible refine r_ret ?_ | with_reducible refine r_for ?_ | with_reducible refine r_lc ?_ | with_reducible refine r_lc2 ?_ | with_reducible refine r_rng1 ?_ | with_reducible refine r_list ?_ | with_reducible refine r_tupI ?_ | with_reducible refine r_drop ?_ | with_reducible refine r_ifs ?_
  | with_reducible refine r_op ?_ | with_reducible refine r_c ?_ | with_reducible refine r_var rfl ?_ | with_reducible refine r_var (by assumption) ?_ | with_reducible refine r_I0 ?_ | with_reducible refine r_un ?_ | with_reducible refine r_U ?_ | with_reducible refine r_make ?_ | with_reducible refine r_makeS ?_ | with_reducible refine r_ifE ?_ | with_reducible refine r_cm ?_ | with_reducible refine r_mkV rfl ?_ | with_reducible refine r_sub ?_
  | with_reducible refine r_nil ?_ | with_reducible refine r_cons ?_ | with_reducible refine r_cb ?_ | with_reducible refine r_sl ?_ | with_reducible refine r_noP ?_ | with_reducible refine r_part ?_ | with_reducible refine r_isI ?_ | with_reducible refine r_lst ?_ | with_reducible refine r_tup ?_ | with_reducible refine r_call ?_ | with_reducible refine r_callS ?_ | with_reducible refine r_sFldU ?_ | with_reducible refine r_chain ?_ | with_reducible refine r_enum ?_ | with_reducible refine r_zip ?_ | with_reducible refine r_rng3 ?_ | with_reducible refine r_gtup ?_ | with_reducible refine r_methU ?_
  | with_reducible refine r_test ?_ | with_reducible refine r_B ?_ | with_reducible refine r_and ?_ | with_reducible refine r_or ?_ | with_reducible refine r_not ?_ | with_reducible refine r_andV ?_ | with_reducible refine r_orV ?_ | with_reducible refine r_notV ?_ | with_reducible refine r_bl ?_ | with_reducible refine r_yes ?_ | with_reducible refine r_int ?_ | with_reducible refine r_is0 ?_ | with_reducible refine r_is1 ?_ | with_reducible refine iteT ?_ | with_reducible refine iteF ?_ | with_reducible refine ite_nF ?_ | with_reducible refine ite_nT ?_
  | with_reducible refine r_mod (by decide) ?_ | with_reducible refine r_div (by decide) (by decide) ?_ | with_reducible refine r_mulR (by decide) (by decide) ?_ | with_reducible refine r_mulL (by decide) (by decide) ?_ | with_reducible refine r_pow (by decide) (by decide) (by decide) ?_))
/-! ### the law's own normal order -/
def spIsFree : Sp := fun vs H Q _ => ∃ (p a : Addr) (us : List V) (zs : List Pr) (m : Nat) (z : Pr), vs = [.ref a, .int (m : Int)] ∧ H a = some (.lst us) ∧ PrsAt p H us zs ∧ zs.Nodup ∧ zs.length ≤ 64 ∧ zs[m]? = some z ∧
  ∀ (b : Bool) (H' : Hp), Same H H' → (b = true ↔ Fre zs z) → Q (.bl b) H'
def spLNorm : Sp := fun vs H Q _ => ∃ (p a : Addr) (us : List V) (zs : List Pr), vs = [.ref a] ∧ H a = some (.lst us) ∧ PrsAt p H us zs ∧ zs.Nodup ∧ zs.length ≤ 64 ∧
  ∀ (r : Addr) (ws : List V) (ys : List Pr) (H' : Hp), Same H H' → H' r = some (.lst ws) → PrsAt p H' ws ys → NF zs ys → Q (.ref r) H'
abbrev slIsFree : Stmt := top 44
abbrev slLNorm : Stmt := top 45
section
variable {P : Program} {w : World} {K : PySem.W.Frag} {mg : Str → Option Value} {base : Heap} {f : Addr} {fd : FuncData}
theorem sclIsFree : FnScope ["_law_listed", "_law_at", "_law_k"] ["_law_listed", "_law_at"] (defScope slIsFree) := ⟨rfl, rfl, rfl, by decide +kernel, rfl, by decide +kernel, by decide +kernel⟩
theorem ok_isFree (F : Fun K "_law_is_free" "_law_is_free" slIsFree f fd) (T : Bt mg) (DS : Df P w K mg base CX0 "_law_share" 1 ["_law_spot", "_law_other_here"] (spShare K)) : FnOk P w K mg base CX0 2 f fd ["_law_listed", "_law_at"] spIsFree := by
  refine F.ok sclIsFree (fun vs H Q E h => ?_) (fun cdv A' outer s H vs Q E hr h => ?_)
  · obtain ⟨p, a, us, zs, m, z, rfl, _⟩ := h
    rfl
  · obtain ⟨p, a, us, zs, m, z, rfl, ha, pu, nd, z64, ez, k⟩ := h
    have ul := pu.length
    have ml := (List.getElem?_eq_some_iff.mp ez).1
    obtain ⟨vm, evm, pvm⟩ := pu.get ez
    refine ⟨_, (pss_one (ps_ret (pe_cmpR op_eq (pe_callB cl_len (by rfl) T.len (by decide +kernel) (pa_cons (pe_lc (own := [("_law_k", 2)]) (g := gName 2) (tt := tTest (tCall (spShare K) [] E0 (tCons (tVar 2) (tCons (tOp (rIxL K) (tVar 0) (tVar 1)) tNil)))) rfl sclIsFree.nd (pi_list (pe_slice sl_list (pv 0) po_none (po_some (pv 1)))) (blkOk_by (own := [("_law_k", 2)]) (N := ["_law_listed", "_law_at", "_law_k"]) (sc := defScope slIsFree) (by decide +kernel)) (fun _ _ _ _ _ => pg_name (i := 2) sclIsFree.nd rfl (Or.inl rfl)) (fun _ _ _ _ _ => pts_one (pt_val (pe_df DS hr (by decide) (pa_cons (pv 2) (pa_cons (pe_ix ix_list (pv 0) (pv 1) (fun _ _ => rfl)) pa_nil))))) (fun _ _ _ _ _ => (pv 2))) pa_nil)) pe_int (nomark _)))), ?_⟩
    walk_at "rd"
    refine ⟨a, us, rfl, SqL.of ha, fun q nq => ?_⟩
    rw [cutAt (by omega)]
    have s1 := Same.up (o := .lst (us.take m)) (Same.refl H) nq
    have hq1 : upd H q (.lst (us.take m)) q = some (.lst (us.take m)) := upd_same
    have pq1 := (pu.take m).keep (Keep.same s1)
    obtain ⟨H1, eH1⟩ : ∃ H1, H1 = upd H q (.lst (us.take m)) := ⟨_, rfl⟩
    rw [← eH1] at s1 hq1 pq1 ⊢
    walk_at "rd"
    refine ⟨q, rfl, ⟨_, SqL.of hq1⟩, fun D nD => lc_it walk_list (fun i H' => Same H1 H' ∧ ∃ ws : List V, H' D = some (.lst ws) ∧ ws.length = (((zs.take m).take i).filter fun y => shB y z).length ∧ ws.length ≤ i) ⟨Same.up (Same.refl H1) nD, [], upd_same, rfl, Nat.le_refl _⟩ (fun i H' _ o => SqL.of (o.1 _ _ hq1)) ?_ ?_⟩
    · rintro i y H2 H3 hi ⟨s3, ws, hD, wl, wi⟩ ⟨rfl, ey⟩
      obtain ⟨zy, ezy, pzy⟩ := (pq1.keep (Keep.same s3)).at ey
      have s03 := s1.trans s3
      have more : (((zs.take m).take (i + 1)).filter fun y => shB y z) = (((zs.take m).take i).filter fun y => shB y z) ++ (if shB zy z = true then [zy] else []) := by
        rw [List.take_add_one, ezy, List.filter_append]
        congr 1
        by_cases c : shB zy z = true
        · rw [if_pos c]; exact List.filter_cons_of_pos (p := fun y => shB y z) c
        · rw [if_neg c]; exact List.filter_cons_of_neg (p := fun y => shB y z) c
      have i64 : i < 64 := by
        have : i < (us.take m).length := hi
        rw [List.length_take] at this
        omega
      walk_at "rd"
      refine ⟨rfl, ?_⟩
      walk_at "rd"
      refine r_ixL (SqL.of (s03 _ _ ha)) (atI_nat evm) ?_
      walk_at "rd"
      refine ⟨p, y, vm, zy, z, rfl, pzy, pvm.keep (Keep.same s03), ?_⟩
      walk_at "rd"
      by_cases c : shB zy z = true
      · refine ifT c ?_
        walk_at "rd"
        exact ⟨ws, hD, Nat.lt_of_le_of_lt (show ws.length ≤ 64 by omega) (by decide), Same.upOff s3 nD, _, upd_same, by rw [more, if_pos c, List.length_append, List.length_append, wl]; rfl, by rw [List.length_append]; show ws.length + 1 ≤ _; omega⟩
      · refine ifF (Bool.eq_false_iff.mpr c) ?_
        exact ⟨s3, ws, hD, by rw [more, if_neg c, List.append_nil]; exact wl, by omega⟩
    · rintro H3 ⟨s3, ws, hD, wl, wi⟩
      rw [← pq1.length.symm, List.take_of_length_le (Nat.le_refl _)] at wl
      walk_at "rd"
      refine r_lenL (SqL.of hD) ?_
      walk_at "rd"
      refine r_eq rfl ?_
      refine k _ H3 (s1.trans s3) ?_
      rw [decide_eq_true_iff]
      constructor
      · intro e
        have e0 : ws.length = 0 := by have := V.int.inj e; omega
        rw [e0] at wl
        have nil := List.eq_nil_of_length_eq_zero wl.symm
        refine ⟨List.mem_of_getElem? ez, fun y hy => ?_⟩
        have := List.filter_eq_nil_iff.mp nil y ((bef_take nd ez).mp hy)
        exact Bool.eq_false_iff.mpr this
      · intro fz
        have nil : ((zs.take m).filter fun y => shB y z) = [] := List.filter_eq_nil_iff.mpr fun y hy => by
          rw [fz.2 y ((bef_take nd ez).mpr hy)]
          exact Bool.false_ne_true
        rw [nil] at wl
        rw [wl]
        rfl
end
end Pk
set_option Elab.async false
set_option linter.all false
set_option maxRecDepth 100000
set_option maxHeartbeats 4000000
namespace Pk
open PySem L2
local macro_rules | `(tactic| walk_at "rd") => `(tactic| repeat (first
  | with_reducible refine r_seq ?_ | with_reducible refine r_nxt ?_ | with_reducible refine r_asg ?_ | with_reducible refine r_to ?_ | with_reducible refine r_ret ?_ | with_reducible refine r_for ?_ | with_reducible refine r_lc ?_ | with_reducible refine r_lc2 ?_ | with_reducible refine r_rng1 ?_ | with_reducible refine r_list ?_ | with_reducible refine r_tupI ?_ | with_reducible refine r_drop ?_ | with_reducible refine r_ifs ?_
  | with_reducible refine r_op ?_ | with_reducible refine r_c ?_ | with_reducible refine r_var rfl ?_ | with_reducible refine r_var (by assumption) ?_ | with_reducible refine r_I0 ?_ | with_reducible refine r_un ?_ | with_reducible refine r_U ?_ | with_reducible refine r_make ?_ | with_reducible refine r_makeS ?_ | with_reducible refine r_ifE ?_ | with_reducible refine r_cm ?_ | with_reducible refine r_mkV rfl ?_ | with_reducible refine r_sub ?_
  | with_reducible refine r_nil ?_ | with_reducible refine r_cons ?_ | with_reducible refine r_cb ?_ | with_reducible refine r_sl ?_ | with_reducible refine r_noP ?_ | with_reducible refine r_part ?_ | with_reducible refine r_isI ?_ | with_reducible refine r_lst ?_ | with_reducible refine r_tup ?_ | with_reducible refine r_call ?_ | with_reducible refine r_callS ?_ | with_reducible refine r_sFldU ?_ | with_reducible refine r_chain ?_ | with_reducible refine r_enum ?_ | with_reducible refine r_zip ?_ | with_reducible refine r_rng3 ?_ | with_reducible refine r_gtup ?_ | with_reducible refine r_methU ?_
  | with_reducible refine r_test ?_ | with_reducible refine r_B ?_ | with_reducible refine r_and ?_ | with_reducible refine r_or ?_ | with_reducible refine r_not ?_ | with_reducible refine r_andV ?_ | with_reducible refine r_orV ?_ | with_reducible refine r_notV ?_ | with_reducible refine r_bl ?_ | with_reducible refine r_yes ?_ | with_reducible refine r_int ?_ | with_reducible refine r_is0 ?_ | with_reducible refine r_is1 ?_ | with_reducible refine iteT ?_ | with_reducible refine iteF ?_ | with_reducible refine ite_nF ?_ | with_reducible refine ite_nT ?_
  | with_reducible refine r_mod (by decide) ?_ | with_reducible refine r_div (by decide) (by decide) ?_ | with_reducible refine r_mulR (by decide) (by decide) ?_ | with_reducible refine r_mulL (by decide) (by decide) ?_ | with_reducible refine r_pow (by decide) (by decide) (by decide) ?_))
section
variable {P : Program} {w : World} {K : PySem.W.Frag} {mg : Str → Option Value} {base : Heap} {f : Addr} {fd : FuncData}
/-- the best so far -/
def BestN (lz : List Pr) (i : Nat) (b : Int) : Prop := (b = -1 ∧ ∀ k, k < i → ∀ z, lz[k]? = some z → ¬ Fre lz z) ∨
  ∃ (n : Nat) (z : Pr), b = (n : Int) ∧ n < i ∧ lz[n]? = some z ∧ Fre lz z ∧ ∀ k, k < i → ∀ y, lz[k]? = some y → Fre lz y → prLt y z = false
theorem BestN.skip {lz : List Pr} {i : Nat} {b : Int} {z : Pr} (h : BestN lz i b) (ez : lz[i]? = some z) (n : ¬ Fre lz z) : BestN lz (i + 1) b := by
  have st : ∀ {C : Nat → Pr → Prop}, (∀ k, k < i → ∀ y, lz[k]? = some y → C k y) → (∀ y, lz[i]? = some y → C i y) → ∀ k, k < i + 1 → ∀ y, lz[k]? = some y → C k y := fun h g k hk y ey => by
    by_cases c : k = i
    · subst c; exact g y ey
    · exact h k (by omega) y ey
  rcases h with ⟨e, h⟩ | ⟨m, y, e, mi, em, fy, h⟩
  · exact .inl ⟨e, st h fun y ey => by rw [ez] at ey; cases ey; exact n⟩
  · exact .inr ⟨m, y, e, by omega, em, fy, st h fun x ex fx => by rw [ez] at ex; cases ex; exact absurd fx n⟩
theorem BestN.keep {lz : List Pr} {i m : Nat} {z y : Pr} (ez : lz[i]? = some z) (em : lz[m]? = some y) (mi : m < i) (fy : Fre lz y) (h : ∀ k, k < i → ∀ x, lz[k]? = some x → Fre lz x → prLt x y = false) (l : prLt z y = false) : BestN lz (i + 1) (m : Int) :=
  .inr ⟨m, y, rfl, by omega, em, fy, fun k hk x ex fx => by
    by_cases c : k = i
    · subst c; rw [ez] at ex; cases ex; exact l
    · exact h k (by omega) x ex fx⟩
theorem BestN.first {lz : List Pr} {i : Nat} {z : Pr} (ez : lz[i]? = some z) (fz : Fre lz z) (h : ∀ k, k < i → ∀ z, lz[k]? = some z → ¬ Fre lz z) : BestN lz (i + 1) (i : Int) :=
  .inr ⟨i, z, rfl, by omega, ez, fz, fun k hk x ex fx => by
    by_cases c : k = i
    · subst c; rw [ez] at ex; cases ex; exact prLt_irr z
    · exact absurd fx (h k (by omega) x ex)⟩
theorem BestN.less {lz : List Pr} {i : Nat} {z y : Pr} (ez : lz[i]? = some z) (fz : Fre lz z) (h : ∀ k, k < i → ∀ x, lz[k]? = some x → Fre lz x → prLt x y = false) (l : prLt z y = true) : BestN lz (i + 1) (i : Int) :=
  .inr ⟨i, z, rfl, by omega, ez, fz, fun k hk x ex fx => by
    by_cases c : k = i
    · subst c; rw [ez] at ex; cases ex; exact prLt_irr z
    · have g := h k (by omega) x ex fx
      cases e : prLt x z with
      | false => rfl
      | true => rw [prLt_trans e l] at g; cases g⟩
theorem BestN.fin {lz : List Pr} {b : Int} (h : BestN lz lz.length b) (ne : 0 < lz.length) (nd : lz.Nodup) : ∃ (n : Nat) (z : Pr), b = (n : Int) ∧ lz[n]? = some z ∧ Fre lz z ∧ ∀ y, Fre lz y → prLt y z = false := by
  rcases h with ⟨_, h⟩ | ⟨n, z, e, _, en, fz, h⟩
  · cases lz with
    | nil => cases ne
    | cons a l => exact absurd (fre_head nd) (h 0 ne a rfl)
  · refine ⟨n, z, e, en, fz, fun y fy => ?_⟩
    obtain ⟨k, hk, ek⟩ := List.getElem_of_mem fy.1
    exact h k hk y (by rw [List.getElem?_eq_getElem hk, ek]) fy
theorem sclLNorm : FnScope ["_law_listed", "_law_left", "_law_found", "_law_step", "_law_best", "_law_at"] ["_law_listed"] (defScope slLNorm) := ⟨rfl, rfl, rfl, by decide +kernel, rfl, by decide +kernel, by decide +kernel⟩
theorem ok_lnorm (F : Fun K "_law_normal" "_law_normal" slLNorm f fd) (T : Bt mg) (DF : Df P w K mg base CX0 "_law_is_free" 2 ["_law_listed", "_law_at"] spIsFree) : FnOk P w K mg base CX0 3 f fd ["_law_listed"] spLNorm := by
  refine F.ok sclLNorm (fun vs H Q E h => ?_) (fun cdv A' outer s H vs Q E hr h => ?_)
  · obtain ⟨p, a, us, zs, rfl, _⟩ := h
    rfl
  · obtain ⟨p, a, us, zs, rfl, ha, pu, nd, z64, kk⟩ := h
    have ul := pu.length
    refine ⟨_, (pss_cons (ps_set (i := 1) sclLNorm.nd rfl (Or.inl rfl) (pe_callTy cl_lst (by rfl) T.list (by decide +kernel) (pa_cons (pv 0) pa_nil)))
  (pss_cons (ps_set (i := 2) sclLNorm.nd rfl (Or.inl rfl) (pe_lst pa_nil))
  (pss_cons (ps_for PassesOwn.never rfl (pi_range1 rfl T.range (pa_cons (pe_callB cl_len (by rfl) T.len (by decide +kernel) (pa_cons (pv 0) pa_nil)) pa_nil)) (pg_name (i := 3) sclLNorm.nd rfl (Or.inl rfl)) (pss_cons (ps_set (i := 4) sclLNorm.nd rfl (Or.inl rfl) (pe_un un_neg pe_int))
  (pss_cons (ps_for PassesOwn.never rfl (pi_range1 rfl T.range (pa_cons (pe_callB cl_len (by rfl) T.len (by decide +kernel) (pa_cons (pv 1) pa_nil)) pa_nil)) (pg_name (i := 5) sclLNorm.nd rfl (Or.inl rfl)) (pss_one (ps_if (PW.pt (pw_and (pt_val (pe_df DF hr (by decide) (pa_cons (pv 1) (pa_cons (pv 5) pa_nil)))) (pw_and1 (PW.pt (pw_or (pt_cmpR op_lt (pv 4) pe_int (nomark _)) (pw_or1 (pt_cmpR (op_ltD hr.units) (pe_ix ix_list (pv 1) (pv 5) (fun _ _ => rfl)) (pe_ix ix_list (pv 1) (pv 4) (fun _ _ => rfl)) (nomark _)))))))) (pss_one (ps_set (i := 4) sclLNorm.nd rfl (Or.inl rfl) (pv 5))) pss_nil)))
  (pss_one (ps_expr (pe_bm PySem.F.plainAttrs_list PySem.F.slot_list_append PySem.F.type_list_append mt_append (pv 2) (pa_cons (pe_bm PySem.F.plainAttrs_list PySem.F.slot_list_pop PySem.F.type_list_pop mt_popAt (pv 1) (pa_cons (pv 4) pa_nil)) pa_nil)))))))
  (pss_one (ps_ret (pv 2)))))), ?_⟩
    walk_at "rd"
    refine r_lstOf (SqL.of ha) fun q nq => ?_
    have s1 := Same.up (o := .lst us) (Same.refl H) nq
    have hq1 : upd H q (.lst us) q = some (.lst us) := upd_same
    have pu1 := pu.keep (Keep.same s1)
    obtain ⟨H1, eH1⟩ : ∃ H1, H1 = upd H q (.lst us) := ⟨_, rfl⟩
    rw [← eH1] at s1 hq1 pu1 ⊢
    walk_at "rd"
    refine ⟨Nat.zero_le _, fun D nD => ?_⟩
    have Dq : D ≠ q := fun z => by rw [z, hq1] at nD; cases nD
    have nD0 := s1.free nD
    have s2' := Same.up (o := .lst []) (Same.refl H1) nD
    have s2 := s1.trans s2'
    have hq2 := s2' _ _ hq1
    have pu2 := pu1.keep (Keep.same s2')
    have hD2 : upd H1 D (.lst []) D = some (.lst []) := upd_same
    obtain ⟨H2, eH2⟩ : ∃ H2, H2 = upd H1 D (.lst []) := ⟨_, rfl⟩
    rw [← eH2] at s2 hq2 pu2 hD2 ⊢
    walk_at "rd"
    refine r_lenL (SqL.of (s2 _ _ ha)) ?_
    walk_at "rd"
    refine ⟨_, rfl, by omega, by omega, for_it walk_range (fun m σ H' => ∃ (v3 v4 v5 : Option V) (lw tw : List V) (lz tz : List Pr), σ = [some (.ref a), some (.ref q), some (.ref D), v3, v4, v5] ∧ Same H H' ∧ H' q = some (.lst lw) ∧ PrsAt p H' lw lz ∧ H' D = some (.lst tw) ∧ PrsAt p H' tw tz ∧ lz.length + m = zs.length ∧ tz.length = m ∧ lz.Nodup ∧ ∀ n, NF lz n → NF zs (tz ++ n))
      ⟨_, _, _, us, [], zs, [], rfl, s2, hq2, pu2, hD2, .nil, rfl, rfl, nd, fun _ h => h⟩ (fun _ _ _ _ _ => trivial) ?_ ?_⟩
    · rintro m y σ H30 H3 hm ⟨v3, v4, v5, lw, tw, lz, tz, rfl, s3, hq3, pl3, hD3, pt3, ll, tl, ln, nf⟩ ⟨rfl, rfl⟩
      have hm : m < us.length := by simpa using hm
      have e0 : (0 : Int) + (m : Int) = (m : Int) := by omega
      simp only [e0]
      have lwl := pl3.length
      have twl := pt3.length
      walk_at "rd"
      refine r_lenL (SqL.of hq3) ?_
      walk_at "rd"
      refine ⟨_, rfl, by omega, by omega, for_it walk_range (fun i σ H' => ∃ (b : Int) (v5 : Option V), σ = [some (.ref a), some (.ref q), some (.ref D), some (.int (m : Int)), some (.int b), v5] ∧ Same H3 H' ∧ BestN lz i b)
        ⟨-1, _, rfl, Same.refl H3, .inl ⟨rfl, fun k hk => absurd hk (Nat.not_lt_zero k)⟩⟩ (fun _ _ _ _ _ => trivial) ?_ ?_⟩
      · rintro i y σ H40 H4 hi ⟨b, v5, rfl, s4, bn⟩ ⟨rfl, rfl⟩
        have hi : i < lw.length := by simpa using hi
        have e0 : (0 : Int) + (i : Int) = (i : Int) := by omega
        simp only [e0]
        obtain ⟨vi, evi⟩ : ∃ v, lw[i]? = some v := ⟨_, List.getElem?_eq_getElem hi⟩
        obtain ⟨z, ez, pz⟩ := (pl3.keep (Keep.same s4)).at evi
        walk_at "rd"
        refine ⟨p, q, lw, lz, i, z, rfl, s4 _ _ hq3, pl3.keep (Keep.same s4), ln, by omega, ez, fun bb H5 s5' fb => ?_⟩
        have s5 := s4.trans s5'
        have pz5 := pz.keep (Keep.same s5')
        walk_at "rd"
        cases bb with
        | false =>
          refine ifF rfl ?_
          exact ⟨b, _, rfl, s5, bn.skip ez fun f => Bool.false_ne_true (fb.mpr f)⟩
        | true =>
          have fz := fb.mp rfl
          refine ifT rfl ?_
          walk_at "rd"
          rcases bn with ⟨rfl, h⟩ | ⟨n, yb, rfl, ni, en, fy, h⟩
          · refine ifT (by decide) ?_
            walk_at "rd"
            exact ⟨_, _, rfl, s5, BestN.first ez fz h⟩
          · refine ifF (decide_eq_false (by omega)) ?_
            obtain ⟨vn, evn⟩ : ∃ v, lw[n]? = some v := ⟨_, List.getElem?_eq_getElem (by omega)⟩
            obtain ⟨y2, ey2, py⟩ := (pl3.keep (Keep.same s5)).at evn
            rw [en] at ey2
            cases ey2
            walk_at "rd"
            refine r_ixL (SqL.of (s5 _ _ hq3)) (atI_nat evi) ?_
            walk_at "rd"
            refine r_ixL (SqL.of (s5 _ _ hq3)) (atI_nat evn) ?_
            refine ⟨prD z, prD yb, ⟨pz5.dp, py.dp, pr_alike _ _, (fun z => by cases z), Nat.le_trans (pr_depth _) (by decide)⟩, ?_⟩
            walk_at "rd"
            by_cases c : prLt z yb = true
            · refine ifT (by show PySem.W.dataLt (prD z) (prD yb) = true; rw [pr_ltT]; exact c) ?_
              walk_at "rd"
              exact ⟨_, _, rfl, s5, BestN.less ez fz h c⟩
            · refine ifF (by show PySem.W.dataLt (prD z) (prD yb) = false; rw [pr_ltT]; exact Bool.eq_false_iff.mpr c) ?_
              exact ⟨_, _, rfl, s5, BestN.keep ez en ni fy h (Bool.eq_false_iff.mpr c)⟩
      · rintro σ H4 ⟨b, v5, rfl, s4, bn⟩
        have lz0 : 0 < lz.length := by omega
        have en : lw.length = lz.length := lwl
        obtain ⟨n, z, rfl, ez, fz, lst⟩ := BestN.fin (by have := bn; simpa [en] using this) lz0 ln
        have nl : n < lw.length := by rw [en]; exact (List.getElem?_eq_some_iff.mp ez).1
        have hq4 := s4 _ _ hq3
        have hD4 := s4 _ _ hD3
        have pl4 := pl3.keep (Keep.same s4)
        have pt4 := pt3.keep (Keep.same s4)
        obtain ⟨z2, ez2, pz⟩ := pl4.at (List.getElem?_eq_getElem nl)
        rw [ez] at ez2
        cases ez2
        walk_at "rd"
        refine r_bm ?_
        walk_at "rd"
        refine ⟨.inl ⟨rfl, _, SqL.of hD4⟩, ?_⟩
        walk_at "rd"
        refine r_bm ?_
        walk_at "rd"
        refine ⟨.inl ⟨rfl, _, SqL.of hq4⟩, ?_⟩
        walk_at "rd"
        refine ⟨q, lw, (n : Int), n, lw[n], rfl, rfl, hq4, by omega, by omega, ?_, List.getElem?_eq_getElem nl, ?_⟩
        · exact (ixN_seq (ixN_nat nl)).1
        have nt5 : ∀ c xs, H4 c = some (.tup xs) → upd H4 q (.lst (lw.eraseIdx n)) c = some (.tup xs) := fun c xs e => by
          rw [upd_ne (fun z => by rw [z, hq4] at e; cases e)]
          exact e
        have s5 : Same H (upd H4 q (.lst (lw.eraseIdx n))) := fun c o e => by
          rw [upd_ne (fun z => by rw [z, nq] at e; cases e)]
          exact s4 _ _ (s3 _ _ e)
        have hD5 : upd H4 q (.lst (lw.eraseIdx n)) D = some (.lst tw) := by rw [upd_ne Dq]; exact hD4
        have hq5 : upd H4 q (.lst (lw.eraseIdx n)) q = some (.lst (lw.eraseIdx n)) := upd_same
        have pl5 := (pl4.eraseI n).mono nt5
        have pt5 := pt4.mono nt5
        have pz5 : PrAt p (upd H4 q (.lst (lw.eraseIdx n))) lw[n] z := by
          obtain ⟨t, e, n, h⟩ := pz
          exact ⟨t, e, n, nt5 _ _ h⟩
        obtain ⟨H5, eH5⟩ : ∃ H5, H5 = upd H4 q (.lst (lw.eraseIdx n)) := ⟨_, rfl⟩
        rw [← eH5] at s5 hD5 hq5 pl5 pt5 pz5 ⊢
        walk_at "rd"
        refine ⟨D, tw, _, rfl, rfl, hD5, Nat.lt_of_le_of_lt (show tw.length ≤ 64 by omega) (by decide), ?_⟩
        have nt6 : ∀ c xs, H5 c = some (.tup xs) → upd H5 D (.lst (tw ++ [lw[n]])) c = some (.tup xs) := fun c xs e => by
          rw [upd_ne (fun z => by rw [z, hD5] at e; cases e)]
          exact e
        have hq6 : upd H5 D (.lst (tw ++ [lw[n]])) q = some (.lst (lw.eraseIdx n)) := by rw [upd_ne (fun z => Dq z.symm)]; exact hq5
        have pz6 : PrAt p (upd H5 D (.lst (tw ++ [lw[n]]))) lw[n] z := by
          obtain ⟨t, e, n, h⟩ := pz5
          exact ⟨t, e, n, nt6 _ _ h⟩
        refine ⟨_, _, _, lw.eraseIdx n, tw ++ [lw[n]], lz.eraseIdx n, tz ++ [z], rfl, Same.upOff s5 nD0, hq6, pl5.mono nt6, upd_same, (pt5.mono nt6).app (.cons pz6 .nil), ?_, by rw [List.length_append, tl]; rfl, ?_, fun n' h => ?_⟩
        · rw [List.length_eraseIdx_of_lt (by omega)]
          omega
        · rw [erase_idx ln ez]
          exact ln.erase z
        · rw [erase_idx ln ez] at h
          rw [List.append_assoc]
          exact nf (z :: n') (.cons z fz lst h)
    · rintro σ H3 ⟨v3, v4, v5, lw, tw, lz, tz, rfl, s3, hq3, pl3, hD3, pt3, ll, tl, ln, nf⟩
      have l0 : lz = [] := List.eq_nil_of_length_eq_zero (by simp at ll; omega)
      subst l0
      have := nf [] .nil
      rw [List.append_nil] at this
      walk_at "rd"
      exact kk D tw tz H3 s3 hD3 pt3 this
end
end Pk
set_option Elab.async false
set_option linter.all false
set_option maxRecDepth 100000
set_option maxHeartbeats 4000000
namespace Pk
open PySem L2
local macro_rules | `(tactic| walk_at "rd") => `(tactic| repeat (first
  | with_reducible refine r_seq ?_ | with_reducible refine r_nxt ?_ | with_reducible refine r_asg ?_ | with_reducible refine r_to ?_ | with_reducible refine r_ret ?_ | with_reducible refine r_for ?_ | with_reducible refine r_lc ?_ | with_reducible refine r_lc2 ?_ | with_reducible refine r_rng1 ?_ | with_reducible refine r_list ?_ | with_reducible refine r_tupI ?_ | with_reducible refine r_drop ?_ | with_reducible refine r_ifs ?_
  | with_reducible refine r_op ?_ | with_reducible refine r_c ?_ | with_reducible refine r_var rfl ?_ | with_reducible refine r_var (by assumption) ?_ | with_reducible refine r_I0 ?_ | with_reducible refine r_un ?_ | with_reducible refine r_U ?_ | with_reducible refine r_make ?_ | with_reducible refine r_makeS ?_ | with_reducible refine r_ifE ?_ | with_reducible refine r_cm ?_ | with_reducible refine r_mkV rfl ?_ | with_reducible refine r_sub ?_
  | with_reducible refine r_nil ?_ | with_reducible refine r_cons ?_ | with_reducible refine r_cb ?_ | with_reducible refine r_sl ?_ | with_reducible refine r_noP ?_ | with_reducible refine r_part ?_ | with_reducible refine r_isI ?_ | with_reducible refine r_lst ?_ | with_reducible refine r_tup ?_ | with_reducible refine r_call ?_ | with_reducible refine r_callS ?_ | with_reducible refine r_sFldU ?_ | with_reducible refine r_chain ?_ | with_reducible refine r_enum ?_ | with_reducible refine r_zip ?_ | with_reducible refine r_rng3 ?_ | with_reducible refine r_gtup ?_ | with_reducible refine r_methU ?_
  | with_reducible refine r_test ?_ | with_reducible refine r_B ?_ | with_reducible refine r_and ?_ | with_reducible refine r_or ?_ | with_reducible refine r_not ?_ | with_reducible refine r_andV ?_ | with_reducible refine r_orV ?_ | with_reducible refine r_notV ?_ | with_reducible refine r_bl ?_ | with_reducible refine r_yes ?_ | with_reducible refine r_int ?_ | with_reducible refine r_is0 ?_ | with_reducible refine r_is1 ?_ | with_reducible refine iteT ?_ | with_reducible refine iteF ?_ | with_reducible refine ite_nF ?_ | with_reducible refine ite_nT ?_
  | with_reducible refine r_mod (by decide) ?_ | with_reducible refine r_div (by decide) (by decide) ?_ | with_reducible refine r_mulR (by decide) (by decide) ?_ | with_reducible refine r_mulL (by decide) (by decide) ?_ | with_reducible refine r_pow (by decide) (by decide) (by decide) ?_))
/-! ### == of orders -/
def spCmp (C : Addr) (g : List Pr → List Pr → Bool) : Sp := fun vs H Q _ => ∃ (p x dx q y dy r : Addr) (zs ws : List Pr), vs = [.ref x, .ref y] ∧ OrX p C H x dx q zs ∧ OrX p C H y dy r ws ∧ Q (.bl (g zs ws)) H
section
variable {P : Program} {w : World} {K : PySem.W.Frag} {mg : Str → Option Value} {base : Heap} {C CE f : Addr} {fd : FuncData}
abbrev slOEq : Stmt := inCls 18 5
theorem sclOEq : FnScope ["self", "other"] ["self", "other"] (defScope slOEq) := ⟨rfl, rfl, rfl, by decide +kernel, rfl, by decide +kernel, by decide +kernel⟩
theorem ok_OEq (F : Fun K "__eq__" "Order.__eq__" slOEq f fd) (T : Bt mg) (O : OwnC K C) (nS : NoAttr K C "sequence") (gO : mg "Order" = some (.ref C)) : FnOk P w K mg base CX0 1 f fd ["self", "other"] (spCmp C fun zs ws => decide (zs = ws)) := by
  refine F.ok sclOEq (fun vs H Q E h => ?_) (fun cdv A outer s H vs Q E hr h => ?_)
  · obtain ⟨p, x, dx, q, y, dy, r, zs, ws, rfl, _⟩ := h
    rfl
  · obtain ⟨p, x, dx, q, y, dy, r, zs, ws, rfl, X, Y, k⟩ := h
    refine ⟨_, (pss_cons (ps_if (pt_not (pt_val (pe_callB call_isi (by rfl) T.isinstance (by decide +kernel) (pa_cons (pv 1) (pa_cons (pe_glob (v := .ref C) (by rfl) gO rfl) pa_nil))))) pss_never pss_nil)
      (pss_one (ps_ret (pe_cmpR (op_eqD hr.units) (pe_fld (pv 0) rfl) (pe_fld (pv 1) rfl) (nomark _))))), ?_⟩
    walk_at "rd"
    refine r_isiSelf O Y.o ?_
    walk_at "rd"
    refine r_fldV rfl X.o O.cl nS one_fst ?_
    refine r_fldV rfl Y.o O.cl nS one_fst ?_
    exact ⟨_, _, X.l.dp, Y.l.dp, prs_shaped zs, prs_shaped ws, by rw [prs_eqv]; exact k⟩
end

section
variable {P : Program} {w : World} {K : PySem.W.Frag} {mg : Str → Option Value} {base : Heap} {C CE f : Addr} {fd : FuncData}
abbrev slOLe : Stmt := inCls 18 7
theorem sclOLe : FnScope ["self", "other"] ["self", "other"] (defScope slOLe) := ⟨rfl, rfl, rfl, by decide +kernel, rfl, by decide +kernel, by decide +kernel⟩
theorem ok_OLe (F : Fun K "__le__" "Order.__le__" slOLe f fd) (T : Bt mg) (O : OwnC K C) (nS : NoAttr K C "sequence") (gO : mg "Order" = some (.ref C)) : FnOk P w K mg base CX0 1 f fd ["self", "other"] (spCmp C fun zs ws => !lexB ws zs) := by
  refine F.ok sclOLe (fun vs H Q E h => ?_) (fun cdv A outer s H vs Q E hr h => ?_)
  · obtain ⟨p, x, dx, q, y, dy, r, zs, ws, rfl, _⟩ := h
    rfl
  · obtain ⟨p, x, dx, q, y, dy, r, zs, ws, rfl, X, Y, k⟩ := h
    refine ⟨_, (pss_cons (ps_if (pt_not (pt_val (pe_callB call_isi (by rfl) T.isinstance (by decide +kernel) (pa_cons (pv 1) (pa_cons (pe_glob (v := .ref C) (by rfl) gO rfl) pa_nil))))) pss_never pss_nil)
      (pss_one (ps_ret (pe_cmpR (op_leD hr.units) (pe_fld (pv 0) rfl) (pe_fld (pv 1) rfl) (nomark _))))), ?_⟩
    walk_at "rd"
    refine r_isiSelf O Y.o ?_
    walk_at "rd"
    refine r_fldV rfl X.o O.cl nS one_fst ?_
    refine r_fldV rfl Y.o O.cl nS one_fst ?_
    exact ⟨_, _, ⟨X.l.dp, Y.l.dp, prs_alike zs ws, (fun z => by cases z), Nat.le_trans (prs_depth zs) (by decide)⟩, by simp only [prsLt]; exact k⟩
end
theorem lexLE_not : ∀ {as bs : List Pr}, lexLE as bs = true → lexB bs as = false
  | [], [], _ => rfl
  | [], _ :: _, _ => rfl
  | _ :: _, [], h => by cases h
  | a :: as, b :: bs, h => by
    have h : (prLt a b || (decide (a = b) && lexLE as bs)) = true := h
    show (if b = a then lexB bs as else prLt b a) = false
    by_cases c : b = a
    · subst c
      rw [if_pos rfl]
      rw [prLt_irr, Bool.false_or, decide_eq_true rfl, Bool.true_and] at h
      exact lexLE_not h
    · rw [if_neg c]
      rw [decide_eq_false (fun e => c e.symm), Bool.false_and, Bool.or_false] at h
      cases e : prLt b a with
      | false => rfl
      | true =>
        have := prLt_trans h e
        rw [prLt_irr] at this
        cases this
/-! ### the law -/
def spLaw (K : PySem.W.Frag) : Sp := fun vs H Q _ => ∃ (l : Addr) (ns : List Int), vs = [.ref l] ∧ SqL K H l (ns.map V.int) ∧ ns.length ≤ 63 ∧ ∀ H' : Hp, Q (.bl true) H'
abbrev slaw : Stmt := top 46
abbrev nmLaw : List Str := ["_law_script", "_law_head", "_law_grid_here", "_law_spots_here", "_law_one", "_law_two", "_law_table", "_law_first", "_law_second", "_law_form", "_law_same", "_law_now", "_law_spot", "_law_order"]
theorem sclaw : FnScope nmLaw ["_law_script"] (defScope slaw) := ⟨rfl, rfl, rfl, by decide +kernel, rfl, by decide +kernel, by decide +kernel⟩
abbrev xLaw (P : Program) (w : World) (K : PySem.W.Frag) (mg : Str → Option Value) (base : Heap) (f : Addr) (cdv : Value) (A : Around) (outer : List Env) (s : Shared) (H0 : Hp) (E : XK) : Cx := (cxOf CX0 P w K mg base nmLaw "law" (defScope slaw) f cdv A outer s H0 E).nox
structure LD (P : Program) (w : World) (K : PySem.W.Frag) (mg : Str → Option Value) (base : Heap) (C CE CO CEO : Addr) : Prop where
  lDraws : Df P w K mg base CX0 "_law_draws" 2 ["_law_script", "_law_spot", "_law_sizes"] (spDraws K)
  lGrid : Df P w K mg base CX0 "_law_grid" 3 ["_law_script", "_law_spot", "_law_m", "_law_n", "_law_style", "_law_share_here"] (spGrid K)
  lSpots : Df P w K mg base CX0 "_law_spots" 1 ["_law_grid_here"] (spSpots K)
  lShuf : Df P w K mg base CX0 "_law_shuffled" 1 ["_law_things", "_law_picks"] spShuf2
  lCopy : Df P w K mg base CX0 "_law_copy" 1 ["_law_grid_here"] (spLCpy K)
  lOther : Df P w K mg base CX0 "_law_other" 3 ["_law_script", "_law_one", "_law_spots_here", "_law_choice"] (spOther K)
  lLoose : Df P w K mg base CX0 "_law_loosened" 2 ["_law_listed", "_law_picks"] spLoose
  lNorm : Df P w K mg base CX0 "_law_normal" 3 ["_law_listed"] spLNorm
  nor : Df P w K mg base (L2.CX P w) "normal" 10 ["table", "order"] (spNormal C CO CEO)
  par : Df P w K mg base (L2.CX P w) "parted" 7 ["table", "one", "other"] (spParted C CO CEO)
  made : Dk P w K mg base (L2.CX P w) "Table" 8 ["self", "rows"] (spTbI K C CE) C
  madeO : Dk P w K mg base (L2.CX P w) "Order" 8 ["self", "pairs"] (spOrIF K CO CEO) CO
  A : TbC K C
  O : OwnC K CO
  ne : PySem.W.findIn K (.ref CO) "__ne__" = some (some (.builtin "object.__ne__"))
  eq : ∃ f fd, Meth K CO "__eq__" f ∧ FnOk P w K mg base CX0 1 f fd ["self", "other"] (spCmp CO fun zs ws => decide (zs = ws)) ∧ Binds K fd ["self", "other"] []
  le : ∃ f fd, Meth K CO "__le__" f ∧ FnOk P w K mg base CX0 1 f fd ["self", "other"] (spCmp CO fun zs ws => !lexB ws zs) ∧ Binds K fd ["self", "other"] []
  prs : ∃ f fd, Meth K CO "pairs" f ∧ FnOk P w K mg base CX0 1 f fd ["self"] (spPairsO CO) ∧ Binds K fd ["self"] []
  rows : ∃ f fd, Meth K C "rows" f ∧ FnOk P w K mg base CX0 1 f fd ["self"] (spTRws C) ∧ Binds K fd ["self"] []
theorem cut34 (vs : List V) : (cutV vs none (some (34 : Int))).length ≤ 34 := by
  by_cases h : 34 ≤ vs.length
  · rw [show (34 : Int) = ((34 : Nat) : Int) from rfl, cutAt (i := 34) h, List.length_take]
    omega
  · rw [show (34 : Int) = ((34 : Nat) : Int) from rfl, cut_all (by omega)]
    omega
theorem eqPrs {K : PySem.W.Frag} {H : Hp} {a b p1 p2 : Addr} {us ws : List V} {X : List Pr} {Q : VK} (h1 : H a = some (.lst us)) (q1 : PrsAt p1 H us X) (h2 : H b = some (.lst ws)) (q2 : PrsAt p2 H ws X) (k : Q (.bl true) H) : rEqD K (.ref a) (.ref b) H Q := by
  refine ⟨prsD X, prsD X, .lst (SqL.of h1) q1.dp, .lst (SqL.of h2) q2.dp, prs_shaped _, prs_shaped _, ?_⟩
  rw [prs_eqv, decide_eq_true rfl]
  exact k
theorem eqPrs2 {K : PySem.W.Frag} {H : Hp} {a b p1 p2 : Addr} {us ws : List V} {X Y : List Pr} {Q : VK} (h1 : H a = some (.lst us)) (q1 : PrsAt p1 H us X) (h2 : H b = some (.lst ws)) (q2 : PrsAt p2 H ws Y) (k : Q (.bl (decide (X = Y))) H) : rEqD K (.ref a) (.ref b) H Q := by
  refine ⟨prsD X, prsD Y, .lst (SqL.of h1) q1.dp, .lst (SqL.of h2) q2.dp, prs_shaped _, prs_shaped _, ?_⟩
  rw [prs_eqv]
  exact k
theorem nePrs {K : PySem.W.Frag} {H : Hp} {a b p1 p2 : Addr} {us ws : List V} {X : List Pr} {Q : VK} (h1 : H a = some (.lst us)) (q1 : PrsAt p1 H us X) (h2 : H b = some (.lst ws)) (q2 : PrsAt p2 H ws X) (k : Q (.bl false) H) : rNeD K (.ref a) (.ref b) H Q := by
  refine ⟨prsD X, prsD X, .lst (SqL.of h1) q1.dp, .lst (SqL.of h2) q2.dp, prs_shaped _, prs_shaped _, ?_⟩
  rw [prs_eqv, decide_eq_true rfl]
  exact k
end Pk
set_option Elab.async false
set_option linter.all false
set_option maxRecDepth 100000
set_option maxHeartbeats 4000000
namespace Pk
open PySem L2
local macro_rules | `(tactic| walk_at "rd") => `(tactic| repeat (first
  | with_reducible refine r_seq ?_ | with_reducible refine r_nxt ?_ | with_reducible refine r_asg ?_ | with_reducible refine r_to ?_ | with_reducible refine r_ret ?_ | with_reducible refine r_for ?_ | with_reducible refine r_lc ?_ | with_reducible refine r_lc2 ?_ | with_reducible refine r_rng1 ?_ | with_reducible refine r_list ?_ | with_reducible refine r_tupI ?_ | with_reducible refine r_drop ?_ | with_reducible refine r_ifs ?_
  | with_reducible refine r_op ?_ | with_reducible refine r_c ?_ | with_reducible refine r_var rfl ?_ | with_reducible refine r_var (by assumption) ?_ | with_reducible refine r_I0 ?_ | with_reducible refine r_un ?_ | with_reducible refine r_U ?_ | with_reducible refine r_make ?_ | with_reducible refine r_makeS ?_ | with_reducible refine r_ifE ?_ | with_reducible refine r_cm ?_ | with_reducible refine r_mkV rfl ?_ | with_reducible refine r_sub ?_
  | with_reducible refine r_nil ?_ | with_reducible refine r_cons ?_ | with_reducible refine r_cb ?_ | with_reducible refine r_sl ?_ | with_reducible refine r_noP ?_ | with_reducible refine r_part ?_ | with_reducible refine r_isI ?_ | with_reducible refine r_lst ?_ | with_reducible refine r_tup ?_ | with_reducible refine r_call ?_ | with_reducible refine r_callS ?_ | with_reducible refine r_sFldU ?_ | with_reducible refine r_chain ?_ | with_reducible refine r_enum ?_ | with_reducible refine r_zip ?_ | with_reducible refine r_rng3 ?_ | with_reducible refine r_gtup ?_ | with_reducible refine r_methU ?_
  | with_reducible refine r_test ?_ | with_reducible refine r_B ?_ | with_reducible refine r_and ?_ | with_reducible refine r_or ?_ | with_reducible refine r_not ?_ | with_reducible refine r_andV ?_ | with_reducible refine r_orV ?_ | with_reducible refine r_notV ?_ | with_reducible refine r_bl ?_ | with_reducible refine r_yes ?_ | with_reducible refine r_int ?_ | with_reducible refine r_is0 ?_ | with_reducible refine r_is1 ?_ | with_reducible refine iteT ?_ | with_reducible refine iteF ?_ | with_reducible refine ite_nF ?_ | with_reducible refine ite_nT ?_
  | with_reducible refine r_mod (by decide) ?_ | with_reducible refine r_div (by decide) (by decide) ?_ | with_reducible refine r_mulR (by decide) (by decide) ?_ | with_reducible refine r_mulL (by decide) (by decide) ?_ | with_reducible refine r_pow (by decide) (by decide) (by decide) ?_))
section
variable {P : Program} {w : World} {K : PySem.W.Frag} {mg : Str → Option Value} {base : Heap} {C CE CO CEO : Addr} {f : Addr} {fd : FuncData} {cdv : Value} {A : Around} {outer : List Env} {s : Shared} {H0 : Hp} {E : XK}
/-- what the law holds: the table, the first order, the normal one, the first list, the grid -/
structure St6 (p C CO : Addr) (K : PySem.W.Frag) (H : Hp) (l ra b x a n : Addr) (sc : List Int) (es ws : List V) (G : Hp) (R : Rw) (zs nz : List Pr) : Prop where
  sc_ : SqL K H l (sc.map V.int)
  L : OrW p C CO H x a G R zs
  X : ∃ dx q, OrX p CO H n dx q nz
  nf : NF zs nz
  pm : zs.Perm (cells R)
  b_ : H b = some (.lst ws)
  pw : PrsAt p H ws zs
  rl : RL H ra es R
theorem St6.same {p C CO : Addr} {K : PySem.W.Frag} {H H' : Hp} {l ra b x a n : Addr} {sc : List Int} {es ws : List V} {G : Hp} {R : Rw} {zs nz : List Pr} (h : St6 p C CO K H l ra b x a n sc es ws G R zs nz) (s : Same H H') : St6 p C CO K H' l ra b x a n sc es ws G R zs nz :=
  ⟨s.seq h.sc_, h.L.same s, by obtain ⟨dx, q, X⟩ := h.X; exact ⟨dx, q, X.same s⟩, h.nf, h.pm, s _ _ h.b_, h.pw.keep (Keep.same s), h.rl.same s⟩
theorem r_rng2 {ta : TA} {σ : L2.St} {H : Hp} {R : It → Hp → Prop} (h : ta σ H fun vs H1 => ∃ i j : Int, vs = [.int i, .int j] ∧ (-(2 ^ 62) ≤ i ∧ i < 2 ^ 62 ∧ -(2 ^ 62) ≤ j ∧ j < 2 ^ 62) ∧ R (Itr i (j - i).toNat) H1) : iRng2 ta σ H R := h
theorem seg15 (hr : Room 39 (xLaw P w K mg base f cdv A outer s H0 E).A) (T : Bt mg) (D : LD P w K mg base C CE CO CEO) : ∃ u : TS, PSs (xLaw P w K mg base f cdv A outer s H0 E) ((defBody slaw).drop 15) u ∧
    ∀ {p l ra b x a n d : Addr} {sc : List Int} {es ws : List V} {G : Hp} {R : Rw} {zs nz : List Pr} (En : Ends) (H : Hp) (v1 v3 v5 v8 v10 v12 v13 : Option V), St6 p C CO K H l ra b x a n sc es ws G R zs nz → H d = some (.lst ws) → (∀ H', En.rt (.bl true) H') →
      u En [some (.ref l), v1, some (.ref ra), v3, some (.ref b), v5, some (.ref x), some (.ref a), v8, some (.ref n), v10, some (.ref d), v12, v13] H := by
  obtain ⟨fE, fdE, mE, oE, bE⟩ := D.eq
  obtain ⟨fM, fdM, mM, oM, bM⟩ := D.le
  obtain ⟨fQ, fdQ, mQ, oQ, bQ⟩ := D.prs
  obtain ⟨fR, fdR, mR, oR, bR⟩ := D.rows
  have hr1 := hr.mono (show 1 ≤ 39 by decide)
  have hr2 := hr.mono (show 2 ≤ 39 by decide)
  refine ⟨_, (pss_cons (ps_for PassesOwn.never rfl (pi_range2 rfl T.range (pa_cons pe_int (pa_cons (pe_callB (call_max2 rfl) (by rfl) T.max (by decide +kernel) (pa_cons pe_int (pa_cons (pe_callB cl_len (by rfl) T.len (by decide +kernel) (pa_cons (pe_slice sl_list (pv 0) po_none (po_some pe_int)) pa_nil)) pa_nil))) pa_nil))) (pg_name (i := 12) sclaw.nd rfl (Or.inl rfl)) (pss_cons (ps_set (i := 11) sclaw.nd rfl (Or.inl rfl) (pe_df D.lLoose hr (by decide) (pa_cons (pv 11) (pa_cons (pe_df D.lDraws hr (by decide) (pa_cons (pv 0) (pa_cons (pv 12) (pa_cons (pe_op op_rep (pe_lst (pa_cons pe_int pa_nil)) pe_int) pa_nil)))) pa_nil))))
  (pss_cons (ps_set (i := 13) sclaw.nd rfl (Or.inl rfl) (pe_dkL D.madeO hr (by decide) (pa_cons (pe_callTy cl_lst (by rfl) T.list (by decide +kernel) (pa_cons (pv 11) pa_nil)) pa_nil)))
  (pss_one (ps_if (PW.pt (pw_or (pt_neOwn (E := fun _ => E0) ⟨fE, fdE, _, mE, oE, bE⟩ D.ne D.O.hm hr2 (passN pass0) (pe_dfL D.nor hr (by decide) (pa_cons (pv 6) (pa_cons (pv 13) pa_nil))) (pv 9) (nomark _)) (pw_or1 (pt_not (pt_cmpOwn (op := .LtE) (E := fun _ => E0) (fun _ _ => rfl) ⟨fM, fdM, _, mM, oM, bM⟩ hr1 (passN pass0) (pv 9) (pv 13) (nomark _)))))) (pss_one (ps_ret pe_bl)) pss_nil)))))
  (pss_one (ps_ret (pe_and (pe_cmpR (op_eqD hr.units) (pe_meth0 (pv 7) D.O.cl mQ oQ hr1 bQ .nil pass0) (pv 4) (nomark _)) (pe_one (pe_cmpR (op_eqD hr.units) (pe_meth0 (pv 6) D.A.O.cl mR oR hr1 bR .nil pass0) (pv 2) (nomark _))))))), ?_⟩
  intro p l ra b x a n d sc es ws G R zs nz En H v1 v3 v5 v8 v10 v12 v13 S hd k
  have g := S.L.t.g
  have c64 := cells_len g
  have zl := S.pm.length_eq
  have znd : zs.Nodup := S.pm.nodup_iff.mpr (cells_nodup R)
  walk_at "rd"
  refine r_rng2 ?_
  walk_at "rd"
  refine ⟨l, sc.map V.int, rfl, S.sc_, fun q nq => ?_⟩
  obtain ⟨xs34, e34⟩ : ∃ xs34, xs34 = cutV (sc.map V.int) none (some (34 : Int)) := ⟨_, rfl⟩
  have l34 : xs34.length ≤ 34 := by rw [e34]; exact cut34 _
  rw [← e34]
  have s1 := Same.up (o := .lst xs34) (Same.refl H) nq
  have hq1 : upd H q (.lst xs34) q = some (.lst xs34) := upd_same
  obtain ⟨H1, eH1⟩ : ∃ H1, H1 = upd H q (.lst xs34) := ⟨_, rfl⟩
  rw [← eH1] at s1 hq1 ⊢
  have S1 := S.same s1
  walk_at "rd"
  refine r_lenL (SqL.of hq1) ?_
  walk_at "rd"
  refine ⟨7, _, rfl, ?_⟩
  refine ⟨4, _, rfl, ⟨by decide, by decide, by split <;> omega, by split <;> omega⟩, for_it walk_range (fun m σ H' => ∃ (d : Addr) (v12 v13 : Option V) (us : List V) (ys : List Pr), σ = [some (.ref l), v1, some (.ref ra), v3, some (.ref b), v5, some (.ref x), some (.ref a), v8, some (.ref n), v10, some (.ref d), v12, v13] ∧ Same H1 H' ∧ H' d = some (.lst us) ∧ PrsAt p H' us ys ∧ Alk zs ys)
    ⟨d, v12, v13, ws, zs, rfl, Same.refl H1, s1 _ _ hd, S1.pw, Alk.refl zs⟩ (fun _ _ _ _ _ => trivial) ?_ ?_⟩
  · rintro m y σ H20 H2 hm ⟨d2, v12, v13, us, ys, rfl, s2, hd2, pu, al⟩ ⟨rfl, rfl⟩
    have S2 := S1.same s2
    have yl := al.pm.length_eq
    have e0 : (4 : Int) + (m : Int) = ((4 + m : Nat) : Int) := by omega
    simp only [e0]
    walk_at "rd"
    refine ⟨by show 1 ≤ sizeLine; decide, fun l6 nl6 => ?_⟩
    have s6' := Same.up (o := .lst [V.int 36]) (Same.refl H2) nl6
    have hl6 : upd H2 l6 (.lst [V.int 36]) l6 = some (.lst [V.int 36]) := upd_same
    obtain ⟨H6, eH6⟩ : ∃ H6, H6 = upd H2 l6 (.lst [V.int 36]) := ⟨_, rfl⟩
    rw [← eH6] at s6' hl6 ⊢
    walk_at "rd"
    refine ⟨l6, 30, [V.int 36], rfl, rfl, hl6, by decide, by decide, by decide, fun l7 nl7 => ?_⟩
    rw [rep_flat1]
    have s7' := Same.up (o := .lst (List.replicate (30 : Int).toNat (V.int 36))) (Same.refl H6) nl7
    have hl7 : upd H6 l7 (.lst (List.replicate (30 : Int).toNat (V.int 36))) l7 = some (.lst ((List.replicate 30 (36 : Int)).map V.int)) := by rw [upd_same, List.map_replicate]; rfl
    obtain ⟨H7, eH7⟩ : ∃ H7, H7 = upd H6 l7 (.lst (List.replicate (30 : Int).toNat (V.int 36))) := ⟨_, rfl⟩
    rw [← eH7] at s7' hl7 ⊢
    have s27 := s6'.trans s7'
    walk_at "rd"
    refine ⟨l, l7, sc, List.replicate 30 36, 4 + m, rfl, (S2.same s27).sc_, hl7, fun z hz => ?_, by rw [List.length_replicate]; decide, fun r8 H8 s8' nr8 hr8 => ?_⟩
    · rw [List.eq_of_mem_replicate hz]
      exact szd (by decide) (by decide)
    have s28 := s27.trans s8'
    walk_at "rd"
    refine ⟨p, d2, r8, us, ys, drawsF sc (4 + m) (List.replicate 30 36), rfl, s28 _ _ hd2, pu.keep (Keep.same s28), hr8, by omega, fun c xs ys2 H9 s9' nc hc px al2' => ?_⟩
    have al2 := al.trans al2'
    have s29 := s28.trans s9'
    have S9 := S2.same s29
    have pm2 : ys2.Perm (cells R) := al2.pm.symm.trans S.pm
    have gp2 := BadO.perm pm2 g
    obtain ⟨op9, hop9⟩ := S9.L.pp
    walk_at "rd"
    refine r_lstOf (SqL.of hc) fun qA nA => ?_
    have sA' := Same.up (o := .lst xs) (Same.refl H9) nA
    have hqA : upd H9 qA (.lst xs) qA = some (.lst xs) := upd_same
    have qAp : qA ≠ p := fun z => by rw [z, hop9] at nA; cases nA
    obtain ⟨HA, eHA⟩ : ∃ HA, HA = upd H9 qA (.lst xs) := ⟨_, rfl⟩
    rw [← eHA] at sA' hqA ⊢
    walk_at "rd"
    intro o dy ny nd ne
    show spOrIF K CO CEO [V.ref o, V.ref qA] _ _ _
    refine mk_or ny nd ne ⟨_, sA' _ _ hop9⟩ ⟨qAp, xs, hqA, px.keep (Keep.same sA')⟩ gp2 fun HB qB sB' Y => ?_
    have s9B := sA'.trans sB'
    have SB := S9.same s9B
    have WB : OrW p C CO HB x o G R ys2 := ⟨SB.L.t, SB.L.s, SB.L.off, SB.L.pp, ⟨dy, qB, Y⟩, gp2.len⟩
    walk_at "rd"
    refine r_op2 ?_
    walk_at "rd"
    refine ⟨p, x, o, G, R, ys2, rfl, WB, .inl ⟨pm2, fun b6 n6 HC sC nf6 X6 => ?_⟩⟩
    obtain ⟨dx6, q6, X6⟩ := X6
    obtain rfl : n6 = nz := nf6.one (S.nf.congr znd al2)
    have SC := SB.same sC
    obtain ⟨dxn, qn, Xn⟩ := SC.X
    have YC := Y.same sC
    walk_at "rd"
    refine r_ownNe X6.o (.inl ⟨n, _, _, rfl, Xn.o⟩) ⟨p, b6, dx6, q6, n, dxn, qn, n6, n6, rfl, X6, Xn, _, rfl, ?_⟩
    refine ⟨_, rfl, ifF (by show (!decide (n6 = n6)) = false; rw [decide_eq_true rfl]; rfl) ?_⟩
    walk_at "rd"
    refine r_op2 ?_
    walk_at "rd"
    have le2 : lexB ys2 n6 = false := lexLE_not ((nf6.le (pm2.nodup_iff.mpr (cells_nodup R))))
    refine r_ownC Xn.o (.inl ⟨o, _, _, rfl, YC.o⟩) ⟨p, n, dxn, qn, o, dy, qB, n6, ys2, rfl, Xn, YC, ?_⟩
    refine ⟨_, rfl, ifF (by show (!(!lexB ys2 n6)) = false; rw [le2]; rfl) ?_⟩
    exact ⟨c, _, _, xs, ys2, rfl, s2.trans (s29.trans (s9B.trans sC)), (s9B.trans sC) _ _ hc, px.keep (Keep.same (s9B.trans sC)), al2⟩
  · rintro σ H2 ⟨d2, v12, v13, us, ys, rfl, s2, hd2, pu, al⟩
    have S2 := S1.same s2
    obtain ⟨dx, q2, X⟩ := S2.L.o
    obtain ⟨naq, vs, haq, hvs⟩ := id X.l
    obtain ⟨_, dxt, e0, u0, es0, ho, hl0, hpl⟩ := id S2.L.t
    walk_at "rd"
    refine ⟨a, dx, _, rfl, X.o, one_no (by decide +kernel), ?_⟩
    walk_at "rd"
    refine ⟨p, a, dx, q2, zs, vs, rfl, X, haq, fun r nr => ?_⟩
    have s3 := Same.up (o := .lst vs) (Same.refl H2) nr
    have h3 : upd H2 r (.lst vs) r = some (.lst vs) := upd_same
    obtain ⟨H3, eH3⟩ : ∃ H3, H3 = upd H2 r (.lst vs) := ⟨_, rfl⟩
    rw [← eH3] at s3 h3 ⊢
    have S3 := S2.same s3
    walk_at "rd"
    refine eqPrs h3 (hvs.keep (Keep.same s3)) S3.b_ S3.pw ?_
    refine ⟨_, rfl, ifT rfl ?_⟩
    walk_at "rd"
    refine ⟨x, dxt, _, rfl, S3.L.s _ _ ho, two_no (by decide +kernel) (by decide +kernel), ?_⟩
    walk_at "rd"
    refine ⟨x, G, R, rfl, S3.L.t, S3.L.s, fun r8 es8 H8 nl => ?_⟩
    walk_at "rd"
    obtain ⟨s8, _, rl8, _⟩ := nl
    refine ⟨_, _, rl8.dp, (S3.rl.same s8).dp, rows_shaped R, rows_shaped R, ?_⟩
    rw [rows_eqv, decide_eq_true rfl]
    exact k _
end
end Pk
set_option Elab.async false
set_option linter.all false
set_option maxRecDepth 100000
set_option maxHeartbeats 4000000
namespace Pk
open PySem L2
local macro_rules | `(tactic| walk_at "rd") => `(tactic| repeat (first
  | with_reducible refine r_seq ?_ | with_reducible refine r_nxt ?_ | with_reducible refine r_asg ?_ | with_reducible refine r_to ?_ | with_reducible refine r_ret ?_ | with_reducible refine r_for ?_ | with_reducible refine r_lc ?_ | with_reducible refine r_lc2 ?_ | with_reducible refine r_rng1 ?_ | with_reducible refine r_list ?_ | with_reducible refine r_tupI ?_ | with_reducible refine r_drop ?_ | with_reducible refine r_ifs ?_
  | with_reducible refine r_op ?_ | with_reducible refine r_c ?_ | with_reducible refine r_var rfl ?_ | with_reducible refine r_var (by assumption) ?_ | with_reducible refine r_I0 ?_ | with_reducible refine r_un ?_ | with_reducible refine r_U ?_ | with_reducible refine r_make ?_ | with_reducible refine r_makeS ?_ | with_reducible refine r_ifE ?_ | with_reducible refine r_cm ?_ | with_reducible refine r_mkV rfl ?_ | with_reducible refine r_sub ?_
  | with_reducible refine r_nil ?_ | with_reducible refine r_cons ?_ | with_reducible refine r_cb ?_ | with_reducible refine r_sl ?_ | with_reducible refine r_noP ?_ | with_reducible refine r_part ?_ | with_reducible refine r_isI ?_ | with_reducible refine r_lst ?_ | with_reducible refine r_tup ?_ | with_reducible refine r_call ?_ | with_reducible refine r_callS ?_ | with_reducible refine r_sFldU ?_ | with_reducible refine r_chain ?_ | with_reducible refine r_enum ?_ | with_reducible refine r_zip ?_ | with_reducible refine r_rng3 ?_ | with_reducible refine r_gtup ?_ | with_reducible refine r_methU ?_
  | with_reducible refine r_test ?_ | with_reducible refine r_B ?_ | with_reducible refine r_and ?_ | with_reducible refine r_or ?_ | with_reducible refine r_not ?_ | with_reducible refine r_andV ?_ | with_reducible refine r_orV ?_ | with_reducible refine r_notV ?_ | with_reducible refine r_bl ?_ | with_reducible refine r_yes ?_ | with_reducible refine r_int ?_ | with_reducible refine r_is0 ?_ | with_reducible refine r_is1 ?_ | with_reducible refine iteT ?_ | with_reducible refine iteF ?_ | with_reducible refine ite_nF ?_ | with_reducible refine ite_nT ?_
  | with_reducible refine r_mod (by decide) ?_ | with_reducible refine r_div (by decide) (by decide) ?_ | with_reducible refine r_mulR (by decide) (by decide) ?_ | with_reducible refine r_mulL (by decide) (by decide) ?_ | with_reducible refine r_pow (by decide) (by decide) (by decide) ?_))
section
variable {P : Program} {w : World} {K : PySem.W.Frag} {mg : Str → Option Value} {base : Heap} {C CE CO CEO : Addr} {f : Addr} {fd : FuncData} {cdv : Value} {A : Around} {outer : List Env} {s : Shared} {H0 : Hp} {E : XK}
theorem same_alk {zs ys n m : List Pr} (nz : zs.Nodup) (ny : ys.Nodup) (h : NF zs n) (g : NF ys m) : m = n ↔ Alk zs ys :=
  ⟨fun e => by subst e; exact (h.alk nz).trans (g.alk ny).symm, fun a => g.one (h.congr nz a)⟩
theorem seg11 (hr : Room 39 (xLaw P w K mg base f cdv A outer s H0 E).A) (T : Bt mg) (D : LD P w K mg base C CE CO CEO) : ∃ u : TS, PSs (xLaw P w K mg base f cdv A outer s H0 E) ((defBody slaw).drop 11) u ∧
    ∀ {p l ra b x a n c a2 : Addr} {sc : List Int} {es ws xs : List V} {G : Hp} {R : Rw} {zs nz ys : List Pr} (En : Ends) (H : Hp) (v1 v3 v10 v11 v12 v13 : Option V), St6 p C CO K H l ra b x a n sc es ws G R zs nz → OrW p C CO H x a2 G R ys → ys.Perm (cells R) → H c = some (.lst xs) → PrsAt p H xs ys → (∀ H', En.rt (.bl true) H') →
      u En [some (.ref l), v1, some (.ref ra), v3, some (.ref b), some (.ref c), some (.ref x), some (.ref a), some (.ref a2), some (.ref n), v10, v11, v12, v13] H := by
  obtain ⟨u15, d15, h15⟩ := seg15 (f := f) (cdv := cdv) (outer := outer) (s := s) (H0 := H0) (E := E) hr T D
  obtain ⟨fE, fdE, mE, oE, bE⟩ := D.eq
  have hr1 := hr.mono (show 1 ≤ 39 by decide)
  refine ⟨_, (pss_cons (ps_set (i := 10) sclaw.nd rfl (Or.inl rfl) (pe_cmpOwn (op := .Eq) (E := fun _ => E0) (fun _ _ => rfl) ⟨fE, fdE, _, mE, oE, bE⟩ hr1 (passN pass0) (pe_dfL D.nor hr (by decide) (pa_cons (pv 6) (pa_cons (pv 8) pa_nil))) (pv 9) (nomark _)))
  (pss_cons (ps_if (pt_cmpR op_ne (pv 10) (pe_cmpR op_is0 (pe_dfL D.par hr (by decide) (pa_cons (pv 6) (pa_cons (pv 7) (pa_cons (pv 8) pa_nil)))) pe_non (nomark _)) (nomark _)) (pss_one (ps_ret pe_bl)) pss_nil)
  (pss_cons (ps_if (pt_cmpR op_ne (pv 10) (pe_cmpR (op_eqD hr.units) (pe_df D.lNorm hr (by decide) (pa_cons (pv 4) pa_nil)) (pe_df D.lNorm hr (by decide) (pa_cons (pv 5) pa_nil)) (nomark _)) (nomark _)) (pss_one (ps_ret pe_bl)) pss_nil)
  (pss_cons (ps_set (i := 11) sclaw.nd rfl (Or.inl rfl) (pe_callTy cl_lst (by rfl) T.list (by decide +kernel) (pa_cons (pv 4) pa_nil))) d15)))), ?_⟩
  intro p l ra b x a n c a2 sc es ws xs G R zs nz ys En H v1 v3 v10 v11 v12 v13 S M py hc px k
  have g := S.L.t.g
  have c64 := cells_len g
  have nc := cells_nodup R
  have znd : zs.Nodup := S.pm.nodup_iff.mpr nc
  have ynd : ys.Nodup := py.nodup_iff.mpr nc
  have zl := S.pm.length_eq
  have yl := py.length_eq
  walk_at "rd"
  refine r_op2 ?_
  walk_at "rd"
  refine ⟨p, x, a2, G, R, ys, rfl, M, .inl ⟨py, fun b1 n1 H1 s1 nf1 X1 => ?_⟩⟩
  obtain ⟨dx1, q1, X1⟩ := X1
  have S1 := S.same s1
  have M1 := M.same s1
  obtain ⟨dxn, qn, Xn⟩ := S1.X
  have sa := same_alk znd ynd S.nf nf1
  walk_at "rd"
  refine r_ownC X1.o (.inl ⟨n, _, _, rfl, Xn.o⟩) ⟨p, b1, dx1, q1, n, dxn, qn, n1, nz, rfl, X1, Xn, ?_⟩
  walk_at "rd"
  refine ⟨p, x, a, a2, G, R, zs, ys, rfl, S1.L, M1, .inr (.inr ⟨S.pm, py, fun u H2 s2 pa => ?_⟩)⟩
  have s02 := s1.trans s2
  have S2 := S.same s02
  have eu : decide (u = V.non) = decide (n1 = nz) := by
    cases e : partF R zs ys with
    | none =>
      rw [e] at pa
      cases (show u = .non from pa)
      rw [decide_eq_true rfl, decide_eq_true (sa.mpr ((part_alk S.pm py).mp e))]
    | some r =>
      rw [e] at pa
      obtain ⟨r1, r2⟩ := r
      obtain ⟨t, w1, w2, hu, _⟩ := pa
      have n1n : ¬ n1 = nz := fun h => by
        have := (part_alk S.pm py).mpr (sa.mp h)
        rw [e] at this
        cases this
      rw [decide_eq_false n1n, hu]
      rfl
  walk_at "rd"
  show rNe (V.bl (decide (n1 = nz))) _ _ _
  rw [eu]
  refine r_ne rfl ?_
  rw [decide_eq_true rfl]
  walk_at "rd"
  refine ⟨p, b, ws, zs, rfl, S2.b_, S2.pw, znd, by omega, fun r3 w3 m3 H3 s3 h3 p3 nf3 => ?_⟩
  obtain rfl : m3 = nz := nf3.one S.nf
  have s03 := s02.trans s3
  walk_at "rd"
  refine ⟨p, c, xs, ys, rfl, s03 _ _ hc, px.keep (Keep.same s03), ynd, by omega, fun r4 w4 m4 H4 s4 h4 p4 nf4 => ?_⟩
  obtain rfl : m4 = n1 := nf4.one nf1
  have s04 := s03.trans s4
  refine eqPrs2 (s4 _ _ h3) (p3.keep (Keep.same s4)) h4 p4 ?_
  refine r_ne rfl ?_
  rw [show decide (m3 = m4) = decide (m4 = m3) from decide_eq_decide.mpr eq_comm]
  rw [decide_eq_true rfl]
  walk_at "rd"
  refine r_lstOf (SqL.of (S.same s04).b_) fun d nd => ?_
  have s5 := Same.up (o := .lst ws) (Same.refl H4) nd
  exact h15 _ _ _ _ _ _ _ _ _ ((S.same s04).same s5) upd_same k
end
end Pk
set_option Elab.async false
set_option linter.all false
set_option maxRecDepth 100000
set_option maxHeartbeats 4000000
namespace Pk
open PySem L2
local macro_rules | `(tactic| walk_at "rd") => `(tactic| repeat (first
  | with_reducible refine r_seq ?_ | with_reducible refine r_nxt ?_ | with_reducible refine r_asg ?_ | with_reducible refine r_to ?_ | with_reducible refine r_ret ?_ | with_reducible refine r_for ?_ | with_reducible refine r_lc ?_ | with_reducible refine r_lc2 ?_ | with_reducible refine r_rng1 ?_ | with_reducible refine r_list ?_ | with_reducible refine r_tupI ?_ | with_reducible refine r_drop ?_ | with_reducible refine r_ifs ?_
  | with_reducible refine r_op ?_ | with_reducible refine r_c ?_ | with_reducible refine r_var rfl ?_ | with_reducible refine r_var (by assumption) ?_ | with_reducible refine r_I0 ?_ | with_reducible refine r_un ?_ | with_reducible refine r_U ?_ | with_reducible refine r_make ?_ | with_reducible refine r_makeS ?_ | with_reducible refine r_ifE ?_ | with_reducible refine r_cm ?_ | with_reducible refine r_mkV rfl ?_ | with_reducible refine r_sub ?_
  | with_reducible refine r_nil ?_ | with_reducible refine r_cons ?_ | with_reducible refine r_cb ?_ | with_reducible refine r_sl ?_ | with_reducible refine r_noP ?_ | with_reducible refine r_part ?_ | with_reducible refine r_isI ?_ | with_reducible refine r_lst ?_ | with_reducible refine r_tup ?_ | with_reducible refine r_call ?_ | with_reducible refine r_callS ?_ | with_reducible refine r_sFldU ?_ | with_reducible refine r_chain ?_ | with_reducible refine r_enum ?_ | with_reducible refine r_zip ?_ | with_reducible refine r_rng3 ?_ | with_reducible refine r_gtup ?_ | with_reducible refine r_methU ?_
  | with_reducible refine r_test ?_ | with_reducible refine r_B ?_ | with_reducible refine r_and ?_ | with_reducible refine r_or ?_ | with_reducible refine r_not ?_ | with_reducible refine r_andV ?_ | with_reducible refine r_orV ?_ | with_reducible refine r_notV ?_ | with_reducible refine r_bl ?_ | with_reducible refine r_yes ?_ | with_reducible refine r_int ?_ | with_reducible refine r_is0 ?_ | with_reducible refine r_is1 ?_ | with_reducible refine iteT ?_ | with_reducible refine iteF ?_ | with_reducible refine ite_nF ?_ | with_reducible refine ite_nT ?_
  | with_reducible refine r_mod (by decide) ?_ | with_reducible refine r_div (by decide) (by decide) ?_ | with_reducible refine r_mulR (by decide) (by decide) ?_ | with_reducible refine r_mulL (by decide) (by decide) ?_ | with_reducible refine r_pow (by decide) (by decide) (by decide) ?_))
section
variable {P : Program} {w : World} {K : PySem.W.Frag} {mg : Str → Option Value} {base : Heap} {C CE CO CEO : Addr} {f : Addr} {fd : FuncData} {cdv : Value} {A : Around} {outer : List Env} {s : Shared} {H0 : Hp} {E : XK}
theorem seg8 (hr : Room 39 (xLaw P w K mg base f cdv A outer s H0 E).A) (T : Bt mg) (D : LD P w K mg base C CE CO CEO) : ∃ u : TS, PSs (xLaw P w K mg base f cdv A outer s H0 E) ((defBody slaw).drop 8) u ∧
    ∀ {p l ra b x a c a2 : Addr} {sc : List Int} {es ws xs : List V} {G : Hp} {R : Rw} {zs ys : List Pr} (En : Ends) (H : Hp) (v1 v3 v9 v10 v11 v12 v13 : Option V), SqL K H l (sc.map V.int) → OrW p C CO H x a G R zs → zs.Perm (cells R) → H b = some (.lst ws) → PrsAt p H ws zs → RL H ra es R → OrW p C CO H x a2 G R ys → ys.Perm (cells R) → H c = some (.lst xs) → PrsAt p H xs ys → (∀ H', En.rt (.bl true) H') →
      u En [some (.ref l), v1, some (.ref ra), v3, some (.ref b), some (.ref c), some (.ref x), some (.ref a), some (.ref a2), v9, v10, v11, v12, v13] H := by
  obtain ⟨u11, d11, h11⟩ := seg11 (f := f) (cdv := cdv) (outer := outer) (s := s) (H0 := H0) (E := E) hr T D
  obtain ⟨fE, fdE, mE, oE, bE⟩ := D.eq
  obtain ⟨fM, fdM, mM, oM, bM⟩ := D.le
  obtain ⟨fQ, fdQ, mQ, oQ, bQ⟩ := D.prs
  have hr1 := hr.mono (show 1 ≤ 39 by decide)
  have hr2 := hr.mono (show 2 ≤ 39 by decide)
  refine ⟨_, (pss_cons (ps_set (i := 9) sclaw.nd rfl (Or.inl rfl) (pe_dfL D.nor hr (by decide) (pa_cons (pv 6) (pa_cons (pv 7) pa_nil))))
  (pss_cons (ps_if (PW.pt (pw_or (pt_cmpR (op_neD hr.units) (pe_meth0 (pv 9) D.O.cl mQ oQ hr1 bQ .nil pass0) (pe_df D.lNorm hr (by decide) (pa_cons (pv 4) pa_nil)) (nomark _)) (pw_or1 (pt_not (pt_cmpOwn (op := .LtE) (E := fun _ => E0) (fun _ _ => rfl) ⟨fM, fdM, _, mM, oM, bM⟩ hr1 (passN pass0) (pv 9) (pv 7) (nomark _)))))) (pss_one (ps_ret pe_bl)) pss_nil)
  (pss_cons (ps_if (PW.pt (pw_or (pt_neOwn (E := fun _ => E0) ⟨fE, fdE, _, mE, oE, bE⟩ D.ne D.O.hm hr2 (passN pass0) (pe_dfL D.nor hr (by decide) (pa_cons (pv 6) (pa_cons (pv 9) pa_nil))) (pv 9) (nomark _)) (pw_or1 (pt_cmpR op_is1 (pe_dfL D.par hr (by decide) (pa_cons (pv 6) (pa_cons (pv 7) (pa_cons (pv 9) pa_nil)))) pe_non (nomark _))))) (pss_one (ps_ret pe_bl)) pss_nil) d11))), ?_⟩
  intro p l ra b x a c a2 sc es ws xs G R zs ys En H v1 v3 v9 v10 v11 v12 v13 hl L pm hb pw rl M py hc px k
  have g := L.t.g
  have c64 := cells_len g
  have nc := cells_nodup R
  have znd : zs.Nodup := pm.nodup_iff.mpr nc
  have zl := pm.length_eq
  walk_at "rd"
  refine ⟨p, x, a, G, R, zs, rfl, L, .inl ⟨pm, fun n nz H1 s1 nf X1 => ?_⟩⟩
  have S1 : St6 p C CO K H1 l ra b x a n sc es ws G R zs nz := ⟨s1.seq hl, L.same s1, X1, nf, pm, s1 _ _ hb, pw.keep (Keep.same s1), rl.same s1⟩
  have al := nf.alk znd
  have pmn : nz.Perm (cells R) := al.pm.symm.trans pm
  have nnd : nz.Nodup := pmn.nodup_iff.mpr nc
  obtain ⟨dxn, qn, Xn⟩ := id X1
  obtain ⟨naq, vs, haq, hvs⟩ := id Xn.l
  walk_at "rd"
  refine ⟨n, dxn, _, rfl, Xn.o, one_no (by decide +kernel), ?_⟩
  walk_at "rd"
  refine ⟨p, n, dxn, qn, nz, vs, rfl, Xn, haq, fun r nr => ?_⟩
  have s2' := Same.up (o := .lst vs) (Same.refl H1) nr
  have h2 : upd H1 r (.lst vs) r = some (.lst vs) := upd_same
  obtain ⟨H2, eH2⟩ : ∃ H2, H2 = upd H1 r (.lst vs) := ⟨_, rfl⟩
  rw [← eH2] at s2' h2 ⊢
  have S2 := S1.same s2'
  walk_at "rd"
  refine ⟨p, b, ws, zs, rfl, S2.b_, S2.pw, znd, by omega, fun r3 w3 m3 H3 s3 h3 p3 nf3 => ?_⟩
  obtain rfl : m3 = nz := nf3.one nf
  have s13 := s2'.trans s3
  have S3 := S1.same s13
  refine nePrs (s3 _ _ h2) (hvs.keep (Keep.same s13)) h3 p3 ?_
  refine ⟨_, rfl, ifF rfl ?_⟩
  walk_at "rd"
  refine r_op2 ?_
  walk_at "rd"
  have X3 := Xn.same s13
  obtain ⟨dxa, qa, Xa⟩ := S3.L.o
  have le2 : lexB zs m3 = false := lexLE_not (nf.le znd)
  refine r_ownC X3.o (.inl ⟨a, _, _, rfl, Xa.o⟩) ⟨p, n, dxn, qn, a, dxa, qa, m3, zs, rfl, X3, Xa, ?_⟩
  refine ⟨_, rfl, ifF (by show (!(!lexB zs m3)) = false; rw [le2]; rfl) ?_⟩
  have W3 : OrW p C CO H3 x n G R m3 := ⟨S3.L.t, S3.L.s, S3.L.off, S3.L.pp, ⟨dxn, qn, X3⟩, by have := pmn.length_eq; omega⟩
  walk_at "rd"
  refine r_op2 ?_
  walk_at "rd"
  refine ⟨p, x, n, G, R, m3, rfl, W3, .inl ⟨pmn, fun b4 n4 H4 s4 nf4 X4 => ?_⟩⟩
  obtain ⟨dx4, q4, X4⟩ := X4
  obtain rfl : n4 = m3 := nf4.one (nf.congr znd al)
  have X34 := X3.same s4
  have S4 := S3.same s4
  walk_at "rd"
  refine r_ownNe X4.o (.inl ⟨n, _, _, rfl, X34.o⟩) ⟨p, b4, dx4, q4, n, dxn, qn, n4, n4, rfl, X4, X34, _, rfl, ?_⟩
  refine ⟨_, rfl, ifF (by show (!decide (n4 = n4)) = false; rw [decide_eq_true rfl]; rfl) ?_⟩
  walk_at "rd"
  refine ⟨p, x, a, n, G, R, zs, n4, rfl, S4.L, W3.same s4, .inr (.inr ⟨pm, pmn, fun u H5 s5 pa => ?_⟩)⟩
  rw [(part_alk pm pmn).mpr al] at pa
  cases (show u = .non from pa)
  walk_at "rd"
  refine ifF rfl ?_
  have s15 := s13.trans (s4.trans s5)
  have s05 := s1.trans s15
  exact h11 _ H5 _ _ _ _ _ _ (S1.same s15) (M.same s05) py (s05 _ _ hc) (px.keep (Keep.same s05)) k
end
end Pk
set_option Elab.async false
set_option linter.all false
set_option maxRecDepth 100000
set_option maxHeartbeats 4000000
namespace Pk
open PySem L2
local macro_rules | `(tactic| walk_at "rd") => `(tactic| repeat (first
  | with_reducible refine r_seq ?_ | with_reducible refine r_nxt ?_ | with_reducible refine r_asg ?_ | with_reducible refine r_to ?_ | with_reducible refine r_ret ?_ | with_reducible refine r_for ?_ | with_reducible refine r_lc ?_ | with_reducible refine r_lc2 ?_ | with_reducible refine r_rng1 ?_ | with_reducible refine r_list ?_ | with_reducible refine r_tupI ?_ | with_reducible refine r_drop ?_ | with_reducible refine r_ifs ?_
  | with_reducible refine r_op ?_ | with_reducible refine r_c ?_ | with_reducible refine r_var rfl ?_ | with_reducible refine r_var (by assumption) ?_ | with_reducible refine r_I0 ?_ | with_reducible refine r_un ?_ | with_reducible refine r_U ?_ | with_reducible refine r_make ?_ | with_reducible refine r_makeS ?_ | with_reducible refine r_ifE ?_ | with_reducible refine r_cm ?_ | with_reducible refine r_mkV rfl ?_ | with_reducible refine r_sub ?_
  | with_reducible refine r_nil ?_ | with_reducible refine r_cons ?_ | with_reducible refine r_cb ?_ | with_reducible refine r_sl ?_ | with_reducible refine r_noP ?_ | with_reducible refine r_part ?_ | with_reducible refine r_isI ?_ | with_reducible refine r_lst ?_ | with_reducible refine r_tup ?_ | with_reducible refine r_call ?_ | with_reducible refine r_callS ?_ | with_reducible refine r_sFldU ?_ | with_reducible refine r_chain ?_ | with_reducible refine r_enum ?_ | with_reducible refine r_zip ?_ | with_reducible refine r_rng3 ?_ | with_reducible refine r_gtup ?_ | with_reducible refine r_methU ?_
  | with_reducible refine r_test ?_ | with_reducible refine r_B ?_ | with_reducible refine r_and ?_ | with_reducible refine r_or ?_ | with_reducible refine r_not ?_ | with_reducible refine r_andV ?_ | with_reducible refine r_orV ?_ | with_reducible refine r_notV ?_ | with_reducible refine r_bl ?_ | with_reducible refine r_yes ?_ | with_reducible refine r_int ?_ | with_reducible refine r_is0 ?_ | with_reducible refine r_is1 ?_ | with_reducible refine iteT ?_ | with_reducible refine iteF ?_ | with_reducible refine ite_nF ?_ | with_reducible refine ite_nT ?_
  | with_reducible refine r_mod (by decide) ?_ | with_reducible refine r_div (by decide) (by decide) ?_ | with_reducible refine r_mulR (by decide) (by decide) ?_ | with_reducible refine r_mulL (by decide) (by decide) ?_ | with_reducible refine r_pow (by decide) (by decide) (by decide) ?_))
theorem five {α : Type} : ∀ {l : List α}, l.length = 5 → ∃ a b c d e, l = [a, b, c, d, e]
  | [a, b, c, d, e], _ => ⟨a, b, c, d, e, rfl⟩
  | [], h | [_], h | [_, _], h | [_, _, _], h | [_, _, _, _], h => by cases h
  | _ :: _ :: _ :: _ :: _ :: _ :: _, h => by simp at h
theorem mk_tb2 {K : PySem.W.Frag} {C CE : Addr} {H1 : Hp} {x dx : Addr} {v : V} {R : Rw} {Q : Hp → Prop} {E : XK} (nx : H1 x = none) (nd : H1 dx = none) (ne : dx ≠ x) (hv : Dp K H1 v (rowsD R)) (g : Gt R)
    (k : ∀ (H' G : Hp), Same H1 H' → TbX C G x R → Same G H' → Fresh H1 G → Q H') : spTbI K C CE [.ref x, v] (upd (upd H1 dx (.own x)) x (.ins C dx [])) (fun v H2 => v = .non ∧ Q H2) E := mk_tb (Q := fun _ H => Q H) nx nd ne hv g k
section
variable {P : Program} {w : World} {K : PySem.W.Frag} {mg : Str → Option Value} {base : Heap} {C CE CO CEO : Addr} {f : Addr} {fd : FuncData} {cdv : Value} {A : Around} {outer : List Env} {s : Shared} {H0 : Hp} {E : XK}
theorem ok_law (F : Fun K "law" "law" slaw f fd) (D : LD P w K mg base C CE CO CEO) (T : Bt mg) : FnOk P w K mg base CX0 40 f fd ["_law_script"] (spLaw K) := by
  refine F.ok sclaw (fun vs H Q E h => ?_) (fun cdv A outer s H vs Q E hr h => ?_)
  · obtain ⟨l, ns, rfl, _⟩ := h
    rfl
  · obtain ⟨l, sc, rfl, hl, h63, kE⟩ := h
    obtain ⟨u8, d8, h8⟩ := seg8 (f := f) (cdv := cdv) (outer := outer) (s := s) (H0 := H) (E := E) hr T D
    refine ⟨_, (pss_cons (ps_set (i := 1) sclaw.nd rfl (Or.inl rfl) (pe_df D.lDraws hr (by decide) (pa_cons (pv 0) (pa_cons pe_int (pa_cons (pe_lst (pa_cons pe_int (pa_cons pe_int (pa_cons pe_int (pa_cons pe_int (pa_cons pe_int pa_nil)))))) pa_nil)))))
  (pss_cons (ps_set (i := 2) sclaw.nd rfl (Or.inl rfl) (pe_df D.lGrid hr (by decide) (pa_cons (pv 0) (pa_cons pe_int (pa_cons (pe_op op_add pe_int (pe_ix ix_list (pv 1) pe_int (fun _ _ => rfl))) (pa_cons (pe_op op_add pe_int (pe_ix ix_list (pv 1) pe_int (fun _ _ => rfl))) (pa_cons (pe_ix ix_list (pv 1) pe_int (fun _ _ => rfl)) (pa_cons (pe_ix ix_list (pe_lst (pa_cons pe_int (pa_cons pe_int (pa_cons pe_int (pa_cons pe_int pa_nil))))) (pe_ix ix_list (pv 1) pe_int (fun _ _ => rfl)) (fun _ _ => rfl)) pa_nil))))))))
  (pss_cons (ps_set (i := 3) sclaw.nd rfl (Or.inl rfl) (pe_df D.lSpots hr (by decide) (pa_cons (pv 2) pa_nil)))
  (pss_cons (ps_set (i := 4) sclaw.nd rfl (Or.inl rfl) (pe_df D.lShuf hr (by decide) (pa_cons (pv 3) (pa_cons (pe_df D.lDraws hr (by decide) (pa_cons (pv 0) (pa_cons pe_int (pa_cons (pe_op op_rep (pe_lst (pa_cons pe_int pa_nil)) pe_int) pa_nil)))) pa_nil))))
  (pss_cons (ps_set (i := 5) sclaw.nd rfl (Or.inl rfl) (pe_df D.lOther hr (by decide) (pa_cons (pv 0) (pa_cons (pv 4) (pa_cons (pv 3) (pa_cons (pe_ix ix_list (pv 1) pe_int (fun _ _ => rfl)) pa_nil))))))
  (pss_cons (ps_set (i := 6) sclaw.nd rfl (Or.inl rfl) (pe_dkL D.made hr (by decide) (pa_cons (pe_df D.lCopy hr (by decide) (pa_cons (pv 2) pa_nil)) pa_nil)))
  (pss_cons (ps_set (i := 7) sclaw.nd rfl (Or.inl rfl) (pe_dkL D.madeO hr (by decide) (pa_cons (pe_callTy cl_lst (by rfl) T.list (by decide +kernel) (pa_cons (pv 4) pa_nil)) pa_nil)))
  (pss_cons (ps_set (i := 8) sclaw.nd rfl (Or.inl rfl) (pe_dkL D.madeO hr (by decide) (pa_cons (pe_callTy cl_lst (by rfl) T.list (by decide +kernel) (pa_cons (pv 5) pa_nil)) pa_nil))) d8)))))))), ?_⟩
    walk_at "rd"
    refine ⟨by show 5 ≤ sizeLine; decide, fun p np => ?_⟩
    have s1 := Same.up (o := .lst [V.int 6, V.int 6, V.int 8, V.int 4, V.int 3]) (Same.refl H) np
    have hp1 : upd H p (.lst [V.int 6, V.int 6, V.int 8, V.int 4, V.int 3]) p = some (.lst [V.int 6, V.int 6, V.int 8, V.int 4, V.int 3]) := upd_same
    obtain ⟨H1, eH1⟩ : ∃ H1, H1 = upd H p (.lst [V.int 6, V.int 6, V.int 8, V.int 4, V.int 3]) := ⟨_, rfl⟩
    rw [← eH1] at s1 hp1 ⊢
    walk_at "rd"
    have pos : ∀ z, z ∈ ([6, 6, 8, 4, 3] : List Int) → 0 < z := by decide
    refine ⟨l, p, sc, [6, 6, 8, 4, 3], 0, rfl, s1.seq hl, hp1, fun z hz => ?_, by decide, fun h H2 s2' nh hh => ?_⟩
    · have : 0 < z ∧ z ≤ 65 := by
        revert z
        decide
      exact szd this.1 (by omega)
    obtain ⟨d0, d1, d2, d3, d4, ed⟩ := five (drawsF_len sc 0 [6, 6, 8, 4, 3])
    obtain ⟨_, e0, p0, q0⟩ := drawsF_get (ns := sc) (sp := 0) pos (i := 0) rfl
    obtain ⟨_, e1, p1, q1⟩ := drawsF_get (ns := sc) (sp := 0) pos (i := 1) rfl
    obtain ⟨_, e2, p2, q2⟩ := drawsF_get (ns := sc) (sp := 0) pos (i := 2) rfl
    obtain ⟨_, e3, p3, q3⟩ := drawsF_get (ns := sc) (sp := 0) pos (i := 3) rfl
    rw [ed] at e0 e1 e2 e3 hh
    cases e0; cases e1; cases e2; cases e3
    have hh : H2 h = some (.lst [V.int d0, V.int d1, V.int d2, V.int d3, V.int d4]) := hh
    have s2 := s1.trans s2'
    have hp2 := s2' _ _ hp1
    walk_at "rd"
    refine r_ixL (SqL.of hh) (atI_nat (j := 0) rfl) ?_
    walk_at "rd"
    refine r_ixL (SqL.of hh) (atI_nat (j := 1) rfl) ?_
    walk_at "rd"
    refine r_ixL (SqL.of hh) (atI_nat (j := 2) rfl) ?_
    walk_at "rd"
    refine ⟨by show 4 ≤ sizeLine; decide, fun l3 nl3 => ?_⟩
    have s3' := Same.up (o := .lst [V.int 0, V.int 6, V.int 3, V.int 2]) (Same.refl H2) nl3
    have hl3 : upd H2 l3 (.lst [V.int 0, V.int 6, V.int 3, V.int 2]) l3 = some (.lst [V.int 0, V.int 6, V.int 3, V.int 2]) := upd_same
    obtain ⟨H3, eH3⟩ : ∃ H3, H3 = upd H2 l3 (.lst [V.int 0, V.int 6, V.int 3, V.int 2]) := ⟨_, rfl⟩
    rw [← eH3] at s3' hl3 ⊢
    have hh3 := s3' _ _ hh
    walk_at "rd"
    refine r_ixL (SqL.of hh3) (atI_nat (j := 3) rfl) ?_
    obtain ⟨k3, rfl⟩ : ∃ k : Nat, d3 = (k : Int) := ⟨d3.toNat, by omega⟩
    obtain ⟨sh, sh0, sh8, esh⟩ : ∃ c : Int, 0 ≤ c ∧ c ≤ 8 ∧ [V.int 0, V.int 6, V.int 3, V.int 2][k3]? = some (.int c) := by
      match k3, (by omega : k3 < 4) with
      | 0, _ => exact ⟨0, by decide, by decide, rfl⟩
      | 1, _ => exact ⟨6, by decide, by decide, rfl⟩
      | 2, _ => exact ⟨3, by decide, by decide, rfl⟩
      | 3, _ => exact ⟨2, by decide, by decide, rfl⟩
    refine r_ixL (SqL.of hl3) (atI_nat esh) ?_
    obtain ⟨m, em⟩ : ∃ m : Nat, 1 + d0 = (m : Int) := ⟨(1 + d0).toNat, by omega⟩
    obtain ⟨n, en⟩ : ∃ n : Nat, 1 + d1 = (n : Int) := ⟨(1 + d1).toNat, by omega⟩
    rw [em, en]
    have s3 := s2.trans s3'
    walk_at "rd"
    refine ⟨l, sc, 1, m, n, d2, sh, rfl, s3.seq hl, by omega, by omega, by omega, by omega, p2, q2, sh0, sh8, fun ra es R H4 s4' gk nra g Rm Rn _ => ?_⟩
    have s4 := s3.trans s4'
    have hp4 := s4' _ _ (s3' _ _ hp2)
    have rs4 := gk.rl.rs (K := K)
    have hh4 := s4' _ _ hh3
    walk_at "rd"
    refine ⟨p, ra, es, R, rfl, rs4, g, ⟨_, hp4⟩, fun r5 us5 H5 s5' nr5 hr5 pu5 => ?_⟩
    have s5 := s4.trans s5'
    have c36 : (cells R).length ≤ 36 := Nat.le_trans (cpre_len R R.length) (by rw [Rm, Rn]; exact Nat.mul_le_mul (show m ≤ 6 by omega) (show n ≤ 6 by omega))
    walk_at "rd"
    refine ⟨by show 1 ≤ sizeLine; decide, fun l6 nl6 => ?_⟩
    have s6' := Same.up (o := .lst [V.int 36]) (Same.refl H5) nl6
    have hl6 : upd H5 l6 (.lst [V.int 36]) l6 = some (.lst [V.int 36]) := upd_same
    obtain ⟨H6, eH6⟩ : ∃ H6, H6 = upd H5 l6 (.lst [V.int 36]) := ⟨_, rfl⟩
    rw [← eH6] at s6' hl6 ⊢
    walk_at "rd"
    refine ⟨l6, 36, [V.int 36], rfl, rfl, hl6, by decide, by decide, by decide, fun l7 nl7 => ?_⟩
    rw [rep_flat1]
    have s7' := Same.up (o := .lst (List.replicate (36 : Int).toNat (V.int 36))) (Same.refl H6) nl7
    have hl7 : upd H6 l7 (.lst (List.replicate (36 : Int).toNat (V.int 36))) l7 = some (.lst ((List.replicate 36 (36 : Int)).map V.int)) := by rw [upd_same, List.map_replicate]; rfl
    obtain ⟨H7, eH7⟩ : ∃ H7, H7 = upd H6 l7 (.lst (List.replicate (36 : Int).toNat (V.int 36))) := ⟨_, rfl⟩
    rw [← eH7] at s7' hl7 ⊢
    have s57 := s6'.trans s7'
    walk_at "rd"
    refine ⟨l, l7, sc, List.replicate 36 36, 2, rfl, (s5.trans s57).seq hl, hl7, fun z hz => ?_, by rw [List.length_replicate]; decide, fun r8 H8 s8' nr8 hr8 => ?_⟩
    · rw [List.eq_of_mem_replicate hz]
      exact szd (by decide) (by decide)
    have s58 := s57.trans s8'
    have pu8 := pu5.keep (Keep.same s58)
    walk_at "rd"
    refine ⟨p, r5, r8, us5, cells R, drawsF sc 2 (List.replicate 36 36), rfl, s58 _ _ hr5, pu8, hr8, by rw [drawsF_len, List.length_replicate]; exact c36, by omega, by rw [drawsF_len, List.length_replicate]; decide, fun b ws zs H9 s9' nb hb pw pm => ?_⟩
    have s59 := s58.trans s9'
    have s49 := s5'.trans s59
    walk_at "rd"
    refine r_ixL (SqL.of (s49 _ _ hh4)) (atI_nat (j := 4) rfl) ?_
    walk_at "rd"
    refine ⟨p, l, b, r5, ws, us5, zs, cells R, sc, d4, rfl, (s4.trans s49).seq hl, hb, pw, s59 _ _ hr5, pu5.keep (Keep.same s59), pm, c36, fun c xs ys HA sA' hc px py => ?_⟩
    have s5A := s59.trans sA'
    have s4B := s5'.trans s5A
    have hpB := s4B _ _ hp4
    have rsB := rs4.same s4B
    have hbB := sA' _ _ hb
    have hcB := hc
    have pwB := pw.keep (Keep.same sA')
    have pxB := px
    have hlB : SqL K HA l (sc.map V.int) := (s4.trans s4B).seq hl
    walk_at "rd"
    refine ⟨ra, es, R, rfl, rsB, g.h8, fun q10 gs H10 s10' nq10 lq _ => ?_⟩
    walk_at "rd"
    intro x dx nx nd ne
    show spTbI K C CE [V.ref x, V.ref q10] _ _ _
    refine mk_tb2 nx nd ne lq.dp g fun H11 G s11' tx sG fG => ?_
    have sB11 := s10'.trans s11'
    have offG : G p = none := fG.off (s10' _ _ hpB)
    have gpz := BadO.perm pm g
    have gpy := BadO.perm py g
    have hp11 := sB11 _ _ hpB
    walk_at "rd"
    refine r_lstOf (SqL.of (sB11 _ _ hbB)) fun q12 nq12 => ?_
    have s12' := Same.up (o := .lst ws) (Same.refl H11) nq12
    have hq12 : upd H11 q12 (.lst ws) q12 = some (.lst ws) := upd_same
    have q12p : q12 ≠ p := fun z => by rw [z, hp11] at nq12; cases nq12
    obtain ⟨H12, eH12⟩ : ∃ H12, H12 = upd H11 q12 (.lst ws) := ⟨_, rfl⟩
    rw [← eH12] at s12' hq12 ⊢
    have sB12 := sB11.trans s12'
    walk_at "rd"
    intro a dy ny nd2 ne2
    show spOrIF K CO CEO [V.ref a, V.ref q12] _ _ _
    refine mk_or ny nd2 ne2 ⟨_, s12' _ _ hp11⟩ ⟨q12p, ws, hq12, pwB.keep (Keep.same sB12)⟩ gpz fun H13 q13 s13' X => ?_
    have sB13 := sB12.trans s13'
    have hp13 := sB13 _ _ hpB
    walk_at "rd"
    refine r_lstOf (SqL.of (sB13 _ _ hcB)) fun q14 nq14 => ?_
    have s14' := Same.up (o := .lst xs) (Same.refl H13) nq14
    have hq14 : upd H13 q14 (.lst xs) q14 = some (.lst xs) := upd_same
    have q14p : q14 ≠ p := fun z => by rw [z, hp13] at nq14; cases nq14
    obtain ⟨H14, eH14⟩ : ∃ H14, H14 = upd H13 q14 (.lst xs) := ⟨_, rfl⟩
    rw [← eH14] at s14' hq14 ⊢
    have sB14 := sB13.trans s14'
    walk_at "rd"
    intro a2 dz nz nd3 ne3
    show spOrIF K CO CEO [V.ref a2, V.ref q14] _ _ _
    refine mk_or nz nd3 ne3 ⟨_, s14' _ _ hp13⟩ ⟨q14p, xs, hq14, pxB.keep (Keep.same sB14)⟩ gpy fun H15 q15 s15' Y => ?_
    have s1315 := s14'.trans s15'
    have s1115 := s12'.trans (s13'.trans s1315)
    have L : OrW p C CO H15 x a G R zs := ⟨tx, sG.trans s1115, offG, ⟨_, s1115 _ _ hp11⟩, ⟨dy, q13, X.same s1315⟩, gpz.len⟩
    have M : OrW p C CO H15 x a2 G R ys := ⟨tx, sG.trans s1115, offG, ⟨_, s1115 _ _ hp11⟩, ⟨dz, q15, Y⟩, gpy.len⟩
    exact h8 _ H15 _ _ _ _ _ _ _ ((sB11.trans s1115).seq hlB) L pm ((sB11.trans s1115) _ _ hbB) (pwB.keep (Keep.same (sB11.trans s1115))) (gk.rl.same (s4B.trans (sB11.trans s1115))) M py ((sB11.trans s1115) _ _ hcB) (pxB.keep (Keep.same (sB11.trans s1115))) kE
end
end Pk
set_option Elab.async false
set_option linter.all false
set_option maxRecDepth 100000
set_option maxHeartbeats 4000000
namespace Pk
open PySem L2
local macro_rules | `(tactic| walk_at "rd") => `(tactic| repeat (first
  | with_reducible refine r_seq ?_ | with_reducible refine r_nxt ?_ | with_reducible refine r_asg ?_ | with_reducible refine r_to ?_ | with_reducible refine r_ret ?_ | with_reducible refine r_for ?_ | with_reducible refine r_lc ?_ | with_reducible refine r_lc2 ?_ | with_reducible refine r_rng1 ?_ | with_reducible refine r_list ?_ | with_reducible refine r_tupI ?_ | with_reducible refine r_drop ?_ | with_reducible refine r_ifs ?_
  | with_reducible refine r_op ?_ | with_reducible refine r_c ?_ | with_reducible refine r_var rfl ?_ | with_reducible refine r_var (by assumption) ?_ | with_reducible refine r_I0 ?_ | with_reducible refine r_un ?_ | with_reducible refine r_U ?_ | with_reducible refine r_make ?_ | with_reducible refine r_makeS ?_ | with_reducible refine r_ifE ?_ | with_reducible refine r_cm ?_ | with_reducible refine r_mkV rfl ?_ | with_reducible refine r_sub ?_
  | with_reducible refine r_nil ?_ | with_reducible refine r_cons ?_ | with_reducible refine r_cb ?_ | with_reducible refine r_sl ?_ | with_reducible refine r_noP ?_ | with_reducible refine r_part ?_ | with_reducible refine r_isI ?_ | with_reducible refine r_lst ?_ | with_reducible refine r_tup ?_ | with_reducible refine r_call ?_ | with_reducible refine r_callS ?_ | with_reducible refine r_sFldU ?_ | with_reducible refine r_chain ?_ | with_reducible refine r_enum ?_ | with_reducible refine r_zip ?_ | with_reducible refine r_rng3 ?_ | with_reducible refine r_gtup ?_ | with_reducible refine r_methU ?_
  | with_reducible refine r_test ?_ | with_reducible refine r_B ?_ | with_reducible refine r_and ?_ | with_reducible refine r_or ?_ | with_reducible refine r_not ?_ | with_reducible refine r_andV ?_ | with_reducible refine r_orV ?_ | with_reducible refine r_notV ?_ | with_reducible refine r_bl ?_ | with_reducible refine r_yes ?_ | with_reducible refine r_int ?_ | with_reducible refine r_is0 ?_ | with_reducible refine r_is1 ?_ | with_reducible refine iteT ?_ | with_reducible refine iteF ?_ | with_reducible refine ite_nF ?_ | with_reducible refine ite_nT ?_
  | with_reducible refine r_mod (by decide) ?_ | with_reducible refine r_div (by decide) (by decide) ?_ | with_reducible refine r_mulR (by decide) (by decide) ?_ | with_reducible refine r_mulL (by decide) (by decide) ?_ | with_reducible refine r_pow (by decide) (by decide) (by decide) ?_))
/-! ### the errors -/
section
variable {P : Program} {w : World} {K : PySem.W.Frag} {mg : Str → Option Value} {base : Heap} {C fI cc fc : Addr} {fdc : FuncData}
abbrev slIT : Stmt := inCls 4 0
abbrev nfIT (cc c : Addr) : NdefX.NF := { name := "__init__", qual := "InvalidTable.__init__", params := defArgs slIT, body := defBody slIT, scope := defScope slIT, cl := [(("__class__" : Str), cc)], c := c }
theorem ok_IT {c : Addr} {n : Nat} (T : ErrC K C) (J : InitFn P K C fI cc (nfIT cc c)) (B : Bt mg) (G : FnOk P w K mg base CX0 (n + 1) fc fdc ["value"] (spCopy K n)) (mc : mg "own_copy" = some (.ref fc)) (kc : PySem.W.keepIn K (.ref fc) = true)
    (bc : Binds K fdc ["value"] []) (free : PySem.W.findIn K (.ref C) "at" = some none) : ErrOk P w K mg base (n + 2) C fI (spErr1 K n C "at") := by
  exact err_one (F := nfIT cc c) T J B.super G mc kc bc (NdefX.nscope_by (by show NdefX.nscB _ _ _ (defScope slIT) = true; decide +kernel)) rfl rfl rfl free (fun _ _ _ _ _ us hl => match us, hl with | [_, _], _ => rfl) (fun env => rfl) (by decide) (by decide)
abbrev slIO : Stmt := inCls 5 0
abbrev nfIO (cc c : Addr) : NdefX.NF := { name := "__init__", qual := "InvalidOrder.__init__", params := defArgs slIO, body := defBody slIO, scope := defScope slIO, cl := [(("__class__" : Str), cc)], c := c }
theorem ok_IO {c : Addr} {n : Nat} (T : ErrC K C) (J : InitFn P K C fI cc (nfIO cc c)) (B : Bt mg) (G : FnOk P w K mg base CX0 (n + 1) fc fdc ["value"] (spCopy K n)) (mc : mg "own_copy" = some (.ref fc)) (kc : PySem.W.keepIn K (.ref fc) = true)
    (bc : Binds K fdc ["value"] []) (free : PySem.W.findIn K (.ref C) "at" = some none) : ErrOk P w K mg base (n + 2) C fI (spErr1 K n C "at") := by
  exact err_one (F := nfIO cc c) T J B.super G mc kc bc (NdefX.nscope_by (by show NdefX.nscB _ _ _ (defScope slIO) = true; decide +kernel)) rfl rfl rfl free (fun _ _ _ _ _ us hl => match us, hl with | [_, _], _ => rfl) (fun env => rfl) (by decide) (by decide)
end
theorem fi_of {K : PySem.W.Frag} {C f0 : Addr} {m : Str} (h1 : PySem.W.findIn K (.ref C) m = some (some (.ref f0))) (h2 : PySem.W.fnIn K f0 = true) : ∀ f, PySem.W.findIn K (.ref C) m = some (some (.ref f)) → PySem.W.fnIn K f = true := fun f e => by
  rw [h1] at e
  have z := Value.ref.inj (Option.some.inj (Option.some.inj e))
  rw [← z]
  exact h2
open PySem.W
theorem all_mk {l : PySem.W.OpenLaw} {w : World} {K : PySem.W.Frag} {h : Heap} {mg : Str → Option Value} {fa : Addr} (X : K.In h) (G : h.Ns mainGlobals mg) (hfa : mg "law" = some (.ref fa)) {CET fIET ccET cET CEO fIEO ccEO cEO CT CO : Addr}
    (bt : BtIn K)
    (top : (l.prog.main.scope.names.lookup ("super" : Str)).isSome = false)
    (d_own : DefAt K "own_copy" sCopy)
    (e_ET : ErrAt1 l.prog K "InvalidTable" "InvalidTable.__init__" slIT CET fIET ccET cET)
    (fr_ET_at : PySem.W.findIn K (.ref CET) "at" = some none)
    (e_EO : ErrAt1 l.prog K "InvalidOrder" "InvalidOrder.__init__" slIO CEO fIEO ccEO cEO)
    (fr_EO_at : PySem.W.findIn K (.ref CEO) "at" = some none)
    (d_DI : DefAt K "is_integer" slIsInt)
    (d_DT : DefAt K "is_two" slTwo)
    {tk_aL : Tok}
    (a_aL : PySem.W.nsIn K mainGlobals "MOST_LINES" = some (some (.int 8 tk_aL)))
    {tk_aP : Tok}
    (a_aP : PySem.W.nsIn K mainGlobals "MOST_PAIRS" = some (some (.int 64 tk_aP)))
    (d_DOd : DefAt K "is_orderable" slOrdb)
    (d_DCP : DefAt K "check_pairs" slChkP)
    (b_all : PySem.W.nsIn K mainGlobals "all" = some none)
    (d_DPr : DefAt K "is_price" slPrice)
    (d_DRo : DefAt K "is_row" slRow)
    (d_DC : DefAt K "check_rows" slChkR)
    (a_CT : PySem.W.nsIn K mainGlobals "Table" = some (some (.ref CT)))
    (me_i : MethAt K CT "__init__" "Table.__init__" slTbI)
    (me_q : MethAt K CT "pairs" "Table.pairs" slTPrs)
    (me_r : MethAt K CT "rows" "Table.rows" slTRws)
    (me_l : MethAt K CT "__len__" "Table.__len__" slTLen)
    (O_CT : OwnC K CT)
    (mk_CT : PySem.W.makesIn K CT = true)
    (kc_CT : PySem.W.keepIn K (.ref CT) = true)
    (no_CT_entries : PySem.W.findIn K (.ref CT) "entries" = some none)
    (no_CT_used : PySem.W.findIn K (.ref CT) "used" = some none)
    (a_CO : PySem.W.nsIn K mainGlobals "Order" = some (some (.ref CO)))
    (me_oi : MethAt K CO "__init__" "Order.__init__" slOrI)
    (me_ol : MethAt K CO "__len__" "Order.__len__" slLen)
    (me_oh : MethAt K CO "__contains__" "Order.__contains__" slHas)
    (me_oq : MethAt K CO "pairs" "Order.pairs" slPrs)
    (me_om : MethAt K CO "__le__" "Order.__le__" slOLe)
    (me_oe : MethAt K CO "__eq__" "Order.__eq__" slOEq)
    (O_CO : OwnC K CO)
    (mk_CO : PySem.W.makesIn K CO = true)
    (kc_CO : PySem.W.keepIn K (.ref CO) = true)
    (no_CO_sequence : PySem.W.findIn K (.ref CO) "sequence" = some none)
    (neO : PySem.W.findIn K (.ref CO) "__ne__" = some (some (.builtin "object.__ne__")))
    (d_DCO : DefAt K "check_order" slChO)
    (d_DPl : DefAt K "places_in" slPlaces)
    (d_DSh : DefAt K "share_line" slShare)
    (d_DPar : DefAt K "parted" slParted)
    (d_DLF : DefAt K "least_first" slLeastF)
    (d_DNo : DefAt K "normal" slNormal)
    (d_L1 : DefAt K "_law_cell" slCell2)
    (d_L2x : DefAt K "_law_mixed" slMix2)
    (d_L3 : DefAt K "_law_draws" slDraws)
    (d_L4 : DefAt K "_law_grid" slGrid)
    (d_L5 : DefAt K "_law_spots" slSpots)
    (d_L6 : DefAt K "_law_copy" slLCpy)
    (d_L7 : DefAt K "_law_shuffled" slShuf2)
    (d_L8 : DefAt K "_law_share" slLShare)
    (d_L10 : DefAt K "_law_loosened" slLoose)
    (d_L11 : DefAt K "_law_other" slOther)
    (d_L12 : DefAt K "_law_is_free" slIsFree)
    (d_L13 : DefAt K "_law_normal" slLNorm)
    (d_law : DefAt K "law" slaw) :
    ∃ fd : FuncData, (∀ (s : Shared) (u : Value), BindsTo s fd ⟨[u], []⟩ [("_law_script", u)]) ∧ ∀ base : Heap, K.In base → base.Ns mainGlobals mg → FnOk l.prog w K mg base CX0 40 fa fd ["_law_script"] (spLaw K) := by
  have T := bt.bt X G
  obtain ⟨f1, fd1, F1, m1⟩ := d_own.fn X G
  obtain ⟨f_DI, fd_DI, F_DI, m_DI⟩ := d_DI.fn X G
  obtain ⟨f_DT, fd_DT, F_DT, m_DT⟩ := d_DT.fn X G
  obtain ⟨f_DOd, fd_DOd, F_DOd, m_DOd⟩ := d_DOd.fn X G
  obtain ⟨f_DCP, fd_DCP, F_DCP, m_DCP⟩ := d_DCP.fn X G
  obtain ⟨f_DPr, fd_DPr, F_DPr, m_DPr⟩ := d_DPr.fn X G
  obtain ⟨f_DRo, fd_DRo, F_DRo, m_DRo⟩ := d_DRo.fn X G
  obtain ⟨f_DC, fd_DC, F_DC, m_DC⟩ := d_DC.fn X G
  obtain ⟨g_i, gd_i, G_i, n_i⟩ := me_i.fn
  obtain ⟨g_q, gd_q, G_q, n_q⟩ := me_q.fn
  obtain ⟨g_r, gd_r, G_r, n_r⟩ := me_r.fn
  obtain ⟨g_l, gd_l, G_l, n_l⟩ := me_l.fn
  obtain ⟨g_oi, gd_oi, G_oi, n_oi⟩ := me_oi.fn
  obtain ⟨g_ol, gd_ol, G_ol, n_ol⟩ := me_ol.fn
  obtain ⟨g_oh, gd_oh, G_oh, n_oh⟩ := me_oh.fn
  obtain ⟨g_oq, gd_oq, G_oq, n_oq⟩ := me_oq.fn
  obtain ⟨g_om, gd_om, G_om, n_om⟩ := me_om.fn
  obtain ⟨g_oe, gd_oe, G_oe, n_oe⟩ := me_oe.fn
  obtain ⟨f_DCO, fd_DCO, F_DCO, m_DCO⟩ := d_DCO.fn X G
  obtain ⟨f_DPl, fd_DPl, F_DPl, m_DPl⟩ := d_DPl.fn X G
  obtain ⟨f_DSh, fd_DSh, F_DSh, m_DSh⟩ := d_DSh.fn X G
  obtain ⟨f_DPar, fd_DPar, F_DPar, m_DPar⟩ := d_DPar.fn X G
  obtain ⟨f_DLF, fd_DLF, F_DLF, m_DLF⟩ := d_DLF.fn X G
  obtain ⟨f_DNo, fd_DNo, F_DNo, m_DNo⟩ := d_DNo.fn X G
  obtain ⟨f_L1, fd_L1, F_L1, m_L1⟩ := d_L1.fn X G
  obtain ⟨f_L2x, fd_L2x, F_L2x, m_L2x⟩ := d_L2x.fn X G
  obtain ⟨f_L3, fd_L3, F_L3, m_L3⟩ := d_L3.fn X G
  obtain ⟨f_L4, fd_L4, F_L4, m_L4⟩ := d_L4.fn X G
  obtain ⟨f_L5, fd_L5, F_L5, m_L5⟩ := d_L5.fn X G
  obtain ⟨f_L6, fd_L6, F_L6, m_L6⟩ := d_L6.fn X G
  obtain ⟨f_L7, fd_L7, F_L7, m_L7⟩ := d_L7.fn X G
  obtain ⟨f_L8, fd_L8, F_L8, m_L8⟩ := d_L8.fn X G
  obtain ⟨f_L10, fd_L10, F_L10, m_L10⟩ := d_L10.fn X G
  obtain ⟨f_L11, fd_L11, F_L11, m_L11⟩ := d_L11.fn X G
  obtain ⟨f_L12, fd_L12, F_L12, m_L12⟩ := d_L12.fn X G
  obtain ⟨f_L13, fd_L13, F_L13, m_L13⟩ := d_L13.fn X G
  obtain ⟨f_law, fd_law, F_law, m_law⟩ := d_law.fn X G
  cases hfa.symm.trans m_law
  have b_law : ∀ (s : Shared) (u : Value), BindsTo s fd_law ⟨[u], []⟩ [("_law_script", u)] := fun s u => by
    obtain ⟨oc, od, kV, doc, pm, an, cdv, ct, osl, rfl, lk, hcd⟩ := F_law.ex
    exact .of_eq rfl
  refine ⟨fd_law, b_law, fun base _ _ => ?_⟩
  have mk1 : ∀ {fd x st f ps sp n}, Fun K x x st f fd → mg x = some (.ref f) → Binds K fd ps [] → FnOk l.prog w K mg base CX0 n f fd ps sp → Df l.prog w K mg base CX0 x n ps sp := fun F m b o => ⟨_, _, m, F.kp, b, o⟩
  have mkL : ∀ {fd x st f ps sp n}, Fun K x x st f fd → mg x = some (.ref f) → Binds K fd ps [] → FnOk l.prog w K mg base (L2.CX l.prog w) n f fd ps sp → Df l.prog w K mg base (L2.CX l.prog w) x n ps sp := fun F m b o => ⟨_, _, m, F.kp, b, o⟩
  have B1 : Binds K fd1 ["value"] [] := F1.binds fun _ _ _ _ _ _ us hl => match us, hl with | [_], _ => rfl
  have G1 := ok_copy (P := l.prog) (w := w) (base := base) F1 T m1 1
  have ET : De l.prog w K mg base "InvalidTable" 3 (spErr1 K 1 CET "at") CET := e_ET.de X G (ok_IT e_ET.errC (e_ET.init top ⟨_, rfl⟩) T G1 m1 F1.kp B1 fr_ET_at)
  have EO : De l.prog w K mg base "InvalidOrder" 3 (spErr1 K 1 CEO "at") CEO := e_EO.de X G (ok_IO e_EO.errC (e_EO.init top ⟨_, rfl⟩) T G1 m1 F1.kp B1 fr_EO_at)
  have DI := mk1 F_DI m_DI (ps := ["value"]) (F_DI.binds fun _ _ _ _ _ _ us hl => match us, hl with | [_], _ => rfl) (ok_isInt F_DI T)
  have DT := mk1 F_DT m_DT (ps := ["value"]) (F_DT.binds fun _ _ _ _ _ _ us hl => match us, hl with | [_], _ => rfl) (ok_two F_DT T DI)
  have aL := PySem.W.mg_of X G a_aL
  have aP := PySem.W.mg_of X G a_aP
  have DOd := mk1 F_DOd m_DOd (ps := ["value"]) (F_DOd.binds fun _ _ _ _ _ _ us hl => match us, hl with | [_], _ => rfl) (ok_ordb F_DOd aL DT)
  have DCP := mkL F_DCP m_DCP (ps := ["pairs"]) (F_DCP.binds fun _ _ _ _ _ _ us hl => match us, hl with | [_], _ => rfl) (ok_chkP F_DCP T aP DOd EO)
  have tall := PySem.W.mg_none_of X G b_all
  have DPr := mk1 F_DPr m_DPr (ps := ["value"]) (F_DPr.binds fun _ _ _ _ _ _ us hl => match us, hl with | [_], _ => rfl) (ok_price F_DPr DI)
  have DRo := mk1 F_DRo m_DRo (ps := ["value", "first"]) (F_DRo.binds fun _ _ _ _ _ _ us hl => match us, hl with | [_, _], _ => rfl) (ok_row F_DRo T tall aL DPr)
  have DC := mkL F_DC m_DC (ps := ["rows"]) (F_DC.binds fun _ _ _ _ _ _ us hl => match us, hl with | [_], _ => rfl) (ok_chkR F_DC T aL DRo ET)
  have b_i : Binds K gd_i ["self", "rows"] [] := G_i.binds fun _ _ _ _ _ _ us hl => match us, hl with | [_, _], _ => rfl
  have b_q : Binds K gd_q ["self"] [] := G_q.binds fun _ _ _ _ _ _ us hl => match us, hl with | [_], _ => rfl
  have b_r : Binds K gd_r ["self"] [] := G_r.binds fun _ _ _ _ _ _ us hl => match us, hl with | [_], _ => rfl
  have b_l : Binds K gd_l ["self"] [] := G_l.binds fun _ _ _ _ _ _ us hl => match us, hl with | [_], _ => rfl
  have g_CT := PySem.W.mg_of X G a_CT
  have b_oi : Binds K gd_oi ["self", "pairs"] [] := G_oi.binds fun _ _ _ _ _ _ us hl => match us, hl with | [_, _], _ => rfl
  have b_ol : Binds K gd_ol ["self"] [] := G_ol.binds fun _ _ _ _ _ _ us hl => match us, hl with | [_], _ => rfl
  have b_oh : Binds K gd_oh ["self", "x"] [] := G_oh.binds fun _ _ _ _ _ _ us hl => match us, hl with | [_, _], _ => rfl
  have b_oq : Binds K gd_oq ["self"] [] := G_oq.binds fun _ _ _ _ _ _ us hl => match us, hl with | [_], _ => rfl
  have b_om : Binds K gd_om ["self", "other"] [] := G_om.binds fun _ _ _ _ _ _ us hl => match us, hl with | [_, _], _ => rfl
  have b_oe : Binds K gd_oe ["self", "other"] [] := G_oe.binds fun _ _ _ _ _ _ us hl => match us, hl with | [_, _], _ => rfl
  have g_CO := PySem.W.mg_of X G a_CO
  have A : TbC K CT := ⟨O_CT, no_CT_entries, no_CT_used⟩
  have oQ := ok_tPrs (P := l.prog) (w := w) (mg := mg) (base := base) G_q T A
  have oR := ok_tRws (P := l.prog) (w := w) (mg := mg) (base := base) G_r T A
  have oTL := ok_tLen (P := l.prog) (w := w) (mg := mg) (base := base) G_l T A
  have DTb : Dk l.prog w K mg base (L2.CX l.prog w) "Table" 8 ["self", "rows"] (spTbI K CT CET) CT := ⟨_, _, g_CT, ⟨mk_CT, n_i.at_, n_i.fn, kc_CT⟩, b_i, ok_tbI G_i T A DC⟩
  have nS : NoAttr K CO "sequence" := no_CO_sequence
  have DOr : Dk l.prog w K mg base (L2.CX l.prog w) "Order" 8 ["self", "pairs"] (spOrIF K CO CEO) CO := ⟨_, _, g_CO, ⟨mk_CO, n_oi.at_, n_oi.fn, kc_CO⟩, b_oi, ok_orI G_oi T O_CO nS DCP⟩
  have oOL := ok_len (P := l.prog) (w := w) (mg := mg) (base := base) G_ol T O_CO nS
  have oOH := ok_has (P := l.prog) (w := w) (mg := mg) (base := base) G_oh O_CO nS DT
  have oOQ := ok_prs (P := l.prog) (w := w) (mg := mg) (base := base) G_oq T O_CO nS
  have oOM := ok_OLe (P := l.prog) (w := w) (mg := mg) (base := base) G_om T O_CO nS g_CO
  have oOE := ok_OEq (P := l.prog) (w := w) (mg := mg) (base := base) G_oe T O_CO nS g_CO

  have DCO := mkL F_DCO m_DCO (ps := ["table", "order"]) (F_DCO.binds fun _ _ _ _ _ _ us hl => match us, hl with | [_, _], _ => rfl) (ok_chOX F_DCO T tall A O_CO g_CO n_ol oOL b_ol n_oh oOH b_oh n_l oTL b_l n_q oQ b_q EO)
  have DPl := mk1 F_DPl m_DPl (ps := ["order"]) (F_DPl.binds fun _ _ _ _ _ _ us hl => match us, hl with | [_], _ => rfl) (ok_places F_DPl T O_CO n_oq oOQ b_oq)
  have DSh := mk1 F_DSh m_DSh (ps := ["one", "other"]) (F_DSh.binds fun _ _ _ _ _ _ us hl => match us, hl with | [_, _], _ => rfl) (ok_share F_DSh)
  have DPar := mkL F_DPar m_DPar (ps := ["table", "one", "other"]) (F_DPar.binds fun _ _ _ _ _ _ us hl => match us, hl with | [_, _, _], _ => rfl) (ok_parted F_DPar T A n_q oQ b_q DCO DPl DSh)
  have DLF := mk1 F_DLF m_DLF (ps := ["left"]) (F_DLF.binds fun _ _ _ _ _ _ us hl => match us, hl with | [_], _ => rfl) (ok_leastF F_DLF)
  have DNo := mkL F_DNo m_DNo (ps := ["table", "order"]) (F_DNo.binds fun _ _ _ _ _ _ us hl => match us, hl with | [_, _], _ => rfl) (ok_normal F_DNo O_CO n_oq oOQ b_oq DCO DLF DOr)
  have L1 := mk1 F_L1 m_L1 (ps := ["_law_script", "_law_k"]) (F_L1.binds fun _ _ _ _ _ _ us hl => match us, hl with | [_, _], _ => rfl) (ok_cell2 F_L1 T)
  have L2x := mk1 F_L2x m_L2x (ps := ["_law_cell_here", "_law_k"]) (F_L2x.binds fun _ _ _ _ _ _ us hl => match us, hl with | [_, _], _ => rfl) (ok_mix2 F_L2x T)
  have L3 := mk1 F_L3 m_L3 (ps := ["_law_script", "_law_spot", "_law_sizes"]) (F_L3.binds fun _ _ _ _ _ _ us hl => match us, hl with | [_, _, _], _ => rfl) (ok_draws F_L3 T L1 L2x)
  have L4 := mk1 F_L4 m_L4 (ps := ["_law_script", "_law_spot", "_law_m", "_law_n", "_law_style", "_law_share_here"]) (F_L4.binds fun _ _ _ _ _ _ us hl => match us, hl with | [_, _, _, _, _, _], _ => rfl) (ok_grid F_L4 T L3)
  have L5 := mk1 F_L5 m_L5 (ps := ["_law_grid_here"]) (F_L5.binds fun _ _ _ _ _ _ us hl => match us, hl with | [_], _ => rfl) (ok_spots F_L5 T)
  have L6 := mk1 F_L6 m_L6 (ps := ["_law_grid_here"]) (F_L6.binds fun _ _ _ _ _ _ us hl => match us, hl with | [_], _ => rfl) (ok_lCpy F_L6 T)
  have L7 := mk1 F_L7 m_L7 (ps := ["_law_things", "_law_picks"]) (F_L7.binds fun _ _ _ _ _ _ us hl => match us, hl with | [_, _], _ => rfl) (ok_shuf2 F_L7 T)
  have L8 := mk1 F_L8 m_L8 (ps := ["_law_spot", "_law_other_here"]) (F_L8.binds fun _ _ _ _ _ _ us hl => match us, hl with | [_, _], _ => rfl) (ok_lShare F_L8)
  have L10 := mk1 F_L10 m_L10 (ps := ["_law_listed", "_law_picks"]) (F_L10.binds fun _ _ _ _ _ _ us hl => match us, hl with | [_, _], _ => rfl) (ok_loose F_L10 T L8)
  have L11 := mk1 F_L11 m_L11 (ps := ["_law_script", "_law_one", "_law_spots_here", "_law_choice"]) (F_L11.binds fun _ _ _ _ _ _ us hl => match us, hl with | [_, _, _, _], _ => rfl) (ok_other F_L11 T L3 L7 L10)
  have L12 := mk1 F_L12 m_L12 (ps := ["_law_listed", "_law_at"]) (F_L12.binds fun _ _ _ _ _ _ us hl => match us, hl with | [_, _], _ => rfl) (ok_isFree F_L12 T L8)
  have L13 := mk1 F_L13 m_L13 (ps := ["_law_listed"]) (F_L13.binds fun _ _ _ _ _ _ us hl => match us, hl with | [_], _ => rfl) (ok_lnorm F_L13 T L12)
  exact ok_law (CE := CET) (CEO := CEO) F_law ⟨L3, L4, L5, L7, L6, L11, L10, L13, DNo, DPar, DTb, DOr, A, O_CO, neO, ⟨_, _, n_oe, oOE, b_oe⟩, ⟨_, _, n_om, oOM, b_om⟩, ⟨_, _, n_oq, oOQ, b_oq⟩, ⟨_, _, n_r, oR, b_r⟩⟩ T
end Pk
set_option Elab.async false
set_option linter.all false
set_option maxRecDepth 100000
namespace Pk
open PySem L2
theorem walk {l : PySem.W.OpenLaw} {q : Program} {loose : List Str} {XP : (Str → Option Value) → Heap → Prop} {YP : World → Heap → Prop} {d : DefRec} {K : Params → PySem.W.Frag} (hn : l.most = some 63) (hdf : d.params.defaults = [])
    (hY : ∀ (w : World) (h : Heap), YP w h → (K w.params).In h)
    (F : ∀ (w : World) (mg : Str → Option Value) (fa : Addr) (h : Heap), (K w.params).In h → h.Ns mainGlobals mg → mg d.name = some (.ref fa) →
      ∃ fd : FuncData, (∀ (s : Shared) (u : Value), BindsTo s fd ⟨[u], []⟩ [("_law_script", u)]) ∧ ∀ base : Heap, (K w.params).In base → base.Ns mainGlobals mg → FnOk l.prog w (K w.params) mg base CX0 40 fa fd ["_law_script"] (spLaw (K w.params))) :
    PySem.W.WalkO q loose XP YP l.row.toRowW d [] (fun f vs => PySem.call f vs) :=
  L2.walk_of (n := 63) (k := 40) (x := "_law_script") (CX := fun _ => CX0) (sp := fun w => spLaw (K w.params)) hn (by decide) hdf ⟨rfl, by decide, by decide⟩ hY F (fun _ _ a ns hl _ hS => ⟨a, ns, rfl, hS, hl, fun _ => rfl⟩) fun _ _ _ _ _ z => z
end Pk
local macro_rules | `(tactic| walk_at "pk_def") => `(tactic| (refine' Pk.DefAt.of ?a ?l ?c ?k; (case a => k_is); (case l => k_is); (case c => k_is); (case k => k_is)))
local macro_rules | `(tactic| walk_at "pk_defK") => `(tactic| (refine' Pk.DefAtK.of ?a ?l ?c ?k ?n; (case a => k_is); (case l => k_is); (case c => k_is); (case k => k_is); (case n => k_is)))
local macro_rules | `(tactic| walk_at "pk_meth") => `(tactic| (refine' Pk.MethAt.of ?a ?l ?c ?k ?i; (case a => k_is); (case l => k_is); (case c => k_is); (case k => k_is); (case i => k_is)))
open PySem PySem.W PyProof.Rows Pk in
set_option maxRecDepth 100000 in
set_option maxHeartbeats 0 in
theorem PySem.Challenge.cw_pairorder_k60_whole_normal_forms_holds : PySem.Challenge.rw_pairorder_k60_whole_normal_forms.Holds := by
  w_on; o_law; k_head; (case hw => w_witness2)
  k_fill
  refine Pk.walk (l := PySem.Challenge.rw_pairorder_k60_whole_normal_forms) rfl rfl (fun w h Y => PySem.W.kIn_of Y) ?F
  case F =>
    intro w mg fa h KX G hmg
    refine' Pk.all_mk KX G hmg ?zz_bt ?zz_top ?zz_d_own ?zz_e_ET ?zz_fr_ET_at ?zz_e_EO ?zz_fr_EO_at ?zz_d_DI ?zz_d_DT ?zz_a_aL ?zz_a_aP ?zz_d_DOd ?zz_d_DCP ?zz_b_all ?zz_d_DPr ?zz_d_DRo ?zz_d_DC ?zz_a_CT ?zz_me_i ?zz_me_q ?zz_me_r ?zz_me_l ?zz_O_CT ?zz_mk_CT ?zz_kc_CT ?zz_no_CT_entries ?zz_no_CT_used ?zz_a_CO ?zz_me_oi ?zz_me_ol ?zz_me_oh ?zz_me_oq ?zz_me_om ?zz_me_oe ?zz_O_CO ?zz_mk_CO ?zz_kc_CO ?zz_no_CO_sequence ?zz_neO ?zz_d_DCO ?zz_d_DPl ?zz_d_DSh ?zz_d_DPar ?zz_d_DLF ?zz_d_DNo ?zz_d_L1 ?zz_d_L2x ?zz_d_L3 ?zz_d_L4 ?zz_d_L5 ?zz_d_L6 ?zz_d_L7 ?zz_d_L8 ?zz_d_L10 ?zz_d_L11 ?zz_d_L12 ?zz_d_L13 ?zz_d_law
    case zz_bt =>
      intro x hx
      simp only [List.mem_cons, List.not_mem_nil, or_false] at hx
      rcases hx with rfl | rfl | rfl | rfl | rfl | rfl | rfl | rfl | rfl | rfl | rfl | rfl | rfl | rfl | rfl | rfl | rfl | rfl <;> k_is
    case zz_top => rfl
    case zz_d_own => walk_at "pk_def"
    case zz_e_ET =>
      refine' Pk.ErrAt1.of ?at_ ?cls ?sa ?exB ?exA ?ty ?kp ?ini ?fnt ?fn ?code ?cell ?file ?file2 ?file3 ?opq ?sup ?below ?ga ?gg ?hd ?isC ?own
      case at_ => k_is
      case cls => k_is
      case sa => k_is
      case exB => k_is
      case exA => k_is
      case ty => k_is
      case kp => k_is
      case ini => k_is
      case fnt => k_is
      case fn => k_is
      case code => k_is
      case cell => k_is
      case file => k_is
      case file2 => rfl
      case file3 => rfl
      case opq => k_is
      case sup => first | k_is | ks_is
      case below => k_is
      case ga => k_is
      case gg => k_is
      case hd => k_is
      case isC => k_is
      case own => k_is
    case zz_fr_ET_at => k_is
    case zz_e_EO =>
      refine' Pk.ErrAt1.of ?at_ ?cls ?sa ?exB ?exA ?ty ?kp ?ini ?fnt ?fn ?code ?cell ?file ?file2 ?file3 ?opq ?sup ?below ?ga ?gg ?hd ?isC ?own
      case at_ => k_is
      case cls => k_is
      case sa => k_is
      case exB => k_is
      case exA => k_is
      case ty => k_is
      case kp => k_is
      case ini => k_is
      case fnt => k_is
      case fn => k_is
      case code => k_is
      case cell => k_is
      case file => k_is
      case file2 => rfl
      case file3 => rfl
      case opq => k_is
      case sup => first | k_is | ks_is
      case below => k_is
      case ga => k_is
      case gg => k_is
      case hd => k_is
      case isC => k_is
      case own => k_is
    case zz_fr_EO_at => k_is
    case zz_d_DI => walk_at "pk_def"
    case zz_d_DT => walk_at "pk_def"
    case zz_a_aL => k_is
    case zz_a_aP => k_is
    case zz_d_DOd => walk_at "pk_def"
    case zz_d_DCP => walk_at "pk_def"
    case zz_b_all => k_is
    case zz_d_DPr => walk_at "pk_def"
    case zz_d_DRo => walk_at "pk_def"
    case zz_d_DC => walk_at "pk_def"
    case zz_a_CT => k_is
    case zz_me_i => walk_at "pk_meth"
    case zz_me_q => walk_at "pk_meth"
    case zz_me_r => walk_at "pk_meth"
    case zz_me_l => walk_at "pk_meth"
    case zz_O_CT =>
      refine' Pk.OwnC.of ?pg ?hd ?po ?sa ?ha ?hn ?htk ?hm ?isC ?ty ?s1 ?s2 ?s3 ?s4 ?s5 ?s6 ?s7
      case pg => k_is
      case hd => k_is
      case po => k_is
      case sa => k_is
      case ha => k_is
      case hn => k_is
      case htk => k_is
      case hm => k_is
      case isC => k_is
      case ty => k_is
      case s1 => k_is
      case s2 => k_is
      case s3 => k_is
      case s4 => k_is
      case s5 => k_is
      case s6 => k_is
      case s7 => k_is
    case zz_mk_CT => k_is
    case zz_kc_CT => k_is
    case zz_no_CT_entries => k_is
    case zz_no_CT_used => k_is
    case zz_a_CO => k_is
    case zz_me_oi => walk_at "pk_meth"
    case zz_me_ol => walk_at "pk_meth"
    case zz_me_oh => walk_at "pk_meth"
    case zz_me_oq => walk_at "pk_meth"
    case zz_me_om => walk_at "pk_meth"
    case zz_me_oe => walk_at "pk_meth"
    case zz_O_CO =>
      refine' Pk.OwnC.of ?pg ?hd ?po ?sa ?ha ?hn ?htk ?hm ?isC ?ty ?s1 ?s2 ?s3 ?s4 ?s5 ?s6 ?s7
      case pg => k_is
      case hd => k_is
      case po => k_is
      case sa => k_is
      case ha => k_is
      case hn => k_is
      case htk => k_is
      case hm => k_is
      case isC => k_is
      case ty => k_is
      case s1 => k_is
      case s2 => k_is
      case s3 => k_is
      case s4 => k_is
      case s5 => k_is
      case s6 => k_is
      case s7 => k_is
    case zz_mk_CO => k_is
    case zz_kc_CO => k_is
    case zz_no_CO_sequence => k_is
    case zz_neO => k_is
    case zz_d_DCO => walk_at "pk_def"
    case zz_d_DPl => walk_at "pk_def"
    case zz_d_DSh => walk_at "pk_def"
    case zz_d_DPar => walk_at "pk_def"
    case zz_d_DLF => walk_at "pk_def"
    case zz_d_DNo => walk_at "pk_def"
    case zz_d_L1 => walk_at "pk_def"
    case zz_d_L2x => walk_at "pk_def"
    case zz_d_L3 => walk_at "pk_def"
    case zz_d_L4 => walk_at "pk_def"
    case zz_d_L5 => walk_at "pk_def"
    case zz_d_L6 => walk_at "pk_def"
    case zz_d_L7 => walk_at "pk_def"
    case zz_d_L8 => walk_at "pk_def"
    case zz_d_L10 => walk_at "pk_def"
    case zz_d_L11 => walk_at "pk_def"
    case zz_d_L12 => walk_at "pk_def"
    case zz_d_L13 => walk_at "pk_def"
    case zz_d_law => walk_at "pk_def"
