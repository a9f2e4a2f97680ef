import PyProof.Rows.All
import Wide.All
import OpenK.AllK
import Wide.FinOn
import HandS.ForMost
import HandS.Exc
import HandS.TryOnly
import HandS.WordsExc
import HandS.IsInst
import HandS.ExcInit
import HandS.ExcSuper
import HandS.ExcField
import HandS.Nested
import KE.KExcSuper
import HandS.Defaults
import HandS.CallSlots
import HandS.MakeKwOnly
import HandS.OwnEq
import HandS.SlotsOwn
import HandS.More
import HandS.Walk
import KE.Datum
import HandS.Wide
import KE.DataCmp
import HandS.Deep
import HandS.DictComp
import HandS.Iter
import HandS.TryMany
import HandS.Codes
import PySem.Challenge.RW_pairorder_k09_orders_places
set_option Elab.async false
set_option linter.all false
set_option maxRecDepth 100000
/-! What the laws of this program share: the reading's steps, the heap but for one object, the pool of draws. -/
namespace Pk
open PySem L2

/-! ### steps of a reading -/
section
variable {K : PySem.W.Frag} {σ : L2.St} {H : Hp} {Q : VK} {D : Ends} {ta tb te to ti : TE} {t u : TS} {tt tu : TT} {tr : TA} {i j : Nat} {v w : V} {a b : Int}
theorem r_seq (h : t { D with nx := u D } σ H) : tSeq t u D σ H := h
theorem r_nxt (h : D.nx σ H) : tNext D σ H := h
theorem r_asg {g : TG} (h : te σ H fun x H1 => g x σ H1 D.nx) : tAsg te g D σ H := h
theorem r_to {P : L2.St → Hp → Prop} (h : P (σ.set i (some v)) H) : gName i v σ H P := h
theorem r_for {wi : TI} {g : TG} (h : wi σ H fun J H1 => ∃ W : Nat → Nat → L2.St → Hp → Prop, (∃ m, W 0 m σ H1) ∧ ∀ i m σ H, W i m σ H →
    (J.stop i H ∧ D.nx σ H) ∨ (J.go i H ∧ ∃ N : L2.St → Hp → Prop, (∀ σ' H', N σ' H' → ∃ m', m' < m ∧ W (i + 1) m' σ' H') ∧ ∀ x H', J.yld i H x H' → g x σ H' fun σ2 H2 => t { D with nx := N, ct := N, bk := D.nx } σ2 H2)) : tFor wi g t D σ H := h
theorem r_lc {wi : TI} {g : TG} {vs : List Nat} (h : wi σ H fun J H1 => ∀ D, H1 D = none → ∃ W : Nat → Nat → Hp → Prop, (∃ m, W 0 m (upd H1 D (.lst []))) ∧ ∀ i m H, W i m H →
    (J.stop i H ∧ Q (.ref D) H) ∨ (J.go i H ∧ ∃ Nx : Hp → Prop, (∀ H', Nx H' → ∃ m', m' < m ∧ W (i + 1) m' H') ∧ ∀ x H', J.yld i H x H' → g x (wipe σ vs) H' fun σ2 H2 => wipe σ2 vs = wipe σ vs ∧ tt σ2 H2 fun b H3 =>
      if b = true then te σ2 H3 fun y H4 => ∃ acc, H4 D = some (.lst acc) ∧ acc.length < sizeLine ∧ Nx (upd H4 D (.lst (acc ++ [y]))) else Nx H3)) : tLc wi g tt te vs σ H Q := h
theorem r_tupI {R : It → Hp → Prop} (h : te σ H fun x H1 => ∃ l, x = .ref l ∧ (∃ xs, SqT K H1 l xs) ∧ R (Itt K l) H1) : iTup K te σ H R := h
theorem r_yes {P : Bool → Hp → Prop} (h : P true H) : tYes σ H P := h
theorem r_B {P : Bool → Hp → Prop} (h : te σ H fun x H1 => ∃ c, x = .bl c ∧ P c H1) : tB te σ H P := h
theorem r_rng1 {R : It → Hp → Prop} (h : tr σ H fun vs H1 => ∃ j : Int, vs = [.int j] ∧ -(2 ^ 62) ≤ j ∧ j < 2 ^ 62 ∧ R (Itr 0 j.toNat) H1) : iRng1 tr σ H R := h
theorem r_list {R : It → Hp → Prop} (h : te σ H fun x H1 => ∃ l, x = .ref l ∧ (∃ xs, SqL K H1 l xs) ∧ R (Itl K l) H1) : iList K te σ H R := h
theorem r_ret (h : te σ H D.rt) : tRet te D σ H := h
theorem r_drop (h : te σ H fun _ H1 => D.nx σ H1) : tDrop te D σ H := h
theorem r_ifs (h : tt σ H fun c H1 => if c = true then t D σ H1 else u D σ H1) : tIfS tt t u D σ H := h
theorem r_var (e : σ[i]? = some (some v)) (h : Q v H) : tVar i σ H Q := ⟨v, e, h⟩
theorem r_c (h : Q v H) : tC v σ H Q := h
theorem r_op {r : R2} (h : ta σ H fun x H1 => tb σ H1 fun y H2 => r x y H2 Q) : tOp r ta tb σ H Q := h
theorem r_un {r : V → Hp → VK → Prop} (h : ta σ H fun x H1 => r x H1 Q) : tUn r ta σ H Q := h
theorem r_U {g : Int → V} (h : Q (g a) H) : rU g (.int a) H Q := ⟨a, rfl, h⟩
theorem r_make {C : Addr} {sp : Sp} {dvs : List V} {E : XK} (h : tr σ H fun vs H1 => ∀ x dx, H1 x = none → H1 dx = none → dx ≠ x → sp (.ref x :: (vs ++ dvs)) (upd (upd H1 dx (.own x)) x (.ins C dx [])) (fun v H2 => v = .non ∧ Q (.ref x) H2) E) : tMake C sp dvs E tr σ H Q := h
theorem r_cat {l m : Addr} {xs zs : List V} (hl : H l = some (.lst xs)) (hm : H m = some (.lst zs)) (hz : xs.length + zs.length ≤ sizeLine) (h : ∀ p, H p = none → Q (.ref p) (upd H p (.lst (xs ++ zs)))) : rCat (.ref l) (.ref m) H Q := ⟨l, m, xs, zs, rfl, rfl, hl, hm, hz, h⟩
theorem r_sum {l : Addr} {ns : List Int} (hl : SqL K H l (ns.map V.int)) (h : Q (.int ns.sum) H) : rSum K [.ref l] H Q := ⟨l, ns, rfl, hl, h⟩
theorem r_I0 {g : Int → Int → V} (h : Q (g a b) H) : rI0 g (.int a) (.int b) H Q := ⟨a, b, rfl, rfl, h⟩
theorem r_I {C : Int → Int → Prop} {g : Int → Int → V} (c : C a b) (h : Q (g a b) H) : rI C g (.int a) (.int b) H Q := ⟨a, b, rfl, rfl, c, h⟩
theorem r_mod (c : 0 < b) (h : Q (.int (a % b)) H) : rI (fun _ j => 0 < j) (fun i j => .int (i % j)) (.int a) (.int b) H Q := r_I c h
theorem r_div (c : 0 < b) (d : b < 1073741824) (h : Q (.int (a / b)) H) : rI CDiv (fun i j => .int (i / j)) (.int a) (.int b) H Q := r_I ⟨c, d⟩ h
theorem r_mulL (c : -(2 ^ 64) < a) (d : a < 2 ^ 64) (h : Q (.int (a * b)) H) : rI CMul (fun i j => .int (i * j)) (.int a) (.int b) H Q := r_I (.inl ⟨c, d⟩) h
theorem r_mulR (c : -(2 ^ 64) < b) (d : b < 2 ^ 64) (h : Q (.int (a * b)) H) : rI CMul (fun i j => .int (i * j)) (.int a) (.int b) H Q := r_I (.inr ⟨c, d⟩) h
theorem r_pow (c : 0 ≤ b) (d : b ≤ 1000000) (e : a.natAbs < 2 ^ 64) (h : Q (.int (a ^ b.toNat)) H) : rI CPow (fun i j => .int (i ^ j.toNat)) (.int a) (.int b) H Q := r_I ⟨c, d, e⟩ h
theorem r_ixL {p : Addr} {xs : List V} (hs : SqL K H p xs) (he : atI xs a = some v) (h : Q v H) : rIxL K (.ref p) (.int a) H Q := ⟨p, xs, a, v, rfl, rfl, hs, he, h⟩
theorem r_ixT {p : Addr} {xs : List V} (hs : SqT K H p xs) (he : atI xs a = some v) (h : Q v H) : rIxT K (.ref p) (.int a) H Q := ⟨p, xs, a, v, rfl, rfl, hs, he, h⟩
theorem r_sub {s : TSet} {P : L2.St → Hp → Prop} (h : to σ H fun o H1 => ti σ H1 fun k H2 => s o k v H2 fun H3 => P σ H3) : gSub to ti s v σ H P := h
theorem r_setL {p : Addr} {xs : List V} {P : Hp → Prop} (hp : H p = some (.lst xs)) (hj : ixN xs.length a = some j) (h : P (upd H p (.lst (xs.set j v)))) : rSetL (.ref p) (.int a) v H P := ⟨p, xs, a, j, rfl, rfl, hp, hj, h⟩
theorem r_nil {R : List V → Hp → Prop} (h : R [] H) : tNil σ H R := h
theorem r_cons {R : List V → Hp → Prop} (h : ta σ H fun x H1 => tr σ H1 fun xs H2 => R (x :: xs) H2) : tCons ta tr σ H R := h
theorem r_cb {r : List V → Hp → VK → Prop} (h : tr σ H fun vs H1 => r vs H1 Q) : tCB r tr σ H Q := h
theorem r_call {sp : Sp} {dvs : List V} {E : XK} (h : tr σ H fun vs H1 => sp (vs ++ dvs) H1 Q E) : tCall sp dvs E tr σ H Q := h
theorem r_sl {r : V → Option Int → Option Int → Hp → VK → Prop} {tl th : TO} (h : te σ H fun x H1 => tl σ H1 fun l H2 => th σ H2 fun u H3 => r x l u H3 Q) : tSl r te tl th σ H Q := h
theorem r_noP {P : Option Int → Hp → Prop} (h : P none H) : tNoPart σ H P := h
theorem r_part {P : Option Int → Hp → Prop} (h : te σ H fun x H1 => ∃ i, x = .int i ∧ P (some i) H1) : tPart te σ H P := h
theorem r_isI {P : Int → Prop} (h : P a) : ∃ i, V.int a = .int i ∧ P i := ⟨a, rfl, h⟩
theorem r_lst (h : tr σ H fun xs H1 => xs.length ≤ sizeLine ∧ ∀ p, H1 p = none → Q (.ref p) (upd H1 p (.lst xs))) : tLst tr σ H Q := h
theorem r_tup (h : tr σ H fun xs H1 => xs.length ≤ sizeLine ∧ ∀ p, H1 p = none → Q (.ref p) (upd H1 p (.tup xs))) : tTup tr σ H Q := h
theorem r_test {P : Bool → Hp → Prop} (h : te σ H fun x H' => ∃ k, x = .bl k ∧ P k H') : tTest te σ H P := h
theorem r_and {P : Bool → Hp → Prop} (h : tt σ H fun c H1 => if c = true then tu σ H1 P else P false H1) : tAnd tt tu σ H P := h
theorem r_or {P : Bool → Hp → Prop} (h : tt σ H fun c H1 => if c = true then P true H1 else tu σ H1 P) : tOr tt tu σ H P := h
theorem r_not {P : Bool → Hp → Prop} (h : tt σ H fun c H1 => P (!c) H1) : tNot tt σ H P := h
theorem r_bl {P : Bool → Prop} {k : Bool} (h : P k) : ∃ c, V.bl k = .bl c ∧ P c := ⟨k, rfl, h⟩
theorem r_eq (hs : scal v w = true) (h : Q (.bl (decide (v = w))) H) : rEq v w H Q := ⟨hs, h⟩
theorem r_eqT (hs : scal v v = true) (h : Q (.bl true) H) : rEq v v H Q := ⟨hs, by rw [decide_eq_true (rfl : v = v)]; exact h⟩
theorem r_andV (h : ta σ H fun x H1 => ∃ c, x = .bl c ∧ if c = true then tb σ H1 Q else Q (.bl false) H1) : tAndV ta tb σ H Q := h
theorem r_orV (h : ta σ H fun x H1 => ∃ c, x = .bl c ∧ if c = true then Q (.bl true) H1 else tb σ H1 Q) : tOrV ta tb σ H Q := h
theorem r_notV (h : ta σ H fun x H1 => ∃ c, x = .bl c ∧ Q (.bl (!c)) H1) : tNotV ta σ H Q := h
theorem r_ne (hs : scal v w = true) (h : Q (.bl (!decide (v = w))) H) : rNe v w H Q := ⟨hs, h⟩
theorem ite_nF {A B : Prop} (h : A) : if (!false) = true then A else B := by rw [show (!false) = true from rfl, if_pos rfl]; exact h
theorem ite_nT {A B : Prop} (h : B) : if (!true) = true then A else B := by rw [show (!true) = false from rfl, if_neg Bool.false_ne_true]; exact h
theorem ite_no {c : Prop} [Decidable c] {A B : Prop} (h1 : c → A) (h2 : ¬ c → B) : if (!decide c) = true then B else A := by
  by_cases h : c
  · rw [decide_eq_true h]; exact h1 h
  · rw [decide_eq_false h]; exact h2 h
theorem ite_dec {c : Prop} [Decidable c] {A B : Prop} (h1 : c → A) (h2 : ¬ c → B) : if decide c = true then A else B := by
  by_cases h : c
  · rw [decide_eq_true h, if_pos rfl]; exact h1 h
  · rw [decide_eq_false h, if_neg Bool.false_ne_true]; exact h2 h
end

/-! ### built-ins by readings with a name -/
def rIs0 : R2 := fun x y H Q => y = .non ∧ Q (.bl (decide (x = .non))) H
def rIs1 : R2 := fun x y H Q => y = .non ∧ Q (.bl (!decide (x = .non))) H
theorem op_is0 {X : Cx} : OpR X (compareOp .Is) rIs0 := op_isN
theorem op_is1 {X : Cx} : OpR X (compareOp .IsNot) rIs1 := op_notN
theorem r_is0 {x : V} {H : Hp} {Q : VK} (h : Q (.bl (decide (x = .non))) H) : rIs0 x .non H Q := ⟨rfl, h⟩
theorem r_is1 {x : V} {H : Hp} {Q : VK} (h : Q (.bl (!decide (x = .non))) H) : rIs1 x .non H Q := ⟨rfl, h⟩
def rInt : List V → Hp → VK → Prop := fun xs H Q => ∃ n, xs = [.int n] ∧ Q (.int n) H
def rIntB : List V → Hp → VK → Prop := fun xs H Q => ∃ b, xs = [.bl b] ∧ Q (.int (if b then 1 else 0)) H
def rLen (K : PySem.W.Frag) : List V → Hp → VK → Prop := fun xs H Q => ∃ l ys, xs = [.ref l] ∧ (SqL K H l ys ∨ SqT K H l ys) ∧ Q (.int ys.length) H
theorem cl_int {X : Cx} : CallR X (.type "int") rInt := fun pins s σ H xs us Q I r h => by
  obtain ⟨n, e, q⟩ := h
  exact call_int1 pins s σ H xs us Q I r (.inl ⟨n, e, q⟩)
theorem cl_intB {X : Cx} : CallR X (.type "int") rIntB := fun pins s σ H xs us Q I r h => by
  obtain ⟨b, e, q⟩ := h
  exact call_int1 pins s σ H xs us Q I r (.inr ⟨b, e, q⟩)
def rTupOf (K : PySem.W.Frag) : List V → Hp → VK → Prop := fun xs H Q => ∃ l ys, xs = [.ref l] ∧ SqL K H l ys ∧ ∀ q, H q = none → Q (.ref q) (upd H q (.tup ys))
def rLstOf (K : PySem.W.Frag) : List V → Hp → VK → Prop := fun xs H Q => ∃ l ys, xs = [.ref l] ∧ (SqL K H l ys ∨ SqT K H l ys) ∧ ∀ q, H q = none → Q (.ref q) (upd H q (.lst ys))
theorem cl_tup {X : Cx} : CallR X (.type "tuple") (rTupOf X.K) := fun pins s σ H xs us Q I r h => by
  obtain ⟨l, ys, e, hs, q⟩ := h
  exact call_tuple_of pins s σ H xs us Q I r ⟨l, ys, e, .inl ⟨hs, q⟩⟩
theorem cl_lst {X : Cx} : CallR X (.type "list") (rLstOf X.K) := fun pins s σ H xs us Q I r h => call_list_of pins s σ H xs us Q I r h
theorem cl_len {X : Cx} : CallR X (.builtin "len") (rLen X.K) := fun pins s σ H xs us Q I r h => call_len_seq pins s σ H xs us Q I r h
section
variable {K : PySem.W.Frag} {H : Hp} {Q : VK} {l : Addr} {ys : List V}
theorem r_int {n : Int} (h : Q (.int n) H) : rInt [.int n] H Q := ⟨n, rfl, h⟩
theorem r_intB {b : Bool} (h : Q (.int (if b then 1 else 0)) H) : rIntB [.bl b] H Q := ⟨b, rfl, h⟩
theorem r_tupOf (hs : SqL K H l ys) (h : ∀ q, H q = none → Q (.ref q) (upd H q (.tup ys))) : rTupOf K [.ref l] H Q := ⟨l, ys, rfl, hs, h⟩
theorem r_lstOf (hs : SqL K H l ys) (h : ∀ q, H q = none → Q (.ref q) (upd H q (.lst ys))) : rLstOf K [.ref l] H Q := ⟨l, ys, rfl, .inl hs, h⟩
theorem r_lenL (hs : SqL K H l ys) (h : Q (.int ys.length) H) : rLen K [.ref l] H Q := ⟨l, ys, rfl, .inl hs, h⟩
theorem r_lenT (hs : SqT K H l ys) (h : Q (.int ys.length) H) : rLen K [.ref l] H Q := ⟨l, ys, rfl, .inr hs, h⟩
end

/-! ### the heap but for one object -/
/-- all that was tracked, the object at p aside, is as it was -/
def Keep (p : Addr) (H H' : Hp) : Prop := ∀ b o, b ≠ p → H b = some o → H' b = some o
section
variable {p q : Addr} {H H' H1 H2 : Hp} {o u : HO}
theorem Keep.refl : Keep p H H := fun _ _ _ h => h
theorem Keep.trans (a : Keep p H H1) (b : Keep p H1 H2) : Keep p H H2 := fun c o n h => b c o n (a c o n h)
theorem Keep.own (a : Keep p H H1) : Keep p H (upd H1 p o) := fun c v n h => by rw [upd_ne n]; exact a c v n h
theorem Keep.new (a : Keep p H H1) (hq : H1 q = none) : Keep p H (upd H1 q o) := fun c v n h => by
  have e := a c v n h
  rw [upd_ne (ne_of_none e hq)]; exact e
theorem Keep.same (s : Same H H1) : Keep p H H1 := fun c v _ h => s c v h
theorem Keep.seq {K : PySem.W.Frag} (a : Keep p H H1) {l : Addr} {xs : List V} (n : l ≠ p) (h : SqL K H l xs) : SqL K H1 l xs := by
  rcases h with (h | ⟨v, h⟩) | h
  · exact .inl (.inl (a l _ n h))
  · exact .inl (.inr ⟨v, a l _ n h⟩)
  · exact .inr h
theorem Same.up (s : Same H H1) (hq : H1 q = none) : Same H (upd H1 q o) := fun c v h => by
  have e := s c v h
  rw [upd_ne (ne_of_none e hq)]; exact e
end

/-! ### the pool of draws: at p a list of the cells' list (at c) and four ints -/
def PoolAt (H : Hp) (p c : Addr) (ns : List Int) : Prop :=
  ∃ a b s n : Int, 0 ≤ a ∧ H p = some (.lst [.ref c, .int a, .int b, .int s, .int n]) ∧ H c = some (.lst (ns.map V.int))
theorem PoolAt.ne {H : Hp} {p c : Addr} {ns : List Int} (h : PoolAt H p c ns) : c ≠ p := by
  obtain ⟨a, b, s, n, _, h1, h2⟩ := h
  intro e
  rw [e, h1] at h2
  cases ns with
  | nil => cases h2
  | cons x r =>
    have z := HO.lst.inj (Option.some.inj h2)
    rw [List.map_cons] at z
    cases (List.cons.inj z).1
/-- a store into one of its places -/
theorem PoolAt.put {H : Hp} {p c : Addr} {ns : List Int} {a b s n : Int} (ha : 0 ≤ a) (hc : H c = some (.lst (ns.map V.int))) (ne : c ≠ p) :
    PoolAt (upd H p (.lst [.ref c, .int a, .int b, .int s, .int n])) p c ns := ⟨a, b, s, n, ha, upd_same, by rw [upd_ne ne]; exact hc⟩

theorem later {H : Hp} {a q : Addr} {o u : HO} (h : H a = some o) (hq : H q = none) : upd H q u a = some o := by
  rw [upd_ne (ne_of_none h hq)]; exact h
theorem PoolAt.new {H : Hp} {p c q : Addr} {ns : List Int} {o : HO} (h : PoolAt H p c ns) (hq : H q = none) : PoolAt (upd H q o) p c ns := by
  obtain ⟨a, b, z, n, ha, hP, hC⟩ := h
  exact ⟨a, b, z, n, ha, later hP hq, later hC hq⟩
theorem PoolAt.apart {H : Hp} {p c q : Addr} {ns : List Int} (h : PoolAt H p c ns) (hq : H q = none) : q ≠ p := by
  obtain ⟨a, b, z, n, ha, hP, hC⟩ := h
  exact fun e => by rw [e, hP] at hq; cases hq
theorem PoolAt.apartC {H : Hp} {p c q : Addr} {ns : List Int} (h : PoolAt H p c ns) (hq : H q = none) : q ≠ c := by
  obtain ⟨a, b, z, n, ha, hP, hC⟩ := h
  exact fun e => by rw [e, hC] at hq; cases hq
theorem log_small {i : Int} (h : -8 < i ∧ i < 8) : i.natAbs.log2 < 1920 := by
  have e : i.natAbs < 8 := by omega
  exact Nat.lt_of_le_of_lt (Nat.log2_le_self _) (by omega)
/-- _law_mixed(pool, cell) -/
def spMix : Sp := fun vs H Q _ => ∃ (p c : Addr) (ns : List Int) (x : Int), vs = [.ref p, .int x] ∧ PoolAt H p c ns ∧
  ∀ (r : Int) (H' : Hp), 0 ≤ r → Keep p H H' → PoolAt H' p c ns → Q (.int r) H'
/-- _law_draw(pool, size) -/
def spDraw : Sp := fun vs H Q _ => ∃ (p c : Addr) (ns : List Int) (z : Int), vs = [.ref p, .int z] ∧ PoolAt H p c ns ∧ 0 < z ∧ z < 1073741824 ∧
  ∀ (r : Int) (H' : Hp), 0 ≤ r → r < z → Keep p H H' → PoolAt H' p c ns → Q (.int r) H'
/-- _law_number(pool, parts) -/
def spNum : Sp := fun vs H Q _ => ∃ (p c : Addr) (ns : List Int) (k : Int), vs = [.ref p, .int k] ∧ PoolAt H p c ns ∧ 0 ≤ k ∧ k ≤ 1000 ∧
  ∀ (r : Int) (H' : Hp), 0 ≤ r → r < 1000000 ^ k.toNat → Keep p H H' → PoolAt H' p c ns → Q (.int r) H'
/-- _law_pool(script) -/
def spPool (K : PySem.W.Frag) : Sp := fun vs H Q _ => ∃ (l : Addr) (ns : List Int), vs = [.ref l] ∧ SqL K H l (ns.map V.int) ∧ ns.length ≤ 63 ∧
  ∀ (p c : Addr) (H' : Hp), H p = none → H c = none → Same H H' → PoolAt H' p c ns → Q (.ref p) H'
theorem take_snoc {α : Type} : ∀ {l : List α} {i : Nat} {x : α}, l[i]? = some x → l.take (i + 1) = l.take i ++ [x]
  | [], i, x, h => by simp at h
  | a :: l, 0, x, h => by
    have e : a = x := Option.some.inj h
    rw [e]; rfl
  | a :: l, i + 1, x, h => by
    have ih := take_snoc (l := l) (i := i) (x := x) h
    rw [List.take_succ_cons, ih]; rfl
theorem ixN_last {α : Type} (xs : List α) (v : α) : ixN (xs ++ [v]).length (-1) = some xs.length := by
  have hl : (xs ++ [v]).length = xs.length + 1 := by simp
  unfold ixN
  rw [hl, if_neg (by decide), if_pos (by omega)]
  congr 1
  omega
theorem ixN_nat {n j : Nat} (h : j < n) : ixN n (j : Int) = some j := by
  unfold ixN
  rw [if_pos (by omega), if_pos (by omega)]
  simp
theorem set_last {α : Type} (xs : List α) (v u : α) : (xs ++ [v]).set xs.length u = xs ++ [u] := by simp
theorem cut_all {xs : List V} {n : Nat} (h : xs.length ≤ n) : cutV xs none (some (n : Int)) = xs := by
  have e1 : HT.sIx xs.length 0 none = 0 := rfl
  have e2 : HT.sIx xs.length xs.length (some (n : Int)) = xs.length := by
    rw [HT.sIx_nat]
    exact Nat.min_eq_right h
  unfold cutV
  rw [e1, e2, Nat.sub_zero, List.drop_zero, List.take_length]
end Pk
set_option Elab.async false
set_option linter.all false
set_option maxRecDepth 100000
set_option maxHeartbeats 1000000
/-! Error classes two steps below ArithmeticError, made by an __init__ that calls super().__init__ first and then stores fields. -/
namespace Pk
open PySem L2 PySem.Spec PyProof.Rows
abbrev arT : List Value := [.type "ArithmeticError", .type "Exception", .type "BaseException", .type "object"]
theorem arT_has {C pe : Addr} {z : String} (h : arT.contains (.type z) = true) : (Value.ref C :: .ref pe :: arT).contains (.type z) = true := by
  rw [List.contains_cons, List.contains_cons, h, Bool.or_true, Bool.or_true]
theorem arT_same {pe : Addr} (z : String) : (Value.ref pe :: arT).contains (.type z) = arT.contains (.type z) := by
  rw [List.contains_cons]
  simp
section
open PySem.W PySem.Calls Builtin Builtin.ObjectAttr
variable {prog : Program} {w : World} {A : Around} {R : Result → Shared → Prop} {hp : Heap} {g : Array GenState} {dn : Drawn} {tk : Nat} {os : OsState} {K : W.Frag} {nm : Str} {nt : Tok} {v : Value} {x C pe : Addr} {cd : ClassData}
/-- object.__setattr__ of such an error, up to the store in its own dict -/
theorem sa_head {ox : Obj} {od : Option Obj} (kin : K.In hp) (inst : W.InstAt hp x ox C od) (hcd : W.clsIn K C = some cd) (mro : cd.mro = .ref C :: .ref pe :: arT) (free : W.findIn K (.ref C) nm = some none)
    (go : wpAny (model prog w) A.in1 (storeInOwnDict (.ref x) (.ref C) (.str nm nt) nm v false) (fun fn st => match fn with
        | .done r => R (.ok r) st
        | .again c => c.quiet = true ∧ codeAny (model prog w) A c R st) (fun er st => R (.error er) st) ⟨hp, g, dn, tk, os⟩) :
    codeAny (model prog w) A (.call (.builtin "object.__setattr__") ⟨[.ref x, .str nm nt, v], []⟩) R ⟨hp, g, dn, tk, os⟩ := by
  have so := PySem.F.store_object
  have isO : W.mroIn K C (.type "object") = some true := by
    unfold W.mroIn
    rw [hcd, Option.bind_some, mro, if_neg (show ¬ (List.isEmpty (Value.ref C :: .ref pe :: arT) = true) from Bool.false_ne_true), arT_has (by decide +kernel)]
  have below : W.Looks (model prog w) hp (isInstance (.ref x) (.type "object")) true := inst.type.andThen (W.looks_mroIn kin isO)
  have line : W.Looks (model prog w) hp (mroOf (.ref C)) cd.mro := (W.looks_clsIn kin hcd).andThen .now
  have loop : refuseLoop (.ref x) "__setattr__" cd.mro = pure () := by
    rw [mro, refuseLoop_ref, refuseLoop_ref]
    exact PySem.F.store_ArithmeticError.passes _
  have no3 : W.Looks (model prog w) hp (storeTaker? none) none := .now
  refine codeAny_call_builtin so.slot.plain so.entry (@W.check_slot (model prog w) _ _ ⟨hp, g, dn, tk, os⟩ "object.__setattr__" "object" "__setattr__" (.ref x) [.str nm nt, v] [] _ so.kind so.split below (so.args (.ref x) (.str nm nt) v) ?_)
  rw [W.osa_eq, refuse_eq]
  refine wpAny_bind (wpAny_bind (inst.type.at (wpAny_bind (line.at ?_)))); rw [loop]
  exact wpAny_pure (wpAny_bind (inst.type.at (wpAny_bind ((W.looks_findIn kin free).at (wpAny_bind (no3.at go))))))
/-- the first field: the dict is made -/
theorem sa_first {fv : Array Value} (kin : K.In hp) (hx : hp.get? x = some { cls := .ref C, data := .fields fv }) (hcd : W.clsIn K C = some cd) (mro : cd.mro = .ref C :: .ref pe :: arT) (hasD : cd.hasDict = true) (free : W.findIn K (.ref C) nm = some none)
    (done : ∀ h2 t2 dx, (∀ b o, b ≠ x → hp.get? b = some o → h2.get? b = some o) → hp.objs.size ≤ dx → dx ≠ x → h2.get? x = some { cls := .ref C, dict := some dx, data := .fields fv } →
      h2.Ns1 dx (fun y => if y = nm then some v else none) → R (.ok (.ret .none)) ⟨h2, g, dn, t2, os⟩) :
    codeAny (model prog w) A (.call (.builtin "object.__setattr__") ⟨[.ref x, .str nm nt, v], []⟩) R ⟨hp, g, dn, tk, os⟩ := by
  have away : x ≠ hp.objs.size := Nat.ne_of_lt (Heap.lt_size hx)
  refine sa_head kin (ox := { cls := .ref C, data := .fields fv }) (od := none) ⟨hx, rfl, rfl, trivial⟩ hcd mro free ?_
  have look : W.Looks (model prog w) hp (classData C) cd := W.looks_clsIn kin hcd
  obtain ⟨c1, c2, c3, c4, c5, hd, c7, c8, c9, c10, c11⟩ := cd
  dsimp only at hasD
  subst hasD
  unfold storeInOwnDict ownDictForStores
  repeat (first | with_reducible refine HandSPX.store_in_new ?_ ?_ | with_reducible refine wpAny_loadPart_at hx ?_ | with_reducible refine look.at ?_ | wp_step)
  · exact ⟨_, #[], _, (Heap.get?_update_ne _ _ _ _ away.symm).trans (Heap.get?_push_at rfl rfl), rfl, fun e he => absurd he (by simp), fun _ => rfl⟩
  · intro h2 t2 ns sb
    have pushed : (hp.push { cls := .type "dict", data := .dict #[] }).get? x = some { cls := .ref C, data := .fields fv } := Heap.get?_push_of_some _ hx
    exact done h2 t2 hp.objs.size (fun b o hb ho => (sb.2 b (Nat.ne_of_lt (Heap.lt_size ho))).trans ((Heap.get?_update_ne _ _ _ _ hb).trans (Heap.get?_push_of_some _ ho))) (Nat.le_refl _) away.symm ((sb.2 x away).trans (Heap.get?_update_self _ pushed rfl)) ns
/-- a further field -/
theorem sa_more {fv : Array Value} {dx : Addr} {m0 : Str → Option Value} {nl : List Str} (kin : K.In hp) (hx : hp.get? x = some { cls := .ref C, dict := some dx, data := .fields fv }) (ns : hp.Ns1 dx m0) (wi : Within m0 nl) (few : nl.length ≤ 1000)
    (hcd : W.clsIn K C = some cd) (mro : cd.mro = .ref C :: .ref pe :: arT) (hasD : cd.hasDict = true) (free : W.findIn K (.ref C) nm = some none)
    (done : ∀ h2 t2, (∀ b o, b ≠ dx → hp.get? b = some o → h2.get? b = some o) → h2.Ns1 dx (fun y => if y = nm then some v else m0 y) → R (.ok (.ret .none)) ⟨h2, g, dn, t2, os⟩) :
    codeAny (model prog w) A (.call (.builtin "object.__setattr__") ⟨[.ref x, .str nm nt, v], []⟩) R ⟨hp, g, dn, tk, os⟩ := by
  obtain ⟨oD, _, _, hoD, _, _⟩ := ns.count wi
  refine sa_head kin (ox := { cls := .ref C, dict := some dx, data := .fields fv }) (od := some oD) ⟨hx, rfl, rfl, hoD⟩ hcd mro free ?_
  have look : W.Looks (model prog w) hp (classData C) cd := W.looks_clsIn kin hcd
  obtain ⟨c1, c2, c3, c4, c5, hd, c7, c8, c9, c10, c11⟩ := cd
  dsimp only at hasD
  subst hasD
  unfold storeInOwnDict ownDictForStores
  repeat (first | with_reducible refine PySem.ESX.store_in_old ns wi few ?_ | with_reducible refine wpAny_loadPart_at hx ?_ | with_reducible refine look.at ?_ | wp_step)
  exact fun h2 t2 n2 sb => done h2 t2 (fun b o hb ho => (sb.2 b hb).trans ho) n2
end

/-- what the written part says of an error class at C -/
structure ErrC (K : PySem.W.Frag) (C : Addr) : Prop where
  cls : ∃ pe nm q N bs sn sub ab col dd k0 k1 k2 k3 k5, K.lookup C = some (excClassObj nm q C N bs (.ref pe :: arT) true sn sub ab col dd k0 k1 k2 k3 k5 "ArithmeticError.__new__")
  sa : PySem.W.findIn K (.ref C) "__setattr__" = some (some (.builtin "object.__setattr__"))
  exB : PySem.W.subIn K (.ref C) (.type "BaseException") = some true
  exA : PySem.W.subIn K (.ref C) (.type "ArithmeticError") = some true
  ty : PySem.W.typeIn K (.ref C) = some (.type "type")
  kp : PySem.W.keepIn K (.ref C) = true
section
variable {X : Cx} {pins : List (Addr × Obj)} {σ : L2.St} {H : Hp} {s : Shared} {a C dx : Addr} {f : Str} {y : V} {u : Value} {fs : List (Str × V)} {Q : Unit → Shared → Prop} {E : Value → Shared → Prop} {A : Around}
theorem ErrC.data {K : PySem.W.Frag} (T : ErrC K C) : ∃ pe cd, PySem.W.clsIn K C = some cd ∧ cd.mro = .ref C :: .ref pe :: arT ∧ cd.hasDict = true := by
  obtain ⟨pe, nm, q, N, bs, sn, sub, ab, col, dd, k0, k1, k2, k3, k5, hC⟩ := T.cls
  exact ⟨pe, { name := nm, bases := bs, mro := .ref C :: .ref pe :: arT, ns := N, qualname := q, hasDict := true, slotNames := sn, subclasses := sub, abstract := ab, collection := col, hasDel := false }, by unfold PySem.W.clsIn; rw [hC] <;> rfl, rfl, rfl⟩
theorem not_at {H : Hp} {b c : Addr} {o : HO} (h : H b = some o) (n : H c = none) : c ≠ b := fun z => by
  rw [z, h] at n
  cases n
/-- self.f = y where the error has no dict as yet -/
theorem err_first (T : ErrC X.K C) (I : Inv X pins σ H s) (e : H a = some (exo a C none)) (free : PySem.W.findIn X.K (.ref C) f = some none) (ry : RelV y u)
    (go : ∀ dx st, H dx = none → dx ≠ a → Inv X pins σ (upd (upd H dx (exd dx [(f, y)])) a (exo a C (some dx))) st → Q () st) : wpAny (model X.prog X.w) A (setAttr (.ref a) f u) Q E s := by
  obtain ⟨pe, cd, hcl, hm, hh⟩ := T.data
  obtain ⟨t1, ho⟩ := exo_at I.hok e
  obtain ⟨hp, g, d, t, os⟩ := s
  refine PySem.W.set_plain I.kIn (od := none) (ox := { cls := .ref C, dict := none, data := .fields #[.ref t1, .none, .none, .none, .bool false, .none] }) ⟨ho, rfl, rfl, trivial⟩ T.sa (sa_first I.kIn ho hcl hm hh free fun h2 t2 dx k lt ne hx hn => ?_)
  have hnd : H dx = none := I.hok.fresh lt
  have old : ∀ {b : Addr} {o : Obj}, hp.get? b = some o → b ≠ dx := fun {b o} q => Nat.ne_of_lt (Nat.lt_of_lt_of_le (Heap.lt_size q) lt)
  have stay : ∀ {b : Addr} {o : HO}, H b = some o → exo a C none ≠ o → upd (upd H dx (exd dx [(f, y)])) a (exo a C (some dx)) b = some o := fun {b o} q ne => by
    rw [upd_ne (at_ne e q ne), upd_ne (ne_of_none q hnd)]; exact q
  have U : Un X.fs [] H (upd (upd H dx (exd dx [(f, y)])) a (exo a C (some dx))) hp h2 := {
    keep := fun b o q n _ _ => k b o (not_at e n) q
    slot := fun b o q n _ _ => ⟨o.slots, k b o (not_at e n) q⟩
    free := fun b o q n _ => by rw [upd_ne (not_at e n), upd_ne (old q)]; exact n
    there := fun b o q _ => by
      by_cases hb : b = a
      · exact ⟨_, hb ▸ hx⟩
      · exact ⟨o, k b o hb q⟩
    tups := fun b xs q => stay q exo_tup
    frzs := fun b o v q => stay q exo_frz
    tbls := fun b ps q => ⟨#[], by rw [stay q exo_tbl]; simp⟩ }
  refine go dx _ hnd ne (I.un (t' := t2) U fun b o q => ?_)
  by_cases hb : b = a
  · subst hb; rw [upd_same] at q; cases q; exact exo_ok hx
  · rw [upd_ne hb] at q
    by_cases hd : b = dx
    · subst hd; rw [upd_same] at q; cases q
      exact exd_ok hn (relO_put (fs := []) ry fun _ => True.intro)
    · rw [upd_ne hd] at q
      refine (I.hok b o q).stay (fun c v hc z => k c v ?_ z) (fun c hc => stay hc exo_own) fun c xs hc => stay hc exo_tup
      rcases hc with hc | hc
      · exact hc ▸ hb
      · exact at_ne e hc exo_own
/-- self.f = y, a further field -/
theorem err_more (T : ErrC X.K C) (I : Inv X pins σ H s) (e : H a = some (exo a C (some dx))) (ed : H dx = some (exd dx fs)) (few : fs.length ≤ 900) (free : PySem.W.findIn X.K (.ref C) f = some none) (ry : RelV y u)
    (go : ∀ st, Inv X pins σ (upd H dx (exd dx ((f, y) :: fs))) st → Q () st) : wpAny (model X.prog X.w) A (setAttr (.ref a) f u) Q E s := by
  obtain ⟨pe, cd, hcl, hm, hh⟩ := T.data
  obtain ⟨t1, ho⟩ := exo_at I.hok e
  obtain ⟨mA, hns, rel⟩ := exd_at I.hok ed
  have hw := within_of rel
  obtain ⟨hp, g, d, t, os⟩ := s
  obtain ⟨oD, _, _, hoD, _, _⟩ := hns.count hw
  refine PySem.W.set_plain I.kIn (od := some oD) (ox := { cls := .ref C, dict := some dx, data := .fields #[.ref t1, .none, .none, .none, .bool false, .none] }) ⟨ho, rfl, rfl, hoD⟩ T.sa (sa_more I.kIn ho hns hw (by rw [List.length_map]; omega) hcl hm hh free fun h2 t2 k hn => ?_)
  have there : ∃ o, h2.get? dx = some o := ⟨_, hn.choose_spec.choose_spec.choose_spec.1⟩
  exact go _ (I.write (t' := t2) (x := dx) (e := dx) (o := exd dx ((f, y) :: fs)) (by rw [ed]; exact True.intro) (.inl rfl) k there (exd_ok hn (relO_put ry rel)))
end
/-- self.f = e in the __init__ of such an error -/
def tErrSet (K : PySem.W.Frag) (f : Str) (to te : TE) : TS := fun D σ H => te σ H fun y H1 => to σ H1 fun x H2 => ∃ a C : Addr, x = .ref a ∧ ErrC K C ∧ PySem.W.findIn K (.ref C) f = some none ∧
  ((H2 a = some (exo a C none) ∧ ∀ dx, H2 dx = none → dx ≠ a → D.nx σ (upd (upd H2 dx (exd dx [(f, y)])) a (exo a C (some dx)))) ∨
   (∃ (dx : Addr) (fs : List (Str × V)), H2 a = some (exo a C (some dx)) ∧ H2 dx = some (exd dx fs) ∧ fs.length ≤ 900 ∧ D.nx σ (upd H2 dx (exd dx ((f, y) :: fs)))))
theorem ps_errSet {X : Cx} {o e : Expr} {to te : TE} {f : Str} {p' pos : Pos} (ho : PE X o to) (he : PE X e te) (hs : swapsWith e (some (.Attribute o f p')) pos.line X.env = pure false := by rfl) : PS X (.Assign [.Attribute o f p'] e pos) (tErrSet X.K f to te) := by
  refine ⟨fun pins s σ H D I h => plainObj_wpAny_Assign_Attribute (thn (he.run pins s σ H _ I h) fun v s1 ⟨y, H1, I1, r1, q1⟩ => thn (ho.run pins s1 σ H1 _ I1 q1) fun u s2 ⟨x, H2, I2, r2, a, C, ex, T, free, q⟩ => ?_) hs⟩
  subst ex
  obtain rfl : u = Value.ref a := r2
  rcases q with ⟨ea, q⟩ | ⟨dx, fs, ea, ed, few, q⟩
  · exact err_first T I2 ea free r1 fun dx st n ne J => ⟨σ, _, J, q dx n ne⟩
  · exact err_more T I2 ea ed few free r1 fun st J => ⟨σ, _, J, q⟩
end Pk
set_option Elab.async false
set_option linter.all false
set_option maxRecDepth 100000
set_option maxHeartbeats 1000000
namespace Pk
open PySem L2 PySem.Spec PyProof.Rows
/-- the __init__ at fI of the error class at C: F its words, cc the cell of the class -/
structure InitFn (P : Program) (K : PySem.W.Frag) (C fI cc : Addr) (F : NdefX.NF) : Prop where
  fn : ∃ (oc : Value) (od : Option Addr) (kV doc pm : Value) (an : Option Addr) (ct : Value) (osl : Array (Option Value)), K.lookup fI = some ⟨oc, od, .func (PySem.W.fnX F.name F.qual F.params F.body F.scope F.cl .none kV doc pm an (.ref F.c) ct), osl⟩
  code : PySem.W.codeIn K (.ref F.c) F.qual = true
  cl : F.cl = [(("__class__" : Str), cc)]
  cell : ∃ (a : Value) (b : Option Addr) (c : Array (Option Value)), K.lookup cc = some ⟨a, b, .cell (some (.ref C)), c⟩
  file : ∃ (a : Value) (b : Option Addr) (vs : Array Value) (c : Array (Option Value)) (f : Str) (t : Tok), K.lookup F.c = some ⟨a, b, .fields vs, c⟩ ∧ vs[2]? = some (.str f t) ∧ ((P.main.file : Str) == f) = true
  top : (P.main.scope.names.lookup ("super" : Str)).isSome = false
  opq : PySem.W.nsIn K cStatics "thirdparty.any" = some none
  self : ∃ q, (F.params.posonlyargs ++ F.params.args).head? = some { arg := "self", annotation := none, pos := q }
  sup : PySem.W.ks_superIn K C C "__init__" = some (some (.builtin "ArithmeticError.__init__"))
  below : PySem.W.mroIn K C (.ref C) = some true
section
open PySem.W PySem.Calls
variable {P : Program} {w : World} {K : PySem.W.Frag} {mg : Str → Option Value} {base : Heap} {CX : CXT} {C fI cc : Addr} {F : NdefX.NF} {N ps : List Str} {A : Around} {outer : List Env} {s : Shared} {H : Hp} {Q : VK} {E : XK} {k : Nat}
/-- super().__init__(text): the error's own arguments are laid anew, nothing else is changed -/
theorem sup_init {X : Cx} {pins : List (Addr × Obj)} {σ : L2.St} {H : Hp} {s : Shared} {x u : Addr} {us : List Value} {Qv : Value → Shared → Prop} (T : ErrC X.K C) (I : Inv X pins σ H s) (ex : H x = some (exo x C none)) (hu : s.heap.get? u = some (kxs_mw "ArithmeticError.__init__" x)) (hz : us.length ≤ sizeLine)
    (go : ∀ st, Inv X pins σ H st → Qv .none st) : wpAny (model X.prog X.w) X.A (call (.ref u) us) Qv X.xe s := by
  obtain ⟨pe, nm, q, NN, bs, sn, sub, ab, col, dd, k0, k1, k2, k3, k5, hC⟩ := T.cls
  obtain ⟨t1, ho⟩ := exo_at I.hok ex
  have hC' := I.kIn _ _ hC
  have hE := PySem.F.excBase_ArithmeticError
  have fin : ∀ h2, (∀ b o, b ≠ x → s.heap.get? b = some o → h2.get? b = some o) → h2.get? x = some (excObj C s.heap.objs.size none .none) → Qv .none { s with heap := h2 } := fun h2 keep hx => by
    have J := I.write (t' := s.toks) (x := x) (e := x) (o := exo x C none) (by rw [ex]; exact True.intro) (.inl rfl) keep ⟨_, hx⟩ (exo_ok hx)
    have e2 : upd H x (exo x C none) = H := by
      funext b
      by_cases hb : b = x
      · rw [hb, upd_same, ex]
      · rw [upd_ne hb]
    rw [e2] at J
    exact go _ J
  obtain ⟨hp, g, d, tk, os⟩ := s
  refine wpAny_call (codeAny_of_tree ?_)
  show wpAny _ X.A.in1 (callAny (.ref u) ⟨us, []⟩) _ _ _
  simp only [callAny]
  refine wpAny_bind (wpAny_load hu ?_)
  simp only [kxs_mw, show (Value.type "method-wrapper" == Value.type "method" || Value.type "method-wrapper" == Value.type "builtin_function_or_method" || Value.type "method-wrapper" == Value.type "method-wrapper") = true from by decide, if_true]
  refine KFB.if_so (by decide) (wpAny_bind (check_bound_init hE.toExcCallFacts hC' ho rfl (wpAny_bind (wpAny_pure (wpAny_pure ⟨plainId_quiet hE.init.plain _, codeAny_builtin hE.initEntry ?_⟩)))))
  exact exc_init_tree (cls := .ref C) (t0 := t1) (dv := none) (c2 := .none) (c3 := .none) (b4 := .bool false) ho hz fun h2 keep hx _ => fin h2 keep hx

/-- THE RULE of such an __init__: behind its first row the rest of its body runs as a def's body does, the class in its cell -/
theorem init_run {msg : Str} {kd : Nat} {p0 p1 p2 p3 p4 p5 : Pos} {rest : List Stmt} {us : List Value} {vs : List V} {x : Addr} (T : ErrC K C) (J : InitFn P K C fI cc F) (ms : mg "super" = none) (S : NdefX.NScope N ps ["__class__"] F.scope)
    (hB : F.body = .Expr (.Call (.Attribute (.Call (.Name "super" p0) [] [] p1) "__init__" p2) [.Constant (.str msg) kd p3] [] p4) p5 :: rest) (hsg : F.scope.names.lookup ("super" : Str) = some .globalImplicit)
    (hsl : F.scope.names.lookup ("self" : Str) = some .local) (hr : Room (k + 1) A) (e0 : Env0 P w K mg base A outer s H)
    (hb : ∀ (kV doc pm ct : Value) (an : Option Addr), BindsTo s (PySem.W.fnX F.name F.qual F.params F.body F.scope F.cl .none kV doc pm an (.ref F.c) ct) ⟨us, []⟩ (ps.zip us)) (r : Vals vs us) (hl : vs.length = ps.length)
    (hs0 : ps[0]? = some ("self" : Str)) (hv0 : vs[0]? = some (.ref x)) (ex : H x = some (exo x C none))
    {pl : Sem Bool} (he : ∀ env : Env, eval (.Call (.Attribute (.Call (.Name "super" p0) [] [] p1) "__init__" p2) [.Constant (.str msg) kd p3] [] p4) env = (do
      let ov ← attributeBase (.Call (.Name "super" p0) [] [] p1) "__init__" env (eval (.Call (.Name "super" p0) [] [] p1) env)
      standAt p2.atName
      let (f, first) ← holding [ov] (getMethod ov "__init__" pl)
      callWith p4 f first (backTo p4 (starEach [.Constant (.str msg) kd p3] env)) []))
    (hq : Room k (A.deeper (NdefX.envF F fI s.heap.objs.size)) → ∃ t, PSs (NdefX.ncx CX P w K mg base N F fI A outer s H E) rest t ∧ t { nx := fun _ H' => Q .non H', rt := Q } (NdefX.startF N vs [some (.ref C)]) H) :
    codeAny (model P w) A (.call (.ref fI) ⟨us, []⟩) (CR CX outer P w H s Q E) s := by
  obtain ⟨oc, od, kV, doc, pm, an, ct, osl, lk⟩ := J.fn
  obtain ⟨ca, cb, ccs, hcell⟩ := J.cell
  obtain ⟨fa, fb, fvs, fc, ff, ft, hcode, hvs, hfile⟩ := J.file
  obtain ⟨aq, hself⟩ := J.self
  obtain ⟨pe, cd, hcd, hmro, hhd⟩ := T.data
  have kin0 : K.In s.heap := e0.mod.kin.keeps fun b o e => (e0.bs b o e).1
  have lim : s.heap.NoLimit := e0.mod.nolimit.keeps fun b o e => (e0.bs b o e).1
  have cells : NdefX.CellsAt F.cl ["__class__"] [some (.ref C)] s.heap H := by
    have there : s.heap.IsCell cc (some (.ref C)) := ⟨_, kin0 _ _ hcell, rfl⟩
    have one : ∀ (y : Str) (c : Addr), F.cl.lookup y = some c → y = "__class__" ∧ c = cc := fun y c e => by
      rw [J.cl] at e
      have m := PySem.mem_of_lookup e
      simp only [List.mem_singleton, Prod.mk.injEq] at m
      exact m
    refine ⟨rfl, fun y c e => ?_, fun y z c e1 e2 => (one y c e1).1.trans (one z c e2).1.symm, fun i y e => ?_⟩
    · obtain ⟨_, rfl⟩ := one y c e
      exact ⟨(e0.bs _ _ (e0.mod.kin _ _ hcell)).2, _, there⟩
    · have ey : y = "__class__" := by
        match i, e with
        | 0, e => exact (Option.some.inj e).symm
        | i + 1, e => simp at e
      subst ey
      refine ⟨cc, by rw [J.cl]; simp [List.lookup], fun v e => ?_⟩
      match i, e with
      | 0, e => exact ⟨.ref C, by have z := Option.some.inj (Option.some.inj e); subst z; rfl, there⟩
      | i + 1, e => simp at e
  have ndP : ps.Nodup := by
    have q := S.nd.sublist (List.take_sublist (ps.length + [("__class__" : Str)].length) N)
    rw [S.pre] at q
    exact (List.nodup_append.mp q).1
  have hu0 : us[0]? = some (.ref x) := by
    obtain ⟨u, hu, ru⟩ := r.get hv0
    rw [hu]
    exact congrArg some ru
  refine ks_codeAny_call_defAt (fd := PySem.W.fnX F.name F.qual F.params F.body F.scope F.cl .none kV doc pm an (.ref F.c) ct) (body := F.body) (binds := ps.zip us) hr.depth (kin0 _ _ lk) rfl lim (PySem.W.codeRec_of kin0 J.code) rfl (hb kV doc pm ct an) S.nocell
    (fun ⟨n, v⟩ hy => S.par n (List.of_mem_zip hy).1) (fun h₁ hns hk₁ => ?_) S.co S.gen S.kind
  have I : Inv (NdefX.ncx CX P w K mg base N F fI A outer s H E) [] (NdefX.startF N vs [some (.ref C)]) H { s with heap := h₁, toks := s.toks + (ps.zip us).length } := NdefX.inv_startN S hr.hd e0 hl r cells hns hk₁
  obtain ⟨t, ht, hgo⟩ := hq (hr.deeper _)
  show PySem.wpAt _ (A.deeper (NdefX.envF F fI s.heap.objs.size)) (.func F.body (NdefX.envF F fI s.heap.objs.size)) (execs F.body (NdefX.envF F fI s.heap.objs.size)) _ _ _
  rw [hB]
  have hx1 : ∃ t1, h₁.get? x = some (excObj C t1 none .none) := exo_at I.hok ex
  obtain ⟨t1, hx1⟩ := hx1
  have kin1 : K.In h₁ := I.kIn
  obtain ⟨oD, hD1, hD2⟩ : ∃ oD, h₁.get? C = some oD ∧ oD.data = .cls cd := by
    have q := hcd
    unfold PySem.W.clsIn at q
    split at q
    · rename_i c' d' cd' sl' ho
      cases q
      exact ⟨_, kin1 _ _ ho, rfl⟩
    · cases q
  have fin : ∀ st, Inv (NdefX.ncx CX P w K mg base N F fI A outer s H E) [] (NdefX.startF N vs [some (.ref C)]) H st →
      wpAny (model P w) (A.deeper (NdefX.envF F fI s.heap.objs.size)) (execs rest (NdefX.envF F fI s.heap.objs.size)) (fun f s' => CR CX outer P w H s Q E (.ok (.ret (match f with | .ret v => v | _ => .none))) s')
        (fun e s' => wpAny (model P w) (A.deeper (NdefX.envF F fI s.heap.objs.size)) (leaving (NdefX.envF F fI s.heap.objs.size) e) (fun _ s'' => CR CX outer P w H s Q E (.error e) s'') (fun e' s'' => CR CX outer P w H s Q E (.error e') s'') s') st := fun st I2 => by
    refine wpAny_mono (ht.run [] st _ H _ I2 hgo) (fun fl s' hs => ?_) fun e s' hs => hs
    have close : ∀ {σ' : L2.St} {H' : Hp} {v : V} {u : Value}, Inv (NdefX.ncx CX P w K mg base N F fI A outer s H E) [] σ' H' s' → L2.RelV v u → Q v H' → CE outer P w H s Q u s' := fun {σ' H' v u} Z rv q => ⟨v, H', Z.os, Z.bare, Z.base, Z.hok, rv, q⟩
    cases fl with
    | ret u =>
      obtain ⟨v, σ', H', Z, rv, q⟩ := hs
      exact close Z rv q
    | next =>
      obtain ⟨σ', H', Z, q⟩ := hs
      exact close (v := V.non) (u := Value.none) Z rfl q
    | brk => exact (hs.choose_spec.choose_spec.2 : False).elim
    | cont => exact (hs.choose_spec.choose_spec.2 : False).elim
  refine ks_wpAt_execs_cons (ks_wpAt_Expr_any (ks_wpAt_MethodCall (ks_wpAt_super_base (cc := F.c) (f := fI) (ar := { arg := "self", annotation := none, pos := aq }) hsg (S.frk _ (by simp)) (by decide) rfl (kin1 _ _ lk) rfl hself rfl (kin1 _ _ hcode) rfl hvs hfile J.top ?_) (he _)) I.quiet ?sw)
  case sw => rfl
  obtain ⟨mb, hm1, hm2⟩ := e0.mod.blt
  refine ks_loadName_global S.kind hsg (loadGlobal_builtin (env := NdefX.envF F fI s.heap.objs.size) (e0.mod.glob.keeps I.bk) ms (hm1.keeps I.bk) ((hm2 "super" (by decide)).trans (by decide +kernel)) ⟨rfl, ?_⟩)
  refine wpAny_loadName_free S.kind (S.frk _ (by simp)) (show F.cl.lookup ("__class__" : Str) = some cc by rw [J.cl]; simp [List.lookup]) ⟨_, kin1 _ _ hcell, rfl⟩ ?_
  refine wpAny_loadName_local S.kind hsl hns (NdefX.zip_look ndP hs0 hu0) (ks_wpAny_isType_cls hD1 hD2 ⟨rfl, ?_⟩)
  have nocls : ∀ c, (excObj C t1 none .none).data ≠ .cls c := fun c z => by cases z
  refine ks_wpAny_call_super hD1 hD2 hx1 rfl nocls (PySem.W.looks_mroIn kin1 J.below) (fun h2 eso k2 => ?_)
  have I2 := I.kept (t' := s.toks + (ps.zip us).length) k2
  have kin2 : K.In h2 := I2.kIn
  have inst : PySem.W.InstAt h2 x (excObj C t1 none .none) C none := ⟨k2 _ _ hx1, rfl, rfl, trivial⟩
  have along : PySem.W.alongIn K "__init__" ((cd.mro.dropWhile (· != .ref C)).drop 1) = some (some (.builtin "ArithmeticError.__init__")) := by
    have q := J.sup
    unfold PySem.W.ks_superIn at q
    rw [hcd] at q
    exact q
  refine kxs_getMethod kxs_ArithmeticError eso (PySem.W.looks_opaque kin2 J.opq) ((PySem.W.looks_clsIn kin2 hcd).andThen .now) rfl kin2 along (inst.type.andThen (PySem.W.looks_subIn kin2 T.exA)) (PySem.W.ks_ne kin2 inst hcd) (by decide) ?_
  refine kxs_callWith (i := "ArithmeticError.__init__") (x := x) rfl ?_
  have hu : (h2.push (kxs_mw "ArithmeticError.__init__" x)).get? h2.objs.size = some (kxs_mw "ArithmeticError.__init__" x) := Heap.get?_push_at rfl rfl
  have fr : H h2.objs.size = none := I2.hok.fresh (Nat.le_refl _)
  have I3 := I2.kept (t' := s.toks + (ps.zip us).length + 1) (h' := h2.push (kxs_mw "ArithmeticError.__init__" x)) fun b o e => Heap.get?_push_of_some _ e
  have I4 : Inv (NdefX.ncx CX P w K mg base N F fI A outer s H E) [(h2.objs.size, kxs_mw "ArithmeticError.__init__" x)] (NdefX.startF N vs [some (.ref C)]) H { s with heap := h2.push (kxs_mw "ArithmeticError.__init__" x), toks := s.toks + (ps.zip us).length + 1 } :=
    ⟨I3.ok, I3.os, I3.bare, I3.base, I3.loc, I3.cell, I3.free, I3.freeC, fun p hp => by
      have e : p = (h2.objs.size, kxs_mw "ArithmeticError.__init__" x) := by
        have q : p ∈ [] ++ [(h2.objs.size, kxs_mw "ArithmeticError.__init__" x)] := hp
        simpa using q
      subst e
      exact ⟨hu, fr, Nat.ne_of_gt I2.lt, I2.nofs (Nat.le_refl _), fun v z => by cases z⟩, I3.hok, I3.len⟩
  have arg : PA (NdefX.ncx CX P w K mg base N F fI A outer s H E) [.Constant (.str msg) kd p3] (tCons (tC (.str msg)) tNil) := pa_cons pe_str pa_nil
  refine evalArgs_plain (thn (arg.run p4 _ _ _ H (fun us2 H2 => us2 = [.str msg] ∧ H2 = H) I4 ⟨rfl, rfl⟩) fun us2 s3 h3 => ?_)
  obtain ⟨vs2, H3, I5, r5, rfl, rfl⟩ := h3
  have mu : s3.heap.get? h2.objs.size = some (kxs_mw "ArithmeticError.__init__" x) := (I5.pin (h2.objs.size, kxs_mw "ArithmeticError.__init__" x) (List.mem_append_right _ (List.mem_singleton.mpr rfl))).1
  have one : us2.length ≤ sizeLine := by
    have z := Paired.length r5
    rw [← z, sizeLine_eq]
    show 1 ≤ 16777216
    decide
  refine ⟨mu, sup_init (us := us2) T I5 ex mu one fun st I6 => ?_⟩
  refine wpAt_of_wpAny (fin st ⟨I6.ok, I6.os, I6.bare, I6.base, I6.loc, I6.cell, I6.free, I6.freeC, fun p hp => I6.pin p (List.mem_append_left _ ?_), I6.hok, I6.len⟩)
  have q : p ∈ [] ++ [] := hp
  simpa using q
end
end Pk
set_option Elab.async false
set_option linter.all false
set_option maxRecDepth 100000
set_option maxHeartbeats 1000000
/-! Data of lists and tuples of bounded depth; copies of it that share no list. -/
namespace Pk
open PySem L2
/-- nested at most n deep, no list or tuple longer than 1000 -/
inductive Deep : Nat → PyData → Prop
  | non {n : Nat} : Deep n .none
  | bl {n : Nat} (b : Bool) : Deep n (.bool b)
  | int {n : Nat} (i : Int) : Deep n (.int i)
  | str {n : Nat} (z : Str) : Deep n (.str z)
  | lst {n : Nat} {ds : List PyData} (h : ∀ d ∈ ds, Deep n d) (z : ds.length ≤ 1000) : Deep (n + 1) (.list ds)
  | tup {n : Nat} {ds : List PyData} (h : ∀ d ∈ ds, Deep n d) (z : ds.length ≤ 1000) : Deep (n + 1) (.tuple ds)
theorem Deep.mono {n m : Nat} {d : PyData} (h : Deep n d) (l : n ≤ m) : Deep m d := by
  induction h generalizing m with
  | non => exact .non
  | bl b => exact .bl b
  | int i => exact .int i
  | str z => exact .str z
  | lst h z ih =>
    obtain ⟨k, rfl⟩ : ∃ k, m = k + 1 := ⟨m - 1, by omega⟩
    exact .lst (fun d hd => ih d hd (by omega)) z
  | tup h z ih =>
    obtain ⟨k, rfl⟩ : ∃ k, m = k + 1 := ⟨m - 1, by omega⟩
    exact .tup (fun d hd => ih d hd (by omega)) z
/-- v is the data d in H, and every list and tuple of it is new: not tracked in H0 -/
inductive Own (H0 H : Hp) : V → PyData → Prop
  | non : Own H0 H .non .none
  | bl (b : Bool) : Own H0 H (.bl b) (.bool b)
  | int (i : Int) : Own H0 H (.int i) (.int i)
  | str (z : Str) : Own H0 H (.str z) (.str z)
  | lst {a : Addr} {xs : List V} {ds : List PyData} (n : H0 a = none) (h : H a = some (.lst xs)) (hl : xs.length = ds.length) (hs : ∀ (i : Nat) (v : V) (d : PyData), xs[i]? = some v → ds[i]? = some d → Own H0 H v d) : Own H0 H (.ref a) (.list ds)
  | tup {a : Addr} {xs : List V} {ds : List PyData} (n : H0 a = none) (h : H a = some (.tup xs)) (hl : xs.length = ds.length) (hs : ∀ (i : Nat) (v : V) (d : PyData), xs[i]? = some v → ds[i]? = some d → Own H0 H v d) : Own H0 H (.ref a) (.tuple ds)
theorem Own.mono {H0 H H0' H' : Hp} {v : V} {d : PyData} (o : Own H0 H v d) (f : ∀ a, H0 a = none → H a ≠ none → H0' a = none) (k : ∀ a u, H0 a = none → H a = some u → (∃ xs, u = .lst xs ∨ u = .tup xs) → H' a = some u) : Own H0' H' v d := by
  induction o with
  | non => exact .non
  | bl b => exact .bl b
  | int i => exact .int i
  | str z => exact .str z
  | lst n h hl _ ih => exact .lst (f _ n (by rw [h]; exact Option.some_ne_none _)) (k _ _ n h ⟨_, .inl rfl⟩) hl fun i v d e1 e2 => ih i v d e1 e2
  | tup n h hl _ ih => exact .tup (f _ n (by rw [h]; exact Option.some_ne_none _)) (k _ _ n h ⟨_, .inr rfl⟩) hl fun i v d e1 e2 => ih i v d e1 e2
theorem Own.later {H0 H H' : Hp} {v : V} {d : PyData} (o : Own H0 H v d) (s : Same H H') : Own H0 H' v d := o.mono (fun _ n _ => n) fun a u _ h _ => s a u h
/-- made later than H0, so also later than what H0 has grown from -/
theorem Own.back {H0 H1 H : Hp} {v : V} {d : PyData} (o : Own H1 H v d) (s : Same H0 H1) : Own H0 H v d := by
  induction o with
  | non => exact .non
  | bl b => exact .bl b
  | int i => exact .int i
  | str z => exact .str z
  | lst n h hl _ ih => exact .lst (s.free n) h hl ih
  | tup n h hl _ ih => exact .tup (s.free n) h hl ih
theorem dpAll_of {K : PySem.W.Frag} {H : Hp} : ∀ {xs : List V} {ds : List PyData}, xs.length = ds.length → (∀ (i : Nat) (v : V) (d : PyData), xs[i]? = some v → ds[i]? = some d → Dp K H v d) → DpAll K H xs ds
  | [], [], _, _ => .nil
  | [], _ :: _, h, _ => by cases h
  | _ :: _, [], h, _ => by cases h
  | x :: xs, d :: ds, h, k => .cons (k 0 x d rfl rfl) (dpAll_of (Nat.succ.inj h) fun i v e e1 e2 => k (i + 1) v e e1 e2)
theorem dpAll_len {K : PySem.W.Frag} {H : Hp} : ∀ {xs : List V} {ds : List PyData}, DpAll K H xs ds → xs.length = ds.length
  | _, _, .nil => rfl
  | _, _, .cons _ t => congrArg Nat.succ (dpAll_len t)
theorem dpAll_at {K : PySem.W.Frag} {H : Hp} : ∀ {xs : List V} {ds : List PyData} {i : Nat} {v : V}, DpAll K H xs ds → xs[i]? = some v → ∃ d, ds[i]? = some d ∧ Dp K H v d
  | _, _, _, _, .nil, e => by simp at e
  | _, _, 0, _, .cons h _, e => ⟨_, rfl, by have z := Option.some.inj e; subst z; exact h⟩
  | _, _, i + 1, _, .cons _ t, e => dpAll_at (i := i) t e
theorem Own.dp {K : PySem.W.Frag} {H0 H : Hp} {v : V} {d : PyData} (o : Own H0 H v d) : Dp K H v d := by
  induction o with
  | non => exact .non
  | bl b => exact .bl b
  | int i => exact .int i
  | str z => exact .str z
  | lst n h hl _ ih => exact .lst (SqL.of h) (dpAll_of hl ih)
  | tup n h hl _ ih => exact .tup (SqT.of h) (dpAll_of hl ih)
/-- lists, tuples and what is locked -/
def IsLT (u : HO) : Prop := (∃ xs, u = .lst xs) ∨ (∃ xs, u = .tup xs) ∨ ∃ o z, u = .frz o z
/-- these are as they were -/
def SameD (H H' : Hp) : Prop := ∀ a u, IsLT u → H a = some u → H' a = some u
theorem SameD.of {H H' : Hp} (s : Same H H') : SameD H H' := fun a u _ h => s a u h
theorem SameD.trans {H H1 H2 : Hp} (a : SameD H H1) (b : SameD H1 H2) : SameD H H2 := fun c u l h => b c u l (a c u l h)
theorem SameD.seqL {K : PySem.W.Frag} {H H' : Hp} (s : SameD H H') {a : Addr} {xs : List V} (h : SqL K H a xs) : SqL K H' a xs := by
  rcases h with (h | ⟨o, h⟩) | h
  · exact .inl (.inl (s _ _ (.inl ⟨_, rfl⟩) h))
  · exact .inl (.inr ⟨o, s _ _ (.inr (.inr ⟨_, _, rfl⟩)) h⟩)
  · exact .inr h
theorem SameD.seqT {K : PySem.W.Frag} {H H' : Hp} (s : SameD H H') {a : Addr} {xs : List V} (h : SqT K H a xs) : SqT K H' a xs := by
  rcases h with (h | ⟨o, h⟩) | h
  · exact .inl (.inl (s _ _ (.inr (.inl ⟨_, rfl⟩)) h))
  · exact .inl (.inr ⟨o, s _ _ (.inr (.inr ⟨_, _, rfl⟩)) h⟩)
  · exact .inr h
mutual
theorem Dp.laterD {K : PySem.W.Frag} {H H' : Hp} (s : SameD H H') : ∀ {v : V} {d : PyData}, Dp K H v d → Dp K H' v d
  | _, _, .non => .non
  | _, _, .bl b => .bl b
  | _, _, .int i => .int i
  | _, _, .str z => .str z
  | _, _, .lst h t => .lst (s.seqL h) (DpAll.laterD s t)
  | _, _, .tup h t => .tup (s.seqT h) (DpAll.laterD s t)
theorem DpAll.laterD {K : PySem.W.Frag} {H H' : Hp} (s : SameD H H') : ∀ {xs : List V} {ds : List PyData}, DpAll K H xs ds → DpAll K H' xs ds
  | _, _, .nil => .nil
  | _, _, .cons h t => .cons (Dp.laterD s h) (DpAll.laterD s t)
end
theorem Dp.later {K : PySem.W.Frag} {H H' : Hp} (s : Same H H') {v : V} {d : PyData} (h : Dp K H v d) : Dp K H' v d := Dp.laterD (.of s) h
theorem DpAll.later {K : PySem.W.Frag} {H H' : Hp} (s : Same H H') {xs : List V} {ds : List PyData} (h : DpAll K H xs ds) : DpAll K H' xs ds := DpAll.laterD (.of s) h
/-- the built-in class of a piece of data -/
def kindOf : PyData → String
  | .none => "NoneType" | .bool _ => "bool" | .int _ => "int" | .str _ => "str" | .list _ => "list" | .tuple _ => "tuple" | _ => "object"
theorem Dp.kind {K : PySem.W.Frag} {H : Hp} {v : V} {d : PyData} (h : Dp K H v d) : TyX K H v (.type (kindOf d)) := by
  cases h with
  | non => exact .base .non
  | bl b => exact .base (.bl b)
  | int i => exact .base (.int i)
  | str z => exact .base (.str z)
  | lst h _ =>
    rcases h with (h | ⟨o, h⟩) | ⟨o, its, n, h, c, _⟩
    · exact .base (.lst h)
    · exact .base (.frz h)
    · exact .kList h c
  | tup h _ =>
    rcases h with (h | ⟨o, h⟩) | ⟨o, its, n, h, c, _⟩
    · exact .base (.tup h)
    · exact .fTuple h
    · exact .kTuple h c
/-- isinstance(x, T), T a built-in class -/
theorem r_isi {K : PySem.W.Frag} {H : Hp} {Q : VK} {x : V} {a b : String} {r : Bool} (t : TyX K H x (.type a)) (e : kitB a b = some r) (h : Q (.bl r) H) : rIsi K [x, .ty b] H Q := ⟨x, .ty b, _, _, r, rfl, .ty b, t, kit_ty e, h⟩
/-- own_copy(value), for data at most n deep -/
def spCopy (K : PySem.W.Frag) (n : Nat) : Sp := fun vs H Q _ => ∃ (v : V) (d : PyData), vs = [v] ∧ Dp K H v d ∧ Deep n d ∧ ∀ (v' : V) (H' : Hp), Same H H' → Own H H' v' d → Q v' H'
/-- _law_same(a, b) of two values that are the same data -/
def spSame (K : PySem.W.Frag) (n : Nat) : Sp := fun vs H Q _ => ∃ (a b : V) (d : PyData), vs = [a, b] ∧ Dp K H a d ∧ Dp K H b d ∧ Deep n d ∧ Q (.bl true) H
theorem kit_list (d : PyData) : ∃ r, kitB (kindOf d) "list" = some r ∧ (r = true ↔ ∃ ds, d = .list ds) := by
  cases d with
  | none => exact ⟨false, (by decide +kernel : kitB "NoneType" "list" = some false), ⟨(fun z => by cases z), (fun z => by obtain ⟨_, z⟩ := z; cases z)⟩⟩
  | bool b => exact ⟨false, (by decide +kernel : kitB "bool" "list" = some false), ⟨(fun z => by cases z), (fun z => by obtain ⟨_, z⟩ := z; cases z)⟩⟩
  | int i => exact ⟨false, (by decide +kernel : kitB "int" "list" = some false), ⟨(fun z => by cases z), (fun z => by obtain ⟨_, z⟩ := z; cases z)⟩⟩
  | str z => exact ⟨false, (by decide +kernel : kitB "str" "list" = some false), ⟨(fun z => by cases z), (fun z => by obtain ⟨_, z⟩ := z; cases z)⟩⟩
  | list ds => exact ⟨true, (by decide +kernel : kitB "list" "list" = some true), ⟨fun _ => ⟨ds, rfl⟩, fun _ => rfl⟩⟩
  | tuple ds => exact ⟨false, (by decide +kernel : kitB "tuple" "list" = some false), ⟨(fun z => by cases z), (fun z => by obtain ⟨_, z⟩ := z; cases z)⟩⟩
  | dict kv => exact ⟨false, (by decide +kernel : kitB "object" "list" = some false), ⟨(fun z => by cases z), (fun z => by obtain ⟨_, z⟩ := z; cases z)⟩⟩
theorem kit_tuple (d : PyData) : ∃ r, kitB (kindOf d) "tuple" = some r ∧ (r = true ↔ ∃ ds, d = .tuple ds) := by
  cases d with
  | none => exact ⟨false, (by decide +kernel : kitB "NoneType" "tuple" = some false), ⟨(fun z => by cases z), (fun z => by obtain ⟨_, z⟩ := z; cases z)⟩⟩
  | bool b => exact ⟨false, (by decide +kernel : kitB "bool" "tuple" = some false), ⟨(fun z => by cases z), (fun z => by obtain ⟨_, z⟩ := z; cases z)⟩⟩
  | int i => exact ⟨false, (by decide +kernel : kitB "int" "tuple" = some false), ⟨(fun z => by cases z), (fun z => by obtain ⟨_, z⟩ := z; cases z)⟩⟩
  | str z => exact ⟨false, (by decide +kernel : kitB "str" "tuple" = some false), ⟨(fun z => by cases z), (fun z => by obtain ⟨_, z⟩ := z; cases z)⟩⟩
  | list ds => exact ⟨false, (by decide +kernel : kitB "list" "tuple" = some false), ⟨(fun z => by cases z), (fun z => by obtain ⟨_, z⟩ := z; cases z)⟩⟩
  | tuple ds => exact ⟨true, (by decide +kernel : kitB "tuple" "tuple" = some true), ⟨fun _ => ⟨ds, rfl⟩, fun _ => rfl⟩⟩
  | dict kv => exact ⟨false, (by decide +kernel : kitB "object" "tuple" = some false), ⟨(fun z => by cases z), (fun z => by obtain ⟨_, z⟩ := z; cases z)⟩⟩
theorem kit_dict {n : Nat} {d : PyData} (h : Deep n d) : kitB (kindOf d) "dict" = some false := by
  cases h with
  | non => exact (by decide +kernel : kitB "NoneType" "dict" = some false)
  | bl b => exact (by decide +kernel : kitB "bool" "dict" = some false)
  | int i => exact (by decide +kernel : kitB "int" "dict" = some false)
  | str z => exact (by decide +kernel : kitB "str" "dict" = some false)
  | lst h z => exact (by decide +kernel : kitB "list" "dict" = some false)
  | tup h z => exact (by decide +kernel : kitB "tuple" "dict" = some false)
end Pk
set_option Elab.async false
set_option linter.all false
set_option maxRecDepth 100000
set_option maxHeartbeats 1000000
namespace Pk
open PySem L2 PySem.Spec PyProof.Rows
/-- the __init__ at fI keeps sp, its first argument an error that is being made -/
structure ErrOk (P : Program) (w : World) (K : PySem.W.Frag) (mg : Str → Option Value) (base : Heap) (k : Nat) (C fI : Addr) (sp : Sp) : Prop where
  run : ∀ (A : Around) (outer : List Env) (s : Shared) (H : Hp) (us : List Value) (vs : List V) (x : Addr) (Q : VK), Room k A → Env0 P w K mg base A outer s H → Vals (.ref x :: vs) us → H x = some (exo x C none) → sp (.ref x :: vs) H Q (fun _ _ _ => False) →
    codeAny (model P w) A (.call (.ref fI) ⟨us, []⟩) (CR CX0 outer P w H s Q (fun _ _ _ => False)) s
/-- C(e, ..) -/
def tMkErr (C : Addr) (sp : Sp) (ta : TA) : L2.St → Hp → XK → Prop := fun σ H Q => ta σ H fun vs H1 => vs.length ≤ 1000 ∧ ∀ x, H1 x = none →
  sp (.ref x :: vs) (upd H1 x (exo x C none)) (fun v H2 => v = .non ∧ ∃ (d : Addr) (fs : List (Str × V)), H2 x = some (exo x C (some d)) ∧ H2 d = some (exd d fs) ∧ H1 d = none ∧ Q (.ref C) (some d) (upd (del H2 x) d (.xd fs))) (fun _ _ _ => False)
theorem pmk_err {X : Cx} {x : Str} {C fI : Addr} {k : Nat} {sp : Sp} {p pos : Pos} {e : Expr} {es : List Expr} {ta : TA} (T : ErrC X.K C) (iC : PySem.W.findIn X.K (.ref C) "__init__" = some (some (.ref fI))) (tI : PySem.W.typeIn X.K (.ref fI) = some (.type "function"))
    (G : ErrOk X.prog X.w X.K X.mg X.base k C fI sp) (hr : Room (k + 1) X.A) (hg : Gl X x) (hm : X.mg x = some (.ref C)) (ha : PA X (e :: es) ta)
    (hdb : (x == ("__debug__" : Str)) = false := by decide) (he : starEach (e :: es) X.env = (false, eval e X.env) :: starEach es X.env := by rfl) (hpl : (backTo pos (starEach es X.env)).any (·.1) = false := by rfl) : PMk X (.Call (.Name x p) (e :: es) [] pos) (tMkErr C sp ta) := by
  intro pins s σ H Q I h
  obtain ⟨pe, nm, q, N, bs, sn, sub, ab, col, dd, k0, k1, k2, k3, k5, hC⟩ := T.cls
  refine wpAny_Call_Name_kw (ld_glob I hg hm (PySem.W.callWith_K (h₀ := X.base) I.ok.mod.kin T.kp (thn (ha.run pos pins s σ H _ I h) fun us s1 ⟨vs, H1, I1, r1, hz, q1⟩ => ⟨I1.kIn, ?_⟩) he hpl) hdb)
  show wpAny _ _ (call (.ref C) us) _ _ _
  obtain ⟨hp, g, dr, tk, os⟩ := s1
  have up := Nat.le_succ hp.objs.size
  have hq := q1 (hp.objs.size + 1) (I1.hok.fresh up)
  have kk : ∀ b o, hp.get? b = some o → ((hp.push (PySem.W.kdv_tup us)).push (PySem.HandSPX.excO C hp.objs.size)).get? b = some o := fun b o z => Heap.get?_push_of_some _ (Heap.get?_push_of_some _ z)
  have made : ((hp.push (PySem.W.kdv_tup us)).push (PySem.HandSPX.excO C hp.objs.size)).get? (hp.objs.size + 1) = some (PySem.HandSPX.excO C hp.objs.size) := by heap_get
  have I2 := I1.laid (t' := tk) (a := hp.objs.size + 1) (o := exo (hp.objs.size + 1) C none) kk up (exo_ok made)
  have short : us.length ≤ sizeLine := by
    rw [← Paired.length r1, sizeLine_eq]; omega
  refine wpAny_call (PySem.HandSPX.call_own PySem.F.excBase_ArithmeticError arT_same (I1.kIn _ _ hC) (PySem.W.looks_findIn I1.kIn iC) (fun z => PySem.W.bind_fn I1.kIn z tI) short
    (codeAny_mono (G.run _ X.stack _ _ (Value.ref (hp.objs.size + 1) :: us) vs (hp.objs.size + 1) _ (hr.make C us []) (I2.env0.make C us []) (.cons rfl r1) upd_same hq) fun r st z => ?_))
  cases r with
  | error er => exact (show False from z).elim
  | ok fl =>
    cases fl with
    | ret u =>
      obtain ⟨v, H2, os2, bare2, un2, hok2, rv, ev, d, fs, ea, ed, hd1, q2⟩ := z
      subst ev
      obtain ⟨h2, g2, d2, t2, os'⟩ := st
      exact ⟨rv, mk_end (raises_own T.exB T.ty) I1 up kk un2 hok2 os2 bare2 ea ed hd1 q2⟩
    | next => exact False.elim z
    | brk => exact False.elim z
    | cont => exact False.elim z

theorem r_errSet {K : PySem.W.Frag} {f : Str} {to te : TE} {D : Ends} {σ : L2.St} {H : Hp} (h : te σ H fun y H1 => to σ H1 fun x H2 => ∃ a C : Addr, x = .ref a ∧ ErrC K C ∧ PySem.W.findIn K (.ref C) f = some none ∧
  ((H2 a = some (exo a C none) ∧ ∀ dx, H2 dx = none → dx ≠ a → D.nx σ (upd (upd H2 dx (exd dx [(f, y)])) a (exo a C (some dx)))) ∨
   (∃ (dx : Addr) (fs : List (Str × V)), H2 a = some (exo a C (some dx)) ∧ H2 dx = some (exd dx fs) ∧ fs.length ≤ 900 ∧ D.nx σ (upd H2 dx (exd dx ((f, y) :: fs)))))) : tErrSet K f to te D σ H := h
/-- an __init__ of one field, a copy of what it is passed -/
def spErr1 (K : PySem.W.Frag) (n : Nat) (C : Addr) (f : Str) : Sp := fun vs H Q _ => ∃ (x : Addr) (v : V) (d : PyData), vs = [.ref x, v] ∧ H x = some (exo x C none) ∧ Dp K H v d ∧ Deep n d ∧
  ∀ (dx : Addr) (v' : V) (H' : Hp), H' x = some (exo x C (some dx)) → H' dx = some (exd dx [(f, v')]) → H dx = none → dx ≠ x → Keep x H H' → Own H H' v' d → Q .non H'
/-- .. of two fields, in this sequence -/
def spErr2 (K : PySem.W.Frag) (n : Nat) (C : Addr) (f g : Str) : Sp := fun vs H Q _ => ∃ (x : Addr) (v u : V) (d e : PyData), vs = [.ref x, v, u] ∧ H x = some (exo x C none) ∧ Dp K H v d ∧ Deep n d ∧ Dp K H u e ∧ Deep n e ∧
  ∀ (dx : Addr) (v' u' : V) (H' : Hp), H' x = some (exo x C (some dx)) → H' dx = some (exd dx [(g, u'), (f, v')]) → H dx = none → dx ≠ x → Keep x H H' → Own H H' v' d → Own H H' u' e → Q .non H'
theorem exd_lt {dx : Addr} {fs : List (Str × V)} {u : HO} (h : ∃ xs, u = .lst xs ∨ u = .tup xs) : exd dx fs ≠ u := fun z => by
  obtain ⟨xs, e | e⟩ := h
  · rw [e] at z; cases (show HO.ext _ = HO.lst xs from z)
  · rw [e] at z; cases (show HO.ext _ = HO.tup xs from z)
/-- what is new stays so when the error, which is known, and its new dict are written -/
theorem Own.stored {H H1 : Hp} {v : V} {d : PyData} {x dx : Addr} {o u : HO} (w : Own H H1 v d) (hx : H x ≠ none) (hd : H1 dx = none) : Own H (upd (upd H1 dx o) x u) v d :=
  w.mono (fun _ n _ => n) fun a z n q _ => by
    have na : a ≠ x := fun e => hx (e ▸ n)
    rw [upd_ne na, upd_ne (ne_of_none q hd)]
    exact q
section
variable {P : Program} {w : World} {K : PySem.W.Frag} {mg : Str → Option Value} {base : Heap} {C fI cc fc : Addr} {fdc : FuncData} {F : NdefX.NF} {n : Nat} {f g : Str}
theorem err_one {msg : Str} {kd : Nat} {p0 p1 p2 p3 p4 p5 q0 q1 q2 q3 q4 q5 : Pos} (T : ErrC K C) (J : InitFn P K C fI cc F) (ms : mg "super" = none) (G : FnOk P w K mg base CX0 (n + 1) fc fdc ["value"] (spCopy K n)) (mc : mg "own_copy" = some (.ref fc)) (kc : PySem.W.keepIn K (.ref fc) = true)
    (bc : Binds K fdc ["value"] []) (S : NdefX.NScope ["self", f, "__class__"] ["self", f] ["__class__"] F.scope)
    (hB : F.body = .Expr (.Call (.Attribute (.Call (.Name "super" p0) [] [] p1) "__init__" p2) [.Constant (.str msg) kd p3] [] p4) p5 :: [.Assign [.Attribute (.Name "self" q0) f q1] (.Call (.Name "own_copy" q2) [.Name f q3] [] q4) q5])
    (hsg : F.scope.names.lookup ("super" : Str) = some .globalImplicit) (hog : F.scope.names.lookup ("own_copy" : Str) = some .globalImplicit) (free : PySem.W.findIn K (.ref C) f = some none)
    (hb : ∀ (kV doc pm ct : Value) (an : Option Addr) (us : List Value), us.length = 2 → bindArgs (PySem.W.fnX F.name F.qual F.params F.body F.scope F.cl .none kV doc pm an (.ref F.c) ct) ⟨us, []⟩ = pure ((["self", f] : List Str).zip us))
    {pl : Sem Bool} (he : ∀ env : Env, eval (.Call (.Attribute (.Call (.Name "super" p0) [] [] p1) "__init__" p2) [.Constant (.str msg) kd p3] [] p4) env = (do
      let ov ← attributeBase (.Call (.Name "super" p0) [] [] p1) "__init__" env (eval (.Call (.Name "super" p0) [] [] p1) env)
      standAt p2.atName
      let (f, first) ← holding [ov] (getMethod ov "__init__" pl)
      callWith p4 f first (backTo p4 (starEach [.Constant (.str msg) kd p3] env)) []))
    (fd : (f == ("__debug__" : Str)) = false) (fcd : (f == ("__classdict__" : Str)) = false) : ErrOk P w K mg base (n + 2) C fI (spErr1 K n C f) := by
  refine ⟨fun A outer s H us vs x Q hr e0 r ex hsp => ?_⟩
  obtain ⟨x', v, d, evs, _, hv, hd, k⟩ := hsp
  obtain ⟨rfl, rfl⟩ : x = x' ∧ vs = [v] := by
    have z := List.cons.inj evs
    exact ⟨V.ref.inj z.1, z.2⟩
  have lu : us.length = 2 := by rw [← r.length]; rfl
  refine init_run (k := n + 1) (rest := [.Assign [.Attribute (.Name "self" q0) f q1] (.Call (.Name "own_copy" q2) [.Name f q3] [] q4) q5]) (x := x) T J ms S hB hsg (S.par _ (by simp)) hr e0 (fun kV doc pm ct an => BindsTo.of_eq (hb kV doc pm ct an us lu)) r rfl rfl rfl ex he fun hr' => ?_
  refine ⟨_, pss_one (ps_errSet (pe_var (i := 0) rfl (.inl (S.par _ (by simp)))) (pe_call G hr' hog mc kc bc .nil pass0 (pa_cons (pe_var (i := 1) rfl (.inl (S.par _ (by simp))) fd fcd) pa_nil)) ?sw), ?_⟩
  case sw => rfl
  refine r_errSet ?_
  refine r_call ?_
  refine r_cons ?_
  refine r_var rfl ?_
  refine r_nil ?_
  refine ⟨v, d, rfl, hv, hd, fun v' H1 s1 o1 => ?_⟩
  refine r_var rfl ?_
  refine ⟨x, C, rfl, T, free, .inl ⟨s1 _ _ ex, fun dx hdx ne => ?_⟩⟩
  refine k dx v' _ upd_same (by rw [upd_ne ne, upd_same]) (s1.free hdx) ne (Keep.own (Keep.new (Keep.same s1) hdx)) (o1.stored (by rw [ex]; exact Option.some_ne_none _) hdx)

theorem exo_lt {x : Addr} {C : Addr} {d : Option Addr} {u : HO} (h : IsLT u) : exo x C d ≠ u := fun z => by
  rcases h with ⟨_, e⟩ | ⟨_, e⟩ | ⟨_, _, e⟩
  · rw [e] at z; exact exo_lt' z
  · exact exo_tup (z.trans e)
  · exact exo_frz (z.trans e)
where exo_lt' {x C : Addr} {d : Option Addr} {xs : List V} (z : exo x C d = .lst xs) : False := by cases (show HO.ext _ = HO.lst xs from z)
/-- behind the stores into the error at x lists and tuples are as they were -/
theorem sameD_err {H : Hp} {x C dx : Addr} {d : Option Addr} {o u : HO} (hx : H x = some (exo x C d)) (hd : H dx = none) : SameD H (upd (upd H dx o) x u) := fun a z l h => by
  rw [upd_ne (at_ne hx h (exo_lt l)), upd_ne (ne_of_none h hd)]
  exact h
theorem err_two {msg : Str} {kd : Nat} {p0 p1 p2 p3 p4 p5 q0 q1 q2 q3 q4 q5 z0 z1 z2 z3 z4 z5 : Pos} (T : ErrC K C) (J : InitFn P K C fI cc F) (ms : mg "super" = none) (G : FnOk P w K mg base CX0 (n + 1) fc fdc ["value"] (spCopy K n)) (mc : mg "own_copy" = some (.ref fc)) (kc : PySem.W.keepIn K (.ref fc) = true)
    (bc : Binds K fdc ["value"] []) (S : NdefX.NScope ["self", f, g, "__class__"] ["self", f, g] ["__class__"] F.scope)
    (hB : F.body = .Expr (.Call (.Attribute (.Call (.Name "super" p0) [] [] p1) "__init__" p2) [.Constant (.str msg) kd p3] [] p4) p5 ::
      [.Assign [.Attribute (.Name "self" q0) f q1] (.Call (.Name "own_copy" q2) [.Name f q3] [] q4) q5, .Assign [.Attribute (.Name "self" z0) g z1] (.Call (.Name "own_copy" z2) [.Name g z3] [] z4) z5])
    (hsg : F.scope.names.lookup ("super" : Str) = some .globalImplicit) (hog : F.scope.names.lookup ("own_copy" : Str) = some .globalImplicit) (free : PySem.W.findIn K (.ref C) f = some none) (freeg : PySem.W.findIn K (.ref C) g = some none)
    (hb : ∀ (kV doc pm ct : Value) (an : Option Addr) (us : List Value), us.length = 3 → bindArgs (PySem.W.fnX F.name F.qual F.params F.body F.scope F.cl .none kV doc pm an (.ref F.c) ct) ⟨us, []⟩ = pure ((["self", f, g] : List Str).zip us))
    {pl : Sem Bool} (he : ∀ env : Env, eval (.Call (.Attribute (.Call (.Name "super" p0) [] [] p1) "__init__" p2) [.Constant (.str msg) kd p3] [] p4) env = (do
      let ov ← attributeBase (.Call (.Name "super" p0) [] [] p1) "__init__" env (eval (.Call (.Name "super" p0) [] [] p1) env)
      standAt p2.atName
      let (f, first) ← holding [ov] (getMethod ov "__init__" pl)
      callWith p4 f first (backTo p4 (starEach [.Constant (.str msg) kd p3] env)) []))
    (fd : (f == ("__debug__" : Str)) = false) (fcd : (f == ("__classdict__" : Str)) = false) (gd : (g == ("__debug__" : Str)) = false) (gcd : (g == ("__classdict__" : Str)) = false) : ErrOk P w K mg base (n + 2) C fI (spErr2 K n C f g) := by
  refine ⟨fun A outer s H us vs x Q hr e0 r ex hsp => ?_⟩
  obtain ⟨x', v, u, d, e, evs, _, hv, hd, hu, hde, k⟩ := hsp
  obtain ⟨rfl, rfl⟩ : x = x' ∧ vs = [v, u] := by
    have z := List.cons.inj evs
    exact ⟨V.ref.inj z.1, z.2⟩
  have lu : us.length = 3 := by rw [← r.length]; rfl
  refine init_run (k := n + 1) (rest := [.Assign [.Attribute (.Name "self" q0) f q1] (.Call (.Name "own_copy" q2) [.Name f q3] [] q4) q5, .Assign [.Attribute (.Name "self" z0) g z1] (.Call (.Name "own_copy" z2) [.Name g z3] [] z4) z5]) (x := x) T J ms S hB hsg (S.par _ (by simp)) hr e0
    (fun kV doc pm ct an => BindsTo.of_eq (hb kV doc pm ct an us lu)) r rfl rfl rfl ex he fun hr' => ?_
  refine ⟨_, pss_cons (ps_errSet (pe_var (i := 0) rfl (.inl (S.par _ (by simp)))) (pe_call G hr' hog mc kc bc .nil pass0 (pa_cons (pe_var (i := 1) rfl (.inl (S.par _ (by simp))) fd fcd) pa_nil)) ?sw)
    (pss_one (ps_errSet (pe_var (i := 0) rfl (.inl (S.par _ (by simp)))) (pe_call G hr' hog mc kc bc .nil pass0 (pa_cons (pe_var (i := 2) rfl (.inl (S.par _ (by simp))) gd gcd) pa_nil)) ?sv)), ?_⟩
  case sw => rfl
  case sv => rfl
  refine r_seq ?_
  refine r_errSet ?_
  refine r_call ?_
  refine r_cons ?_
  refine r_var rfl ?_
  refine r_nil ?_
  refine ⟨v, d, rfl, hv, hd, fun v' H1 s1 o1 => ?_⟩
  refine r_var rfl ?_
  refine ⟨x, C, rfl, T, free, .inl ⟨s1 _ _ ex, fun dx hdx ne => ?_⟩⟩
  have o2 := o1.stored (o := exd dx [(f, v')]) (u := exo x C (some dx)) (by rw [ex]; exact Option.some_ne_none _) hdx
  have sd : SameD H (upd (upd H1 dx (exd dx [(f, v')])) x (exo x C (some dx))) := (SameD.of s1).trans (sameD_err (s1 _ _ ex) hdx)
  show tErrSet K g (tVar 0) (tCall (spCopy K n) [] E0 (tCons (tVar 2) tNil)) { nx := fun _ H2 => Q .non H2, rt := Q } _ _
  refine r_errSet ?_
  refine r_call ?_
  refine r_cons ?_
  refine r_var rfl ?_
  refine r_nil ?_
  refine ⟨u, e, rfl, Dp.laterD sd hu, hde, fun u' H2 s2 o3 => ?_⟩
  refine r_var rfl ?_
  have ed2 : H2 dx = some (exd dx [(f, v')]) := s2 _ _ (by rw [upd_ne ne, upd_same])
  refine ⟨x, C, rfl, T, freeg, .inr ⟨dx, [(f, v')], s2 _ _ upd_same, ed2, by show 1 ≤ 900; decide, ?_⟩⟩
  have hdx0 : H dx = none := s1.free hdx
  have kp : Keep x H H2 := (Keep.own (Keep.new (Keep.same s1) hdx)).trans (Keep.same s2)
  have ndx : ∀ {a : Addr} {z : HO}, (∃ xs, z = .lst xs ∨ z = .tup xs) → H2 a = some z → a ≠ dx := fun {a z} l h => at_ne ed2 h (exd_lt l)
  refine k dx v' u' _ (by rw [upd_ne (Ne.symm ne)]; exact s2 _ _ upd_same) upd_same hdx0 ne (fun b o nb hbo => ?_) ((o2.later s2).mono (fun _ n _ => n) fun a z n q l => by rw [upd_ne (ndx l q)]; exact q) ?_
  · rw [upd_ne (ne_of_none hbo hdx0)]
    exact kp b o nb hbo
  · refine o3.mono (fun a n _ => ?_) fun a z n q l => by rw [upd_ne (ndx l q)]; exact q
    have na : a ≠ x := fun z => by rw [z, upd_same] at n; cases n
    have nd : a ≠ dx := fun z => by rw [z, upd_ne ne, upd_same] at n; cases n
    rw [upd_ne na, upd_ne nd] at n
    exact s1.free n
/-- C(e) in the raiser's heap: a new dict with a copy -/
theorem r_err1 {σ : L2.St} {H : Hp} {Q : XK} {v : V} {d : PyData} (hv : Dp K H v d) (hd : Deep n d) (q : ∀ (dd : Addr) (v' : V) (H' : Hp), Same H H' → H dd = none → H' dd = some (.xd [(f, v')]) → Own H H' v' d → Q (.ref C) (some dd) H') :
    [v].length ≤ 1000 ∧ ∀ x, H x = none → spErr1 K n C f (.ref x :: [v]) (upd H x (exo x C none)) (fun v H2 => v = .non ∧ ∃ (d : Addr) (fs : List (Str × V)), H2 x = some (exo x C (some d)) ∧ H2 d = some (exd d fs) ∧ H d = none ∧ Q (.ref C) (some d) (upd (del H2 x) d (.xd fs))) (fun _ _ _ => False) := by
  refine ⟨by show 1 ≤ 1000; decide, fun x hx => ?_⟩
  have s0 : Same H (upd H x (exo x C none)) := Same.up (Same.refl H) hx
  refine ⟨x, v, d, rfl, upd_same, Dp.later s0 hv, hd, fun dx v' H' h1 h2 h3 ne h4 h5 => ⟨rfl, dx, _, h1, h2, ?_, ?_⟩⟩
  · rw [upd_ne ne] at h3; exact h3
  · rw [upd_ne ne] at h3
    refine q dx v' _ (fun b o e => ?_) h3 upd_same (h5.mono (fun a n _ => s0.free n) fun a z n e l => ?_)
    · have nb : b ≠ x := ne_of_none e hx
      rw [upd_ne (ne_of_none e h3), del_ne nb]
      exact h4 b o nb (s0 b o e)
    · have na : a ≠ x := fun z => by rw [z, upd_same] at n; cases n
      rw [upd_ne (at_ne h2 e (exd_lt l)), del_ne na]
      exact e
theorem r_err2 {σ : L2.St} {H : Hp} {Q : XK} {v u : V} {d e : PyData} (hv : Dp K H v d) (hd : Deep n d) (hu : Dp K H u e) (he : Deep n e)
    (q : ∀ (dd : Addr) (v' u' : V) (H' : Hp), Same H H' → H dd = none → H' dd = some (.xd [(g, u'), (f, v')]) → Own H H' v' d → Own H H' u' e → Q (.ref C) (some dd) H') :
    [v, u].length ≤ 1000 ∧ ∀ x, H x = none → spErr2 K n C f g (.ref x :: [v, u]) (upd H x (exo x C none)) (fun v H2 => v = .non ∧ ∃ (d : Addr) (fs : List (Str × V)), H2 x = some (exo x C (some d)) ∧ H2 d = some (exd d fs) ∧ H d = none ∧ Q (.ref C) (some d) (upd (del H2 x) d (.xd fs))) (fun _ _ _ => False) := by
  refine ⟨by show 2 ≤ 1000; decide, fun x hx => ?_⟩
  have s0 : Same H (upd H x (exo x C none)) := Same.up (Same.refl H) hx
  refine ⟨x, v, u, d, e, rfl, upd_same, Dp.later s0 hv, hd, Dp.later s0 hu, he, fun dx v' u' H' h1 h2 h3 ne h4 h5 h6 => ⟨rfl, dx, _, h1, h2, ?_, ?_⟩⟩
  · rw [upd_ne ne] at h3; exact h3
  · rw [upd_ne ne] at h3
    have keep : ∀ a z, upd H x (exo x C none) a = none → H' a = some z → (∃ xs, z = .lst xs ∨ z = .tup xs) → upd (del H' x) dx (.xd [(g, u'), (f, v')]) a = some z := fun a z n e l => by
      have na : a ≠ x := fun z => by rw [z, upd_same] at n; cases n
      rw [upd_ne (at_ne h2 e (exd_lt l)), del_ne na]
      exact e
    refine q dx v' u' _ (fun b o e => ?_) h3 upd_same (h5.mono (fun a n _ => s0.free n) keep) (h6.mono (fun a n _ => s0.free n) keep)
    have nb : b ≠ x := ne_of_none e hx
    rw [upd_ne (ne_of_none e h3), del_ne nb]
    exact h4 b o nb (s0 b o e)
end
end Pk
set_option Elab.async false
set_option linter.all false
set_option maxRecDepth 100000
set_option maxHeartbeats 1000000
namespace Pk
open PySem L2 PySem.Spec PyProof.Rows
/-- a def x of the text, at f, with its promise -/
structure Df1 (P : Program) (w : World) (K : PySem.W.Frag) (mg : Str → Option Value) (base : Heap) (CX : CXT) (x : Str) (k : Nat) (ps : List Str) (sp : Sp) (f : Addr) (fd : FuncData) : Prop where
  at_ : mg x = some (.ref f)
  kp : PySem.W.keepIn K (.ref f) = true
  bd : Binds K fd ps []
  ok : FnOk P w K mg base CX k f fd ps sp
/-- an error class x of the text, at C, with the promise of its __init__ -/
structure De1 (P : Program) (w : World) (K : PySem.W.Frag) (mg : Str → Option Value) (base : Heap) (x : Str) (k : Nat) (sp : Sp) (C fI : Addr) : Prop where
  at_ : mg x = some (.ref C)
  cls : ErrC K C
  ini : PySem.W.findIn K (.ref C) "__init__" = some (some (.ref fI))
  fn : PySem.W.typeIn K (.ref fI) = some (.type "function")
  ok : ErrOk P w K mg base k C fI sp
  xf : XfC K C
  xm : PySem.W.exmOne K (.ref C) (.ref C) = some true
abbrev Df (P : Program) (w : World) (K : PySem.W.Frag) (mg : Str → Option Value) (base : Heap) (CX : CXT) (x : Str) (k : Nat) (ps : List Str) (sp : Sp) : Prop := ∃ f fd, Df1 P w K mg base CX x k ps sp f fd
abbrev De (P : Program) (w : World) (K : PySem.W.Frag) (mg : Str → Option Value) (base : Heap) (x : Str) (k : Nat) (sp : Sp) (C : Addr) : Prop := ∃ fI, De1 P w K mg base x k sp C fI
section
variable {X : Cx} {CX : CXT} {x : Str} {k j : Nat} {ps : List Str} {sp : Sp} {e : Expr} {es : List Expr} {t : TA} {p pos : Pos} {W : WX} {C : Addr}
/-- a call of what raises nothing -/
theorem pe_df (D : Df X.prog X.w X.K X.mg X.base CX0 x k ps sp) (hr : Room j X.A) (l : k ≤ j) (ha : PA X (e :: es) t) (hg : Gl X x := by rfl) (hdb : (x == ("__debug__" : Str)) = false := by decide)
    (he : starEach (e :: es) X.env = (false, eval e X.env) :: starEach es X.env := by rfl) (hpl : (backTo pos (starEach es X.env)).any (·.1) = false := by rfl) : PE X (.Call (.Name x p) (e :: es) [] pos) (tCall sp [] E0 t) :=
  let ⟨_, _, D⟩ := D; pe_call D.ok (hr.mono l) hg D.at_ D.kp D.bd .nil pass0 ha hdb he hpl
/-- .. of what may raise, and does not here -/
theorem pe_dfL (D : Df X.prog X.w X.K X.mg X.base (L2.CX X.prog X.w) x k ps sp) (hr : Room j X.A) (l : k ≤ j) (ha : PA X (e :: es) t) (hg : Gl X x := by rfl) (hdb : (x == ("__debug__" : Str)) = false := by decide)
    (he : starEach (e :: es) X.env = (false, eval e X.env) :: starEach es X.env := by rfl) (hpl : (backTo pos (starEach es X.env)).any (·.1) = false := by rfl) : PE X (.Call (.Name x p) (e :: es) [] pos) (tCall sp [] E0 t) :=
  let ⟨_, _, D⟩ := D; pe_call D.ok (hr.mono l) hg D.at_ D.kp D.bd .nil passL ha hdb he hpl
/-- .. where what is raised is taken: within a try, or by a def that lets it out -/
theorem pe_dfS (tk : Takes X W) (D : Df X.prog X.w X.K X.mg X.base (L2.CX X.prog X.w) x k ps sp) (hr : Room j X.A) (l : k ≤ j) (ha : PA X (e :: es) t) (hg : Gl X x := by rfl) (hdb : (x == ("__debug__" : Str)) = false := by decide)
    (he : starEach (e :: es) X.env = (false, eval e X.env) :: starEach es X.env := by rfl) (hpl : (backTo pos (starEach es X.env)).any (·.1) = false := by rfl) : PE X (.Call (.Name x p) (e :: es) [] pos) (tCallS sp (WE W) t) :=
  let ⟨_, _, D⟩ := D; pe_callS D.ok (hr.mono l) hg D.at_ D.kp D.bd (fun σ => passAt tk σ) ha hdb he hpl
/-- raise x(e, ..) -/
theorem ps_rse {spos : Pos} (hc : X.calm = true) (tk : Takes X W) (D : De X.prog X.w X.K X.mg X.base x k sp C) (hr : Room j X.A) (l : k + 1 ≤ j) (ha : PA X (e :: es) t) (hg : Gl X x := by rfl) (hdb : (x == ("__debug__" : Str)) = false := by decide)
    (he : starEach (e :: es) X.env = (false, eval e X.env) :: starEach es X.env := by rfl) (hpl : (backTo pos (starEach es X.env)).any (·.1) = false := by rfl) :
    PS X (.Raise (some (.Call (.Name x p) (e :: es) [] pos)) none spos) (fun _ σ H => tMkErr C sp t σ H fun cls d H' => W cls d σ H') := let ⟨_, D⟩ := D; ps_raise hc tk (pmk_err D.cls D.ini D.fn D.ok (hr.mono l) hg D.at_ ha hdb he hpl)
end
section
variable {σ : L2.St} {H : Hp} {Q : VK} {ta tk : TA} {sp : Sp} {E : L2.St → XK} {D : Ends}
theorem r_callS (h : ta σ H fun vs H1 => sp vs H1 Q (E σ)) : tCallS sp E ta σ H Q := h
theorem r_callN {n m : Nat} {gV : List V → List V → List V} {E : XK} (h : ta σ H fun vs H1 => tk σ H1 fun zs H2 => vs.length = n ∧ zs.length = m ∧ sp (gV vs zs) H2 Q E) : tCallN n m sp gV E ta tk σ H Q := h
theorem r_mkErr {C : Addr} {R : XK} (h : ta σ H fun vs H1 => vs.length ≤ 1000 ∧ ∀ x, H1 x = none →
  sp (.ref x :: vs) (upd H1 x (exo x C none)) (fun v H2 => v = .non ∧ ∃ (d : Addr) (fs : List (Str × V)), H2 x = some (exo x C (some d)) ∧ H2 d = some (exd d fs) ∧ H1 d = none ∧ R (.ref C) (some d) (upd (del H2 x) d (.xd fs))) (fun _ _ _ => False)) : tMkErr C sp ta σ H R := h
theorem r_xf {a : Addr} {C dd : Addr} {f : Str} {te : TE} {fs : List (Str × V)} {v : V} (h : te σ H fun x H1 => x = .ref a ∧ Value.ref C = .ref C ∧ ∃ (d2 : Addr) (fs : List (Str × V)) (v : V), some dd = some d2 ∧ H1 d2 = some (.xd fs) ∧ fs.lookup f = some v ∧ Q v H1) : tXf a (.ref C) (some dd) C f te σ H Q := h
end
/-- f(e, .., k = v, ..) where what is raised is wished for at the caller's slots -/
def tKwS (n m : Nat) (sp : Sp) (gV : List V → List V → List V) (E : L2.St → XK) (t tk : TA) : TE := fun σ H Q => t σ H fun vs H1 => tk σ H1 fun zs H2 => vs.length = n ∧ zs.length = m ∧ sp (gV vs zs) H2 Q (E σ)
theorem r_kwS {σ : L2.St} {H : Hp} {Q : VK} {ta tk : TA} {sp : Sp} {n m : Nat} {gV : List V → List V → List V} {E : L2.St → XK} (h : ta σ H fun vs H1 => tk σ H1 fun zs H2 => vs.length = n ∧ zs.length = m ∧ sp (gV vs zs) H2 Q (E σ)) : tKwS n m sp gV E ta tk σ H Q := h
theorem pe_kwS {X : Cx} {CX : CXT} {k n : Nat} {f : Addr} {fd : FuncData} {ps ks : List Str} {sp : Sp} {E : L2.St → XK} {x : Str} {p pos : Pos} {e : Expr} {es : List Expr} {kws : List Keyword} {t tk : TA} {g : List Value → List Value → List Value} {gV : List V → List V → List V}
    (F : FnOk X.prog X.w X.K X.mg X.base CX k f fd ps sp) (hr : Room k X.A) (hm : X.mg x = some (.ref f)) (hk : PySem.W.keepIn X.K (.ref f) = true) (hb : KBn X.K fd ps n ks g gV) (hx : ∀ σ, PassesAt CX X σ (E σ)) (ha : PA X (e :: es) t) (hkw : PK X kws tk) (hg : Gl X x := by rfl)
    (hall : (backToKw pos (keywordEach kws X.env)).all (·.1.isSome) = true := by rfl) (hks : (backToKw pos (keywordEach kws X.env)).filterMap (·.1) = ks := by rfl) (hdb : (x == ("__debug__" : Str)) = false := by decide)
    (he : starEach (e :: es) X.env = (false, eval e X.env) :: starEach es X.env := by rfl) (hpl : ((backTo pos (starEach (e :: es) X.env)).any (·.1) || (backToKw pos (keywordEach kws X.env)).any (·.1.isNone)) = false := by rfl) :
    PE X (.Call (.Name x p) (e :: es) kws pos) (tKwS n ks.length sp gV E t tk) := by
  refine ⟨fun pins s σ H Q I h => wpAny_Call_Name_kw (ld_glob I hg hm (PySem.W.callWith_KW (h₀ := X.base) I.ok.mod.kin hk hall (thn (ha.run pos pins s σ H _ I h) fun us s1 ⟨vs, H1, I1, r, q⟩ => thn (hkw.run pos pins s1 σ H1 _ I1 q) fun ws s2 ⟨zs, H2, I2, rz, l1, l2, q2⟩ => ⟨I2.kIn, ?_⟩) hpl he) hdb)⟩
  rw [hks]
  refine wpAny_call (codeAny_mono (F.run X.A X.stack s2 H2 ⟨us, ks.zip ws⟩ (g us ws) (gV vs zs) Q (E σ) hr I2.env0 (hb.to s2 us ws I2.kIn (r.length.symm.trans l1) (rz.length.symm.trans l2)) (hb.rel r rz) q2) fun r s' hq => ?_)
  cases r with
  | error er => exact hx σ pins H2 s2 er s' I2 hq
  | ok fl =>
    cases fl with
    | ret u => exact I2.after hq
    | next => exact False.elim hq
    | brk => exact False.elim hq
    | cont => exact False.elim hq
/-- an own class x of the text, made by its __init__ -/
structure Dk1 (P : Program) (w : World) (K : PySem.W.Frag) (mg : Str → Option Value) (base : Heap) (CX : CXT) (x : Str) (k : Nat) (ps : List Str) (sp : Sp) (C fI : Addr) (fd : FuncData) : Prop where
  at_ : mg x = some (.ref C)
  mkc : Mk K C fI
  bd : Binds K fd ps []
  ok : FnOk P w K mg base CX k fI fd ps sp
abbrev Dk (P : Program) (w : World) (K : PySem.W.Frag) (mg : Str → Option Value) (base : Heap) (CX : CXT) (x : Str) (k : Nat) (ps : List Str) (sp : Sp) (C : Addr) : Prop := ∃ fI fd, Dk1 P w K mg base CX x k ps sp C fI fd
theorem pe_dkL {X : Cx} {x : Str} {k j : Nat} {ps : List Str} {sp : Sp} {e : Expr} {es : List Expr} {t : TA} {p pos : Pos} {C : Addr} (D : Dk X.prog X.w X.K X.mg X.base (L2.CX X.prog X.w) x k ps sp C) (hr : Room j X.A) (l : k + 1 ≤ j) (ha : PA X (e :: es) t) (hg : Gl X x := by rfl)
    (hdb : (x == ("__debug__" : Str)) = false := by decide) (he : starEach (e :: es) X.env = (false, eval e X.env) :: starEach es X.env := by rfl) (hpl : (backTo pos (starEach es X.env)).any (·.1) = false := by rfl) : PE X (.Call (.Name x p) (e :: es) [] pos) (tMake C sp [] E0 t) :=
  let ⟨_, _, D⟩ := D; pe_make D.mkc D.ok (hr.mono l) hg D.at_ D.bd .nil passL ha hdb he hpl
theorem look1 (f : Str) (v : V) : List.lookup f [(f, v)] = some v := by simp [List.lookup]
theorem look2 (f g : Str) (v u : V) (h : (f == g) = false) : List.lookup f [(g, u), (f, v)] = some v := by simp [List.lookup, h]
theorem look2' (f g : Str) (v u : V) : List.lookup g [(g, u), (f, v)] = some u := by simp [List.lookup]
/-- built-ins that the text does not name anew -/
structure Bt (mg : Str → Option Value) : Prop where
  int : mg "int" = none
  str : mg "str" = none
  bool : mg "bool" = none
  list : mg "list" = none
  tuple : mg "tuple" = none
  dict : mg "dict" = none
  len : mg "len" = none
  range : mg "range" = none
  isinstance : mg "isinstance" = none
  sum : mg "sum" = none
  max : mg "max" = none
  min : mg "min" = none
  sorted : mg "sorted" = none
  set : mg "set" = none
  super : mg "super" = none
  enumerate : mg "enumerate" = none
  zip : mg "zip" = none
  abs : mg "abs" = none
end Pk
set_option Elab.async false
set_option linter.all false
set_option maxRecDepth 100000
set_option maxHeartbeats 1000000
namespace Pk
open PySem L2 PySem.Spec PyProof.Rows PySem.W
/-- what the top holds of a def x -/
def DefAt (K : PySem.W.Frag) (x : Str) (st : Stmt) : Prop := ∃ (f : Addr) (oc : Value) (od : Option Addr) (kV dc pm : Value) (an : Option Addr) (cd ct : Value) (sl : Array (Option Value)),
  PySem.W.nsIn K mainGlobals x = some (some (.ref f)) ∧ K.lookup f = some ⟨oc, od, .func (PySem.W.fnOf x x (defArgs st) (defBody st) (defScope st) .none kV dc pm an cd ct), sl⟩ ∧ PySem.W.codeIn K cd x = true ∧ PySem.W.keepIn K (.ref f) = true
theorem DefAt.fn {K : PySem.W.Frag} {h : Heap} {mg : Str → Option Value} {x : Str} {st : Stmt} (X : K.In h) (G : h.Ns mainGlobals mg) (d : DefAt K x st) : ∃ f fd, Fun K x x st f fd ∧ mg x = some (.ref f) := by
  obtain ⟨f, oc, od, kV, dc, pm, an, cd, ct, sl, a, l, c, k⟩ := d
  exact ⟨f, _, fun_mk (st := st) l c k, PySem.W.mg_of X G a⟩
/-- .. of a method x of the class at C -/
def MethAt (K : PySem.W.Frag) (C : Addr) (x q : Str) (st : Stmt) : Prop := ∃ (f : Addr) (oc : Value) (od : Option Addr) (kV dc pm : Value) (an : Option Addr) (cd ct : Value) (sl : Array (Option Value)),
  PySem.W.findIn K (.ref C) x = some (some (.ref f)) ∧ K.lookup f = some ⟨oc, od, .func (PySem.W.fnOf x q (defArgs st) (defBody st) (defScope st) .none kV dc pm an cd ct), sl⟩ ∧ PySem.W.codeIn K cd q = true ∧ PySem.W.keepIn K (.ref f) = true ∧ PySem.W.isFn K (.ref f) = true
theorem MethAt.fn {K : PySem.W.Frag} {C : Addr} {x q : Str} {st : Stmt} (d : MethAt K C x q st) : ∃ f fd, Fun K x q st f fd ∧ Meth K C x f := by
  obtain ⟨f, oc, od, kV, dc, pm, an, cd, ct, sl, a, l, c, k, i⟩ := d
  exact ⟨f, _, fun_mk (st := st) l c k, ⟨a, i, k⟩⟩
/-- .. of a def x with one keyword-only default, a text -/
def DefAtK (K : PySem.W.Frag) (x k : Str) (z : Str) (st : Stmt) : Prop := ∃ (f D : Addr) (oc : Value) (od : Option Addr) (dc pm : Value) (an : Option Addr) (cd ct : Value) (sl : Array (Option Value)) (t : Tok),
  PySem.W.nsIn K mainGlobals x = some (some (.ref f)) ∧ K.lookup f = some ⟨oc, od, .func (PySem.W.fnOf x x (defArgs st) (defBody st) (defScope st) .none (.ref D) dc pm an cd ct), sl⟩ ∧ PySem.W.codeIn K cd x = true ∧ PySem.W.keepIn K (.ref f) = true ∧ PySem.W.nsIn K D k = some (some (.str z t))
theorem DefAtK.fn {K : PySem.W.Frag} {h : Heap} {mg : Str → Option Value} {x k z : Str} {st : Stmt} (X : K.In h) (G : h.Ns mainGlobals mg) (d : DefAtK K x k z st) : ∃ f fd, FunD K x x (defArgs st) (defBody st) (defScope st) [] [(k, .str z)] f fd ∧ mg x = some (.ref f) := by
  obtain ⟨f, D, oc, od, dc, pm, an, cd, ct, sl, t, a, l, c, kp, n⟩ := d
  refine ⟨f, _, ⟨⟨oc, od, .none, .ref D, dc, pm, an, cd, ct, sl, rfl, l, c, .inl ⟨rfl, rfl⟩, .inr ⟨D, rfl, fun q hq => ?_⟩⟩, kp⟩, PySem.W.mg_of X G a⟩
  rw [List.mem_singleton.mp hq]
  exact ⟨_, n, t, rfl⟩
/-- what the top holds of an error class x with an __init__ of its own (st) -/
structure ErrAt1 (P : Program) (K : PySem.W.Frag) (x q : Str) (st : Stmt) (C fI cc c : Addr) : Prop where
  at_ : PySem.W.nsIn K mainGlobals x = some (some (.ref C))
  cls : ∃ pe nm qn N bs sn sub ab col dd k0 k1 k2 k3 k5, K.lookup C = some (excClassObj nm qn C N bs (.ref pe :: arT) true sn sub ab col dd k0 k1 k2 k3 k5 "ArithmeticError.__new__")
  sa : PySem.W.findIn K (.ref C) "__setattr__" = some (some (.builtin "object.__setattr__"))
  exB : PySem.W.subIn K (.ref C) (.type "BaseException") = some true
  exA : PySem.W.subIn K (.ref C) (.type "ArithmeticError") = some true
  ty : PySem.W.typeIn K (.ref C) = some (.type "type")
  kp : PySem.W.keepIn K (.ref C) = true
  ini : PySem.W.findIn K (.ref C) "__init__" = some (some (.ref fI))
  fnt : PySem.W.typeIn K (.ref fI) = some (.type "function")
  fn : ∃ (oc : Value) (od : Option Addr) (kV doc pm : Value) (an : Option Addr) (ct : Value) (osl : Array (Option Value)), K.lookup fI = some ⟨oc, od, .func (PySem.W.fnX "__init__" q (defArgs st) (defBody st) (defScope st) [(("__class__" : Str), cc)] .none kV doc pm an (.ref c) ct), osl⟩
  code : PySem.W.codeIn K (.ref c) q = true
  cell : ∃ (a : Value) (b : Option Addr) (d : Array (Option Value)), K.lookup cc = some ⟨a, b, .cell (some (.ref C)), d⟩
  file : ∃ (a : Value) (b : Option Addr) (vs : Array Value) (d : Array (Option Value)) (f : Str) (t : Tok), K.lookup c = some ⟨a, b, .fields vs, d⟩ ∧ vs[2]? = some (.str f t) ∧ ((P.main.file : Str) == f) = true
  opq : PySem.W.nsIn K cStatics "thirdparty.any" = some none
  sup : PySem.W.ks_superIn K C C "__init__" = some (some (.builtin "ArithmeticError.__init__"))
  below : PySem.W.mroIn K C (.ref C) = some true
  ga : PySem.W.findIn K (.ref C) "__getattribute__" = some (some (.builtin "BaseException.__getattribute__"))
  gg : PySem.W.findIn K (.ref C) "__getattr__" = some none
  hd : PySem.W.hasDictIn K C = true
  isC : PySem.W.isClsIn K C = true
  own : PySem.W.subIn K (.ref C) (.ref C) = some true
theorem err_self {K : PySem.W.Frag} {S : Addr} (h1 : PySem.W.subIn K (.ref S) (.type "BaseException") = some true) (h2 : PySem.W.isClsIn K S = true) (h3 : PySem.W.typeIn K (.ref S) = some (.type "type")) (h4 : PySem.W.subIn K (.ref S) (.ref S) = some true) : PySem.W.exmOne K (.ref S) (.ref S) = some true := by
  have h5 : (PySem.W.clsIn K S).isSome = true := h2
  unfold PySem.W.exmOne PySem.W.kitCls
  simp only [h1, h3, h4, h5]
  rfl
section
variable {P : Program} {w : World} {K : PySem.W.Frag} {h : Heap} {mg : Str → Option Value} {base : Heap} {x q : Str} {st : Stmt} {C fI cc c : Addr}
theorem ErrAt1.errC (e : ErrAt1 P K x q st C fI cc c) : ErrC K C := ⟨e.cls, e.sa, e.exB, e.exA, e.ty, e.kp⟩
theorem ErrAt1.init (e : ErrAt1 P K x q st C fI cc c) (top : (P.main.scope.names.lookup ("super" : Str)).isSome = false) (self : ∃ q, ((defArgs st).posonlyargs ++ (defArgs st).args).head? = some { arg := "self", annotation := none, pos := q }) :
    InitFn P K C fI cc { name := "__init__", qual := q, params := defArgs st, body := defBody st, scope := defScope st, cl := [(("__class__" : Str), cc)], c := c } :=
  ⟨e.fn, e.code, rfl, e.cell, e.file, top, e.opq, self, e.sup, e.below⟩
theorem ErrAt1.de {k : Nat} {sp : Sp} (e : ErrAt1 P K x q st C fI cc c) (X : K.In h) (G : h.Ns mainGlobals mg) (o : ErrOk P w K mg base k C fI sp) : De P w K mg base x k sp C :=
  ⟨fI, PySem.W.mg_of X G e.at_, e.errC, e.ini, e.fnt, o, ⟨e.ga, e.gg, e.exB, e.hd⟩, err_self e.exB e.isC e.ty e.own⟩
end
def BtIn (K : PySem.W.Frag) : Prop := ∀ x, x ∈ (["int", "str", "bool", "list", "tuple", "dict", "len", "range", "isinstance", "sum", "max", "min", "sorted", "set", "super", "enumerate", "zip", "abs"] : List Str) → PySem.W.nsIn K mainGlobals x = some none
theorem BtIn.bt {K : PySem.W.Frag} {h : Heap} {mg : Str → Option Value} (X : K.In h) (G : h.Ns mainGlobals mg) (b : BtIn K) : Bt mg := by
  have g : ∀ x, x ∈ (["int", "str", "bool", "list", "tuple", "dict", "len", "range", "isinstance", "sum", "max", "min", "sorted", "set", "super", "enumerate", "zip", "abs"] : List Str) → mg x = none := fun x hx => PySem.W.mg_none_of X G (b x hx)
  constructor <;> exact g _ (by decide)
theorem DefAt.of {K : PySem.W.Frag} {x : Str} {st : Stmt} {f : Addr} {oc : Value} {od : Option Addr} {kV dc pm : Value} {an : Option Addr} {cd ct : Value} {sl : Array (Option Value)} (a : PySem.W.nsIn K mainGlobals x = some (some (.ref f)))
    (l : K.lookup f = some ⟨oc, od, .func (PySem.W.fnOf x x (defArgs st) (defBody st) (defScope st) .none kV dc pm an cd ct), sl⟩) (c : PySem.W.codeIn K cd x = true) (k : PySem.W.keepIn K (.ref f) = true) : DefAt K x st := ⟨_, _, _, _, _, _, _, _, _, _, a, l, c, k⟩
theorem DefAtK.of {K : PySem.W.Frag} {x y z : Str} {st : Stmt} {f D : Addr} {oc : Value} {od : Option Addr} {dc pm : Value} {an : Option Addr} {cd ct : Value} {sl : Array (Option Value)} {t : Tok} (a : PySem.W.nsIn K mainGlobals x = some (some (.ref f)))
    (l : K.lookup f = some ⟨oc, od, .func (PySem.W.fnOf x x (defArgs st) (defBody st) (defScope st) .none (.ref D) dc pm an cd ct), sl⟩) (c : PySem.W.codeIn K cd x = true) (k : PySem.W.keepIn K (.ref f) = true) (n : PySem.W.nsIn K D y = some (some (.str z t))) : DefAtK K x y z st := ⟨_, _, _, _, _, _, _, _, _, _, _, a, l, c, k, n⟩
theorem MethAt.of {K : PySem.W.Frag} {C : Addr} {x q : Str} {st : Stmt} {f : Addr} {oc : Value} {od : Option Addr} {kV dc pm : Value} {an : Option Addr} {cd ct : Value} {sl : Array (Option Value)} (a : PySem.W.findIn K (.ref C) x = some (some (.ref f)))
    (l : K.lookup f = some ⟨oc, od, .func (PySem.W.fnOf x q (defArgs st) (defBody st) (defScope st) .none kV dc pm an cd ct), sl⟩) (c : PySem.W.codeIn K cd q = true) (k : PySem.W.keepIn K (.ref f) = true) (i : PySem.W.isFn K (.ref f) = true) : MethAt K C x q st := ⟨_, _, _, _, _, _, _, _, _, _, a, l, c, k, i⟩
theorem ErrAt1.of {P : Program} {K : PySem.W.Frag} {x q : Str} {st : Stmt} {C fI cc c pe : Addr} {nm qn : Str} {N : Addr} {bs sn sub ab col dd k0 k1 k2 k3 k5} {oc1 : Value} {od1 : Option Addr} {kV dc pm : Value} {an : Option Addr} {ct : Value} {sl1 sl2 sl3 : Array (Option Value)} {v2 v3 : Value} {o2 o3 : Option Addr} {vs : Array Value} {fl : Str} {t : Tok}
    (at_ : PySem.W.nsIn K mainGlobals x = some (some (.ref C))) (cls : K.lookup C = some (excClassObj nm qn C N bs (.ref pe :: arT) true sn sub ab col dd k0 k1 k2 k3 k5 "ArithmeticError.__new__"))
    (sa : PySem.W.findIn K (.ref C) "__setattr__" = some (some (.builtin "object.__setattr__"))) (exB : PySem.W.subIn K (.ref C) (.type "BaseException") = some true) (exA : PySem.W.subIn K (.ref C) (.type "ArithmeticError") = some true) (ty : PySem.W.typeIn K (.ref C) = some (.type "type")) (kp : PySem.W.keepIn K (.ref C) = true)
    (ini : PySem.W.findIn K (.ref C) "__init__" = some (some (.ref fI))) (fnt : PySem.W.typeIn K (.ref fI) = some (.type "function")) (fn : K.lookup fI = some ⟨oc1, od1, .func (PySem.W.fnX "__init__" q (defArgs st) (defBody st) (defScope st) [(("__class__" : Str), cc)] .none kV dc pm an (.ref c) ct), sl1⟩)
    (code : PySem.W.codeIn K (.ref c) q = true) (cell : K.lookup cc = some ⟨v2, o2, .cell (some (.ref C)), sl2⟩) (file : K.lookup c = some ⟨v3, o3, .fields vs, sl3⟩) (file2 : vs[2]? = some (.str fl t)) (file3 : ((P.main.file : Str) == fl) = true) (opq : PySem.W.nsIn K cStatics "thirdparty.any" = some none)
    (sup : PySem.W.ks_superIn K C C "__init__" = some (some (.builtin "ArithmeticError.__init__"))) (below : PySem.W.mroIn K C (.ref C) = some true) (ga : PySem.W.findIn K (.ref C) "__getattribute__" = some (some (.builtin "BaseException.__getattribute__"))) (gg : PySem.W.findIn K (.ref C) "__getattr__" = some none)
    (hd : PySem.W.hasDictIn K C = true) (isC : PySem.W.isClsIn K C = true) (own : PySem.W.subIn K (.ref C) (.ref C) = some true) : ErrAt1 P K x q st C fI cc c :=
  ⟨at_, ⟨_, _, _, _, _, _, _, _, _, _, _, _, _, _, _, cls⟩, sa, exB, exA, ty, kp, ini, fnt, ⟨_, _, _, _, _, _, _, _, fn⟩, code, ⟨_, _, _, cell⟩, ⟨_, _, _, _, _, _, file, file2, file3⟩, opq, sup, below, ga, gg, hd, isC, own⟩
end Pk
set_option Elab.async false
set_option linter.all false
set_option maxRecDepth 100000
set_option maxHeartbeats 1000000
namespace Pk
open PySem L2 PySem.Spec PyProof.Rows
/-! ### operators of an own class, by its own methods -/
section
variable {X : Cx} {CX : CXT} {pins : List (Addr × Obj)} {σ : L2.St} {H : Hp} {s : Shared} {k : Nat} {f C : Addr} {fd : FuncData} {ps : List Str} {sp : Sp} {E : L2.St → XK} {Q : VK} {us : List Value} {vs : List V} {A' : Around}
/-- the run of a method in a room around -/
theorem own_run (F : FnOk X.prog X.w X.K X.mg X.base CX k f fd ps sp) (hr : Room k A') (e0 : Env0 X.prog X.w X.K X.mg X.base A' X.stack s H) (hb : Binds X.K fd ps []) (hx : PassesAt CX X σ (E σ)) (I : Inv X pins σ H s) (r : Vals vs us) (h : sp vs H Q (E σ)) :
    wpAny (model X.prog X.w) A' (call (.ref f) us) (EP X pins σ Q) X.xe s := by
  have n : us.length = ps.length := r.length ▸ F.len _ _ _ _ h
  have b := hb s us I.kIn (by simpa using n)
  rw [List.append_nil] at b
  refine wpAny_call (codeAny_mono (F.run A' X.stack s H ⟨us, []⟩ us vs Q (E σ) hr e0 b r h) ?_)
  intro z s' hz
  rcases z with e | fl
  · exact hx pins H s e s' I hz
  · cases fl with
    | ret u => exact I.after hz
    | next => exact hz.elim
    | brk => exact hz.elim
    | cont => exact hz.elim
/-- the instance that stands at a -/
theorem own_at {a dx : Addr} {fs : List (Str × V)} (I : Inv X pins σ H s) (ha : H a = some (.ins C dx fs)) : ∃ ox od, PySem.W.InstAt s.heap a ox C (some od) := by
  obtain ⟨mA, J, _⟩ := ins_get I.hok ha
  obtain ⟨od, J, _⟩ := J.look
  exact ⟨_, od, J⟩
/-- e1 ⊕ e2, at the slots -/
def tOp2 (r : (L2.St → XK) → L2.St → V → V → Hp → VK → Prop) (E : L2.St → XK) (ta tb : TE) : TE := fun σ H Q => ta σ H fun x H1 => tb σ H1 fun y H2 => r E σ x y H2 Q
/-- the method's promise, of the instance x of C and y -/
def rOwn2 (C : Addr) (sp : Sp) : (L2.St → XK) → L2.St → V → V → Hp → VK → Prop := fun E σ x y H Q => ∃ a dx fs, x = .ref a ∧ H a = some (.ins C dx fs) ∧ sp [x, y] H Q (E σ)
/-- .. and the two are of the one class, or y is of a class that C is no base of -/
def OtherT (K : PySem.W.Frag) (C : Addr) (H : Hp) (y : V) : Prop := (∃ b dy gs, y = .ref b ∧ H b = some (.ins C dy gs)) ∨ (∃ T : String, TyX K H y (.type T) ∧ PySem.W.subIn K (.type T) (.ref C) = some false)
theorem ty_looks {y : V} {u t : Value} {M : Model} (I : Inv X pins σ H s) (ry : RelV y u) (ty : TyX X.K H y t) : PySem.W.Looks M s.heap (typeOf u) t := by
  obtain ⟨P, kx, hp, _⟩ := kit_of I ry ty
  exact kx.ty M s.heap I.kIn hp
theorem other_looks {y : V} {u : Value} {M : Model} (I : Inv X pins σ H s) (ry : RelV y u) (o : OtherT X.K C H y) (one : ∀ b dy gs, y = .ref b → H b = some (.ins C dy gs) → True) : ∃ tb, PySem.W.Looks M s.heap (typeOf u) tb ∧ PySem.W.notFirst X.K C tb = true := by
  rcases o with ⟨b, dy, gs, rfl, hb⟩ | ⟨T, ty, hs⟩
  · cases ry
    obtain ⟨ox, od, J⟩ := own_at I hb
    exact ⟨.ref C, J.type, by simp [PySem.W.notFirst]⟩
  · exact ⟨.type T, ty_looks I ry ty, by simp [PySem.W.notFirst, hs]⟩
/-- what an own method of two places must be -/
structure Two (X : Cx) (CX : CXT) (k : Nat) (C : Addr) (m : Str) (sp : Sp) : Prop where
  ex : ∃ (f : Addr) (fd : FuncData) (ps : List Str), Meth X.K C m f ∧ FnOk X.prog X.w X.K X.mg X.base CX k f fd ps sp ∧ Binds X.K fd ps []
/-- x == y, x < y, .. by the own method -/
def rOwnC (K : PySem.W.Frag) (C : Addr) (sp : Sp) : (L2.St → XK) → L2.St → V → V → Hp → VK → Prop := fun E σ x y H Q => ∃ a dx fs, x = .ref a ∧ H a = some (.ins C dx fs) ∧ OtherT K C H y ∧ sp [x, y] H Q (E σ)
theorem pe_cmpOwn {op : CmpOp} {a b : Expr} {ta tb : TE} {pos : Pos} (hop : ∀ a b, compareOp op a b = richCompare op a b) (F : Two X CX k C (cmpInfo op).2.1 sp) (hr : Room k X.A) (hx : ∀ σ, PassesAt CX X σ (E σ)) (ha : PE X a ta) (hb : PE X b tb) (hm : behindInMarks op b = false) :
    PE X (.Compare a [op] [b] pos) (tOp2 (rOwnC X.K C sp) E ta tb) := by
  obtain ⟨f, fd, ps, M, F, B⟩ := F.ex
  refine ⟨fun pins s σ H Q I h => ?_⟩
  refine wpAny_Compare1 (binT ha hb I h fun v u s2 x y H2 I2 rx ry q => ?_) hm
  obtain ⟨a, dx, fs, rfl, e, o, q⟩ := q
  cases rx
  obtain ⟨ox, od, J⟩ := own_at I2 e
  obtain ⟨tb, L, nf⟩ := other_looks (M := model X.prog X.w) I2 ry o fun _ _ _ _ _ => trivial
  obtain ⟨m, hF⟩ := I2.fr
  rw [hop]
  refine PySem.W.cmp_K (op := op) hr.units0 hF I2.ok.mod.kin J L nf M.at_ M.fn ?_
  refine wpAny_mono (own_run (us := [.ref a, u]) (vs := [.ref a, y]) F hr I2.env0 B (hx σ) I2 (.cons rfl (.cons ry .nil)) q) (fun w s' z => ?_) fun _ _ z => z
  obtain ⟨z, H3, I3, rz, qz⟩ := z
  exact SlX.cmpback rz ⟨z, H3, I3, rz, qz⟩
/-- y in x by the own __contains__ -/
def rOwnIn (C : Addr) (sp : Sp) (neg : Bool) : (L2.St → XK) → L2.St → V → V → Hp → VK → Prop := fun E σ y x H Q => ∃ a dx fs, x = .ref a ∧ H a = some (.ins C dx fs) ∧ sp [x, y] H (fun z H' => ∃ c, z = .bl c ∧ Q (.bl (if neg then !c else c)) H') (E σ)
theorem pe_inOwn {a b : Expr} {ta tb : TE} {pos : Pos} (F : Two X CX k C "__contains__" sp) (hr : Room k X.A) (hx : ∀ σ, PassesAt CX X σ (E σ)) (ha : PE X a ta) (hb : PE X b tb) (hm : behindInMarks .In b = false) :
    PE X (.Compare a [.In] [b] pos) (tOp2 (rOwnIn C sp false) E ta tb) := by
  obtain ⟨f, fd, ps, M, F, B⟩ := F.ex
  refine ⟨fun pins s σ H Q I h => ?_⟩
  refine wpAny_Compare1 (binT ha hb I h fun v u s2 y x H2 I2 ry rx q => ?_) hm
  obtain ⟨a, dx, fs, rfl, e, q⟩ := q
  cases rx
  obtain ⟨ox, od, J⟩ := own_at I2 e
  obtain ⟨m, hF⟩ := I2.fr
  refine PySem.W.in_K hF I2.ok.mod.kin J M.at_ M.fn ?_
  refine wpAny_mono (own_run (us := [.ref a, v]) (vs := [.ref a, y]) F hr I2.env0 B (hx σ) I2 (.cons rfl (.cons ry .nil)) q) (fun w s' z => ?_) fun _ _ z => z
  obtain ⟨z, H3, I3, rz, c, rfl, qz⟩ := z
  cases (show w = Value.bool c from rz)
  exact wpAny_pure ⟨.bl c, H3, I3, rfl, qz⟩
/-- len(x) by the own __len__ -/
def rOwnLen (C : Addr) (sp : Sp) : (L2.St → XK) → L2.St → List V → Hp → VK → Prop := fun E σ xs H Q => ∃ a dx fs, xs = [.ref a] ∧ H a = some (.ins C dx fs) ∧ sp xs H (fun z H' => ∃ n : Nat, z = .int n ∧ n < 2 ^ 63 ∧ Q (.int n) H') (E σ)
theorem call_lenOwn {D : XK} (F : Two X CX k C "__len__" sp) (hr : Room (k + 1) X.A) (hx : Passes CX X D) : CallR X (.builtin "len") (rOwnLen C sp (fun _ => D) []) := by
  obtain ⟨f, fd, ps, M, F, B⟩ := F.ex
  intro pins s σ H xs us Q I r q
  obtain ⟨a, dx, fs, rfl, e, q⟩ := q
  cases r with
  | cons r1 r2 =>
    cases r2
    cases r1
    obtain ⟨ox, od, J⟩ := own_at I e
    obtain ⟨m, hF⟩ := I.fr
    refine PySem.W.len_K hF I.ok.mod.kin J M.at_ M.fn ?_
    refine wpAny_mono (own_run (us := [.ref a]) (vs := [.ref a]) (E := fun _ => D) F hr.in1 I.env0.in1 B (fun pins H s e s' I z => hx pins σ H s e s' I z) I (.cons rfl .nil) q) (fun w s' z => ?_) fun _ _ z => z
    obtain ⟨z, H3, I3, rz, n, rfl, hn, qz⟩ := z
    obtain ⟨t, rfl⟩ := (show ∃ t, w = Value.int n t from rz)
    refine ⟨⟨by omega, by omega⟩, ?_⟩
    exact ⟨.int n, H3, I3.tok _, ⟨_, rfl⟩, qz⟩
/-- x[y] by the own __getitem__ -/
theorem pe_ixOwn {a b : Expr} {ta tb : TE} {pos : Pos} (F : Two X CX k C "__getitem__" sp) (fi : ∀ f, PySem.W.findIn X.K (.ref C) "__getitem__" = some (some (.ref f)) → PySem.W.fnIn X.K f = true) (hr : Room (k + 1) X.A) (hx : ∀ σ, PassesAt CX X σ (E σ)) (ha : PE X a ta) (hb : PE X b tb)
    (hs : ∀ x i, subscripted b true (.ref x) i = runValue (.builtin "lifetime.subscript" ⟨[.ref x, i], []⟩)) :
    PE X (.Subscript a b pos) (tOp2 (rOwn2 C sp) E ta tb) := by
  obtain ⟨f, fd, ps, M, F, B⟩ := F.ex
  refine ⟨fun pins s σ H Q I h => ?_⟩
  refine Subscript_ (binT ha hb I h fun v u s2 x y H2 I2 rx ry q => ?_)
  obtain ⟨c, dx, fs, rfl, e, q⟩ := q
  cases rx
  obtain ⟨ox, od, J⟩ := own_at I2 e
  obtain ⟨m, hF⟩ := I2.fr
  refine PySem.W.sub_K hF I2.ok.mod.kin J M.at_ (fi f M.at_) M.fn ?_ (hs _ _)
  exact own_run (us := [.ref c, u]) (vs := [.ref c, y]) F hr.in1 I2.env0.in1 B (hx σ) I2 (.cons rfl (.cons ry .nil)) q
end
section
open PySem.W PySem.Calls
variable {prog : Program} {w : World} {A : Around} {E : Value → Shared → Prop} {s : Shared} {K : Frag} {x f C : Addr} {ox : Obj} {od : Option Obj}
/-- x ⊕ b by the own method: b is of the one class, or of a built-in one -/
theorem bin_by_own {op : Operator} {b tb : Value} {Q : Value → Shared → Prop} (X : K.In s.heap) (I : InstAt s.heap x ox C od) (hb : Looks (model prog w) s.heap (typeOf b) tb) (hc : selfFirst K C = true)
    (hs : findIn K (.ref C) (PySem.dunder op.info.2) = some (some (.ref f))) (hf : isFn K (.ref f) = true) (hr : ∃ rc, findIn K (.ref C) (dunderR op.info.2) = some rc ∧ (rc = none ∨ ∃ g : Addr, rc = some (.ref g)))
    (ht : tb = .ref C ∨ ∃ (T : String) (fo ro : Option Value), tb = .type T ∧ findIn K (.type T) (PySem.dunder op.info.2) = some fo ∧ findIn K (.type T) (dunderR op.info.2) = some ro ∧ subIn K (.type T) (.ref C) = some false)
    (h : wpAny (model prog w) A (call (.ref f) [.ref x, b]) (PySem.W.CmpBack Q) E s) : wpAny (model prog w) A (binaryOp op (.ref x) b) Q E s := by
  obtain ⟨cd, rest, hcd, hm⟩ := ksp_first hc
  obtain ⟨rc, hr, hp⟩ := hr
  rcases hi : op.info with ⟨sym, nm'⟩
  rw [hi] at hs hr ht
  dsimp only at hs hr ht
  have one := ksp_try X I hs hf h
  obtain ⟨hh, g, d, tt, os⟩ := s
  have a1 : Looks (model prog w) hh (typeOf (.ref x)) (.ref C) := I.type
  have a2 : Looks (model prog w) hh (typeOf b) tb := hb
  have a3 : Looks (model prog w) hh (fillsNumberSlot (.ref C) nm') true := fills_K X hcd hm hs
  have a6 : Looks (model prog w) hh (numberSlotInPython (.ref C) nm') true := ksp_inPy X hs hr hp
  simp only [binaryOp, hi]
  refine wpAny_holding (wpAny_bind ?_)
  unfold binaryOp1
  refine wpAny_bind (a1.at (wpAny_bind (a2.at (wpAny_bind (a3.at ?_)))))
  rcases ht with rfl | ⟨T, fo, ro, rfl, h1, h2, hsub⟩
  · simp only [beq_self_eq_true, if_true]
    ksp_lk
    refine wpAny_mono one (fun r s' hr' => ?_) fun _ _ e => e
    obtain ⟨v, rfl, hq⟩ := hr'
    ksp_lk
    exact hq
  · have a4 := ksp_fillsT (M := model prog w) X h1 h2
    have a5 : Looks (model prog w) hh (isSubtype (.type T) (.ref C)) false := looks_subIn X hsub
    have a7 : Looks (model prog w) hh (numberSlotInPython (.type T) nm') false := Looks.of_pure rfl
    have a8 : Looks (model prog w) hh (typeLookup (.type T) (dunderR nm')) ro := looks_findIn X h2
    generalize ((fo.isSome && !isSeqSlot fo) || (ro.isSome && !isSeqSlot ro)) = right at a4
    have ne : (Value.ref C == Value.type T) = false := Bool.eq_false_iff.mpr fun q => by cases beq_iff_eq.mp q
    simp only [ne, Bool.false_eq_true, if_false]
    cases right with
    | false =>
      ksp_lk
      refine wpAny_mono one (fun r s' hr' => ?_) fun _ _ e => e
      obtain ⟨v, rfl, hq⟩ := hr'
      ksp_lk
      exact hq
    | true =>
      ksp_lk
      refine wpAny_mono one (fun r s' hr' => ?_) fun _ _ e => e
      obtain ⟨v, rfl, hq⟩ := hr'
      ksp_lk
      exact hq
end
section
variable {X : Cx} {CX : CXT} {k : Nat} {C : Addr} {sp : Sp} {E : L2.St → XK}
/-- what the other one may be in x ⊕ y -/
def OtherB (K : PySem.W.Frag) (C : Addr) (H : Hp) (nm : String) (y : V) : Prop := (∃ b dy gs, y = .ref b ∧ H b = some (.ins C dy gs)) ∨
  (∃ (T : String) (fo ro : Option Value), TyX K H y (.type T) ∧ PySem.W.findIn K (.type T) (PySem.dunder nm) = some fo ∧ PySem.W.findIn K (.type T) (dunderR nm) = some ro ∧ PySem.W.subIn K (.type T) (.ref C) = some false)
def rOwnB (K : PySem.W.Frag) (C : Addr) (nm : String) (sp : Sp) : (L2.St → XK) → L2.St → V → V → Hp → VK → Prop := fun E σ x y H Q => ∃ a dx fs, x = .ref a ∧ H a = some (.ins C dx fs) ∧ OtherB K C H nm y ∧ sp [x, y] H Q (E σ)
/-- x ⊕ y by the own method -/
theorem pe_binOwn {op : Operator} {a b : Expr} {ta tb : TE} {pos : Pos} (F : Two X CX k C (PySem.dunder op.info.2) sp) (hc : PySem.W.selfFirst X.K C = true) (hrc : ∃ rc, PySem.W.findIn X.K (.ref C) (dunderR op.info.2) = some rc ∧ (rc = none ∨ ∃ g : Addr, rc = some (.ref g)))
    (hr : Room k X.A) (hx : ∀ σ, PassesAt CX X σ (E σ)) (ha : PE X a ta) (hb : PE X b tb) : PE X (.BinOp a op b pos) (tOp2 (rOwnB X.K C op.info.2 sp) E ta tb) := by
  obtain ⟨f, fd, ps, M, F, B⟩ := F.ex
  refine ⟨fun pins s σ H Q I h => ?_⟩
  refine wpAny_BinOp (binT ha hb I h fun v u s2 x y H2 I2 rx ry q => ?_)
  obtain ⟨a, dx, fs, rfl, e, o, q⟩ := q
  cases rx
  obtain ⟨ox, od, J⟩ := own_at I2 e
  have run := wpAny_mono (own_run (us := [.ref a, u]) (vs := [.ref a, y]) F hr I2.env0 B (hx σ) I2 (.cons rfl (.cons ry .nil)) q) (Q' := PySem.W.CmpBack (EP X pins σ Q)) (fun w s' z => by
    obtain ⟨z, H3, I3, rz, qz⟩ := z
    exact SlX.cmpback rz ⟨z, H3, I3, rz, qz⟩) fun _ _ z => z
  rcases o with ⟨b, dy, gs, rfl, eb⟩ | ⟨T, fo, ro, ty, h1, h2, h3⟩
  · cases ry
    obtain ⟨oy, oe, J'⟩ := own_at I2 eb
    exact bin_by_own I2.kIn J J'.type hc M.at_ M.fn hrc (.inl rfl) run
  · exact bin_by_own I2.kIn J (ty_looks I2 ry ty) hc M.at_ M.fn hrc (.inr ⟨T, fo, ro, rfl, h1, h2, h3⟩) run
/-- what raises nothing here -/
theorem passN (hx : Passes CX X E0) : ∀ σ, PassesAt CX X σ ((fun _ => E0 : L2.St → XK) σ) := fun σ pins H s e s' I c => hx pins σ H s e s' I c
end
section
open PySem.W PySem.Calls
variable {prog : Program} {w : World} {A : Around} {E : Value → Shared → Prop} {s : Shared} {K : Frag} {x f C : Addr} {ox : Obj} {od : Option Obj} {b tb : Value}
/-- what object's != does where an own == stands -/
theorem ne_body (hu : A.units < cLine) (X : K.In s.heap) (I : InstAt s.heap x ox C od) (he : findIn K (.ref C) "__eq__" = some (some (.ref f))) (hf : isFn K (.ref f) = true) {Q : Fin → Shared → Prop}
    (h : wpAny (model prog w) A (call (.ref f) [.ref x, b]) (fun v s' => ∃ c, v = .bool c ∧ Q (.done (.ret (.bool (!c)))) s') E s) : wpAny (model prog w) A (Builtin.«object.__ne__» ⟨[.ref x, b], []⟩) Q E s := by
  unfold Builtin.«object.__ne__»
  repeat (first
    | with_reducible refine wpAny_cRoomFor hu ?_
    | (refine wpAny_bind (m := callSpecialIfBound? (.ref x) (Str.ofString "__eq__") [b]) (ifBound_K X I he hf (wpAny_mono h (fun r s' hr => by
          obtain ⟨c, rfl, hq⟩ := hr
          repeat (first | exact hq | exact wpAny_pure hq | exact wpAny_truthy_bool hq | (refine wpAny_bind (m := truthy (.bool _)) (wpAny_truthy_bool ?_)) | wp_step)) fun _ _ e => e)))
    | wp_step)
/-- x != b by the own == -/
theorem ne_by_eq (hu : A.in1.units < cLine) (hu0 : A.units < cLine) (X : K.In s.heap) (I : InstAt s.heap x ox C od) (hb : Looks (model prog w) s.heap (typeOf b) tb) (hn : notFirst K C tb = true) (hm : mroIn K C (.type "object") = some true)
    (hs : findIn K (.ref C) "__ne__" = some (some (.builtin "object.__ne__"))) (he : findIn K (.ref C) "__eq__" = some (some (.ref f))) (hf : isFn K (.ref f) = true) {Q : Value → Shared → Prop}
    (h : wpAny (model prog w) A.in1 (call (.ref f) [.ref x, b]) (fun v s' => ∃ c, v = .bool c ∧ Q (.bool (!c)) s') E s) : wpAny (model prog w) A (richCompare .NotEq (.ref x) b) Q E s := by
  have inner : ∀ {R : Value → Shared → Prop}, (∀ c s', Q (.bool c) s' → R (.bool c) s') → wpAny (model prog w) A (call (.builtin "object.__ne__") [.ref x, b]) R E s := fun {R} hR =>
    wpAny_call (codeAny_call_builtin F.cmp_object.ne.plain F.cmpEntry_ne (check_slot F.cmpKind_ne F.cmpSplit_ne (I.type.andThen (looks_mroIn X hm)) (F.cmpArgs_ne _ _)
      (ne_body hu X I he hf (wpAny_mono h (fun v s' z => by
        obtain ⟨c, e, q⟩ := z
        exact ⟨c, e, hR _ _ q⟩) fun _ _ e => e))))
  have one : wpAny (model prog w) A (tryCompare (.ref x) "__ne__" b) (fun r s' => ∃ v, r = some v ∧ Q v s') E s := by
    unfold tryCompare
    simp only [callSpecialIfBound?, bindSpecialIfBound?]
    refine wpAny_bind (wpAny_holding (wpAny_bind (wpAny_bind (wpAny_bind (I.type.here ((looks_findIn X hs).here ?_))))))
    refine wpAny_bind (wpAny_askSetting (wpAny_ite ?_))
    have fin := inner (R := fun v s' => wpAny (model prog w) A (pure (some v)) (fun r s'' => wpAny (model prog w) A (match r with | some .notImplemented | none => pure none | some v => pure (some v)) (fun r s' => ∃ v, r = some v ∧ Q v s') E s'') E s') (fun c s' q => wpAny_pure (wpAny_pure ⟨_, rfl, q⟩))
    split
    · exact wpAny_bind (wpAny_of_eq (F.cmp_object.ne.bind _) (wpAny_pure (by exact wpAny_bind fin)))
    · exact wpAny_tryCatch (wpAny_bind (wpAny_of_eq (F.cmp_object.ne.bind _) (wpAny_pure (by exact wpAny_bind fin))))
  unfold richCompare
  simp only [oneThing_ref]
  refine wpAny_holding (wpAny_bind (wpAny_cRoomFor hu0 ?_))
  refine wpAny_bind (I.type.here (wpAny_bind (hb.here ?_)))
  split
  · rename_i q
    have e : subIn K tb (.ref C) = some false := by
      rcases Bool.or_eq_true_iff.mp hn with e | e
      · rw [beq_iff_eq.mp e] at q; simp at q
      · exact beq_iff_eq.mp e
    refine wpAny_bind ((looks_subIn X e).here ?_)
    simp only [Bool.false_eq_true, if_false]
    refine wpAny_bind (wpAny_mono one (fun r s' z => ?_) fun _ _ e => e)
    obtain ⟨v, rfl, hq⟩ := z
    exact wpAny_pure hq
  · refine wpAny_bind (wpAny_pure ?_)
    simp only [Bool.false_eq_true, if_false]
    refine wpAny_bind (wpAny_mono one (fun r s' z => ?_) fun _ _ e => e)
    obtain ⟨v, rfl, hq⟩ := z
    exact wpAny_pure hq
end
section
variable {X : Cx} {CX : CXT} {k : Nat} {C : Addr} {sp : Sp} {E : L2.St → XK}
/-- x != y, where the class has an == of its own and no != -/
def rOwnNe (K : PySem.W.Frag) (C : Addr) (sp : Sp) : (L2.St → XK) → L2.St → V → V → Hp → VK → Prop := fun E σ x y H Q => ∃ a dx fs, x = .ref a ∧ H a = some (.ins C dx fs) ∧ OtherT K C H y ∧ sp [x, y] H (fun z H' => ∃ c, z = .bl c ∧ Q (.bl (!c)) H') (E σ)
theorem pe_neOwn {a b : Expr} {ta tb : TE} {pos : Pos} (F : Two X CX k C "__eq__" sp) (hs : PySem.W.findIn X.K (.ref C) "__ne__" = some (some (.builtin "object.__ne__"))) (ho : PySem.W.mroIn X.K C (.type "object") = some true) (hr : Room (k + 1) X.A) (hx : ∀ σ, PassesAt CX X σ (E σ)) (ha : PE X a ta) (hb : PE X b tb) (hm : behindInMarks .NotEq b = false) :
    PE X (.Compare a [.NotEq] [b] pos) (tOp2 (rOwnNe X.K C sp) E ta tb) := by
  obtain ⟨f, fd, ps, M, F, B⟩ := F.ex
  refine ⟨fun pins s σ H Q I h => ?_⟩
  refine wpAny_Compare1 (binT ha hb I h fun v u s2 x y H2 I2 rx ry q => ?_) hm
  obtain ⟨a, dx, fs, rfl, e, o, q⟩ := q
  cases rx
  obtain ⟨ox, od, J⟩ := own_at I2 e
  obtain ⟨tb, L, nf⟩ := other_looks (M := model X.prog X.w) I2 ry o fun _ _ _ _ _ => trivial
  show wpAny _ _ (richCompare .NotEq _ _) _ _ _
  refine ne_by_eq hr.in1.units0 hr.units0 I2.kIn J L nf ho hs M.at_ M.fn ?_
  refine wpAny_mono (own_run (us := [.ref a, u]) (vs := [.ref a, y]) F hr.in1 I2.env0.in1 B (hx σ) I2 (.cons rfl (.cons ry .nil)) q) (fun w s' z => ?_) fun _ _ z => z
  obtain ⟨z, H3, I3, rz, c, rfl, qz⟩ := z
  cases (show w = Value.bool c from rz)
  exact ⟨c, rfl, .bl (!c), H3, I3, rfl, qz⟩
end
/-! readings, step by step -/
section
variable {K : PySem.W.Frag} {C a dx : Addr} {fs : List (Str × V)} {sp : Sp} {E : L2.St → XK} {σ : L2.St} {y : V} {H : Hp} {Q : VK} {nm : String}
theorem r_op2 {r : (L2.St → XK) → L2.St → V → V → Hp → VK → Prop} {ta tb : TE} (h : ta σ H fun x H1 => tb σ H1 fun y H2 => r E σ x y H2 Q) : tOp2 r E ta tb σ H Q := h
theorem r_own2 (e : H a = some (.ins C dx fs)) (h : sp [.ref a, y] H Q (E σ)) : rOwn2 C sp E σ (.ref a) y H Q := ⟨a, dx, fs, rfl, e, h⟩
theorem r_ownC (e : H a = some (.ins C dx fs)) (o : OtherT K C H y) (h : sp [.ref a, y] H Q (E σ)) : rOwnC K C sp E σ (.ref a) y H Q := ⟨a, dx, fs, rfl, e, o, h⟩
theorem r_ownB (e : H a = some (.ins C dx fs)) (o : OtherB K C H nm y) (h : sp [.ref a, y] H Q (E σ)) : rOwnB K C nm sp E σ (.ref a) y H Q := ⟨a, dx, fs, rfl, e, o, h⟩
theorem r_ownNe (e : H a = some (.ins C dx fs)) (o : OtherT K C H y) (h : sp [.ref a, y] H (fun z H' => ∃ c, z = .bl c ∧ Q (.bl (!c)) H') (E σ)) : rOwnNe K C sp E σ (.ref a) y H Q := ⟨a, dx, fs, rfl, e, o, h⟩
theorem r_ownIn (e : H a = some (.ins C dx fs)) (h : sp [.ref a, y] H (fun z H' => ∃ c, z = .bl c ∧ Q (.bl c) H') (E σ)) : rOwnIn C sp false E σ y (.ref a) H Q := ⟨a, dx, fs, rfl, e, h⟩
theorem r_ownLen (e : H a = some (.ins C dx fs)) (h : sp [.ref a] H (fun z H' => ∃ n : Nat, z = .int n ∧ n < 2 ^ 63 ∧ Q (.int n) H') (E σ)) : rOwnLen C sp E σ [.ref a] H Q := ⟨a, dx, fs, rfl, e, h⟩
end
end Pk
set_option Elab.async false
set_option linter.all false
set_option maxRecDepth 100000
set_option maxHeartbeats 200000
namespace Pk
open PySem L2 PySem.Spec PyProof.Rows
section
open PySem.W PySem.Calls
variable {prog : Program} {w : World} {A : Around} {E : Value → Shared → Prop} {s : Shared} {K : Frag} {x f C : Addr} {ox : Obj} {od : Option Obj} {i : Int} {t : Tok}
/-- int's product with an instance: declined -/
theorem mul_no {c : Value} {dd : Option Addr} {sl : Array (Option Value)} {Q : Value → Shared → Prop} (hx : s.heap.get? x = some ⟨c, dd, .plain, sl⟩) (h : Q .notImplemented s) : wpAny (model prog w) A (call (.builtin "int.__mul__") [.int i t, .ref x]) Q E s := by
  refine wpAny_call (codeAny_call_builtin F.slot_int_mul.plain F.entry_int_mul (F.slot_int_mul.check _ _ _ _ _ _ _ _ (typeIs_int s i t) (F.args_int_mul_2 _ _) ?_))
  obtain ⟨hp, g, d, tk, os⟩ := s
  unfold Builtin.«int.__mul__» Builtin.Int.intBinary
  repeat (first
    | exact h
    | with_reducible refine wpAny_load hx ?_
    | wp_step)
theorem try_mul_int {nm : Str} {c : Value} {dd : Option Addr} {sl : Array (Option Value)} {Q : Option Value → Shared → Prop} (L : Slot "int" nm "int.__mul__") (hx : s.heap.get? x = some ⟨c, dd, .plain, sl⟩) (h : Q none s) : wpAny (model prog w) A (tryMethod (.int i t) nm (.ref x)) Q E s :=
  wpAny_tryMethod_declines (typeIs_int s i t) L (mul_no hx ⟨rfl, h⟩)
/-- a ⊕ x by x's own reflected method, a of a built-in class that has none of its own, or declines -/
theorem bin_back {op : Operator} {a : Value} {T : String} {lb : Bool} {g0 : Addr} {Q : Value → Shared → Prop} (X : K.In s.heap) (I : InstAt s.heap x ox C od) (hta : typeOf a = pure (.type T)) (hl : fillsNumberSlot (.type T) op.info.2 = pure lb) (hc : selfFirst K C = true)
    (hs : findIn K (.ref C) (PySem.dunder op.info.2) = some (some (.ref g0))) (hr : findIn K (.ref C) (dunderR op.info.2) = some (some (.ref f))) (hf : isFn K (.ref f) = true) (hsub : subIn K (.ref C) (.type T) = some false)
    (no : lb = true → ∀ {R : Option Value → Shared → Prop}, R none s → wpAny (model prog w) A (tryMethod a (PySem.dunder op.info.2) (.ref x)) R E s)
    (h : wpAny (model prog w) A (call (.ref f) [.ref x, a]) (PySem.W.CmpBack Q) E s) : wpAny (model prog w) A (binaryOp op a (.ref x)) Q E s := by
  obtain ⟨cd, rest, hcd, hm⟩ := ksp_first hc
  rcases hi : op.info with ⟨sym, nm'⟩
  rw [hi] at hs hr hl no
  dsimp only at hs hr hl no
  have one := ksp_try X I hr hf h
  obtain ⟨hh, g, d, tt, os⟩ := s
  have a1 : Looks (model prog w) hh (typeOf (.ref x)) (.ref C) := I.type
  have a2 : Looks (model prog w) hh (typeOf a) (.type T) := Looks.of_pure hta
  have a3 : Looks (model prog w) hh (fillsNumberSlot (.ref C) nm') true := fills_K X hcd hm hs
  have a4 : Looks (model prog w) hh (fillsNumberSlot (.type T) nm') lb := Looks.of_pure hl
  have a5 : Looks (model prog w) hh (isSubtype (.ref C) (.type T)) false := looks_subIn X hsub
  have a7 : Looks (model prog w) hh (numberSlotInPython (.type T) nm') false := Looks.of_pure rfl
  have ne : (Value.type T == Value.ref C) = false := Bool.eq_false_iff.mpr fun q => by cases beq_iff_eq.mp q
  simp only [binaryOp, hi]
  refine wpAny_holding (wpAny_bind ?_)
  unfold binaryOp1
  refine wpAny_bind (a2.at (wpAny_bind (a1.at (wpAny_bind (a4.at ?_)))))
  simp only [ne, Bool.false_eq_true, if_false]
  cases lb with
  | false =>
    ksp_lk
    refine wpAny_mono one (fun r s' hr' => ?_) fun _ _ e => e
    obtain ⟨v, rfl, hq⟩ := hr'
    ksp_lk
    exact hq
  | true =>
    ksp_lk
    refine no rfl ?_
    ksp_lk
    refine wpAny_mono one (fun r s' hr' => ?_) fun _ _ e => e
    obtain ⟨v, rfl, hq⟩ := hr'
    ksp_lk
    exact hq
end
theorem slot_mul_lit : Slot "int" ("__mul__" : Str) "int.__mul__" := by
  have e : PySem.dunder "mul" = ("__mul__" : Str) := by decide +kernel
  rw [← e]
  exact PySem.F.slot_int_mul
section
variable {X : Cx} {CX : CXT} {k : Nat} {C g0 : Addr} {sp : Sp} {E : L2.St → XK}
/-- i * x by the own __rmul__, i an int -/
def rMulBack (C : Addr) (sp : Sp) : (L2.St → XK) → L2.St → V → V → Hp → VK → Prop := fun E σ y x H Q => ∃ a dx fs i, x = .ref a ∧ y = .int i ∧ H a = some (.ins C dx fs) ∧ sp [x, y] H Q (E σ)
theorem pe_mulBack {op : Operator} {a b : Expr} {ta tb : TE} {pos : Pos} (hop : op = .Mult) (F : Two X CX k C "__rmul__" sp) (hc : PySem.W.selfFirst X.K C = true) (hs : PySem.W.findIn X.K (.ref C) "__mul__" = some (some (.ref g0))) (hsub : PySem.W.subIn X.K (.ref C) (.type "int") = some false)
    (hr : Room k X.A) (hx : ∀ σ, PassesAt CX X σ (E σ)) (ha : PE X a ta) (hb : PE X b tb) : PE X (.BinOp a op b pos) (tOp2 (rMulBack C sp) E ta tb) := by
  obtain ⟨f, fd, ps, M, F, B⟩ := F.ex
  refine ⟨fun pins s σ H Q I h => ?_⟩
  refine wpAny_BinOp (binT ha hb I h fun v u s2 y x H2 I2 ry rx q => ?_)
  obtain ⟨a, dx, fs, i, rfl, rfl, e, q⟩ := q
  cases rx
  obtain ⟨t, rfl⟩ := (show ∃ t, v = Value.int i t from ry)
  obtain ⟨mA, J0, _⟩ := ins_get I2.hok e
  obtain ⟨od, J, _⟩ := J0.look
  have run := wpAny_mono (own_run (us := [.ref a, .int i t]) (vs := [.ref a, .int i]) F hr I2.env0 B (hx σ) I2 (.cons rfl (.cons ⟨t, rfl⟩ .nil)) q) (Q' := PySem.W.CmpBack (EP X pins σ Q)) (fun w s' z => by
    obtain ⟨z, H3, I3, rz, qz⟩ := z
    exact SlX.cmpback rz ⟨z, H3, I3, rz, qz⟩) fun _ _ z => z
  have e0 : op.info.2 = "mul" := by rw [hop]; rfl
  have e1 : PySem.dunder op.info.2 = ("__mul__" : Str) := by rw [e0]; decide +kernel
  have e2 : dunderR op.info.2 = ("__rmul__" : Str) := by rw [e0]; decide +kernel
  have k1 : PySem.W.findIn X.K (.ref C) (PySem.dunder op.info.2) = some (some (.ref g0)) := by rw [e1]; exact hs
  have k2 : PySem.W.findIn X.K (.ref C) (dunderR op.info.2) = some (some (.ref f)) := by rw [e2]; exact M.at_
  have k3 : fillsNumberSlot (.type "int") op.info.2 = pure true := by rw [e0]; exact PySem.F.fills_int_mul
  have k5 : Slot "int" (PySem.dunder op.info.2) "int.__mul__" := by rw [e1]; exact slot_mul_lit
  have kT : typeOf (.int i t) = pure (.type "int") := rfl
  exact bin_back I2.kIn J kT k3 hc k1 k2 M.fn hsub (fun _ {R} hR => try_mul_int k5 J0.obj hR) run
theorem r_mulBack {σ : L2.St} {H : Hp} {Q : VK} {a dx : Addr} {fs : List (Str × V)} {i : Int} (e : H a = some (.ins C dx fs)) (h : sp [.ref a, .int i] H Q (E σ)) : rMulBack C sp E σ (.int i) (.ref a) H Q := ⟨a, dx, fs, i, rfl, rfl, e, h⟩
end
section
open PySem.W PySem.Calls
variable {prog : Program} {w : World} {A : Around} {E : Value → Shared → Prop} {s : Shared} {x : Addr} {b : Bool}
/-- a bool's product with an instance: declined -/
theorem mul_noB {c : Value} {dd : Option Addr} {sl : Array (Option Value)} {Q : Value → Shared → Prop} (hx : s.heap.get? x = some ⟨c, dd, .plain, sl⟩) (h : Q .notImplemented s) : wpAny (model prog w) A (call (.builtin "int.__mul__") [.bool b, .ref x]) Q E s := by
  refine wpAny_call (codeAny_call_builtin PySem.F.slot_int_mul.plain PySem.F.entry_int_mul (PySem.F.slot_bool_mul.check _ _ _ _ _ _ _ _ (PySem.typeIs_bool s b) (PySem.F.args_int_mul_2 _ _) ?_))
  obtain ⟨hp, g, d, tk, os⟩ := s
  unfold Builtin.«int.__mul__» Builtin.Int.intBinary
  repeat (first
    | exact h
    | with_reducible refine wpAny_load hx ?_
    | wp_step)
theorem try_mul_bool {nm : Str} {c : Value} {dd : Option Addr} {sl : Array (Option Value)} {Q : Option Value → Shared → Prop} (L : Slot "bool" nm "int.__mul__") (hx : s.heap.get? x = some ⟨c, dd, .plain, sl⟩) (h : Q none s) : wpAny (model prog w) A (tryMethod (.bool b) nm (.ref x)) Q E s :=
  wpAny_tryMethod_declines (PySem.typeIs_bool s b) L (mul_noB hx ⟨rfl, h⟩)
theorem slot_mul_litB : Slot "bool" ("__mul__" : Str) "int.__mul__" := by
  have e : PySem.dunder "mul" = ("__mul__" : Str) := by decide +kernel
  rw [← e]
  exact PySem.F.slot_bool_mul
end
section
variable {X : Cx} {CX : CXT} {k : Nat} {C g0 : Addr} {sp : Sp} {E : L2.St → XK}
/-- y * x by the own __rmul__, y a number, a truth, a text or none -/
def Plain1 (y : V) : Prop := (∃ i, y = .int i) ∨ (∃ b, y = .bl b) ∨ (∃ z, y = .str z) ∨ y = .non
def rMulAny (C : Addr) (sp : Sp) : (L2.St → XK) → L2.St → V → V → Hp → VK → Prop := fun E σ y x H Q => ∃ a dx fs, x = .ref a ∧ Plain1 y ∧ H a = some (.ins C dx fs) ∧ sp [x, y] H Q (E σ)
theorem none_mul : fillsNumberSlot (.type "NoneType") "mul" = pure false := by
  unfold fillsNumberSlot
  have a : typeLookup (.type "NoneType") (PySem.dunder "mul") = pure none := by rw [typeLookup_type, builtinLookup_eq_fast]; kernel_rfl
  have b : typeLookup (.type "NoneType") (dunderR "mul") = pure none := by rw [typeLookup_type, builtinLookup_eq_fast]; kernel_rfl
  simp only [a, b, pure_bind]
  rfl
theorem pe_mulAny {op : Operator} {a b : Expr} {ta tb : TE} {pos : Pos} (hop : op = .Mult) (F : Two X CX k C "__rmul__" sp) (hc : PySem.W.selfFirst X.K C = true) (hs : PySem.W.findIn X.K (.ref C) "__mul__" = some (some (.ref g0)))
    (hi : PySem.W.subIn X.K (.ref C) (.type "int") = some false) (hbo : PySem.W.subIn X.K (.ref C) (.type "bool") = some false) (hst : PySem.W.subIn X.K (.ref C) (.type "str") = some false) (hno : PySem.W.subIn X.K (.ref C) (.type "NoneType") = some false)
    (hr : Room k X.A) (hx : ∀ σ, PassesAt CX X σ (E σ)) (ha : PE X a ta) (hb : PE X b tb) : PE X (.BinOp a op b pos) (tOp2 (rMulAny C sp) E ta tb) := by
  obtain ⟨f, fd, ps, M, F, B⟩ := F.ex
  refine ⟨fun pins s σ H Q I h => ?_⟩
  refine wpAny_BinOp (binT ha hb I h fun v u s2 y x H2 I2 ry rx q => ?_)
  obtain ⟨a, dx, fs, rfl, py, e, q⟩ := q
  cases rx
  obtain ⟨mA, J0, _⟩ := ins_get I2.hok e
  obtain ⟨od, J, _⟩ := J0.look
  have run := wpAny_mono (own_run (us := [.ref a, v]) (vs := [.ref a, y]) F hr I2.env0 B (hx σ) I2 (.cons rfl (.cons ry .nil)) q) (Q' := PySem.W.CmpBack (EP X pins σ Q)) (fun w s' z => by
    obtain ⟨z, H3, I3, rz, qz⟩ := z
    exact SlX.cmpback rz ⟨z, H3, I3, rz, qz⟩) fun _ _ z => z
  have e0 : op.info.2 = "mul" := by rw [hop]; rfl
  have e1 : PySem.dunder op.info.2 = ("__mul__" : Str) := by rw [e0]; decide +kernel
  have e2 : dunderR op.info.2 = ("__rmul__" : Str) := by rw [e0]; decide +kernel
  have k1 : PySem.W.findIn X.K (.ref C) (PySem.dunder op.info.2) = some (some (.ref g0)) := by rw [e1]; exact hs
  have k2 : PySem.W.findIn X.K (.ref C) (dunderR op.info.2) = some (some (.ref f)) := by rw [e2]; exact M.at_
  rcases py with ⟨i, rfl⟩ | ⟨i, rfl⟩ | ⟨i, rfl⟩ | rfl
  · obtain ⟨t, rfl⟩ := (show ∃ t, v = Value.int i t from ry)
    have k3 : fillsNumberSlot (.type "int") op.info.2 = pure true := by rw [e0]; exact PySem.F.fills_int_mul
    have k5 : Slot "int" (PySem.dunder op.info.2) "int.__mul__" := by rw [e1]; exact slot_mul_lit
    have kT : typeOf (.int i t) = pure (.type "int") := rfl
    exact bin_back I2.kIn J kT k3 hc k1 k2 M.fn hi (fun _ {R} hR => try_mul_int k5 J0.obj hR) run
  · cases (show v = Value.bool i from ry)
    have k3 : fillsNumberSlot (.type "bool") op.info.2 = pure true := by rw [e0]; exact PySem.F.fills_bool_mul
    have k5 : Slot "bool" (PySem.dunder op.info.2) "int.__mul__" := by rw [e1]; exact slot_mul_litB
    have kT : typeOf (.bool i) = pure (.type "bool") := rfl
    exact bin_back I2.kIn J kT k3 hc k1 k2 M.fn hbo (fun _ {R} hR => try_mul_bool k5 J0.obj hR) run
  · obtain ⟨t, rfl⟩ := (show ∃ t, v = Value.str i t from ry)
    have k3 : fillsNumberSlot (.type "str") op.info.2 = pure false := by rw [e0]; exact noFill_str_mul
    have kT : typeOf (.str i t) = pure (.type "str") := rfl
    exact bin_back I2.kIn J kT k3 hc k1 k2 M.fn hst (fun z => Bool.noConfusion z) run
  · cases (show v = Value.none from ry)
    have k3 : fillsNumberSlot (.type "NoneType") op.info.2 = pure false := by rw [e0]; exact none_mul
    have kT : typeOf .none = pure (.type "NoneType") := rfl
    exact bin_back I2.kIn J kT k3 hc k1 k2 M.fn hno (fun z => Bool.noConfusion z) run
theorem r_mulAny {σ : L2.St} {H : Hp} {Q : VK} {a dx : Addr} {fs : List (Str × V)} {y : V} (e : H a = some (.ins C dx fs)) (py : Plain1 y) (h : sp [.ref a, y] H Q (E σ)) : rMulAny C sp E σ y (.ref a) H Q := ⟨a, dx, fs, rfl, py, e, h⟩
end
end Pk
set_option Elab.async false
set_option linter.all false
set_option maxRecDepth 100000
set_option maxHeartbeats 1000000
namespace Pk
open PySem L2
section
variable {K : PySem.W.Frag} {σ : L2.St} {H : Hp} {Q : VK} {D : Ends} {a C dx : Addr} {fs : List (Str × V)} {f g : Str} {v u : V} {i : Nat} {ta tv : TE}
/-- an attribute is read -/
theorem r_fldU (h : ta σ H fun x H1 => ∃ a C dx fs v, x = .ref a ∧ H1 a = some (.ins C dx fs) ∧ Cls K C ∧ NoAttr K C f ∧ fs.lookup f = some v ∧ Q v H1) : tFld K ta f σ H Q := h
theorem r_fld0 (o : H a = some (.ins C dx fs)) (c : Cls K C) (n : NoAttr K C f) (l : fs.lookup f = some v) (h : Q v H) : ∃ b C dx fs v, V.ref a = .ref b ∧ H b = some (.ins C dx fs) ∧ Cls K C ∧ NoAttr K C f ∧ fs.lookup f = some v ∧ Q v H := ⟨a, C, dx, fs, v, rfl, o, c, n, l, h⟩
theorem r_fldV (e : σ[i]? = some (some (.ref a))) (o : H a = some (.ins C dx fs)) (c : Cls K C) (n : NoAttr K C f) (l : fs.lookup f = some v) (h : Q v H) : tFld K (tVar i) f σ H Q := ⟨.ref a, e, a, C, dx, fs, v, rfl, o, c, n, l, h⟩
/-- .. is set -/
theorem r_sFldU (h : tv σ H fun y H1 => ta σ H1 fun x H2 => ∃ a C dx fs, x = .ref a ∧ H2 a = some (.ins C dx fs) ∧ Cls K C ∧ NoAttr K C f ∧ fs.length < 1000 ∧ D.nx σ (upd H2 a (.ins C dx (putF f y fs)))) : sFld K ta tv f D σ H := h
theorem r_sFld0 {P : Hp → Prop} {y : V} (o : H a = some (.ins C dx fs)) (c : Cls K C) (n : NoAttr K C f) (l : fs.length < 1000) (h : P (upd H a (.ins C dx (putF f y fs)))) :
    ∃ b C dx fs, V.ref a = .ref b ∧ H b = some (.ins C dx fs) ∧ Cls K C ∧ NoAttr K C f ∧ fs.length < 1000 ∧ P (upd H b (.ins C dx (putF f y fs))) := ⟨a, C, dx, fs, rfl, o, c, n, l, h⟩
/-- a method of an own class is called -/
theorem r_methU {m : Str} {sp : Sp} {dvs : List V} {E : XK} {t : TA} (h : ta σ H fun x H1 => ∃ a dx fs, x = .ref a ∧ H1 a = some (.ins C dx fs) ∧ fs.lookup m = none ∧ t σ H1 fun vs H2 => sp (x :: (vs ++ dvs)) H2 Q E) : tMeth C m sp dvs E ta t σ H Q := h
/-- a < b < c -/
theorem r_chain {r r' : R2} {tc : TE} (h : ta σ H fun x H1 => tv σ H1 fun y H2 => r x y H2 fun z H3 => ∃ k, z = .bl k ∧ (if k = true then tc σ H3 fun w H4 => r' y w H4 Q else Q (.bl false) H3)) : tChain r r' ta tv tc σ H Q := h
theorem ifT {c : Bool} {A B : Prop} (hc : c = true) (h : A) : if c = true then A else B := by rw [if_pos hc]; exact h
theorem ifF {c : Bool} {A B : Prop} (hc : c = false) (h : B) : if c = true then A else B := by rw [hc, if_neg Bool.false_ne_true]; exact h
/-- enumerate(list) in a for -/
theorem r_enum {ta : TA} {R : It → Hp → Prop} (h : ta σ H fun vs H1 => ∃ a xs, vs = [.ref a] ∧ SqL K H1 a xs ∧ R (Ite K a) H1) : iEnum K ta σ H R := h
theorem r_zip {ta : TA} {R : It → Hp → Prop} (h : ta σ H fun vs H1 => ∃ a b xs ys, vs = [.ref a, .ref b] ∧ SqL K H1 a xs ∧ SqL K H1 b ys ∧ R (Itz K a b) H1) : iZip K ta σ H R := h
theorem r_gtup {n : Nat} {t : TGs} {R : L2.St → Hp → Prop} (h : ∃ a xs, v = .ref a ∧ SqT K H a xs ∧ xs.length = n ∧ t xs σ H R) : gTup K n t v σ H R := h
theorem int_at {ms : List Int} {i : Nat} {y : V} (h : (ms.map V.int)[i]? = some y) : ∃ m, m ∈ ms ∧ y = .int m := by
  rw [List.getElem?_map] at h
  cases e : ms[i]? with
  | none => rw [e] at h; cases h
  | some m => rw [e] at h; exact ⟨m, List.mem_of_getElem? e, (Option.some.inj h).symm⟩
theorem int_get {ms : List Int} {i : Nat} {y : V} (h : (ms.map V.int)[i]? = some y) : y = .int (ms.getD i 0) := by
  rw [List.getElem?_map] at h
  cases e : ms[i]? with
  | none => rw [e] at h; cases h
  | some m => rw [e] at h; rw [List.getD_eq_getElem?_getD, e]; exact (Option.some.inj h).symm
/-- two attributes -/
theorem two_put (hfg : (f == g) = false) (e : ¬ f = g) : putF g u (putF f v []) = [(f, v), (g, u)] := by
  show putF g u [(f, v)] = _
  rw [show putF g u [(f, v)] = (f, v) :: putF g u [] from if_neg e]
  rfl
theorem two_fst : List.lookup f [(f, v), (g, u)] = some v := by simp [List.lookup]
theorem two_snd (hfg : (g == f) = false) : List.lookup g [(f, v), (g, u)] = some u := by simp [List.lookup, hfg]
theorem two_no {m : Str} (h1 : (m == f) = false) (h2 : (m == g) = false) : List.lookup m [(f, v), (g, u)] = none := by simp [List.lookup, h1, h2]
theorem ite_and {c d : Bool} {A B : Prop} (h : if (c && d) = true then A else B) : if c = true then (if d = true then A else B) else B := by
  cases c <;> cases d <;> simpa using h
end
/-- what isinstance asks of an own class -/
structure OwnC (K : PySem.W.Frag) (C : Addr) : Prop where
  cl : Cls K C
  ha : PySem.W.findIn K (.ref C) "__class__" = some (some (.builtin "object.__class__"))
  hn : PySem.W.specialIn K (.builtin "object.__class__") "__get__" = some (some (.builtin "getset_descriptor.__get__"))
  htk : PySem.W.takesIn K (.builtin "object.__class__") = some true
  hm : PySem.W.mroIn K C (.type "object") = some true
  isC : PySem.W.isClsIn K C = true
  ty : PySem.W.typeIn K (.ref C) = some (.type "type")
  sub : ∀ T : String, T ∈ (["NoneType", "int", "bool", "str", "list", "tuple", "dict"] : List String) → PySem.W.subIn K (.type T) (.ref C) = some false
theorem OwnC.of {K : PySem.W.Frag} {C : Addr} (pg : PySem.W.plainGet K C Str.empty = true) (hd : PySem.W.hasDictIn K C = true) (po : PySem.W.plainOver K C = true) (sa : PySem.W.findIn K (.ref C) "__setattr__" = some (some (.builtin "object.__setattr__")))
    (ha : PySem.W.findIn K (.ref C) "__class__" = some (some (.builtin "object.__class__"))) (hn : PySem.W.specialIn K (.builtin "object.__class__") "__get__" = some (some (.builtin "getset_descriptor.__get__"))) (htk : PySem.W.takesIn K (.builtin "object.__class__") = some true)
    (hm : PySem.W.mroIn K C (.type "object") = some true) (isC : PySem.W.isClsIn K C = true) (ty : PySem.W.typeIn K (.ref C) = some (.type "type")) (s1 : PySem.W.subIn K (.type "NoneType") (.ref C) = some false) (s2 : PySem.W.subIn K (.type "int") (.ref C) = some false)
    (s3 : PySem.W.subIn K (.type "bool") (.ref C) = some false) (s4 : PySem.W.subIn K (.type "str") (.ref C) = some false) (s5 : PySem.W.subIn K (.type "list") (.ref C) = some false) (s6 : PySem.W.subIn K (.type "tuple") (.ref C) = some false) (s7 : PySem.W.subIn K (.type "dict") (.ref C) = some false) : OwnC K C :=
  ⟨⟨pg, hd, po, sa⟩, ha, hn, htk, hm, isC, ty, fun T h => by
    simp only [List.mem_cons, List.not_mem_nil, or_false] at h
    rcases h with rfl | rfl | rfl | rfl | rfl | rfl | rfl
    · exact s1
    · exact s2
    · exact s3
    · exact s4
    · exact s5
    · exact s6
    · exact s7⟩
section
variable {K : PySem.W.Frag} {C a dx : Addr} {fs : List (Str × V)} {H : Hp} {Q : VK} {x : V} {T : String}
theorem OwnC.tyx (c : OwnC K C) (e : H a = some (.ins C dx fs)) : TyX K H (.ref a) (.ref C) := .base (.ins e c.cl c.ha c.hn c.htk c.hm)
/-- isinstance(x, the own class) -/
theorem r_isiSelf (c : OwnC K C) (e : H a = some (.ins C dx fs)) (h : Q (.bl true) H) : rIsi K [.ref a, .ref C] H Q :=
  ⟨.ref a, .ref C, _, _, true, rfl, .own C, c.tyx e, by unfold PySem.W.kitOne; rw [if_pos (by simp)], h⟩
theorem OwnC.kit (c : OwnC K C) (h : T ∈ (["NoneType", "int", "bool", "str", "list", "tuple", "dict"] : List String)) : PySem.W.kitOne K (.type T) (.ref C) = some false := by
  unfold PySem.W.kitOne PySem.W.kitCls
  have h1 : (PySem.W.clsIn K C).isSome = true := c.isC
  simp only [h1, c.ty, c.sub T h]
  rfl
theorem r_isiNo (c : OwnC K C) (t : TyX K H x (.type T)) (m : T ∈ (["NoneType", "int", "bool", "str", "list", "tuple", "dict"] : List String)) (h : Q (.bl false) H) : rIsi K [x, .ref C] H Q :=
  ⟨x, .ref C, _, _, false, rfl, .own C, t, c.kit m, h⟩
end
/-! ### lists of ints are compared -/
section
variable {K : PySem.W.Frag} {H : Hp} {Q : VK} {a b : Addr} {ms ns : List Int}
theorem ints_all (ns : List Int) : DpAll K H (ns.map V.int) (ns.map PyData.int) := by
  induction ns with
  | nil => exact .nil
  | cons n r ih => exact .cons (.int n) ih
theorem Dp.ints (h : SqL K H a (ns.map V.int)) : Dp K H (.ref a) (.list (ns.map PyData.int)) := .lst h (ints_all ns)
theorem eqv_ints : PyData.eqv (.list (ms.map PyData.int)) (.list (ns.map PyData.int)) = decide (ms = ns) := by
  have h := PySem.W.eqvAll_map ms ns
  rw [PyData.eqv]
  exact h
theorem r_eqL (h1 : SqL K H a (ms.map V.int)) (h2 : SqL K H b (ns.map V.int)) (h : Q (.bl (decide (ms = ns))) H) : rEqD K (.ref a) (.ref b) H Q :=
  ⟨_, _, Dp.ints h1, Dp.ints h2, PySem.W.ke_shaped_ints ms, PySem.W.ke_shaped_ints ns, by rw [eqv_ints]; exact h⟩
theorem r_neL (h1 : SqL K H a (ms.map V.int)) (h2 : SqL K H b (ns.map V.int)) (h : Q (.bl (!decide (ms = ns))) H) : rNeD K (.ref a) (.ref b) H Q :=
  ⟨_, _, Dp.ints h1, Dp.ints h2, PySem.W.ke_shaped_ints ms, PySem.W.ke_shaped_ints ns, by rw [eqv_ints]; exact h⟩
end
/-! ### a comprehension: the list at D, by its turns -/
def Out (H1 : Hp) (D : Addr) (out : Nat → V) (i : Nat) (H' : Hp) : Prop := Same H1 H' ∧ H' D = some (.lst ((List.range i).map out))
theorem Out.start {H1 : Hp} {D : Addr} {out : Nat → V} (hD : H1 D = none) : Out H1 D out 0 (upd H1 D (.lst [])) := ⟨Same.up (Same.refl H1) hD, upd_same⟩
theorem Out.more {H1 H H4 : Hp} {D : Addr} {out : Nat → V} {i : Nat} (hD : H1 D = none) (o : Out H1 D out i H) (s : Same H H4) (hi : i < sizeLine) :
    ∃ acc, H4 D = some (.lst acc) ∧ acc.length < sizeLine ∧ Out H1 D out (i + 1) (upd H4 D (.lst (acc ++ [out i]))) := by
  refine ⟨_, s _ _ o.2, by simpa using hi, fun c u e => ?_, ?_⟩
  · have n : c ≠ D := fun z => by rw [z, hD] at e; cases e
    rw [upd_ne n]
    exact s _ _ (o.1 _ _ e)
  · rw [upd_same, List.range_succ, List.map_append]
    rfl
/-! ### x ⊕ y by the own method, the other one no number of ours -/
structure BinC (K : PySem.W.Frag) (C : Addr) (nm : String) (Ts : List String) : Prop where
  sf : PySem.W.selfFirst K C = true
  rc : ∃ rc, PySem.W.findIn K (.ref C) (PySem.dunderR nm) = some rc ∧ (rc = none ∨ ∃ g : Addr, rc = some (.ref g))
  oth : ∀ T : String, T ∈ Ts → ∃ fo ro : Option Value, PySem.W.findIn K (.type T) (PySem.dunder nm) = some fo ∧ PySem.W.findIn K (.type T) (PySem.dunderR nm) = some ro
theorem BinC.other {K : PySem.W.Frag} {C : Addr} {nm T : String} {Ts : List String} {H : Hp} {y : V} (b : BinC K C nm Ts) (O : OwnC K C) (t : TyX K H y (.type T)) (m : T ∈ Ts) (m2 : T ∈ (["NoneType", "int", "bool", "str", "list", "tuple", "dict"] : List String)) : OtherB K C H nm y := by
  obtain ⟨fo, ro, h1, h2⟩ := b.oth T m
  exact .inr ⟨T, fo, ro, t, h1, h2, O.sub T m2⟩
theorem Plain1.ty {K : PySem.W.Frag} {H : Hp} {y : V} (h : Plain1 y) : ∃ T : String, TyX K H y (.type T) ∧ T ∈ (["NoneType", "int", "bool", "str"] : List String) := by
  rcases h with ⟨i, rfl⟩ | ⟨b, rfl⟩ | ⟨z, rfl⟩ | rfl
  · exact ⟨"int", .base (.int i), by simp⟩
  · exact ⟨"bool", .base (.bl b), by simp⟩
  · exact ⟨"str", .base (.str z), by simp⟩
  · exact ⟨"NoneType", .base .non, by simp⟩
end Pk
set_option Elab.async false
set_option linter.all false
set_option maxRecDepth 100000
set_option maxHeartbeats 1000000
namespace Pk
open PySem L2 PySem.Spec PyProof.Rows
/-! ### <, <=, >, >= and in, over data -/
section
variable {X : Cx}
/-- two data that may be compared, of no great depth -/
def Cmpr (K : PySem.W.Frag) (H : Hp) (x y : V) (d e : PyData) : Prop := Dp K H x d ∧ Dp K H y e ∧ PySem.W.alike d e = true ∧ d ≠ .none ∧ d.depth ≤ 32
def rCmpD (K : PySem.W.Frag) (g : PyData → PyData → Bool) : R2 := fun x y H Q => ∃ d e, Cmpr K H x y d e ∧ Q (.bl (g d e)) H
theorem op_ltD (hu : X.A.units + 64 < cLine) : OpR X (compareOp .Lt) (rCmpD X.K fun d e => PySem.W.dataLt d e) := by
  intro pins s σ H x y v u Q I rx ry h
  obtain ⟨d, e, ⟨hd, he, al, nn, dl⟩, q⟩ := h
  obtain ⟨as, r1⟩ := Dp.reads I d x v hd rx
  obtain ⟨bs, r2⟩ := Dp.reads I e y u he ry
  exact PySem.W.lt_data r1 r2 al nn (by omega) ⟨.bl _, H, I, rfl, q⟩
theorem op_gtD (hu : X.A.units + 64 < cLine) : OpR X (compareOp .Gt) (rCmpD X.K fun d e => PySem.W.dataLt e d) := by
  intro pins s σ H x y v u Q I rx ry h
  obtain ⟨d, e, ⟨hd, he, al, nn, dl⟩, q⟩ := h
  obtain ⟨as, r1⟩ := Dp.reads I d x v hd rx
  obtain ⟨bs, r2⟩ := Dp.reads I e y u he ry
  exact PySem.W.gt_data r1 r2 al nn (by omega) ⟨.bl _, H, I, rfl, q⟩
theorem op_leD (hu : X.A.units + 64 < cLine) : OpR X (compareOp .LtE) (rCmpD X.K fun d e => !PySem.W.dataLt e d) := by
  intro pins s σ H x y v u Q I rx ry h
  obtain ⟨d, e, ⟨hd, he, al, nn, dl⟩, q⟩ := h
  obtain ⟨as, r1⟩ := Dp.reads I d x v hd rx
  obtain ⟨bs, r2⟩ := Dp.reads I e y u he ry
  exact PySem.W.le_data r1 r2 al nn (by omega) ⟨.bl _, H, I, rfl, q⟩
theorem op_geD (hu : X.A.units + 64 < cLine) : OpR X (compareOp .GtE) (rCmpD X.K fun d e => !PySem.W.dataLt d e) := by
  intro pins s σ H x y v u Q I rx ry h
  obtain ⟨d, e, ⟨hd, he, al, nn, dl⟩, q⟩ := h
  obtain ⟨as, r1⟩ := Dp.reads I d x v hd rx
  obtain ⟨bs, r2⟩ := Dp.reads I e y u he ry
  exact PySem.W.ge_data r1 r2 al nn (by omega) ⟨.bl _, H, I, rfl, q⟩
end
/-! ### lists of pairs of ints -/
abbrev Pr := Int × Int
def prD (z : Pr) : PyData := .tuple [.int z.1, .int z.2]
def prsD (zs : List Pr) : PyData := .list (zs.map prD)
/-- one pair goes ahead of another -/
def prLt (x y : Pr) : Bool := decide (x.1 < y.1) || (decide (x.1 = y.1) && decide (x.2 < y.2))
def lexB : List Pr → List Pr → Bool
  | [], [] => false
  | [], _ :: _ => true
  | _ :: _, [] => false
  | x :: xs, y :: ys => if x = y then lexB xs ys else prLt x y
theorem pr_alike (x y : Pr) : PySem.W.alike (prD x) (prD y) = true := rfl
theorem prs_alike : ∀ xs ys : List Pr, PySem.W.alikeAll (xs.map prD) (ys.map prD) = true
  | [], _ => by cases ‹List Pr› <;> rfl
  | _ :: _, [] => rfl
  | x :: xs, y :: ys => by
    show (PySem.W.alike (prD x) (prD y) && PySem.W.alikeAll (xs.map prD) (ys.map prD)) = true
    rw [pr_alike, prs_alike xs ys]
    rfl
theorem pr_eqv (x y : Pr) : PyData.eqv (prD x) (prD y) = decide (x = y) := PySem.W.Datum.eqv (α := Int × Int) x y
theorem prs_eqv (xs ys : List Pr) : PyData.eqv (prsD xs) (prsD ys) = decide (xs = ys) := PySem.W.Datum.eqv (α := List (Int × Int)) xs ys
theorem pr_lt (x y : Pr) (n : x ≠ y) : PySem.W.dataLt (prD x) (prD y) = prLt x y := by
  obtain ⟨a, b⟩ := x
  obtain ⟨c, d⟩ := y
  show PySem.W.dataLt (.tuple [.int a, .int b]) (.tuple [.int c, .int d]) = _
  rw [PySem.W.dataLt_tuple]
  by_cases e : a = c
  · subst e
    rw [PySem.W.dataLt_all_yes rfl (by simp [PyData.eqv])]
    have e2 : b ≠ d := fun z => n (by rw [z])
    rw [PySem.W.dataLt_all_no rfl (by simp [PyData.eqv, e2]), PySem.W.dataLt_int]
    simp [prLt]
  · rw [PySem.W.dataLt_all_no rfl (by simp [PyData.eqv, e]), PySem.W.dataLt_int]
    simp [prLt, e]
theorem prs_lt : ∀ xs ys : List Pr, PyProof.Rows.lexLt PyProof.Rows.itemOrd (PySem.W.keyToksAll (xs.map prD)) (PySem.W.keyToksAll (ys.map prD)) = lexB xs ys
  | [], [] => by decide +kernel
  | [], y :: ys => (PyProof.Rows.lex_diff (O := PyProof.Rows.itemOrd) (x := .inl 0) (y := .inl 1) (by decide)).trans rfl
  | x :: xs, [] => (PyProof.Rows.lex_diff (O := PyProof.Rows.itemOrd) (x := .inl 1) (y := .inl 0) (by decide)).trans rfl
  | x :: xs, y :: ys => by
    rw [List.map_cons, List.map_cons, lexB]
    by_cases e : x = y
    · rw [if_pos e, PySem.W.dataLt_all_yes (pr_alike x y) (by rw [pr_eqv, decide_eq_true e]), prs_lt xs ys]
    · rw [if_neg e, PySem.W.dataLt_all_no (pr_alike x y) (by rw [pr_eqv, decide_eq_false e]), pr_lt x y e]
theorem prsLt (xs ys : List Pr) : PySem.W.dataLt (prsD xs) (prsD ys) = lexB xs ys := by
  rw [prsD, prsD, PySem.W.dataLt_list]
  exact prs_lt xs ys
end Pk
set_option Elab.async false
set_option linter.all false
set_option maxRecDepth 100000
set_option maxHeartbeats 1000000
namespace Pk
open PySem L2 PySem.Spec PyProof.Rows
theorem pr_depth (z : Pr) : (prD z).depth ≤ 1 := by
  obtain ⟨a, b⟩ := z
  simp [prD, PyData.depth, PyData.depthAll]
theorem prs_depthAll : ∀ zs : List Pr, PyData.depthAll (zs.map prD) ≤ 1
  | [] => by simp [PyData.depthAll]
  | z :: zs => by
    have h1 := prs_depthAll zs
    have h2 := pr_depth z
    simp only [List.map_cons, PyData.depthAll]
    omega
theorem prs_depth (zs : List Pr) : (prsD zs).depth ≤ 2 := by
  have h := prs_depthAll zs
  simp only [prsD, PyData.depth]
  omega
theorem pr_lay (z : Pr) : (prD z).canLay0 = true := by
  obtain ⟨a, b⟩ := z
  simp [prD, PyData.canLay0, PyData.canLayAll0]
theorem prs_layAll : ∀ zs : List Pr, PyData.canLayAll0 (zs.map prD) = true
  | [] => by simp [PyData.canLayAll0]
  | z :: zs => by simp [PyData.canLayAll0, prs_layAll zs, pr_lay z]
theorem pr_shaped (z : Pr) : SeqAt.shaped (prD z) = true := by
  have h := pr_depth z
  simp only [SeqAt.shaped, pr_lay z, Bool.true_and]
  exact decide_eq_true (by omega)
theorem prs_shaped (zs : List Pr) : SeqAt.shaped (prsD zs) = true := by
  have h := prs_depth zs
  have e : (prsD zs).canLay0 = true := by simp only [prsD, PyData.canLay0]; exact prs_layAll zs
  simp only [SeqAt.shaped, e, Bool.true_and]
  exact decide_eq_true (by omega)
theorem pr_plain (z : Pr) : (prD z).plain = true := PySem.W.Datum.plain (α := Int × Int) z
theorem prs_plainAll (zs : List Pr) : PyData.plainAll (zs.map prD) = true := PySem.W.plainAll_map (α := Int × Int) zs
/-- x in a list of pairs -/
def rInP (K : PySem.W.Frag) : R2 := fun x y H Q => ∃ z zs, Dp K H x (prD z) ∧ Dp K H y (prsD zs) ∧ Q (.bl (decide (z ∈ zs))) H
theorem op_inP {X : Cx} (hu : X.A.units + 64 < cLine) : OpR X (compareOp .In) (rInP X.K) := by
  intro pins s σ H x y v u Q I rx ry h
  obtain ⟨z, zs, hd, he, q⟩ := h
  obtain ⟨as, r1⟩ := Dp.reads I _ x v hd rx
  obtain ⟨bs, r2⟩ := Dp.reads I _ y u he ry
  have h1 := prs_depthAll zs
  refine SeqAt.in_list_data r2 r1 (prs_plainAll zs) (pr_plain z) (by omega) ⟨.bl _, H, I, rfl, ?_⟩
  have e := PySem.W.any_datum (α := Int × Int) zs z
  rw [show ((zs.map prD).any fun y => PyData.eqv y (prD z)) = decide (z ∈ zs) from e.trans (decide_eq_decide.mpr Iff.rfl)]
  exact q
/-! ### pairs on the heap -/
/-- the pair z, none of the pool's -/
def PrAt (p : Addr) (H : Hp) (v : V) (z : Pr) : Prop := ∃ t, v = .ref t ∧ t ≠ p ∧ H t = some (.tup [.int z.1, .int z.2])
inductive PrsAt (p : Addr) (H : Hp) : List V → List Pr → Prop
  | nil : PrsAt p H [] []
  | cons {v : V} {z : Pr} {vs : List V} {zs : List Pr} (h : PrAt p H v z) (r : PrsAt p H vs zs) : PrsAt p H (v :: vs) (z :: zs)
section
variable {p : Addr} {H H' : Hp} {v : V} {z : Pr} {vs us : List V} {zs ys : List Pr} {K : PySem.W.Frag} {i : Nat}
theorem PrAt.keep (h : PrAt p H v z) (k : Keep p H H') : PrAt p H' v z := by
  obtain ⟨t, e, n, h⟩ := h
  exact ⟨t, e, n, k _ _ n h⟩
theorem PrsAt.keep (h : PrsAt p H vs zs) (k : Keep p H H') : PrsAt p H' vs zs := by
  induction h with
  | nil => exact .nil
  | cons h _ ih => exact .cons (h.keep k) ih
theorem PrsAt.mono (h : PrsAt p H vs zs) (k : ∀ t xs, H t = some (.tup xs) → H' t = some (.tup xs)) : PrsAt p H' vs zs := by
  induction h with
  | nil => exact .nil
  | cons h _ ih =>
    obtain ⟨t, e, n, h⟩ := h
    exact .cons ⟨t, e, n, k _ _ h⟩ ih
theorem PrsAt.mono2 (h : PrsAt p H vs zs) (k : ∀ t xs, t ≠ p → H t = some (.tup xs) → H' t = some (.tup xs)) : PrsAt p H' vs zs := by
  induction h with
  | nil => exact .nil
  | cons h _ ih =>
    obtain ⟨t, e, n, h⟩ := h
    exact .cons ⟨t, e, n, k _ _ n h⟩ ih
theorem r_rng3 {σ : L2.St} {ta : TA} {R : It → Hp → Prop} (h : ta σ H fun vs H1 => ∃ (i j c : Int) (n : Nat), vs = [.int i, .int j, .int c] ∧ RgC i j c n ∧ R (Itc i c n) H1) : iRng3 ta σ H R := h
theorem PrsAt.length (h : PrsAt p H vs zs) : vs.length = zs.length := by
  induction h with
  | nil => rfl
  | cons _ _ ih => rw [List.length_cons, List.length_cons, ih]
theorem PrAt.dp (h : PrAt p H v z) : Dp K H v (prD z) := by
  obtain ⟨t, rfl, n, h⟩ := h
  exact .tup (SqT.of h) (.cons (.int _) (.cons (.int _) .nil))
theorem PrsAt.dp (h : PrsAt p H vs zs) : DpAll K H vs (zs.map prD) := by
  induction h with
  | nil => exact .nil
  | cons h _ ih => exact .cons h.dp ih
theorem PrsAt.at (h : PrsAt p H vs zs) : ∀ {i : Nat} {v : V}, vs[i]? = some v → ∃ z, zs[i]? = some z ∧ PrAt p H v z := by
  induction h with
  | nil => intro i v e; simp at e
  | cons h _ ih =>
    intro i v e
    cases i with
    | zero => exact ⟨_, rfl, by cases (Option.some.inj e); exact h⟩
    | succ i => exact ih (by simpa using e)
theorem PrsAt.get (h : PrsAt p H vs zs) : ∀ {i : Nat} {z : Pr}, zs[i]? = some z → ∃ v, vs[i]? = some v ∧ PrAt p H v z := by
  induction h with
  | nil => intro i v e; simp at e
  | cons h _ ih =>
    intro i v e
    cases i with
    | zero => exact ⟨_, rfl, by cases (Option.some.inj e); exact h⟩
    | succ i => exact ih (by simpa using e)
theorem PrsAt.take (h : PrsAt p H vs zs) : ∀ n, PrsAt p H (vs.take n) (zs.take n) := by
  induction h with
  | nil => intro n; cases n <;> exact .nil
  | cons h _ ih =>
    intro n
    cases n with
    | zero => exact .nil
    | succ n => exact .cons h (ih n)
theorem PrsAt.drop (h : PrsAt p H vs zs) : ∀ n, PrsAt p H (vs.drop n) (zs.drop n) := by
  induction h with
  | nil => intro n; cases n <;> exact .nil
  | cons h r ih =>
    intro n
    cases n with
    | zero => exact .cons h r
    | succ n => exact ih n
theorem PrsAt.app (h : PrsAt p H vs zs) (g : PrsAt p H us ys) : PrsAt p H (vs ++ us) (zs ++ ys) := by
  induction h with
  | nil => exact g
  | cons h _ ih => exact .cons h ih
theorem PrsAt.set (h : PrsAt p H vs zs) (g : PrAt p H v z) : ∀ i, PrsAt p H (vs.set i v) (zs.set i z) := by
  induction h with
  | nil => intro i; exact .nil
  | cons h r ih =>
    intro i
    cases i with
    | zero => exact .cons g r
    | succ i => exact .cons h (ih i)
end
/-- a list of pairs, none of the pool's -/
structure PL (p : Addr) (H : Hp) (a : Addr) (zs : List Pr) : Prop where
  ne : a ≠ p
  ex : ∃ vs, H a = some (.lst vs) ∧ PrsAt p H vs zs
section
variable {p a : Addr} {H H' : Hp} {zs : List Pr} {K : PySem.W.Frag}
theorem PL.keep (h : PL p H a zs) (k : Keep p H H') : PL p H' a zs := by
  obtain ⟨n, vs, e, r⟩ := h
  exact ⟨n, vs, k _ _ n e, r.keep k⟩
theorem PL.same (h : PL p H a zs) (k : Same H H') : PL p H' a zs := h.keep (Keep.same k)
theorem PL.dp (h : PL p H a zs) : Dp K H (.ref a) (prsD zs) := by
  obtain ⟨n, vs, e, r⟩ := h
  exact .lst (SqL.of e) r.dp
end
/-! ### the order of lists of pairs -/
theorem prLt_tri (x y : Pr) (n : x ≠ y) : prLt x y = !prLt y x := by
  obtain ⟨a, b⟩ := x
  obtain ⟨c, d⟩ := y
  simp only [prLt]
  by_cases h1 : a < c
  · have : ¬ c < a := by omega
    have : ¬ c = a := by omega
    simp [h1, *]
  · by_cases h2 : a = c
    · subst h2
      have : b ≠ d := fun z => n (by rw [z])
      by_cases h3 : b < d
      · have : ¬ d < b := by omega
        simp [h3, this]
      · have : d < b := by omega
        simp [h3, this]
    · have : c < a := by omega
      simp [h1, h2, this]
theorem prLt_trans {x y z : Pr} (h : prLt x y = true) (g : prLt y z = true) : prLt x z = true := by
  simp only [prLt, Bool.or_eq_true, Bool.and_eq_true, decide_eq_true_eq] at *
  omega
theorem prLt_irr (x : Pr) : prLt x x = false := by simp [prLt]
theorem lexB_self : ∀ xs : List Pr, lexB xs xs = false
  | [] => rfl
  | x :: xs => by rw [lexB, if_pos rfl, lexB_self xs]
theorem lexB_tri : ∀ xs ys : List Pr, xs ≠ ys → lexB xs ys = !lexB ys xs
  | [], [], n => absurd rfl n
  | [], _ :: _, _ => rfl
  | _ :: _, [], _ => rfl
  | x :: xs, y :: ys, n => by
    rw [lexB, lexB]
    by_cases e : x = y
    · subst e
      rw [if_pos rfl, if_pos rfl]
      exact lexB_tri xs ys fun z => n (by rw [z])
    · rw [if_neg e, if_neg (Ne.symm e)]
      exact prLt_tri x y e
theorem lexB_trans : ∀ xs ys zs : List Pr, lexB xs ys = true → lexB ys zs = true → lexB xs zs = true
  | [], [], _, h, _ => by cases h
  | [], _ :: _, [], _, g => by cases g
  | [], _ :: _, _ :: _, _, _ => rfl
  | _ :: _, [], _, h, _ => by cases h
  | _ :: _, _ :: _, [], _, g => by cases g
  | x :: xs, y :: ys, z :: zs, h, g => by
    rw [lexB] at h g ⊢
    by_cases e : x = y
    · subst e
      rw [if_pos rfl] at h
      by_cases e2 : x = z
      · subst e2
        rw [if_pos rfl] at g ⊢
        exact lexB_trans xs ys zs h g
      · rw [if_neg e2] at g ⊢
        exact g
    · rw [if_neg e] at h
      by_cases e2 : y = z
      · subst e2
        rw [if_neg e]
        exact h
      · rw [if_neg e2] at g
        have t := prLt_trans h g
        have : x ≠ z := fun q => by rw [q, prLt_irr] at t; cases t
        rw [if_neg this]
        exact t
end Pk
set_option Elab.async false
set_option linter.all false
set_option maxRecDepth 100000
set_option maxHeartbeats 1000000
namespace Pk
open PySem L2 PySem.Spec PyProof.Rows
/-! ### an own comparison as a test -/
section
variable {X : Cx} {CX : CXT} {k : Nat} {C : Addr} {sp : Sp} {E : L2.St → XK} {a b : Expr} {ta tb : TE} {pos : Pos}
theorem core_cmpOwn {op : CmpOp} (hop : ∀ a b, compareOp op a b = richCompare op a b) (F : Two X CX k C (cmpInfo op).2.1 sp) (hr : Room k X.A) (hx : ∀ σ, PassesAt CX X σ (E σ))
    {pins : List (Addr × Obj)} {σ : L2.St} {H2 : Hp} {s2 : Shared} {x y : V} {v u : Value} {Q : VK} (I2 : Inv X pins σ H2 s2) (rx : RelV x v) (ry : RelV y u) (q : rOwnC X.K C sp E σ x y H2 Q) :
    wpAny (model X.prog X.w) X.A (compareOp op v u) (EP X pins σ Q) X.xe s2 := by
  obtain ⟨f, fd, ps, M, F, B⟩ := F.ex
  obtain ⟨a, dx, fs, rfl, e, o, q⟩ := q
  cases rx
  obtain ⟨ox, od, J⟩ := own_at I2 e
  obtain ⟨tb, L, nf⟩ := other_looks (M := model X.prog X.w) I2 ry o fun _ _ _ _ _ => trivial
  obtain ⟨m, hF⟩ := I2.fr
  rw [hop]
  refine PySem.W.cmp_K (op := op) hr.units0 hF I2.ok.mod.kin J L nf M.at_ M.fn ?_
  refine wpAny_mono (own_run (us := [.ref a, u]) (vs := [.ref a, y]) F hr I2.env0 B (hx σ) I2 (.cons rfl (.cons ry .nil)) q) (fun w s' z => ?_) fun _ _ z => z
  obtain ⟨z, H3, I3, rz, qz⟩ := z
  exact SlX.cmpback rz ⟨z, H3, I3, rz, qz⟩
theorem pt_cmpOwn {op : CmpOp} (hop : ∀ a b, compareOp op a b = richCompare op a b) (F : Two X CX k C (cmpInfo op).2.1 sp) (hr : Room k X.A) (hx : ∀ σ, PassesAt CX X σ (E σ)) (ha : PE X a ta) (hb : PE X b tb) (hm : behindInMarks op b = false) :
    PT X (.Compare a [op] [b] pos) (tTest (tOp2 (rOwnC X.K C sp) E ta tb)) := by
  refine ⟨fun pins s σ H Q I h => ?_⟩
  refine wpAny_isTrue_Compare1 (binT ha hb I h fun v u s2 x y H2 I2 rx ry q => ?_) hm
  refine thn (core_cmpOwn hop F hr hx I2 rx ry q) fun c s3 ⟨z, H3, I3, r3, k, e, q3⟩ => ?_
  subst e
  cases r3
  exact wpAny_truthy_bool ⟨H3, I3, q3⟩
theorem core_neOwn (F : Two X CX k C "__eq__" sp) (hs : PySem.W.findIn X.K (.ref C) "__ne__" = some (some (.builtin "object.__ne__"))) (ho : PySem.W.mroIn X.K C (.type "object") = some true) (hr : Room (k + 1) X.A) (hx : ∀ σ, PassesAt CX X σ (E σ))
    {pins : List (Addr × Obj)} {σ : L2.St} {H2 : Hp} {s2 : Shared} {x y : V} {v u : Value} {Q : VK} (I2 : Inv X pins σ H2 s2) (rx : RelV x v) (ry : RelV y u) (q : rOwnNe X.K C sp E σ x y H2 Q) :
    wpAny (model X.prog X.w) X.A (compareOp .NotEq v u) (EP X pins σ Q) X.xe s2 := by
  obtain ⟨f, fd, ps, M, F, B⟩ := F.ex
  obtain ⟨a, dx, fs, rfl, e, o, q⟩ := q
  cases rx
  obtain ⟨ox, od, J⟩ := own_at I2 e
  obtain ⟨tb, L, nf⟩ := other_looks (M := model X.prog X.w) I2 ry o fun _ _ _ _ _ => trivial
  show wpAny _ _ (richCompare .NotEq _ _) _ _ _
  refine ne_by_eq hr.in1.units0 hr.units0 I2.kIn J L nf ho hs M.at_ M.fn ?_
  refine wpAny_mono (own_run (us := [.ref a, u]) (vs := [.ref a, y]) F hr.in1 I2.env0.in1 B (hx σ) I2 (.cons rfl (.cons ry .nil)) q) (fun w s' z => ?_) fun _ _ z => z
  obtain ⟨z, H3, I3, rz, c, rfl, qz⟩ := z
  cases (show w = Value.bool c from rz)
  exact ⟨c, rfl, .bl (!c), H3, I3, rfl, qz⟩
theorem pt_neOwn (F : Two X CX k C "__eq__" sp) (hs : PySem.W.findIn X.K (.ref C) "__ne__" = some (some (.builtin "object.__ne__"))) (ho : PySem.W.mroIn X.K C (.type "object") = some true) (hr : Room (k + 1) X.A) (hx : ∀ σ, PassesAt CX X σ (E σ)) (ha : PE X a ta) (hb : PE X b tb) (hm : behindInMarks .NotEq b = false) :
    PT X (.Compare a [.NotEq] [b] pos) (tTest (tOp2 (rOwnNe X.K C sp) E ta tb)) := by
  refine ⟨fun pins s σ H Q I h => ?_⟩
  refine wpAny_isTrue_Compare1 (binT ha hb I h fun v u s2 x y H2 I2 rx ry q => ?_) hm
  refine thn (core_neOwn F hs ho hr hx I2 rx ry q) fun c s3 ⟨z, H3, I3, r3, k, e, q3⟩ => ?_
  subst e
  cases r3
  exact wpAny_truthy_bool ⟨H3, I3, q3⟩
end
end Pk
set_option Elab.async false
set_option linter.all false
set_option maxRecDepth 100000
set_option maxHeartbeats 1000000
namespace Pk
open PySem L2 PySem.Spec PyProof.Rows
/-! ### what kind of data -/
def isID : PyData → Bool | .int _ => true | _ => false
def isIB : PyData → Bool | .int _ => true | .bool _ => true | _ => false
def isBD : PyData → Bool | .bool _ => true | _ => false
def isTD : PyData → Bool | .tuple _ => true | _ => false
def isLD : PyData → Bool | .list _ => true | _ => false
theorem kit_i (d : PyData) : kitB (kindOf d) "int" = some (isIB d) := by
  cases d with
  | none => exact (by decide +kernel : kitB "NoneType" "int" = some false)
  | bool b => exact (by decide +kernel : kitB "bool" "int" = some true)
  | int i => exact (by decide +kernel : kitB "int" "int" = some true)
  | str z => exact (by decide +kernel : kitB "str" "int" = some false)
  | list ds => exact (by decide +kernel : kitB "list" "int" = some false)
  | tuple ds => exact (by decide +kernel : kitB "tuple" "int" = some false)
  | dict kv => exact (by decide +kernel : kitB "object" "int" = some false)
theorem kit_b (d : PyData) : kitB (kindOf d) "bool" = some (isBD d) := by
  cases d with
  | none => exact (by decide +kernel : kitB "NoneType" "bool" = some false)
  | bool b => exact (by decide +kernel : kitB "bool" "bool" = some true)
  | int i => exact (by decide +kernel : kitB "int" "bool" = some false)
  | str z => exact (by decide +kernel : kitB "str" "bool" = some false)
  | list ds => exact (by decide +kernel : kitB "list" "bool" = some false)
  | tuple ds => exact (by decide +kernel : kitB "tuple" "bool" = some false)
  | dict kv => exact (by decide +kernel : kitB "object" "bool" = some false)
theorem kit_t (d : PyData) : kitB (kindOf d) "tuple" = some (isTD d) := by
  cases d with
  | none => exact (by decide +kernel : kitB "NoneType" "tuple" = some false)
  | bool b => exact (by decide +kernel : kitB "bool" "tuple" = some false)
  | int i => exact (by decide +kernel : kitB "int" "tuple" = some false)
  | str z => exact (by decide +kernel : kitB "str" "tuple" = some false)
  | list ds => exact (by decide +kernel : kitB "list" "tuple" = some false)
  | tuple ds => exact (by decide +kernel : kitB "tuple" "tuple" = some true)
  | dict kv => exact (by decide +kernel : kitB "object" "tuple" = some false)
theorem kit_l (d : PyData) : kitB (kindOf d) "list" = some (isLD d) := by
  cases d with
  | none => exact (by decide +kernel : kitB "NoneType" "list" = some false)
  | bool b => exact (by decide +kernel : kitB "bool" "list" = some false)
  | int i => exact (by decide +kernel : kitB "int" "list" = some false)
  | str z => exact (by decide +kernel : kitB "str" "list" = some false)
  | list ds => exact (by decide +kernel : kitB "list" "list" = some true)
  | tuple ds => exact (by decide +kernel : kitB "tuple" "list" = some false)
  | dict kv => exact (by decide +kernel : kitB "object" "list" = some false)
section
variable {K : PySem.W.Frag} {H : Hp} {Q : VK} {v : V} {d : PyData} {ds : List PyData}
theorem r_isDI (h : Dp K H v d) (q : Q (.bl (isIB d)) H) : rIsi K [v, .ty "int"] H Q := r_isi (Dp.kind h) (kit_i d) q
theorem r_isDB (h : Dp K H v d) (q : Q (.bl (isBD d)) H) : rIsi K [v, .ty "bool"] H Q := r_isi (Dp.kind h) (kit_b d) q
theorem r_isDT (h : Dp K H v d) (q : Q (.bl (isTD d)) H) : rIsi K [v, .ty "tuple"] H Q := r_isi (Dp.kind h) (kit_t d) q
theorem r_isDL (h : Dp K H v d) (q : Q (.bl (isLD d)) H) : rIsi K [v, .ty "list"] H Q := r_isi (Dp.kind h) (kit_l d) q
theorem Dp.tupAt (h : Dp K H v (.tuple ds)) : ∃ t vs, v = .ref t ∧ SqT K H t vs ∧ DpAll K H vs ds := by
  cases h with
  | tup h1 h2 => exact ⟨_, _, rfl, h1, h2⟩
theorem Dp.lstAt (h : Dp K H v (.list ds)) : ∃ t vs, v = .ref t ∧ SqL K H t vs ∧ DpAll K H vs ds := by
  cases h with
  | lst h1 h2 => exact ⟨_, _, rfl, h1, h2⟩
theorem DpAll.len : ∀ {vs : List V} {ds : List PyData}, DpAll K H vs ds → vs.length = ds.length
  | _, _, .nil => rfl
  | _, _, .cons _ t => by rw [List.length_cons, List.length_cons, DpAll.len t]
theorem DpAll.at : ∀ {vs : List V} {ds : List PyData}, DpAll K H vs ds → ∀ {i : Nat} {v : V}, vs[i]? = some v → ∃ d, ds[i]? = some d ∧ Dp K H v d
  | _, _, .nil, i, v, e => by simp at e
  | _, _, .cons h t, 0, v, e => ⟨_, rfl, by cases (Option.some.inj e); exact h⟩
  | _, _, .cons h t, i + 1, v, e => DpAll.at t (by simpa using e)
theorem DpAll.get : ∀ {vs : List V} {ds : List PyData}, DpAll K H vs ds → ∀ {i : Nat} {d : PyData}, ds[i]? = some d → ∃ v, vs[i]? = some v ∧ Dp K H v d
  | _, _, .nil, i, v, e => by simp at e
  | _, _, .cons h t, 0, v, e => ⟨_, rfl, by cases (Option.some.inj e); exact h⟩
  | _, _, .cons h t, i + 1, v, e => DpAll.get t (by simpa using e)
theorem DpAll.take : ∀ {vs : List V} {ds : List PyData}, DpAll K H vs ds → ∀ n, DpAll K H (vs.take n) (ds.take n)
  | _, _, .nil, n => by cases n <;> exact .nil
  | _, _, .cons h t, 0 => .nil
  | _, _, .cons h t, n + 1 => .cons h (DpAll.take t n)
theorem DpAll.drop : ∀ {vs : List V} {ds : List PyData}, DpAll K H vs ds → ∀ n, DpAll K H (vs.drop n) (ds.drop n)
  | _, _, .nil, n => by cases n <;> exact .nil
  | _, _, .cons h t, 0 => .cons h t
  | _, _, .cons h t, n + 1 => DpAll.drop t n
theorem DpAll.app : ∀ {vs us : List V} {ds es : List PyData}, DpAll K H vs ds → DpAll K H us es → DpAll K H (vs ++ us) (ds ++ es)
  | _, _, _, _, .nil, g => g
  | _, _, _, _, .cons h t, g => .cons h (DpAll.app t g)
end
/-! ### in a list, over data; a list of data that can be compared -/
structure Small (ds : List PyData) : Prop where
  plain : PyData.plainAll ds = true
  deep : PyData.depthAll ds ≤ 8
def rInD (K : PySem.W.Frag) (neg : Bool) : R2 := fun x y H Q => ∃ d ds, Dp K H x d ∧ Dp K H y (.list ds) ∧ d.plain = true ∧ Small ds ∧ Q (.bl (if neg then !(ds.any fun e => PyData.eqv e d) else ds.any fun e => PyData.eqv e d)) H
theorem op_inD {X : Cx} (hu : X.A.units + 64 < cLine) : OpR X (compareOp .In) (rInD X.K false) := by
  intro pins s σ H x y v u Q I rx ry h
  obtain ⟨d, ds, hd, he, pd, sm, q⟩ := h
  obtain ⟨as, r1⟩ := Dp.reads I _ x v hd rx
  obtain ⟨bs, r2⟩ := Dp.reads I _ y u he ry
  have h1 := sm.deep
  exact SeqAt.in_list_data r2 r1 sm.plain pd (by omega) ⟨.bl _, H, I, rfl, q⟩
end Pk
set_option Elab.async false
set_option linter.all false
set_option maxRecDepth 100000
set_option maxHeartbeats 1000000
namespace Pk
open PySem L2 PySem.Spec PyProof.Rows
/-! ### an object is made where what is raised is wished for at the caller's slots -/
def tMakeS (C : Addr) (sp : Sp) (E : L2.St → XK) (t : TA) : TE := fun σ H Q => t σ H fun zs H1 => ∀ y dy, H1 y = none → H1 dy = none → dy ≠ y →
  sp (.ref y :: zs) (upd (upd H1 dy (.own y)) y (.ins C dy [])) (fun r H2 => r = .non ∧ Q (.ref y) H2) (E σ)
theorem r_makeS {C : Addr} {sp : Sp} {E : L2.St → XK} {t : TA} {σ : L2.St} {H : Hp} {Q : VK} (h : t σ H fun zs H1 => ∀ y dy, H1 y = none → H1 dy = none → dy ≠ y → sp (.ref y :: zs) (upd (upd H1 dy (.own y)) y (.ins C dy [])) (fun r H2 => r = .non ∧ Q (.ref y) H2) (E σ)) : tMakeS C sp E t σ H Q := h
section
variable {X : Cx} {CX : CXT} {k : Nat} {f C : Addr} {fd : FuncData} {ps : List Str} {sp : Sp} {E : L2.St → XK}
theorem made_at {pins : List (Addr × Obj)} {τ : L2.St} {G : Hp} {sh : Shared} {R : VK} {as : List Value} {zs : List V} (mk : Mk X.K C f) (ok : FnOk X.prog X.w X.K X.mg X.base CX k f fd ps sp) (room : Room (k + 1) X.A) (bd : Binds X.K fd ps []) (px : PassesAt CX X τ (E τ)) (J : Inv X pins τ G sh) (rl : Vals zs as)
    (want : ∀ y dy, G y = none → G dy = none → dy ≠ y → sp (.ref y :: zs) (upd (upd G dy (.own y)) y (.ins C dy [])) (fun r H2 => r = .non ∧ R (.ref y) H2) (E τ)) : wpAny (model X.prog X.w) X.A (call (.ref C) as) (EP X pins τ R) X.xe sh := by
  have w1 := want (sh.heap.objs.size + 1) sh.heap.objs.size (J.hok.fresh (Nat.le_succ _)) (J.hok.fresh (Nat.le_refl _)) (Nat.ne_of_lt (Nat.lt_succ_self _))
  have J2 := Inv.made (C := C) J
  have rl2 : Vals (V.ref (sh.heap.objs.size + 1) :: zs) (Value.ref (sh.heap.objs.size + 1) :: as) := .cons rfl rl
  have len : (Value.ref (sh.heap.objs.size + 1) :: as ++ []).length = ps.length := by
    rw [List.append_nil]
    exact rl2.length.symm.trans (ok.len _ _ _ _ w1)
  have b2 := bd _ (Value.ref (sh.heap.objs.size + 1) :: as) J2.kIn len
  rw [List.append_nil] at b2
  refine wpAny_call (make_map (f := f) J.kIn mk.makes mk.init (beq_iff_eq.mp mk.fn) (codeAny_mono (ok.run _ X.stack _ _ ⟨Value.ref (sh.heap.objs.size + 1) :: as, []⟩
    (Value.ref (sh.heap.objs.size + 1) :: as) _ _ (E τ) (room.make C as []) (J2.env0.make C as []) b2 rl2 w1) fun fin t ht => ?_))
  rcases fin with er | fl
  · exact px pins _ _ er t J2 ht
  · cases fl with
    | ret u =>
      obtain ⟨r, G', J3, rr, er, q3⟩ := J2.after ht
      subst er
      exact ⟨rr, ⟨V.ref (sh.heap.objs.size + 1), G', J3, rfl, q3⟩⟩
    | next => exact ht.elim
    | brk => exact ht.elim
    | cont => exact ht.elim
end
theorem pe_dkS {X : Cx} {W : WX} {x : Str} {k j : Nat} {ps : List Str} {sp : Sp} {e : Expr} {es : List Expr} {t : TA} {p pos : Pos} {C : Addr} (tk : Takes X W) (D : Dk X.prog X.w X.K X.mg X.base (L2.CX X.prog X.w) x k ps sp C) (hr : Room j X.A) (l : k + 1 ≤ j) (ha : PA X (e :: es) t) (hg : Gl X x := by rfl)
    (hdb : (x == ("__debug__" : Str)) = false := by decide) (he : starEach (e :: es) X.env = (false, eval e X.env) :: starEach es X.env := by rfl) (hpl : (backTo pos (starEach es X.env)).any (·.1) = false := by rfl) : PE X (.Call (.Name x p) (e :: es) [] pos) (tMakeS C sp (WE W) t) := by
  obtain ⟨_, _, D⟩ := D
  refine ⟨fun pins s σ H Q J h => ?_⟩
  refine wpAny_Call_Name_kw (ld_glob J hg D.at_ ?_ hdb)
  refine PySem.W.callWith_K (h₀ := X.base) J.ok.mod.kin D.mkc.kp (thn (ha.run pos pins s σ H _ J h) fun us s1 ⟨vs, H1, J1, r, q⟩ => ⟨J1.kIn, ?_⟩) he hpl
  exact made_at D.mkc D.ok (hr.mono l) D.bd (passAt tk σ) J1 r q
end Pk
set_option Elab.async false
set_option linter.all false
set_option maxRecDepth 100000
set_option maxHeartbeats 1000000
namespace Pk
open PySem L2 PySem.Spec PyProof.Rows
/-! ### loops, whatever stands in them -/
theorem lc_any {J : It} {n : Nat} {G : Hp → Prop} {Y : Nat → Hp → V → Hp → Prop} (w : Walk J n G Y) {B : (Hp → Prop) → V → Hp → Prop} {H0 : Hp} {Qd : Hp → Prop} (Pv : Nat → Hp → Prop) (h0 : Pv 0 H0) (hG : ∀ i H, i ≤ n → Pv i H → G H)
    (hs : ∀ i x H H', i < n → Pv i H → Y i H x H' → B (Pv (i + 1)) x H') (hd : ∀ H, Pv n H → Qd H) : ∃ W : Nat → Nat → Hp → Prop, (∃ m, W 0 m H0) ∧ ∀ i m H, W i m H →
      (J.stop i H ∧ Qd H) ∨ (J.go i H ∧ ∃ Nx : Hp → Prop, (∀ H', Nx H' → ∃ m', m' < m ∧ W (i + 1) m' H') ∧ ∀ x H', J.yld i H x H' → B Nx x H') := by
  refine ⟨fun i m H => m = n - i ∧ i ≤ n ∧ Pv i H, ⟨n, (Nat.sub_zero n).symm, Nat.zero_le _, h0⟩, fun i m H hw => ?_⟩
  obtain ⟨rfl, hi, p⟩ := hw
  rcases Nat.lt_or_ge i n with lt | ge
  · refine .inr ⟨w.goes i H lt (hG i H hi p), Pv (i + 1), fun H' p' => ⟨n - (i + 1), by omega, rfl, lt, p'⟩, fun x H' y => ?_⟩
    exact hs i x H H' lt p (w.yields i H x H' lt (hG i H hi p) y)
  · obtain rfl : i = n := Nat.le_antisymm hi ge
    exact .inl ⟨w.stops H (hG _ H hi p), hd H p⟩
theorem r_lc2 {wi wi1 : TI} {g g1 : TG} {tt tt1 : TT} {te : TE} {vs vs1 : List Nat} {σ : L2.St} {H : Hp} {Q : VK} (h : wi σ H fun J H1 => ∀ D, H1 D = none → ∃ W : Nat → Nat → Hp → Prop, (∃ m, W 0 m (upd H1 D (.lst []))) ∧ ∀ i m H, W i m H →
  (J.stop i H ∧ Q (.ref D) H) ∨ (J.go i H ∧ ∃ Nx : Hp → Prop, (∀ H', Nx H' → ∃ m', m' < m ∧ W (i + 1) m' H') ∧ ∀ x H', J.yld i H x H' → g x (wipe σ vs) H' fun σ2 H2 => wipe σ2 vs = wipe σ vs ∧ tt σ2 H2 fun b H3 =>
    if b = true then wi1 σ2 H3 fun J1 H4 => ∃ W1 : Nat → Nat → Hp → Prop, (∃ m, W1 0 m H4) ∧ ∀ j k H, W1 j k H →
      (J1.stop j H ∧ Nx H) ∨ (J1.go j H ∧ ∃ Nx1 : Hp → Prop, (∀ H', Nx1 H' → ∃ k', k' < k ∧ W1 (j + 1) k' H') ∧ ∀ x H', J1.yld j H x H' → g1 x (wipe σ2 vs1) H' fun σ3 H5 => wipe σ3 vs1 = wipe σ2 vs1 ∧ tt1 σ3 H5 fun b H6 =>
        if b = true then te σ3 H6 fun y H7 => ∃ acc, H7 D = some (.lst acc) ∧ acc.length < sizeLine ∧ Nx1 (upd H7 D (.lst (acc ++ [y]))) else Nx1 H6)
    else Nx H3)) : tLc2 wi g tt wi1 g1 tt1 te vs vs1 σ H Q := h
/-! ### a part of the heap -/
/-- all of G was not tracked in H -/
def Fresh (H G : Hp) : Prop := ∀ a o, G a = some o → H a = none
theorem Fresh.off {H G : Hp} {b : Addr} {o : HO} (f : Fresh H G) (h : H b = some o) : G b = none := by
  cases e : G b with
  | none => rfl
  | some u => rw [f b u e] at h; cases h
theorem Fresh.back {H0 H G : Hp} (f : Fresh H G) (s : Same H0 H) : Fresh H0 G := fun a o e => s.free (f a o e)
theorem Same.part {G H H' : Hp} {b : Addr} (s : Same G H) (n : G b = none) (k : Keep b H H') : Same G H' := fun a o e => k a o (fun z => by rw [z, n] at e; cases e) (s a o e)
theorem Same.upOff {G H : Hp} {b : Addr} {o : HO} (s : Same G H) (n : G b = none) : Same G (upd H b o) := fun a u e => by
  rw [upd_ne (fun z => by rw [z, n] at e; cases e)]
  exact s a u e
/-! ### tables -/
abbrev Rw := List (List (Option Int))
def pV : Option Int → V
  | .none => .non
  | .some i => .int i
def pD : Option Int → PyData
  | .none => .none
  | .some i => .int i
def rowD (r : List (Option Int)) : PyData := .list (r.map pD)
def rowsD (R : Rw) : PyData := .list (R.map rowD)
def wd (R : Rw) : Nat := (R.headD []).length
def prc (R : Rw) (i j : Nat) : Option Int := (R.getD i []).getD j none
/-- the pairs, in ascending order -/
def cells (R : Rw) : List Pr := (List.range R.length).flatMap fun i => ((List.range (wd R)).filter fun j => (prc R i j).isSome).map fun (j : Nat) => (((i : Nat) : Int), (j : Int))
structure Gt (R : Rw) : Prop where
  h0 : 0 < R.length
  h8 : R.length ≤ 8
  w0 : 0 < wd R
  w8 : wd R ≤ 8
  sq : ∀ r, r ∈ R → r.length = wd R
instance : PySem.W.Datum (Option Int) where
  toD := pD
  plain z := by cases z <;> rfl
  eqv a b := by cases a <;> cases b <;> simp [pD, PyData.eqv, PySem.W.beq_decide]
  depth := 0
  depth_le z := by cases z <;> simp [pD, PyData.depth]
theorem rows_eqv (R S : Rw) : PyData.eqv (rowsD R) (rowsD S) = decide (R = S) := PySem.W.Datum.eqv (α := List (List (Option Int))) R S
theorem row_depthAll : ∀ r : List (Option Int), PyData.depthAll (r.map pD) = 0
  | [] => by simp [PyData.depthAll]
  | z :: r => by cases z <;> simp [PyData.depthAll, PyData.depth, pD, row_depthAll r]
theorem row_depth (r : List (Option Int)) : (rowD r).depth = 1 := by simp [rowD, PyData.depth, row_depthAll r]
theorem rows_depthAll : ∀ R : Rw, PyData.depthAll (R.map rowD) ≤ 1
  | [] => by simp [PyData.depthAll]
  | r :: R => by
    have h1 := rows_depthAll R
    simp only [List.map_cons, PyData.depthAll, row_depth]
    omega
theorem rows_depth (R : Rw) : (rowsD R).depth ≤ 2 := by
  have h := rows_depthAll R
  simp only [rowsD, PyData.depth]
  omega
theorem row_layAll : ∀ r : List (Option Int), PyData.canLayAll0 (r.map pD) = true
  | [] => by simp [PyData.canLayAll0]
  | z :: r => by cases z <;> simp [PyData.canLayAll0, PyData.canLay0, pD, row_layAll r]
theorem row_lay (r : List (Option Int)) : (rowD r).canLay0 = true := by simp [rowD, PyData.canLay0, row_layAll r]
theorem rows_layAll : ∀ R : Rw, PyData.canLayAll0 (R.map rowD) = true
  | [] => by simp [PyData.canLayAll0]
  | r :: R => by simp [PyData.canLayAll0, rows_layAll R, row_lay r]
theorem rows_shaped (R : Rw) : SeqAt.shaped (rowsD R) = true := by
  have h := rows_depth R
  have e : (rowsD R).canLay0 = true := by simp only [rowsD, PyData.canLay0]; exact rows_layAll R
  simp only [SeqAt.shaped, e, Bool.true_and]
  exact decide_eq_true (by omega)
theorem rows_plain (R : Rw) : (rowsD R).plain = true := PySem.W.Datum.plain (α := List (List (Option Int))) R
theorem pV_dp {K : PySem.W.Frag} {H : Hp} (z : Option Int) : Dp K H (pV z) (pD z) := by
  cases z
  · exact .non
  · exact .int _
theorem row_dp {K : PySem.W.Frag} {H : Hp} (r : List (Option Int)) : DpAll K H (r.map pV) (r.map pD) := by
  induction r with
  | nil => exact .nil
  | cons z r ih => exact .cons (pV_dp z) ih
theorem deep_pD (z : Option Int) {n : Nat} : Deep n (pD z) := by
  cases z
  · exact .non
  · exact .int _
theorem deep_row {r : List (Option Int)} (h : r.length ≤ 1000) : Deep 1 (rowD r) := .lst (fun d hd => by
  obtain ⟨z, _, rfl⟩ := List.mem_map.mp hd
  exact deep_pD z) (by rw [List.length_map]; exact h)
theorem Gt.len {R : Rw} (g : Gt R) {i : Nat} (h : i < R.length) : R[i].length = wd R := g.sq _ (List.getElem_mem h)
theorem Gt.getD {R : Rw} (g : Gt R) {i : Nat} (h : i < R.length) : R.getD i [] = R[i] := by
  rw [List.getD_eq_getElem?_getD, List.getElem?_eq_getElem h]
  rfl
theorem deep_rows {R : Rw} (g : Gt R) : Deep 2 (rowsD R) := .lst (fun d hd => by
  obtain ⟨r, hr, rfl⟩ := List.mem_map.mp hd
  have h1 := g.sq r hr
  have h2 := g.w8
  exact deep_row (by omega)) (by rw [List.length_map]; have := g.h8; omega)
/-- a list of rows, each a list of its own -/
structure RL (G : Hp) (e : Addr) (es : List V) (R : Rw) : Prop where
  at_ : G e = some (.lst es)
  len : es.length = R.length
  row : ∀ i v, es[i]? = some v → ∃ a, v = .ref a ∧ G a = some (.lst ((R.getD i []).map pV))
theorem RL.same {G H : Hp} {e : Addr} {es : List V} {R : Rw} (l : RL G e es R) (s : Same G H) : RL H e es R := ⟨s _ _ l.at_, l.len, fun i v h => by
  obtain ⟨a, e1, e2⟩ := l.row i v h
  exact ⟨a, e1, s _ _ e2⟩⟩
theorem RL.get {G : Hp} {e : Addr} {es : List V} {R : Rw} (l : RL G e es R) {i : Nat} (h : i < R.length) : ∃ a, es[i]? = some (.ref a) ∧ G a = some (.lst ((R.getD i []).map pV)) := by
  have hi : i < es.length := by rw [l.len]; exact h
  obtain ⟨a, e1, e2⟩ := l.row i _ (List.getElem?_eq_getElem hi)
  exact ⟨a, by rw [List.getElem?_eq_getElem hi, e1], e2⟩
theorem RL.all {K : PySem.W.Frag} {G : Hp} {e : Addr} {es : List V} {R : Rw} (l : RL G e es R) : DpAll K G es (R.map rowD) := by
  refine dpAll_of (by rw [List.length_map]; exact l.len) fun i v d hv hd => ?_
  obtain ⟨a, rfl, h⟩ := l.row i v hv
  rw [List.getElem?_map] at hd
  cases q : R[i]? with
  | none => rw [q] at hd; cases hd
  | some r =>
    rw [q] at hd
    cases (Option.some.inj hd)
    rw [List.getD_eq_getElem?_getD, q] at h
    exact .lst (SqL.of h) (row_dp r)
theorem RL.dp {K : PySem.W.Frag} {G : Hp} {e : Addr} {es : List V} {R : Rw} (l : RL G e es R) : Dp K G (.ref e) (rowsD R) := .lst (SqL.of l.at_) l.all
/-- the table at x, whose parts are all in G -/
structure TbX (C : Addr) (G : Hp) (x : Addr) (R : Rw) : Prop where
  g : Gt R
  ex : ∃ dx e u es, G x = some (.ins C dx [("entries", .ref e), ("used", .ref u)]) ∧ RL G e es R ∧ PL x G u (cells R)
theorem pr_at {R : Rw} {i j : Nat} (hi : i < R.length) (hj : j < wd R) : (R.getD i []).length = R[i].length := by
  rw [List.getD_eq_getElem?_getD, List.getElem?_eq_getElem hi]
  rfl
theorem prc_get {R : Rw} (g : Gt R) {i j : Nat} (hi : i < R.length) (hj : j < wd R) : ((R.getD i []).map pV)[j]? = some (pV (prc R i j)) := by
  have l : j < (R.getD i []).length := by rw [g.getD hi, g.len hi]; exact hj
  rw [List.getElem?_map, List.getElem?_eq_getElem l, prc, List.getD_eq_getElem?_getD (l := R.getD i []), List.getElem?_eq_getElem l]
  rfl
/-! ### over data -/
def priceD : PyData → Bool
  | .none => true
  | .int _ => true
  | _ => false
theorem price_inv {d : PyData} (h : priceD d = true) : ∃ z, d = pD z := by
  cases d with
  | none => exact ⟨none, rfl⟩
  | int i => exact ⟨some i, rfl⟩
  | _ => cases h
/-- a list of 1 to 8 prices, as many as the other list has entries -/
def rowOk : PyData → PyData → Bool
  | .list ds, .list es => decide (1 ≤ ds.length) && decide (ds.length ≤ 8) && decide (ds.length = es.length) && ds.all priceD
  | _, _ => false
def firstRow (ds : List PyData) : Option Nat := (List.range ds.length).find? fun i => !rowOk (ds.getD i .none) (ds.getD 0 .none)
/-- what is told of a value as rows: none where it is good -/
def badT : PyData → Option Int
  | .list ds => if ds.length = 0 ∨ 8 < ds.length then some (-1) else (firstRow ds).map Int.ofNat
  | _ => some (-1)
theorem badT_no {d : PyData} (h : isLD d = false) : badT d = some (-1) := by
  cases d with
  | list ds => cases h
  | _ => rfl
theorem firstRow_some {ds : List PyData} {i : Nat} (hi : i < ds.length) (h : ∀ j, j < i → rowOk (ds.getD j .none) (ds.getD 0 .none) = true) (b : rowOk (ds.getD i .none) (ds.getD 0 .none) = false) : firstRow ds = some i := by
  unfold firstRow
  rw [List.find?_range_eq_some]
  exact ⟨by rw [b]; rfl, by simpa using hi, fun j hj => by rw [h j hj]; rfl⟩
theorem firstRow_none {ds : List PyData} (h : ∀ j, j < ds.length → rowOk (ds.getD j .none) (ds.getD 0 .none) = true) : firstRow ds = none := by
  unfold firstRow
  rw [List.find?_eq_none]
  intro j hj
  rw [h j (by simpa using hj)]
  decide
theorem firstRow_all {ds : List PyData} (h : firstRow ds = none) {j : Nat} (hj : j < ds.length) : rowOk (ds.getD j .none) (ds.getD 0 .none) = true := by
  unfold firstRow at h
  rw [List.find?_eq_none] at h
  have := h j (by simpa using hj)
  simpa using this
theorem all_prices {r : List (Option Int)} : (r.map pD).all priceD = true := by
  rw [List.all_map, List.all_eq_true]
  intro z _
  cases z <;> rfl
theorem prices_inv {ds : List PyData} (h : ds.all priceD = true) : ∃ r : List (Option Int), ds = r.map pD := by
  induction ds with
  | nil => exact ⟨[], rfl⟩
  | cons d ds ih =>
    rw [List.all_cons, Bool.and_eq_true] at h
    obtain ⟨z, rfl⟩ := price_inv h.1
    obtain ⟨r, rfl⟩ := ih h.2
    exact ⟨z :: r, rfl⟩
theorem row_okD {R : Rw} (g : Gt R) {i : Nat} (hi : i < R.length) : rowOk ((R.map rowD).getD i .none) ((R.map rowD).getD 0 .none) = true := by
  have e : ∀ k (hk : k < R.length), (R.map rowD).getD k .none = rowD R[k] := fun k hk => by
    rw [List.getD_eq_getElem?_getD, List.getElem?_map, List.getElem?_eq_getElem hk]
    rfl
  rw [e i hi, e 0 g.h0]
  have l1 := g.len hi
  have l2 := g.len g.h0
  have h1 := g.w0
  have h2 := g.w8
  simp only [rowD, rowOk, List.length_map, l1, l2, all_prices, Bool.and_eq_true, decide_eq_true_eq, and_true]
  omega
theorem badT_good {R : Rw} (g : Gt R) : badT (rowsD R) = none := by
  have h0 := g.h0
  have h8 := g.h8
  show (if (R.map rowD).length = 0 ∨ 8 < (R.map rowD).length then some (-1) else (firstRow (R.map rowD)).map Int.ofNat) = none
  rw [if_neg (by rw [List.length_map]; omega), firstRow_none (fun j hj => row_okD g (by simpa using hj))]
  rfl
/-- what is good is a table's rows -/
theorem badT_inv {d : PyData} (h : badT d = none) : ∃ R, d = rowsD R ∧ Gt R := by
  cases d with
  | list ds =>
    by_cases c : ds.length = 0 ∨ 8 < ds.length
    · have : badT (.list ds) = some (-1) := if_pos c
      rw [this] at h
      cases h
    · have hb : badT (.list ds) = (firstRow ds).map Int.ofNat := if_neg c
      rw [hb] at h
      have hf : firstRow ds = none := by
        cases e : firstRow ds with
        | none => rfl
        | some k => rw [e] at h; cases h
      have all := fun {j} (hj : j < ds.length) => firstRow_all hf hj
      have rows : ∀ d, d ∈ ds → ∃ r : List (Option Int), d = rowD r ∧ 1 ≤ r.length ∧ r.length ≤ 8 ∧ ∀ es, ds.getD 0 .none = .list es → r.length = es.length := by
        intro d hd
        obtain ⟨j, hj, rfl⟩ := List.getElem_of_mem hd
        have a := all hj
        rw [List.getD_eq_getElem?_getD (l := ds) (i := j), List.getElem?_eq_getElem hj] at a
        simp only [Option.getD_some] at a
        cases e1 : ds[j] with
        | list xs =>
          cases e2 : ds.getD 0 .none with
          | list es =>
            rw [e1, e2] at a
            simp only [rowOk, Bool.and_eq_true, decide_eq_true_eq] at a
            obtain ⟨⟨⟨a1, a2⟩, a3⟩, a4⟩ := a
            obtain ⟨r, rfl⟩ := prices_inv a4
            rw [List.length_map] at a1 a2 a3
            exact ⟨r, rfl, a1, a2, fun fs q => by cases q; exact a3⟩
          | _ => rw [e1, e2] at a; cases a
        | _ => rw [e1] at a; cases a
      have ex : ∃ R : Rw, ds = R.map rowD := by
        have : ∀ es : List PyData, (∀ d, d ∈ es → ∃ r : List (Option Int), d = rowD r) → ∃ R : Rw, es = R.map rowD := by
          intro es
          induction es with
          | nil => intro _; exact ⟨[], rfl⟩
          | cons d es ih =>
            intro k
            obtain ⟨r, rfl⟩ := k d List.mem_cons_self
            obtain ⟨R, rfl⟩ := ih fun e he => k e (List.mem_cons_of_mem _ he)
            exact ⟨r :: R, rfl⟩
        exact this ds fun d hd => by
          obtain ⟨r, e, _⟩ := rows d hd
          exact ⟨r, e⟩
      obtain ⟨R, rfl⟩ := ex
      rw [List.length_map] at c
      refine ⟨R, rfl, ?_⟩
      have hR : 0 < R.length := by omega
      have e0 : (R.map rowD).getD 0 .none = rowD R[0] := by
        rw [List.getD_eq_getElem?_getD, List.getElem?_map, List.getElem?_eq_getElem hR]
        rfl
      have w : wd R = R[0].length := by
        cases R with
        | nil => cases hR
        | cons r R => rfl
      have one : ∀ r, r ∈ R → 1 ≤ r.length ∧ r.length ≤ 8 ∧ r.length = wd R := by
        intro r hr
        obtain ⟨r', e, b1, b2, b3⟩ := rows (rowD r) (List.mem_map.mpr ⟨r, hr, rfl⟩)
        have l : r.length = r'.length := by
          have := PyData.list.inj e
          have := congrArg List.length this
          simpa using this
        have := b3 _ e0
        rw [List.length_map] at this
        exact ⟨by omega, by omega, by omega⟩
      have o := one _ (List.getElem_mem hR)
      exact ⟨hR, by omega, by omega, by omega, fun r hr => (one r hr).2.2⟩
  | _ => cases h
/-- a tuple of two ints -/
def twoD : PyData → Bool
  | .tuple [.int _, .int _] => true
  | _ => false
theorem twoD_inv {d : PyData} (h : twoD d = true) : ∃ a b, d = .tuple [.int a, .int b] := by
  unfold twoD at h
  split at h
  · exact ⟨_, _, rfl⟩
  · cases h
/-- a cell of the table -/
def cellD (R : Rw) : PyData → Bool
  | .tuple [.int a, .int b] => decide (0 ≤ a) && decide (a < R.length) && decide (0 ≤ b) && decide (b < wd R)
  | _ => false
theorem cellD_no {R : Rw} {d : PyData} (h : twoD d = false) : cellD R d = false := by
  unfold cellD
  split
  · rename_i a b
    exact absurd (show twoD (.tuple [.int a, .int b]) = true from rfl) (by rw [h]; decide)
  · rfl
theorem cellD_inv {R : Rw} {d : PyData} (h : cellD R d = true) : ∃ i j : Nat, d = prD ((i : Int), (j : Int)) ∧ i < R.length ∧ j < wd R := by
  unfold cellD at h
  split at h
  · rename_i a b
    simp only [Bool.and_eq_true, decide_eq_true_eq] at h
    obtain ⟨⟨⟨h1, h2⟩, h3⟩, h4⟩ := h
    refine ⟨a.toNat, b.toNat, ?_, by omega, by omega⟩
    rw [show ((a.toNat : Nat) : Int) = a by omega, show ((b.toNat : Nat) : Int) = b by omega]
    rfl
  · cases h
/-- its price, where it is a cell -/
def cellP (R : Rw) : PyData → Option Int
  | .tuple [.int a, .int b] => prc R a.toNat b.toNat
  | _ => none
theorem mem_cells {R : Rw} {i j : Nat} : ((i : Int), (j : Int)) ∈ cells R ↔ i < R.length ∧ j < wd R ∧ (prc R i j).isSome = true := by
  simp only [cells, List.mem_flatMap, List.mem_range, List.mem_map, List.mem_filter, Prod.mk.injEq]
  constructor
  · rintro ⟨a, ha, b, ⟨hb, hp⟩, e1, e2⟩
    have : a = i := by omega
    have : b = j := by omega
    subst_vars
    exact ⟨ha, hb, hp⟩
  · rintro ⟨ha, hb, hp⟩
    exact ⟨i, ha, j, ⟨hb, hp⟩, rfl, rfl⟩
end Pk
set_option Elab.async false
set_option linter.all false
set_option maxRecDepth 100000
set_option maxHeartbeats 1000000
namespace Pk
open PySem L2 PySem.Spec PyProof.Rows
/-! ### either promise of a def -/
def spOr (a b : Sp) : Sp := fun vs H Q E => a vs H Q E ∨ b vs H Q E
theorem _root_.L2.FnOk.or {P : Program} {w : World} {K : PySem.W.Frag} {mg : Str → Option Value} {base : Heap} {CX : CXT} {k : Nat} {f : Addr} {fd : FuncData} {ps : List Str} {a b : Sp} (A : FnOk P w K mg base CX k f fd ps a) (B : FnOk P w K mg base CX k f fd ps b) : FnOk P w K mg base CX k f fd ps (spOr a b) :=
  ⟨fun vs H Q E h => h.elim (A.len vs H Q E) (B.len vs H Q E), fun A' outer s H args us vs Q E hr he hb hv hs => hs.elim (A.run A' outer s H args us vs Q E hr he hb hv) (B.run A' outer s H args us vs Q E hr he hb hv)⟩
theorem ErrOk.or {P : Program} {w : World} {K : PySem.W.Frag} {mg : Str → Option Value} {base : Heap} {k : Nat} {C fI : Addr} {a b : Sp} (A : ErrOk P w K mg base k C fI a) (B : ErrOk P w K mg base k C fI b) : ErrOk P w K mg base k C fI (spOr a b) :=
  ⟨fun A' outer s H us vs x Q hr he hv hx hs => hs.elim (A.run A' outer s H us vs x Q hr he hv hx) (B.run A' outer s H us vs x Q hr he hv hx)⟩
/-! ### the dict {0: 1} -/
abbrev kvs01 : List (Key × V) := [(.inl 0, .int 1)]
def D01 (H : Hp) (v : V) : Prop := ∃ a : Addr, v = .ref a ∧ H a = some (.dK kvs01)
theorem D01.later {H H' : Hp} {v : V} (s : Same H H') (h : D01 H v) : D01 H' v := let ⟨a, e, q⟩ := h; ⟨a, e, s _ _ q⟩
theorem D01.ty {K : PySem.W.Frag} {H : Hp} {v : V} (h : D01 H v) : TyX K H v (.type "dict") := by
  obtain ⟨a, rfl, q⟩ := h
  exact .base (.dK q)
/-- .. new since H0 -/
def D01n (H0 H : Hp) (v : V) : Prop := ∃ a : Addr, v = .ref a ∧ H0 a = none ∧ H a = some (.dK kvs01)
theorem D01n.at_ {H0 H : Hp} {v : V} (h : D01n H0 H v) : D01 H v := let ⟨a, e, _, q⟩ := h; ⟨a, e, q⟩
/-- own_copy of it -/
def spCopyD : Sp := fun vs H Q _ => ∃ v : V, vs = [v] ∧ D01 H v ∧ ∀ (v' : V) (H' : Hp), Same H H' → D01n H H' v' → Q v' H'
/-- an __init__ of one field, a copy of such a dict -/
def spErrD (K : PySem.W.Frag) (C : Addr) (f : Str) : Sp := fun vs H Q _ => ∃ (x : Addr) (v : V), vs = [.ref x, v] ∧ H x = some (exo x C none) ∧ D01 H v ∧
  ∀ (dx : Addr) (v' : V) (H' : Hp), H' x = some (exo x C (some dx)) → H' dx = some (exd dx [(f, v')]) → H dx = none → dx ≠ x → Keep x H H' → D01n H H' v' → Q .non H'
theorem exd_dk {dx : Addr} {fs : List (Str × V)} {kvs : List (Key × V)} : exd dx fs ≠ .dK kvs := fun z => by cases (show HO.ext _ = HO.dK kvs from z)
theorem dc_it {J : It} {n : Nat} {G : Hp → Prop} {Y : Nat → Hp → V → Hp → Prop} (w : Walk J n G Y) {g : TG} {tt : TT} {tk tv : TE} {vs : List Nat} {σ : L2.St} {H1 : Hp} {D : Addr} {Qd : Hp → Prop} (Pv : Nat → Hp → Prop) (h0 : Pv 0 (upd H1 D (.dK []))) (hG : ∀ i H, i ≤ n → Pv i H → G H)
    (hs : ∀ i x H H', i < n → Pv i H → Y i H x H' → g x (wipe σ vs) H' fun σ2 H2 => wipe σ2 vs = wipe σ vs ∧ tt σ2 H2 fun b H3 =>
      if b = true then tk σ2 H3 fun y H4 => tv σ2 H4 fun z H5 => ∃ kvs k, y = kV k ∧ H5 D = some (.dK kvs) ∧ kvs.length < sizeLine ∧ Pv (i + 1) (upd H5 D (.dK (putK kvs k z))) else Pv (i + 1) H3) (hd : ∀ H, Pv n H → Qd H) :
    ∃ W : Nat → Nat → Hp → Prop, (∃ m, W 0 m (upd H1 D (.dK []))) ∧ ∀ i m H, W i m H →
      (J.stop i H ∧ Qd H) ∨ (J.go i H ∧ ∃ Nx : Hp → Prop, (∀ H', Nx H' → ∃ m', m' < m ∧ W (i + 1) m' H') ∧ ∀ x H', J.yld i H x H' → g x (wipe σ vs) H' fun σ2 H2 => wipe σ2 vs = wipe σ vs ∧ tt σ2 H2 fun b H3 =>
        if b = true then tk σ2 H3 fun y H4 => tv σ2 H4 fun z H5 => ∃ kvs k, y = kV k ∧ H5 D = some (.dK kvs) ∧ kvs.length < sizeLine ∧ Nx (upd H5 D (.dK (putK kvs k z))) else Nx H3) :=
  lc_any w (B := fun Nx x H' => g x (wipe σ vs) H' fun σ2 H2 => wipe σ2 vs = wipe σ vs ∧ tt σ2 H2 fun b H3 => if b = true then tk σ2 H3 fun y H4 => tv σ2 H4 fun z H5 => ∃ kvs k, y = kV k ∧ H5 D = some (.dK kvs) ∧ kvs.length < sizeLine ∧ Nx (upd H5 D (.dK (putK kvs k z))) else Nx H3) Pv h0 hG hs hd
section
variable {P : Program} {w : World} {K : PySem.W.Frag} {mg : Str → Option Value} {base : Heap} {C fI cc fc : Addr} {fdc : FuncData} {F : NdefX.NF} {n : Nat} {f g : Str}
theorem err_oneD {msg : Str} {kd : Nat} {p0 p1 p2 p3 p4 p5 q0 q1 q2 q3 q4 q5 : Pos} (T : ErrC K C) (J : InitFn P K C fI cc F) (ms : mg "super" = none) (G : FnOk P w K mg base CX0 (n + 1) fc fdc ["value"] spCopyD) (mc : mg "own_copy" = some (.ref fc)) (kc : PySem.W.keepIn K (.ref fc) = true)
    (bc : Binds K fdc ["value"] []) (S : NdefX.NScope ["self", f, "__class__"] ["self", f] ["__class__"] F.scope)
    (hB : F.body = .Expr (.Call (.Attribute (.Call (.Name "super" p0) [] [] p1) "__init__" p2) [.Constant (.str msg) kd p3] [] p4) p5 :: [.Assign [.Attribute (.Name "self" q0) f q1] (.Call (.Name "own_copy" q2) [.Name f q3] [] q4) q5])
    (hsg : F.scope.names.lookup ("super" : Str) = some .globalImplicit) (hog : F.scope.names.lookup ("own_copy" : Str) = some .globalImplicit) (free : PySem.W.findIn K (.ref C) f = some none)
    (hb : ∀ (kV doc pm ct : Value) (an : Option Addr) (us : List Value), us.length = 2 → bindArgs (PySem.W.fnX F.name F.qual F.params F.body F.scope F.cl .none kV doc pm an (.ref F.c) ct) ⟨us, []⟩ = pure ((["self", f] : List Str).zip us))
    {pl : Sem Bool} (he : ∀ env : Env, eval (.Call (.Attribute (.Call (.Name "super" p0) [] [] p1) "__init__" p2) [.Constant (.str msg) kd p3] [] p4) env = (do
      let ov ← attributeBase (.Call (.Name "super" p0) [] [] p1) "__init__" env (eval (.Call (.Name "super" p0) [] [] p1) env)
      standAt p2.atName
      let (f, first) ← holding [ov] (getMethod ov "__init__" pl)
      callWith p4 f first (backTo p4 (starEach [.Constant (.str msg) kd p3] env)) []))
    (fd : (f == ("__debug__" : Str)) = false) (fcd : (f == ("__classdict__" : Str)) = false) : ErrOk P w K mg base (n + 2) C fI (spErrD K C f) := by
  refine ⟨fun A outer s H us vs x Q hr e0 r ex hsp => ?_⟩
  obtain ⟨x', v, evs, _, hv, k⟩ := hsp
  obtain ⟨rfl, rfl⟩ : x = x' ∧ vs = [v] := by
    have z := List.cons.inj evs
    exact ⟨V.ref.inj z.1, z.2⟩
  have lu : us.length = 2 := by rw [← r.length]; rfl
  refine init_run (k := n + 1) (rest := [.Assign [.Attribute (.Name "self" q0) f q1] (.Call (.Name "own_copy" q2) [.Name f q3] [] q4) q5]) (x := x) T J ms S hB hsg (S.par _ (by simp)) hr e0 (fun kV doc pm ct an => BindsTo.of_eq (hb kV doc pm ct an us lu)) r rfl rfl rfl ex he fun hr' => ?_
  refine ⟨_, pss_one (ps_errSet (pe_var (i := 0) rfl (.inl (S.par _ (by simp)))) (pe_call G hr' hog mc kc bc .nil pass0 (pa_cons (pe_var (i := 1) rfl (.inl (S.par _ (by simp))) fd fcd) pa_nil)) ?sw), ?_⟩
  case sw => rfl
  refine r_errSet ?_
  refine r_call ?_
  refine r_cons ?_
  refine r_var rfl ?_
  refine r_nil ?_
  refine ⟨v, rfl, hv, fun v' H1 s1 o1 => ?_⟩
  refine r_var rfl ?_
  refine ⟨x, C, rfl, T, free, .inl ⟨s1 _ _ ex, fun dx hdx ne => ?_⟩⟩
  obtain ⟨b, e1, n1, h1⟩ := o1
  refine k dx v' _ upd_same (by rw [upd_ne ne, upd_same]) (s1.free hdx) ne (Keep.own (Keep.new (Keep.same s1) hdx)) ⟨b, e1, n1, ?_⟩
  have nx : b ≠ x := fun z => by rw [z, ex] at n1; cases n1
  have nd : b ≠ dx := fun z => by rw [z, hdx] at h1; cases h1
  rw [upd_ne nx, upd_ne nd]
  exact h1
theorem r_errD {σ : L2.St} {H : Hp} {Q : XK} {v : V} (hv : D01 H v) (q : ∀ (dd : Addr) (v' : V) (H' : Hp), Same H H' → H dd = none → H' dd = some (.xd [(f, v')]) → D01n H H' v' → Q (.ref C) (some dd) H') :
    [v].length ≤ 1000 ∧ ∀ x, H x = none → spErrD K C f (.ref x :: [v]) (upd H x (exo x C none)) (fun v H2 => v = .non ∧ ∃ (d : Addr) (fs : List (Str × V)), H2 x = some (exo x C (some d)) ∧ H2 d = some (exd d fs) ∧ H d = none ∧ Q (.ref C) (some d) (upd (del H2 x) d (.xd fs))) (fun _ _ _ => False) := by
  refine ⟨by show 1 ≤ 1000; decide, fun x hx => ?_⟩
  have s0 : Same H (upd H x (exo x C none)) := Same.up (Same.refl H) hx
  refine ⟨x, v, rfl, upd_same, hv.later s0, fun dx v' H' h1 h2 h3 ne h4 h5 => ⟨rfl, dx, _, h1, h2, ?_, ?_⟩⟩
  · rw [upd_ne ne] at h3; exact h3
  · rw [upd_ne ne] at h3
    obtain ⟨b, e1, n1, hb⟩ := h5
    have nx : b ≠ x := fun z => by rw [z, upd_same] at n1; cases n1
    have nd : b ≠ dx := fun z => by
      rw [z, h2] at hb
      exact exd_dk (Option.some.inj hb)
    refine q dx v' _ (fun b o e => ?_) h3 upd_same ⟨b, e1, s0.free n1, ?_⟩
    · have nb : b ≠ x := ne_of_none e hx
      rw [upd_ne (ne_of_none e h3), del_ne nb]
      exact h4 b o nb (s0 b o e)
    · rw [upd_ne nd, del_ne nx]
      exact hb
end
end Pk
set_option Elab.async false
set_option linter.all false
set_option maxRecDepth 100000
set_option maxHeartbeats 1000000
namespace Pk
open PySem L2 PySem.Spec PyProof.Rows
/-- a clause's ends: its name is gone behind it -/
def goneAt (i : Nat) (D : Ends) : Ends := { nx := fun τ G => D.nx (τ.set i none) G, rt := D.rt, bk := fun τ G => D.bk (τ.set i none) G, ct := fun τ G => D.ct (τ.set i none) G }
abbrev Cl := Value × Nat × (Addr → Value → Option Addr → TS)
/-- what several clauses 'except c as n' wish of an exception of the body, one behind another -/
def wAsMany (K : PySem.W.Frag) (Wout : WX) (D : Ends) : List Cl → WX
  | [] => Wout
  | (c, i, ts) :: r => fun k d τ G => ∃ b, PySem.W.exmOne K k c = some b ∧ (b = true → ∀ a, G a = none → ts a k d (goneAt i D) (τ.set i (some (.ref a))) G) ∧ (b = false → wAsMany K Wout D r k d τ G)
inductive ClsOk (X : Cx) : List ExceptHandler → List Cl → Prop
  | nil : ClsOk X [] []
  | cons {x n : Str} {c : Value} {i : Nat} {ts : Addr → Value → Option Addr → TS} {b₀ : Stmt} {su : List Stmt} {np ps : Pos} {hds : List ExceptHandler} {l : List Cl} (hc : Names X x c) (hi : X.N[i]? = some n) (hk : X.env.kindOf n = some .local)
      (hsu : ∀ (a : Addr) (oe : Obj) (k : Value) (d : Option Addr) (pn : List (Addr × Obj)), Zc k d oe → (∃ vs, oe.data = .fields vs) → PSs (X.suite a ((a, oe) :: pn)) (b₀ :: su) (ts a k d)) (r : ClsOk X hds l) :
      ClsOk X (.ExceptHandler (some (.Name x np)) (some n) (b₀ :: su) ps :: hds) ((c, i, ts) :: l)
section
variable {X : Cx} {body : List Stmt} {h₀ : ExceptHandler} {hds : List ExceptHandler} {l : List Cl} {pos : Pos} {tb : WX → TS} {Wout : WX}
theorem ps_try_asMany (hs : X.stack = X.env :: X.outer) (hf : X.env.frame = some X.env.locals) (hN : X.N.Nodup) (tk : Takes X Wout)
    (hb : ∀ (W : WX) (pn : List (Addr × Obj)) (xe : Value → Shared → Prop), Takes (X.tr pn xe) W → PassesOwn (model X.prog X.w) X.A X.env xe → PSs (X.tr pn xe) body (tb W)) (hh : ClsOk X (h₀ :: hds) l) :
    PS X (.Try body (h₀ :: hds) [] [] pos) (fun D τ G => tb (wAsMany X.K Wout D l) D τ G) := by
  refine ⟨fun pins s τ G D I h => ?_⟩
  have oki := I.ok
  have frm : X.A.frames = some (X.env :: X.outer) := oki.frames.trans (congrArg some hs)
  refine wpAny_Try_except (wpAny_mono ((hb (wAsMany X.K Wout D l) (X.pn ++ pins) (fun e s₁ => wpAny (model X.prog X.w) X.A (noteFrame e X.env) (fun _ s₂ => wpAny (model X.prog X.w) X.A (setFlight e none)
    (fun _ s₃ => wpAny (model X.prog X.w) X.A (handleBy e X.env (h₀ :: hds)) (SP X pins D) X.xe s₃) X.xe s₂) X.xe s₁) (fun u st xx => ?caught) PassesOwn.looking).run [] s τ G D (I.toTry _) h) (fun fl st hsp => ?through) (fun e st he => he))
  case through =>
    cases fl with
    | next => obtain ⟨τ', G', J, q⟩ := hsp; exact wpAny_execs_nil ⟨τ', G', J.ofTry oki, q⟩
    | brk => obtain ⟨τ', G', J, q⟩ := hsp; exact ⟨τ', G', J.ofTry oki, q⟩
    | cont => obtain ⟨τ', G', J, q⟩ := hsp; exact ⟨τ', G', J.ofTry oki, q⟩
    | ret u => obtain ⟨v, τ', G', J, r, q⟩ := hsp; exact ⟨v, τ', G', J.ofTry oki, r, q⟩
  case caught =>
    obtain ⟨a, B, sI, pins', τ', G', k, d, rfl, J', nb, up, sky, na, os, ag, w⟩ := xx
    have J : Inv X pins τ' G' sI := J'.ofTry oki
    have skyB : Sky B (X.env :: X.outer) a (Zc k d) X.env.locals st.heap := hs ▸ sky
    show wpAny (model X.prog X.w) X.A (noteFrame (.ref a) X.env) _ _ _
    refine Sky.land Zc.steady frm hf skyB fun h3 fl3 up3 => ?_
    have J3 : Inv X pins τ' G' { st with heap := h3 } := J.landed nb fl3.1 (up.trans up3) os ag
    obtain ⟨oe3, vs3, he3, hz3, hd3⟩ := fl3.there
    have off : a ∉ frs (X.env :: X.outer) := fun hm => by
      obtain ⟨_, o', e', hnf⟩ := fl3.2.2.1.mem hm
      cases he3.symm.trans e'; exact hnf _ hd3
    have nL : a ≠ X.env.locals := fun z => off (List.mem_filterMap.mpr ⟨X.env, List.mem_cons_self, by rw [hf, z]⟩)
    have nF : a ∉ X.fs := fun hm => let ⟨e, he, q⟩ := List.mem_filterMap.mp hm; off (List.mem_filterMap.mpr ⟨e, List.mem_cons_of_mem _ he, q⟩)
    have S3 := J3.suite he3 hd3 na nL nF
    suffices go : ∀ {ks : List ExceptHandler} {m : List Cl}, ClsOk X ks m → wAsMany X.K Wout D m k d τ' G' → wpAny (model X.prog X.w) X.A (handleBy (.ref a) X.env ks) (SP X pins D) X.xe { st with heap := h3 } from go hh w
    intro ks m hk
    induction hk with
    | nil =>
      intro w; refine wpAny_handleBy_nil ?_
      obtain ⟨_, _, _, oe, vs, T, oT, tz, he, hz, hd, h1, hr⟩ := id fl3
      unfold PySem.passOn
      refine wpAny_bind (wpAny_field he hd h1 ?_)
      rw [if_neg (by simp : ¬ ((Value.ref T == Value.none) = true))]
      have out : wpAny (model X.prog X.w) X.A (setFlight (.ref a) X.env.frame) (fun _ s4 => wpAny (model X.prog X.w) X.A (throw (.ref a) : Sem Flow) (SP X pins D) X.xe s4) X.xe { st with heap := h3 } := by
        rw [hf]; refine HandSPX.setFlight_upZ fl3 fun h4 hh4 up4 => wpAny_throw (tk _ _ ?_)
        exact ⟨a, B, sI, pins, τ', G', k, d, rfl, J, nb, (up.trans up3).trans up4, .inr (.inr (hs.symm ▸ hh4)), na, os, ag, w⟩
      first | exact wpAny_bind (wpAny_pure (wpAny_bind out)) | exact wpAny_bind out
    | @cons x n c i ts b₀ su np ps hds2 l2 hc hi hln hsu r ih =>
      intro w
      obtain ⟨b, hb1, yes, no⟩ := w
      refine wpAny_handleBy_cons (codeAny_handlers_test ?_) (by intro q; cases q)
      have tyL : PySem.W.Looks (model X.prog X.w) h3 (typeOf (.ref a)) k := fun A Q E s kk q => wpAny_typeOf_ref (kk _ _ he3) (hz3.1.symm ▸ q)
      have mt := PySem.W.exm_one (M := model X.prog X.w) (J3.kIn) tyL hb1
      have ask : ∀ {Q : Value → Shared → Prop} {E : Value → Shared → Prop}, Q c { st with heap := h3 } → wpAny (model X.prog X.w) (X.A.mark (some (.ref a))) (eval (.Name x np) X.env) Q E { st with heap := h3 } := fun {Q E} q => by
        obtain ⟨hg, hdb, g | ⟨g, hv, hnn⟩⟩ := hc
        · exact ld_glob (X := X.suite a ((a, oe3) :: (X.pn ++ pins))) S3 hg g q hdb
        · exact ld_blt (X := X.suite a ((a, oe3) :: (X.pn ++ pins))) S3 hg g hv q hnn hdb
      refine ask (mt.here ?_)
      cases b with
      | false => show wpAny _ X.A (handleBy (.ref a) X.env hds2) _ _ _; exact ih (no rfl)
      | true =>
        refine codeAny_handlers_suite_as (HandSPX.lands_againZ fl3 fun h4 fl4 up4 => ?_)
        have J4 : Inv X pins τ' G' { st with heap := h4 } := J.landed nb fl4.1 ((up.trans up3).trans up4) os ag
        obtain ⟨oe4, vs4, he4, hz4, hd4⟩ := fl4.there
        have S4 := J4.suite he4 hd4 na nL nF
        refine store_ok (X := X.suite a ((a, oe4) :: (X.pn ++ pins))) (v := .ref a) S4 hN hi (.inl hln) rfl (fun s5 S5 => ?_) (.inr hln)
        refine wpAny_mono ((hsu a oe4 k d (X.pn ++ pins) hz4 ⟨_, hd4⟩).run [] s5 _ G' _ S5 (yes rfl a na)) (fun f s6 hsp => ?_) (fun _ _ z => False.elim z)
        have fin : ∀ {τ6 : L2.St} {G6 : Hp} {Q : Shared → Prop}, Inv (X.suite a ((a, oe4) :: (X.pn ++ pins))) [] τ6 G6 s6 → (∀ s7, Inv X pins (τ6.set i none) G6 s7 → Q s7) →
            wpAny (model X.prog X.w) X.A (do bindName X.env n .none; unbindBehindTheSuite X.env n ps) (fun _ s7 => Q s7) X.xe s6 := fun {τ6 G6 Q} S6 hq => gone_ok (S6.unsuite oki) hN hi hln hq
        cases f with
        | next => obtain ⟨τ6, G6, S6, q6⟩ := hsp; exact fin S6 fun s7 J7 => ⟨_, _, J7, q6⟩
        | brk => obtain ⟨τ6, G6, S6, q6⟩ := hsp; exact fin S6 fun s7 J7 => ⟨_, _, J7, q6⟩
        | cont => obtain ⟨τ6, G6, S6, q6⟩ := hsp; exact fin S6 fun s7 J7 => ⟨_, _, J7, q6⟩
        | ret u => obtain ⟨v6, τ6, G6, S6, r6, q6⟩ := hsp; exact fin S6 fun s7 J7 => ⟨_, _, _, J7, r6, q6⟩
end
end Pk
set_option Elab.async false
set_option linter.all false
set_option maxRecDepth 100000
set_option maxHeartbeats 1000000
namespace Pk
open PySem L2 PySem.Spec PyProof.Rows
/-! ### a method is called where what it raises is wished for at the caller's slots -/
def tMethT (C : Addr) (m : Str) (sp : Sp) (E : L2.St → XK) (ta : TE) (t : TA) : TE := fun σ H Q => ta σ H fun x H1 => ∃ a dx fs, x = .ref a ∧ H1 a = some (.ins C dx fs) ∧ fs.lookup m = none ∧ t σ H1 fun vs H2 => sp (x :: vs) H2 Q (E σ)
theorem r_methT {C : Addr} {m : Str} {sp : Sp} {E : L2.St → XK} {ta : TE} {t : TA} {σ : L2.St} {H : Hp} {Q : VK} (h : ta σ H fun x H1 => ∃ a dx fs, x = .ref a ∧ H1 a = some (.ins C dx fs) ∧ fs.lookup m = none ∧ t σ H1 fun vs H2 => sp (x :: vs) H2 Q (E σ)) : tMethT C m sp E ta t σ H Q := h
theorem pe_methT {X : Cx} {CX : CXT} {k : Nat} {f C : Addr} {fd : FuncData} {ps : List Str} {sp : Sp} {E : L2.St → XK} {m : Str} {pos apos : Pos} {o e : Expr} {es : List Expr} {ta : TE} {t : TA} {pl : Sem Bool} (he : PE X o ta) (c : Cls X.K C) (hm : Meth X.K C m f)
    (F : FnOk X.prog X.w X.K X.mg X.base CX k f fd ps sp) (hr : Room k X.A) (hb : Binds X.K fd ps []) (hx : ∀ σ, PassesAt CX X σ (E σ)) (ha : PA X (e :: es) t)
    (hst : starEach (e :: es) X.env = (false, eval e X.env) :: starEach es X.env := by rfl) (hpl : (backTo pos (starEach es X.env)).any (·.1) = false := by rfl)
    (ht : eval (.Call (.Attribute o m apos) (e :: es) [] pos) X.env = (do
      let ov ← eval o X.env
      standAt apos.atName
      let (f, first) ← holding [ov] (getMethod ov m pl)
      callWith pos f first (backTo pos (starEach (e :: es) X.env)) (backToKw pos (keywordEach [] X.env))) := by rfl) :
    PE X (.Call (.Attribute o m apos) (e :: es) [] pos) (tMethT C m sp E ta t) := by
  refine ⟨fun pins s σ H Q I h => ?_⟩
  refine PySem.W.methodCall_KW (pl := pl) (thn (he.run pins s σ H _ I h) fun u s1 ⟨x, H1, I1, rx, a, dx, fs, ex, ea, l, q⟩ => ?_) ht
  subst ex
  obtain rfl : u = Value.ref a := rx
  refine getmeth_ok I1 ea c hm l ?_
  refine PySem.W.callWith_K (first := [.ref a]) (h₀ := X.base) I.ok.mod.kin hm.kp (thn (ha.run pos pins s1 σ H1 _ I1 q) fun us s2 ⟨vs, H2, I2, r, q2⟩ => ⟨I2.kIn, ?_⟩) hst hpl
  exact run_fnS (us := .ref a :: us) (vs := .ref a :: vs) F hr hb (hx σ) I2 (.cons rfl r) q2
end Pk
set_option Elab.async false
set_option linter.all false
set_option maxRecDepth 100000
set_option maxHeartbeats 1000000
namespace Pk
open PySem L2 PySem.Spec PyProof.Rows
/-! ### a cut behind a statement -/
theorem r_cut {t u : TS} {D : Ends} {σ : L2.St} {H : Hp} (Mid : L2.St → Hp → Prop) (h1 : t { D with nx := Mid } σ H) (h2 : ∀ σ' H', Mid σ' H' → u D σ' H') : C8.tCut t u D σ H := ⟨Mid, h1, h2⟩
/-! ### the pool, further -/
theorem PoolAt.sameS {H H' : Hp} {p c : Addr} {ns : List Int} (h : PoolAt H p c ns) (s : Same H H') : PoolAt H' p c ns := by
  obtain ⟨a, b, z, n, h0, hP, hC⟩ := h
  exact ⟨a, b, z, n, h0, s _ _ hP, s _ _ hC⟩
theorem PoolAt.off {H : Hp} {p c D : Addr} {ns : List Int} {o : HO} (h : PoolAt H p c ns) (n1 : D ≠ p) (n2 : D ≠ c) : PoolAt (upd H D o) p c ns := by
  obtain ⟨a, b, z, n, h0, hP, hC⟩ := h
  exact ⟨a, b, z, n, h0, by rw [upd_ne (Ne.symm n1)]; exact hP, by rw [upd_ne (Ne.symm n2)]; exact hC⟩
theorem PoolAt.ex {H : Hp} {p c : Addr} {ns : List Int} (h : PoolAt H p c ns) : ∃ o, H p = some o := by
  obtain ⟨a, b, z, n, h0, hP, hC⟩ := h
  exact ⟨_, hP⟩
theorem PoolAt.exC {H : Hp} {p c : Addr} {ns : List Int} (h : PoolAt H p c ns) : ∃ o, H c = some o := by
  obtain ⟨a, b, z, n, h0, hP, hC⟩ := h
  exact ⟨_, hC⟩
theorem Keep.free {p a : Addr} {H H' : Hp} (k : Keep p H H') (n : H' a = none) (np : a ≠ p) : H a = none := by
  cases e : H a with
  | none => rfl
  | some o => rw [k a o np e] at n; cases n
theorem Keep.put {p D : Addr} {H H' : Hp} {o : HO} (k : Keep p H H') (n : H D = none) : Keep p H (upd H' D o) := fun b u nb e => by
  rw [upd_ne (fun z => by rw [z, n] at e; cases e)]
  exact k b u nb e
/-! ### prices that are drawn -/
def Sb (i : Int) : Prop := i.natAbs < 2 ^ 100
def Sz (i : Int) : Prop := i.natAbs < 2 ^ 204
theorem Sb.mul {a b : Int} (h : Sb a) (g : Sb b) : (a * b).natAbs < 2 ^ 200 := by
  rw [Int.natAbs_mul]
  have := Nat.mul_lt_mul'' h g
  exact Nat.lt_of_lt_of_le this (by decide)
theorem Sb.wide {a b : Int} (h : Sb a) (g : Sb b) : CMulW a b := wide_mul h g (by decide) (by decide) (by decide)
def Bd (R : Rw) : Prop := ∀ r, r ∈ R → ∀ i : Int, some i ∈ r → Sz i
/-- tops: pairs of prices -/
structure TL (p D : Addr) (tv : List V) (H : Hp) : Prop where
  ne : D ≠ p
  at_ : H D = some (.lst tv)
  all : ∀ (j : Nat) (v : V), tv[j]? = some v → ∃ (t : Addr) (b y : Int), v = .ref t ∧ t ≠ p ∧ H t = some (.tup [.int b, .int y]) ∧ Sb b ∧ Sb y
theorem TL.keep {p D : Addr} {tv : List V} {H H' : Hp} (l : TL p D tv H) (k : Keep p H H') : TL p D tv H' := ⟨l.ne, k _ _ l.ne l.at_, fun j v e => by
  obtain ⟨t, b, y, e1, n, h, h1, h2⟩ := l.all j v e
  exact ⟨t, b, y, e1, n, k _ _ n h, h1, h2⟩⟩
theorem TL.put {p D L : Addr} {tv ws : List V} {H : Hp} {o : HO} (l : TL p D tv H) (hL : H L = some (.lst ws)) (n : D ≠ L) : TL p D tv (upd H L o) := ⟨l.ne, by rw [upd_ne n]; exact l.at_, fun j v e => by
  obtain ⟨t, b, y, e1, m, h, h1, h2⟩ := l.all j v e
  exact ⟨t, b, y, e1, m, by rw [upd_ne (fun z => by rw [z, hL] at h; cases h)]; exact h, h1, h2⟩⟩
/-- no list stands twice -/
def Dist (es : List V) : Prop := ∀ (i j : Nat) (a : Addr), es[i]? = some (V.ref a) → es[j]? = some (V.ref a) → i = j
theorem Dist.nil : Dist [] := fun i j a e _ => by simp at e
theorem Dist.more {es : List V} {b : Addr} (h : Dist es) (m : ∀ (j : Nat) (v : V), es[j]? = some v → v ≠ .ref b) : Dist (es ++ [.ref b]) := fun i j a e1 e2 => by
  have side : ∀ {k : Nat}, (es ++ [V.ref b])[k]? = some (.ref a) → (k < es.length ∧ es[k]? = some (.ref a)) ∨ (k = es.length ∧ a = b) := fun {k} e => by
    by_cases c : k < es.length
    · rw [List.getElem?_append_left c] at e
      exact .inl ⟨c, e⟩
    · rw [List.getElem?_append_right (by omega)] at e
      have : k - es.length = 0 := by
        have := (List.getElem?_eq_some_iff.mp e).1
        simp at this
        omega
      rw [this] at e
      cases (Option.some.inj e)
      exact .inr ⟨by omega, rfl⟩
  rcases side e1 with ⟨c1, f1⟩ | ⟨c1, f1⟩ <;> rcases side e2 with ⟨c2, f2⟩ | ⟨c2, f2⟩
  · exact h i j a f1 f2
  · exact absurd (by rw [f2]) (m i _ f1)
  · exact absurd (by rw [f1]) (m j _ f2)
  · omega
/-- the rows made so far -/
structure RK (p : Addr) (H0 H : Hp) (L : Addr) (es : List V) (R : Rw) : Prop where
  ne : L ≠ p
  nw : H0 L = none
  at_ : H L = some (.lst es)
  len : es.length = R.length
  row : ∀ (j : Nat) (v : V), es[j]? = some v → ∃ a, v = .ref a ∧ a ≠ p ∧ a ≠ L ∧ H0 a = none ∧ H a = some (.lst ((R.getD j []).map pV))
  dist : Dist es
theorem RK.keep {p L : Addr} {H0 H H' : Hp} {es : List V} {R : Rw} (l : RK p H0 H L es R) (k : Keep p H H') : RK p H0 H' L es R := ⟨l.ne, l.nw, k _ _ l.ne l.at_, l.len, fun j v e => by
  obtain ⟨a, e1, n1, n2, n3, h⟩ := l.row j v e
  exact ⟨a, e1, n1, n2, n3, k _ _ n1 h⟩, l.dist⟩
theorem RK.put {p L b : Addr} {H0 H : Hp} {es : List V} {R : Rw} {o : HO} (l : RK p H0 H L es R) (n : L ≠ b) (m : ∀ (j : Nat) (v : V), es[j]? = some v → v ≠ .ref b) : RK p H0 (upd H b o) L es R := ⟨l.ne, l.nw, by rw [upd_ne n]; exact l.at_, l.len, fun j v e => by
  obtain ⟨a, e1, n1, n2, n3, h⟩ := l.row j v e
  exact ⟨a, e1, n1, n2, n3, by rw [upd_ne (fun z => m j v e (by rw [e1, z]))]; exact h⟩, l.dist⟩
theorem RK.more {p L b : Addr} {H0 H : Hp} {es : List V} {R : Rw} {r : List (Option Int)} (l : RK p H0 H L es R) (h1 : b ≠ p) (h2 : b ≠ L) (h3 : H0 b = none) (h4 : H b = some (.lst (r.map pV))) (m : ∀ (j : Nat) (v : V), es[j]? = some v → v ≠ .ref b) : RK p H0 (upd H L (.lst (es ++ [.ref b]))) L (es ++ [.ref b]) (R ++ [r]) := by
  refine ⟨l.ne, l.nw, upd_same, by rw [List.length_append, List.length_append, l.len]; rfl, fun j v e => ?_, l.dist.more m⟩
  by_cases ji : j < es.length
  · rw [List.getElem?_append_left ji] at e
    obtain ⟨a, e1, n1, n2, n3, h⟩ := l.row j v e
    refine ⟨a, e1, n1, n2, n3, ?_⟩
    rw [upd_ne n2, h, List.getD_eq_getElem?_getD, List.getD_eq_getElem?_getD, List.getElem?_append_left (by rw [← l.len]; exact ji)]
  · rw [List.getElem?_append_right (by omega)] at e
    have : j = es.length := by
      have := (List.getElem?_eq_some_iff.mp e).1
      simp at this
      omega
    subst this
    rw [Nat.sub_self] at e
    cases (Option.some.inj e)
    refine ⟨b, rfl, h1, h2, h3, ?_⟩
    rw [upd_ne h2, h4, l.len, List.getD_eq_getElem?_getD, List.getElem?_append_right (Nat.le_refl _), Nat.sub_self]
    rfl
/-- a list of rows, new since H, the pool aside -/
structure NewK (p : Addr) (H H' : Hp) (r : Addr) (es : List V) (R : Rw) : Prop where
  ne : r ≠ p
  nw : H r = none
  rl : RL H' r es R
  rows : ∀ (i : Nat) (c : Addr), es[i]? = some (V.ref c) → H c = none ∧ c ≠ r ∧ c ≠ p
  dist : Dist es
theorem RK.new {p L : Addr} {H0 H : Hp} {es : List V} {R : Rw} (l : RK p H0 H L es R) : NewK p H0 H L es R := ⟨l.ne, l.nw, ⟨l.at_, l.len, fun i v e => by
  obtain ⟨a, e1, n1, n2, n3, h⟩ := l.row i v e
  exact ⟨a, e1, h⟩⟩, fun i c e => by
  obtain ⟨a, e1, n1, n2, n3, h⟩ := l.row i _ e
  cases e1
  exact ⟨n3, n2, n1⟩, l.dist⟩
theorem RL.keepK {p : Addr} {G H : Hp} {e : Addr} {es : List V} {R : Rw} (l : RL G e es R) (k : Keep p G H) (n : e ≠ p) (m : ∀ (i : Nat) (a : Addr), es[i]? = some (V.ref a) → a ≠ p) : RL H e es R := ⟨k _ _ n l.at_, l.len, fun i v h => by
  obtain ⟨a, e1, e2⟩ := l.row i v h
  exact ⟨a, e1, k _ _ (m i a (by rw [h, e1])) e2⟩⟩
abbrev hpOf {H H' : Hp} (_ : Same H H') : Hp := H'
/-- rows that may be read, tracked or written -/
structure RS (K : PySem.W.Frag) (G : Hp) (e : Addr) (es : List V) (R : Rw) : Prop where
  at_ : SqL K G e es
  len : es.length = R.length
  row : ∀ (i : Nat) (v : V), es[i]? = some v → ∃ a, v = .ref a ∧ SqL K G a ((R.getD i []).map pV)
theorem RL.rs {K : PySem.W.Frag} {G : Hp} {e : Addr} {es : List V} {R : Rw} (l : RL G e es R) : RS K G e es R := ⟨SqL.of l.at_, l.len, fun i v h => by
  obtain ⟨a, e1, e2⟩ := l.row i v h
  exact ⟨a, e1, SqL.of e2⟩⟩
theorem RS.get {K : PySem.W.Frag} {G : Hp} {e : Addr} {es : List V} {R : Rw} (l : RS K G e es R) {i : Nat} (h : i < R.length) : ∃ a, es[i]? = some (.ref a) ∧ SqL K G a ((R.getD i []).map pV) := by
  have hi : i < es.length := by rw [l.len]; exact h
  obtain ⟨a, e1, e2⟩ := l.row i _ (List.getElem?_eq_getElem hi)
  exact ⟨a, by rw [List.getElem?_eq_getElem hi, e1], e2⟩
theorem RS.same {K : PySem.W.Frag} {G H : Hp} {e : Addr} {es : List V} {R : Rw} (l : RS K G e es R) (s : Same G H) : RS K H e es R := ⟨s.seq l.at_, l.len, fun i v h => by
  obtain ⟨a, e1, e2⟩ := l.row i v h
  exact ⟨a, e1, s.seq e2⟩⟩
theorem RS.all {K : PySem.W.Frag} {G : Hp} {e : Addr} {es : List V} {R : Rw} (l : RS K G e es R) : DpAll K G es (R.map rowD) := by
  refine dpAll_of (by rw [List.length_map]; exact l.len) fun i v d hv hd => ?_
  obtain ⟨a, rfl, h⟩ := l.row i v hv
  rw [List.getElem?_map] at hd
  cases q : R[i]? with
  | none => rw [q] at hd; cases hd
  | some r =>
    rw [q] at hd
    cases (Option.some.inj hd)
    rw [List.getD_eq_getElem?_getD, q] at h
    exact .lst h (row_dp r)
theorem RS.dp {K : PySem.W.Frag} {G : Hp} {e : Addr} {es : List V} {R : Rw} (l : RS K G e es R) : Dp K G (.ref e) (rowsD R) := .lst l.at_ l.all
theorem dp_pV {K : PySem.W.Frag} {H : Hp} {v : V} {z : Option Int} (h : Dp K H v (pD z)) : v = pV z := by
  cases z with
  | none => cases h; rfl
  | some i => cases h; rfl
theorem dp_pVs {K : PySem.W.Frag} {H : Hp} : ∀ {vs : List V} {r : List (Option Int)}, DpAll K H vs (r.map pD) → vs = r.map pV
  | [], [], _ => rfl
  | _ :: _, [], h => by cases h
  | [], _ :: _, h => by cases h
  | v :: vs, z :: r, h => by
    cases h with
    | cons h1 h2 => rw [dp_pV h1, dp_pVs h2]; rfl
theorem RS.of {K : PySem.W.Frag} {G : Hp} {v : V} {R : Rw} (h : Dp K G v (rowsD R)) : ∃ e es, v = .ref e ∧ RS K G e es R := by
  obtain ⟨e, es, rfl, he, ha⟩ := Dp.lstAt h
  refine ⟨e, es, rfl, he, by have := DpAll.len ha; rwa [List.length_map] at this, fun i v hv => ?_⟩
  obtain ⟨d, hd, pd⟩ := DpAll.at ha hv
  rw [List.getElem?_map] at hd
  cases q : R[i]? with
  | none => rw [q] at hd; cases hd
  | some r =>
    rw [q] at hd
    cases (Option.some.inj hd)
    obtain ⟨a, vs, rfl, h1, h2⟩ := Dp.lstAt pd
    rw [dp_pVs h2] at h1
    exact ⟨a, rfl, by rw [List.getD_eq_getElem?_getD, q]; exact h1⟩
/-! ### small data that can be laid and compared -/
structure Ni (n : Nat) (d : PyData) : Prop where
  lay : d.canLay0 = true
  deep : d.depth ≤ n
  plain : d.plain = true
theorem Ni.mono {n m : Nat} {d : PyData} (h : Ni n d) (l : n ≤ m) : Ni m d := ⟨h.lay, Nat.le_trans h.deep l, h.plain⟩
theorem ni_all {n : Nat} : ∀ {ds : List PyData}, (∀ d, d ∈ ds → Ni n d) → PyData.canLayAll0 ds = true ∧ PyData.depthAll ds ≤ n ∧ PyData.plainAll ds = true
  | [], _ => ⟨by simp [PyData.canLayAll0], by simp [PyData.depthAll], rfl⟩
  | d :: ds, h => by
    obtain ⟨a, b, c⟩ := ni_all (ds := ds) fun e he => h e (List.mem_cons_of_mem _ he)
    have k := h d List.mem_cons_self
    refine ⟨by simp [PyData.canLayAll0, k.lay, a], ?_, by simp [PyData.plainAll, k.plain, c]⟩
    rw [PyData.depthAll]
    exact Nat.max_le.mpr ⟨k.deep, b⟩
theorem Ni.list {n : Nat} {ds : List PyData} (h : ∀ d, d ∈ ds → Ni n d) : Ni (n + 1) (.list ds) := by
  obtain ⟨a, b, c⟩ := ni_all h
  exact ⟨by simp only [PyData.canLay0]; exact a, by simp only [PyData.depth]; omega, by simp only [PyData.plain]; exact c⟩
theorem Ni.tuple {n : Nat} {ds : List PyData} (h : ∀ d, d ∈ ds → Ni n d) : Ni (n + 1) (.tuple ds) := by
  obtain ⟨a, b, c⟩ := ni_all h
  exact ⟨by simp only [PyData.canLay0]; exact a, by simp only [PyData.depth]; omega, by simp only [PyData.plain]; exact c⟩
theorem Ni.int {n : Nat} (i : Int) : Ni n (.int i) := ⟨by simp [PyData.canLay0], by simp [PyData.depth], rfl⟩
theorem Ni.non {n : Nat} : Ni n .none := ⟨by simp [PyData.canLay0], by simp [PyData.depth], rfl⟩
theorem Ni.bl {n : Nat} (b : Bool) : Ni n (.bool b) := ⟨by simp [PyData.canLay0], by simp [PyData.depth], rfl⟩
theorem Ni.pD {n : Nat} (z : Option Int) : Ni n (pD z) := by
  cases z
  · exact .non
  · exact .int _
theorem Ni.row {n : Nat} (r : List (Option Int)) : Ni (n + 1) (rowD r) := Ni.list fun d hd => by
  obtain ⟨z, _, rfl⟩ := List.mem_map.mp hd
  exact .pD z
theorem Ni.rows {n : Nat} (R : Rw) : Ni (n + 2) (rowsD R) := Ni.list fun d hd => by
  obtain ⟨r, _, rfl⟩ := List.mem_map.mp hd
  exact .row r
theorem Ni.shaped {n : Nat} {d : PyData} (h : Ni n d) (l : n ≤ 30) : SeqAt.shaped d = true := by
  have := h.deep
  simp only [SeqAt.shaped, h.lay, Bool.true_and]
  exact decide_eq_true (by omega)
theorem eqv_plain {d : PyData} (h : d.plain = true) : PyData.eqv d d = true := PySem.SeqAt.eqv_refl_plain d h
def spPrc : Sp := fun vs H Q _ => ∃ (p c : Addr) (ns : List Int) (z : Int), vs = [.ref p, .int z] ∧ PoolAt H p c ns ∧ ∀ (r : Int) (H' : Hp), Sb r → Keep p H H' → PoolAt H' p c ns → Q (.int r) H'
def spEnt : Sp := fun vs H Q _ => ∃ st q a b x y : Int, vs = [.int st, .int q, .int a, .int b, .int x, .int y] ∧ Sb q ∧ Sb a ∧ Sb b ∧ Sb x ∧ Sb y ∧ ∀ r : Int, Sz r → Q (.int r) H
/-- _law_rows(pool, most) -/
def spLRws : Sp := fun vs H Q _ => ∃ (p c : Addr) (ns : List Int) (m : Int), vs = [.ref p, .int m] ∧ PoolAt H p c ns ∧ 0 < m ∧ m ≤ 8 ∧
  ∀ (r : Addr) (es : List V) (R : Rw) (H' : Hp), Keep p H H' → PoolAt H' p c ns → NewK p H H' r es R → Gt R → Bd R → (R.length : Int) ≤ m → (wd R : Int) ≤ m → Q (.ref r) H'
/-- _law_copy(rows) -/
def spLCpy (K : PySem.W.Frag) : Sp := fun vs H Q _ => ∃ (a : Addr) (es : List V) (R : Rw), vs = [.ref a] ∧ RS K H a es R ∧ R.length ≤ 8 ∧ ∀ (r : Addr) (fs : List V) (H' : Hp), Same H H' → H r = none → RL H' r fs R → (∀ (i : Nat) (c : Addr), fs[i]? = some (V.ref c) → H c = none ∧ c ≠ r) → Q (.ref r) H'
/-- _law_pairs(rows) -/
def spLPrs (K : PySem.W.Frag) : Sp := fun vs H Q _ => ∃ (a : Addr) (es : List V) (R : Rw), vs = [.ref a] ∧ RS K H a es R ∧ Gt R ∧ ∀ (r : Addr) (us : List V) (H' : Hp), Same H H' → H r = none → H' r = some (.lst us) → PrsAt r H' us (cells R) → Q (.ref r) H'
end Pk
set_option Elab.async false
set_option linter.all false
set_option maxRecDepth 100000
set_option maxHeartbeats 1000000
namespace Pk
open PySem L2
local macro_rules | `(tactic| walk_at "rd") => `(tactic| repeat (first
  | with_reducible refine r_seq ?_ | with_reducible refine r_nxt ?_ | with_reducible refine r_asg ?_ | with_reducible refine r_to ?_ | with_reducible refine r_ret ?_ | with_reducible refine r_for ?_ | with_reducible refine r_lc ?_ | with_reducible refine r_rng1 ?_ | with_reducible refine r_list ?_ | with_reducible refine r_tupI ?_ | with_reducible refine r_drop ?_ | with_reducible refine r_ifs ?_
  | with_reducible refine r_op ?_ | with_reducible refine r_c ?_ | with_reducible refine r_var rfl ?_ | with_reducible refine r_I0 ?_ | with_reducible refine r_un ?_ | with_reducible refine r_U ?_ | with_reducible refine r_make ?_ | with_reducible refine r_sub ?_
  | with_reducible refine r_nil ?_ | with_reducible refine r_cons ?_ | with_reducible refine r_cb ?_ | with_reducible refine r_sl ?_ | with_reducible refine r_noP ?_ | with_reducible refine r_part ?_ | with_reducible refine r_isI ?_ | with_reducible refine r_lst ?_ | with_reducible refine r_tup ?_ | with_reducible refine r_call ?_
  | with_reducible refine r_test ?_ | with_reducible refine r_B ?_ | with_reducible refine r_and ?_ | with_reducible refine r_or ?_ | with_reducible refine r_not ?_ | with_reducible refine r_andV ?_ | with_reducible refine r_orV ?_ | with_reducible refine r_notV ?_ | with_reducible refine r_bl ?_ | with_reducible refine r_yes ?_ | with_reducible refine r_int ?_ | with_reducible refine r_is0 ?_ | with_reducible refine r_is1 ?_ | with_reducible refine iteT ?_ | with_reducible refine iteF ?_ | with_reducible refine ite_nF ?_ | with_reducible refine ite_nT ?_
  | with_reducible refine r_mod (by decide) ?_ | with_reducible refine r_div (by decide) (by decide) ?_ | with_reducible refine r_mulR (by decide) (by decide) ?_ | with_reducible refine r_mulL (by decide) (by decide) ?_ | with_reducible refine r_pow (by decide) (by decide) (by decide) ?_))
def top (i : Nat) : Stmt := PySem.Challenge.pw_pairorder_k09_orders_places.main.body.getD i (.Pass ⟨0, 0, 0, 0⟩)
abbrev slMixed : Stmt := top 18
abbrev slDraw : Stmt := top 19
abbrev slPool : Stmt := top 17
section
variable {P : Program} {w : World} {K : PySem.W.Frag} {mg : Str → Option Value} {base : Heap}
theorem sclMixed : FnScope ["_law_pool_here", "_law_cell", "_law_number"] ["_law_pool_here", "_law_cell"] (defScope slMixed) := ⟨rfl, rfl, rfl, by decide +kernel, rfl, by decide +kernel, by decide +kernel⟩
theorem ok_mixed {f : Addr} {fd : FuncData} (F : Fun K "_law_mixed" "_law_mixed" slMixed f fd) (T : Bt mg) : FnOk P w K mg base CX0 1 f fd ["_law_pool_here", "_law_cell"] spMix := by
  refine F.ok sclMixed (fun vs H Q E h => ?_) (fun cdv A outer s H vs Q E hr h => ?_)
  · obtain ⟨p, c, ns, x, rfl, _⟩ := h
    rfl
  · obtain ⟨p, c, ns, x, rfl, hp, k⟩ := h
    refine ⟨_, pss_cons (ps_asg (pe_op op_add (pe_ix ix_list (pv 0) pe_int (fun _ _ => rfl)) pe_int) (pg_sub (pv 0) pe_int set_list))
      (pss_cons (ps_set (i := 2) sclMixed.nd rfl (Or.inl rfl) (pe_op op_add (pe_op op_add (pe_ix ix_list (pv 0) pe_int (fun _ _ => rfl)) (pe_op op_mod (pe_callTy cl_int (by rfl) T.int (by decide +kernel) (pa_cons (pv 1) pa_nil)) pe_int)) (pe_op op_mul pe_int (pe_ix ix_list (pv 0) pe_int (fun _ _ => rfl)))))
      (pss_cons (ps_set (i := 2) sclMixed.nd rfl (Or.inl rfl) (pe_op op_mod (pe_callTy cl_int (by rfl) T.int (by decide +kernel) (pa_cons (pe_op op_mul (pv 2) pe_int) pa_nil)) pe_int))
      (pss_cons (ps_set (i := 2) sclMixed.nd rfl (Or.inl rfl) (pe_op op_mod (pe_callTy cl_int (by rfl) T.int (by decide +kernel) (pa_cons (pe_op op_mul (pv 2) (pe_op op_add (pe_op op_fdiv (pv 2) pe_int) pe_int)) pa_nil)) pe_int))
      (pss_cons (ps_asg (pv 2) (pg_sub (pv 0) pe_int set_list))
      (pss_cons (ps_set (i := 2) sclMixed.nd rfl (Or.inl rfl) (pe_op op_mod (pe_callTy cl_int (by rfl) T.int (by decide +kernel) (pa_cons (pe_op op_mul (pv 2) (pe_op op_add (pe_op op_fdiv (pv 2) pe_int) pe_int)) pa_nil)) pe_int))
      (pss_one (ps_ret (pe_op op_fdiv (pv 2) pe_int)))))))), ?_⟩
    obtain ⟨a, b, z, n, ha, hP, hC⟩ := hp
    have ne : c ≠ p := PoolAt.ne ⟨a, b, z, n, ha, hP, hC⟩
    have lt : ∀ y : Int, -(2 ^ 64) < y % 2147483647 ∧ y % 2147483647 < 2 ^ 64 := fun y => by omega
    walk_at "rd"
    refine r_ixL (SqL.of hP) rfl ?_
    walk_at "rd"
    refine r_setL hP rfl ?_
    walk_at "rd"
    refine r_ixL (SqL.of upd_same) rfl ?_
    walk_at "rd"
    refine r_ixL (SqL.of upd_same) rfl ?_
    walk_at "rd"
    refine r_mulL (lt _).1 (lt _).2 ?_
    walk_at "rd"
    refine r_setL upd_same rfl ?_
    walk_at "rd"
    refine r_mulL (lt _).1 (lt _).2 ?_
    walk_at "rd"
    rw [upd_upd]
    refine k _ _ ?_ (Keep.refl.own) (PoolAt.put ha hC ne)
    generalize (z + x % 2147483647 + 7919 * (n + 1)) * 48271 % 2147483647 = y
    omega
theorem sclDraw : FnScope ["_law_pool_here", "_law_size", "_law_cell", "_law_number"] ["_law_pool_here", "_law_size"] (defScope slDraw) := ⟨rfl, rfl, rfl, by decide +kernel, rfl, by decide +kernel, by decide +kernel⟩
theorem ok_draw {f : Addr} {fd : FuncData} (F : Fun K "_law_draw" "_law_draw" slDraw f fd) (T : Bt mg) (D : Df P w K mg base CX0 "_law_mixed" 1 ["_law_pool_here", "_law_cell"] spMix) :
    FnOk P w K mg base CX0 2 f fd ["_law_pool_here", "_law_size"] spDraw := by
  refine F.ok sclDraw (fun vs H Q E h => ?_) (fun cdv A outer s H vs Q E hr h => ?_)
  · obtain ⟨p, c, ns, x, rfl, _⟩ := h
    rfl
  · obtain ⟨p, c, ns, x, rfl, pl, x0, x1, k⟩ := h
    obtain ⟨u, hu, ru⟩ : ∃ u : TS, PSs (cxOf CX0 P w K mg base ["_law_pool_here", "_law_size", "_law_cell", "_law_number"] "_law_draw" (defScope slDraw) f cdv A outer s H E).nox ((defBody slDraw).drop 1) u ∧
        ∀ (v1 v2 : Option V) (H1 : Hp), Keep p H H1 → PoolAt H1 p c ns → u { nx := fun _ H' => Q .non H', rt := Q } [some (.ref p), some (.int x), v1, v2] H1 := by
      refine ⟨_, (pss_cons (ps_if (pt_cmpR op_gt (pe_ix ix_list (pv 0) pe_int (fun _ _ => rfl)) pe_int (nomark _))
        (pss_cons (ps_set (i := 3) sclDraw.nd rfl (Or.inl rfl) (pe_callTy cl_int (by rfl) T.int (by decide +kernel) (pa_cons (pe_ix ix_list (pv 0) pe_int (fun _ _ => rfl)) pa_nil)))
        (pss_cons (ps_asg (pe_op op_fdiv (pv 3) (pv 1)) (pg_sub (pv 0) pe_int set_list))
        (pss_one (ps_ret (pe_op op_mod (pe_callTy cl_int (by rfl) T.int (by decide +kernel) (pa_cons (pv 3) pa_nil)) (pv 1)))))) pss_nil)
        (pss_one (ps_ret (pe_op op_mod (pe_callTy cl_int (by rfl) T.int (by decide +kernel) (pa_cons (pe_df D hr (by decide) (pa_cons (pv 0) (pa_cons pe_int pa_nil))) pa_nil)) (pv 1))))), ?_⟩
      rintro v1 v2 H1 kp ⟨a, b, z, n, ha, hP, hC⟩
      have ne : c ≠ p := PoolAt.ne ⟨a, b, z, n, ha, hP, hC⟩
      walk_at "rd"
      refine r_ixL (SqL.of hP) rfl ?_
      walk_at "rd"
      refine ite_dec (fun h1 => ?_) (fun h1 => ?_)
      · walk_at "rd"
        refine r_ixL (SqL.of hP) rfl ?_
        walk_at "rd"
        refine r_div x0 x1 ?_
        walk_at "rd"
        refine r_setL hP rfl ?_
        walk_at "rd"
        refine r_mod x0 ?_
        exact k _ _ (Int.emod_nonneg _ (by omega)) (Int.emod_lt_of_pos _ x0) kp.own (PoolAt.put ha hC ne)
      · walk_at "rd"
        refine ⟨p, c, ns, 0, rfl, ⟨a, b, z, n, ha, hP, hC⟩, fun r H2 r0 k2 p2 => ?_⟩
        walk_at "rd"
        refine r_mod x0 ?_
        exact k _ _ (Int.emod_nonneg _ (by omega)) (Int.emod_lt_of_pos _ x0) (kp.trans k2) p2
    refine ⟨_, pss_cons (ps_if (PW.pt (pw_and (pt_cmpR op_le (pe_ix ix_list (pv 0) pe_int (fun _ _ => rfl)) pe_int (nomark _)) (pw_and1 (pt_cmpR op_lt (pe_ix ix_list (pv 0) pe_int (fun _ _ => rfl)) (pe_callB cl_len (by rfl) T.len PySem.boot_len (pa_cons (pe_ix ix_list (pv 0) pe_int (fun _ _ => rfl)) pa_nil)) (nomark _)))))
        (pss_cons (ps_set (i := 2) sclDraw.nd rfl (Or.inl rfl) (pe_callTy cl_int (by rfl) T.int (by decide +kernel) (pa_cons (pe_ix ix_list (pe_ix ix_list (pv 0) pe_int (fun _ _ => rfl)) (pe_ix ix_list (pv 0) pe_int (fun _ _ => rfl)) (fun _ _ => rfl)) pa_nil)))
        (pss_cons (ps_asg (pe_op op_add (pe_ix ix_list (pv 0) pe_int (fun _ _ => rfl)) pe_int) (pg_sub (pv 0) pe_int set_list))
        (pss_cons (ps_if (pt_cmpR op_lt (pv 2) (pe_op op_pow pe_int pe_int) (nomark _))
            (pss_one (ps_ret (pe_op op_mod (pe_callTy cl_int (by rfl) T.int (by decide +kernel) (pa_cons (pe_df D hr (by decide) (pa_cons (pv 0) (pa_cons (pv 2) pa_nil))) pa_nil)) (pv 1)))) pss_nil)
        (pss_one (ps_asg (pv 2) (pg_sub (pv 0) pe_int set_list)))))) pss_nil) hu, ?_⟩
    obtain ⟨a, b, z, n, ha, hP, hC⟩ := id pl
    have ne : c ≠ p := PoolAt.ne pl
    walk_at "rd"
    refine r_ixL (SqL.of hP) rfl ?_
    walk_at "rd"
    refine ite_dec (fun h1 => ?_) (fun h1 => ?_)
    · walk_at "rd"
      refine r_ixL (SqL.of hP) rfl ?_
      walk_at "rd"
      refine r_ixL (SqL.of hP) rfl ?_
      walk_at "rd"
      refine r_lenL (SqL.of hC) ?_
      walk_at "rd"
      refine ite_dec (fun h2 => ?_) (fun h2 => ?_)
      · rw [List.length_map] at h2
        obtain ⟨y, hy⟩ : ∃ y, ns[a.toNat]? = some y := ⟨_, List.getElem?_eq_getElem (by omega)⟩
        walk_at "rd"
        refine r_ixL (SqL.of hP) rfl ?_
        walk_at "rd"
        refine r_ixL (SqL.of hP) rfl ?_
        refine r_ixL (v := .int y) (SqL.of hC) (by have e := atI_nat (xs := ns.map V.int) (j := a.toNat) (v := .int y) (by rw [List.getElem?_map, hy]; rfl); rw [Int.toNat_of_nonneg ha] at e; exact e) ?_
        walk_at "rd"
        refine r_ixL (SqL.of hP) rfl ?_
        walk_at "rd"
        refine r_setL hP rfl ?_
        walk_at "rd"
        have P1 : PoolAt (upd H p (.lst [.ref c, .int (a + 1), .int b, .int z, .int n])) p c ns := PoolAt.put (by omega) hC ne
        refine ite_dec (fun h3 => ?_) (fun h3 => ?_)
        · walk_at "rd"
          refine ⟨p, c, ns, y, rfl, P1, fun r H2 r0 k2 p2 => ?_⟩
          walk_at "rd"
          refine r_mod x0 ?_
          exact k _ _ (Int.emod_nonneg _ (by omega)) (Int.emod_lt_of_pos _ x0) (Keep.refl.own.trans k2) p2
        · walk_at "rd"
          refine r_setL upd_same rfl ?_
          refine ru _ _ _ (Keep.refl.own.own) ?_
          rw [upd_upd]
          exact PoolAt.put (by omega) hC ne
      · walk_at "rd"
        exact ru _ _ _ Keep.refl pl
    · walk_at "rd"
      exact ru _ _ _ Keep.refl pl
theorem sclPool : FnScope ["_law_script", "_law_cell"] ["_law_script"] (defScope slPool) := ⟨rfl, rfl, rfl, by decide +kernel, rfl, by decide +kernel, by decide +kernel⟩
theorem ok_pool {f : Addr} {fd : FuncData} (F : Fun K "_law_pool" "_law_pool" slPool f fd) (T : Bt mg) : FnOk P w K mg base CX0 1 f fd ["_law_script"] (spPool K) := by
  refine F.ok sclPool (fun vs H Q E h => ?_) (fun cdv A outer s H vs Q E hr h => ?_)
  · obtain ⟨l, ns, rfl, _⟩ := h
    rfl
  · obtain ⟨l, ns, rfl, hS, hlen, k⟩ := h
    refine ⟨_, (pss_one (ps_ret (pe_lst (pa_cons (pe_lc (own := [("_law_cell", 1)]) (g := gName 1) rfl sclPool.nd (pi_list (pe_slice sl_list (pv 0) po_none (po_some pe_int))) (blkOk_by (own := [("_law_cell", 1)]) (N := ["_law_script", "_law_cell"]) (sc := defScope slPool) (by decide +kernel)) (fun _ _ _ _ _ => pg_name (i := 1) sclPool.nd rfl (Or.inl rfl)) (fun _ _ _ _ _ => pts_nil) (fun _ _ _ _ _ => (pe_callTy cl_int (by rfl) T.int (by decide +kernel) (pa_cons (pv 1) pa_nil)))) (pa_cons pe_int (pa_cons pe_int (pa_cons pe_int (pa_cons pe_int pa_nil)))))))), ?_⟩
    have cut : cutV (ns.map V.int) none (some 63) = ns.map V.int := cut_all (by rw [List.length_map]; exact hlen)
    walk_at "rd"
    refine ⟨l, ns.map V.int, rfl, hS, fun q hq => ⟨q, rfl, ⟨_, SqL.of upd_same⟩, fun D hD => ?_⟩⟩
    rw [cut] at hD ⊢
    have nqD : q ≠ D := fun z => by rw [← z, upd_same] at hD; cases hD
    refine lc_list (K := K) (a := q) (xs := ns.map V.int) (fun i H' => H' D = some (.lst ((ns.take i).map V.int)) ∧ H' q = some (.lst (ns.map V.int)) ∧ Same H H') ⟨upd_same, ?_, ?_⟩ (fun i H' _ h => SqL.of h.2.1) (fun i x H' hi h => ?_) (fun H' h => ?_)
    · rw [upd_ne nqD, upd_same]
    · exact Same.up (Same.up (Same.refl H) hq) hD
    · obtain ⟨h1, h2, h3⟩ := h
      rw [List.getElem?_map] at hi
      obtain ⟨y, hy, rfl⟩ := Option.map_eq_some_iff.mp hi
      walk_at "rd"
      refine ⟨rfl, ?_⟩
      walk_at "rd"
      refine ⟨_, h1, ?_, upd_same.trans ?_, ?_, ?_⟩
      · rw [List.length_map, List.length_take]
        exact Nat.lt_of_le_of_lt (Nat.min_le_right _ _) (Nat.lt_of_le_of_lt hlen (by decide))
      · rw [take_snoc hy, List.map_append]; rfl
      · rw [upd_ne nqD]; exact h2
      · have hDn : H D = none := by
          rw [upd_ne (fun z => nqD z.symm)] at hD; exact hD
        exact fun b o e => by rw [upd_ne (ne_of_none e hDn)]; exact h3 b o e
    · obtain ⟨h1, h2, h3⟩ := h
      rw [List.length_map, List.take_length] at h1
      walk_at "rd"
      refine ⟨by show 5 ≤ sizeLine; decide, fun p hp => ?_⟩
      have hDn : H D = none := by
        rw [upd_ne (fun z => nqD z.symm)] at hD; exact hD
      have npD : D ≠ p := ne_of_none h1 hp
      exact k p D _ (h3.free hp) hDn (Same.up h3 hp) ⟨0, 0, 1, 0, Int.le_refl 0, upd_same, by rw [upd_ne npD]; exact h1⟩
end

abbrev slSame : Stmt := top 20
section
variable {P : Program} {w : World} {K : PySem.W.Frag} {mg : Str → Option Value} {base : Heap}
theorem sclSame : FnScope ["_law_actual", "_law_due", "_law_k"] ["_law_actual", "_law_due"] (defScope slSame) := ⟨rfl, rfl, rfl, by decide +kernel, rfl, by decide +kernel, by decide +kernel⟩
theorem ok_same {f : Addr} {fd : FuncData} (F : Fun K "_law_same" "_law_same" slSame f fd) (T : Bt mg) (me : mg "_law_same" = some (.ref f)) : ∀ n : Nat, FnOk P w K mg base CX0 (n + 1) f fd ["_law_actual", "_law_due"] (spSame K n)
  | n => by
    have G : ∀ m, n = m + 1 → FnOk P w K mg base CX0 (m + 1) f fd ["_law_actual", "_law_due"] (spSame K m) := fun m e => by
      subst e
      exact ok_same F T me m
    have b : Binds K fd ["_law_actual", "_law_due"] [] := F.binds fun _ _ _ _ _ _ us hl => match us, hl with | [_, _], _ => rfl
    refine F.ok sclSame (fun vs H Q E h => ?_) (fun cdv A outer s H vs Q E hr h => ?_)
    · obtain ⟨v, d, d', rfl, _⟩ := h
      rfl
    · obtain ⟨x, y, d, rfl, hx, hy, hd, k⟩ := h
      obtain ⟨u, hu, ru⟩ : ∃ u : TS, PSs (cxOf CX0 P w K mg base ["_law_actual", "_law_due", "_law_k"] "_law_same" (defScope slSame) f cdv A outer s H E).nox ((defBody slSame).drop 6) u ∧
          (∀ (p q : Addr) (xs ys : List V) (ds : List PyData), x = .ref p → y = .ref q → ((SqL K H p xs ∧ SqL K H q ys ∧ d = .list ds) ∨ (SqT K H p xs ∧ SqT K H q ys ∧ d = .tuple ds)) → DpAll K H xs ds → DpAll K H ys ds →
            u { nx := fun _ H' => Q .non H', rt := Q } [some x, some y, none] H) := by
        cases hd with
        | non => exact ⟨_, pss_never, fun p q xs ys ds e _ h => by cases hx; cases e⟩
        | bl b => exact ⟨_, pss_never, fun p q xs ys ds e _ h => by cases hx; cases e⟩
        | int i => exact ⟨_, pss_never, fun p q xs ys ds e _ h => by cases hx; cases e⟩
        | str z => exact ⟨_, pss_never, fun p q xs ys ds e _ h => by cases hx; cases e⟩
        | @lst n ds hds hz =>
          refine ⟨_, pss_cons (ps_if (pt_cmpR op_ne (pe_callB cl_len (by rfl) T.len PySem.boot_len (pa_cons (pv 0) pa_nil)) (pe_callB cl_len (by rfl) T.len PySem.boot_len (pa_cons (pv 1) pa_nil)) (nomark _)) (pss_one (ps_ret pe_bl)) pss_nil)
            (pss_cons (ps_for PassesOwn.never rfl (pi_range1 rfl T.range (pa_cons (pe_callB cl_len (by rfl) T.len PySem.boot_len (pa_cons (pv 1) pa_nil)) pa_nil)) (pg_name (i := 2) sclSame.nd rfl (Or.inl rfl))
              (pss_one (ps_if (pt_not (pt_val (pe_call (G _ rfl) hr rfl me F.kp b .nil pass0 (pa_cons (pe_ix ix_list (pv 0) (pv 2) (fun _ _ => rfl)) (pa_cons (pe_ix ix_list (pv 1) (pv 2) (fun _ _ => rfl)) pa_nil))))) (pss_one (ps_ret pe_bl)) pss_nil)))
            (pss_one (ps_ret pe_bl))), ?_⟩
          intro p q xs ys ds' e1 e2 h hA hB
          rcases h with ⟨hX, hY, e⟩ | ⟨_, _, e⟩
          · have ed := PyData.list.inj e
            subst ed e1 e2
            have l1 := dpAll_len hA
            have l2 := dpAll_len hB
            walk_at "rd"
            refine r_lenL hX ?_
            walk_at "rd"
            refine r_lenL hY ?_
            refine r_ne rfl ?_
            walk_at "rd"
            refine ite_no (fun _ => ?_) (fun h => absurd (by rw [l1, l2]) h)
            walk_at "rd"
            refine r_lenL hY ?_
            walk_at "rd"
            refine ⟨_, rfl, by omega, by omega, for_range (lo := 0) (n := _) (fun i σ H' => H' = H ∧ ∃ v : Option V, σ = [some (.ref p), some (.ref q), v]) ⟨rfl, none, rfl⟩ ?_ ?_⟩
            · rintro i σ H' hi ⟨rfl, v, rfl⟩
              have hi' : i < ys.length := by omega
              obtain ⟨dx, hdx, hdX⟩ := dpAll_at (i := i) hA (List.getElem?_eq_getElem (by omega))
              obtain ⟨dy, hdy, hdY⟩ := dpAll_at (i := i) hB (List.getElem?_eq_getElem hi')
              have ee : dx = dy := Option.some.inj (hdx.symm.trans hdy)
              subst ee
              have e0 : (0 : Int) + (i : Int) = (i : Int) := Int.zero_add _
              walk_at "rd"
              rw [e0]
              refine r_ixL hX (atI_nat (List.getElem?_eq_getElem (by omega))) ?_
              walk_at "rd"
              refine r_ixL hY (atI_nat (List.getElem?_eq_getElem hi')) ?_
              walk_at "rd"
              refine ⟨_, _, dx, rfl, hdX, hdY, hds _ (List.mem_of_getElem? hdx), ?_⟩
              walk_at "rd"
              exact ⟨rfl, _, rfl⟩
            · rintro σ H' ⟨rfl, v, rfl⟩
              walk_at "rd"
              exact k
          · cases e
        | @tup n ds hds hz =>
          refine ⟨_, pss_cons (ps_if (pt_cmpR op_ne (pe_callB cl_len (by rfl) T.len PySem.boot_len (pa_cons (pv 0) pa_nil)) (pe_callB cl_len (by rfl) T.len PySem.boot_len (pa_cons (pv 1) pa_nil)) (nomark _)) (pss_one (ps_ret pe_bl)) pss_nil)
            (pss_cons (ps_for PassesOwn.never rfl (pi_range1 rfl T.range (pa_cons (pe_callB cl_len (by rfl) T.len PySem.boot_len (pa_cons (pv 1) pa_nil)) pa_nil)) (pg_name (i := 2) sclSame.nd rfl (Or.inl rfl))
              (pss_one (ps_if (pt_not (pt_val (pe_call (G _ rfl) hr rfl me F.kp b .nil pass0 (pa_cons (pe_ix ix_tup (pv 0) (pv 2) (fun _ _ => rfl)) (pa_cons (pe_ix ix_tup (pv 1) (pv 2) (fun _ _ => rfl)) pa_nil))))) (pss_one (ps_ret pe_bl)) pss_nil)))
            (pss_one (ps_ret pe_bl))), ?_⟩
          intro p q xs ys ds' e1 e2 h hA hB
          rcases h with ⟨_, _, e⟩ | ⟨hX, hY, e⟩
          · cases e
          · have ed := PyData.tuple.inj e
            subst ed e1 e2
            have l1 := dpAll_len hA
            have l2 := dpAll_len hB
            walk_at "rd"
            refine r_lenT hX ?_
            walk_at "rd"
            refine r_lenT hY ?_
            refine r_ne rfl ?_
            walk_at "rd"
            refine ite_no (fun _ => ?_) (fun h => absurd (by rw [l1, l2]) h)
            walk_at "rd"
            refine r_lenT hY ?_
            walk_at "rd"
            refine ⟨_, rfl, by omega, by omega, for_range (lo := 0) (n := _) (fun i σ H' => H' = H ∧ ∃ v : Option V, σ = [some (.ref p), some (.ref q), v]) ⟨rfl, none, rfl⟩ ?_ ?_⟩
            · rintro i σ H' hi ⟨rfl, v, rfl⟩
              have hi' : i < ys.length := by omega
              obtain ⟨dx, hdx, hdX⟩ := dpAll_at (i := i) hA (List.getElem?_eq_getElem (by omega))
              obtain ⟨dy, hdy, hdY⟩ := dpAll_at (i := i) hB (List.getElem?_eq_getElem hi')
              have ee : dx = dy := Option.some.inj (hdx.symm.trans hdy)
              subst ee
              have e0 : (0 : Int) + (i : Int) = (i : Int) := Int.zero_add _
              walk_at "rd"
              rw [e0]
              refine r_ixT hX (atI_nat (List.getElem?_eq_getElem (by omega))) ?_
              walk_at "rd"
              refine r_ixT hY (atI_nat (List.getElem?_eq_getElem hi')) ?_
              walk_at "rd"
              refine ⟨_, _, dx, rfl, hdX, hdY, hds _ (List.mem_of_getElem? hdx), ?_⟩
              walk_at "rd"
              exact ⟨rfl, _, rfl⟩
            · rintro σ H' ⟨rfl, v, rfl⟩
              walk_at "rd"
              exact k
      refine ⟨_, pss_cons (ps_if (pt_cmpR op_is0 (pv 1) pe_non (nomark _)) (pss_one (ps_ret (pe_cmpR op_is0 (pv 0) pe_non (nomark _)))) pss_nil)
        (pss_cons (ps_if (pt_val (pe_callB call_isi (by rfl) T.isinstance (by decide +kernel) (pa_cons (pv 1) (pa_cons (pe_bltn (v := .ty "bool") (by rfl) T.bool (by decide +kernel) rfl) pa_nil))))
          (pss_one (ps_ret (pe_and (pe_callB call_isi (by rfl) T.isinstance (by decide +kernel) (pa_cons (pv 0) (pa_cons (pe_bltn (v := .ty "bool") (by rfl) T.bool (by decide +kernel) rfl) pa_nil))) (pe_one (pe_cmpR op_eq (pv 0) (pv 1) (nomark _)))))) pss_nil)
        (pss_cons (ps_if (pt_val (pe_callB call_isi (by rfl) T.isinstance (by decide +kernel) (pa_cons (pv 1) (pa_cons (pe_bltn (v := .ty "int") (by rfl) T.int (by decide +kernel) rfl) pa_nil))))
          (pss_one (ps_ret (pe_and (pe_callB call_isi (by rfl) T.isinstance (by decide +kernel) (pa_cons (pv 0) (pa_cons (pe_bltn (v := .ty "int") (by rfl) T.int (by decide +kernel) rfl) pa_nil))) (pe_and (pe_not (pe_callB call_isi (by rfl) T.isinstance (by decide +kernel) (pa_cons (pv 0) (pa_cons (pe_bltn (v := .ty "bool") (by rfl) T.bool (by decide +kernel) rfl) pa_nil)))) (pe_one (pe_cmpR op_eq (pv 0) (pv 1) (nomark _))))))) pss_nil)
        (pss_cons (ps_if (pt_val (pe_callB call_isi (by rfl) T.isinstance (by decide +kernel) (pa_cons (pv 1) (pa_cons (pe_bltn (v := .ty "str") (by rfl) T.str (by decide +kernel) rfl) pa_nil))))
          (pss_one (ps_ret (pe_and (pe_callB call_isi (by rfl) T.isinstance (by decide +kernel) (pa_cons (pv 0) (pa_cons (pe_bltn (v := .ty "str") (by rfl) T.str (by decide +kernel) rfl) pa_nil))) (pe_one (pe_cmpR op_eq (pv 0) (pv 1) (nomark _)))))) pss_nil)
        (pss_cons (ps_if (pt_val (pe_callB call_isi (by rfl) T.isinstance (by decide +kernel) (pa_cons (pv 1) (pa_cons (pe_bltn (v := .ty "dict") (by rfl) T.dict (by decide +kernel) rfl) pa_nil)))) pss_never pss_nil)
        (pss_cons (ps_if (pt_val (pe_callB call_isi (by rfl) T.isinstance (by decide +kernel) (pa_cons (pv 1) (pa_cons (pe_bltn (v := .ty "list") (by rfl) T.list (by decide +kernel) rfl) pa_nil))))
          (pss_one (ps_if (pt_not (pt_val (pe_callB call_isi (by rfl) T.isinstance (by decide +kernel) (pa_cons (pv 0) (pa_cons (pe_bltn (v := .ty "list") (by rfl) T.list (by decide +kernel) rfl) pa_nil))))) (pss_one (ps_ret pe_bl)) pss_nil))
          (pss_one (ps_if (pt_not (pt_val (pe_callB call_isi (by rfl) T.isinstance (by decide +kernel) (pa_cons (pv 0) (pa_cons (pe_bltn (v := .ty "tuple") (by rfl) T.tuple (by decide +kernel) rfl) pa_nil))))) (pss_one (ps_ret pe_bl)) pss_nil)))
        hu))))), ?_⟩
      cases hd with
      | non =>
        cases hx; cases hy
        walk_at "rd"
        refine ite_dec (fun _ => ?_) (fun h => absurd rfl h)
        walk_at "rd"
        exact k
      | bl b =>
        cases hx; cases hy
        walk_at "rd"
        refine ite_dec (fun h => by cases h) (fun _ => ?_)
        walk_at "rd"
        refine r_isi (.base (.bl b)) (by decide +kernel : kitB "bool" "bool" = some true) ?_
        walk_at "rd"
        refine r_isi (.base (.bl b)) (by decide +kernel : kitB "bool" "bool" = some true) ?_
        walk_at "rd"
        exact r_eqT (by rfl) k
      | int i =>
        cases hx; cases hy
        walk_at "rd"
        refine ite_dec (fun h => by cases h) (fun _ => ?_)
        walk_at "rd"
        refine r_isi (.base (.int i)) (by decide +kernel : kitB "int" "bool" = some false) ?_
        walk_at "rd"
        refine r_isi (.base (.int i)) (by decide +kernel : kitB "int" "int" = some true) ?_
        walk_at "rd"
        refine r_isi (.base (.int i)) (by decide +kernel : kitB "int" "int" = some true) ?_
        walk_at "rd"
        refine r_isi (.base (.int i)) (by decide +kernel : kitB "int" "bool" = some false) ?_
        walk_at "rd"
        exact r_eqT (by rfl) k
      | str z =>
        cases hx; cases hy
        walk_at "rd"
        refine ite_dec (fun h => by cases h) (fun _ => ?_)
        walk_at "rd"
        refine r_isi (.base (.str z)) (by decide +kernel : kitB "str" "bool" = some false) ?_
        walk_at "rd"
        refine r_isi (.base (.str z)) (by decide +kernel : kitB "str" "int" = some false) ?_
        walk_at "rd"
        refine r_isi (.base (.str z)) (by decide +kernel : kitB "str" "str" = some true) ?_
        walk_at "rd"
        refine r_isi (.base (.str z)) (by decide +kernel : kitB "str" "str" = some true) ?_
        walk_at "rd"
        exact r_eqT (by rfl) k
      | @lst n ds hds hz =>
        have tx : TyX K H x (.type "list") := Dp.kind hx
        have ty : TyX K H y (.type "list") := Dp.kind hy
        cases hx with
        | @lst p xs _ hX hA =>
          cases hy with
          | @lst q ys _ hY hB =>
            walk_at "rd"
            refine ite_dec (fun h => by cases h) (fun _ => ?_)
            walk_at "rd"
            refine r_isi ty (by decide +kernel : kitB "list" "bool" = some false) ?_
            walk_at "rd"
            refine r_isi ty (by decide +kernel : kitB "list" "int" = some false) ?_
            walk_at "rd"
            refine r_isi ty (by decide +kernel : kitB "list" "str" = some false) ?_
            walk_at "rd"
            refine r_isi ty (by decide +kernel : kitB "list" "dict" = some false) ?_
            walk_at "rd"
            refine r_isi ty (by decide +kernel : kitB "list" "list" = some true) ?_
            walk_at "rd"
            refine r_isi tx (by decide +kernel : kitB "list" "list" = some true) ?_
            walk_at "rd"
            exact ru p q xs ys ds rfl rfl (.inl ⟨hX, hY, rfl⟩) hA hB
      | @tup n ds hds hz =>
        have tx : TyX K H x (.type "tuple") := Dp.kind hx
        have ty : TyX K H y (.type "tuple") := Dp.kind hy
        cases hx with
        | @tup p xs _ hX hA =>
          cases hy with
          | @tup q ys _ hY hB =>
            walk_at "rd"
            refine ite_dec (fun h => by cases h) (fun _ => ?_)
            walk_at "rd"
            refine r_isi ty (by decide +kernel : kitB "tuple" "bool" = some false) ?_
            walk_at "rd"
            refine r_isi ty (by decide +kernel : kitB "tuple" "int" = some false) ?_
            walk_at "rd"
            refine r_isi ty (by decide +kernel : kitB "tuple" "str" = some false) ?_
            walk_at "rd"
            refine r_isi ty (by decide +kernel : kitB "tuple" "dict" = some false) ?_
            walk_at "rd"
            refine r_isi ty (by decide +kernel : kitB "tuple" "list" = some false) ?_
            walk_at "rd"
            refine r_isi tx (by decide +kernel : kitB "tuple" "tuple" = some true) ?_
            walk_at "rd"
            exact ru p q xs ys ds rfl rfl (.inr ⟨hX, hY, rfl⟩) hA hB
end
abbrev sCopy : Stmt := top 1
section
variable {P : Program} {w : World} {K : PySem.W.Frag} {mg : Str → Option Value} {base : Heap}
/-- the copies made so far stand in the list at D -/
def Copied (H : Hp) (D : Addr) (ds : List PyData) (i : Nat) (H' : Hp) : Prop :=
  ∃ ys, H' D = some (.lst ys) ∧ ys.length = i ∧ Same H H' ∧ ∀ (j : Nat) (v : V) (d : PyData), ys[j]? = some v → ds[j]? = some d → Own (upd H D (.lst [])) H' v d
theorem Copied.start {H : Hp} {D : Addr} {ds : List PyData} (hD : H D = none) : Copied H D ds 0 (upd H D (.lst [])) :=
  ⟨[], upd_same, rfl, fun b o e => by rw [upd_ne (ne_of_none e hD)]; exact e, fun j v d e => by simp at e⟩
theorem Copied.more {H H1 H2 : Hp} {D : Addr} {ds : List PyData} {i : Nat} {v : V} {d : PyData} (hD : H D = none) (c : Copied H D ds i H1) (s : Same H1 H2) (o : Own H1 H2 v d) (hd : ds[i]? = some d) :
    ∃ acc, H2 D = some (.lst acc) ∧ acc.length = i ∧ Copied H D ds (i + 1) (upd H2 D (.lst (acc ++ [v]))) := by
  obtain ⟨ys, h1, h2, h3, h4⟩ := c
  have nD : ∀ {a : Addr}, upd H D (.lst []) a = none → a ≠ D := fun {a} n z => by rw [z, upd_same] at n; cases n
  refine ⟨ys, s _ _ h1, h2, ys ++ [v], upd_same, by rw [List.length_append, h2]; rfl, fun b o e => ?_, fun j u e e1 e2 => ?_⟩
  · have n : b ≠ D := ne_of_none e hD
    rw [upd_ne n]
    exact s _ _ (h3 _ _ e)
  · by_cases hj : j < ys.length
    · rw [List.getElem?_append_left hj] at e1
      exact ((h4 j u e e1 e2).later s).mono (fun a n _ => n) fun a z n q _ => by rw [upd_ne (nD n)]; exact q
    · have ej : j = i := by
        have z := (List.getElem?_eq_some_iff.mp e1).1
        rw [List.length_append, List.length_singleton] at z
        omega
      subst ej
      rw [List.getElem?_append_right (by omega), h2, Nat.sub_self] at e1
      have eu : v = u := Option.some.inj e1
      have ee : d = e := Option.some.inj (hd.symm.trans e2)
      subst eu ee
      refine o.mono (fun a n _ => ?_) fun a z n q _ => ?_
      · have na : a ≠ D := fun z => by rw [z, h1] at n; cases n
        rw [upd_ne na]
        exact h3.free n
      · have na : a ≠ D := fun z => by rw [z, h1] at n; cases n
        rw [upd_ne na]
        exact q
theorem Copied.done {H H' : Hp} {D : Addr} {ds : List PyData} (hD : H D = none) (c : Copied H D ds ds.length H') : ∃ ys, H' D = some (.lst ys) ∧ ys.length = ds.length ∧ Same H H' ∧ ∀ (j : Nat) (v : V) (d : PyData), ys[j]? = some v → ds[j]? = some d → Own H H' v d := by
  obtain ⟨ys, h1, h2, h3, h4⟩ := c
  refine ⟨ys, h1, h2, h3, fun j v d e1 e2 => (h4 j v d e1 e2).mono (fun a n _ => ?_) fun a u _ q _ => q⟩
  have na : a ≠ D := fun z => by rw [z, upd_same] at n; cases n
  rw [upd_ne na] at n
  exact n

theorem scCopy : FnScope ["value", "entry"] ["value"] (defScope sCopy) := ⟨rfl, rfl, rfl, by decide +kernel, rfl, by decide +kernel, by decide +kernel⟩
theorem ok_copy {f : Addr} {fd : FuncData} (F : Fun K "own_copy" "own_copy" sCopy f fd) (T : Bt mg) (me : mg "own_copy" = some (.ref f)) : ∀ n : Nat, FnOk P w K mg base CX0 (n + 1) f fd ["value"] (spCopy K n)
  | 0 => by
    refine F.ok scCopy (fun vs H Q E h => ?_) (fun cdv A outer s H vs Q E hr h => ?_)
    · obtain ⟨v, d, rfl, _⟩ := h
      rfl
    · obtain ⟨v, d, rfl, hv, hd, k⟩ := h
      refine ⟨_, pss_cons (ps_if (pt_val (pe_callB call_isi (by rfl) T.isinstance (by decide +kernel) (pa_cons (pv 0) (pa_cons (pe_bltn (v := .ty "list") (by rfl) T.list (by decide +kernel) rfl) pa_nil)))) pss_never pss_nil)
        (pss_cons (ps_if (pt_val (pe_callB call_isi (by rfl) T.isinstance (by decide +kernel) (pa_cons (pv 0) (pa_cons (pe_bltn (v := .ty "tuple") (by rfl) T.tuple (by decide +kernel) rfl) pa_nil)))) pss_never pss_nil)
        (pss_cons (ps_if (pt_val (pe_callB call_isi (by rfl) T.isinstance (by decide +kernel) (pa_cons (pv 0) (pa_cons (pe_bltn (v := .ty "dict") (by rfl) T.dict (by decide +kernel) rfl) pa_nil)))) pss_never pss_nil)
        (pss_one (ps_ret (pv 0))))), ?_⟩
      obtain ⟨r1, e1, f1⟩ := kit_list d
      obtain ⟨r2, e2, f2⟩ := kit_tuple d
      have n1 : r1 = false := by
        cases r1 with
        | false => rfl
        | true => obtain ⟨ds, rfl⟩ := f1.mp rfl; cases hd
      have n2 : r2 = false := by
        cases r2 with
        | false => rfl
        | true => obtain ⟨ds, rfl⟩ := f2.mp rfl; cases hd
      subst n1 n2
      walk_at "rd"
      refine r_isi (Dp.kind hv) e1 ?_
      walk_at "rd"
      refine r_isi (Dp.kind hv) e2 ?_
      walk_at "rd"
      refine r_isi (Dp.kind hv) (kit_dict hd) ?_
      walk_at "rd"
      refine k v H (Same.refl H) ?_
      cases hd with
      | non => cases hv; exact .non
      | bl b => cases hv; exact .bl b
      | int i => cases hv; exact .int i
      | str z => cases hv; exact .str z
  | n + 1 => by
    have G := ok_copy F T me n
    have b : Binds K fd ["value"] [] := F.binds fun _ _ _ _ _ _ us hl => match us, hl with | [_], _ => rfl
    refine F.ok scCopy (fun vs H Q E h => ?_) (fun cdv A outer s H vs Q E hr h => ?_)
    · obtain ⟨v, d, rfl, _⟩ := h
      rfl
    · obtain ⟨v, d, rfl, hv, hd, k⟩ := h
      refine ⟨_, pss_cons (ps_if (pt_val (pe_callB call_isi (by rfl) T.isinstance (by decide +kernel) (pa_cons (pv 0) (pa_cons (pe_bltn (v := .ty "list") (by rfl) T.list (by decide +kernel) rfl) pa_nil))))
          (pss_one (ps_ret (pe_lc (own := [("entry", 1)]) (g := gName 1) rfl scCopy.nd (pi_list (pv 0)) (blkOk_by (own := [("entry", 1)]) (N := ["value", "entry"]) (sc := defScope sCopy) (by decide +kernel)) (fun _ _ _ _ _ => pg_name (i := 1) scCopy.nd rfl (Or.inl rfl)) (fun _ _ _ _ _ => pts_nil)
            (fun _ _ _ _ _ => pe_call G hr rfl me F.kp b .nil pass0 (pa_cons (pv 1) pa_nil))))) pss_nil)
        (pss_cons (ps_if (pt_val (pe_callB call_isi (by rfl) T.isinstance (by decide +kernel) (pa_cons (pv 0) (pa_cons (pe_bltn (v := .ty "tuple") (by rfl) T.tuple (by decide +kernel) rfl) pa_nil))))
          (pss_one (ps_ret (pe_callTy cl_tup (by rfl) T.tuple (by decide +kernel) (pa_cons (pe_lc (own := [("entry", 1)]) (g := gName 1) rfl scCopy.nd (pi_tup (pv 0)) (blkOk_by (own := [("entry", 1)]) (N := ["value", "entry"]) (sc := defScope sCopy) (by decide +kernel)) (fun _ _ _ _ _ => pg_name (i := 1) scCopy.nd rfl (Or.inl rfl)) (fun _ _ _ _ _ => pts_nil)
            (fun _ _ _ _ _ => pe_call G hr rfl me F.kp b .nil pass0 (pa_cons (pv 1) pa_nil))) pa_nil)))) pss_nil)
        (pss_cons (ps_if (pt_val (pe_callB call_isi (by rfl) T.isinstance (by decide +kernel) (pa_cons (pv 0) (pa_cons (pe_bltn (v := .ty "dict") (by rfl) T.dict (by decide +kernel) rfl) pa_nil)))) pss_never pss_nil)
        (pss_one (ps_ret (pv 0))))), ?_⟩
      obtain ⟨r1, e1, f1⟩ := kit_list d
      obtain ⟨r2, e2, f2⟩ := kit_tuple d
      walk_at "rd"
      refine r_isi (Dp.kind hv) e1 ?_
      walk_at "rd"
      cases r1 with
      | true =>
        obtain ⟨ds, rfl⟩ := f1.mp rfl
        cases hd with
        | lst hds hz =>
          cases hv with
          | @lst a xs _ hS hA =>
            have ln := dpAll_len hA
            walk_at "rd"
            refine ⟨a, rfl, ⟨_, hS⟩, fun D hD => lc_list (K := K) (a := a) (xs := xs) (Copied H D ds) (Copied.start hD) (fun i H' _ c => c.choose_spec.2.2.1.seq hS) (fun i x H' hi c => ?_) (fun H' c => ?_)⟩
            · obtain ⟨d, hd, hx⟩ := dpAll_at hA hi
              have s1 : Same H H' := c.choose_spec.2.2.1
              walk_at "rd"
              refine ⟨rfl, ?_⟩
              walk_at "rd"
              refine ⟨x, d, rfl, Dp.later s1 hx, hds d (List.mem_of_getElem? hd), fun v' H2 s2 o => ?_⟩
              obtain ⟨acc, h1, h2, h3⟩ := c.more hD s2 o hd
              refine ⟨acc, h1, Nat.lt_of_lt_of_le ?_ (show 1001 ≤ sizeLine by decide), h3⟩
              have := (List.getElem?_eq_some_iff.mp hd).1
              omega
            · rw [ln] at c
              obtain ⟨ys, h1, h2, h3, h4⟩ := Copied.done hD c
              exact k _ _ h3 (.lst hD h1 h2 h4)
      | false =>
        walk_at "rd"
        refine r_isi (Dp.kind hv) e2 ?_
        walk_at "rd"
        cases r2 with
        | true =>
          obtain ⟨ds, rfl⟩ := f2.mp rfl
          cases hd with
          | tup hds hz =>
            cases hv with
            | @tup a xs _ hS hA =>
              have ln := dpAll_len hA
              walk_at "rd"
              refine ⟨a, rfl, ⟨_, hS⟩, fun D hD => lc_tup (K := K) (a := a) (xs := xs) (Copied H D ds) (Copied.start hD) (fun i H' _ c => ?_) (fun i x H' hi c => ?_) (fun H' c => ?_)⟩
              · have s1 : Same H H' := c.choose_spec.2.2.1
                rcases hS with (h | ⟨o, h⟩) | h
                · exact .inl (.inl (s1 _ _ h))
                · exact .inl (.inr ⟨o, s1 _ _ h⟩)
                · exact .inr h
              · obtain ⟨d, hd, hx⟩ := dpAll_at hA hi
                have s1 : Same H H' := c.choose_spec.2.2.1
                walk_at "rd"
                refine ⟨rfl, ?_⟩
                walk_at "rd"
                refine ⟨x, d, rfl, Dp.later s1 hx, hds d (List.mem_of_getElem? hd), fun v' H2 s2 o => ?_⟩
                obtain ⟨acc, h1, h2, h3⟩ := c.more hD s2 o hd
                refine ⟨acc, h1, Nat.lt_of_lt_of_le ?_ (show 1001 ≤ sizeLine by decide), h3⟩
                have := (List.getElem?_eq_some_iff.mp hd).1
                omega
              · rw [ln] at c
                obtain ⟨ys, h1, h2, h3, h4⟩ := Copied.done hD c
                walk_at "rd"
                refine r_tupOf (SqL.of h1) fun q hq => ?_
                have s2 : Same H (upd H' q (.tup ys)) := Same.up h3 hq
                exact k _ _ s2 (.tup (h3.free hq) upd_same h2 fun j v d e1 e2 => (h4 j v d e1 e2).later (Same.up (Same.refl H') hq))
        | false =>
          walk_at "rd"
          refine r_isi (Dp.kind hv) (kit_dict hd) ?_
          walk_at "rd"
          refine k v H (Same.refl H) ?_
          cases hd with
          | non => cases hv; exact .non
          | bl b => cases hv; exact .bl b
          | int i => cases hv; exact .int i
          | str z => cases hv; exact .str z
          | lst h z => exact absurd (f1.mpr ⟨_, rfl⟩) Bool.false_ne_true
          | tup h z => exact absurd (f2.mpr ⟨_, rfl⟩) Bool.false_ne_true
end
end Pk
set_option Elab.async false
set_option linter.all false
set_option maxRecDepth 100000
set_option maxHeartbeats 4000000
namespace Pk
open PySem L2
local macro_rules | `(tactic| walk_at "rd") => `(tactic| repeat (first
  | with_reducible refine r_seq ?_ | with_reducible refine r_nxt ?_ | with_reducible refine r_asg ?_ | with_reducible refine r_to ?_ | with_reducible refine r_ret ?_ | with_reducible refine r_for ?_ | with_reducible refine r_lc ?_ | with_reducible refine r_lc2 ?_ | with_reducible refine r_rng1 ?_ | with_reducible refine r_list ?_ | with_reducible refine r_tupI ?_ | with_reducible refine r_drop ?_ | with_reducible refine r_ifs ?_
  | with_reducible refine r_op ?_ | with_reducible refine r_c ?_ | with_reducible refine r_var rfl ?_ | with_reducible refine r_var (by assumption) ?_ | with_reducible refine r_I0 ?_ | with_reducible refine r_un ?_ | with_reducible refine r_U ?_ | with_reducible refine r_make ?_ | with_reducible refine r_makeS ?_ | with_reducible refine r_ifE ?_ | with_reducible refine r_cm ?_ | with_reducible refine r_mkV rfl ?_ | with_reducible refine r_sub ?_
  | with_reducible refine r_nil ?_ | with_reducible refine r_cons ?_ | with_reducible refine r_cb ?_ | with_reducible refine r_sl ?_ | with_reducible refine r_noP ?_ | with_reducible refine r_part ?_ | with_reducible refine r_isI ?_ | with_reducible refine r_lst ?_ | with_reducible refine r_tup ?_ | with_reducible refine r_call ?_ | with_reducible refine r_callS ?_ | with_reducible refine r_sFldU ?_ | with_reducible refine r_chain ?_ | with_reducible refine r_enum ?_ | with_reducible refine r_zip ?_ | with_reducible refine r_rng3 ?_ | with_reducible refine r_gtup ?_ | with_reducible refine r_methU ?_
  | with_reducible refine r_test ?_ | with_reducible refine r_B ?_ | with_reducible refine r_and ?_ | with_reducible refine r_or ?_ | with_reducible refine r_not ?_ | with_reducible refine r_andV ?_ | with_reducible refine r_orV ?_ | with_reducible refine r_notV ?_ | with_reducible refine r_bl ?_ | with_reducible refine r_yes ?_ | with_reducible refine r_int ?_ | with_reducible refine r_is0 ?_ | with_reducible refine r_is1 ?_ | with_reducible refine iteT ?_ | with_reducible refine iteF ?_ | with_reducible refine ite_nF ?_ | with_reducible refine ite_nT ?_
  | with_reducible refine r_mod (by decide) ?_ | with_reducible refine r_div (by decide) (by decide) ?_ | with_reducible refine r_mulR (by decide) (by decide) ?_ | with_reducible refine r_mulL (by decide) (by decide) ?_ | with_reducible refine r_pow (by decide) (by decide) (by decide) ?_))
/-! ### class Order, where what is handed in is good -/
def Rg (z : Pr) : Prop := 0 ≤ z.1 ∧ z.1 < 8 ∧ 0 ≤ z.2 ∧ z.2 < 8
structure Gp (zs : List Pr) : Prop where
  nd : zs.Nodup
  rg : ∀ z, z ∈ zs → Rg z
  len : zs.length ≤ 64
structure OrX (p C : Addr) (H : Hp) (x dx q : Addr) (zs : List Pr) : Prop where
  ne : x ≠ p
  o : H x = some (.ins C dx [("sequence", .ref q)])
  l : PL p H q zs
theorem OrX.keep {p C : Addr} {H H' : Hp} {x dx q : Addr} {zs : List Pr} (a : OrX p C H x dx q zs) (s : Keep p H H') : OrX p C H' x dx q zs := ⟨a.ne, s _ _ a.ne a.o, a.l.keep s⟩
theorem OrX.same {p C : Addr} {H H' : Hp} {x dx q : Addr} {zs : List Pr} (a : OrX p C H x dx q zs) (s : Same H H') : OrX p C H' x dx q zs := a.keep (Keep.same s)
theorem one_fst {f : Str} {v : V} : List.lookup f [(f, v)] = some v := by simp [List.lookup]
theorem one_no {m f : Str} {v : V} (h : (m == f) = false) : List.lookup m [(f, v)] = none := by simp [List.lookup, h]
theorem cut_take {vs : List V} {i : Nat} (h : i ≤ vs.length) : cutV vs none (some (i : Int)) = vs.take i := by
  have e : min (i : Int).toNat vs.length = i := by simp; omega
  have n : ¬ (i : Int) < 0 := by omega
  simp only [cutV, HT.sIx, if_neg n, e, List.drop_zero, Nat.sub_zero]
theorem cut_drop {vs : List V} {i : Nat} (h : i ≤ vs.length) : cutV vs (some (i : Int)) none = vs.drop i := by
  have e : min (i : Int).toNat vs.length = i := by simp; omega
  have n : ¬ (i : Int) < 0 := by omega
  simp only [cutV, HT.sIx, if_neg n, e]
  exact List.take_of_length_le (by rw [List.length_drop]; omega)
theorem not_before {zs : List Pr} {z : Pr} {i : Nat} (nd : zs.Nodup) (h : zs[i]? = some z) : z ∉ zs.take i := by
  intro m
  obtain ⟨j, hj, e⟩ := List.getElem_of_mem m
  rw [List.length_take] at hj
  rw [List.getElem_take] at e
  obtain ⟨hi, e2⟩ := List.getElem?_eq_some_iff.mp h
  have := (List.pairwise_iff_getElem.mp nd) j i (by omega) hi (by omega)
  exact this (by rw [e, e2])
/-! ### over data -/
def ordD : PyData → Bool
  | .tuple [.int a, .int b] => decide (0 ≤ a) && decide (a < 8) && decide (0 ≤ b) && decide (b < 8)
  | _ => false
theorem two_eq {x y : PyData} (h : isID x = true) : twoD (.tuple [x, y]) = isID y := by
  cases x <;> cases h
  cases y <;> rfl
theorem two_noD {x y : PyData} (h : isID x = false) : twoD (.tuple [x, y]) = false := by
  cases x <;> first | rfl | cases h
theorem notL {d : PyData} (h : ¬ isLD d = true) (P : PyData → Prop) (g : ∀ e, isLD e = false → P e) : P d := g d (Bool.eq_false_iff.mpr h)
theorem len2 {ds : List PyData} (h : ds.length = 2) : ∃ d1 d2, ds = [d1, d2] := by
  match ds, h with
  | [a, b], _ => exact ⟨a, b, rfl⟩
theorem all2 {K : PySem.W.Frag} {H : Hp} {vs : List V} {x y : PyData} (h : DpAll K H vs [x, y]) : ∃ v u, vs = [v, u] ∧ Dp K H v x ∧ Dp K H u y := by
  cases h with
  | cons h1 r => cases r with
    | cons h2 r2 => cases r2; exact ⟨_, _, rfl, h1, h2⟩
theorem ordD_no {d : PyData} (h : twoD d = false) : ordD d = false := by
  unfold ordD
  split
  · rename_i a b
    exact absurd (show twoD (.tuple [.int a, .int b]) = true from rfl) (by rw [h]; decide)
  · rfl
def badAt (ds : List PyData) (k : Nat) : Bool := !ordD (ds.getD k .none) || (ds.take k).any fun e => PyData.eqv e (ds.getD k .none)
def firstBad (ds : List PyData) : Option Nat := (List.range ds.length).find? (badAt ds)
/-- what is told of a value: -2 where it is good -/
def badD : PyData → Option Int
  | .list ds => if 64 < ds.length then some (-1) else (firstBad ds).map Int.ofNat
  | _ => some (-1)
theorem badD_no {d : PyData} (h : isLD d = false) : badD d = some (-1) := by
  cases d with
  | list ds => cases h
  | _ => rfl
theorem first_some {ds : List PyData} {i : Nat} (hi : i < ds.length) (h : ∀ j, j < i → badAt ds j = false) (b : badAt ds i = true) : firstBad ds = some i := by
  unfold firstBad
  rw [List.find?_range_eq_some]
  exact ⟨b, by simpa using hi, fun j hj => by rw [h j hj]; rfl⟩
theorem first_none {ds : List PyData} (h : ∀ j, j < ds.length → badAt ds j = false) : firstBad ds = none := by
  unfold firstBad
  rw [List.find?_eq_none]
  intro j hj
  rw [h j (by simpa using hj)]
  decide
theorem badAt_good {zs : List Pr} (g : Gp zs) {k : Nat} (hk : k < zs.length) : badAt (zs.map prD) k = false := by
  have e : (zs.map prD).getD k .none = prD zs[k] := by
    rw [List.getD_eq_getElem?_getD, List.getElem?_map, List.getElem?_eq_getElem hk]
    rfl
  have r := g.rg _ (List.getElem_mem hk)
  unfold badAt
  rw [e, ← List.map_take]
  have o : ordD (prD zs[k]) = true := by
    show (decide (0 ≤ zs[k].1) && decide (zs[k].1 < 8) && decide (0 ≤ zs[k].2) && decide (zs[k].2 < 8)) = true
    rw [decide_eq_true r.1, decide_eq_true r.2.1, decide_eq_true r.2.2.1, decide_eq_true r.2.2.2]
    rfl
  rw [o, Bool.not_true, Bool.false_or, List.any_eq_false]
  intro x hx
  obtain ⟨z, hz, rfl⟩ := List.mem_map.mp hx
  rw [pr_eqv]
  have := not_before g.nd (List.getElem?_eq_getElem hk)
  simp only [decide_eq_true_eq]
  exact fun q => this (by rw [← q]; exact hz)
theorem badD_good {zs : List Pr} (g : Gp zs) : badD (prsD zs) = none := by
  show (if 64 < (zs.map prD).length then some (-1) else (firstBad (zs.map prD)).map Int.ofNat) = none
  have := g.len
  rw [if_neg (by rw [List.length_map]; omega), first_none (fun j hj => badAt_good g (by simpa using hj))]
  rfl
def spIntD (K : PySem.W.Frag) : Sp := fun vs H Q _ => ∃ (v : V) (d : PyData), vs = [v] ∧ Dp K H v d ∧ Q (.bl (isID d)) H
def spTwoD (K : PySem.W.Frag) : Sp := fun vs H Q _ => ∃ (v : V) (d : PyData), vs = [v] ∧ Dp K H v d ∧ Q (.bl (twoD d)) H
def spOrdD (K : PySem.W.Frag) : Sp := fun vs H Q _ => ∃ (v : V) (d : PyData), vs = [v] ∧ Dp K H v d ∧ Q (.bl (ordD d)) H
/-- data that may be handed in -/
def Ok (d : PyData) : Prop := ∀ ds, d = .list ds → Small ds ∧ ds.length ≤ 1000
def spChkD (K : PySem.W.Frag) (CE : Addr) : Sp := fun vs H Q E => ∃ (v : V) (d : PyData), vs = [v] ∧ Dp K H v d ∧ Ok d ∧ (badD d = none → ∀ H' : Hp, Same H H' → Q .non H') ∧
  (∀ k, badD d = some k → ∀ (dd : Addr) (H' : Hp), Same H H' → H dd = none → H' dd = some (.xd [("at", .int k)]) → E (.ref CE) (some dd) H')
def spCmp (C : Addr) (g : List Pr → List Pr → Bool) : Sp := fun vs H Q _ => ∃ (p x dx q y dy r : Addr) (zs ws : List Pr), vs = [.ref x, .ref y] ∧ OrX p C H x dx q zs ∧ OrX p C H y dy r ws ∧ Q (.bl (g zs ws)) H
abbrev slIsInt : Stmt := top 8
abbrev slTwo : Stmt := top 10
abbrev slOrdb : Stmt := top 13
abbrev slChkP : Stmt := top 14
/-- the def within a class's text -/
def inCls (i j : Nat) : Stmt := match top i with
  | .ClassDef (body := b) .. => b.getD j (.Pass ⟨0, 0, 0, 0⟩)
  | _ => .Pass ⟨0, 0, 0, 0⟩
section
variable {P : Program} {w : World} {K : PySem.W.Frag} {mg : Str → Option Value} {base : Heap} {C CE f : Addr} {fd : FuncData}
theorem sclIsInt : FnScope ["value"] ["value"] (defScope slIsInt) := ⟨rfl, rfl, rfl, by decide +kernel, rfl, by decide +kernel, by decide +kernel⟩
theorem ok_isInt (F : Fun K "is_integer" "is_integer" slIsInt f fd) (T : Bt mg) : FnOk P w K mg base CX0 1 f fd ["value"] (spIntD K) := by
  refine F.ok sclIsInt (fun vs H Q E h => ?_) (fun cdv A outer s H vs Q E hr h => ?_)
  · obtain ⟨v, d, rfl, _⟩ := h
    rfl
  · obtain ⟨v, d, rfl, hd, k⟩ := h
    refine ⟨_, (pss_one (ps_ret (pe_and (pe_callB call_isi (by rfl) T.isinstance (by decide +kernel) (pa_cons (pv 0) (pa_cons (pe_bltn (v := .ty "int") (by rfl) T.int (by decide +kernel) rfl) pa_nil))) (pe_one (pe_not (pe_callB call_isi (by rfl) T.isinstance (by decide +kernel) (pa_cons (pv 0) (pa_cons (pe_bltn (v := .ty "bool") (by rfl) T.bool (by decide +kernel) rfl) pa_nil)))))))), ?_⟩
    walk_at "rd"
    refine r_isDI hd ?_
    walk_at "rd"
    by_cases e : isIB d = true
    · refine ifT e ?_
      walk_at "rd"
      refine r_isDB hd ?_
      walk_at "rd"
      rw [show isID d = !isBD d from by cases d <;> first | rfl | cases e] at k
      exact k
    · refine ifF (Bool.eq_false_iff.mpr e) ?_
      rw [show isID d = false from by cases d <;> first | exact absurd rfl e | rfl] at k
      exact k
theorem sclTwo : FnScope ["value"] ["value"] (defScope slTwo) := ⟨rfl, rfl, rfl, by decide +kernel, rfl, by decide +kernel, by decide +kernel⟩
theorem ok_two (F : Fun K "is_two" "is_two" slTwo f fd) (T : Bt mg) (DI : Df P w K mg base CX0 "is_integer" 1 ["value"] (spIntD K)) : FnOk P w K mg base CX0 2 f fd ["value"] (spTwoD K) := by
  refine F.ok sclTwo (fun vs H Q E h => ?_) (fun cdv A outer s H vs Q E hr h => ?_)
  · obtain ⟨v, d, rfl, _⟩ := h
    rfl
  · obtain ⟨v, d, rfl, hd, k⟩ := h
    refine ⟨_, (pss_one (ps_ret (pe_and (pe_callB call_isi (by rfl) T.isinstance (by decide +kernel) (pa_cons (pv 0) (pa_cons (pe_bltn (v := .ty "tuple") (by rfl) T.tuple (by decide +kernel) rfl) pa_nil))) (pe_and (pe_cmpR op_eq (pe_callB cl_len (by rfl) T.len PySem.boot_len (pa_cons (pv 0) pa_nil)) pe_int (nomark _)) (pe_and (pe_df DI hr (by decide) (pa_cons (pe_ix ix_tup (pv 0) pe_int (fun _ _ => rfl)) pa_nil)) (pe_one (pe_df DI hr (by decide) (pa_cons (pe_ix ix_tup (pv 0) pe_int (fun _ _ => rfl)) pa_nil)))))))), ?_⟩
    walk_at "rd"
    refine r_isDT hd ?_
    walk_at "rd"
    by_cases e : isTD d = true
    · refine ifT e ?_
      obtain ⟨ds, rfl⟩ : ∃ ds, d = .tuple ds := by cases d <;> first | exact ⟨_, rfl⟩ | cases e
      obtain ⟨t, vs, rfl, ht, hv⟩ := Dp.tupAt hd
      have vl := DpAll.len hv
      walk_at "rd"
      refine r_lenT ht ?_
      walk_at "rd"
      refine r_eq rfl ?_
      walk_at "rd"
      rw [show decide (V.int (vs.length : Int) = V.int 2) = decide (ds.length = 2) from decide_eq_decide.mpr ⟨fun h => by have := V.int.inj h; omega, fun h => by rw [vl, h]; rfl⟩]
      by_cases e2 : ds.length = 2
      · refine ifT (decide_eq_true e2) ?_
        obtain ⟨d1, d2, rfl⟩ : ∃ d1 d2, ds = [d1, d2] := len2 e2
        obtain ⟨v1, v2, rfl, h1, h2⟩ := all2 hv
        walk_at "rd"
        refine r_ixT ht (atI_nat (j := 0) rfl) ?_
        walk_at "rd"
        refine ⟨_, d1, rfl, h1, ?_⟩
        walk_at "rd"
        by_cases e3 : isID d1 = true
        · refine ifT e3 ?_
          walk_at "rd"
          refine r_ixT ht (atI_nat (j := 1) rfl) ?_
          walk_at "rd"
          refine ⟨_, d2, rfl, h2, ?_⟩
          rw [two_eq e3] at k
          exact k
        · refine ifF (Bool.eq_false_iff.mpr e3) ?_
          rw [two_noD (Bool.eq_false_iff.mpr e3)] at k
          exact k
      · refine ifF (decide_eq_false e2) ?_
        have : twoD (.tuple ds) = false := by
          cases q : twoD (.tuple ds) with
          | false => rfl
          | true =>
            obtain ⟨a, b, z⟩ := twoD_inv q
            cases z
            exact absurd rfl e2
        rw [this] at k
        exact k
    · refine ifF (Bool.eq_false_iff.mpr e) ?_
      rw [show twoD d = false from by cases d <;> first | exact absurd rfl e | rfl] at k
      exact k
theorem sclOrdb : FnScope ["value"] ["value"] (defScope slOrdb) := ⟨rfl, rfl, rfl, by decide +kernel, rfl, by decide +kernel, by decide +kernel⟩
theorem ok_ordb (F : Fun K "is_orderable" "is_orderable" slOrdb f fd) {tk : Tok} (hM : mg "MOST_LINES" = some (.int 8 tk)) (DT : Df P w K mg base CX0 "is_two" 2 ["value"] (spTwoD K)) : FnOk P w K mg base CX0 3 f fd ["value"] (spOrdD K) := by
  refine F.ok sclOrdb (fun vs H Q E h => ?_) (fun cdv A outer s H vs Q E hr h => ?_)
  · obtain ⟨v, d, rfl, _⟩ := h
    rfl
  · obtain ⟨v, d, rfl, hd, k⟩ := h
    refine ⟨_, (pss_one (ps_ret (pe_and (pe_df DT hr (by decide) (pa_cons (pv 0) pa_nil)) (pe_and (pe_chain op_le op_lt pe_int (pe_ix ix_tup (pv 0) pe_int (fun _ _ => rfl)) (pe_glob (v := .int 8) (by rfl) hM ⟨tk, rfl⟩)) (pe_one (pe_chain op_le op_lt pe_int (pe_ix ix_tup (pv 0) pe_int (fun _ _ => rfl)) (pe_glob (v := .int 8) (by rfl) hM ⟨tk, rfl⟩))))))), ?_⟩
    walk_at "rd"
    refine ⟨v, d, rfl, hd, ?_⟩
    walk_at "rd"
    by_cases e : twoD d = true
    · refine ifT e ?_
      obtain ⟨a, b, rfl⟩ := twoD_inv e
      obtain ⟨t, vs, rfl, ht, hv⟩ := Dp.tupAt hd
      obtain ⟨rfl⟩ : vs = [.int a, .int b] := by
        cases hv with
        | cons h1 r => cases h1; cases r with
          | cons h2 r2 => cases h2; cases r2; rfl
      walk_at "rd"
      refine r_ixT ht (atI_nat (j := 0) rfl) ?_
      walk_at "rd"
      have kk : ∀ {x : Bool}, x = (decide (0 ≤ a) && decide (a < 8) && decide (0 ≤ b) && decide (b < 8)) → Q (.bl x) H := fun {x} q => by rw [q]; exact k
      by_cases g1 : 0 ≤ a
      · refine ifT (decide_eq_true g1) ?_
        walk_at "rd"
        by_cases g2 : a < 8
        · refine ifT (decide_eq_true g2) ?_
          walk_at "rd"
          refine r_ixT ht (atI_nat (j := 1) rfl) ?_
          walk_at "rd"
          by_cases g3 : 0 ≤ b
          · refine ifT (decide_eq_true g3) ?_
            walk_at "rd"
            exact kk (by simp [g1, g2, g3])
          · refine ifF (decide_eq_false g3) ?_
            exact kk (by simp [g3])
        · refine ifF (decide_eq_false g2) ?_
          exact kk (by simp [g2])
      · refine ifF (decide_eq_false g1) ?_
        exact ⟨false, rfl, ifF rfl (kk (by simp [g1]))⟩
    · refine ifF (Bool.eq_false_iff.mpr e) ?_
      rw [ordD_no (Bool.eq_false_iff.mpr e)] at k
      exact k
end
end Pk
set_option Elab.async false
set_option linter.all false
set_option maxRecDepth 100000
set_option maxHeartbeats 4000000
namespace Pk
open PySem L2
local macro_rules | `(tactic| walk_at "rd") => `(tactic| repeat (first
  | with_reducible refine r_seq ?_ | with_reducible refine r_nxt ?_ | with_reducible refine r_asg ?_ | with_reducible refine r_to ?_ | with_reducible refine r_ret ?_ | with_reducible refine r_for ?_ | with_reducible refine r_lc ?_ | with_reducible refine r_lc2 ?_ | with_reducible refine r_rng1 ?_ | with_reducible refine r_list ?_ | with_reducible refine r_tupI ?_ | with_reducible refine r_drop ?_ | with_reducible refine r_ifs ?_
  | with_reducible refine r_op ?_ | with_reducible refine r_c ?_ | with_reducible refine r_var rfl ?_ | with_reducible refine r_var (by assumption) ?_ | with_reducible refine r_I0 ?_ | with_reducible refine r_un ?_ | with_reducible refine r_U ?_ | with_reducible refine r_make ?_ | with_reducible refine r_makeS ?_ | with_reducible refine r_ifE ?_ | with_reducible refine r_cm ?_ | with_reducible refine r_mkV rfl ?_ | with_reducible refine r_sub ?_
  | with_reducible refine r_nil ?_ | with_reducible refine r_cons ?_ | with_reducible refine r_cb ?_ | with_reducible refine r_sl ?_ | with_reducible refine r_noP ?_ | with_reducible refine r_part ?_ | with_reducible refine r_isI ?_ | with_reducible refine r_lst ?_ | with_reducible refine r_tup ?_ | with_reducible refine r_call ?_ | with_reducible refine r_callS ?_ | with_reducible refine r_sFldU ?_ | with_reducible refine r_chain ?_ | with_reducible refine r_enum ?_ | with_reducible refine r_zip ?_ | with_reducible refine r_rng3 ?_ | with_reducible refine r_gtup ?_ | with_reducible refine r_methU ?_
  | with_reducible refine r_test ?_ | with_reducible refine r_B ?_ | with_reducible refine r_and ?_ | with_reducible refine r_or ?_ | with_reducible refine r_not ?_ | with_reducible refine r_andV ?_ | with_reducible refine r_orV ?_ | with_reducible refine r_notV ?_ | with_reducible refine r_bl ?_ | with_reducible refine r_yes ?_ | with_reducible refine r_int ?_ | with_reducible refine r_is0 ?_ | with_reducible refine r_is1 ?_ | with_reducible refine iteT ?_ | with_reducible refine iteF ?_ | with_reducible refine ite_nF ?_ | with_reducible refine ite_nT ?_
  | with_reducible refine r_mod (by decide) ?_ | with_reducible refine r_div (by decide) (by decide) ?_ | with_reducible refine r_mulR (by decide) (by decide) ?_ | with_reducible refine r_mulL (by decide) (by decide) ?_ | with_reducible refine r_pow (by decide) (by decide) (by decide) ?_))
section
variable {P : Program} {w : World} {K : PySem.W.Frag} {mg : Str → Option Value} {base : Heap} {C CE f : Addr} {fd : FuncData}
theorem sclChkP : FnScope ["pairs", "at", "pair"] ["pairs"] (defScope slChkP) := ⟨rfl, rfl, rfl, by decide +kernel, rfl, by decide +kernel, by decide +kernel⟩
theorem small_at {ds : List PyData} (s : PyData.plainAll ds = true) {i : Nat} {d : PyData} (h : ds[i]? = some d) : d.plain = true := by
  induction ds generalizing i with
  | nil => simp at h
  | cons x r ih =>
    rw [PyData.plainAll, Bool.and_eq_true] at s
    cases i with
    | zero => cases (Option.some.inj h); exact s.1
    | succ i => exact ih s.2 (by simpa using h)
theorem plain_take {ds : List PyData} (s : PyData.plainAll ds = true) : ∀ n, PyData.plainAll (ds.take n) = true := by
  induction ds with
  | nil => intro n; cases n <;> rfl
  | cons x r ih =>
    rw [PyData.plainAll, Bool.and_eq_true] at s
    intro n
    cases n with
    | zero => rfl
    | succ n => rw [List.take_succ_cons, PyData.plainAll, s.1, ih s.2 n]; rfl
theorem depth_take {ds : List PyData} {m : Nat} (s : PyData.depthAll ds ≤ m) : ∀ n, PyData.depthAll (ds.take n) ≤ m := by
  induction ds with
  | nil => intro n; cases n <;> exact s
  | cons x r ih =>
    rw [PyData.depthAll] at s
    intro n
    cases n with
    | zero => exact Nat.zero_le _
    | succ n =>
      rw [List.take_succ_cons, PyData.depthAll]
      have := ih (by omega) n
      omega
theorem Small.take {ds : List PyData} (s : Small ds) (n : Nat) : Small (ds.take n) := ⟨plain_take s.plain n, depth_take s.deep n⟩
abbrev slOEq : Stmt := inCls 15 5
theorem sclOEq : FnScope ["self", "other"] ["self", "other"] (defScope slOEq) := ⟨rfl, rfl, rfl, by decide +kernel, rfl, by decide +kernel, by decide +kernel⟩
theorem ok_OEq (F : Fun K "__eq__" "Order.__eq__" slOEq f fd) (T : Bt mg) (O : OwnC K C) (nS : NoAttr K C "sequence") (gO : mg "Order" = some (.ref C)) : FnOk P w K mg base CX0 1 f fd ["self", "other"] (spCmp C fun zs ws => decide (zs = ws)) := by
  refine F.ok sclOEq (fun vs H Q E h => ?_) (fun cdv A outer s H vs Q E hr h => ?_)
  · obtain ⟨p, x, dx, q, y, dy, r, zs, ws, rfl, _⟩ := h
    rfl
  · obtain ⟨p, x, dx, q, y, dy, r, zs, ws, rfl, X, Y, k⟩ := h
    refine ⟨_, (pss_cons (ps_if (pt_not (pt_val (pe_callB call_isi (by rfl) T.isinstance (by decide +kernel) (pa_cons (pv 1) (pa_cons (pe_glob (v := .ref C) (by rfl) gO rfl) pa_nil))))) pss_never pss_nil)
      (pss_one (ps_ret (pe_cmpR (op_eqD hr.units) (pe_fld (pv 0) rfl) (pe_fld (pv 1) rfl) (nomark _))))), ?_⟩
    walk_at "rd"
    refine r_isiSelf O Y.o ?_
    walk_at "rd"
    refine r_fldV rfl X.o O.cl nS one_fst ?_
    refine r_fldV rfl Y.o O.cl nS one_fst ?_
    exact ⟨_, _, X.l.dp, Y.l.dp, prs_shaped zs, prs_shaped ws, by rw [prs_eqv]; exact k⟩
end
end Pk
set_option Elab.async false
set_option linter.all false
set_option maxRecDepth 100000
set_option maxHeartbeats 4000000
namespace Pk
open PySem L2
local macro_rules | `(tactic| walk_at "rd") => `(tactic| repeat (first
  | with_reducible refine r_seq ?_ | with_reducible refine r_nxt ?_ | with_reducible refine r_asg ?_ | with_reducible refine r_to ?_ | with_reducible refine r_ret ?_ | with_reducible refine r_for ?_ | with_reducible refine r_lc ?_ | with_reducible refine r_lc2 ?_ | with_reducible refine r_rng1 ?_ | with_reducible refine r_list ?_ | with_reducible refine r_tupI ?_ | with_reducible refine r_drop ?_ | with_reducible refine r_ifs ?_
  | with_reducible refine r_op ?_ | with_reducible refine r_c ?_ | with_reducible refine r_var rfl ?_ | with_reducible refine r_var (by assumption) ?_ | with_reducible refine r_I0 ?_ | with_reducible refine r_un ?_ | with_reducible refine r_U ?_ | with_reducible refine r_make ?_ | with_reducible refine r_makeS ?_ | with_reducible refine r_ifE ?_ | with_reducible refine r_cm ?_ | with_reducible refine r_mkV rfl ?_ | with_reducible refine r_sub ?_
  | with_reducible refine r_nil ?_ | with_reducible refine r_cons ?_ | with_reducible refine r_cb ?_ | with_reducible refine r_sl ?_ | with_reducible refine r_noP ?_ | with_reducible refine r_part ?_ | with_reducible refine r_isI ?_ | with_reducible refine r_lst ?_ | with_reducible refine r_tup ?_ | with_reducible refine r_call ?_ | with_reducible refine r_callS ?_ | with_reducible refine r_sFldU ?_ | with_reducible refine r_chain ?_ | with_reducible refine r_enum ?_ | with_reducible refine r_zip ?_ | with_reducible refine r_rng3 ?_ | with_reducible refine r_gtup ?_ | with_reducible refine r_methU ?_
  | with_reducible refine r_test ?_ | with_reducible refine r_B ?_ | with_reducible refine r_and ?_ | with_reducible refine r_or ?_ | with_reducible refine r_not ?_ | with_reducible refine r_andV ?_ | with_reducible refine r_orV ?_ | with_reducible refine r_notV ?_ | with_reducible refine r_bl ?_ | with_reducible refine r_yes ?_ | with_reducible refine r_int ?_ | with_reducible refine r_is0 ?_ | with_reducible refine r_is1 ?_ | with_reducible refine iteT ?_ | with_reducible refine iteF ?_ | with_reducible refine ite_nF ?_ | with_reducible refine ite_nT ?_
  | with_reducible refine r_mod (by decide) ?_ | with_reducible refine r_div (by decide) (by decide) ?_ | with_reducible refine r_mulR (by decide) (by decide) ?_ | with_reducible refine r_mulL (by decide) (by decide) ?_ | with_reducible refine r_pow (by decide) (by decide) (by decide) ?_))
section
variable {P : Program} {w : World} {K : PySem.W.Frag} {mg : Str → Option Value} {base : Heap} {C CE f : Addr} {fd : FuncData}
theorem ok_chkP (F : Fun K "check_pairs" "check_pairs" slChkP f fd) (T : Bt mg) {tk : Tok} (hM : mg "MOST_PAIRS" = some (.int 64 tk)) (DO : Df P w K mg base CX0 "is_orderable" 3 ["value"] (spOrdD K)) (EO : De P w K mg base "InvalidOrder" 3 (spErr1 K 1 CE "at") CE) :
    FnOk P w K mg base (L2.CX P w) 6 f fd ["pairs"] (spChkD K CE) := by
  refine F.okX sclChkP (fun vs H Q E h => ?_) (fun cdv A outer s H vs Q E hr h => ?_)
  · obtain ⟨v, d, rfl, _⟩ := h
    rfl
  · obtain ⟨v, d, rfl, hd, ok, k1, k2⟩ := h
    refine ⟨_, (pss_cons (ps_if (PW.pt (pw_or (pt_not (pt_val (pe_callB call_isi (by rfl) T.isinstance (by decide +kernel) (pa_cons (pv 0) (pa_cons (pe_bltn (v := .ty "list") (by rfl) T.list (by decide +kernel) rfl) pa_nil))))) (pw_or1 (pt_cmpR op_gt (pe_callB cl_len (by rfl) T.len PySem.boot_len (pa_cons (pv 0) pa_nil)) (pe_glob (v := .int 64) (by rfl) hM ⟨tk, rfl⟩) (nomark _))))) (pss_one (ps_rse rfl (takes_of rfl rfl rfl rfl) EO hr (by decide) (pa_cons (pe_un un_neg pe_int) pa_nil))) pss_nil)
  (pss_one (ps_for (passes_of rfl) rfl (pi_enum (by rfl) T.enumerate (pa_cons (pv 0) pa_nil)) (pg_tup (by rfl) (pgs_cons (pg_name (i := 1) sclChkP.nd rfl (Or.inl rfl)) (pgs_cons (pg_name (i := 2) sclChkP.nd rfl (Or.inl rfl)) pgs_nil))) (pss_one (ps_if (PW.pt (pw_or (pt_not (pt_val (pe_df DO hr (by decide) (pa_cons (pv 2) pa_nil)))) (pw_or1 (pt_cmpR (op_inD hr.units) (pv 2) (pe_slice sl_list (pv 0) po_none (po_some (pv 1))) (by rfl))))) (pss_one (ps_rse rfl (takes_of rfl rfl rfl rfl) EO hr (by decide) (pa_cons (pv 1) pa_nil))) pss_nil))))), ?_⟩
    walk_at "rd"
    refine r_isDL hd ?_
    walk_at "rd"
    by_cases e : isLD d = true
    · refine ifF (by rw [e]; rfl) ?_
      obtain ⟨ds, rfl⟩ : ∃ ds, d = .list ds := by cases d <;> first | exact ⟨_, rfl⟩ | cases e
      obtain ⟨sm, d1000⟩ := ok ds rfl
      obtain ⟨a, vs, rfl, ha, hv⟩ := Dp.lstAt hd
      have vl := DpAll.len hv
      walk_at "rd"
      refine r_lenL ha ?_
      walk_at "rd"
      by_cases e64 : 64 < ds.length
      · refine ifT (decide_eq_true (by omega)) ?_
        walk_at "rd"
        refine r_mkErr ?_
        walk_at "rd"
        refine r_err1 (σ := []) (.int _) (.int _) fun dd v' H' s1 h1 h2 o1 => ?_
        cases o1
        exact k2 (-1) (by show (if 64 < ds.length then some (-1) else _) = _; rw [if_pos e64]) dd H' s1 h1 h2
      · refine ifF (decide_eq_false (by omega)) ?_
        have bd : badD (.list ds) = (firstBad ds).map Int.ofNat := if_neg e64
        walk_at "rd"
        refine ⟨a, _, rfl, ha, for_it walk_enum (fun i σ H' => ∃ u v, σ = [some (.ref a), u, v] ∧ Same H H' ∧ ∀ j, j < i → badAt ds j = false) ⟨none, none, rfl, Same.refl H, fun j hj => by cases hj⟩ (fun i σ H' _ ⟨_, _, _, s, _⟩ => s.seq ha) ?_ ?_⟩
        · rintro i x σ H1 H2 hi ⟨u, v, rfl, s1, prev⟩ ⟨t, i', y, rfl, ht, rfl, e1, e2⟩
          obtain ⟨dy, hdy, py⟩ := DpAll.at hv e2
          cases (Option.some.inj e1)
          have gd : ds.getD i .none = dy := by rw [List.getD_eq_getElem?_getD, hdy]; rfl
          have st : Same H (upd H1 t (.tup [.int (i : Int), y])) := Same.up s1 ht
          refine r_gtup ⟨t, _, rfl, SqT.of upd_same, rfl, _, _, rfl, ?_⟩
          walk_at "rd"
          refine ⟨_, _, rfl, ?_⟩
          walk_at "rd"
          refine ⟨rfl, ?_⟩
          walk_at "rd"
          refine ⟨y, dy, rfl, Dp.later st py, ?_⟩
          walk_at "rd"
          have raise : ∀ (H3 : Hp), Same H H3 → badAt ds i = true → tMkErr CE (spErr1 K 1 CE "at") (tCons (tVar 1) tNil) [some (.ref a), some (.int (i : Int)), some y] H3 fun cls d H' => E cls d H' := fun H3 s3 b => by
            refine r_mkErr ?_
            walk_at "rd"
            refine r_err1 (σ := []) (.int _) (.int _) fun dd v' H' s4 h1 h2 o1 => ?_
            cases o1
            exact k2 (i : Int) (by rw [bd, first_some (by omega) prev b]; rfl) dd H' (s3.trans s4) (s3.free h1) h2
          by_cases o : ordD dy = true
          · refine ifF (by rw [o]; rfl) ?_
            walk_at "rd"
            refine ⟨a, vs, rfl, st.seq ha, fun q nq => ?_⟩
            rw [cut_take (by omega)]
            have sq := Same.up (o := .lst (vs.take i)) st nq
            refine ⟨dy, ds.take i, Dp.later sq py, .lst (SqL.of upd_same) (DpAll.later sq (DpAll.take hv i)), small_at sm.plain hdy, sm.take i, ?_⟩
            walk_at "rd"
            have be : badAt ds i = (ds.take i).any fun e => PyData.eqv e dy := by rw [badAt, gd, o]; rfl
            by_cases inn : ((ds.take i).any fun e => PyData.eqv e dy) = true
            · refine ifT inn ?_
              exact raise _ sq (by rw [be]; exact inn)
            · refine ifF (Bool.eq_false_iff.mpr inn) ?_
              walk_at "rd"
              refine ⟨_, _, rfl, sq, fun j hj => ?_⟩
              by_cases ji : j < i
              · exact prev j ji
              · have : j = i := by omega
                rw [this, be]
                exact Bool.eq_false_iff.mpr inn
          · refine ifT (by rw [Bool.eq_false_iff.mpr o]; rfl) ?_
            exact raise _ st (by rw [badAt, gd, Bool.eq_false_iff.mpr o]; rfl)
        · rintro σ H1 ⟨u, v, rfl, s1, prev⟩
          exact k1 (by rw [bd, first_none (fun j hj => prev j (by omega))]; rfl) H1 s1
    · refine ifT (by rw [Bool.eq_false_iff.mpr e]; rfl) ?_
      walk_at "rd"
      refine r_mkErr ?_
      walk_at "rd"
      refine r_err1 (σ := []) (.int _) (.int _) fun dd v' H' s1 h1 h2 o1 => ?_
      cases o1
      exact k2 (-1) (badD_no (Bool.eq_false_iff.mpr e)) dd H' s1 h1 h2
end
end Pk
set_option Elab.async false
set_option linter.all false
set_option maxRecDepth 100000
set_option maxHeartbeats 4000000
namespace Pk
open PySem L2
local macro_rules | `(tactic| walk_at "rd") => `(tactic| repeat (first
  | with_reducible refine r_seq ?_ | with_reducible refine r_nxt ?_ | with_reducible refine r_asg ?_ | with_reducible refine r_to ?_ | with_reducible refine r_ret ?_ | with_reducible refine r_for ?_ | with_reducible refine r_lc ?_ | with_reducible refine r_lc2 ?_ | with_reducible refine r_rng1 ?_ | with_reducible refine r_list ?_ | with_reducible refine r_tupI ?_ | with_reducible refine r_drop ?_ | with_reducible refine r_ifs ?_
  | with_reducible refine r_op ?_ | with_reducible refine r_c ?_ | with_reducible refine r_var rfl ?_ | with_reducible refine r_var (by assumption) ?_ | with_reducible refine r_I0 ?_ | with_reducible refine r_un ?_ | with_reducible refine r_U ?_ | with_reducible refine r_make ?_ | with_reducible refine r_makeS ?_ | with_reducible refine r_ifE ?_ | with_reducible refine r_cm ?_ | with_reducible refine r_mkV rfl ?_ | with_reducible refine r_sub ?_
  | with_reducible refine r_nil ?_ | with_reducible refine r_cons ?_ | with_reducible refine r_cb ?_ | with_reducible refine r_sl ?_ | with_reducible refine r_noP ?_ | with_reducible refine r_part ?_ | with_reducible refine r_isI ?_ | with_reducible refine r_lst ?_ | with_reducible refine r_tup ?_ | with_reducible refine r_call ?_ | with_reducible refine r_callS ?_ | with_reducible refine r_sFldU ?_ | with_reducible refine r_chain ?_ | with_reducible refine r_enum ?_ | with_reducible refine r_zip ?_ | with_reducible refine r_rng3 ?_ | with_reducible refine r_gtup ?_ | with_reducible refine r_methU ?_
  | with_reducible refine r_test ?_ | with_reducible refine r_B ?_ | with_reducible refine r_and ?_ | with_reducible refine r_or ?_ | with_reducible refine r_not ?_ | with_reducible refine r_andV ?_ | with_reducible refine r_orV ?_ | with_reducible refine r_notV ?_ | with_reducible refine r_bl ?_ | with_reducible refine r_yes ?_ | with_reducible refine r_int ?_ | with_reducible refine r_is0 ?_ | with_reducible refine r_is1 ?_ | with_reducible refine iteT ?_ | with_reducible refine iteF ?_ | with_reducible refine ite_nF ?_ | with_reducible refine ite_nT ?_
  | with_reducible refine r_mod (by decide) ?_ | with_reducible refine r_div (by decide) (by decide) ?_ | with_reducible refine r_mulR (by decide) (by decide) ?_ | with_reducible refine r_mulL (by decide) (by decide) ?_ | with_reducible refine r_pow (by decide) (by decide) (by decide) ?_))
section
variable {X : Cx} {CX : CXT} {k : Nat} {C : Addr} {sp : Sp} {E : L2.St → XK} {a b : Expr} {ta tb : TE} {pos : Pos}
theorem pt_notInOwn (F : Two X CX k C "__contains__" sp) (hr : Room k X.A) (hx : ∀ σ, PassesAt CX X σ (E σ)) (ha : PE X a ta) (hb : PE X b tb) (hm : behindInMarks .NotIn b = false) :
    PT X (.Compare a [.NotIn] [b] pos) (tTest (tOp2 (rOwnIn C sp true) E ta tb)) := by
  obtain ⟨f, fd, ps, M, F, B⟩ := F.ex
  refine ⟨fun pins s σ H Q I h => ?_⟩
  refine wpAny_isTrue_Compare1 (binT ha hb I h fun v u s2 y x H2 I2 ry rx q => ?_) hm
  obtain ⟨a, dx, fs, rfl, e, q⟩ := q
  cases rx
  obtain ⟨ox, od, J⟩ := own_at I2 e
  obtain ⟨m, hF⟩ := I2.fr
  refine PySem.W.notIn_K hF I2.ok.mod.kin J M.at_ M.fn ?_
  refine wpAny_mono (own_run (us := [.ref a, v]) (vs := [.ref a, y]) F hr I2.env0 B (hx σ) I2 (.cons rfl (.cons ry .nil)) q) (fun w s' z => ?_) fun _ _ z => z
  obtain ⟨z, H3, I3, rz, c, rfl, qz⟩ := z
  cases (show w = Value.bool c from rz)
  obtain ⟨k2, e2, q2⟩ := qz
  cases e2
  exact wpAny_pure (wpAny_truthy_bool ⟨H3, I3, q2⟩)
end
theorem hu65 {k : Nat} {A : Around} (r : Room k A) : A.units + 65 < cLine := by have := r.un; omega
theorem OkPrs (zs : List Pr) (h : zs.length ≤ 64) : Ok (prsD zs) := fun ds e => by
  cases e
  exact ⟨⟨prs_plainAll zs, Nat.le_trans (prs_depthAll zs) (by decide)⟩, by rw [List.length_map]; omega⟩
def spOrIF (K : PySem.W.Frag) (C CE : Addr) : Sp := fun vs H Q E => ∃ (p x dx : Addr) (v : V), vs = [.ref x, v] ∧ H x = some (.ins C dx []) ∧ H dx = some (.own x) ∧ dx ≠ x ∧ x ≠ p ∧ (∃ o, H p = some o) ∧
  ((∃ (a : Addr) (zs : List Pr), v = .ref a ∧ PL p H a zs ∧ Gp zs ∧ ∀ (H' : Hp) (q : Addr), H q = none → OrX p C H' x dx q zs → (∀ c o, c ≠ x → H c = some o → H' c = some o) → Q .non H') ∨
   (∃ (d : PyData) (k : Int), Dp K H v d ∧ Ok d ∧ badD d = some k ∧ ∀ (dd : Addr) (H' : Hp), Same H H' → H dd = none → H' dd = some (.xd [("at", .int k)]) → E (.ref CE) (some dd) H'))
def spBet : Sp := fun vs H Q _ => ∃ i lo hi : Int, vs = [.int i, .int lo, .int hi] ∧ Q (.bl (decide (lo ≤ i) && decide (i ≤ hi))) H
def spGetO (C : Addr) : Sp := fun vs H Q _ => ∃ (p x dx q : Addr) (zs : List Pr) (k : Nat) (z : Pr), vs = [.ref x, .int (k : Int)] ∧ OrX p C H x dx q zs ∧ zs[k]? = some z ∧ ∀ v, PrAt p H v z → Q v H
def spLenO (C : Addr) : Sp := fun vs H Q _ => ∃ (p x dx q : Addr) (zs : List Pr), vs = [.ref x] ∧ OrX p C H x dx q zs ∧ Q (.int (zs.length : Int)) H
def spHasO (C : Addr) : Sp := fun vs H Q _ => ∃ (p r x dx q : Addr) (zs : List Pr) (y : V) (z : Pr), vs = [.ref x, y] ∧ OrX p C H x dx q zs ∧ PrAt r H y z ∧ Q (.bl (decide (z ∈ zs))) H
def spPlaceO (C : Addr) : Sp := fun vs H Q _ => ∃ (p r x dx q : Addr) (zs : List Pr) (y : V) (z : Pr) (k : Nat), vs = [.ref x, y] ∧ OrX p C H x dx q zs ∧ zs.Nodup ∧ PrAt r H y z ∧ zs[k]? = some z ∧ Q (.int (k : Int)) H
def spPairsO (C : Addr) : Sp := fun vs H Q _ => ∃ (p x dx q : Addr) (zs : List Pr) (vs' : List V), vs = [.ref x] ∧ OrX p C H x dx q zs ∧ H q = some (.lst vs') ∧ ∀ r, H r = none → Q (.ref r) (upd H r (.lst vs'))
abbrev slOrI : Stmt := inCls 15 0
abbrev slGet : Stmt := inCls 15 1
abbrev slLen : Stmt := inCls 15 3
abbrev slHas : Stmt := inCls 15 4
abbrev slPlace : Stmt := inCls 15 10
abbrev slPrs : Stmt := inCls 15 14
abbrev slBet : Stmt := top 9
section
variable {P : Program} {w : World} {K : PySem.W.Frag} {mg : Str → Option Value} {base : Heap} {C CE f : Addr} {fd : FuncData}
theorem sclOrI : FnScope ["self", "pairs"] ["self", "pairs"] (defScope slOrI) := ⟨rfl, rfl, rfl, by decide +kernel, rfl, by decide +kernel, by decide +kernel⟩
theorem ok_orI (F : Fun K "__init__" "Order.__init__" slOrI f fd) (T : Bt mg) (O : OwnC K C) (nS : NoAttr K C "sequence") (DC : Df P w K mg base (L2.CX P w) "check_pairs" 6 ["pairs"] (spChkD K CE)) : FnOk P w K mg base (L2.CX P w) 8 f fd ["self", "pairs"] (spOrIF K C CE) := by
  refine F.okX sclOrI (fun vs H Q E h => ?_) (fun cdv A outer s H vs Q E hr h => ?_)
  · obtain ⟨p, x, dx, v, rfl, _⟩ := h
    rfl
  · obtain ⟨p, x, dx, v, rfl, hx, hdx, ne, xp, ⟨op, hp⟩, k⟩ := h
    refine ⟨_, (pss_cons (ps_expr (pe_dfS (takes_of rfl rfl rfl rfl) DC hr (by decide) (pa_cons (pv 1) pa_nil))) (pss_one (ps_fld (pv 0) (pe_callTy cl_lst (by rfl) T.list (by decide +kernel) (pa_cons (pv 1) pa_nil)) rfl))), ?_⟩
    walk_at "rd"
    rcases k with ⟨a, zs, rfl, la, g, k⟩ | ⟨d, k0, hd, ok, bd, k⟩
    · refine ⟨_, prsD zs, rfl, la.dp, OkPrs zs g.len, fun _ H1 s1 => ?_, fun k1 e => by rw [badD_good g] at e; cases e⟩
      obtain ⟨na, vs, ha, hv⟩ := la
      walk_at "rd"
      refine r_lstOf (SqL.of (s1 _ _ ha)) fun q nq => ?_
      have x1 : x ≠ q := fun z => by
        have e := s1 _ _ hx
        rw [z, nq] at e
        cases e
      have q1 : q ≠ p := fun z => by
        have e := s1 _ _ hp
        rw [← z, nq] at e
        cases e
      have s2 := Same.up (o := .lst vs) s1 nq
      walk_at "rd"
      refine r_sFld0 (C := C) (dx := dx) (fs := []) (by rw [upd_ne x1]; exact s1 _ _ hx) O.cl nS (by decide) ?_
      have kp : ∀ c o, c ≠ x → H c = some o → (upd (upd H1 q (.lst vs)) x (.ins C dx (putF "sequence" (.ref q) []))) c = some o := fun c o n e => by
        rw [upd_ne n]
        exact s2 _ _ e
      have nt : ∀ c o, H c = some o → o ≠ .ins C dx [] → c ≠ x := fun c o e n z => by
        rw [z, hx] at e
        exact n (Option.some.inj e).symm
      exact k _ q (s1.free nq) ⟨xp, upd_same, q1, vs, by rw [upd_ne (Ne.symm x1), upd_same], hv.mono fun t xs e => kp t _ (nt t _ e fun z => by cases z) e⟩ kp
    · refine ⟨v, d, rfl, hd, ok, fun e => ?_, fun k1 e dd H' s1 h1 h2 => ?_⟩
      · rw [bd] at e
        cases e
      · rw [bd] at e
        cases (Option.some.inj e)
        exact k dd H' s1 h1 h2
theorem sclBet : FnScope ["value", "low", "high"] ["value", "low", "high"] (defScope slBet) := ⟨rfl, rfl, rfl, by decide +kernel, rfl, by decide +kernel, by decide +kernel⟩
theorem ok_bet (F : Fun K "is_between" "is_between" slBet f fd) (DI : Df P w K mg base CX0 "is_integer" 1 ["value"] (spIntD K)) : FnOk P w K mg base CX0 2 f fd ["value", "low", "high"] spBet := by
  refine F.ok sclBet (fun vs H Q E h => ?_) (fun cdv A outer s H vs Q E hr h => ?_)
  · obtain ⟨i, lo, hi, rfl, _⟩ := h
    rfl
  · obtain ⟨i, lo, hi, rfl, k⟩ := h
    refine ⟨_, (pss_one (ps_ret (pe_and (pe_df DI hr (by decide) (pa_cons (pv 0) pa_nil)) (pe_one (pe_chain op_le op_le (pv 1) (pv 0) (pv 2)))))), ?_⟩
    walk_at "rd"
    refine ⟨_, .int i, rfl, .int i, ?_⟩
    refine ⟨true, rfl, ifT rfl ?_⟩
    walk_at "rd"
    by_cases c : lo ≤ i
    · refine ifT (decide_eq_true c) ?_
      rw [decide_eq_true c, Bool.true_and] at k
      walk_at "rd"
      exact k
    · refine ifF (decide_eq_false c) ?_
      rw [decide_eq_false c, Bool.false_and] at k
      exact k
theorem sclGet : FnScope ["self", "at"] ["self", "at"] (defScope slGet) := ⟨rfl, rfl, rfl, by decide +kernel, rfl, by decide +kernel, by decide +kernel⟩
theorem ok_get (F : Fun K "__getitem__" "Order.__getitem__" slGet f fd) (T : Bt mg) (O : OwnC K C) (nS : NoAttr K C "sequence") (DB : Df P w K mg base CX0 "is_between" 2 ["value", "low", "high"] spBet) : FnOk P w K mg base CX0 3 f fd ["self", "at"] (spGetO C) := by
  refine F.ok sclGet (fun vs H Q E h => ?_) (fun cdv A outer s H vs Q E hr h => ?_)
  · obtain ⟨p, x, dx, q, zs, k, z, rfl, _⟩ := h
    rfl
  · obtain ⟨p, x, dx, q, zs, k, z, rfl, X, hz, kk⟩ := h
    obtain ⟨nq, vs, hq, hv⟩ := X.l
    have kl := (List.getElem?_eq_some_iff.mp hz).1
    have vl := hv.length
    refine ⟨_, (pss_cons (ps_if (pt_not (pt_val (pe_df DB hr (by decide) (pa_cons (pv 1) (pa_cons pe_int (pa_cons (pe_op op_sub (pe_callB cl_len (by rfl) T.len PySem.boot_len (pa_cons (pe_fld (pv 0) rfl) pa_nil)) pe_int) pa_nil)))))) pss_never pss_nil)
      (pss_one (ps_ret (pe_ix ix_list (pe_fld (pv 0) rfl) (pv 1) (fun _ _ => rfl))))), ?_⟩
    walk_at "rd"
    refine r_fldV rfl X.o O.cl nS one_fst ?_
    walk_at "rd"
    refine r_lenL (SqL.of hq) ?_
    walk_at "rd"
    refine ⟨(k : Int), 0, (vs.length : Int) - 1, rfl, ?_⟩
    walk_at "rd"
    refine ifF (by rw [decide_eq_true (by omega), decide_eq_true (by omega)]; rfl) ?_
    walk_at "rd"
    refine r_fldV rfl X.o O.cl nS one_fst ?_
    walk_at "rd"
    obtain ⟨v, ev, pv⟩ := hv.get hz
    refine r_ixL (SqL.of hq) (atI_nat ev) ?_
    exact kk v pv
theorem sclLen : FnScope ["self"] ["self"] (defScope slLen) := ⟨rfl, rfl, rfl, by decide +kernel, rfl, by decide +kernel, by decide +kernel⟩
theorem ok_len (F : Fun K "__len__" "Order.__len__" slLen f fd) (T : Bt mg) (O : OwnC K C) (nS : NoAttr K C "sequence") : FnOk P w K mg base CX0 1 f fd ["self"] (spLenO C) := by
  refine F.ok sclLen (fun vs H Q E h => ?_) (fun cdv A outer s H vs Q E hr h => ?_)
  · obtain ⟨p, x, dx, q, zs, rfl, _⟩ := h
    rfl
  · obtain ⟨p, x, dx, q, zs, rfl, X, k⟩ := h
    obtain ⟨nq, vs, hq, hv⟩ := X.l
    refine ⟨_, (pss_one (ps_ret (pe_callB cl_len (by rfl) T.len PySem.boot_len (pa_cons (pe_fld (pv 0) rfl) pa_nil)))), ?_⟩
    walk_at "rd"
    refine r_fldV rfl X.o O.cl nS one_fst ?_
    walk_at "rd"
    refine r_lenL (SqL.of hq) ?_
    rw [hv.length]
    exact k
theorem sclHas : FnScope ["self", "x"] ["self", "x"] (defScope slHas) := ⟨rfl, rfl, rfl, by decide +kernel, rfl, by decide +kernel, by decide +kernel⟩
theorem ok_has (F : Fun K "__contains__" "Order.__contains__" slHas f fd) (O : OwnC K C) (nS : NoAttr K C "sequence") (DT : Df P w K mg base CX0 "is_two" 2 ["value"] (spTwoD K)) : FnOk P w K mg base CX0 3 f fd ["self", "x"] (spHasO C) := by
  refine F.ok sclHas (fun vs H Q E h => ?_) (fun cdv A outer s H vs Q E hr h => ?_)
  · obtain ⟨p, r, x, dx, q, zs, y, z, rfl, _⟩ := h
    rfl
  · obtain ⟨p, r, x, dx, q, zs, y, z, rfl, X, hy, k⟩ := h
    refine ⟨_, (pss_one (ps_ret (pe_and (pe_df DT hr (by decide) (pa_cons (pv 1) pa_nil)) (pe_one (pe_cmpR (op_inP hr.units) (pv 1) (pe_fld (pv 0) rfl) (by rfl)))))), ?_⟩
    walk_at "rd"
    refine ⟨y, prD z, rfl, hy.dp, ?_⟩
    refine ⟨true, rfl, ifT rfl ?_⟩
    walk_at "rd"
    refine r_fldV rfl X.o O.cl nS one_fst ?_
    exact ⟨z, zs, hy.dp, X.l.dp, k⟩
theorem sclPlace : FnScope ["self", "pair"] ["self", "pair"] (defScope slPlace) := ⟨rfl, rfl, rfl, by decide +kernel, rfl, by decide +kernel, by decide +kernel⟩
theorem ok_place {fh : Addr} {fdh : FuncData} (F : Fun K "place" "Order.place" slPlace f fd) (O : OwnC K C) (nS : NoAttr K C "sequence") (mH : Meth K C "__contains__" fh) (oH : FnOk P w K mg base CX0 3 fh fdh ["self", "x"] (spHasO C)) (bH : Binds K fdh ["self", "x"] []) :
    FnOk P w K mg base CX0 5 f fd ["self", "pair"] (spPlaceO C) := by
  refine F.ok sclPlace (fun vs H Q E h => ?_) (fun cdv A outer s H vs Q E hr h => ?_)
  · obtain ⟨p, r, x, dx, q, zs, y, z, k, rfl, _⟩ := h
    rfl
  · obtain ⟨p, r, x, dx, q, zs, y, z, k, rfl, X, nd, hy, hz, kk⟩ := h
    refine ⟨_, (pss_cons (ps_if (pt_notInOwn (E := fun _ => E0) ⟨fh, fdh, _, mH, oH, bH⟩ (hr.mono (by decide)) (passN pass0) (pv 1) (pv 0) (by rfl)) pss_never pss_nil)
      (pss_one (ps_ret (pe_bm PySem.F.plainAttrs_list PySem.F.slot_list_index PySem.F.type_list_index (mt_indexD (hu65 hr)) (pe_fld (pv 0) rfl) (pa_cons (pv 1) pa_nil))))), ?_⟩
    walk_at "rd"
    refine r_op2 ?_
    walk_at "rd"
    refine ⟨x, dx, _, rfl, X.o, p, r, x, dx, q, zs, y, z, rfl, X, hy, _, rfl, ?_⟩
    refine ⟨_, rfl, ifF (by rw [decide_eq_true (List.mem_of_getElem? hz)]; rfl) ?_⟩
    walk_at "rd"
    show tBM _ _ _ _ _ _ _ _
    refine r_fldV rfl X.o O.cl nS one_fst ?_
    obtain ⟨nq, vs, hq, hv⟩ := X.l
    refine ⟨.inl ?_, ?_⟩
    · exact ⟨rfl, vs, SqL.of hq⟩
    · walk_at "rd"
      refine ⟨q, y, prD z, zs.map prD, k, prD z, rfl, rfl, .lst (SqL.of hq) hv.dp, hy.dp, prs_shaped zs, pr_shaped z, by rw [List.getElem?_map, hz]; rfl, by rw [pr_eqv, decide_eq_true rfl], fun m z' hm hz' => ?_, kk⟩
      obtain ⟨y', hy', rfl⟩ : ∃ y', zs[m]? = some y' ∧ z' = prD y' := by
        rw [List.getElem?_map] at hz'
        cases e : zs[m]? with
        | none => rw [e] at hz'; cases hz'
        | some y' => rw [e] at hz'; exact ⟨y', rfl, (Option.some.inj hz').symm⟩
      rw [pr_eqv]
      refine decide_eq_false fun e => not_before nd hz ?_
      rw [← e]
      exact List.mem_of_getElem? (i := m) (by rw [List.getElem?_take]; simp [hm, hy'])
theorem sclPrs : FnScope ["self"] ["self"] (defScope slPrs) := ⟨rfl, rfl, rfl, by decide +kernel, rfl, by decide +kernel, by decide +kernel⟩
theorem ok_prs (F : Fun K "pairs" "Order.pairs" slPrs f fd) (T : Bt mg) (O : OwnC K C) (nS : NoAttr K C "sequence") : FnOk P w K mg base CX0 1 f fd ["self"] (spPairsO C) := by
  refine F.ok sclPrs (fun vs H Q E h => ?_) (fun cdv A outer s H vs Q E hr h => ?_)
  · obtain ⟨p, x, dx, q, zs, vs, rfl, _⟩ := h
    rfl
  · obtain ⟨p, x, dx, q, zs, vs, rfl, X, hq, k⟩ := h
    refine ⟨_, (pss_one (ps_ret (pe_callTy cl_lst (by rfl) T.list (by decide +kernel) (pa_cons (pe_fld (pv 0) rfl) pa_nil)))), ?_⟩
    walk_at "rd"
    refine r_fldV rfl X.o O.cl nS one_fst ?_
    walk_at "rd"
    exact r_lstOf (SqL.of hq) k
end
end Pk
set_option Elab.async false
set_option linter.all false
set_option maxRecDepth 100000
set_option maxHeartbeats 4000000
namespace Pk
open PySem L2
local macro_rules | `(tactic| walk_at "rd") => `(tactic| repeat (first
  | with_reducible refine r_seq ?_ | with_reducible refine r_nxt ?_ | with_reducible refine r_asg ?_ | with_reducible refine r_to ?_ | with_reducible refine r_ret ?_ | with_reducible refine r_for ?_ | with_reducible refine r_lc ?_ | with_reducible refine r_lc2 ?_ | with_reducible refine r_rng1 ?_ | with_reducible refine r_list ?_ | with_reducible refine r_tupI ?_ | with_reducible refine r_drop ?_ | with_reducible refine r_ifs ?_
  | with_reducible refine r_op ?_ | with_reducible refine r_c ?_ | with_reducible refine r_var rfl ?_ | with_reducible refine r_var (by assumption) ?_ | with_reducible refine r_I0 ?_ | with_reducible refine r_un ?_ | with_reducible refine r_U ?_ | with_reducible refine r_make ?_ | with_reducible refine r_makeS ?_ | with_reducible refine r_ifE ?_ | with_reducible refine r_cm ?_ | with_reducible refine r_mkV rfl ?_ | with_reducible refine r_sub ?_
  | with_reducible refine r_nil ?_ | with_reducible refine r_cons ?_ | with_reducible refine r_cb ?_ | with_reducible refine r_sl ?_ | with_reducible refine r_noP ?_ | with_reducible refine r_part ?_ | with_reducible refine r_isI ?_ | with_reducible refine r_lst ?_ | with_reducible refine r_tup ?_ | with_reducible refine r_call ?_ | with_reducible refine r_callS ?_ | with_reducible refine r_sFldU ?_ | with_reducible refine r_chain ?_ | with_reducible refine r_enum ?_ | with_reducible refine r_zip ?_ | with_reducible refine r_rng3 ?_ | with_reducible refine r_gtup ?_ | with_reducible refine r_methU ?_
  | with_reducible refine r_test ?_ | with_reducible refine r_B ?_ | with_reducible refine r_and ?_ | with_reducible refine r_or ?_ | with_reducible refine r_not ?_ | with_reducible refine r_andV ?_ | with_reducible refine r_orV ?_ | with_reducible refine r_notV ?_ | with_reducible refine r_bl ?_ | with_reducible refine r_yes ?_ | with_reducible refine r_int ?_ | with_reducible refine r_is0 ?_ | with_reducible refine r_is1 ?_ | with_reducible refine iteT ?_ | with_reducible refine iteF ?_ | with_reducible refine ite_nF ?_ | with_reducible refine ite_nT ?_
  | with_reducible refine r_mod (by decide) ?_ | with_reducible refine r_div (by decide) (by decide) ?_ | with_reducible refine r_mulR (by decide) (by decide) ?_ | with_reducible refine r_mulL (by decide) (by decide) ?_ | with_reducible refine r_pow (by decide) (by decide) (by decide) ?_))
/-! ### the dict {0: 1} among the values -/
section
variable {P : Program} {w : World} {K : PySem.W.Frag} {mg : Str → Option Value} {base : Heap} {C CP f : Addr} {fd : FuncData}
theorem scCopyD : FnScope ["value", "entry", "key"] ["value"] (defScope sCopy) := ⟨rfl, rfl, rfl, by decide +kernel, rfl, by decide +kernel, by decide +kernel⟩
theorem ok_copyD (F : Fun K "own_copy" "own_copy" sCopy f fd) (T : Bt mg) (me : mg "own_copy" = some (.ref f)) : FnOk P w K mg base CX0 2 f fd ["value"] spCopyD := by
  have G := ok_copy (P := P) (w := w) (base := base) F T me 0
  have b : Binds K fd ["value"] [] := F.binds fun _ _ _ _ _ _ us hl => match us, hl with | [_], _ => rfl
  refine F.ok scCopyD (fun vs H Q E h => ?_) (fun cdv A outer s H vs Q E hr h => ?_)
  · obtain ⟨v, rfl, _⟩ := h
    rfl
  · obtain ⟨v, rfl, hv, k⟩ := h
    refine ⟨_, pss_cons (ps_if (pt_val (pe_callB call_isi (by rfl) T.isinstance (by decide +kernel) (pa_cons (pv 0) (pa_cons (pe_bltn (v := .ty "list") (by rfl) T.list (by decide +kernel) rfl) pa_nil)))) pss_never pss_nil)
      (pss_cons (ps_if (pt_val (pe_callB call_isi (by rfl) T.isinstance (by decide +kernel) (pa_cons (pv 0) (pa_cons (pe_bltn (v := .ty "tuple") (by rfl) T.tuple (by decide +kernel) rfl) pa_nil)))) pss_never pss_nil)
      (pss_cons (ps_if (pt_val (pe_callB call_isi (by rfl) T.isinstance (by decide +kernel) (pa_cons (pv 0) (pa_cons (pe_bltn (v := .ty "dict") (by rfl) T.dict (by decide +kernel) rfl) pa_nil))))
        (pss_one (ps_ret (pe_lock (pe_dc (own := [("key", 2), ("entry", 1)]) (g := gTup K 2 (gCons (gName 2) (gCons (gName 1) gNil))) (tt := tYes) (tk := tVar 2) rfl scCopyD.nd (pi_items (pv 0)) (blkOk_by (own := [("key", 2), ("entry", 1)]) (N := ["value", "entry", "key"]) (sc := defScope sCopy) (by decide +kernel))
          (fun _ _ _ _ _ => pg_tup (by rfl) (pgs_cons (pg_name (i := 2) scCopyD.nd rfl (Or.inl rfl)) (pgs_cons (pg_name (i := 1) scCopyD.nd rfl (Or.inl rfl)) pgs_nil))) (fun _ _ _ _ _ => pts_nil) (fun _ _ _ _ _ => pv 2) (fun _ _ _ _ _ => pe_call G hr rfl me F.kp b .nil pass0 (pa_cons (pv 1) pa_nil)))))) pss_nil)
      (pss_one (ps_ret (pv 0))))), ?_⟩
    walk_at "rd"
    refine r_isi hv.ty (by decide +kernel : kitB "dict" "list" = some false) ?_
    walk_at "rd"
    refine r_isi hv.ty (by decide +kernel : kitB "dict" "tuple" = some false) ?_
    walk_at "rd"
    refine r_isi hv.ty (by decide +kernel : kitB "dict" "dict" = some true) ?_
    walk_at "rd"
    obtain ⟨a, rfl, ha⟩ := hv
    refine ⟨a, _, ha, trivial, fun od => ?_⟩
    have hl : upd H a (.frz od (.dK kvs01)) a = some (.frz od (.dK kvs01)) := upd_same
    obtain ⟨HL, eHL⟩ : ∃ HL, HL = upd H a (.frz od (.dK kvs01)) := ⟨_, rfl⟩
    rw [← eHL] at hl ⊢
    show tDc _ _ _ _ _ _ _ _ _
    unfold tDc iItems
    refine r_var rfl ?_
    refine ⟨a, od, kvs01, rfl, hl, fun D nD => dc_it walk_items (fun i H' => Same HL H' ∧ H' D = some (.dK (kvs01.take i))) ⟨Same.up (Same.refl HL) nD, upd_same⟩ (fun i H' _ z => z.1 _ _ hl) ?_ ?_⟩
    · rintro i x H2 H3 hi ⟨s2, hD⟩ ⟨t, kv, y, rfl, ht, rfl, e1, e2⟩
      have i0 : i = 0 := by
        have : i < 1 := hi
        omega
      subst i0
      cases (Option.some.inj e1)
      cases (Option.some.inj e2)
      have s3 := Same.up (o := .tup [kV (Sum.inl 0), V.int 1]) s2 ht
      refine r_gtup ⟨t, _, rfl, SqT.of upd_same, rfl, _, _, rfl, ?_⟩
      walk_at "rd"
      refine ⟨_, _, rfl, ?_⟩
      walk_at "rd"
      refine ⟨rfl, ?_⟩
      walk_at "rd"
      refine ⟨rfl, ?_⟩
      walk_at "rd"
      refine ⟨_, .int 1, rfl, .int 1, .int 1, fun v' H' s4 o1 => ?_⟩
      cases o1
      refine ⟨[], .inl 0, rfl, s4 _ _ (later hD ht), by decide, fun b o e => ?_, upd_same⟩
      rw [upd_ne (fun z => by rw [z, nD] at e; cases e)]
      exact (s3.trans s4) _ _ e
    · rintro H2 ⟨s2, hD⟩
      refine ⟨s2 _ _ hl, ?_⟩
      have aD : a ≠ D := fun z => by rw [← z, hl] at nD; cases nD
      have sH : Same H (upd H2 a (.dK kvs01)) := fun b o e => by
        by_cases z : b = a
        · rw [z, upd_same, ← ha, ← z]
          exact e
        · rw [upd_ne z]
          exact s2 _ _ (by rw [eHL, upd_ne z]; exact e)
      refine k _ _ sH ⟨D, rfl, ?_, by rw [upd_ne (Ne.symm aD)]; exact hD⟩
      rw [eHL, upd_ne (Ne.symm aD)] at nD
      exact nD
end
/-! ### the law's own comparison, of such a dict and of a tuple that ends in it -/
def spSameD : Sp := fun vs H Q _ => ∃ a b : V, vs = [a, b] ∧ D01 H a ∧ D01 H b ∧ Q (.bl true) H
def spSameT (K : PySem.W.Frag) : Sp := fun vs H Q _ => ∃ (p q : Addr) (z : Str) (a b : V), vs = [.ref p, .ref q] ∧ SqT K H p [.str z, a] ∧ SqT K H q [.str z, b] ∧ D01 H a ∧ D01 H b ∧ Q (.bl true) H
theorem d01_ne {H : Hp} {v : V} (h : D01 H v) : v ≠ .non := by
  obtain ⟨a, rfl, _⟩ := h
  exact fun z => by cases z
section
variable {P : Program} {w : World} {K : PySem.W.Frag} {mg : Str → Option Value} {base : Heap} {C CP f : Addr} {fd : FuncData}
theorem ok_sameD (F : Fun K "_law_same" "_law_same" slSame f fd) (T : Bt mg) : FnOk P w K mg base CX0 1 f fd ["_law_actual", "_law_due"] spSameD := by
  refine F.ok sclSame (fun vs H Q E h => ?_) (fun cdv A outer s H vs Q E hr h => ?_)
  · obtain ⟨a, b, rfl, _⟩ := h
    rfl
  · obtain ⟨x, y, rfl, hx, hy, k⟩ := h
    refine ⟨_, pss_cons (ps_if (pt_cmpR op_is0 (pv 1) pe_non (nomark _)) pss_never pss_nil)
        (pss_cons (ps_if (pt_val (pe_callB call_isi (by rfl) T.isinstance (by decide +kernel) (pa_cons (pv 1) (pa_cons (pe_bltn (v := .ty "bool") (by rfl) T.bool (by decide +kernel) rfl) pa_nil)))) pss_never pss_nil)
        (pss_cons (ps_if (pt_val (pe_callB call_isi (by rfl) T.isinstance (by decide +kernel) (pa_cons (pv 1) (pa_cons (pe_bltn (v := .ty "int") (by rfl) T.int (by decide +kernel) rfl) pa_nil)))) pss_never pss_nil)
        (pss_cons (ps_if (pt_val (pe_callB call_isi (by rfl) T.isinstance (by decide +kernel) (pa_cons (pv 1) (pa_cons (pe_bltn (v := .ty "str") (by rfl) T.str (by decide +kernel) rfl) pa_nil)))) pss_never pss_nil)
        (pss_cons (ps_if (pt_val (pe_callB call_isi (by rfl) T.isinstance (by decide +kernel) (pa_cons (pv 1) (pa_cons (pe_bltn (v := .ty "dict") (by rfl) T.dict (by decide +kernel) rfl) pa_nil))))
          (pss_one (ps_ret (pe_and (pe_callB call_isi (by rfl) T.isinstance (by decide +kernel) (pa_cons (pv 0) (pa_cons (pe_bltn (v := .ty "dict") (by rfl) T.dict (by decide +kernel) rfl) pa_nil))) (pe_one (pe_cmpR (op_eq_dictA (Nat.lt_of_le_of_lt (Nat.le_add_right _ 64) hr.units)) (pv 0) (pv 1) (nomark _)))))) pss_nil)
        pss_never)))), ?_⟩
    walk_at "rd"
    refine ite_dec (fun h => absurd h (d01_ne hy)) (fun _ => ?_)
    walk_at "rd"
    refine r_isi hy.ty (by decide +kernel : kitB "dict" "bool" = some false) ?_
    walk_at "rd"
    refine r_isi hy.ty (by decide +kernel : kitB "dict" "int" = some false) ?_
    walk_at "rd"
    refine r_isi hy.ty (by decide +kernel : kitB "dict" "str" = some false) ?_
    walk_at "rd"
    refine r_isi hy.ty (by decide +kernel : kitB "dict" "dict" = some true) ?_
    walk_at "rd"
    refine r_isi hx.ty (by decide +kernel : kitB "dict" "dict" = some true) ?_
    walk_at "rd"
    obtain ⟨a, rfl, ha⟩ := hx
    obtain ⟨b, rfl, hb⟩ := hy
    refine ⟨a, b, kvs01, kvs01, rfl, rfl, ha, hb, rfl, fun p hp => ?_, k⟩
    rw [List.mem_singleton] at hp
    subst hp
    exact ⟨rfl, rfl⟩
theorem ok_sameT (F : Fun K "_law_same" "_law_same" slSame f fd) (T : Bt mg) (me : mg "_law_same" = some (.ref f)) : FnOk P w K mg base CX0 2 f fd ["_law_actual", "_law_due"] (spSameT K) := by
  have G := (ok_same (P := P) (w := w) (base := base) F T me 0).or (ok_sameD (P := P) (w := w) (base := base) F T)
  have b : Binds K fd ["_law_actual", "_law_due"] [] := F.binds fun _ _ _ _ _ _ us hl => match us, hl with | [_, _], _ => rfl
  refine F.ok sclSame (fun vs H Q E h => ?_) (fun cdv A outer s H vs Q E hr h => ?_)
  · obtain ⟨p, q, z, a, b, rfl, _⟩ := h
    rfl
  · obtain ⟨p, q, z, x, y, rfl, hX, hY, hx, hy, k⟩ := h
    refine ⟨_, pss_cons (ps_if (pt_cmpR op_is0 (pv 1) pe_non (nomark _)) pss_never pss_nil)
        (pss_cons (ps_if (pt_val (pe_callB call_isi (by rfl) T.isinstance (by decide +kernel) (pa_cons (pv 1) (pa_cons (pe_bltn (v := .ty "bool") (by rfl) T.bool (by decide +kernel) rfl) pa_nil)))) pss_never pss_nil)
        (pss_cons (ps_if (pt_val (pe_callB call_isi (by rfl) T.isinstance (by decide +kernel) (pa_cons (pv 1) (pa_cons (pe_bltn (v := .ty "int") (by rfl) T.int (by decide +kernel) rfl) pa_nil)))) pss_never pss_nil)
        (pss_cons (ps_if (pt_val (pe_callB call_isi (by rfl) T.isinstance (by decide +kernel) (pa_cons (pv 1) (pa_cons (pe_bltn (v := .ty "str") (by rfl) T.str (by decide +kernel) rfl) pa_nil)))) pss_never pss_nil)
        (pss_cons (ps_if (pt_val (pe_callB call_isi (by rfl) T.isinstance (by decide +kernel) (pa_cons (pv 1) (pa_cons (pe_bltn (v := .ty "dict") (by rfl) T.dict (by decide +kernel) rfl) pa_nil)))) pss_never pss_nil)
        (pss_cons (ps_if (pt_val (pe_callB call_isi (by rfl) T.isinstance (by decide +kernel) (pa_cons (pv 1) (pa_cons (pe_bltn (v := .ty "list") (by rfl) T.list (by decide +kernel) rfl) pa_nil))))
          pss_never
          (pss_one (ps_if (pt_not (pt_val (pe_callB call_isi (by rfl) T.isinstance (by decide +kernel) (pa_cons (pv 0) (pa_cons (pe_bltn (v := .ty "tuple") (by rfl) T.tuple (by decide +kernel) rfl) pa_nil))))) (pss_one (ps_ret pe_bl)) pss_nil)))
        (pss_cons (ps_if (pt_cmpR op_ne (pe_callB cl_len (by rfl) T.len PySem.boot_len (pa_cons (pv 0) pa_nil)) (pe_callB cl_len (by rfl) T.len PySem.boot_len (pa_cons (pv 1) pa_nil)) (nomark _)) (pss_one (ps_ret pe_bl)) pss_nil)
            (pss_cons (ps_for PassesOwn.never rfl (pi_range1 rfl T.range (pa_cons (pe_callB cl_len (by rfl) T.len PySem.boot_len (pa_cons (pv 1) pa_nil)) pa_nil)) (pg_name (i := 2) sclSame.nd rfl (Or.inl rfl))
              (pss_one (ps_if (pt_not (pt_val (pe_call G hr rfl me F.kp b .nil pass0 (pa_cons (pe_ix ix_tup (pv 0) (pv 2) (fun _ _ => rfl)) (pa_cons (pe_ix ix_tup (pv 1) (pv 2) (fun _ _ => rfl)) pa_nil))))) (pss_one (ps_ret pe_bl)) pss_nil)))
            (pss_one (ps_ret pe_bl))))))))), ?_⟩
    have ty : ∀ {a : Addr} {xs : List V}, SqT K H a xs → TyX K H (.ref a) (.type "tuple") := fun h => by
      rcases h with (h | ⟨o, h⟩) | ⟨o, its, n, h, c, _⟩
      · exact .base (.tup h)
      · exact .fTuple h
      · exact .kTuple h c
    walk_at "rd"
    refine ite_dec (fun h => by cases h) (fun _ => ?_)
    walk_at "rd"
    refine r_isi (ty hY) (by decide +kernel : kitB "tuple" "bool" = some false) ?_
    walk_at "rd"
    refine r_isi (ty hY) (by decide +kernel : kitB "tuple" "int" = some false) ?_
    walk_at "rd"
    refine r_isi (ty hY) (by decide +kernel : kitB "tuple" "str" = some false) ?_
    walk_at "rd"
    refine r_isi (ty hY) (by decide +kernel : kitB "tuple" "dict" = some false) ?_
    walk_at "rd"
    refine r_isi (ty hY) (by decide +kernel : kitB "tuple" "list" = some false) ?_
    walk_at "rd"
    refine r_isi (ty hX) (by decide +kernel : kitB "tuple" "tuple" = some true) ?_
    walk_at "rd"
    refine r_lenT hX ?_
    walk_at "rd"
    refine r_lenT hY ?_
    refine r_ne rfl ?_
    walk_at "rd"
    refine ite_no (fun _ => ?_) (fun h => absurd rfl h)
    walk_at "rd"
    refine r_lenT hY ?_
    walk_at "rd"
    refine ⟨_, rfl, by omega, by show ((2 : Nat) : Int) < 2 ^ 62; decide, for_it walk_range (fun i σ H' => H' = H ∧ ∃ v : Option V, σ = [some (.ref p), some (.ref q), v]) ⟨rfl, none, rfl⟩ (fun _ _ _ _ _ => trivial) ?_ ?_⟩
    · rintro i u σ H2 H3 hi ⟨rfl, v, rfl⟩ ⟨rfl, rfl⟩
      show gName 2 (V.int (0 + (i : Int))) _ _ _
      rw [Int.zero_add]
      walk_at "rd"
      match i, hi with
      | 0, _ =>
        refine r_ixT hX (atI_nat (j := 0) rfl) ?_
        walk_at "rd"
        refine r_ixT hY (atI_nat (j := 0) rfl) ?_
        walk_at "rd"
        refine .inl ⟨_, _, .str z, rfl, .str z, .str z, .str z, ?_⟩
        walk_at "rd"
        exact ⟨rfl, _, rfl⟩
      | 1, _ =>
        refine r_ixT hX (atI_nat (j := 1) rfl) ?_
        walk_at "rd"
        refine r_ixT hY (atI_nat (j := 1) rfl) ?_
        walk_at "rd"
        refine .inr ⟨_, _, rfl, hx, hy, ?_⟩
        walk_at "rd"
        exact ⟨rfl, _, rfl⟩
      | i + 2, hi => 
        have : i + 2 < 2 := hi
        omega
    · rintro σ H' ⟨rfl, v, rfl⟩
      walk_at "rd"
      exact k
end
/-! ### such a dict is no cell -/
def spTwoN (K : PySem.W.Frag) : Sp := fun vs H Q _ => ∃ v : V, vs = [v] ∧ D01 H v ∧ Q (.bl false) H
section
variable {P : Program} {w : World} {K : PySem.W.Frag} {mg : Str → Option Value} {base : Heap} {C CP f : Addr} {fd : FuncData}
theorem ok_twoN (F : Fun K "is_two" "is_two" slTwo f fd) (T : Bt mg) (DI : Df P w K mg base CX0 "is_integer" 1 ["value"] (spIntD K)) : FnOk P w K mg base CX0 2 f fd ["value"] (spTwoN K) := by
  refine F.ok sclTwo (fun vs H Q E h => ?_) (fun cdv A outer s H vs Q E hr h => ?_)
  · obtain ⟨v, rfl, _⟩ := h
    rfl
  · obtain ⟨v, rfl, hd, k⟩ := h
    refine ⟨_, (pss_one (ps_ret (pe_and (pe_callB call_isi (by rfl) T.isinstance (by decide +kernel) (pa_cons (pv 0) (pa_cons (pe_bltn (v := .ty "tuple") (by rfl) T.tuple (by decide +kernel) rfl) pa_nil))) (pe_and (pe_cmpR op_eq (pe_callB cl_len (by rfl) T.len PySem.boot_len (pa_cons (pv 0) pa_nil)) pe_int (nomark _)) (pe_and (pe_df DI hr (by decide) (pa_cons (pe_ix ix_tup (pv 0) pe_int (fun _ _ => rfl)) pa_nil)) (pe_one (pe_df DI hr (by decide) (pa_cons (pe_ix ix_tup (pv 0) pe_int (fun _ _ => rfl)) pa_nil)))))))), ?_⟩
    walk_at "rd"
    refine r_isi hd.ty (by decide +kernel : kitB "dict" "tuple" = some false) ?_
    walk_at "rd"
    exact k
end
end Pk
set_option Elab.async false
set_option linter.all false
set_option maxRecDepth 100000
set_option maxHeartbeats 4000000
namespace Pk
open PySem L2
local macro_rules | `(tactic| walk_at "rd") => `(tactic| repeat (first
  | with_reducible refine r_seq ?_ | with_reducible refine r_nxt ?_ | with_reducible refine r_asg ?_ | with_reducible refine r_to ?_ | with_reducible refine r_ret ?_ | with_reducible refine r_for ?_ | with_reducible refine r_lc ?_ | with_reducible refine r_lc2 ?_ | with_reducible refine r_rng1 ?_ | with_reducible refine r_list ?_ | with_reducible refine r_tupI ?_ | with_reducible refine r_drop ?_ | with_reducible refine r_ifs ?_
  | with_reducible refine r_op ?_ | with_reducible refine r_c ?_ | with_reducible refine r_var rfl ?_ | with_reducible refine r_var (by assumption) ?_ | with_reducible refine r_I0 ?_ | with_reducible refine r_un ?_ | with_reducible refine r_U ?_ | with_reducible refine r_make ?_ | with_reducible refine r_makeS ?_ | with_reducible refine r_ifE ?_ | with_reducible refine r_cm ?_ | with_reducible refine r_mkV rfl ?_ | with_reducible refine r_sub ?_
  | with_reducible refine r_nil ?_ | with_reducible refine r_cons ?_ | with_reducible refine r_cb ?_ | with_reducible refine r_sl ?_ | with_reducible refine r_noP ?_ | with_reducible refine r_part ?_ | with_reducible refine r_isI ?_ | with_reducible refine r_lst ?_ | with_reducible refine r_tup ?_ | with_reducible refine r_call ?_ | with_reducible refine r_callS ?_ | with_reducible refine r_sFldU ?_ | with_reducible refine r_chain ?_ | with_reducible refine r_enum ?_ | with_reducible refine r_zip ?_ | with_reducible refine r_rng3 ?_ | with_reducible refine r_gtup ?_ | with_reducible refine r_methU ?_
  | with_reducible refine r_test ?_ | with_reducible refine r_B ?_ | with_reducible refine r_and ?_ | with_reducible refine r_or ?_ | with_reducible refine r_not ?_ | with_reducible refine r_andV ?_ | with_reducible refine r_orV ?_ | with_reducible refine r_notV ?_ | with_reducible refine r_bl ?_ | with_reducible refine r_yes ?_ | with_reducible refine r_int ?_ | with_reducible refine r_is0 ?_ | with_reducible refine r_is1 ?_ | with_reducible refine iteT ?_ | with_reducible refine iteF ?_ | with_reducible refine ite_nF ?_ | with_reducible refine ite_nT ?_
  | with_reducible refine r_mod (by decide) ?_ | with_reducible refine r_div (by decide) (by decide) ?_ | with_reducible refine r_mulR (by decide) (by decide) ?_ | with_reducible refine r_mulL (by decide) (by decide) ?_ | with_reducible refine r_pow (by decide) (by decide) (by decide) ?_))
/-! ### class Order, whatever is handed in as an index or as a pair -/
def betD (lo hi : Int) : PyData → Bool
  | .int i => decide (lo ≤ i) && decide (i ≤ hi)
  | _ => false
theorem betD_inv {lo hi : Int} {d : PyData} (h : betD lo hi d = true) : ∃ i : Int, d = .int i ∧ lo ≤ i ∧ i ≤ hi := by
  cases d with
  | int i =>
    have h2 : (decide (lo ≤ i) && decide (i ≤ hi)) = true := h
    rw [Bool.and_eq_true, decide_eq_true_eq, decide_eq_true_eq] at h2
    exact ⟨i, rfl, h2.1, h2.2⟩
  | _ => cases h
theorem betD_nat {lo hi : Int} {d : PyData} (l : 0 ≤ lo) (h : betD lo hi d = true) : ∃ i : Nat, d = .int (i : Int) ∧ lo ≤ (i : Int) ∧ (i : Int) ≤ hi := by
  obtain ⟨i, rfl, h1, h2⟩ := betD_inv h
  exact ⟨i.toNat, by rw [show ((i.toNat : Nat) : Int) = i by omega], by omega, by omega⟩
theorem betD_yes {lo hi i : Int} (h1 : lo ≤ i) (h2 : i ≤ hi) : betD lo hi (.int i) = true := by
  show (decide (lo ≤ i) && decide (i ≤ hi)) = true
  rw [decide_eq_true h1, decide_eq_true h2]; rfl
theorem Dp.intV {K : PySem.W.Frag} {H : Hp} {v : V} {i : Int} (h : Dp K H v (.int i)) : v = .int i := by cases h; rfl
def hasD (zs : List Pr) : PyData → Bool
  | .tuple [.int a, .int b] => decide ((a, b) ∈ zs)
  | _ => false
theorem hasD_pr {zs : List Pr} (z : Pr) : hasD zs (prD z) = decide (z ∈ zs) := by obtain ⟨a, b⟩ := z; rfl
theorem hasD_no {zs : List Pr} {d : PyData} (h : twoD d = false) : hasD zs d = false := by
  unfold hasD
  split
  · rename_i a b
    exact absurd (show twoD (.tuple [.int a, .int b]) = true from rfl) (by rw [h]; decide)
  · rfl
theorem hasD_inv {zs : List Pr} {d : PyData} (h : hasD zs d = true) : ∃ z, d = prD z ∧ z ∈ zs := by
  unfold hasD at h
  split at h
  · rename_i a b
    exact ⟨(a, b), rfl, of_decide_eq_true h⟩
  · cases h
/-- neighbours exchanged; a pair moved; stocks and wishes exchanged -/
def exR (zs : List Pr) (k : Nat) : List Pr := zs.take k ++ [zs.getD (k + 1) (0, 0), zs.getD k (0, 0)] ++ zs.drop (k + 2)
def outR (zs : List Pr) (z : Pr) : List Pr := zs.filter fun y => !decide (y = z)
def mvR (zs : List Pr) (z : Pr) (j : Nat) : List Pr := (outR zs z).take j ++ [z] ++ (outR zs z).drop j
def trO (zs : List Pr) : List Pr := zs.map fun z => (z.2, z.1)
theorem split_at {zs : List Pr} {k : Nat} (h : k + 1 < zs.length) : ∃ (A B : List Pr) (x y : Pr), zs = A ++ x :: y :: B ∧ A.length = k := by
  refine ⟨zs.take k, zs.drop (k + 2), zs[k], zs[k + 1], ?_, by rw [List.length_take]; omega⟩
  conv => lhs; rw [← List.take_append_drop k zs, List.drop_eq_getElem_cons (by omega), List.drop_eq_getElem_cons h]
theorem exR_of (A B : List Pr) (x y : Pr) : exR (A ++ x :: y :: B) A.length = A ++ y :: x :: B := by
  unfold exR
  have e1 : (A ++ x :: y :: B).getD (A.length + 1) (0, 0) = y := by
    rw [List.getD_eq_getElem?_getD, List.getElem?_append_right (by omega)]
    simp
  have e2 : (A ++ x :: y :: B).getD A.length (0, 0) = x := by
    rw [List.getD_eq_getElem?_getD, List.getElem?_append_right (Nat.le_refl _)]
    simp
  rw [e1, e2, List.take_left', List.drop_append]
  · simp
  · rfl
theorem exR_perm {zs : List Pr} {k : Nat} (h : k + 1 < zs.length) : (exR zs k).Perm zs := by
  obtain ⟨A, B, x, y, rfl, rfl⟩ := split_at h
  rw [exR_of]
  exact List.Perm.append_left _ (List.Perm.swap x y B)
theorem exR_len {zs : List Pr} {k : Nat} (h : k + 1 < zs.length) : (exR zs k).length = zs.length := (exR_perm h).length_eq
theorem exR_twice {zs : List Pr} {k : Nat} (h : k + 1 < zs.length) : exR (exR zs k) k = zs := by
  obtain ⟨A, B, x, y, rfl, rfl⟩ := split_at h
  rw [exR_of, exR_of]
theorem exR_ne {zs : List Pr} {k : Nat} (nd : zs.Nodup) (h : k + 1 < zs.length) : exR zs k ≠ zs := by
  obtain ⟨A, B, x, y, rfl, rfl⟩ := split_at h
  rw [exR_of]
  intro e
  have e2 := List.append_cancel_left e
  have e3 := (List.cons.inj e2).1
  subst e3
  have := (List.nodup_append.mp nd).2.1
  simp at this
theorem out_self {L : List Pr} {z : Pr} (h : z ∉ L) : outR L z = L := by
  unfold outR
  rw [List.filter_eq_self]
  intro y hy
  rw [decide_eq_false (fun e => h (by rw [← e]; exact hy))]
  rfl
theorem out_mid {A B : List Pr} {z : Pr} (nd : (A ++ z :: B).Nodup) : outR (A ++ z :: B) z = A ++ B := by
  have h1 : z ∉ A := fun m => by
    have := (List.nodup_append.mp nd).2.2 z m z (List.mem_cons_self)
    exact this rfl
  have h2 : z ∉ B := by
    have := (List.nodup_append.mp nd).2.1
    exact (List.nodup_cons.mp this).1
  unfold outR
  rw [List.filter_append, List.filter_cons]
  have a := out_self h1
  have b := out_self h2
  unfold outR at a b
  rw [a, b, decide_eq_true rfl]
  rfl
theorem mvR_up {zs : List Pr} {k : Nat} {x : Pr} (nd : zs.Nodup) (h : k + 1 < zs.length) (e : zs[k]? = some x) : mvR zs x (k + 1) = exR zs k := by
  obtain ⟨A, B, x', y, rfl, rfl⟩ := split_at h
  have ex : x' = x := by
    rw [List.getElem?_append_right (Nat.le_refl _), Nat.sub_self] at e
    exact Option.some.inj e
  subst ex
  rw [exR_of, mvR, out_mid nd, show A ++ y :: B = (A ++ [y]) ++ B by simp, List.take_left' (by simp), List.drop_left' (by simp)]
  simp
theorem mvR_down {zs : List Pr} {k : Nat} {y : Pr} (nd : zs.Nodup) (h : k + 1 < zs.length) (e : zs[k + 1]? = some y) : mvR zs y k = exR zs k := by
  obtain ⟨A, B, x, y', rfl, rfl⟩ := split_at h
  have ey : y' = y := by
    rw [List.getElem?_append_right (by omega), show A.length + 1 - A.length = 1 by omega] at e
    exact Option.some.inj e
  subst ey
  have e2 : A ++ x :: y' :: B = (A ++ [x]) ++ y' :: B := by simp
  rw [exR_of, mvR, e2, out_mid (by rw [← e2]; exact nd), show (A ++ [x]) ++ B = A ++ (x :: B) by simp, List.take_left' rfl, List.drop_left' rfl]
  simp
theorem mvR_perm {zs : List Pr} {z : Pr} (nd : zs.Nodup) (m : z ∈ zs) (j : Nat) : (mvR zs z j).Perm zs := by
  obtain ⟨A, B, rfl⟩ := List.append_of_mem m
  rw [mvR, out_mid nd]
  have h1 : ((A ++ B).take j ++ [z] ++ (A ++ B).drop j).Perm (z :: ((A ++ B).take j ++ (A ++ B).drop j)) := by
    rw [List.append_assoc]
    exact List.perm_middle
  rw [List.take_append_drop] at h1
  exact h1.trans List.perm_middle.symm
theorem outR_len {zs : List Pr} {z : Pr} (nd : zs.Nodup) (m : z ∈ zs) : (outR zs z).length + 1 = zs.length := by
  obtain ⟨A, B, rfl⟩ := List.append_of_mem m
  rw [out_mid nd, List.length_append, List.length_append, List.length_cons]
  omega
theorem trO_trO (zs : List Pr) : trO (trO zs) = zs := by
  unfold trO
  rw [List.map_map]
  exact List.map_id zs
theorem Gp.perm {zs ys : List Pr} (g : Gp zs) (p : ys.Perm zs) : Gp ys := ⟨p.nodup_iff.mpr g.nd, fun z h => g.rg z (p.mem_iff.mp h), by have := g.len; rw [p.length_eq]; exact this⟩
theorem Gp.take {zs : List Pr} (g : Gp zs) (n : Nat) : Gp (zs.take n) := ⟨g.nd.sublist (List.take_sublist n zs), fun z h => g.rg z (List.mem_of_mem_take h), by have := g.len; rw [List.length_take]; omega⟩
theorem Gp.trO {zs : List Pr} (g : Gp zs) : Gp (Pk.trO zs) := ⟨by
  unfold Pk.trO
  refine List.Pairwise.map _ ?_ g.nd
  rintro ⟨a, b⟩ ⟨c, d⟩ n e
  exact n (by cases e; rfl), fun z h => by
  obtain ⟨y, hy, rfl⟩ := List.mem_map.mp h
  have r := g.rg y hy
  exact ⟨r.2.2.1, r.2.2.2, r.1, r.2.1⟩, by rw [Pk.trO, List.length_map]; exact g.len⟩
/-- an order is made of good pairs -/
theorem mk_or {K : PySem.W.Frag} {C CE p : Addr} {H1 : Hp} {x dx a : Addr} {zs : List Pr} {Q : Hp → Prop} {E : XK} (nx : H1 x = none) (nd : H1 dx = none) (ne : dx ≠ x) (hp : ∃ o, H1 p = some o) (la : PL p H1 a zs) (g : Gp zs)
    (k : ∀ (H' : Hp) (q : Addr), Same H1 H' → OrX p C H' x dx q zs → Q H') : spOrIF K C CE [.ref x, .ref a] (upd (upd H1 dx (.own x)) x (.ins C dx [])) (fun v H2 => v = .non ∧ Q H2) E := by
  obtain ⟨op, hp⟩ := hp
  have st : ∀ c o, H1 c = some o → c ≠ x ∧ (upd (upd H1 dx (.own x)) x (.ins C dx [])) c = some o := fun c o e => by
    have c1 : c ≠ x := fun z => by rw [z, nx] at e; cases e
    have c2 : c ≠ dx := fun z => by rw [z, nd] at e; cases e
    exact ⟨c1, by rw [upd_ne c1, upd_ne c2]; exact e⟩
  have sm : Same H1 (upd (upd H1 dx (.own x)) x (.ins C dx [])) := fun c o e => (st c o e).2
  refine ⟨p, x, dx, .ref a, rfl, upd_same, by rw [upd_ne ne, upd_same], ne, (fun z => by rw [z, hp] at nx; cases nx), ⟨op, sm _ _ hp⟩, .inl ⟨a, zs, rfl, la.same sm, g, fun H3 r nr X fr => ⟨rfl, ?_⟩⟩⟩
  exact k H3 r (fun c o e => by
    have := st c o e
    exact fr _ _ this.1 this.2) X
def spBetD (K : PySem.W.Frag) : Sp := fun vs H Q _ => ∃ (v : V) (d : PyData) (lo hi : Int), vs = [v, .int lo, .int hi] ∧ Dp K H v d ∧ Q (.bl (betD lo hi d)) H
def spGetD (K : PySem.W.Frag) (C CB : Addr) : Sp := fun vs H Q E => ∃ (p x dx q : Addr) (zs : List Pr) (v : V) (d : PyData), vs = [.ref x, v] ∧ OrX p C H x dx q zs ∧ Dp K H v d ∧
  (∀ (j : Nat) (z : Pr) (u : V), d = .int (j : Int) → zs[j]? = some z → PrAt p H u z → Q u H) ∧
  (betD 0 ((zs.length : Int) - 1) d = false → ∀ (dd : Addr) (H' : Hp), Same H H' → H dd = none → H' dd = some (.xd [("name", .str "index")]) → E (.ref CB) (some dd) H')
def spHasD (K : PySem.W.Frag) (C : Addr) : Sp := fun vs H Q _ => ∃ (p x dx q : Addr) (zs : List Pr) (y : V) (d : PyData), vs = [.ref x, y] ∧ OrX p C H x dx q zs ∧ Dp K H y d ∧ Q (.bl (hasD zs d)) H
def spHasN (C : Addr) : Sp := fun vs H Q _ => ∃ (p x dx q : Addr) (zs : List Pr) (y : V), vs = [.ref x, y] ∧ OrX p C H x dx q zs ∧ D01 H y ∧ Q (.bl false) H
def spPlD (K : PySem.W.Frag) (C CP : Addr) : Sp := fun vs H Q E => ∃ (p x dx q : Addr) (zs : List Pr) (y : V) (d : PyData), vs = [.ref x, y] ∧ OrX p C H x dx q zs ∧ zs.Nodup ∧ Dp K H y d ∧ Deep 1 d ∧
  (∀ (j : Nat) (z : Pr), d = prD z → zs[j]? = some z → Q (.int (j : Int)) H) ∧
  (hasD zs d = false → ∀ (dd : Addr) (v' : V) (H' : Hp), Same H H' → H dd = none → H' dd = some (.xd [("pair", v')]) → Own H H' v' d → E (.ref CP) (some dd) H')
def spPlN (C CP : Addr) : Sp := fun vs H Q E => ∃ (p x dx q : Addr) (zs : List Pr) (y : V), vs = [.ref x, y] ∧ OrX p C H x dx q zs ∧ D01 H y ∧
  ∀ (dd : Addr) (v' : V) (H' : Hp), Same H H' → H dd = none → H' dd = some (.xd [("pair", v')]) → D01n H H' v' → E (.ref CP) (some dd) H'
/-- a new order -/
def NewO (p C : Addr) (H H' : Hp) (x : Addr) (zs : List Pr) : Prop := Same H H' ∧ ∃ dx q, OrX p C H' x dx q zs
def spExD (K : PySem.W.Frag) (C CB : Addr) : Sp := fun vs H Q E => ∃ (p x dx q : Addr) (zs : List Pr) (v : V) (d : PyData), vs = [.ref x, v] ∧ OrX p C H x dx q zs ∧ Gp zs ∧ (∃ o, H p = some o) ∧ Dp K H v d ∧
  (∀ (j : Nat) (y : Addr) (H' : Hp), d = .int (j : Int) → j + 1 < zs.length → NewO p C H H' y (exR zs j) → Q (.ref y) H') ∧
  (betD 0 ((zs.length : Int) - 2) d = false → ∀ (dd : Addr) (H' : Hp), Same H H' → H dd = none → H' dd = some (.xd [("name", .str "index")]) → E (.ref CB) (some dd) H')
def spMvD (K : PySem.W.Frag) (C CB CP : Addr) : Sp := fun vs H Q E => ∃ (p x dx q : Addr) (zs : List Pr) (y v : V) (d e : PyData), vs = [.ref x, y, v] ∧ OrX p C H x dx q zs ∧ Gp zs ∧ (∃ o, H p = some o) ∧ Dp K H y d ∧ Deep 1 d ∧ (∀ z, d = prD z → PrAt p H y z) ∧ Dp K H v e ∧
  (∀ (j : Nat) (z : Pr) (y : Addr) (H' : Hp), d = prD z → z ∈ zs → e = .int (j : Int) → j < zs.length → NewO p C H H' y (mvR zs z j) → Q (.ref y) H') ∧
  (hasD zs d = false → ∀ (dd : Addr) (v' : V) (H' : Hp), Same H H' → H dd = none → H' dd = some (.xd [("pair", v')]) → Own H H' v' d → E (.ref CP) (some dd) H') ∧
  (hasD zs d = true → betD 0 ((zs.length : Int) - 1) e = false → ∀ (dd : Addr) (H' : Hp), Same H H' → H dd = none → H' dd = some (.xd [("name", .str "place")]) → E (.ref CB) (some dd) H')
def spMvN (C CP : Addr) : Sp := fun vs H Q E => ∃ (p x dx q : Addr) (zs : List Pr) (y v : V), vs = [.ref x, y, v] ∧ OrX p C H x dx q zs ∧ D01 H y ∧
  ∀ (dd : Addr) (v' : V) (H' : Hp), Same H H' → H dd = none → H' dd = some (.xd [("pair", v')]) → D01n H H' v' → E (.ref CP) (some dd) H'
def spTuO (C : Addr) : Sp := fun vs H Q _ => ∃ (p x dx q : Addr) (zs : List Pr), vs = [.ref x] ∧ OrX p C H x dx q zs ∧ Gp zs ∧ (∃ o, H p = some o) ∧ ∀ (y : Addr) (H' : Hp), NewO p C H H' y (trO zs) → Q (.ref y) H'
abbrev slEx : Stmt := inCls 15 11
abbrev slMv : Stmt := inCls 15 12
abbrev slTu : Stmt := inCls 15 13
section
variable {P : Program} {w : World} {K : PySem.W.Frag} {mg : Str → Option Value} {base : Heap} {C CE CB CP f : Addr} {fd : FuncData}
theorem ok_betD (F : Fun K "is_between" "is_between" slBet f fd) (DI : Df P w K mg base CX0 "is_integer" 1 ["value"] (spIntD K)) : FnOk P w K mg base CX0 2 f fd ["value", "low", "high"] (spBetD K) := by
  refine F.ok sclBet (fun vs H Q E h => ?_) (fun cdv A outer s H vs Q E hr h => ?_)
  · obtain ⟨v, d, lo, hi, rfl, _⟩ := h
    rfl
  · obtain ⟨v, d, lo, hi, rfl, hd, k⟩ := h
    refine ⟨_, (pss_one (ps_ret (pe_and (pe_df DI hr (by decide) (pa_cons (pv 0) pa_nil)) (pe_one (pe_chain op_le op_le (pv 1) (pv 0) (pv 2)))))), ?_⟩
    walk_at "rd"
    refine ⟨v, d, rfl, hd, ?_⟩
    walk_at "rd"
    by_cases e : isID d = true
    · refine ifT e ?_
      obtain ⟨i, rfl⟩ : ∃ i, d = .int i := by
        cases d with
        | int i => exact ⟨i, rfl⟩
        | _ => cases e
      obtain rfl := Dp.intV hd
      walk_at "rd"
      by_cases c : lo ≤ i
      · refine ifT (decide_eq_true c) ?_
        rw [betD, decide_eq_true c, Bool.true_and] at k
        walk_at "rd"
        exact k
      · refine ifF (decide_eq_false c) ?_
        rw [betD, decide_eq_false c, Bool.false_and] at k
        exact k
    · refine ifF (Bool.eq_false_iff.mpr e) ?_
      rw [show betD lo hi d = false from by cases d <;> first | rfl | exact absurd rfl e] at k
      exact k
theorem ok_getD (F : Fun K "__getitem__" "Order.__getitem__" slGet f fd) (T : Bt mg) (O : OwnC K C) (nS : NoAttr K C "sequence") (DB : Df P w K mg base CX0 "is_between" 2 ["value", "low", "high"] (spBetD K)) (EB : De P w K mg base "InvalidBound" 3 (spErr1 K 1 CB "name") CB) : FnOk P w K mg base (L2.CX P w) 5 f fd ["self", "at"] (spGetD K C CB) := by
  refine F.okX sclGet (fun vs H Q E h => ?_) (fun cdv A outer s H vs Q E hr h => ?_)
  · obtain ⟨p, x, dx, q, zs, v, d, rfl, _⟩ := h
    rfl
  · obtain ⟨p, x, dx, q, zs, v, d, rfl, X, hd, k1, k2⟩ := h
    obtain ⟨nq, vs, hq, hv⟩ := X.l
    have vl := hv.length
    refine ⟨_, (pss_cons (ps_if (pt_not (pt_val (pe_df DB hr (by decide) (pa_cons (pv 1) (pa_cons pe_int (pa_cons (pe_op op_sub (pe_callB cl_len (by rfl) T.len PySem.boot_len (pa_cons (pe_fld (pv 0) rfl) pa_nil)) pe_int) pa_nil)))))) (pss_one (ps_rse rfl (takes_of rfl rfl rfl rfl) EB hr (by decide) (pa_cons pe_str pa_nil))) pss_nil)
      (pss_one (ps_ret (pe_ix ix_list (pe_fld (pv 0) rfl) (pv 1) (fun _ _ => rfl))))), ?_⟩
    walk_at "rd"
    refine r_fldV rfl X.o O.cl nS one_fst ?_
    walk_at "rd"
    refine r_lenL (SqL.of hq) ?_
    rw [vl]
    walk_at "rd"
    refine ⟨v, d, 0, (zs.length : Int) - 1, rfl, hd, ?_⟩
    walk_at "rd"
    by_cases b : betD 0 ((zs.length : Int) - 1) d = true
    · refine ifF (by rw [b]; rfl) ?_
      obtain ⟨i, rfl, i0, i1⟩ := betD_nat (by decide) b
      obtain rfl := Dp.intV hd
      have hi : i < zs.length := by omega
      obtain ⟨u, eu, pu⟩ := hv.get (List.getElem?_eq_getElem hi)
      walk_at "rd"
      refine r_fldV rfl X.o O.cl nS one_fst ?_
      walk_at "rd"
      refine r_ixL (SqL.of hq) (atI_nat eu) ?_
      exact k1 i _ u rfl (List.getElem?_eq_getElem hi) pu
    · refine ifT (by rw [Bool.eq_false_iff.mpr b]; rfl) ?_
      walk_at "rd"
      refine r_mkErr ?_
      walk_at "rd"
      refine r_err1 (σ := []) (.str _) (.str _) fun dd v' H' s1 h1 h2 o1 => ?_
      cases o1
      exact k2 (Bool.eq_false_iff.mpr b) dd H' s1 h1 h2
theorem ok_hasD (F : Fun K "__contains__" "Order.__contains__" slHas f fd) (O : OwnC K C) (nS : NoAttr K C "sequence") (DT : Df P w K mg base CX0 "is_two" 2 ["value"] (spTwoD K)) : FnOk P w K mg base CX0 3 f fd ["self", "x"] (spHasD K C) := by
  refine F.ok sclHas (fun vs H Q E h => ?_) (fun cdv A outer s H vs Q E hr h => ?_)
  · obtain ⟨p, x, dx, q, zs, y, d, rfl, _⟩ := h
    rfl
  · obtain ⟨p, x, dx, q, zs, y, d, rfl, X, hd, k⟩ := h
    refine ⟨_, (pss_one (ps_ret (pe_and (pe_df DT hr (by decide) (pa_cons (pv 1) pa_nil)) (pe_one (pe_cmpR (op_inP hr.units) (pv 1) (pe_fld (pv 0) rfl) (by rfl)))))), ?_⟩
    walk_at "rd"
    refine ⟨y, d, rfl, hd, ?_⟩
    walk_at "rd"
    by_cases c : twoD d = true
    · refine ifT c ?_
      obtain ⟨a, b, rfl⟩ := twoD_inv c
      walk_at "rd"
      refine r_fldV rfl X.o O.cl nS one_fst ?_
      exact ⟨(a, b), zs, hd, X.l.dp, k⟩
    · refine ifF (Bool.eq_false_iff.mpr c) ?_
      rw [hasD_no (Bool.eq_false_iff.mpr c)] at k
      exact k
theorem ok_hasN (F : Fun K "__contains__" "Order.__contains__" slHas f fd) (O : OwnC K C) (nS : NoAttr K C "sequence") (DT : Df P w K mg base CX0 "is_two" 2 ["value"] (spTwoN K)) : FnOk P w K mg base CX0 3 f fd ["self", "x"] (spHasN C) := by
  refine F.ok sclHas (fun vs H Q E h => ?_) (fun cdv A outer s H vs Q E hr h => ?_)
  · obtain ⟨p, x, dx, q, zs, y, rfl, _⟩ := h
    rfl
  · obtain ⟨p, x, dx, q, zs, y, rfl, X, hd, k⟩ := h
    refine ⟨_, (pss_one (ps_ret (pe_and (pe_df DT hr (by decide) (pa_cons (pv 1) pa_nil)) (pe_one (pe_cmpR (op_inP hr.units) (pv 1) (pe_fld (pv 0) rfl) (by rfl)))))), ?_⟩
    walk_at "rd"
    refine ⟨y, rfl, hd, ?_⟩
    walk_at "rd"
    exact k
end
end Pk
set_option Elab.async false
set_option linter.all false
set_option maxRecDepth 100000
set_option maxHeartbeats 4000000
namespace Pk
open PySem L2
local macro_rules | `(tactic| walk_at "rd") => `(tactic| repeat (first
  | with_reducible refine r_seq ?_ | with_reducible refine r_nxt ?_ | with_reducible refine r_asg ?_ | with_reducible refine r_to ?_ | with_reducible refine r_ret ?_ | with_reducible refine r_for ?_ | with_reducible refine r_lc ?_ | with_reducible refine r_lc2 ?_ | with_reducible refine r_rng1 ?_ | with_reducible refine r_list ?_ | with_reducible refine r_tupI ?_ | with_reducible refine r_drop ?_ | with_reducible refine r_ifs ?_
  | with_reducible refine r_op ?_ | with_reducible refine r_c ?_ | with_reducible refine r_var rfl ?_ | with_reducible refine r_var (by assumption) ?_ | with_reducible refine r_I0 ?_ | with_reducible refine r_un ?_ | with_reducible refine r_U ?_ | with_reducible refine r_make ?_ | with_reducible refine r_makeS ?_ | with_reducible refine r_ifE ?_ | with_reducible refine r_cm ?_ | with_reducible refine r_mkV rfl ?_ | with_reducible refine r_sub ?_
  | with_reducible refine r_nil ?_ | with_reducible refine r_cons ?_ | with_reducible refine r_cb ?_ | with_reducible refine r_sl ?_ | with_reducible refine r_noP ?_ | with_reducible refine r_part ?_ | with_reducible refine r_isI ?_ | with_reducible refine r_lst ?_ | with_reducible refine r_tup ?_ | with_reducible refine r_call ?_ | with_reducible refine r_callS ?_ | with_reducible refine r_sFldU ?_ | with_reducible refine r_chain ?_ | with_reducible refine r_enum ?_ | with_reducible refine r_zip ?_ | with_reducible refine r_rng3 ?_ | with_reducible refine r_gtup ?_ | with_reducible refine r_methU ?_
  | with_reducible refine r_test ?_ | with_reducible refine r_B ?_ | with_reducible refine r_and ?_ | with_reducible refine r_or ?_ | with_reducible refine r_not ?_ | with_reducible refine r_andV ?_ | with_reducible refine r_orV ?_ | with_reducible refine r_notV ?_ | with_reducible refine r_bl ?_ | with_reducible refine r_yes ?_ | with_reducible refine r_int ?_ | with_reducible refine r_is0 ?_ | with_reducible refine r_is1 ?_ | with_reducible refine iteT ?_ | with_reducible refine iteF ?_ | with_reducible refine ite_nF ?_ | with_reducible refine ite_nT ?_
  | with_reducible refine r_mod (by decide) ?_ | with_reducible refine r_div (by decide) (by decide) ?_ | with_reducible refine r_mulR (by decide) (by decide) ?_ | with_reducible refine r_mulL (by decide) (by decide) ?_ | with_reducible refine r_pow (by decide) (by decide) (by decide) ?_))
section
variable {P : Program} {w : World} {K : PySem.W.Frag} {mg : Str → Option Value} {base : Heap} {C CE CB CP f : Addr} {fd : FuncData}
theorem getD_at {zs : List Pr} {k : Nat} (h : k < zs.length) : zs.getD k (0, 0) = zs[k] := by
  rw [List.getD_eq_getElem?_getD, List.getElem?_eq_getElem h]
  rfl
theorem ok_plD {fh : Addr} {fdh : FuncData} (F : Fun K "place" "Order.place" slPlace f fd) (O : OwnC K C) (nS : NoAttr K C "sequence") (mH : Meth K C "__contains__" fh) (oH : FnOk P w K mg base CX0 3 fh fdh ["self", "x"] (spHasD K C)) (bH : Binds K fdh ["self", "x"] []) (EP : De P w K mg base "InvalidPair" 3 (spErr1 K 1 CP "pair") CP) :
    FnOk P w K mg base (L2.CX P w) 5 f fd ["self", "pair"] (spPlD K C CP) := by
  refine F.okX sclPlace (fun vs H Q E h => ?_) (fun cdv A outer s H vs Q E hr h => ?_)
  · obtain ⟨p, x, dx, q, zs, y, d, rfl, _⟩ := h
    rfl
  · obtain ⟨p, x, dx, q, zs, y, d, rfl, X, nd, hd, dp, k1, k2⟩ := h
    refine ⟨_, (pss_cons (ps_if (pt_notInOwn (E := fun _ => E0) ⟨fh, fdh, _, mH, oH, bH⟩ (hr.mono (by decide)) (passN pass0) (pv 1) (pv 0) (by rfl)) (pss_one (ps_rse rfl (takes_of rfl rfl rfl rfl) EP hr (by decide) (pa_cons (pv 1) pa_nil))) pss_nil)
      (pss_one (ps_ret (pe_bm PySem.F.plainAttrs_list PySem.F.slot_list_index PySem.F.type_list_index (mt_indexD (hu65 hr)) (pe_fld (pv 0) rfl) (pa_cons (pv 1) pa_nil))))), ?_⟩
    walk_at "rd"
    refine r_op2 ?_
    walk_at "rd"
    refine ⟨x, dx, _, rfl, X.o, p, x, dx, q, zs, y, d, rfl, X, hd, _, rfl, ?_⟩
    by_cases b : hasD zs d = true
    · refine ⟨_, rfl, ifF (by rw [b]; rfl) ?_⟩
      obtain ⟨z, rfl, m⟩ := hasD_inv b
      obtain ⟨j, hj, ez⟩ := List.getElem_of_mem m
      have hz : zs[j]? = some z := by rw [List.getElem?_eq_getElem hj, ez]
      walk_at "rd"
      show tBM _ _ _ _ _ _ _ _
      refine r_fldV rfl X.o O.cl nS one_fst ?_
      obtain ⟨nq, vs, hq, hv⟩ := X.l
      refine ⟨.inl ?_, ?_⟩
      · exact ⟨rfl, vs, SqL.of hq⟩
      · walk_at "rd"
        refine ⟨q, y, prD z, zs.map prD, j, prD z, rfl, rfl, .lst (SqL.of hq) hv.dp, hd, prs_shaped zs, pr_shaped z, by rw [List.getElem?_map, hz]; rfl, by rw [pr_eqv, decide_eq_true rfl], fun m z' hm hz' => ?_, k1 j z rfl hz⟩
        obtain ⟨y', hy', rfl⟩ : ∃ y', zs[m]? = some y' ∧ z' = prD y' := by
          rw [List.getElem?_map] at hz'
          cases e : zs[m]? with
          | none => rw [e] at hz'; cases hz'
          | some y' => rw [e] at hz'; exact ⟨y', rfl, (Option.some.inj hz').symm⟩
        rw [pr_eqv]
        refine decide_eq_false fun e => not_before nd hz ?_
        rw [← e]
        exact List.mem_of_getElem? (i := m) (by rw [List.getElem?_take]; simp [hm, hy'])
    · refine ⟨_, rfl, ifT (by rw [Bool.eq_false_iff.mpr b]; rfl) ?_⟩
      walk_at "rd"
      refine r_mkErr ?_
      walk_at "rd"
      exact r_err1 (σ := []) hd dp fun dd v' H' s1 h1 h2 o1 => k2 (Bool.eq_false_iff.mpr b) dd v' H' s1 h1 h2 o1
theorem ok_plN {fh : Addr} {fdh : FuncData} (F : Fun K "place" "Order.place" slPlace f fd) (O : OwnC K C) (nS : NoAttr K C "sequence") (mH : Meth K C "__contains__" fh) (oH : FnOk P w K mg base CX0 3 fh fdh ["self", "x"] (spHasN C)) (bH : Binds K fdh ["self", "x"] []) (EP : De P w K mg base "InvalidPair" 3 (spErrD K CP "pair") CP) :
    FnOk P w K mg base (L2.CX P w) 5 f fd ["self", "pair"] (spPlN C CP) := by
  refine F.okX sclPlace (fun vs H Q E h => ?_) (fun cdv A outer s H vs Q E hr h => ?_)
  · obtain ⟨p, x, dx, q, zs, y, rfl, _⟩ := h
    rfl
  · obtain ⟨p, x, dx, q, zs, y, rfl, X, hd, k2⟩ := h
    refine ⟨_, (pss_cons (ps_if (pt_notInOwn (E := fun _ => E0) ⟨fh, fdh, _, mH, oH, bH⟩ (hr.mono (by decide)) (passN pass0) (pv 1) (pv 0) (by rfl)) (pss_one (ps_rse rfl (takes_of rfl rfl rfl rfl) EP hr (by decide) (pa_cons (pv 1) pa_nil))) pss_nil)
      pss_never), ?_⟩
    walk_at "rd"
    refine r_op2 ?_
    walk_at "rd"
    refine ⟨x, dx, _, rfl, X.o, p, x, dx, q, zs, y, rfl, X, hd, _, rfl, ?_⟩
    refine ⟨_, rfl, ifT rfl ?_⟩
    walk_at "rd"
    refine r_mkErr ?_
    walk_at "rd"
    exact r_errD (σ := []) hd fun dd v' H' s1 h1 h2 o1 => k2 dd v' H' s1 h1 h2 o1
theorem sclEx : FnScope ["self", "k"] ["self", "k"] (defScope slEx) := ⟨rfl, rfl, rfl, by decide +kernel, rfl, by decide +kernel, by decide +kernel⟩
theorem ok_exD (F : Fun K "exchanged" "Order.exchanged" slEx f fd) (T : Bt mg) (O : OwnC K C) (nS : NoAttr K C "sequence") (DB : Df P w K mg base CX0 "is_between" 2 ["value", "low", "high"] (spBetD K)) (EB : De P w K mg base "InvalidBound" 3 (spErr1 K 1 CB "name") CB) (DO : Dk P w K mg base (L2.CX P w) "Order" 8 ["self", "pairs"] (spOrIF K C CE) C) :
    FnOk P w K mg base (L2.CX P w) 10 f fd ["self", "k"] (spExD K C CB) := by
  refine F.okX sclEx (fun vs H Q E h => ?_) (fun cdv A outer s H vs Q E hr h => ?_)
  · obtain ⟨p, x, dx, q, zs, v, d, rfl, _⟩ := h
    rfl
  · obtain ⟨p, x, dx, q, zs, v, d, rfl, X, g, ⟨op, hop⟩, hd, k1, k2⟩ := h
    obtain ⟨nq, vs, hq, hv⟩ := X.l
    have vl := hv.length
    have g64 := g.len
    refine ⟨_, (pss_cons (ps_if (pt_not (pt_val (pe_df DB hr (by decide) (pa_cons (pv 1) (pa_cons pe_int (pa_cons (pe_op op_sub (pe_callB cl_len (by rfl) T.len PySem.boot_len (pa_cons (pe_fld (pv 0) rfl) pa_nil)) pe_int) pa_nil)))))) (pss_one (ps_rse rfl (takes_of rfl rfl rfl rfl) EB hr (by decide) (pa_cons pe_str pa_nil))) pss_nil)
      (pss_one (ps_ret (pe_dkL DO hr (by decide) (pa_cons (pe_op op_cat (pe_op op_cat (pe_slice sl_list (pe_fld (pv 0) rfl) po_none (po_some (pv 1))) (pe_lst (pa_cons (pe_ix ix_list (pe_fld (pv 0) rfl) (pe_op op_add (pv 1) pe_int) (fun _ _ => rfl)) (pa_cons (pe_ix ix_list (pe_fld (pv 0) rfl) (pv 1) (fun _ _ => rfl)) pa_nil)))) (pe_slice sl_list (pe_fld (pv 0) rfl) (po_some (pe_op op_add (pv 1) pe_int)) po_none)) pa_nil))))), ?_⟩
    walk_at "rd"
    refine r_fldV rfl X.o O.cl nS one_fst ?_
    walk_at "rd"
    refine r_lenL (SqL.of hq) ?_
    rw [vl]
    walk_at "rd"
    refine ⟨v, d, 0, (zs.length : Int) - 2, rfl, hd, ?_⟩
    walk_at "rd"
    by_cases b : betD 0 ((zs.length : Int) - 2) d = true
    · refine ifF (by rw [b]; rfl) ?_
      obtain ⟨n, rfl, i0, i1⟩ := betD_nat (by decide) b
      obtain rfl := Dp.intV hd
      have i1 : n < zs.length := by omega
      have i2 : n + 1 < zs.length := by omega
      obtain ⟨x1, ex1, px1⟩ := hv.get (List.getElem?_eq_getElem i1)
      obtain ⟨x2, ex2, px2⟩ := hv.get (List.getElem?_eq_getElem i2)
      have c1 : (n : Int) + 1 = ((n + 1 : Nat) : Int) := by omega
      have c2 : (n : Int) + 2 = ((n + 2 : Nat) : Int) := by omega
      walk_at "rd"
      refine r_fldV rfl X.o O.cl nS one_fst ?_
      walk_at "rd"
      refine ⟨q, vs, rfl, SqL.of hq, fun q1 nq1 => ?_⟩
      rw [cut_take (by omega)]
      have s1 := Same.up (o := .lst (vs.take n)) (Same.refl H) nq1
      walk_at "rd"
      refine r_fldV rfl (s1 _ _ X.o) O.cl nS one_fst ?_
      walk_at "rd"
      rw [c1]
      refine r_ixL (SqL.of (s1 _ _ hq)) (atI_nat ex2) ?_
      walk_at "rd"
      refine r_fldV rfl (s1 _ _ X.o) O.cl nS one_fst ?_
      walk_at "rd"
      refine r_ixL (SqL.of (s1 _ _ hq)) (atI_nat ex1) ?_
      walk_at "rd"
      refine ⟨by show 2 ≤ sizeLine; decide, fun q2 nq2 => ?_⟩
      have s2 := Same.up (o := .lst [x2, x1]) s1 nq2
      have n12 : q1 ≠ q2 := fun z => by rw [← z, upd_same] at nq2; cases nq2
      refine r_cat (xs := vs.take n) (zs := [x2, x1]) (by rw [upd_ne n12, upd_same]) upd_same (by rw [List.length_take]; exact Nat.le_trans (by show _ + 2 ≤ 66; omega) (by decide)) fun q3 nq3 => ?_
      have s3 := Same.up (o := .lst (vs.take n ++ [x2, x1])) s2 nq3
      walk_at "rd"
      refine r_fldV rfl (s3 _ _ X.o) O.cl nS one_fst ?_
      walk_at "rd"
      rw [c2]
      refine ⟨q, vs, rfl, SqL.of (s3 _ _ hq), fun q4 nq4 => ?_⟩
      rw [cut_drop (by omega)]
      have s4 := Same.up (o := .lst (vs.drop (n + 2))) s3 nq4
      have n34 : q3 ≠ q4 := fun z => by rw [← z, upd_same] at nq4; cases nq4
      refine r_cat (xs := vs.take n ++ [x2, x1]) (zs := vs.drop (n + 2)) (by rw [upd_ne n34, upd_same]) upd_same (by rw [List.length_append, List.length_take, List.length_drop]; exact Nat.le_trans (by show _ + 2 + _ ≤ 200; omega) (by decide)) fun q5 nq5 => ?_
      have s5 := Same.up (o := .lst (vs.take n ++ [x2, x1] ++ vs.drop (n + 2))) s4 nq5
      walk_at "rd"
      intro y dy ny nd ne
      show spOrIF K C CE [V.ref y, V.ref q5] _ _ _
      have q5p : q5 ≠ p := fun z => by rw [z, s4 _ _ hop] at nq5; cases nq5
      have ee : exR zs n = zs.take n ++ [zs[n + 1], zs[n]] ++ zs.drop (n + 2) := by rw [exR, getD_at i1, getD_at i2]
      refine mk_or ny nd ne ⟨op, s5 _ _ hop⟩ (zs := exR zs n) ⟨q5p, _, upd_same, ?_⟩ (g.perm (exR_perm i2)) fun H' q' s X' => k1 n y H' rfl i2 ⟨s5.trans s, dy, q', X'⟩
      rw [ee]
      exact (((hv.take n).app (.cons px2 (.cons px1 .nil))).app (hv.drop (n + 2))).keep (Keep.same s5)
    · refine ifT (by rw [Bool.eq_false_iff.mpr b]; rfl) ?_
      walk_at "rd"
      refine r_mkErr ?_
      walk_at "rd"
      refine r_err1 (σ := []) (.str _) (.str _) fun dd v' H' s1 h1 h2 o1 => ?_
      cases o1
      exact k2 (Bool.eq_false_iff.mpr b) dd H' s1 h1 h2
theorem sclMv : FnScope ["self", "pair", "place", "others", "other"] ["self", "pair", "place"] (defScope slMv) := ⟨rfl, rfl, rfl, by decide +kernel, rfl, by decide +kernel, by decide +kernel⟩
theorem out_more {zs : List Pr} {z y : Pr} {i : Nat} (h : zs[i]? = some y) : outR (zs.take (i + 1)) z = outR (zs.take i) z ++ (if y = z then [] else [y]) := by
  unfold outR
  rw [List.take_add_one, h]
  show List.filter _ (_ ++ [y]) = _
  rw [List.filter_append]
  congr 1
  by_cases c : y = z <;> simp [c]
theorem ok_mvD {fh : Addr} {fdh : FuncData} (F : Fun K "moved" "Order.moved" slMv f fd) (T : Bt mg) (O : OwnC K C) (nS : NoAttr K C "sequence") (mH : Meth K C "__contains__" fh) (oH : FnOk P w K mg base CX0 3 fh fdh ["self", "x"] (spHasD K C)) (bH : Binds K fdh ["self", "x"] []) (DB : Df P w K mg base CX0 "is_between" 2 ["value", "low", "high"] (spBetD K)) (EB : De P w K mg base "InvalidBound" 3 (spErr1 K 1 CB "name") CB) (EP : De P w K mg base "InvalidPair" 3 (spErr1 K 1 CP "pair") CP) (DO : Dk P w K mg base (L2.CX P w) "Order" 8 ["self", "pairs"] (spOrIF K C CE) C) :
    FnOk P w K mg base (L2.CX P w) 10 f fd ["self", "pair", "place"] (spMvD K C CB CP) := by
  refine F.okX sclMv (fun vs H Q E h => ?_) (fun cdv A outer s H vs Q E hr h => ?_)
  · obtain ⟨p, x, dx, q, zs, y, v, d, e, rfl, _⟩ := h
    rfl
  · obtain ⟨p, x, dx, q, zs, y, v, d, e, rfl, X, g, ⟨op, hop⟩, hd, dp, pat, he, k1, k2, k3⟩ := h
    obtain ⟨nq, vs, hq, hv⟩ := id X.l
    have vl := hv.length
    have g64 := g.len
    refine ⟨_, (pss_cons (ps_if (pt_notInOwn (E := fun _ => E0) ⟨fh, fdh, _, mH, oH, bH⟩ (hr.mono (by decide)) (passN pass0) (pv 1) (pv 0) (by rfl)) (pss_one (ps_rse rfl (takes_of rfl rfl rfl rfl) EP hr (by decide) (pa_cons (pv 1) pa_nil))) pss_nil)
      (pss_cons (ps_if (pt_not (pt_val (pe_df DB hr (by decide) (pa_cons (pv 2) (pa_cons pe_int (pa_cons (pe_op op_sub (pe_callB cl_len (by rfl) T.len PySem.boot_len (pa_cons (pe_fld (pv 0) rfl) pa_nil)) pe_int) pa_nil)))))) (pss_one (ps_rse rfl (takes_of rfl rfl rfl rfl) EB hr (by decide) (pa_cons pe_str pa_nil))) pss_nil)
      (pss_cons (ps_setLc (i := 3) (own := [("other", 4)]) (g := gName 4) rfl sclMv.nd rfl rfl (sw_true rfl rfl rfl (by decide +kernel)) (pi_list (pe_fld (pv 0) rfl)) (blkOk_by (own := [("other", 4)]) (N := ["self", "pair", "place", "others", "other"]) (sc := defScope slMv) (by decide +kernel)) (fun _ _ _ _ _ => pg_name (i := 4) sclMv.nd rfl (Or.inl rfl)) (fun _ _ _ _ _ => pts_one (pt_cmpR (r := rNeD K) (op_neD hr.units) (pv 4) (pv 1) (nomark _))) (fun _ _ _ _ _ => (pv 4)))
      (pss_one (ps_ret (pe_dkL DO hr (by decide) (pa_cons (pe_op op_cat (pe_op op_cat (pe_slice sl_list (pv 3) po_none (po_some (pv 2))) (pe_lst (pa_cons (pv 1) pa_nil))) (pe_slice sl_list (pv 3) (po_some (pv 2)) po_none)) pa_nil))))))), ?_⟩
    walk_at "rd"
    refine r_op2 ?_
    walk_at "rd"
    refine ⟨x, dx, _, rfl, X.o, p, x, dx, q, zs, y, d, rfl, X, hd, _, rfl, ?_⟩
    by_cases b : hasD zs d = true
    · refine ⟨_, rfl, ifF (by rw [b]; rfl) ?_⟩
      walk_at "rd"
      refine r_fldV rfl X.o O.cl nS one_fst ?_
      walk_at "rd"
      refine r_lenL (SqL.of hq) ?_
      rw [vl]
      walk_at "rd"
      refine ⟨v, e, 0, (zs.length : Int) - 1, rfl, he, ?_⟩
      walk_at "rd"
      by_cases b2 : betD 0 ((zs.length : Int) - 1) e = true
      · refine ifF (by rw [b2]; rfl) ?_
        obtain ⟨z, rfl, m⟩ := hasD_inv b
        obtain ⟨n, rfl, i0, i1⟩ := betD_nat (by decide) b2
        obtain rfl := Dp.intV he
        have hn : n < zs.length := by omega
        have ol := outR_len g.nd m
        walk_at "rd"
        refine r_fldV rfl X.o O.cl nS one_fst ?_
        walk_at "rd"
        refine ⟨q, rfl, ⟨_, SqL.of hq⟩, fun D nD => lc_it walk_list (fun i H' => Same H H' ∧ ∃ us, H' D = some (.lst us) ∧ us.length ≤ i ∧ PrsAt p H us (outR (zs.take i) z)) ⟨Same.up (Same.refl H) nD, [], upd_same, Nat.le_refl _, .nil⟩ (fun i H' _ z => z.1.seq (SqL.of hq)) ?_ ?_⟩
        · rintro i u H1 H2 hi ⟨s1, us, hD, ul, hu⟩ ⟨rfl, eu⟩
          obtain ⟨zi, ezi, pu⟩ := hv.at eu
          have up : ∀ {o : HO}, Same H (upd H2 D o) := fun {o} b o' e' => by
            rw [upd_ne (fun z => by rw [z, nD] at e'; cases e')]
            exact s1 _ _ e'
          walk_at "rd"
          refine ⟨rfl, ?_⟩
          walk_at "rd"
          refine ⟨prD zi, prD z, Dp.later s1 pu.dp, Dp.later s1 hd, pr_shaped _, pr_shaped _, ?_⟩
          rw [pr_eqv, out_more ezi]
          walk_at "rd"
          by_cases c : zi = z
          · refine ifF (by rw [decide_eq_true c]; rfl) ?_
            rw [if_pos c, List.append_nil]
            exact ⟨s1, us, hD, by omega, hu⟩
          · refine ifT (by rw [decide_eq_false c]; rfl) ?_
            rw [if_neg c]
            walk_at "rd"
            exact ⟨us, hD, Nat.lt_of_le_of_lt (show us.length ≤ 64 by omega) (by decide), up, us ++ [u], upd_same, by rw [List.length_append]; show us.length + 1 ≤ i + 1; omega, hu.app (.cons pu .nil)⟩
        · rintro H1 ⟨s1, us, hD, ul, hu⟩
          rw [vl, List.take_length] at hu
          have ul := hu.length
          walk_at "rd"
          refine ⟨D, us, rfl, SqL.of hD, fun q1 nq1 => ?_⟩
          rw [cut_take (by omega)]
          have s2 := Same.up (o := .lst (us.take n)) (Same.refl H1) nq1
          walk_at "rd"
          refine ⟨by show 1 ≤ sizeLine; decide, fun q2 nq2 => ?_⟩
          have s3 := Same.up (o := .lst [y]) s2 nq2
          have n12 : q1 ≠ q2 := fun z => by rw [← z, upd_same] at nq2; cases nq2
          refine r_cat (xs := us.take n) (zs := [y]) (by rw [upd_ne n12, upd_same]) upd_same (by rw [List.length_take]; exact Nat.le_trans (by show _ + 1 ≤ 66; omega) (by decide)) fun q3 nq3 => ?_
          have s4 := Same.up (o := .lst (us.take n ++ [y])) s3 nq3
          walk_at "rd"
          refine ⟨D, us, rfl, SqL.of (s4 _ _ hD), fun q4 nq4 => ?_⟩
          rw [cut_drop (by omega)]
          have s5 := Same.up (o := .lst (us.drop n)) s4 nq4
          have n34 : q3 ≠ q4 := fun z => by rw [← z, upd_same] at nq4; cases nq4
          refine r_cat (xs := us.take n ++ [y]) (zs := us.drop n) (by rw [upd_ne n34, upd_same]) upd_same (by rw [List.length_append, List.length_take, List.length_drop]; exact Nat.le_trans (by show _ + 1 + _ ≤ 200; omega) (by decide)) fun q5 nq5 => ?_
          have s6 := s1.trans (Same.up (o := .lst (us.take n ++ [y] ++ us.drop n)) s5 nq5)
          walk_at "rd"
          intro w dy ny nd ne
          show spOrIF K C CE [V.ref w, V.ref q5] _ _ _
          have q5p : q5 ≠ p := fun z => by rw [z, s5 _ _ (s1 _ _ hop)] at nq5; cases nq5
          have py : PrAt p H y z := pat z rfl
          refine mk_or ny nd ne ⟨op, s6 _ _ hop⟩ (zs := mvR zs z n) ⟨q5p, _, upd_same, ?_⟩ (g.perm (mvR_perm g.nd m n)) fun H' q' s X' => k1 n z w H' rfl m rfl hn ⟨s6.trans s, dy, q', X'⟩
          exact (((hu.take n).app (.cons py .nil)).app (hu.drop n)).keep (Keep.same s6)
      · refine ifT (by rw [Bool.eq_false_iff.mpr b2]; rfl) ?_
        walk_at "rd"
        refine r_mkErr ?_
        walk_at "rd"
        refine r_err1 (σ := []) (.str _) (.str _) fun dd v' H' s1 h1 h2 o1 => ?_
        cases o1
        exact k3 b (Bool.eq_false_iff.mpr b2) dd H' s1 h1 h2
    · refine ⟨_, rfl, ifT (by rw [Bool.eq_false_iff.mpr b]; rfl) ?_⟩
      walk_at "rd"
      refine r_mkErr ?_
      walk_at "rd"
      exact r_err1 (σ := []) hd dp fun dd v' H' s1 h1 h2 o1 => k2 (Bool.eq_false_iff.mpr b) dd v' H' s1 h1 h2 o1
theorem ok_mvN {fh : Addr} {fdh : FuncData} (F : Fun K "moved" "Order.moved" slMv f fd) (O : OwnC K C) (mH : Meth K C "__contains__" fh) (oH : FnOk P w K mg base CX0 3 fh fdh ["self", "x"] (spHasN C)) (bH : Binds K fdh ["self", "x"] []) (EP : De P w K mg base "InvalidPair" 3 (spErrD K CP "pair") CP) :
    FnOk P w K mg base (L2.CX P w) 10 f fd ["self", "pair", "place"] (spMvN C CP) := by
  refine F.okX sclMv (fun vs H Q E h => ?_) (fun cdv A outer s H vs Q E hr h => ?_)
  · obtain ⟨p, x, dx, q, zs, y, v, rfl, _⟩ := h
    rfl
  · obtain ⟨p, x, dx, q, zs, y, v, rfl, X, hd, k2⟩ := h
    refine ⟨_, (pss_cons (ps_if (pt_notInOwn (E := fun _ => E0) ⟨fh, fdh, _, mH, oH, bH⟩ (hr.mono (by decide)) (passN pass0) (pv 1) (pv 0) (by rfl)) (pss_one (ps_rse rfl (takes_of rfl rfl rfl rfl) EP hr (by decide) (pa_cons (pv 1) pa_nil))) pss_nil)
      pss_never), ?_⟩
    walk_at "rd"
    refine r_op2 ?_
    walk_at "rd"
    refine ⟨x, dx, _, rfl, X.o, p, x, dx, q, zs, y, rfl, X, hd, _, rfl, ?_⟩
    refine ⟨_, rfl, ifT rfl ?_⟩
    walk_at "rd"
    refine r_mkErr ?_
    walk_at "rd"
    exact r_errD (σ := []) hd fun dd v' H' s1 h1 h2 o1 => k2 dd v' H' s1 h1 h2 o1
theorem sclTu : FnScope ["self", "i", "j"] ["self"] (defScope slTu) := ⟨rfl, rfl, rfl, by decide +kernel, rfl, by decide +kernel, by decide +kernel⟩
theorem ok_tuO (F : Fun K "turned" "Order.turned" slTu f fd) (T : Bt mg) (O : OwnC K C) (nS : NoAttr K C "sequence") (DO : Dk P w K mg base (L2.CX P w) "Order" 8 ["self", "pairs"] (spOrIF K C CE) C) : FnOk P w K mg base CX0 10 f fd ["self"] (spTuO C) := by
  refine F.ok sclTu (fun vs H Q E h => ?_) (fun cdv A outer s H vs Q E hr h => ?_)
  · obtain ⟨p, x, dx, q, zs, rfl, _⟩ := h
    rfl
  · obtain ⟨p, x, dx, q, zs, rfl, X, g, ⟨op, hop⟩, k⟩ := h
    obtain ⟨nq, vs, hq, hv⟩ := id X.l
    have vl := hv.length
    have g64 := g.len
    refine ⟨_, (pss_one (ps_ret (pe_dkL DO hr (by decide) (pa_cons (pe_lc (own := [("i", 1), ("j", 2)]) (g := gTup K 2 (gCons (gName 1) (gCons (gName 2) gNil))) rfl sclTu.nd (pi_list (pe_fld (pv 0) rfl)) (blkOk_by (own := [("i", 1), ("j", 2)]) (N := ["self", "i", "j"]) (sc := defScope slTu) (by decide +kernel)) (fun _ _ _ _ _ => pg_tup (by rfl) (pgs_cons (pg_name (i := 1) sclTu.nd rfl (Or.inl rfl)) (pgs_cons (pg_name (i := 2) sclTu.nd rfl (Or.inl rfl)) pgs_nil))) (fun _ _ _ _ _ => pts_nil) (fun _ _ _ _ _ => (pe_tup (pa_cons (pv 2) (pa_cons (pv 1) pa_nil))))) pa_nil)))), ?_⟩
    walk_at "rd"
    refine r_fldV rfl X.o O.cl nS one_fst ?_
    refine ⟨q, rfl, ⟨_, SqL.of hq⟩, fun D nD => lc_it walk_list (fun i H' => Same H H' ∧ ∃ us, H' D = some (.lst us) ∧ us.length = i ∧ PrsAt p H' us (trO (zs.take i))) ⟨Same.up (Same.refl H) nD, [], upd_same, rfl, .nil⟩ (fun i H' _ z => z.1.seq (SqL.of hq)) ?_ ?_⟩
    · rintro i u H1 H2 hi ⟨s1, us, hD, ul, hu⟩ ⟨rfl, eu⟩
      obtain ⟨⟨a, b⟩, ezi, t, rfl, tp, ht⟩ := hv.at eu
      refine r_gtup ⟨t, _, rfl, SqT.of (s1 _ _ ht), rfl, _, _, rfl, ?_⟩
      walk_at "rd"
      refine ⟨_, _, rfl, ?_⟩
      walk_at "rd"
      refine ⟨rfl, ?_⟩
      walk_at "rd"
      refine ⟨rfl, ?_⟩
      walk_at "rd"
      refine ⟨by show 2 ≤ sizeLine; decide, fun t2 n2 => ?_⟩
      have s2 := Same.up (o := .tup [V.int b, V.int a]) (Same.refl H2) n2
      have t2D : t2 ≠ D := fun z => by rw [z, hD] at n2; cases n2
      have t2p : t2 ≠ p := fun z => by rw [z, s1 _ _ hop] at n2; cases n2
      refine ⟨us, s2 _ _ hD, by rw [ul]; exact Nat.lt_of_lt_of_le (show i < 65 by omega) (by decide), fun c o e => ?_, us ++ [.ref t2], upd_same, by rw [List.length_append, ul]; rfl, ?_⟩
      · rw [upd_ne (fun z => by rw [z, nD] at e; cases e)]
        exact s2 _ _ (s1 _ _ e)
      · have kD : ∀ c xs, (upd H2 t2 (.tup [V.int b, V.int a])) c = some (.tup xs) → (upd (upd H2 t2 (.tup [V.int b, V.int a])) D (.lst (us ++ [V.ref t2]))) c = some (.tup xs) := fun c xs e => by
          rw [upd_ne (fun z => by rw [z, s2 _ _ hD] at e; cases e)]
          exact e
        rw [List.take_add_one, ezi]
        show PrsAt p _ _ (List.map _ (_ ++ [(a, b)]))
        rw [List.map_append]
        exact ((hu.keep (Keep.same s2)).mono kD).app (.cons ⟨t2, rfl, t2p, kD _ _ upd_same⟩ .nil)
    · rintro H1 ⟨s1, us, hD, ul, hu⟩
      rw [vl, List.take_length] at hu
      walk_at "rd"
      intro w dy ny nd ne
      show spOrIF K C CE [V.ref w, V.ref D] _ _ _
      exact mk_or ny nd ne ⟨op, s1 _ _ hop⟩ (zs := trO zs) ⟨(fun z => by rw [z, hop] at nD; cases nD), us, hD, hu⟩ g.trO fun H' q' s X' => k w H' ⟨s1.trans s, dy, q', X'⟩
end
end Pk
set_option Elab.async false
set_option linter.all false
set_option maxRecDepth 100000
set_option maxHeartbeats 4000000
namespace Pk
open PySem L2
local macro_rules | `(tactic| walk_at "rd") => `(tactic| repeat (first
  | with_reducible refine r_seq ?_ | with_reducible refine r_nxt ?_ | with_reducible refine r_asg ?_ | with_reducible refine r_to ?_ | with_reducible refine r_ret ?_ | with_reducible refine r_for ?_ | with_reducible refine r_lc ?_ | with_reducible refine r_lc2 ?_ | with_reducible refine r_rng1 ?_ | with_reducible refine r_list ?_ | with_reducible refine r_tupI ?_ | with_reducible refine r_drop ?_ | with_reducible refine r_ifs ?_
  | with_reducible refine r_op ?_ | with_reducible refine r_c ?_ | with_reducible refine r_var rfl ?_ | with_reducible refine r_var (by assumption) ?_ | with_reducible refine r_I0 ?_ | with_reducible refine r_un ?_ | with_reducible refine r_U ?_ | with_reducible refine r_make ?_ | with_reducible refine r_makeS ?_ | with_reducible refine r_ifE ?_ | with_reducible refine r_cm ?_ | with_reducible refine r_mkV rfl ?_ | with_reducible refine r_sub ?_
  | with_reducible refine r_nil ?_ | with_reducible refine r_cons ?_ | with_reducible refine r_cb ?_ | with_reducible refine r_sl ?_ | with_reducible refine r_noP ?_ | with_reducible refine r_part ?_ | with_reducible refine r_isI ?_ | with_reducible refine r_lst ?_ | with_reducible refine r_tup ?_ | with_reducible refine r_call ?_ | with_reducible refine r_callS ?_ | with_reducible refine r_sFldU ?_ | with_reducible refine r_chain ?_ | with_reducible refine r_enum ?_ | with_reducible refine r_zip ?_ | with_reducible refine r_rng3 ?_ | with_reducible refine r_gtup ?_ | with_reducible refine r_methU ?_
  | with_reducible refine r_test ?_ | with_reducible refine r_B ?_ | with_reducible refine r_and ?_ | with_reducible refine r_or ?_ | with_reducible refine r_not ?_ | with_reducible refine r_andV ?_ | with_reducible refine r_orV ?_ | with_reducible refine r_notV ?_ | with_reducible refine r_bl ?_ | with_reducible refine r_yes ?_ | with_reducible refine r_int ?_ | with_reducible refine r_is0 ?_ | with_reducible refine r_is1 ?_ | with_reducible refine iteT ?_ | with_reducible refine iteF ?_ | with_reducible refine ite_nF ?_ | with_reducible refine ite_nT ?_
  | with_reducible refine r_mod (by decide) ?_ | with_reducible refine r_div (by decide) (by decide) ?_ | with_reducible refine r_mulR (by decide) (by decide) ?_ | with_reducible refine r_mulL (by decide) (by decide) ?_ | with_reducible refine r_pow (by decide) (by decide) (by decide) ?_))
/-! ### the order, asked by the law -/
abbrev slAsk : Stmt := top 24
def idx : PyData → Nat
  | .int i => i.toNat
  | _ => 0
def prOf : PyData → Pr
  | .tuple [.int a, .int b] => (a, b)
  | _ => (0, 0)
theorem prOf_pr (z : Pr) : prOf (prD z) = z := by obtain ⟨a, b⟩ := z; rfl
def bndD (z : Str) : PyData := .tuple [.str "bound", .str z]
def tldD (d : PyData) : PyData := .tuple [.str "told", d]
def asI (zs : List Pr) (d : PyData) : PyData := if betD 0 ((zs.length : Int) - 1) d = true then tldD (prD (zs.getD (idx d) (0, 0))) else bndD "index"
def asE (zs : List Pr) (d : PyData) : PyData := if betD 0 ((zs.length : Int) - 2) d = true then tldD (prsD (exR zs (idx d))) else bndD "index"
def asM (zs : List Pr) (d e : PyData) : PyData := if hasD zs d = true then (if betD 0 ((zs.length : Int) - 1) e = true then tldD (prsD (mvR zs (prOf d) (idx e))) else bndD "place") else .tuple [.str "pair", d]
/-- Order, as the law of k09 uses it -/
structure OrP (P : Program) (w : World) (K : PySem.W.Frag) (mg : Str → Option Value) (base : Heap) (C CE CB CP : Addr) : Prop where
  O : OwnC K C
  nS : NoAttr K C "sequence"
  eq : ∃ f fd, Meth K C "__eq__" f ∧ FnOk P w K mg base CX0 1 f fd ["self", "other"] (spCmp C fun zs ws => decide (zs = ws)) ∧ Binds K fd ["self", "other"] []
  ne : PySem.W.findIn K (.ref C) "__ne__" = some (some (.builtin "object.__ne__"))
  get : ∃ f fd, Meth K C "__getitem__" f ∧ FnOk P w K mg base (L2.CX P w) 5 f fd ["self", "at"] (spGetD K C CB) ∧ Binds K fd ["self", "at"] []
  fi : ∀ f, PySem.W.findIn K (.ref C) "__getitem__" = some (some (.ref f)) → PySem.W.fnIn K f = true
  has : ∃ f fd, Meth K C "__contains__" f ∧ FnOk P w K mg base CX0 3 f fd ["self", "x"] (spOr (spHasD K C) (spHasN C)) ∧ Binds K fd ["self", "x"] []
  pl : ∃ f fd, Meth K C "place" f ∧ FnOk P w K mg base (L2.CX P w) 5 f fd ["self", "pair"] (spOr (spPlD K C CP) (spPlN C CP)) ∧ Binds K fd ["self", "pair"] []
  ex : ∃ f fd, Meth K C "exchanged" f ∧ FnOk P w K mg base (L2.CX P w) 10 f fd ["self", "k"] (spExD K C CB) ∧ Binds K fd ["self", "k"] []
  mv : ∃ f fd, Meth K C "moved" f ∧ FnOk P w K mg base (L2.CX P w) 10 f fd ["self", "pair", "place"] (spOr (spMvD K C CB CP) (spMvN C CP)) ∧ Binds K fd ["self", "pair", "place"] []
  tu : ∃ f fd, Meth K C "turned" f ∧ FnOk P w K mg base CX0 10 f fd ["self"] (spTuO C) ∧ Binds K fd ["self"] []
  pairs : ∃ f fd, Meth K C "pairs" f ∧ FnOk P w K mg base CX0 1 f fd ["self"] (spPairsO C) ∧ Binds K fd ["self"] []
  made : Dk P w K mg base (L2.CX P w) "Order" 8 ["self", "pairs"] (spOrIF K C CE) C
def spAsI (K : PySem.W.Frag) (C : Addr) : Sp := fun vs H Q _ => ∃ (p x dx q : Addr) (zs : List Pr) (v u : V) (d : PyData), vs = [.ref x, .str "index", v, u] ∧ OrX p C H x dx q zs ∧ Dp K H v d ∧ ∀ (r : V) (H' : Hp), Same H H' → Dp K H' r (asI zs d) → Q r H'
def spAsP (K : PySem.W.Frag) (C : Addr) : Sp := fun vs H Q _ => ∃ (p x dx q : Addr) (zs : List Pr) (y u : V) (d : PyData), vs = [.ref x, .str "place", y, u] ∧ OrX p C H x dx q zs ∧ zs.Nodup ∧ Dp K H y d ∧ Deep 1 d ∧
  (∀ (j : Nat) (z : Pr) (r : V) (H' : Hp), d = prD z → zs[j]? = some z → Same H H' → Dp K H' r (tldD (.int (j : Int))) → Q r H') ∧ (hasD zs d = false → ∀ (r : V) (H' : Hp), Same H H' → Dp K H' r (.tuple [.str "pair", d]) → Q r H')
def spAsPN (K : PySem.W.Frag) (C : Addr) : Sp := fun vs H Q _ => ∃ (p x dx q : Addr) (zs : List Pr) (y u : V), vs = [.ref x, .str "place", y, u] ∧ OrX p C H x dx q zs ∧ D01 H y ∧ ∀ (r : Addr) (z : V) (H' : Hp), Same H H' → H' r = some (.tup [.str "pair", z]) → D01 H' z → Q (.ref r) H'
def spAsE (K : PySem.W.Frag) (C : Addr) : Sp := fun vs H Q _ => ∃ (p x dx q : Addr) (zs : List Pr) (v u : V) (d : PyData), vs = [.ref x, .str "exchanged", v, u] ∧ OrX p C H x dx q zs ∧ Gp zs ∧ (∃ o, H p = some o) ∧ Dp K H v d ∧ ∀ (r : V) (H' : Hp), Same H H' → Dp K H' r (asE zs d) → Q r H'
def spAsM (K : PySem.W.Frag) (C : Addr) : Sp := fun vs H Q _ => ∃ (p x dx q : Addr) (zs : List Pr) (y v : V) (d e : PyData), vs = [.ref x, .str "moved", y, v] ∧ OrX p C H x dx q zs ∧ Gp zs ∧ (∃ o, H p = some o) ∧ Dp K H y d ∧ Deep 1 d ∧ (∀ z, d = prD z → PrAt p H y z) ∧ Dp K H v e ∧ ∀ (r : V) (H' : Hp), Same H H' → Dp K H' r (asM zs d e) → Q r H'
def spAsMN (K : PySem.W.Frag) (C : Addr) : Sp := fun vs H Q _ => ∃ (p x dx q : Addr) (zs : List Pr) (y v : V), vs = [.ref x, .str "moved", y, v] ∧ OrX p C H x dx q zs ∧ D01 H y ∧ ∀ (r : Addr) (z : V) (H' : Hp), Same H H' → H' r = some (.tup [.str "pair", z]) → D01 H' z → Q (.ref r) H'
theorem tld_dp {K : PySem.W.Frag} {H : Hp} {q : Addr} {v : V} {d : PyData} (hq : H q = none) (h : Dp K H v d) : Dp K (upd H q (.tup [V.str "told", v])) (.ref q) (tldD d) := .tup (SqT.of upd_same) (.cons (.str _) (.cons (Dp.later (Same.up (Same.refl H) hq) h) .nil))
theorem bnd_dp {K : PySem.W.Frag} {H : Hp} {q : Addr} {z : Str} : Dp K (upd H q (.tup [V.str "bound", V.str z])) (.ref q) (bndD z) := .tup (SqT.of upd_same) (.cons (.str _) (.cons (.str _) .nil))
theorem pair_dp {K : PySem.W.Frag} {H : Hp} {q : Addr} {v : V} {d : PyData} (hq : H q = none) (h : Dp K H v d) : Dp K (upd H q (.tup [V.str "pair", v])) (.ref q) (.tuple [.str "pair", d]) := .tup (SqT.of upd_same) (.cons (.str _) (.cons (Dp.later (Same.up (Same.refl H) hq) h) .nil))
section
variable {P : Program} {w : World} {K : PySem.W.Frag} {mg : Str → Option Value} {base : Heap} {C CE CB CP f : Addr} {fd : FuncData}
theorem sclAsk : FnScope ["_law_order", "_law_word", "_law_one", "_law_two", "e"] ["_law_order", "_law_word", "_law_one", "_law_two"] (defScope slAsk) := ⟨rfl, rfl, rfl, by decide +kernel, rfl, by decide +kernel, by decide +kernel⟩
theorem ok_asI (F : Fun K "_law_asked" "_law_asked" slAsk f fd) (M : OrP P w K mg base C CE CB CP) (EB : De P w K mg base "InvalidBound" 3 (spErr1 K 1 CB "name") CB) (fn : PySem.W.findIn K (.ref CB) "name" = some none) (EP : De P w K mg base "InvalidPair" 3 (spErr1 K 1 CP "pair") CP) (fp : PySem.W.findIn K (.ref CP) "pair" = some none) (x1 : PySem.W.exmOne K (.ref CP) (.ref CB) = some false) : FnOk P w K mg base CX0 12 f fd ["_law_order", "_law_word", "_law_one", "_law_two"] (spAsI K C) := by
  obtain ⟨fI, EB⟩ := EB
  obtain ⟨fJ, EP⟩ := EP
  obtain ⟨g1, d1, m1, o1, b1⟩ := M.get
  refine F.ok sclAsk (fun vs H Q E h => ?_) (fun cdv A' outer s H vs Q E hr h => ?_)
  · obtain ⟨p, x, dx, q, zs, v, u, d, rfl, _⟩ := h
    rfl
  · obtain ⟨p, x, dx, q, zs, v, u, d, rfl, X, hd, k⟩ := h
    have hr1 := hr.mono (show 1 ≤ 11 by decide)
    have hr5 := hr.mono (show 5 ≤ 11 by decide)
    have hr6 := hr.mono (show 6 ≤ 11 by decide)
    have hr10 := hr.mono (show 10 ≤ 11 by decide)
    refine ⟨_, (pss_one (ps_try_asMany (Wout := fun _ _ _ _ => False)
      (tb := fun W => tSeq (tIfS (tTest (tOp rEq (tVar 1) (tC (.str "index")))) (tRet (tTup (tCons (tC (.str "told")) (tCons (tOp2 (rOwn2 C (spGetD K C CB)) (WE W) (tVar 0) (tVar 2)) tNil)))) tNext) tNever)
      (l := [(.ref CB, 4, fun a cls d => tRet (tTup (tCons (tC (.str "bound")) (tCons (tXf a cls d CB "name" (tVar 4)) tNil)))), (.ref CP, 4, fun a cls d => tRet (tTup (tCons (tC (.str "pair")) (tCons (tXf a cls d CP "pair" (tVar 4)) tNil))))])
      rfl rfl sclAsk.nd takes0
      (fun W pn xe tk _ => (pss_cons (ps_if (pt_cmpR op_eq (pv 1) pe_str (nomark _)) (pss_one (ps_ret (pe_tup (pa_cons pe_str (pa_cons (pe_ixOwn (E := WE W) ⟨g1, d1, _, m1, o1, b1⟩ M.fi hr6 (fun σ => passAt tk σ) (pv 0) (pv 2) (fun _ _ => rfl)) pa_nil))))) pss_nil) pss_never))
      (.cons ⟨rfl, by decide, Or.inl EB.at_⟩ rfl rfl (fun a oe cls d pn hz hf => (pss_one (ps_ret (pe_tup (pa_cons pe_str (pa_cons (pe_xf EB.xf fn hz hf (pv 4)) pa_nil))))))
        (.cons ⟨rfl, by decide, Or.inl EP.at_⟩ rfl rfl (fun a oe cls d pn hz hf => (pss_one (ps_ret (pe_tup (pa_cons pe_str (pa_cons (pe_xf EP.xf fp hz hf (pv 4)) pa_nil)))))) .nil)))), ?_⟩
    walk_at "rd"
    refine r_eq rfl ?_
    walk_at "rd"
    refine ite_dec (fun _ => ?_) (fun z => absurd rfl z)
    walk_at "rd"
    refine r_op2 ?_
    walk_at "rd"
    refine r_own2 X.o ⟨p, x, dx, q, zs, v, d, rfl, X, hd, fun j z w ed ez pz => ?_, fun b dd H' s1 h1 h2 => ?_⟩
    · walk_at "rd"
      refine ⟨by show 2 ≤ sizeLine; decide, fun t nt => k _ _ (Same.up (Same.refl H) nt) ?_⟩
      have jl := (List.getElem?_eq_some_iff.mp ez).1
      rw [asI, if_pos (by rw [ed]; exact betD_yes (by omega) (by omega)), ed]
      have e2 : zs.getD (idx (.int (j : Int))) (0, 0) = z := by
        show zs.getD ((j : Int)).toNat (0, 0) = z
        rw [Int.toNat_natCast, List.getD_eq_getElem?_getD, ez]
        rfl
      rw [e2]
      exact tld_dp nt pz.dp
    · refine ⟨true, EB.xm, fun _ a0 _ => ?_, fun q => Bool.noConfusion q⟩
      refine r_ret ?_
      walk_at "rd"
      refine ⟨_, rfl, rfl, rfl, dd, _, _, rfl, h2, look1 _ _, ?_⟩
      walk_at "rd"
      refine ⟨by show 2 ≤ sizeLine; decide, fun t nt => k _ _ (Same.up s1 nt) ?_⟩
      rw [asI, if_neg (by rw [b]; decide)]
      exact bnd_dp
theorem ok_asP (F : Fun K "_law_asked" "_law_asked" slAsk f fd) (M : OrP P w K mg base C CE CB CP) (EB : De P w K mg base "InvalidBound" 3 (spErr1 K 1 CB "name") CB) (fn : PySem.W.findIn K (.ref CB) "name" = some none) (EP : De P w K mg base "InvalidPair" 3 (spErr1 K 1 CP "pair") CP) (fp : PySem.W.findIn K (.ref CP) "pair" = some none) (x1 : PySem.W.exmOne K (.ref CP) (.ref CB) = some false) : FnOk P w K mg base CX0 12 f fd ["_law_order", "_law_word", "_law_one", "_law_two"] (spAsP K C) := by
  obtain ⟨fI, EB⟩ := EB
  obtain ⟨fJ, EP⟩ := EP
  obtain ⟨g1, d1, m1, o1, b1⟩ := M.pl
  refine F.ok sclAsk (fun vs H Q E h => ?_) (fun cdv A' outer s H vs Q E hr h => ?_)
  · obtain ⟨p, x, dx, q, zs, y, u, d, rfl, _⟩ := h
    rfl
  · obtain ⟨p, x, dx, q, zs, y, u, d, rfl, X, nd, hd, dp, k1, k2⟩ := h
    have hr1 := hr.mono (show 1 ≤ 11 by decide)
    have hr5 := hr.mono (show 5 ≤ 11 by decide)
    have hr6 := hr.mono (show 6 ≤ 11 by decide)
    have hr10 := hr.mono (show 10 ≤ 11 by decide)
    refine ⟨_, (pss_one (ps_try_asMany (Wout := fun _ _ _ _ => False)
      (tb := fun W => tSeq (tIfS (tTest (tOp rEq (tVar 1) (tC (.str "index")))) tNever tNext) (tSeq (tIfS (tTest (tOp rEq (tVar 1) (tC (.str "place")))) (tRet (tTup (tCons (tC (.str "told")) (tCons (tMethT C "place" (spOr (spPlD K C CP) (spPlN C CP)) (WE W) (tVar 0) (tCons (tVar 2) tNil)) tNil)))) tNext) tNever))
      (l := [(.ref CB, 4, fun a cls d => tRet (tTup (tCons (tC (.str "bound")) (tCons (tXf a cls d CB "name" (tVar 4)) tNil)))), (.ref CP, 4, fun a cls d => tRet (tTup (tCons (tC (.str "pair")) (tCons (tXf a cls d CP "pair" (tVar 4)) tNil))))])
      rfl rfl sclAsk.nd takes0
      (fun W pn xe tk _ => (pss_cons (ps_if (pt_cmpR op_eq (pv 1) pe_str (nomark _)) pss_never pss_nil) (pss_cons (ps_if (pt_cmpR op_eq (pv 1) pe_str (nomark _)) (pss_one (ps_ret (pe_tup (pa_cons pe_str (pa_cons (pe_methT (E := WE W) (pv 0) M.O.cl m1 o1 hr5 b1 (fun σ => passAt tk σ) (pa_cons (pv 2) pa_nil)) pa_nil))))) pss_nil) pss_never)))
      (.cons ⟨rfl, by decide, Or.inl EB.at_⟩ rfl rfl (fun a oe cls d pn hz hf => (pss_one (ps_ret (pe_tup (pa_cons pe_str (pa_cons (pe_xf EB.xf fn hz hf (pv 4)) pa_nil))))))
        (.cons ⟨rfl, by decide, Or.inl EP.at_⟩ rfl rfl (fun a oe cls d pn hz hf => (pss_one (ps_ret (pe_tup (pa_cons pe_str (pa_cons (pe_xf EP.xf fp hz hf (pv 4)) pa_nil)))))) .nil)))), ?_⟩
    walk_at "rd"
    refine r_eq rfl ?_
    walk_at "rd"
    refine ite_dec (fun z => by cases z) (fun _ => ?_)
    walk_at "rd"
    refine r_eq rfl ?_
    walk_at "rd"
    refine ite_dec (fun _ => ?_) (fun z => absurd rfl z)
    walk_at "rd"
    refine r_methT ?_
    walk_at "rd"
    refine ⟨x, dx, _, rfl, X.o, one_no (by decide +kernel), ?_⟩
    walk_at "rd"
    refine .inl ⟨p, x, dx, q, zs, y, d, rfl, X, nd, hd, dp, fun j z ed ez => ?_, fun b dd v' H' s1 h1 h2 ow => ?_⟩
    · walk_at "rd"
      exact ⟨by show 2 ≤ sizeLine; decide, fun t nt => k1 j z _ _ ed ez (Same.up (Same.refl H) nt) (tld_dp nt (.int _))⟩
    · refine ⟨false, x1, fun q => Bool.noConfusion q, fun _ => ⟨true, EP.xm, fun _ a0 _ => ?_, fun q => Bool.noConfusion q⟩⟩
      refine r_ret ?_
      walk_at "rd"
      refine ⟨_, rfl, rfl, rfl, dd, _, _, rfl, h2, look1 _ _, ?_⟩
      walk_at "rd"
      exact ⟨by show 2 ≤ sizeLine; decide, fun t nt => k2 b _ _ (Same.up s1 nt) (pair_dp nt ow.dp)⟩
theorem ok_asPN (F : Fun K "_law_asked" "_law_asked" slAsk f fd) (M : OrP P w K mg base C CE CB CP) (EB : De P w K mg base "InvalidBound" 3 (spErr1 K 1 CB "name") CB) (fn : PySem.W.findIn K (.ref CB) "name" = some none) (EP : De P w K mg base "InvalidPair" 3 (spErr1 K 1 CP "pair") CP) (fp : PySem.W.findIn K (.ref CP) "pair" = some none) (x1 : PySem.W.exmOne K (.ref CP) (.ref CB) = some false) : FnOk P w K mg base CX0 12 f fd ["_law_order", "_law_word", "_law_one", "_law_two"] (spAsPN K C) := by
  obtain ⟨fI, EB⟩ := EB
  obtain ⟨fJ, EP⟩ := EP
  obtain ⟨g1, d1, m1, o1, b1⟩ := M.pl
  refine F.ok sclAsk (fun vs H Q E h => ?_) (fun cdv A' outer s H vs Q E hr h => ?_)
  · obtain ⟨p, x, dx, q, zs, y, u, rfl, _⟩ := h
    rfl
  · obtain ⟨p, x, dx, q, zs, y, u, rfl, X, hd, k⟩ := h
    have hr1 := hr.mono (show 1 ≤ 11 by decide)
    have hr5 := hr.mono (show 5 ≤ 11 by decide)
    have hr6 := hr.mono (show 6 ≤ 11 by decide)
    have hr10 := hr.mono (show 10 ≤ 11 by decide)
    refine ⟨_, (pss_one (ps_try_asMany (Wout := fun _ _ _ _ => False)
      (tb := fun W => tSeq (tIfS (tTest (tOp rEq (tVar 1) (tC (.str "index")))) tNever tNext) (tSeq (tIfS (tTest (tOp rEq (tVar 1) (tC (.str "place")))) (tRet (tTup (tCons (tC (.str "told")) (tCons (tMethT C "place" (spOr (spPlD K C CP) (spPlN C CP)) (WE W) (tVar 0) (tCons (tVar 2) tNil)) tNil)))) tNext) tNever))
      (l := [(.ref CB, 4, fun a cls d => tRet (tTup (tCons (tC (.str "bound")) (tCons (tXf a cls d CB "name" (tVar 4)) tNil)))), (.ref CP, 4, fun a cls d => tRet (tTup (tCons (tC (.str "pair")) (tCons (tXf a cls d CP "pair" (tVar 4)) tNil))))])
      rfl rfl sclAsk.nd takes0
      (fun W pn xe tk _ => (pss_cons (ps_if (pt_cmpR op_eq (pv 1) pe_str (nomark _)) pss_never pss_nil) (pss_cons (ps_if (pt_cmpR op_eq (pv 1) pe_str (nomark _)) (pss_one (ps_ret (pe_tup (pa_cons pe_str (pa_cons (pe_methT (E := WE W) (pv 0) M.O.cl m1 o1 hr5 b1 (fun σ => passAt tk σ) (pa_cons (pv 2) pa_nil)) pa_nil))))) pss_nil) pss_never)))
      (.cons ⟨rfl, by decide, Or.inl EB.at_⟩ rfl rfl (fun a oe cls d pn hz hf => (pss_one (ps_ret (pe_tup (pa_cons pe_str (pa_cons (pe_xf EB.xf fn hz hf (pv 4)) pa_nil))))))
        (.cons ⟨rfl, by decide, Or.inl EP.at_⟩ rfl rfl (fun a oe cls d pn hz hf => (pss_one (ps_ret (pe_tup (pa_cons pe_str (pa_cons (pe_xf EP.xf fp hz hf (pv 4)) pa_nil)))))) .nil)))), ?_⟩
    walk_at "rd"
    refine r_eq rfl ?_
    walk_at "rd"
    refine ite_dec (fun z => by cases z) (fun _ => ?_)
    walk_at "rd"
    refine r_eq rfl ?_
    walk_at "rd"
    refine ite_dec (fun _ => ?_) (fun z => absurd rfl z)
    walk_at "rd"
    refine r_methT ?_
    walk_at "rd"
    refine ⟨x, dx, _, rfl, X.o, one_no (by decide +kernel), ?_⟩
    walk_at "rd"
    refine .inr ⟨p, x, dx, q, zs, y, rfl, X, hd, fun dd v' H' s1 h1 h2 ow => ?_⟩
    · refine ⟨false, x1, fun q => Bool.noConfusion q, fun _ => ⟨true, EP.xm, fun _ a0 _ => ?_, fun q => Bool.noConfusion q⟩⟩
      refine r_ret ?_
      walk_at "rd"
      refine ⟨_, rfl, rfl, rfl, dd, _, _, rfl, h2, look1 _ _, ?_⟩
      walk_at "rd"
      exact ⟨by show 2 ≤ sizeLine; decide, fun t nt => k _ _ _ (Same.up s1 nt) upd_same (ow.at_.later (Same.up (Same.refl H') nt))⟩
theorem ok_asE (F : Fun K "_law_asked" "_law_asked" slAsk f fd) (M : OrP P w K mg base C CE CB CP) (EB : De P w K mg base "InvalidBound" 3 (spErr1 K 1 CB "name") CB) (fn : PySem.W.findIn K (.ref CB) "name" = some none) (EP : De P w K mg base "InvalidPair" 3 (spErr1 K 1 CP "pair") CP) (fp : PySem.W.findIn K (.ref CP) "pair" = some none) (x1 : PySem.W.exmOne K (.ref CP) (.ref CB) = some false) : FnOk P w K mg base CX0 12 f fd ["_law_order", "_law_word", "_law_one", "_law_two"] (spAsE K C) := by
  obtain ⟨fI, EB⟩ := EB
  obtain ⟨fJ, EP⟩ := EP
  obtain ⟨g1, d1, m1, o1, b1⟩ := M.ex
  obtain ⟨g2, d2, m2, o2, b2⟩ := M.pairs
  refine F.ok sclAsk (fun vs H Q E h => ?_) (fun cdv A' outer s H vs Q E hr h => ?_)
  · obtain ⟨p, x, dx, q, zs, v, u, d, rfl, _⟩ := h
    rfl
  · obtain ⟨p, x, dx, q, zs, v, u, d, rfl, X, g, hop, hd, k⟩ := h
    have hr1 := hr.mono (show 1 ≤ 11 by decide)
    have hr5 := hr.mono (show 5 ≤ 11 by decide)
    have hr6 := hr.mono (show 6 ≤ 11 by decide)
    have hr10 := hr.mono (show 10 ≤ 11 by decide)
    refine ⟨_, (pss_one (ps_try_asMany (Wout := fun _ _ _ _ => False)
      (tb := fun W => tSeq (tIfS (tTest (tOp rEq (tVar 1) (tC (.str "index")))) tNever tNext) (tSeq (tIfS (tTest (tOp rEq (tVar 1) (tC (.str "place")))) tNever tNext) (tSeq (tIfS (tTest (tOp rEq (tVar 1) (tC (.str "exchanged")))) (tRet (tTup (tCons (tC (.str "told")) (tCons (tMeth C "pairs" (spPairsO C) [] E0 (tMethT C "exchanged" (spExD K C CB) (WE W) (tVar 0) (tCons (tVar 2) tNil)) tNil) tNil)))) tNext) tNever)))
      (l := [(.ref CB, 4, fun a cls d => tRet (tTup (tCons (tC (.str "bound")) (tCons (tXf a cls d CB "name" (tVar 4)) tNil)))), (.ref CP, 4, fun a cls d => tRet (tTup (tCons (tC (.str "pair")) (tCons (tXf a cls d CP "pair" (tVar 4)) tNil))))])
      rfl rfl sclAsk.nd takes0
      (fun W pn xe tk _ => (pss_cons (ps_if (pt_cmpR op_eq (pv 1) pe_str (nomark _)) pss_never pss_nil) (pss_cons (ps_if (pt_cmpR op_eq (pv 1) pe_str (nomark _)) pss_never pss_nil) (pss_cons (ps_if (pt_cmpR op_eq (pv 1) pe_str (nomark _)) (pss_one (ps_ret (pe_tup (pa_cons pe_str (pa_cons (pe_meth0 (pe_methT (E := WE W) (pv 0) M.O.cl m1 o1 hr10 b1 (fun σ => passAt tk σ) (pa_cons (pv 2) pa_nil)) M.O.cl m2 o2 hr1 b2 .nil pass0) pa_nil))))) pss_nil) pss_never))))
      (.cons ⟨rfl, by decide, Or.inl EB.at_⟩ rfl rfl (fun a oe cls d pn hz hf => (pss_one (ps_ret (pe_tup (pa_cons pe_str (pa_cons (pe_xf EB.xf fn hz hf (pv 4)) pa_nil))))))
        (.cons ⟨rfl, by decide, Or.inl EP.at_⟩ rfl rfl (fun a oe cls d pn hz hf => (pss_one (ps_ret (pe_tup (pa_cons pe_str (pa_cons (pe_xf EP.xf fp hz hf (pv 4)) pa_nil)))))) .nil)))), ?_⟩
    walk_at "rd"
    refine r_eq rfl ?_
    walk_at "rd"
    refine ite_dec (fun z => by cases z) (fun _ => ?_)
    walk_at "rd"
    refine r_eq rfl ?_
    walk_at "rd"
    refine ite_dec (fun z => by cases z) (fun _ => ?_)
    walk_at "rd"
    refine r_eq rfl ?_
    walk_at "rd"
    refine ite_dec (fun _ => ?_) (fun z => absurd rfl z)
    walk_at "rd"
    refine r_methT ?_
    walk_at "rd"
    refine ⟨x, dx, _, rfl, X.o, one_no (by decide +kernel), ?_⟩
    walk_at "rd"
    refine ⟨p, x, dx, q, zs, v, d, rfl, X, g, hop, hd, fun j y2 H' ed jl nw => ?_, fun b dd H' s1 h1 h2 => ?_⟩
    · obtain ⟨sN, dy, qy, Y⟩ := nw
      obtain ⟨nqy, ws, hqy, hws⟩ := id Y.l
      walk_at "rd"
      refine ⟨y2, dy, _, rfl, Y.o, one_no (by decide +kernel), ?_⟩
      walk_at "rd"
      refine ⟨p, y2, dy, qy, _, ws, rfl, Y, hqy, fun r nr => ?_⟩
      have s1 := Same.up (o := .lst ws) (Same.refl H') nr
      walk_at "rd"
      refine ⟨by show 2 ≤ sizeLine; decide, fun t nt => k _ _ (Same.up (sN.trans s1) nt) ?_⟩
      have dr : Dp K (upd H' r (.lst ws)) (.ref r) (prsD _) := .lst (SqL.of upd_same) (hws.keep (Keep.same s1)).dp
      rw [asE, if_pos (by rw [ed]; exact betD_yes (by omega) (by omega)), ed]
      exact tld_dp nt dr
    · refine ⟨true, EB.xm, fun _ a0 _ => ?_, fun q => Bool.noConfusion q⟩
      refine r_ret ?_
      walk_at "rd"
      refine ⟨_, rfl, rfl, rfl, dd, _, _, rfl, h2, look1 _ _, ?_⟩
      walk_at "rd"
      refine ⟨by show 2 ≤ sizeLine; decide, fun t nt => k _ _ (Same.up s1 nt) ?_⟩
      rw [asE, if_neg (by rw [b]; decide)]
      exact bnd_dp
theorem ok_asM (F : Fun K "_law_asked" "_law_asked" slAsk f fd) (M : OrP P w K mg base C CE CB CP) (EB : De P w K mg base "InvalidBound" 3 (spErr1 K 1 CB "name") CB) (fn : PySem.W.findIn K (.ref CB) "name" = some none) (EP : De P w K mg base "InvalidPair" 3 (spErr1 K 1 CP "pair") CP) (fp : PySem.W.findIn K (.ref CP) "pair" = some none) (x1 : PySem.W.exmOne K (.ref CP) (.ref CB) = some false) : FnOk P w K mg base CX0 12 f fd ["_law_order", "_law_word", "_law_one", "_law_two"] (spAsM K C) := by
  obtain ⟨fI, EB⟩ := EB
  obtain ⟨fJ, EP⟩ := EP
  obtain ⟨g1, d1, m1, o1, b1⟩ := M.mv
  obtain ⟨g2, d2, m2, o2, b2⟩ := M.pairs
  refine F.ok sclAsk (fun vs H Q E h => ?_) (fun cdv A' outer s H vs Q E hr h => ?_)
  · obtain ⟨p, x, dx, q, zs, y, v, d, e, rfl, _⟩ := h
    rfl
  · obtain ⟨p, x, dx, q, zs, y, v, d, e, rfl, X, g, hop, hd, dp, pat, he, k⟩ := h
    have hr1 := hr.mono (show 1 ≤ 11 by decide)
    have hr5 := hr.mono (show 5 ≤ 11 by decide)
    have hr6 := hr.mono (show 6 ≤ 11 by decide)
    have hr10 := hr.mono (show 10 ≤ 11 by decide)
    refine ⟨_, (pss_one (ps_try_asMany (Wout := fun _ _ _ _ => False)
      (tb := fun W => tSeq (tIfS (tTest (tOp rEq (tVar 1) (tC (.str "index")))) tNever tNext) (tSeq (tIfS (tTest (tOp rEq (tVar 1) (tC (.str "place")))) tNever tNext) (tSeq (tIfS (tTest (tOp rEq (tVar 1) (tC (.str "exchanged")))) tNever tNext) (tRet (tTup (tCons (tC (.str "told")) (tCons (tMeth C "pairs" (spPairsO C) [] E0 (tMethT C "moved" (spOr (spMvD K C CB CP) (spMvN C CP)) (WE W) (tVar 0) (tCons (tVar 2) (tCons (tVar 3) tNil))) tNil) tNil)))))))
      (l := [(.ref CB, 4, fun a cls d => tRet (tTup (tCons (tC (.str "bound")) (tCons (tXf a cls d CB "name" (tVar 4)) tNil)))), (.ref CP, 4, fun a cls d => tRet (tTup (tCons (tC (.str "pair")) (tCons (tXf a cls d CP "pair" (tVar 4)) tNil))))])
      rfl rfl sclAsk.nd takes0
      (fun W pn xe tk _ => (pss_cons (ps_if (pt_cmpR op_eq (pv 1) pe_str (nomark _)) pss_never pss_nil) (pss_cons (ps_if (pt_cmpR op_eq (pv 1) pe_str (nomark _)) pss_never pss_nil) (pss_cons (ps_if (pt_cmpR op_eq (pv 1) pe_str (nomark _)) pss_never pss_nil) (pss_one (ps_ret (pe_tup (pa_cons pe_str (pa_cons (pe_meth0 (pe_methT (E := WE W) (pv 0) M.O.cl m1 o1 hr10 b1 (fun σ => passAt tk σ) (pa_cons (pv 2) (pa_cons (pv 3) pa_nil))) M.O.cl m2 o2 hr1 b2 .nil pass0) pa_nil)))))))))
      (.cons ⟨rfl, by decide, Or.inl EB.at_⟩ rfl rfl (fun a oe cls d pn hz hf => (pss_one (ps_ret (pe_tup (pa_cons pe_str (pa_cons (pe_xf EB.xf fn hz hf (pv 4)) pa_nil))))))
        (.cons ⟨rfl, by decide, Or.inl EP.at_⟩ rfl rfl (fun a oe cls d pn hz hf => (pss_one (ps_ret (pe_tup (pa_cons pe_str (pa_cons (pe_xf EP.xf fp hz hf (pv 4)) pa_nil)))))) .nil)))), ?_⟩
    walk_at "rd"
    refine r_eq rfl ?_
    walk_at "rd"
    refine ite_dec (fun z => by cases z) (fun _ => ?_)
    walk_at "rd"
    refine r_eq rfl ?_
    walk_at "rd"
    refine ite_dec (fun z => by cases z) (fun _ => ?_)
    walk_at "rd"
    refine r_eq rfl ?_
    walk_at "rd"
    refine ite_dec (fun z => by cases z) (fun _ => ?_)
    walk_at "rd"
    refine r_methT ?_
    walk_at "rd"
    refine ⟨x, dx, _, rfl, X.o, one_no (by decide +kernel), ?_⟩
    walk_at "rd"
    refine .inl ⟨p, x, dx, q, zs, y, v, d, e, rfl, X, g, hop, hd, dp, pat, he, fun j z y2 H' ed m ee jl nw => ?_, fun b dd v' H' s1 h1 h2 ow => ?_, fun b b2 dd H' s1 h1 h2 => ?_⟩
    · obtain ⟨sN, dy, qy, Y⟩ := nw
      obtain ⟨nqy, ws, hqy, hws⟩ := id Y.l
      walk_at "rd"
      refine ⟨y2, dy, _, rfl, Y.o, one_no (by decide +kernel), ?_⟩
      walk_at "rd"
      refine ⟨p, y2, dy, qy, _, ws, rfl, Y, hqy, fun r nr => ?_⟩
      have s1 := Same.up (o := .lst ws) (Same.refl H') nr
      walk_at "rd"
      refine ⟨by show 2 ≤ sizeLine; decide, fun t nt => k _ _ (Same.up (sN.trans s1) nt) ?_⟩
      have dr : Dp K (upd H' r (.lst ws)) (.ref r) (prsD _) := .lst (SqL.of upd_same) (hws.keep (Keep.same s1)).dp
      rw [asM, if_pos (by rw [ed, hasD_pr]; exact decide_eq_true m), if_pos (by rw [ee]; exact betD_yes (by omega) (by omega)), ed, ee, prOf_pr]
      exact tld_dp nt dr
    · refine ⟨false, x1, fun q => Bool.noConfusion q, fun _ => ⟨true, EP.xm, fun _ a0 _ => ?_, fun q => Bool.noConfusion q⟩⟩
      refine r_ret ?_
      walk_at "rd"
      refine ⟨_, rfl, rfl, rfl, dd, _, _, rfl, h2, look1 _ _, ?_⟩
      walk_at "rd"
      refine ⟨by show 2 ≤ sizeLine; decide, fun t nt => k _ _ (Same.up s1 nt) ?_⟩
      rw [asM, if_neg (by rw [b]; decide)]
      exact pair_dp nt ow.dp
    · refine ⟨true, EB.xm, fun _ a0 _ => ?_, fun q => Bool.noConfusion q⟩
      refine r_ret ?_
      walk_at "rd"
      refine ⟨_, rfl, rfl, rfl, dd, _, _, rfl, h2, look1 _ _, ?_⟩
      walk_at "rd"
      refine ⟨by show 2 ≤ sizeLine; decide, fun t nt => k _ _ (Same.up s1 nt) ?_⟩
      rw [asM, if_pos b, if_neg (by rw [b2]; decide)]
      exact bnd_dp
theorem ok_asMN (F : Fun K "_law_asked" "_law_asked" slAsk f fd) (M : OrP P w K mg base C CE CB CP) (EB : De P w K mg base "InvalidBound" 3 (spErr1 K 1 CB "name") CB) (fn : PySem.W.findIn K (.ref CB) "name" = some none) (EP : De P w K mg base "InvalidPair" 3 (spErr1 K 1 CP "pair") CP) (fp : PySem.W.findIn K (.ref CP) "pair" = some none) (x1 : PySem.W.exmOne K (.ref CP) (.ref CB) = some false) : FnOk P w K mg base CX0 12 f fd ["_law_order", "_law_word", "_law_one", "_law_two"] (spAsMN K C) := by
  obtain ⟨fI, EB⟩ := EB
  obtain ⟨fJ, EP⟩ := EP
  obtain ⟨g1, d1, m1, o1, b1⟩ := M.mv
  obtain ⟨g2, d2, m2, o2, b2⟩ := M.pairs
  refine F.ok sclAsk (fun vs H Q E h => ?_) (fun cdv A' outer s H vs Q E hr h => ?_)
  · obtain ⟨p, x, dx, q, zs, y, v, rfl, _⟩ := h
    rfl
  · obtain ⟨p, x, dx, q, zs, y, v, rfl, X, hd, k⟩ := h
    have hr1 := hr.mono (show 1 ≤ 11 by decide)
    have hr5 := hr.mono (show 5 ≤ 11 by decide)
    have hr6 := hr.mono (show 6 ≤ 11 by decide)
    have hr10 := hr.mono (show 10 ≤ 11 by decide)
    refine ⟨_, (pss_one (ps_try_asMany (Wout := fun _ _ _ _ => False)
      (tb := fun W => tSeq (tIfS (tTest (tOp rEq (tVar 1) (tC (.str "index")))) tNever tNext) (tSeq (tIfS (tTest (tOp rEq (tVar 1) (tC (.str "place")))) tNever tNext) (tSeq (tIfS (tTest (tOp rEq (tVar 1) (tC (.str "exchanged")))) tNever tNext) (tRet (tTup (tCons (tC (.str "told")) (tCons (tMeth C "pairs" (spPairsO C) [] E0 (tMethT C "moved" (spOr (spMvD K C CB CP) (spMvN C CP)) (WE W) (tVar 0) (tCons (tVar 2) (tCons (tVar 3) tNil))) tNil) tNil)))))))
      (l := [(.ref CB, 4, fun a cls d => tRet (tTup (tCons (tC (.str "bound")) (tCons (tXf a cls d CB "name" (tVar 4)) tNil)))), (.ref CP, 4, fun a cls d => tRet (tTup (tCons (tC (.str "pair")) (tCons (tXf a cls d CP "pair" (tVar 4)) tNil))))])
      rfl rfl sclAsk.nd takes0
      (fun W pn xe tk _ => (pss_cons (ps_if (pt_cmpR op_eq (pv 1) pe_str (nomark _)) pss_never pss_nil) (pss_cons (ps_if (pt_cmpR op_eq (pv 1) pe_str (nomark _)) pss_never pss_nil) (pss_cons (ps_if (pt_cmpR op_eq (pv 1) pe_str (nomark _)) pss_never pss_nil) (pss_one (ps_ret (pe_tup (pa_cons pe_str (pa_cons (pe_meth0 (pe_methT (E := WE W) (pv 0) M.O.cl m1 o1 hr10 b1 (fun σ => passAt tk σ) (pa_cons (pv 2) (pa_cons (pv 3) pa_nil))) M.O.cl m2 o2 hr1 b2 .nil pass0) pa_nil)))))))))
      (.cons ⟨rfl, by decide, Or.inl EB.at_⟩ rfl rfl (fun a oe cls d pn hz hf => (pss_one (ps_ret (pe_tup (pa_cons pe_str (pa_cons (pe_xf EB.xf fn hz hf (pv 4)) pa_nil))))))
        (.cons ⟨rfl, by decide, Or.inl EP.at_⟩ rfl rfl (fun a oe cls d pn hz hf => (pss_one (ps_ret (pe_tup (pa_cons pe_str (pa_cons (pe_xf EP.xf fp hz hf (pv 4)) pa_nil)))))) .nil)))), ?_⟩
    walk_at "rd"
    refine r_eq rfl ?_
    walk_at "rd"
    refine ite_dec (fun z => by cases z) (fun _ => ?_)
    walk_at "rd"
    refine r_eq rfl ?_
    walk_at "rd"
    refine ite_dec (fun z => by cases z) (fun _ => ?_)
    walk_at "rd"
    refine r_eq rfl ?_
    walk_at "rd"
    refine ite_dec (fun z => by cases z) (fun _ => ?_)
    walk_at "rd"
    refine r_methT ?_
    walk_at "rd"
    refine ⟨x, dx, _, rfl, X.o, one_no (by decide +kernel), ?_⟩
    walk_at "rd"
    refine .inr ⟨p, x, dx, q, zs, y, v, rfl, X, hd, fun dd v' H' s1 h1 h2 ow => ?_⟩
    · refine ⟨false, x1, fun q => Bool.noConfusion q, fun _ => ⟨true, EP.xm, fun _ a0 _ => ?_, fun q => Bool.noConfusion q⟩⟩
      refine r_ret ?_
      walk_at "rd"
      refine ⟨_, rfl, rfl, rfl, dd, _, _, rfl, h2, look1 _ _, ?_⟩
      walk_at "rd"
      exact ⟨by show 2 ≤ sizeLine; decide, fun t nt => k _ _ _ (Same.up s1 nt) upd_same (ow.at_.later (Same.up (Same.refl H') nt))⟩
end
end Pk
set_option Elab.async false
set_option linter.all false
set_option maxRecDepth 100000
set_option maxHeartbeats 4000000
namespace Pk
open PySem L2
local macro_rules | `(tactic| walk_at "rd") => `(tactic| repeat (first
  | with_reducible refine r_seq ?_ | with_reducible refine r_nxt ?_ | with_reducible refine r_asg ?_ | with_reducible refine r_to ?_ | with_reducible refine r_ret ?_ | with_reducible refine r_for ?_ | with_reducible refine r_lc ?_ | with_reducible refine r_lc2 ?_ | with_reducible refine r_rng1 ?_ | with_reducible refine r_list ?_ | with_reducible refine r_tupI ?_ | with_reducible refine r_drop ?_ | with_reducible refine r_ifs ?_
  | with_reducible refine r_op ?_ | with_reducible refine r_c ?_ | with_reducible refine r_var rfl ?_ | with_reducible refine r_var (by assumption) ?_ | with_reducible refine r_I0 ?_ | with_reducible refine r_un ?_ | with_reducible refine r_U ?_ | with_reducible refine r_make ?_ | with_reducible refine r_makeS ?_ | with_reducible refine r_ifE ?_ | with_reducible refine r_cm ?_ | with_reducible refine r_mkV rfl ?_ | with_reducible refine r_sub ?_
  | with_reducible refine r_nil ?_ | with_reducible refine r_cons ?_ | with_reducible refine r_cb ?_ | with_reducible refine r_sl ?_ | with_reducible refine r_noP ?_ | with_reducible refine r_part ?_ | with_reducible refine r_isI ?_ | with_reducible refine r_lst ?_ | with_reducible refine r_tup ?_ | with_reducible refine r_call ?_ | with_reducible refine r_callS ?_ | with_reducible refine r_sFldU ?_ | with_reducible refine r_chain ?_ | with_reducible refine r_enum ?_ | with_reducible refine r_zip ?_ | with_reducible refine r_rng3 ?_ | with_reducible refine r_gtup ?_ | with_reducible refine r_methU ?_
  | with_reducible refine r_test ?_ | with_reducible refine r_B ?_ | with_reducible refine r_and ?_ | with_reducible refine r_or ?_ | with_reducible refine r_not ?_ | with_reducible refine r_andV ?_ | with_reducible refine r_orV ?_ | with_reducible refine r_notV ?_ | with_reducible refine r_bl ?_ | with_reducible refine r_yes ?_ | with_reducible refine r_int ?_ | with_reducible refine r_is0 ?_ | with_reducible refine r_is1 ?_ | with_reducible refine iteT ?_ | with_reducible refine iteF ?_ | with_reducible refine ite_nF ?_ | with_reducible refine ite_nT ?_
  | with_reducible refine r_mod (by decide) ?_ | with_reducible refine r_div (by decide) (by decide) ?_ | with_reducible refine r_mulR (by decide) (by decide) ?_ | with_reducible refine r_mulL (by decide) (by decide) ?_ | with_reducible refine r_pow (by decide) (by decide) (by decide) ?_))
/-! ### the law's own answers -/
theorem Dp.flat {K : PySem.W.Frag} {H H' : Hp} {v : V} {d : PyData} (h : Dp K H v d) (f : Deep 0 d) : Dp K H' v d := by
  cases f <;> cases h
  · exact .non
  · exact .bl _
  · exact .int _
  · exact .str _
def PD (d : PyData) : Prop := (∃ z, d = prD z) ∨ d = .tuple [.bool true, .int 0] ∨ d = .list [.int 0, .int 0] ∨ d = .none ∨ d = .tuple [.int 1]
theorem PD.deep {d : PyData} (h : PD d) : Deep 1 d := by
  have two : ∀ {a b : PyData}, Deep 0 a → Deep 0 b → Deep 1 (.tuple [a, b]) := fun {a b} ha hb => .tup (fun e m => by
    simp only [List.mem_cons, List.not_mem_nil, or_false] at m
    rcases m with rfl | rfl
    · exact ha
    · exact hb) (by show 2 ≤ 1000; decide)
  rcases h with ⟨z, rfl⟩ | rfl | rfl | rfl | rfl
  · exact two (.int _) (.int _)
  · exact two (.bl _) (.int _)
  · exact .lst (fun e m => by
      simp only [List.mem_cons, List.not_mem_nil, or_false] at m
      rcases m with rfl | rfl <;> exact .int _) (by show 2 ≤ 1000; decide)
  · exact .non
  · exact .tup (fun e m => by
      rw [List.mem_singleton] at m
      subst m
      exact .int _) (by show 1 ≤ 1000; decide)
def spIdx (K : PySem.W.Frag) : Sp := fun vs H Q _ => ∃ (p c : Addr) (ns : List Int) (m : Nat), vs = [.ref p, .int (m : Int)] ∧ PoolAt H p c ns ∧ m ≤ 64 ∧ ∀ (v : V) (d : PyData) (H' : Hp), Keep p H H' → PoolAt H' p c ns → Dp K H' v d → Deep 0 d → Q v H'
def spLMv (K : PySem.W.Frag) : Sp := fun vs H Q _ => ∃ (p a : Addr) (zs : List Pr) (y : V) (z : Pr) (j : Nat), vs = [.ref a, y, .int (j : Int)] ∧ PL p H a zs ∧ PrAt p H y z ∧ z ∈ zs ∧ zs.Nodup ∧ zs.length ≤ 64 ∧ j < zs.length ∧ (∃ o, H p = some o) ∧ ∀ (r : Addr) (H' : Hp), Same H H' → PL p H' r (mvR zs z j) → Q (.ref r) H'
def spIsT (K : PySem.W.Frag) : Sp := fun vs H Q _ => ∃ (p a : Addr) (zs : List Pr) (y : V) (d : PyData), vs = [.ref a, y] ∧ PL p H a zs ∧ Dp K H y d ∧ PD d ∧ Q (.bl (hasD zs d)) H
def spIsTN : Sp := fun vs H Q _ => ∃ (u y : V), vs = [u, y] ∧ D01 H y ∧ Q (.bl false) H
def spRnd (C : Addr) : Sp := fun vs H Q _ => ∃ (p x dx q a : Addr) (zs : List Pr) (j : Nat), vs = [.ref x, .ref a, .int (j : Int)] ∧ OrX p C H x dx q zs ∧ PL p H a zs ∧ Gp zs ∧ (∃ o, H p = some o) ∧ j + 1 < zs.length ∧ ∀ H' : Hp, Same H H' → Q (.bl true) H'
abbrev slIdx : Stmt := top 22
abbrev slIns : Stmt := top 23
abbrev slLMv : Stmt := top 25
abbrev slIsT : Stmt := top 26
abbrev slRnd : Stmt := top 27
section
variable {P : Program} {w : World} {K : PySem.W.Frag} {mg : Str → Option Value} {base : Heap} {C CE CB CP f : Addr} {fd : FuncData}
theorem sclIdx : FnScope ["_law_pool_here", "_law_many", "_law_choice", "_law_good"] ["_law_pool_here", "_law_many"] (defScope slIdx) := ⟨rfl, rfl, rfl, by decide +kernel, rfl, by decide +kernel, by decide +kernel⟩
theorem ok_idx (F : Fun K "_law_index" "_law_index" slIdx f fd) (T : Bt mg) (DD : Df P w K mg base CX0 "_law_draw" 2 ["_law_pool_here", "_law_size"] spDraw) : FnOk P w K mg base CX0 3 f fd ["_law_pool_here", "_law_many"] (spIdx K) := by
  refine F.ok sclIdx (fun vs H Q E h => ?_) (fun cdv A outer s H vs Q E hr h => ?_)
  · obtain ⟨p, c, ns, m, rfl, _⟩ := h
    rfl
  · obtain ⟨p, c, ns, m, rfl, hp, m64, k⟩ := h
    refine ⟨_, (pss_cons (ps_set (i := 2) sclIdx.nd rfl (Or.inl rfl) (pe_df DD hr (by decide) (pa_cons (pv 0) (pa_cons pe_int pa_nil))))
  (pss_cons (ps_set (i := 3) sclIdx.nd rfl (Or.inl rfl) (pe_df DD hr (by decide) (pa_cons (pv 0) (pa_cons (pe_callB (cr_max rfl) (by rfl) T.max (by decide +kernel) (pa_cons (pe_lst (pa_cons (pv 1) (pa_cons pe_int pa_nil))) pa_nil)) pa_nil))))
  (pss_one (ps_ret (pe_ix ix_list (pe_lst (pa_cons (pv 3) (pa_cons (pv 3) (pa_cons (pv 3) (pa_cons (pe_op op_sub (pv 1) pe_int) (pa_cons (pv 1) (pa_cons (pe_un un_neg pe_int) (pa_cons (pe_op op_sub (pv 1) pe_int) (pa_cons (pe_op op_pow pe_int pe_int) (pa_cons pe_bl (pa_cons pe_str pa_nil))))))))))) (pv 2) (fun _ _ => rfl)))))), ?_⟩
    walk_at "rd"
    refine ⟨p, c, ns, 10, rfl, hp, by decide, by decide, fun r1 H1 a1 b1 k1 p1 => ?_⟩
    walk_at "rd"
    refine ⟨by show 2 ≤ sizeLine; decide, fun L0 n0 => ?_⟩
    have s0 := Same.up (o := .lst [V.int (m : Int), V.int 1]) (Same.refl H1) n0
    walk_at "rd"
    refine ⟨L0, [(m : Int), 1], rfl, SqL.of upd_same, by show 0 < 2; decide, fun g gm gl => ?_⟩
    have g1 : 1 ≤ g := gl 1 (by simp)
    have g64 : g ≤ 64 := by
      simp only [List.mem_cons, List.not_mem_nil, or_false] at gm
      rcases gm with rfl | rfl <;> omega
    walk_at "rd"
    refine ⟨p, c, ns, g, rfl, p1.sameS s0, by omega, by omega, fun r2 H2 a2 b2 k2 p2 => ?_⟩
    have kk : Keep p H H2 := k1.trans ((Keep.same s0).trans k2)
    walk_at "rd"
    have all : ∀ (w : Int) (H' : Hp), DpAll K H' [V.int r2, V.int r2, V.int r2, V.int ((m : Int) - 1), V.int (m : Int), V.int (-1), V.int ((m : Int) - 2), V.int w, V.bl true, V.str "0"] [.int r2, .int r2, .int r2, .int ((m : Int) - 1), .int (m : Int), .int (-1), .int ((m : Int) - 2), .int w, .bool true, .str "0"] := fun w H' => .cons (.int _) (.cons (.int _) (.cons (.int _) (.cons (.int _) (.cons (.int _) (.cons (.int _) (.cons (.int _) (.cons (.int _) (.cons (.bl _) (.cons (.str _) .nil)))))))))
    refine ⟨by show 10 ≤ sizeLine; decide, fun L1 n1 => ?_⟩
    walk_at "rd"
    obtain ⟨j, rfl⟩ : ∃ j : Nat, r1 = (j : Int) := ⟨r1.toNat, by omega⟩
    have fin : ∀ (w : Int), rIxL K (.ref L1) (.int (j : Int)) (upd H2 L1 (.lst [V.int r2, V.int r2, V.int r2, V.int ((m : Int) - 1), V.int (m : Int), V.int (-1), V.int ((m : Int) - 2), V.int w, V.bl true, V.str "0"])) Q := fun w => by
      have hj : j < ([V.int r2, V.int r2, V.int r2, V.int ((m : Int) - 1), V.int (m : Int), V.int (-1), V.int ((m : Int) - 2), V.int w, V.bl true, V.str "0"] : List V).length := by show j < 10; omega
      obtain ⟨d, ed, dv⟩ := DpAll.at (all w (upd H2 L1 (.lst [V.int r2, V.int r2, V.int r2, V.int ((m : Int) - 1), V.int (m : Int), V.int (-1), V.int ((m : Int) - 2), V.int w, V.bl true, V.str "0"]))) (List.getElem?_eq_getElem hj)
      refine r_ixL (SqL.of upd_same) (atI_nat (List.getElem?_eq_getElem hj)) ?_
      refine k _ d _ (kk.new n1) (p2.sameS (Same.up (Same.refl _) n1)) dv ?_
      have md := List.mem_of_getElem? ed
      simp only [List.mem_cons, List.not_mem_nil, or_false] at md
      rcases md with rfl | rfl | rfl | rfl | rfl | rfl | rfl | rfl | rfl | rfl <;> constructor
    exact fin _
theorem sclIns : FnScope ["_law_value", "_law_low", "_law_high"] ["_law_value", "_law_low", "_law_high"] (defScope slIns) := ⟨rfl, rfl, rfl, by decide +kernel, rfl, by decide +kernel, by decide +kernel⟩
theorem ok_ins (F : Fun K "_law_inside" "_law_inside" slIns f fd) (T : Bt mg) : FnOk P w K mg base CX0 1 f fd ["_law_value", "_law_low", "_law_high"] (spBetD K) := by
  refine F.ok sclIns (fun vs H Q E h => ?_) (fun cdv A outer s H vs Q E hr h => ?_)
  · obtain ⟨v, d, lo, hi, rfl, _⟩ := h
    rfl
  · obtain ⟨v, d, lo, hi, rfl, hd, k⟩ := h
    refine ⟨_, (pss_cons (ps_if (PW.pt (pw_or (pt_not (pt_val (pe_callB call_isi (by rfl) T.isinstance (by decide +kernel) (pa_cons (pv 0) (pa_cons (pe_bltn (v := .ty "int") (by rfl) T.int (by decide +kernel) rfl) pa_nil))))) (pw_or1 (pt_val (pe_callB call_isi (by rfl) T.isinstance (by decide +kernel) (pa_cons (pv 0) (pa_cons (pe_bltn (v := .ty "bool") (by rfl) T.bool (by decide +kernel) rfl) pa_nil))))))) (pss_one (ps_ret pe_bl)) pss_nil)
  (pss_one (ps_ret (pe_and (pe_cmpR op_le (pv 1) (pv 0) (nomark _)) (pe_one (pe_cmpR op_le (pv 0) (pv 2) (nomark _))))))), ?_⟩
    walk_at "rd"
    refine r_isDI hd ?_
    walk_at "rd"
    by_cases b1 : isIB d = true
    · refine ifF (by rw [b1]; rfl) ?_
      walk_at "rd"
      refine r_isDB hd ?_
      walk_at "rd"
      by_cases b2 : isBD d = true
      · refine ifT b2 ?_
        walk_at "rd"
        rw [show betD lo hi d = false from by cases d <;> first | rfl | cases b2] at k
        exact k
      · refine ifF (Bool.eq_false_iff.mpr b2) ?_
        obtain ⟨i, rfl⟩ : ∃ i, d = .int i := by
          cases d with
          | int i => exact ⟨i, rfl⟩
          | bool b => exact absurd rfl b2
          | _ => cases b1
        obtain rfl := Dp.intV hd
        walk_at "rd"
        by_cases c : lo ≤ i
        · refine ifT (decide_eq_true c) ?_
          rw [betD, decide_eq_true c, Bool.true_and] at k
          walk_at "rd"
          exact k
        · refine ifF (decide_eq_false c) ?_
          rw [betD, decide_eq_false c, Bool.false_and] at k
          exact k
    · refine ifT (by rw [Bool.eq_false_iff.mpr b1]; rfl) ?_
      walk_at "rd"
      rw [show betD lo hi d = false from by cases d <;> first | rfl | exact absurd rfl b1] at k
      exact k
theorem sclLMv : FnScope ["_law_pairs", "_law_pair", "_law_place", "_law_left", "_law_one"] ["_law_pairs", "_law_pair", "_law_place"] (defScope slLMv) := ⟨rfl, rfl, rfl, by decide +kernel, rfl, by decide +kernel, by decide +kernel⟩
theorem ok_lMv (F : Fun K "_law_moved" "_law_moved" slLMv f fd) (T : Bt mg) : FnOk P w K mg base CX0 1 f fd ["_law_pairs", "_law_pair", "_law_place"] (spLMv K) := by
  refine F.ok sclLMv (fun vs H Q E h => ?_) (fun cdv A outer s H vs Q E hr h => ?_)
  · obtain ⟨p, a, zs, y, z, j, rfl, _⟩ := h
    rfl
  · obtain ⟨p, a, zs, y, z, n, rfl, L, py, m, nd, z64, hn, ⟨op, hop⟩, k⟩ := h
    obtain ⟨na, vs, ha, hv⟩ := id L
    have vl := hv.length
    have ol := outR_len nd m
    have hd : Dp K H y (prD z) := py.dp
    refine ⟨_, (pss_cons (ps_setLc (i := 3) (own := [("_law_one", 4)]) (g := gName 4) rfl sclLMv.nd rfl rfl (sw_true rfl rfl rfl (by decide +kernel)) (pi_list (pv 0)) (blkOk_by (own := [("_law_one", 4)]) (N := ["_law_pairs", "_law_pair", "_law_place", "_law_left", "_law_one"]) (sc := defScope slLMv) (by decide +kernel)) (fun _ _ _ _ _ => pg_name (i := 4) sclLMv.nd rfl (Or.inl rfl)) (fun _ _ _ _ _ => pts_one (pt_cmpR (r := rNeD K) (op_neD hr.units) (pv 4) (pv 1) (nomark _))) (fun _ _ _ _ _ => (pv 4)))
  (pss_one (ps_ret (pe_op op_cat (pe_op op_cat (pe_slice sl_list (pv 3) po_none (po_some (pv 2))) (pe_lst (pa_cons (pv 1) pa_nil))) (pe_slice sl_list (pv 3) (po_some (pv 2)) po_none))))), ?_⟩
    walk_at "rd"
    refine ⟨a, rfl, ⟨_, SqL.of ha⟩, fun D nD => lc_it walk_list (fun i H' => Same H H' ∧ ∃ us, H' D = some (.lst us) ∧ us.length ≤ i ∧ PrsAt p H us (outR (zs.take i) z)) ⟨Same.up (Same.refl H) nD, [], upd_same, Nat.le_refl _, .nil⟩ (fun i H' _ z => z.1.seq (SqL.of ha)) ?_ ?_⟩
    · rintro i u H1 H2 hi ⟨s1, us, hD, ul, hu⟩ ⟨rfl, eu⟩
      obtain ⟨zi, ezi, pu⟩ := hv.at eu
      have up : ∀ {o : HO}, Same H (upd H2 D o) := fun {o} b o' e' => by
        rw [upd_ne (fun z => by rw [z, nD] at e'; cases e')]
        exact s1 _ _ e'
      walk_at "rd"
      refine ⟨rfl, ?_⟩
      walk_at "rd"
      refine ⟨prD zi, prD z, Dp.later s1 pu.dp, Dp.later s1 hd, pr_shaped _, pr_shaped _, ?_⟩
      rw [pr_eqv, out_more ezi]
      walk_at "rd"
      by_cases c : zi = z
      · refine ifF (by rw [decide_eq_true c]; rfl) ?_
        rw [if_pos c, List.append_nil]
        exact ⟨s1, us, hD, by omega, hu⟩
      · refine ifT (by rw [decide_eq_false c]; rfl) ?_
        rw [if_neg c]
        walk_at "rd"
        exact ⟨us, hD, Nat.lt_of_le_of_lt (show us.length ≤ 64 by omega) (by decide), up, us ++ [u], upd_same, by rw [List.length_append]; show us.length + 1 ≤ i + 1; omega, hu.app (.cons pu .nil)⟩
    · rintro H1 ⟨s1, us, hD, ul, hu⟩
      rw [vl, List.take_length] at hu
      have ul := hu.length
      walk_at "rd"
      refine ⟨D, us, rfl, SqL.of hD, fun q1 nq1 => ?_⟩
      rw [cut_take (by omega)]
      have s2 := Same.up (o := .lst (us.take n)) (Same.refl H1) nq1
      walk_at "rd"
      refine ⟨by show 1 ≤ sizeLine; decide, fun q2 nq2 => ?_⟩
      have s3 := Same.up (o := .lst [y]) s2 nq2
      have n12 : q1 ≠ q2 := fun z => by rw [← z, upd_same] at nq2; cases nq2
      refine r_cat (xs := us.take n) (zs := [y]) (by rw [upd_ne n12, upd_same]) upd_same (by rw [List.length_take]; exact Nat.le_trans (by show _ + 1 ≤ 66; omega) (by decide)) fun q3 nq3 => ?_
      have s4 := Same.up (o := .lst (us.take n ++ [y])) s3 nq3
      walk_at "rd"
      refine ⟨D, us, rfl, SqL.of (s4 _ _ hD), fun q4 nq4 => ?_⟩
      rw [cut_drop (by omega)]
      have s5 := Same.up (o := .lst (us.drop n)) s4 nq4
      have n34 : q3 ≠ q4 := fun z => by rw [← z, upd_same] at nq4; cases nq4
      refine r_cat (xs := us.take n ++ [y]) (zs := us.drop n) (by rw [upd_ne n34, upd_same]) upd_same (by rw [List.length_append, List.length_take, List.length_drop]; exact Nat.le_trans (by show _ + 1 + _ ≤ 200; omega) (by decide)) fun q5 nq5 => ?_
      have s6 := s1.trans (Same.up (o := .lst (us.take n ++ [y] ++ us.drop n)) s5 nq5)
      have q5p : q5 ≠ p := fun z => by rw [z, s5 _ _ (s1 _ _ hop)] at nq5; cases nq5
      exact k q5 _ s6 ⟨q5p, _, upd_same, (((hu.take n).app (.cons py .nil)).app (hu.drop n)).keep (Keep.same s6)⟩
theorem sclIsT : FnScope ["_law_pairs", "_law_pair"] ["_law_pairs", "_law_pair"] (defScope slIsT) := ⟨rfl, rfl, rfl, by decide +kernel, rfl, by decide +kernel, by decide +kernel⟩
theorem ok_isT (F : Fun K "_law_is_there" "_law_is_there" slIsT f fd) (T : Bt mg) : FnOk P w K mg base CX0 1 f fd ["_law_pairs", "_law_pair"] (spIsT K) := by
  refine F.ok sclIsT (fun vs H Q E h => ?_) (fun cdv A outer s H vs Q E hr h => ?_)
  · obtain ⟨p, a, zs, y, d, rfl, _⟩ := h
    rfl
  · obtain ⟨p, a, zs, y, d, rfl, L, hd, pd, k⟩ := h
    refine ⟨_, (pss_cons (ps_if (PW.pt (pw_or (pt_not (pt_val (pe_callB call_isi (by rfl) T.isinstance (by decide +kernel) (pa_cons (pv 1) (pa_cons (pe_bltn (v := .ty "tuple") (by rfl) T.tuple (by decide +kernel) rfl) pa_nil))))) (pw_or (pt_cmpR op_ne (pe_callB cl_len (by rfl) T.len (by decide +kernel) (pa_cons (pv 1) pa_nil)) pe_int (nomark _)) (pw_or1 (pt_val (pe_callB call_isi (by rfl) T.isinstance (by decide +kernel) (pa_cons (pe_ix ix_tup (pv 1) pe_int (fun _ _ => rfl)) (pa_cons (pe_bltn (v := .ty "bool") (by rfl) T.bool (by decide +kernel) rfl) pa_nil)))))))) (pss_one (ps_ret pe_bl)) pss_nil)
  (pss_one (ps_ret (pe_cmpR (op_inP hr.units) (pv 1) (pv 0) (by rfl))))), ?_⟩
    have tu : ∀ {ds : List PyData}, d = .tuple ds → ∃ t vs, y = .ref t ∧ SqT K H t vs ∧ DpAll K H vs ds := fun e => by
      subst e
      exact Dp.tupAt hd
    walk_at "rd"
    refine r_isDT hd ?_
    walk_at "rd"
    rcases pd with ⟨z, rfl⟩ | rfl | rfl | rfl | rfl
    · obtain ⟨t, vs, rfl, ht, hv⟩ := tu rfl
      obtain ⟨v1, v2, rfl, h1, h2⟩ := all2 hv
      refine ifF rfl ?_
      walk_at "rd"
      refine r_lenT ht ?_
      walk_at "rd"
      refine r_ne rfl ?_
      walk_at "rd"
      refine ifF rfl ?_
      walk_at "rd"
      refine r_ixT ht (atI_nat (j := 0) rfl) ?_
      walk_at "rd"
      refine r_isDB h1 ?_
      walk_at "rd"
      refine ifF rfl ?_
      walk_at "rd"
      refine ⟨z, zs, hd, L.dp, ?_⟩
      rw [hasD_pr] at k
      exact k
    · obtain ⟨t, vs, rfl, ht, hv⟩ := tu rfl
      obtain ⟨v1, v2, rfl, h1, h2⟩ := all2 hv
      refine ifF rfl ?_
      walk_at "rd"
      refine r_lenT ht ?_
      walk_at "rd"
      refine r_ne rfl ?_
      walk_at "rd"
      refine ifF rfl ?_
      walk_at "rd"
      refine r_ixT ht (atI_nat (j := 0) rfl) ?_
      walk_at "rd"
      refine r_isDB h1 ?_
      walk_at "rd"
      refine ifT rfl ?_
      walk_at "rd"
      exact k
    · refine ifT rfl ?_
      walk_at "rd"
      exact k
    · refine ifT rfl ?_
      walk_at "rd"
      exact k
    · obtain ⟨t, vs, rfl, ht, hv⟩ := tu rfl
      have vl := DpAll.len hv
      refine ifF rfl ?_
      walk_at "rd"
      refine r_lenT ht ?_
      walk_at "rd"
      refine r_ne rfl ?_
      walk_at "rd"
      refine ifT (by rw [vl]; rfl) ?_
      walk_at "rd"
      exact k
theorem ok_isTN (F : Fun K "_law_is_there" "_law_is_there" slIsT f fd) (T : Bt mg) : FnOk P w K mg base CX0 1 f fd ["_law_pairs", "_law_pair"] spIsTN := by
  refine F.ok sclIsT (fun vs H Q E h => ?_) (fun cdv A outer s H vs Q E hr h => ?_)
  · obtain ⟨u, y, rfl, _⟩ := h
    rfl
  · obtain ⟨u, y, rfl, hd, k⟩ := h
    refine ⟨_, (pss_cons (ps_if (PW.pt (pw_or (pt_not (pt_val (pe_callB call_isi (by rfl) T.isinstance (by decide +kernel) (pa_cons (pv 1) (pa_cons (pe_bltn (v := .ty "tuple") (by rfl) T.tuple (by decide +kernel) rfl) pa_nil))))) (pw_or (pt_cmpR op_ne (pe_callB cl_len (by rfl) T.len (by decide +kernel) (pa_cons (pv 1) pa_nil)) pe_int (nomark _)) (pw_or1 (pt_val (pe_callB call_isi (by rfl) T.isinstance (by decide +kernel) (pa_cons (pe_ix ix_tup (pv 1) pe_int (fun _ _ => rfl)) (pa_cons (pe_bltn (v := .ty "bool") (by rfl) T.bool (by decide +kernel) rfl) pa_nil)))))))) (pss_one (ps_ret pe_bl)) pss_nil)
      pss_never), ?_⟩
    walk_at "rd"
    refine r_isi hd.ty (by decide +kernel : kitB "dict" "tuple" = some false) ?_
    walk_at "rd"
    exact k
theorem sclRnd : FnScope ["_law_order", "_law_pairs", "_law_k", "_law_once"] ["_law_order", "_law_pairs", "_law_k"] (defScope slRnd) := ⟨rfl, rfl, rfl, by decide +kernel, rfl, by decide +kernel, by decide +kernel⟩
theorem ok_rnd (F : Fun K "_law_round" "_law_round" slRnd f fd) (T : Bt mg) (M : OrP P w K mg base C CE CB CP) : FnOk P w K mg base CX0 12 f fd ["_law_order", "_law_pairs", "_law_k"] (spRnd C) := by
  obtain ⟨g1, d1, m1, o1, b1⟩ := M.ex
  obtain ⟨g2, d2, m2, o2, b2⟩ := M.mv
  obtain ⟨g3, d3, m3, o3, b3⟩ := M.eq
  refine F.ok sclRnd (fun vs H Q E h => ?_) (fun cdv A outer s H vs Q E hr h => ?_)
  · obtain ⟨p, x, dx, q, a, zs, j, rfl, _⟩ := h
    rfl
  · obtain ⟨p, x, dx, q, a, zs, j, rfl, X, L, g, hop, jl, k⟩ := h
    have hr1 := hr.mono (show 1 ≤ 11 by decide)
    have hr2 := hr.mono (show 2 ≤ 11 by decide)
    have hr10 := hr.mono (show 10 ≤ 11 by decide)
    refine ⟨_, (pss_cons (ps_set (i := 3) sclRnd.nd rfl (Or.inl rfl) (pe_meth (pv 0) M.O.cl m1 o1 hr10 b1 .nil passL (pa_cons (pv 2) pa_nil)))
  (pss_cons (ps_if (PW.pt (pw_or (pt_neOwn (E := fun _ => E0) ⟨g3, d3, _, m3, o3, b3⟩ M.ne M.O.hm hr2 (passN pass0) (pe_meth (pv 3) M.O.cl m1 o1 hr10 b1 .nil passL (pa_cons (pv 2) pa_nil)) (pv 0) (nomark _)) (pw_or1 (pt_cmpOwn (op := .Eq) (E := fun _ => E0) (fun _ _ => rfl) ⟨g3, d3, _, m3, o3, b3⟩ hr1 (passN pass0) (pv 3) (pv 0) (nomark _))))) (pss_one (ps_ret pe_bl)) pss_nil)
  (pss_one (ps_ret (pe_and (pe_cmpOwn (op := .Eq) (E := fun _ => E0) (fun _ _ => rfl) ⟨g3, d3, _, m3, o3, b3⟩ hr1 (passN pass0) (pv 3) (pe_meth (pv 0) M.O.cl m2 o2 hr10 b2 .nil passL (pa_cons (pe_ix ix_list (pv 1) (pv 2) (fun _ _ => rfl)) (pa_cons (pe_op op_add (pv 2) pe_int) pa_nil))) (nomark _)) (pe_one (pe_cmpOwn (op := .Eq) (E := fun _ => E0) (fun _ _ => rfl) ⟨g3, d3, _, m3, o3, b3⟩ hr1 (passN pass0) (pv 3) (pe_meth (pv 0) M.O.cl m2 o2 hr10 b2 .nil passL (pa_cons (pe_ix ix_list (pv 1) (pe_op op_add (pv 2) pe_int) (fun _ _ => rfl)) (pa_cons (pv 2) pa_nil))) (nomark _)))))))), ?_⟩
    have no1 : ∀ {m : Str} {v : V}, (m == "sequence") = false → List.lookup m [("sequence", v)] = none := fun h => one_no h
    have jl0 : j < zs.length := by omega
    have gx : Gp (exR zs j) := g.perm (exR_perm jl)
    have xl : j + 1 < (exR zs j).length := by rw [exR_len jl]; exact jl
    obtain ⟨na, vs, ha, hv⟩ := id L
    obtain ⟨x1, ex1, px1⟩ := hv.get (List.getElem?_eq_getElem jl0)
    obtain ⟨x2, ex2, px2⟩ := hv.get (List.getElem?_eq_getElem jl)
    have c1 : (j : Int) + 1 = ((j + 1 : Nat) : Int) := by omega
    walk_at "rd"
    refine ⟨x, dx, _, rfl, X.o, one_no (by decide +kernel), ?_⟩
    walk_at "rd"
    refine ⟨p, x, dx, q, zs, _, .int (j : Int), rfl, X, g, hop, .int _, fun j' y1 H1 ej jl' nw => ?_, fun b => absurd b (by rw [betD_yes (by omega) (by omega)]; decide)⟩
    obtain rfl : j = j' := by cases ej; rfl
    obtain ⟨s1, dy1, qy1, Y1⟩ := nw
    have hop1 : ∃ o, H1 p = some o := by obtain ⟨o, ho⟩ := hop; exact ⟨o, s1 _ _ ho⟩
    walk_at "rd"
    refine r_op2 ?_
    walk_at "rd"
    refine ⟨y1, dy1, _, rfl, Y1.o, one_no (by decide +kernel), ?_⟩
    walk_at "rd"
    refine ⟨p, y1, dy1, qy1, exR zs j, _, .int (j : Int), rfl, Y1, gx, hop1, .int _, fun j' y2 H2 ej jl' nw => ?_, fun b => absurd b (by rw [betD_yes (by omega) (by omega)]; decide)⟩
    obtain rfl : j = j' := by cases ej; rfl
    obtain ⟨s2, dy2, qy2, Y2⟩ := nw
    rw [exR_twice jl] at Y2
    have X2 := X.same (s1.trans s2)
    have Y12 := Y1.same s2
    walk_at "rd"
    refine r_ownNe Y2.o (.inl ⟨x, dx, _, rfl, X2.o⟩) ⟨p, y2, dy2, qy2, x, dx, q, zs, zs, rfl, Y2, X2, ?_⟩
    refine ⟨_, rfl, ?_⟩
    refine ⟨_, rfl, ifF (by show (!decide (zs = zs)) = false; rw [decide_eq_true rfl]; rfl) ?_⟩
    walk_at "rd"
    refine r_op2 ?_
    walk_at "rd"
    refine r_ownC Y12.o (.inl ⟨x, dx, _, rfl, X2.o⟩) ⟨p, y1, dy1, qy1, x, dx, q, exR zs j, zs, rfl, Y12, X2, ?_⟩
    refine ⟨_, rfl, ifF (decide_eq_false (exR_ne g.nd jl)) ?_⟩
    have s12 := s1.trans s2
    walk_at "rd"
    refine r_op2 ?_
    walk_at "rd"
    refine ⟨x, dx, _, rfl, X2.o, one_no (by decide +kernel), ?_⟩
    walk_at "rd"
    refine r_ixL (SqL.of (s12 _ _ ha)) (atI_nat ex1) ?_
    walk_at "rd"
    have hop2 : ∃ o, H2 p = some o := by obtain ⟨o, ho⟩ := hop1; exact ⟨o, s2 _ _ ho⟩
    have q1 := px1.keep (Keep.same s12)
    have q2 := px2.keep (Keep.same s12)
    refine .inl ⟨p, x, dx, q, zs, x1, _, prD zs[j], .int ((j : Int) + 1), rfl, X2, g, hop2, q1.dp, PD.deep (.inl ⟨_, rfl⟩), fun z e => by rw [← (show zs[j] = z from by rw [← prOf_pr zs[j], e, prOf_pr])]; exact q1, .int _, fun j' z y3 H3 ed m ee jl' nw => ?_, fun b => absurd b (by rw [hasD_pr, decide_eq_true (List.getElem_mem jl0)]; decide), fun _ b => absurd b (by rw [betD_yes (by omega) (by omega)]; decide)⟩
    obtain rfl : j + 1 = j' := by
      have := PyData.int.inj ee
      omega
    obtain rfl : zs[j] = z := by rw [← prOf_pr zs[j], ed, prOf_pr]
    obtain ⟨s3, dy3, qy3, Y3⟩ := nw
    rw [mvR_up g.nd jl (List.getElem?_eq_getElem jl0)] at Y3
    have Y13 := Y12.same s3
    have X3 := X2.same s3
    walk_at "rd"
    refine r_ownC Y13.o (.inl ⟨y3, dy3, _, rfl, Y3.o⟩) ⟨p, y1, dy1, qy1, y3, dy3, qy3, exR zs j, exR zs j, rfl, Y13, Y3, ?_⟩
    refine ⟨_, rfl, ifT (decide_eq_true rfl) ?_⟩
    walk_at "rd"
    refine r_op2 ?_
    walk_at "rd"
    refine ⟨x, dx, _, rfl, X3.o, one_no (by decide +kernel), ?_⟩
    walk_at "rd"
    rw [c1]
    refine r_ixL (SqL.of ((s12.trans s3) _ _ ha)) (atI_nat ex2) ?_
    walk_at "rd"
    have hop3 : ∃ o, H3 p = some o := by obtain ⟨o, ho⟩ := hop2; exact ⟨o, s3 _ _ ho⟩
    have q3 := q2.keep (Keep.same s3)
    refine .inl ⟨p, x, dx, q, zs, x2, _, prD zs[j + 1], .int (j : Int), rfl, X3, g, hop3, q3.dp, PD.deep (.inl ⟨_, rfl⟩), fun z e => by rw [← (show zs[j + 1] = z from by rw [← prOf_pr zs[j + 1], e, prOf_pr])]; exact q3, .int _, fun j' z y4 H4 ed m ee jl' nw => ?_, fun b => absurd b (by rw [hasD_pr, decide_eq_true (List.getElem_mem jl)]; decide), fun _ b => absurd b (by rw [betD_yes (by omega) (by omega)]; decide)⟩
    obtain rfl : j = j' := by
      have := PyData.int.inj ee
      omega
    obtain rfl : zs[j + 1] = z := by rw [← prOf_pr zs[j + 1], ed, prOf_pr]
    obtain ⟨s4, dy4, qy4, Y4⟩ := nw
    rw [mvR_down g.nd jl (List.getElem?_eq_getElem jl)] at Y4
    have Y14 := Y13.same s4
    walk_at "rd"
    refine r_ownC Y14.o (.inl ⟨y4, dy4, _, rfl, Y4.o⟩) ⟨p, y1, dy1, qy1, y4, dy4, qy4, exR zs j, exR zs j, rfl, Y14, Y4, ?_⟩
    rw [show ((fun zs ws : List Pr => decide (zs = ws)) (exR zs j) (exR zs j)) = true from decide_eq_true rfl]
    exact k _ ((s12.trans s3).trans s4)
end
end Pk
set_option Elab.async false
set_option linter.all false
set_option maxRecDepth 100000
set_option maxHeartbeats 4000000
namespace Pk
open PySem L2
local macro_rules | `(tactic| walk_at "rd") => `(tactic| repeat (first
  | with_reducible refine r_seq ?_ | with_reducible refine r_nxt ?_ | with_reducible refine r_asg ?_ | with_reducible refine r_to ?_ | with_reducible refine r_ret ?_ | with_reducible refine r_for ?_ | with_reducible refine r_lc ?_ | with_reducible refine r_lc2 ?_ | with_reducible refine r_rng1 ?_ | with_reducible refine r_list ?_ | with_reducible refine r_tupI ?_ | with_reducible refine r_drop ?_ | with_reducible refine r_ifs ?_
  | with_reducible refine r_op ?_ | with_reducible refine r_c ?_ | with_reducible refine r_var rfl ?_ | with_reducible refine r_var (by assumption) ?_ | with_reducible refine r_I0 ?_ | with_reducible refine r_un ?_ | with_reducible refine r_U ?_ | with_reducible refine r_make ?_ | with_reducible refine r_makeS ?_ | with_reducible refine r_ifE ?_ | with_reducible refine r_cm ?_ | with_reducible refine r_mkV rfl ?_ | with_reducible refine r_sub ?_
  | with_reducible refine r_nil ?_ | with_reducible refine r_cons ?_ | with_reducible refine r_cb ?_ | with_reducible refine r_sl ?_ | with_reducible refine r_noP ?_ | with_reducible refine r_part ?_ | with_reducible refine r_isI ?_ | with_reducible refine r_lst ?_ | with_reducible refine r_tup ?_ | with_reducible refine r_call ?_ | with_reducible refine r_callS ?_ | with_reducible refine r_sFldU ?_ | with_reducible refine r_chain ?_ | with_reducible refine r_enum ?_ | with_reducible refine r_zip ?_ | with_reducible refine r_rng3 ?_ | with_reducible refine r_gtup ?_ | with_reducible refine r_methU ?_
  | with_reducible refine r_test ?_ | with_reducible refine r_B ?_ | with_reducible refine r_and ?_ | with_reducible refine r_or ?_ | with_reducible refine r_not ?_ | with_reducible refine r_andV ?_ | with_reducible refine r_orV ?_ | with_reducible refine r_notV ?_ | with_reducible refine r_bl ?_ | with_reducible refine r_yes ?_ | with_reducible refine r_int ?_ | with_reducible refine r_is0 ?_ | with_reducible refine r_is1 ?_ | with_reducible refine iteT ?_ | with_reducible refine iteF ?_ | with_reducible refine ite_nF ?_ | with_reducible refine ite_nT ?_
  | with_reducible refine r_mod (by decide) ?_ | with_reducible refine r_div (by decide) (by decide) ?_ | with_reducible refine r_mulR (by decide) (by decide) ?_ | with_reducible refine r_mulL (by decide) (by decide) ?_ | with_reducible refine r_pow (by decide) (by decide) (by decide) ?_))
/-! ### every index -/
theorem deep_pr (z : Pr) {n : Nat} : Deep (n + 1) (prD z) := .tup (fun d h => by
  simp only [List.mem_cons, List.not_mem_nil, or_false] at h
  rcases h with rfl | rfl
  · exact .int _
  · exact .int _) (by show 2 ≤ 1000; decide)
theorem deep_prs {zs : List Pr} {n : Nat} (h : zs.length ≤ 1000) : Deep (n + 2) (prsD zs) := .lst (fun d hd => by
  obtain ⟨z, _, rfl⟩ := List.mem_map.mp hd
  exact deep_pr z) (by rw [List.length_map]; exact h)
theorem deep_tup {x y : PyData} {n : Nat} (h : Deep n x) (g : Deep n y) : Deep (n + 1) (.tuple [x, y]) := .tup (fun e m => by
  simp only [List.mem_cons, List.not_mem_nil, or_false] at m
  rcases m with rfl | rfl
  · exact h
  · exact g) (by show 2 ≤ 1000; decide)
theorem deep_asI (zs : List Pr) (d : PyData) : Deep 3 (asI zs d) := by
  unfold asI tldD bndD
  split
  · exact deep_tup (.str _) (deep_pr _)
  · exact deep_tup (.str _) (.str _)
theorem exR_short {zs : List Pr} (h : zs.length ≤ 64) (k : Nat) : (exR zs k).length ≤ 1000 := by
  unfold exR
  simp only [List.length_append, List.length_take, List.length_drop, List.length_cons, List.length_nil]
  omega
theorem mvR_short {zs : List Pr} (h : zs.length ≤ 64) (z : Pr) (k : Nat) : (mvR zs z k).length ≤ 1000 := by
  unfold mvR
  have : (outR zs z).length ≤ zs.length := List.length_filter_le _ _
  simp only [List.length_append, List.length_take, List.length_drop, List.length_cons, List.length_nil]
  omega
theorem deep_asE {zs : List Pr} (h : zs.length ≤ 64) (d : PyData) : Deep 3 (asE zs d) := by
  unfold asE tldD bndD
  split
  · exact deep_tup (.str _) (deep_prs (exR_short h _))
  · exact deep_tup (.str _) (.str _)
theorem deep_asM {zs : List Pr} (h : zs.length ≤ 64) {d : PyData} (hd : Deep 1 d) (e : PyData) : Deep 3 (asM zs d e) := by
  unfold asM tldD bndD
  split
  · split
    · exact deep_tup (.str _) (deep_prs (mvR_short h _ _))
    · exact deep_tup (.str _) (.str _)
  · exact deep_tup (.str _) (hd.mono (by decide))
def spAsk (K : PySem.W.Frag) (C : Addr) : Sp := spOr (spAsI K C) (spOr (spAsE K C) (spOr (spAsP K C) (spOr (spAsPN K C) (spOr (spAsM K C) (spAsMN K C)))))
def spIxs (K : PySem.W.Frag) (C : Addr) : Sp := fun vs H Q _ => ∃ (p x dx q a : Addr) (zs : List Pr) (v : V) (d : PyData), vs = [.ref x, .ref a, v] ∧ OrX p C H x dx q zs ∧ PL p H a zs ∧ Gp zs ∧ (∃ o, H p = some o) ∧ Dp K H v d ∧ ∀ H' : Hp, Same H H' → Q (.bl true) H'
abbrev slIxs : Stmt := top 28
section
variable {P : Program} {w : World} {K : PySem.W.Frag} {mg : Str → Option Value} {base : Heap} {C CE CB CP f : Addr} {fd : FuncData}
theorem sclIxs : FnScope ["_law_order", "_law_pairs", "_law_k", "_law_due"] ["_law_order", "_law_pairs", "_law_k"] (defScope slIxs) := ⟨rfl, rfl, rfl, by decide +kernel, rfl, by decide +kernel, by decide +kernel⟩
theorem ok_ixs (F : Fun K "_law_indexes" "_law_indexes" slIxs f fd) (T : Bt mg) (DI : Df P w K mg base CX0 "_law_inside" 1 ["_law_value", "_law_low", "_law_high"] (spBetD K)) (DS : Df P w K mg base CX0 "_law_same" 4 ["_law_actual", "_law_due"] (spOr (spSame K 3) (spSameT K))) (DA : Df P w K mg base CX0 "_law_asked" 12 ["_law_order", "_law_word", "_law_one", "_law_two"] (spAsk K C)) (DR : Df P w K mg base CX0 "_law_round" 12 ["_law_order", "_law_pairs", "_law_k"] (spRnd C)) :
    FnOk P w K mg base CX0 13 f fd ["_law_order", "_law_pairs", "_law_k"] (spIxs K C) := by
  refine F.ok sclIxs (fun vs H Q E h => ?_) (fun cdv A outer s H vs Q E hr h => ?_)
  · obtain ⟨p, x, dx, q, a, zs, v, d, rfl, _⟩ := h
    rfl
  · obtain ⟨p, x, dx, q, a, zs, v, d, rfl, X, L, g, hop, hd, k⟩ := h
    refine ⟨_, (pss_cons (ps_set (i := 3) sclIxs.nd rfl (Or.inl rfl) (pe_tup (pa_cons pe_str (pa_cons pe_str pa_nil))))
  (C8.pss_cut (ps_if (pt_val (pe_df DI hr (by decide) (pa_cons (pv 2) (pa_cons pe_int (pa_cons (pe_op op_sub (pe_callB cl_len (by rfl) T.len (by decide +kernel) (pa_cons (pv 1) pa_nil)) pe_int) pa_nil))))) (pss_one (ps_set (i := 3) sclIxs.nd rfl (Or.inl rfl) (pe_tup (pa_cons pe_str (pa_cons (pe_ix ix_list (pv 1) (pv 2) (fun _ _ => rfl)) pa_nil))))) pss_nil)
  (pss_cons (ps_if (pt_not (pt_val (pe_df DS hr (by decide) (pa_cons (pe_df DA hr (by decide) (pa_cons (pv 0) (pa_cons pe_str (pa_cons (pv 2) (pa_cons pe_int pa_nil))))) (pa_cons (pv 3) pa_nil))))) (pss_one (ps_ret pe_bl)) pss_nil)
  (pss_cons (ps_set (i := 3) sclIxs.nd rfl (Or.inl rfl) (pe_tup (pa_cons pe_str (pa_cons pe_str pa_nil))))
  (C8.pss_cut (ps_if (pt_val (pe_df DI hr (by decide) (pa_cons (pv 2) (pa_cons pe_int (pa_cons (pe_op op_sub (pe_callB cl_len (by rfl) T.len (by decide +kernel) (pa_cons (pv 1) pa_nil)) pe_int) pa_nil))))) (pss_cons (ps_set (i := 3) sclIxs.nd rfl (Or.inl rfl) (pe_tup (pa_cons pe_str (pa_cons (pe_op op_cat (pe_op op_cat (pe_slice sl_list (pv 1) po_none (po_some (pv 2))) (pe_lst (pa_cons (pe_ix ix_list (pv 1) (pe_op op_add (pv 2) pe_int) (fun _ _ => rfl)) (pa_cons (pe_ix ix_list (pv 1) (pv 2) (fun _ _ => rfl)) pa_nil)))) (pe_slice sl_list (pv 1) (po_some (pe_op op_add (pv 2) pe_int)) po_none)) pa_nil))))
  (pss_one (ps_if (pt_not (pt_val (pe_df DR hr (by decide) (pa_cons (pv 0) (pa_cons (pv 1) (pa_cons (pv 2) pa_nil)))))) (pss_one (ps_ret pe_bl)) pss_nil))) pss_nil)
  (pss_one (ps_ret (pe_df DS hr (by decide) (pa_cons (pe_df DA hr (by decide) (pa_cons (pv 0) (pa_cons pe_str (pa_cons (pv 2) (pa_cons pe_int pa_nil))))) (pa_cons (pv 3) pa_nil)))))))))), ?_⟩
    have g64 := g.len
    obtain ⟨na, vs, ha, hv⟩ := id L
    have vl := hv.length
    walk_at "rd"
    refine ⟨by show 2 ≤ sizeLine; decide, fun t1 n1 => ?_⟩
    have s1 := Same.up (o := .tup [V.str "bound", V.str "index"]) (Same.refl H) n1
    have dt1 : Dp K (upd H t1 (.tup [V.str "bound", V.str "index"])) (.ref t1) (bndD "index") := bnd_dp
    obtain ⟨H1, eH1⟩ : ∃ H1, H1 = upd H t1 (.tup [V.str "bound", V.str "index"]) := ⟨_, rfl⟩
    rw [← eH1] at s1 dt1 ⊢
    walk_at "rd"
    refine r_cut (fun σ' H' => ∃ due, σ' = [some (.ref x), some (.ref a), some v, some due] ∧ Same H H' ∧ Dp K H' due (asI zs d)) ?_ ?_
    · walk_at "rd"
      refine r_lenL (SqL.of (s1 _ _ ha)) ?_
      rw [vl]
      walk_at "rd"
      refine ⟨v, d, 0, (zs.length : Int) - 1, rfl, Dp.later s1 hd, ?_⟩
      walk_at "rd"
      by_cases b : betD 0 ((zs.length : Int) - 1) d = true
      · refine ifT b ?_
        obtain ⟨n, rfl, i0, i1⟩ := betD_nat (by decide) b
        obtain rfl := Dp.intV hd
        have hn : n < zs.length := by omega
        obtain ⟨u, eu, pu⟩ := hv.get (List.getElem?_eq_getElem hn)
        walk_at "rd"
        refine r_ixL (SqL.of (s1 _ _ ha)) (atI_nat eu) ?_
        walk_at "rd"
        refine ⟨by show 2 ≤ sizeLine; decide, fun t nt => ⟨_, rfl, Same.up s1 nt, ?_⟩⟩
        rw [asI, if_pos b, show zs.getD (idx (.int (n : Int))) (0, 0) = zs[n] from by
          show zs.getD ((n : Int)).toNat (0, 0) = _
          rw [Int.toNat_natCast, getD_at hn]]
        exact tld_dp nt (Dp.later s1 pu.dp)
      · refine ifF (Bool.eq_false_iff.mpr b) ?_
        refine ⟨_, rfl, s1, ?_⟩
        rw [asI, if_neg b]
        exact dt1
    · rintro σ' H2 ⟨due, rfl, s2, hdue⟩
      walk_at "rd"
      refine .inl ⟨p, x, dx, q, zs, v, .int 0, d, rfl, X.same s2, Dp.later s2 hd, fun r H3 s3 hr3 => ?_⟩
      walk_at "rd"
      refine .inl ⟨r, due, asI zs d, rfl, hr3, Dp.later s3 hdue, deep_asI zs d, ?_⟩
      have s23 := s2.trans s3
      walk_at "rd"
      refine ⟨by show 2 ≤ sizeLine; decide, fun t4 n4 => ?_⟩
      have s4 := s23.trans (Same.up (o := .tup [V.str "bound", V.str "index"]) (Same.refl H3) n4)
      have dt4 : Dp K (upd H3 t4 (.tup [V.str "bound", V.str "index"])) (.ref t4) (bndD "index") := bnd_dp
      obtain ⟨H4, eH4⟩ : ∃ H4, H4 = upd H3 t4 (.tup [V.str "bound", V.str "index"]) := ⟨_, rfl⟩
      rw [← eH4] at s4 dt4 ⊢
      walk_at "rd"
      refine r_cut (fun σ' H' => ∃ due, σ' = [some (.ref x), some (.ref a), some v, some due] ∧ Same H H' ∧ Dp K H' due (asE zs d)) ?_ ?_
      · walk_at "rd"
        refine r_lenL (SqL.of (s4 _ _ ha)) ?_
        rw [vl]
        walk_at "rd"
        refine ⟨v, d, 0, (zs.length : Int) - 2, rfl, Dp.later s4 hd, ?_⟩
        walk_at "rd"
        by_cases b : betD 0 ((zs.length : Int) - 2) d = true
        · refine ifT b ?_
          obtain ⟨n, rfl, i0, i1⟩ := betD_nat (by decide) b
          obtain rfl := Dp.intV hd
          have i1 : n < zs.length := by omega
          have i2 : n + 1 < zs.length := by omega
          obtain ⟨x1, ex1, px1⟩ := hv.get (List.getElem?_eq_getElem i1)
          obtain ⟨x2, ex2, px2⟩ := hv.get (List.getElem?_eq_getElem i2)
          have c1 : (n : Int) + 1 = ((n + 1 : Nat) : Int) := by omega
          have c2 : (n : Int) + 2 = ((n + 2 : Nat) : Int) := by omega
          walk_at "rd"
          refine ⟨a, vs, rfl, SqL.of (s4 _ _ ha), fun q1 nq1 => ?_⟩
          rw [cut_take (by omega)]
          have u1 := Same.up (o := .lst (vs.take n)) s4 nq1
          walk_at "rd"
          rw [c1]
          refine r_ixL (SqL.of (u1 _ _ ha)) (atI_nat ex2) ?_
          walk_at "rd"
          refine r_ixL (SqL.of (u1 _ _ ha)) (atI_nat ex1) ?_
          walk_at "rd"
          refine ⟨by show 2 ≤ sizeLine; decide, fun q2 nq2 => ?_⟩
          have u2 := Same.up (o := .lst [x2, x1]) u1 nq2
          have n12 : q1 ≠ q2 := fun z => by rw [← z, upd_same] at nq2; cases nq2
          refine r_cat (xs := vs.take n) (zs := [x2, x1]) (by rw [upd_ne n12, upd_same]) upd_same (by rw [List.length_take]; exact Nat.le_trans (by show _ + 2 ≤ 66; omega) (by decide)) fun q3 nq3 => ?_
          have u3 := Same.up (o := .lst (vs.take n ++ [x2, x1])) u2 nq3
          walk_at "rd"
          rw [c2]
          refine ⟨a, vs, rfl, SqL.of (u3 _ _ ha), fun q4 nq4 => ?_⟩
          rw [cut_drop (by omega)]
          have u4 := Same.up (o := .lst (vs.drop (n + 2))) u3 nq4
          have n34 : q3 ≠ q4 := fun z => by rw [← z, upd_same] at nq4; cases nq4
          refine r_cat (xs := vs.take n ++ [x2, x1]) (zs := vs.drop (n + 2)) (by rw [upd_ne n34, upd_same]) upd_same (by rw [List.length_append, List.length_take, List.length_drop]; exact Nat.le_trans (by show _ + 2 + _ ≤ 200; omega) (by decide)) fun q5 nq5 => ?_
          have u5 := Same.up (o := .lst (vs.take n ++ [x2, x1] ++ vs.drop (n + 2))) u4 nq5
          have ee : exR zs n = zs.take n ++ [zs[n + 1], zs[n]] ++ zs.drop (n + 2) := by rw [exR, getD_at i1, getD_at i2]
          have pl := (((hv.take n).app (.cons px2 (.cons px1 .nil))).app (hv.drop (n + 2))).keep (Keep.same u5)
          rw [← ee] at pl
          have dp5 := Dp.lst (SqL.of (K := K) (upd_same (o := .lst (vs.take n ++ [x2, x1] ++ vs.drop (n + 2))) (a := q5))) pl.dp
          walk_at "rd"
          refine ⟨by show 2 ≤ sizeLine; decide, fun t6 n6 => ?_⟩
          have u6 := u5.trans (Same.up (o := .tup [V.str "told", V.ref q5]) (Same.refl _) n6)
          have dt := tld_dp n6 dp5
          obtain ⟨o, ho⟩ := hop
          walk_at "rd"
          refine ⟨p, x, dx, q, a, zs, n, rfl, X.same u6, L.same u6, g, ⟨o, u6 _ _ ho⟩, i2, fun H7 s7 => ?_⟩
          walk_at "rd"
          refine ⟨_, rfl, u6.trans s7, ?_⟩
          rw [asE, if_pos b]
          exact Dp.later s7 dt
        · refine ifF (Bool.eq_false_iff.mpr b) ?_
          refine ⟨_, rfl, s4, ?_⟩
          rw [asE, if_neg b]
          exact dt4
      · rintro σ' H5 ⟨due, rfl, s5, hdue⟩
        obtain ⟨o, ho⟩ := hop
        walk_at "rd"
        refine .inr (.inl ⟨p, x, dx, q, zs, v, .int 0, d, rfl, X.same s5, g, ⟨o, s5 _ _ ho⟩, Dp.later s5 hd, fun r H6 s6 hr6 => ?_⟩)
        walk_at "rd"
        exact .inl ⟨r, due, asE zs d, rfl, hr6, Dp.later s6 hdue, deep_asE g64 d, k _ (s5.trans s6)⟩
end
end Pk
set_option Elab.async false
set_option linter.all false
set_option maxRecDepth 100000
set_option maxHeartbeats 4000000
namespace Pk
open PySem L2
local macro_rules | `(tactic| walk_at "rd") => `(tactic| repeat (first
  | with_reducible refine r_seq ?_ | with_reducible refine r_nxt ?_ | with_reducible refine r_asg ?_ | with_reducible refine r_to ?_ | with_reducible refine r_ret ?_ | with_reducible refine r_for ?_ | with_reducible refine r_lc ?_ | with_reducible refine r_lc2 ?_ | with_reducible refine r_rng1 ?_ | with_reducible refine r_list ?_ | with_reducible refine r_tupI ?_ | with_reducible refine r_drop ?_ | with_reducible refine r_ifs ?_
  | with_reducible refine r_op ?_ | with_reducible refine r_c ?_ | with_reducible refine r_var rfl ?_ | with_reducible refine r_var (by assumption) ?_ | with_reducible refine r_I0 ?_ | with_reducible refine r_un ?_ | with_reducible refine r_U ?_ | with_reducible refine r_make ?_ | with_reducible refine r_makeS ?_ | with_reducible refine r_ifE ?_ | with_reducible refine r_cm ?_ | with_reducible refine r_mkV rfl ?_ | with_reducible refine r_sub ?_
  | with_reducible refine r_nil ?_ | with_reducible refine r_cons ?_ | with_reducible refine r_cb ?_ | with_reducible refine r_sl ?_ | with_reducible refine r_noP ?_ | with_reducible refine r_part ?_ | with_reducible refine r_isI ?_ | with_reducible refine r_lst ?_ | with_reducible refine r_tup ?_ | with_reducible refine r_call ?_ | with_reducible refine r_callS ?_ | with_reducible refine r_sFldU ?_ | with_reducible refine r_chain ?_ | with_reducible refine r_enum ?_ | with_reducible refine r_zip ?_ | with_reducible refine r_rng3 ?_ | with_reducible refine r_gtup ?_ | with_reducible refine r_methU ?_
  | with_reducible refine r_test ?_ | with_reducible refine r_B ?_ | with_reducible refine r_and ?_ | with_reducible refine r_or ?_ | with_reducible refine r_not ?_ | with_reducible refine r_andV ?_ | with_reducible refine r_orV ?_ | with_reducible refine r_notV ?_ | with_reducible refine r_bl ?_ | with_reducible refine r_yes ?_ | with_reducible refine r_int ?_ | with_reducible refine r_is0 ?_ | with_reducible refine r_is1 ?_ | with_reducible refine iteT ?_ | with_reducible refine iteF ?_ | with_reducible refine ite_nF ?_ | with_reducible refine ite_nT ?_
  | with_reducible refine r_mod (by decide) ?_ | with_reducible refine r_div (by decide) (by decide) ?_ | with_reducible refine r_mulR (by decide) (by decide) ?_ | with_reducible refine r_mulL (by decide) (by decide) ?_ | with_reducible refine r_pow (by decide) (by decide) (by decide) ?_))
def spShuf : Sp := fun vs H Q _ => ∃ (p c a : Addr) (ns : List Int) (zs : List Pr), vs = [.ref p, .ref a] ∧ PoolAt H p c ns ∧ PL p H a zs ∧ zs.length ≤ 64 ∧
  ∀ (b : Addr) (ys : List Pr) (H' : Hp), Keep p H H' → PoolAt H' p c ns → PL p H' b ys → ys.Perm zs → Q (.ref b) H'
abbrev slShuf : Stmt := top 21
section
variable {P : Program} {w : World} {K : PySem.W.Frag} {mg : Str → Option Value} {base : Heap} {C f : Addr} {fd : FuncData}
theorem sclShuf : FnScope ["_law_pool_here", "_law_things", "_law_mixed_here", "_law_k", "_law_other", "_law_held"] ["_law_pool_here", "_law_things"] (defScope slShuf) := ⟨rfl, rfl, rfl, by decide +kernel, rfl, by decide +kernel, by decide +kernel⟩
theorem ok_shuf (F : Fun K "_law_shuffled" "_law_shuffled" slShuf f fd) (T : Bt mg) (DD : Df P w K mg base CX0 "_law_draw" 2 ["_law_pool_here", "_law_size"] spDraw) : FnOk P w K mg base CX0 4 f fd ["_law_pool_here", "_law_things"] spShuf := by
  refine F.ok sclShuf (fun vs H Q E h => ?_) (fun cdv A outer s H vs Q E hr h => ?_)
  · obtain ⟨p, c, a, ns, zs, rfl, _⟩ := h
    rfl
  · obtain ⟨p, c, a, ns, zs, rfl, hp, ⟨na, vs, ha, hv⟩, h64, k⟩ := h
    refine ⟨_, (pss_cons (ps_set (i := 2) sclShuf.nd rfl (Or.inl rfl) (pe_callTy cl_lst (by rfl) T.list (by decide +kernel) (pa_cons (pv 1) pa_nil)))
  (pss_cons (ps_for PassesOwn.never rfl (pi_range3 rfl T.range (pa_cons (pe_op op_sub (pe_callB cl_len (by rfl) T.len PySem.boot_len (pa_cons (pv 2) pa_nil)) pe_int) (pa_cons pe_int (pa_cons (pe_un un_neg pe_int) pa_nil)))) (pg_name (i := 3) sclShuf.nd rfl (Or.inl rfl)) (pss_cons (ps_set (i := 4) sclShuf.nd rfl (Or.inl rfl) (pe_df DD hr (by decide) (pa_cons (pv 0) (pa_cons (pe_op op_add (pv 3) pe_int) pa_nil))))
  (pss_cons (ps_set (i := 5) sclShuf.nd rfl (Or.inl rfl) (pe_ix ix_list (pv 2) (pv 3) (fun _ _ => rfl)))
  (pss_cons (ps_asg (pe_ix ix_list (pv 2) (pv 4) (fun _ _ => rfl)) (pg_sub (pv 2) (pv 3) set_list))
  (pss_one (ps_asg (pv 5) (pg_sub (pv 2) (pv 4) set_list)))))))
  (pss_one (ps_ret (pv 2))))), ?_⟩
    walk_at "rd"
    refine r_lstOf (SqL.of ha) fun D nD => ?_
    have pD : D ≠ p := hp.apart nD
    have cD : D ≠ c := hp.apartC nD
    have hl := hv.length
    walk_at "rd"
    refine r_lenL (SqL.of upd_same) ?_
    walk_at "rd"
    refine ⟨(vs.length : Int) - 1, 0, -1, ((vs.length : Int) - 1 - 0).toNat, rfl, RgC.neg (by omega) (by omega) (by omega) (by omega), for_it walk_rangeC (fun i σ H' => ∃ u v w, σ = [some (.ref p), some (.ref a), some (.ref D), u, v, w] ∧ Keep p H H' ∧ PoolAt H' p c ns ∧ ∃ ys, PL p H' D ys ∧ ys.Perm zs)
      ⟨_, _, _, rfl, Keep.same (Same.up (Same.refl H) nD), hp.new nD, zs, ⟨pD, vs, upd_same, hv.keep (Keep.same (Same.up (Same.refl H) nD))⟩, List.Perm.refl zs⟩ (fun _ _ _ _ _ => trivial) ?_ ?_⟩
    · rintro i x σ H1 H2 hi ⟨u, v, w', rfl, kp, pl, ys, ⟨-, us, hD, hu⟩, pm⟩ ⟨rfl, rfl⟩
      have yl : ys.length = zs.length := pm.length_eq
      have ul := hu.length
      obtain ⟨j, ej, hj⟩ : ∃ j : Nat, (vs.length : Int) - 1 + (i : Int) * -1 = (j : Int) ∧ j < us.length := ⟨((vs.length : Int) - 1 + (i : Int) * -1).toNat, by omega, by omega⟩
      simp only [ej]
      walk_at "rd"
      refine ⟨p, c, ns, (j : Int) + 1, rfl, pl, by omega, by omega, fun o H3 o0 o1 k3 p3 => ?_⟩
      obtain ⟨q, rfl⟩ : ∃ q : Nat, o = (q : Int) := ⟨o.toNat, by omega⟩
      have hq : q < us.length := by omega
      have h3 := k3 _ _ pD hD
      walk_at "rd"
      refine r_ixL (SqL.of h3) (atI_nat (List.getElem?_eq_getElem hj)) ?_
      walk_at "rd"
      refine r_ixL (SqL.of h3) (atI_nat (List.getElem?_eq_getElem hq)) ?_
      walk_at "rd"
      refine r_setL h3 (ixN_nat hj) ?_
      walk_at "rd"
      refine r_setL upd_same (ixN_nat (by rw [List.length_set]; exact hq)) ?_
      have jy : j < ys.length := by omega
      have qy : q < ys.length := by omega
      obtain ⟨zj, ezj, pzj⟩ := hu.at (List.getElem?_eq_getElem hj)
      obtain ⟨zq, ezq, pzq⟩ := hu.at (List.getElem?_eq_getElem hq)
      have kD : ∀ t xs, H2 t = some (.tup xs) → t ≠ p → (upd (upd H3 D (.lst (us.set j us[q]))) D (.lst ((us.set j us[q]).set q us[j]))) t = some (.tup xs) := fun t xs e n => by
        have nt : t ≠ D := fun z => by rw [z, hD] at e; cases e
        rw [upd_ne nt, upd_ne nt]
        exact k3 _ _ n e
      have pat : ∀ {v : V} {z : Pr}, PrAt p H2 v z → PrAt p (upd (upd H3 D (.lst (us.set j us[q]))) D (.lst ((us.set j us[q]).set q us[j]))) v z := fun ⟨t, e, n, h⟩ => ⟨t, e, n, kD _ _ h n⟩
      have all : PrsAt p (upd (upd H3 D (.lst (us.set j us[q]))) D (.lst ((us.set j us[q]).set q us[j]))) us ys := hu.mono2 fun t xs n e => kD t xs e n
      refine ⟨_, _, _, rfl, fun b o' nb e => ?_, (p3.off pD cD).off pD cD, (ys.set j ys[q]).set q ys[j], ⟨pD, _, upd_same, (all.set ?_ j).set ?_ q⟩, (List.set_set_perm jy qy).trans pm⟩
      · have nb2 : b ≠ D := fun z => by rw [z, nD] at e; cases e
        rw [upd_ne nb2, upd_ne nb2]
        exact k3 _ _ nb (kp _ _ nb e)
      · rw [List.getElem?_eq_getElem qy] at ezq
        cases (Option.some.inj ezq)
        exact pat pzq
      · rw [List.getElem?_eq_getElem jy] at ezj
        cases (Option.some.inj ezj)
        exact pat pzj
    · rintro σ H1 ⟨u, v, w', rfl, kp, pl, ys, hy, pm⟩
      walk_at "rd"
      exact k D ys H1 kp pl hy pm
end
/-- all pairs of the greatest table -/
def ev : List Pr := (List.range 64).map fun k => (((k : Nat) : Int) / 8, (k : Int) - (k : Int) / 8 * 8)
theorem ev_good : Gp ev := ⟨by decide +kernel, (by decide +kernel : ∀ z ∈ ev, 0 ≤ z.1 ∧ z.1 < 8 ∧ 0 ≤ z.2 ∧ z.2 < 8), by decide +kernel⟩
theorem ev_len : ev.length = 64 := by decide +kernel
theorem ev_at {i : Nat} (h : i < 64) : ev[i]? = some ((i : Int) / 8, (i : Int) - (i : Int) / 8 * 8) := by
  simp [ev, h]
theorem take_more {zs : List Pr} {i : Nat} {z : Pr} (h : zs[i]? = some z) : zs.take (i + 1) = zs.take i ++ [z] := by
  rw [List.take_add_one, h]
  rfl
theorem OrX.put {p C : Addr} {H : Hp} {x dx q D : Addr} {zs : List Pr} {ws us : List V} (X : OrX p C H x dx q zs) (hD : H D = some (.lst ws)) (nq : q ≠ D) : OrX p C (upd H D (.lst us)) x dx q zs := by
  obtain ⟨ne, o, na, vs, ha, hv⟩ := X
  have n1 : x ≠ D := fun z => by rw [z, hD] at o; cases o
  refine ⟨ne, by rw [upd_ne n1]; exact o, na, vs, by rw [upd_ne nq]; exact ha, hv.mono fun t xs e => ?_⟩
  have n2 : t ≠ D := fun z => by rw [z, hD] at e; cases e
  rw [upd_ne n2]
  exact e
theorem PL.cut {p b q : Addr} {H : Hp} {ys : List Pr} {us : List V} (hb : H b = some (.lst us)) (hu : PrsAt p H us ys) (nq : H q = none) (qp : q ≠ p) (n : Nat) : PL p (upd H q (.lst (us.take n))) q (ys.take n) :=
  ⟨qp, _, upd_same, (hu.take n).keep (Keep.same (Same.up (Same.refl H) nq))⟩
end Pk
set_option Elab.async false
set_option linter.all false
set_option maxRecDepth 100000
set_option maxHeartbeats 4000000
namespace Pk
open PySem L2
local macro_rules | `(tactic| walk_at "rd") => `(tactic| repeat (first
  | with_reducible refine r_seq ?_ | with_reducible refine r_nxt ?_ | with_reducible refine r_asg ?_ | with_reducible refine r_to ?_ | with_reducible refine r_ret ?_ | with_reducible refine r_for ?_ | with_reducible refine r_lc ?_ | with_reducible refine r_lc2 ?_ | with_reducible refine r_rng1 ?_ | with_reducible refine r_list ?_ | with_reducible refine r_tupI ?_ | with_reducible refine r_drop ?_ | with_reducible refine r_ifs ?_
  | with_reducible refine r_op ?_ | with_reducible refine r_c ?_ | with_reducible refine r_var rfl ?_ | with_reducible refine r_var (by assumption) ?_ | with_reducible refine r_I0 ?_ | with_reducible refine r_un ?_ | with_reducible refine r_U ?_ | with_reducible refine r_make ?_ | with_reducible refine r_makeS ?_ | with_reducible refine r_ifE ?_ | with_reducible refine r_cm ?_ | with_reducible refine r_mkV rfl ?_ | with_reducible refine r_sub ?_
  | with_reducible refine r_nil ?_ | with_reducible refine r_cons ?_ | with_reducible refine r_cb ?_ | with_reducible refine r_sl ?_ | with_reducible refine r_noP ?_ | with_reducible refine r_part ?_ | with_reducible refine r_isI ?_ | with_reducible refine r_lst ?_ | with_reducible refine r_tup ?_ | with_reducible refine r_call ?_ | with_reducible refine r_callS ?_ | with_reducible refine r_sFldU ?_ | with_reducible refine r_chain ?_ | with_reducible refine r_enum ?_ | with_reducible refine r_zip ?_ | with_reducible refine r_rng3 ?_ | with_reducible refine r_gtup ?_ | with_reducible refine r_methU ?_
  | with_reducible refine r_test ?_ | with_reducible refine r_B ?_ | with_reducible refine r_and ?_ | with_reducible refine r_or ?_ | with_reducible refine r_not ?_ | with_reducible refine r_andV ?_ | with_reducible refine r_orV ?_ | with_reducible refine r_notV ?_ | with_reducible refine r_bl ?_ | with_reducible refine r_yes ?_ | with_reducible refine r_int ?_ | with_reducible refine r_is0 ?_ | with_reducible refine r_is1 ?_ | with_reducible refine iteT ?_ | with_reducible refine iteF ?_ | with_reducible refine ite_nF ?_ | with_reducible refine ite_nT ?_
  | with_reducible refine r_mod (by decide) ?_ | with_reducible refine r_div (by decide) (by decide) ?_ | with_reducible refine r_mulR (by decide) (by decide) ?_ | with_reducible refine r_mulL (by decide) (by decide) ?_ | with_reducible refine r_pow (by decide) (by decide) (by decide) ?_))
/-! ### one turn, behind the draws -/
def spLaw (K : PySem.W.Frag) : Sp := fun vs H Q _ => ∃ (l : Addr) (ns : List Int), vs = [.ref l] ∧ SqL K H l (ns.map V.int) ∧ ns.length ≤ 63 ∧ ∀ H' : Hp, Q (.bl true) H'
abbrev slaw : Stmt := top 29
abbrev nmLaw : List Str := ["_law_script", "_law_pool_here", "_law_many", "_law_everything", "_law_pairs", "_law_order", "_law_turn", "_law_k", "_law_place", "_law_any_pair", "_law_pair", "_law_due", "_law_turned", "_law_j", "_law_i"]
theorem sclaw : FnScope nmLaw ["_law_script"] (defScope slaw) := ⟨rfl, rfl, rfl, by decide +kernel, rfl, by decide +kernel, by decide +kernel⟩
abbrev xLaw (P : Program) (w : World) (K : PySem.W.Frag) (mg : Str → Option Value) (base : Heap) (f : Addr) (cdv : Value) (A : Around) (outer : List Env) (s : Shared) (H0 : Hp) (E : XK) : Cx := (cxOf CX0 P w K mg base nmLaw "law" (defScope slaw) f cdv A outer s H0 E).nox
def loopB : List Stmt := match (defBody slaw).getD 6 (.Pass ⟨0, 0, 0, 0⟩) with
  | .For (body := b) .. => b
  | _ => []
structure LD (P : Program) (w : World) (K : PySem.W.Frag) (mg : Str → Option Value) (base : Heap) (C CE CB CP : Addr) : Prop where
  lPool : Df P w K mg base CX0 "_law_pool" 1 ["_law_script"] (spPool K)
  lDraw : Df P w K mg base CX0 "_law_draw" 2 ["_law_pool_here", "_law_size"] spDraw
  lShuf : Df P w K mg base CX0 "_law_shuffled" 4 ["_law_pool_here", "_law_things"] spShuf
  lSame : Df P w K mg base CX0 "_law_same" 4 ["_law_actual", "_law_due"] (spOr (spSame K 3) (spSameT K))
  lIdx : Df P w K mg base CX0 "_law_index" 3 ["_law_pool_here", "_law_many"] (spIdx K)
  lIns : Df P w K mg base CX0 "_law_inside" 1 ["_law_value", "_law_low", "_law_high"] (spBetD K)
  lAsk : Df P w K mg base CX0 "_law_asked" 12 ["_law_order", "_law_word", "_law_one", "_law_two"] (spAsk K C)
  lMv : Df P w K mg base CX0 "_law_moved" 1 ["_law_pairs", "_law_pair", "_law_place"] (spLMv K)
  lIsT : Df P w K mg base CX0 "_law_is_there" 1 ["_law_pairs", "_law_pair"] (spOr (spIsT K) spIsTN)
  lIxs : Df P w K mg base CX0 "_law_indexes" 13 ["_law_order", "_law_pairs", "_law_k"] (spIxs K C)
  M : OrP P w K mg base C CE CB CP
theorem nd_at {zs : List Pr} {i j : Nat} {z : Pr} (nd : zs.Nodup) (h : zs[i]? = some z) (g : zs[j]? = some z) : i = j := by
  rcases Nat.lt_trichotomy i j with c | c | c
  · exact absurd (List.mem_of_getElem? (i := i) (by rw [List.getElem?_take]; simp [c, h])) (not_before nd g)
  · exact c
  · exact absurd (List.mem_of_getElem? (i := j) (by rw [List.getElem?_take]; simp [c, g])) (not_before nd h)
/-- a value that is asked for -/
inductive PkV (K : PySem.W.Frag) (p : Addr) (H : Hp) (v : V) : Prop where
  | data (d : PyData) (h : Dp K H v d) (h1 : PD d) (h2 : ∀ z, d = prD z → PrAt p H v z)
  | dict (h : D01 H v)
section
variable {P : Program} {w : World} {K : PySem.W.Frag} {mg : Str → Option Value} {base : Heap} {C CE CB CP : Addr} {f : Addr} {fd : FuncData} {cdv : Value} {A : Around} {outer : List Env} {s : Shared} {H0 : Hp} {E : XK}
theorem asks (hr : Room 39 (xLaw P w K mg base f cdv A outer s H0 E).A) (T : Bt mg) (D : LD P w K mg base C CE CB CP) : ∃ u : TS, PSs (xLaw P w K mg base f cdv A outer s H0 E) (loopB.drop 5) u ∧
    ∀ {p x dx q a : Addr} {zs : List Pr} {d7 d8 : PyData} (En : Ends) (H : Hp) (v0 v1 v3 v6 v9 v11 v12 v13 v14 : Option V) (v7 v8 v10 : V), OrX p C H x dx q zs → PL p H a zs → Gp zs → (∃ o, H p = some o) → Dp K H v7 d7 → Dp K H v8 d8 → PkV K p H v10 →
      (∀ (due : V) (H' : Hp), Same H H' → En.nx [v0, v1, some (.int (zs.length : Int)), v3, some (.ref a), some (.ref x), v6, some v7, some v8, v9, some v10, some due, v12, v13, v14] H') →
      u En [v0, v1, some (.int (zs.length : Int)), v3, some (.ref a), some (.ref x), v6, some v7, some v8, v9, some v10, v11, v12, v13, v14] H := by
  obtain ⟨g1, d1, m1, o1, b1⟩ := D.M.has
  have hr3 := hr.mono (show 3 ≤ 39 by decide)
  refine ⟨_, (pss_cons (ps_if (pt_not (pt_val (pe_df D.lIxs hr (by decide) (pa_cons (pv 5) (pa_cons (pv 4) (pa_cons (pv 7) pa_nil)))))) (pss_one (ps_ret pe_bl)) pss_nil)
  (pss_cons (ps_set (i := 11) sclaw.nd rfl (Or.inl rfl) (pe_tup (pa_cons pe_str (pa_cons (pv 10) pa_nil))))
  (pss_cons (ps_if (pt_not (pt_val (pe_df D.lSame hr (by decide) (pa_cons (pe_inOwn (E := fun _ => E0) ⟨g1, d1, _, m1, o1, b1⟩ hr3 (passN pass0) (pv 10) (pv 5) (by rfl)) (pa_cons (pe_df D.lIsT hr (by decide) (pa_cons (pv 4) (pa_cons (pv 10) pa_nil))) pa_nil))))) (pss_one (ps_ret pe_bl)) pss_nil)
  (C8.pss_cut (ps_if (pt_val (pe_df D.lIsT hr (by decide) (pa_cons (pv 4) (pa_cons (pv 10) pa_nil)))) (pss_one (ps_set (i := 11) sclaw.nd rfl (Or.inl rfl) (pe_tup (pa_cons pe_str (pa_cons (pe_bm PySem.F.plainAttrs_list PySem.F.slot_list_index PySem.F.type_list_index (mt_indexD (hu65 hr)) (pv 4) (pa_cons (pv 10) pa_nil)) pa_nil))))) pss_nil)
  (pss_cons (ps_if (pt_not (pt_val (pe_df D.lSame hr (by decide) (pa_cons (pe_df D.lAsk hr (by decide) (pa_cons (pv 5) (pa_cons pe_str (pa_cons (pv 10) (pa_cons pe_int pa_nil))))) (pa_cons (pv 11) pa_nil))))) (pss_one (ps_ret pe_bl)) pss_nil)
  (C8.pss_cut (ps_if (pt_val (pe_df D.lIsT hr (by decide) (pa_cons (pv 4) (pa_cons (pv 10) pa_nil)))) (C8.pss_cut (ps_set (i := 11) sclaw.nd rfl (Or.inl rfl) (pe_tup (pa_cons pe_str (pa_cons pe_str pa_nil))))
    (pss_one (ps_if (pt_val (pe_df D.lIns hr (by decide) (pa_cons (pv 8) (pa_cons pe_int (pa_cons (pe_op op_sub (pv 2) pe_int) pa_nil))))) (pss_one (ps_set (i := 11) sclaw.nd rfl (Or.inl rfl) (pe_tup (pa_cons pe_str (pa_cons (pe_df D.lMv hr (by decide) (pa_cons (pv 4) (pa_cons (pv 10) (pa_cons (pv 8) pa_nil)))) pa_nil))))) pss_nil))) pss_nil)
  (pss_one (ps_if (pt_not (pt_val (pe_df D.lSame hr (by decide) (pa_cons (pe_df D.lAsk hr (by decide) (pa_cons (pv 5) (pa_cons pe_str (pa_cons (pv 10) (pa_cons (pv 8) pa_nil))))) (pa_cons (pv 11) pa_nil))))) (pss_one (ps_ret pe_bl)) pss_nil)))))))), ?_⟩
  intro p x dx q a zs d7 d8 En H v0 v1 v3 v6 v9 v11 v12 v13 v14 v7 v8 v10 X L g hop D7 D8 kd k
  have g64 := g.len
  obtain ⟨op, ho⟩ := hop
  walk_at "rd"
  refine ⟨p, x, dx, q, a, zs, v7, d7, rfl, X, L, g, ⟨op, ho⟩, D7, fun H1 s1 => ?_⟩
  walk_at "rd"
  refine ⟨by show 2 ≤ sizeLine; decide, fun t1 n1 => ?_⟩
  have s2 := s1.trans (Same.up (o := .tup [V.str "pair", v10]) (Same.refl H1) n1)
  have ht1 : upd H1 t1 (.tup [V.str "pair", v10]) t1 = some (.tup [V.str "pair", v10]) := upd_same
  obtain ⟨H2, eH2⟩ : ∃ H2, H2 = upd H1 t1 (.tup [V.str "pair", v10]) := ⟨_, rfl⟩
  rw [← eH2] at s2 ht1 ⊢
  have X2 := X.same s2
  have L2 := L.same s2
  walk_at "rd"
  refine r_op2 ?_
  walk_at "rd"
  cases kd with
  | data d hd pd pat =>
    have hd2 := Dp.later s2 hd
    refine r_ownIn X2.o (.inl ⟨p, x, dx, q, zs, v10, d, rfl, X2, hd2, _, rfl, ?_⟩)
    walk_at "rd"
    refine .inl ⟨p, a, zs, v10, d, rfl, L2, hd2, pd, ?_⟩
    walk_at "rd"
    refine .inl ⟨_, _, .bool (hasD zs d), rfl, .bl _, .bl _, .bl _, ?_⟩
    walk_at "rd"
    by_cases b : hasD zs d = true
    · obtain ⟨z, rfl, m⟩ := hasD_inv b
      obtain ⟨j, hj, ez⟩ := List.getElem_of_mem m
      have hz : zs[j]? = some z := by rw [List.getElem?_eq_getElem hj, ez]
      have pz := pat z rfl
      refine r_cut (fun σ' H' => ∃ due, σ' = [v0, v1, some (.int (zs.length : Int)), v3, some (.ref a), some (.ref x), v6, some v7, some v8, v9, some v10, some due, v12, v13, v14] ∧ Same H H' ∧ Dp K H' due (tldD (.int (j : Int)))) ?_ ?_
      · walk_at "rd"
        refine .inl ⟨p, a, zs, v10, _, rfl, L2, hd2, pd, ?_⟩
        walk_at "rd"
        refine ifT b ?_
        walk_at "rd"
        show tBM _ _ _ _ _ _ _ _
        refine r_var rfl ?_
        obtain ⟨nq, vs, hq, hv⟩ := id L2
        refine ⟨.inl ⟨rfl, vs, SqL.of hq⟩, ?_⟩
        walk_at "rd"
        refine ⟨a, v10, prD z, zs.map prD, j, prD z, rfl, rfl, .lst (SqL.of hq) hv.dp, hd2, prs_shaped zs, pr_shaped z, by rw [List.getElem?_map, hz]; rfl, by rw [pr_eqv, decide_eq_true rfl], fun m z' hm hz' => ?_, ?_⟩
        · obtain ⟨y', hy', rfl⟩ : ∃ y', zs[m]? = some y' ∧ z' = prD y' := by
            rw [List.getElem?_map] at hz'
            cases e : zs[m]? with
            | none => rw [e] at hz'; cases hz'
            | some y' => rw [e] at hz'; exact ⟨y', rfl, (Option.some.inj hz').symm⟩
          rw [pr_eqv]
          refine decide_eq_false fun e => not_before g.nd hz ?_
          rw [← e]
          exact List.mem_of_getElem? (i := m) (by rw [List.getElem?_take]; simp [hm, hy'])
        · walk_at "rd"
          exact ⟨by show 2 ≤ sizeLine; decide, fun t nt => ⟨_, rfl, Same.up s2 nt, tld_dp nt (.int _)⟩⟩
      · rintro σ' H3 ⟨due, rfl, s3, hdue⟩
        walk_at "rd"
        refine .inr (.inr (.inl ⟨p, x, dx, q, zs, v10, .int 0, _, rfl, X.same s3, g.nd, Dp.later s3 hd, pd.deep, fun j' z' r H4 ed ez' s4 dr => ?_, fun b' => absurd b' (by rw [b]; decide)⟩))
        have e1 : z' = z := by rw [← prOf_pr z', ← ed, prOf_pr]
        obtain rfl : j = j' := nd_at g.nd hz (by rw [← e1]; exact ez')
        walk_at "rd"
        refine .inl ⟨r, due, tldD (.int (j : Int)), rfl, dr, Dp.later s4 hdue, deep_tup (.str _) (.int _), ?_⟩
        have s34 := s3.trans s4
        walk_at "rd"
        refine r_cut (fun σ' H' => ∃ due, σ' = [v0, v1, some (.int (zs.length : Int)), v3, some (.ref a), some (.ref x), v6, some v7, some v8, v9, some v10, some due, v12, v13, v14] ∧ Same H H' ∧ Dp K H' due (asM zs (prD z) d8)) ?_ ?_
        · walk_at "rd"
          refine .inl ⟨p, a, zs, v10, _, rfl, L.same s34, Dp.later s34 hd, pd, ?_⟩
          walk_at "rd"
          refine ifT b ?_
          refine r_cut (fun σ' H' => ∃ due, σ' = [v0, v1, some (.int (zs.length : Int)), v3, some (.ref a), some (.ref x), v6, some v7, some v8, v9, some v10, some due, v12, v13, v14] ∧ Same H H' ∧ Dp K H' due (bndD "place")) ?_ ?_
          · walk_at "rd"
            exact ⟨by show 2 ≤ sizeLine; decide, fun t nt => ⟨_, rfl, Same.up s34 nt, bnd_dp⟩⟩
          · rintro σ' H5 ⟨due2, rfl, s5, hdue2⟩
            walk_at "rd"
            refine ⟨v8, d8, 0, (zs.length : Int) - 1, rfl, Dp.later s5 D8, ?_⟩
            walk_at "rd"
            by_cases b2 : betD 0 ((zs.length : Int) - 1) d8 = true
            · refine ifT b2 ?_
              obtain ⟨n, rfl, i0, i1⟩ := betD_nat (by decide) b2
              obtain rfl := Dp.intV D8
              walk_at "rd"
              refine ⟨p, a, zs, v10, z, n, rfl, L.same s5, pz.keep (Keep.same s5), m, g.nd, g64, by omega, ⟨op, s5 _ _ ho⟩, fun r H6 s6 lr => ?_⟩
              walk_at "rd"
              refine ⟨by show 2 ≤ sizeLine; decide, fun t nt => ⟨_, rfl, Same.up (s5.trans s6) nt, ?_⟩⟩
              rw [asM, if_pos b, if_pos b2, prOf_pr]
              exact tld_dp nt lr.dp
            · refine ifF (Bool.eq_false_iff.mpr b2) ?_
              refine ⟨_, rfl, s5, ?_⟩
              rw [asM, if_pos b, if_neg b2]
              exact hdue2
        · rintro σ' H5 ⟨due2, rfl, s5, hdue2⟩
          walk_at "rd"
          refine .inr (.inr (.inr (.inr (.inl ⟨p, x, dx, q, zs, v10, v8, _, d8, rfl, X.same s5, g, ⟨op, s5 _ _ ho⟩, Dp.later s5 hd, pd.deep, fun z e => (pat z e).keep (Keep.same s5), Dp.later s5 D8, fun r H6 s6 dr => ?_⟩))))
          walk_at "rd"
          refine .inl ⟨r, due2, _, rfl, dr, Dp.later s6 hdue2, deep_asM g64 pd.deep _, ?_⟩
          walk_at "rd"
          exact k _ _ (s5.trans s6)
    · have b := Bool.eq_false_iff.mpr b
      have dt1 : Dp K H2 (.ref t1) (.tuple [.str "pair", d]) := .tup (SqT.of ht1) (.cons (.str _) (.cons hd2 .nil))
      refine r_cut (fun σ' H' => ∃ due, σ' = [v0, v1, some (.int (zs.length : Int)), v3, some (.ref a), some (.ref x), v6, some v7, some v8, v9, some v10, some due, v12, v13, v14] ∧ Same H H' ∧ Dp K H' due (.tuple [.str "pair", d])) ?_ ?_
      · walk_at "rd"
        refine .inl ⟨p, a, zs, v10, _, rfl, L2, hd2, pd, ?_⟩
        walk_at "rd"
        refine ifF b ?_
        exact ⟨_, rfl, s2, dt1⟩
      · rintro σ' H3 ⟨due, rfl, s3, hdue⟩
        walk_at "rd"
        refine .inr (.inr (.inl ⟨p, x, dx, q, zs, v10, .int 0, _, rfl, X.same s3, g.nd, Dp.later s3 hd, pd.deep, fun j' z' r H4 ed ez' s4 dr => absurd (List.mem_of_getElem? ez') (fun mm => by rw [ed, hasD_pr, decide_eq_true mm] at b; cases b), fun _ r H4 s4 dr => ?_⟩))
        walk_at "rd"
        refine .inl ⟨r, due, _, rfl, dr, Dp.later s4 hdue, deep_tup (.str _) (pd.deep.mono (by decide)), ?_⟩
        have s34 := s3.trans s4
        walk_at "rd"
        refine r_cut (fun σ' H' => ∃ due, σ' = [v0, v1, some (.int (zs.length : Int)), v3, some (.ref a), some (.ref x), v6, some v7, some v8, v9, some v10, some due, v12, v13, v14] ∧ Same H H' ∧ Dp K H' due (asM zs d d8)) ?_ ?_
        · walk_at "rd"
          refine .inl ⟨p, a, zs, v10, _, rfl, L.same s34, Dp.later s34 hd, pd, ?_⟩
          walk_at "rd"
          refine ifF b ?_
          refine ⟨_, rfl, s34, ?_⟩
          rw [asM, if_neg (by rw [b]; decide)]
          exact Dp.later s4 hdue
        · rintro σ' H5 ⟨due2, rfl, s5, hdue2⟩
          walk_at "rd"
          refine .inr (.inr (.inr (.inr (.inl ⟨p, x, dx, q, zs, v10, v8, _, d8, rfl, X.same s5, g, ⟨op, s5 _ _ ho⟩, Dp.later s5 hd, pd.deep, fun z e => (pat z e).keep (Keep.same s5), Dp.later s5 D8, fun r H6 s6 dr => ?_⟩))))
          walk_at "rd"
          refine .inl ⟨r, due2, _, rfl, dr, Dp.later s6 hdue2, deep_asM g64 pd.deep _, ?_⟩
          walk_at "rd"
          exact k _ _ (s5.trans s6)
  | dict hd =>
    have hd2 := hd.later s2
    refine r_ownIn X2.o (.inr ⟨p, x, dx, q, zs, v10, rfl, X2, hd2, _, rfl, ?_⟩)
    walk_at "rd"
    refine .inr ⟨_, v10, rfl, hd2, ?_⟩
    walk_at "rd"
    refine .inl ⟨_, _, .bool false, rfl, .bl _, .bl _, .bl _, ?_⟩
    walk_at "rd"
    refine r_cut (fun σ' H' => ∃ due, σ' = [v0, v1, some (.int (zs.length : Int)), v3, some (.ref a), some (.ref x), v6, some v7, some v8, v9, some v10, some due, v12, v13, v14] ∧ Same H H' ∧ ∃ r, due = .ref r ∧ H' r = some (.tup [.str "pair", v10])) ?_ ?_
    · walk_at "rd"
      refine .inr ⟨_, v10, rfl, hd2, ?_⟩
      walk_at "rd"
      exact ⟨_, rfl, s2, _, rfl, ht1⟩
    · rintro σ' H3 ⟨due, rfl, s3, r3, rfl, hr3'⟩
      walk_at "rd"
      refine .inr (.inr (.inr (.inl ⟨p, x, dx, q, zs, v10, .int 0, rfl, X.same s3, hd.later s3, fun r z H4 s4 h4 dz => ?_⟩)))
      have s34 := s3.trans s4
      walk_at "rd"
      refine .inr ⟨_, _, "pair", z, v10, rfl, SqT.of h4, SqT.of (s4 _ _ hr3'), dz, hd.later s34, ?_⟩
      walk_at "rd"
      refine r_cut (fun σ' H' => ∃ due, σ' = [v0, v1, some (.int (zs.length : Int)), v3, some (.ref a), some (.ref x), v6, some v7, some v8, v9, some v10, some due, v12, v13, v14] ∧ Same H H' ∧ ∃ r, due = .ref r ∧ H' r = some (.tup [.str "pair", v10])) ?_ ?_
      · walk_at "rd"
        refine .inr ⟨_, v10, rfl, hd.later s34, ?_⟩
        walk_at "rd"
        exact ⟨_, rfl, s34, _, rfl, s4 _ _ hr3'⟩
      · rintro σ' H5 ⟨due2, rfl, s5, r5, rfl, hr5⟩
        walk_at "rd"
        refine .inr (.inr (.inr (.inr (.inr ⟨p, x, dx, q, zs, v10, v8, rfl, X.same s5, hd.later s5, fun r z H6 s6 h6 dz => ?_⟩))))
        walk_at "rd"
        refine .inr ⟨_, _, "pair", z, v10, rfl, SqT.of h6, SqT.of (s6 _ _ hr5), dz, hd.later (s5.trans s6), ?_⟩
        walk_at "rd"
        exact k _ _ (s5.trans s6)
end
end Pk
set_option Elab.async false
set_option linter.all false
set_option maxRecDepth 100000
set_option maxHeartbeats 4000000
namespace Pk
open PySem L2
local macro_rules | `(tactic| walk_at "rd") => `(tactic| repeat (first
  | with_reducible refine r_seq ?_ | with_reducible refine r_nxt ?_ | with_reducible refine r_asg ?_ | with_reducible refine r_to ?_ | with_reducible refine r_ret ?_ | with_reducible refine r_for ?_ | with_reducible refine r_lc ?_ | with_reducible refine r_lc2 ?_ | with_reducible refine r_rng1 ?_ | with_reducible refine r_list ?_ | with_reducible refine r_tupI ?_ | with_reducible refine r_drop ?_ | with_reducible refine r_ifs ?_
  | with_reducible refine r_op ?_ | with_reducible refine r_c ?_ | with_reducible refine r_var rfl ?_ | with_reducible refine r_var (by assumption) ?_ | with_reducible refine r_I0 ?_ | with_reducible refine r_un ?_ | with_reducible refine r_U ?_ | with_reducible refine r_make ?_ | with_reducible refine r_makeS ?_ | with_reducible refine r_ifE ?_ | with_reducible refine r_cm ?_ | with_reducible refine r_mkV rfl ?_ | with_reducible refine r_sub ?_
  | with_reducible refine r_nil ?_ | with_reducible refine r_cons ?_ | with_reducible refine r_cb ?_ | with_reducible refine r_sl ?_ | with_reducible refine r_noP ?_ | with_reducible refine r_part ?_ | with_reducible refine r_isI ?_ | with_reducible refine r_lst ?_ | with_reducible refine r_tup ?_ | with_reducible refine r_call ?_ | with_reducible refine r_callS ?_ | with_reducible refine r_sFldU ?_ | with_reducible refine r_chain ?_ | with_reducible refine r_enum ?_ | with_reducible refine r_zip ?_ | with_reducible refine r_rng3 ?_ | with_reducible refine r_gtup ?_ | with_reducible refine r_methU ?_
  | with_reducible refine r_test ?_ | with_reducible refine r_B ?_ | with_reducible refine r_and ?_ | with_reducible refine r_or ?_ | with_reducible refine r_not ?_ | with_reducible refine r_andV ?_ | with_reducible refine r_orV ?_ | with_reducible refine r_notV ?_ | with_reducible refine r_bl ?_ | with_reducible refine r_yes ?_ | with_reducible refine r_int ?_ | with_reducible refine r_is0 ?_ | with_reducible refine r_is1 ?_ | with_reducible refine iteT ?_ | with_reducible refine iteF ?_ | with_reducible refine ite_nF ?_ | with_reducible refine ite_nT ?_
  | with_reducible refine r_mod (by decide) ?_ | with_reducible refine r_div (by decide) (by decide) ?_ | with_reducible refine r_mulR (by decide) (by decide) ?_ | with_reducible refine r_mulL (by decide) (by decide) ?_ | with_reducible refine r_pow (by decide) (by decide) (by decide) ?_))
/-! ### the law -/
section
variable {P : Program} {w : World} {K : PySem.W.Frag} {mg : Str → Option Value} {base : Heap} {C CE CB CP : Addr} {f : Addr} {fd : FuncData} {cdv : Value} {A : Around} {outer : List Env} {s : Shared} {H0 : Hp} {E : XK}
theorem seg7 (hr : Room 39 (xLaw P w K mg base f cdv A outer s H0 E).A) (T : Bt mg) (D : LD P w K mg base C CE CB CP) : ∃ u : TS, PSs (xLaw P w K mg base f cdv A outer s H0 E) ((defBody slaw).drop 7) u ∧
    ∀ {p x dx q a : Addr} {zs : List Pr} (En : Ends) (H : Hp) (v0 v1 v2 v3 v6 v7 v8 v9 v10 v11 v12 v13 v14 : Option V), OrX p C H x dx q zs → PL p H a zs → Gp zs → (∃ o, H p = some o) → (∀ H', En.rt (.bl true) H') →
      u En [v0, v1, v2, v3, some (.ref a), some (.ref x), v6, v7, v8, v9, v10, v11, v12, v13, v14] H := by
  obtain ⟨f1, d1, m1, o1, b1⟩ := D.M.tu
  obtain ⟨f2, d2, m2, o2, b2⟩ := D.M.pairs
  obtain ⟨f3, d3, m3, o3, b3⟩ := D.M.eq
  have hr1 := hr.mono (show 1 ≤ 39 by decide)
  have hr2 := hr.mono (show 2 ≤ 39 by decide)
  have hr10 := hr.mono (show 10 ≤ 39 by decide)
  refine ⟨_, (pss_cons (ps_set (i := 12) sclaw.nd rfl (Or.inl rfl) (pe_meth0 (pv 5) D.M.O.cl m1 o1 hr10 b1 .nil pass0))
  (pss_cons (ps_if (PW.pt (pw_or (pt_not (pt_val (pe_df D.lSame hr (by decide) (pa_cons (pe_meth0 (pv 12) D.M.O.cl m2 o2 hr1 b2 .nil pass0) (pa_cons (pe_lc (own := [("_law_i", 14), ("_law_j", 13)]) (g := gTup K 2 (gCons (gName 14) (gCons (gName 13) gNil))) rfl sclaw.nd (pi_list (pv 4)) (blkOk_by (own := [("_law_i", 14), ("_law_j", 13)]) (N := nmLaw) (sc := defScope slaw) (by decide +kernel))
    (fun _ _ _ _ _ => pg_tup (by rfl) (pgs_cons (pg_name (i := 14) sclaw.nd rfl (Or.inl rfl)) (pgs_cons (pg_name (i := 13) sclaw.nd rfl (Or.inl rfl)) pgs_nil))) (fun _ _ _ _ _ => pts_nil) (fun _ _ _ _ _ => (pe_tup (pa_cons (pv 13) (pa_cons (pv 14) pa_nil))))) pa_nil))))) (pw_or1 (pt_neOwn (E := fun _ => E0) ⟨f3, d3, _, m3, o3, b3⟩ D.M.ne D.M.O.hm hr2 (passN pass0) (pe_meth0 (pv 12) D.M.O.cl m1 o1 hr10 b1 .nil pass0) (pv 5) (nomark _))))) (pss_one (ps_ret pe_bl)) pss_nil)
  (pss_one (ps_ret (pe_df D.lSame hr (by decide) (pa_cons (pe_meth0 (pv 5) D.M.O.cl m2 o2 hr1 b2 .nil pass0) (pa_cons (pv 4) pa_nil))))))), ?_⟩
  intro p x dx q a zs En H v0 v1 v2 v3 v6 v7 v8 v9 v10 v11 v12 v13 v14 X L g hop k
  obtain ⟨op, ho⟩ := hop
  have g64 := g.len
  walk_at "rd"
  refine ⟨x, dx, _, rfl, X.o, one_no (by decide +kernel), ?_⟩
  walk_at "rd"
  refine ⟨p, x, dx, q, zs, rfl, X, g, ⟨op, ho⟩, fun y H1 nw => ?_⟩
  obtain ⟨s1, dy, qy, Y⟩ := nw
  obtain ⟨nqy, ws, hqy, hws⟩ := id Y.l
  walk_at "rd"
  refine ⟨y, dy, _, rfl, Y.o, one_no (by decide +kernel), ?_⟩
  walk_at "rd"
  refine ⟨p, y, dy, qy, trO zs, ws, rfl, Y, hqy, fun r nr => ?_⟩
  have u2 := Same.up (o := .lst ws) (Same.refl H1) nr
  have dr : Dp K (upd H1 r (.lst ws)) (.ref r) (prsD (trO zs)) := .lst (SqL.of upd_same) (hws.keep (Keep.same u2)).dp
  obtain ⟨H2, eH2⟩ : ∃ H2, H2 = upd H1 r (.lst ws) := ⟨_, rfl⟩
  rw [← eH2] at u2 dr ⊢
  have s2 := s1.trans u2
  obtain ⟨na, vs, ha, hv⟩ := id (L.same s2)
  have vl := hv.length
  walk_at "rd"
  refine ⟨a, rfl, ⟨_, SqL.of ha⟩, fun D nD => lc_it walk_list (fun i H' => Same H2 H' ∧ ∃ us, H' D = some (.lst us) ∧ us.length = i ∧ PrsAt p H' us (trO (zs.take i))) ⟨Same.up (Same.refl H2) nD, [], upd_same, rfl, .nil⟩ (fun i H' _ z => z.1.seq (SqL.of ha)) ?_ ?_⟩
  · rintro i u H3 H4 hi ⟨s3, us, hD, ul, hu⟩ ⟨rfl, eu⟩
    obtain ⟨⟨e1, e2⟩, ezi, t, rfl, tp, ht⟩ := hv.at eu
    refine r_gtup ⟨t, _, rfl, SqT.of (s3 _ _ ht), rfl, _, _, rfl, ?_⟩
    walk_at "rd"
    refine ⟨_, _, rfl, ?_⟩
    walk_at "rd"
    refine ⟨rfl, ?_⟩
    walk_at "rd"
    refine ⟨rfl, ?_⟩
    walk_at "rd"
    refine ⟨by show 2 ≤ sizeLine; decide, fun t2 n2 => ?_⟩
    have s4 := Same.up (o := .tup [V.int e2, V.int e1]) (Same.refl H4) n2
    have t2p : t2 ≠ p := fun z => by rw [z, s3 _ _ (s2 _ _ ho)] at n2; cases n2
    refine ⟨us, s4 _ _ hD, by rw [ul]; exact Nat.lt_of_lt_of_le (show i < 65 by omega) (by decide), fun c o e => ?_, us ++ [.ref t2], upd_same, by rw [List.length_append, ul]; rfl, ?_⟩
    · rw [upd_ne (fun z => by rw [z, nD] at e; cases e)]
      exact s4 _ _ (s3 _ _ e)
    · have kD : ∀ c xs, (upd H4 t2 (.tup [V.int e2, V.int e1])) c = some (.tup xs) → (upd (upd H4 t2 (.tup [V.int e2, V.int e1])) D (.lst (us ++ [V.ref t2]))) c = some (.tup xs) := fun c xs e => by
        rw [upd_ne (fun z => by rw [z, s4 _ _ hD] at e; cases e)]
        exact e
      rw [List.take_add_one, ezi]
      show PrsAt p _ _ (List.map _ (_ ++ [(e1, e2)]))
      rw [List.map_append]
      exact ((hu.keep (Keep.same s4)).mono kD).app (.cons ⟨t2, rfl, t2p, kD _ _ upd_same⟩ .nil)
  · rintro H3 ⟨s3, us, hD, ul, hu⟩
    rw [vl, List.take_length] at hu
    have s23 := s2.trans s3
    have X3 := X.same s23
    have Y3 := (Y.same u2).same s3
    have tl : (trO zs).length ≤ 1000 := by rw [trO, List.length_map]; omega
    walk_at "rd"
    refine .inl ⟨_, _, prsD (trO zs), rfl, Dp.later s3 dr, .lst (SqL.of hD) hu.dp, deep_prs tl, ?_⟩
    walk_at "rd"
    refine r_op2 ?_
    walk_at "rd"
    refine ⟨y, dy, _, rfl, Y3.o, one_no (by decide +kernel), ?_⟩
    walk_at "rd"
    refine ⟨p, y, dy, qy, trO zs, rfl, Y3, g.trO, ⟨op, s23 _ _ ho⟩, fun y2 H5 nw => ?_⟩
    obtain ⟨s5, dy2, qy2, Y2⟩ := nw
    rw [trO_trO] at Y2
    have X5 := X3.same s5
    walk_at "rd"
    refine r_ownNe Y2.o (.inl ⟨x, dx, _, rfl, X5.o⟩) ⟨p, y2, dy2, qy2, x, dx, q, zs, zs, rfl, Y2, X5, ?_⟩
    refine ⟨_, rfl, ?_⟩
    refine ⟨_, rfl, ifF (by show (!decide (zs = zs)) = false; rw [decide_eq_true rfl]; rfl) ?_⟩
    obtain ⟨nq5, w5, hq5, hw5⟩ := id X5.l
    walk_at "rd"
    refine ⟨x, dx, _, rfl, X5.o, one_no (by decide +kernel), ?_⟩
    walk_at "rd"
    refine ⟨p, x, dx, q, zs, w5, rfl, X5, hq5, fun r6 n6 => ?_⟩
    have u6 := Same.up (o := .lst w5) (Same.refl H5) n6
    walk_at "rd"
    exact .inl ⟨_, _, prsD zs, rfl, .lst (SqL.of upd_same) (hw5.keep (Keep.same u6)).dp, (((L.same s23).same s5).same u6).dp, deep_prs (by omega), k _⟩
/-- an entry of a list, and what is known of it -/
theorem pick {vs : List V} {r : Int} {Pr : V → Prop} (h : ∀ v, v ∈ vs → Pr v) (r0 : 0 ≤ r) (rl : r < vs.length) : ∃ u, atI vs r = some u ∧ Pr u := by
  obtain ⟨j, rfl⟩ : ∃ j : Nat, r = (j : Int) := ⟨r.toNat, by omega⟩
  have hj : j < vs.length := by omega
  exact ⟨_, atI_nat (List.getElem?_eq_getElem hj), h _ (List.getElem_mem hj)⟩
theorem PkV.keep {K : PySem.W.Frag} {p : Addr} {H H' : Hp} {v : V} (h : PkV K p H v) (s : Same H H') : PkV K p H' v := by
  cases h with
  | data d h h1 h2 => exact .data d (Dp.later s h) h1 fun z e => (h2 z e).keep (Keep.same s)
  | dict h => exact .dict (h.later s)
theorem seg6 (hr : Room 39 (xLaw P w K mg base f cdv A outer s H0 E).A) (T : Bt mg) (D : LD P w K mg base C CE CB CP) : ∃ u : TS, PSs (xLaw P w K mg base f cdv A outer s H0 E) ((defBody slaw).drop 6) u ∧
    ∀ {p c x dx q a e3 : Addr} {sc : List Int} {zs ys : List Pr} (En : Ends) (H : Hp) (v0 v6 v7 v8 v9 v10 v11 v12 v13 v14 : Option V), OrX p C H x dx q zs → PL p H a zs → Gp zs → PL p H e3 ys → ys.length = 64 → PoolAt H p c sc → (∀ H', En.rt (.bl true) H') →
      u En [v0, some (.ref p), some (.int (zs.length : Int)), some (.ref e3), some (.ref a), some (.ref x), v6, v7, v8, v9, v10, v11, v12, v13, v14] H := by
  obtain ⟨u7, d7, h7⟩ := seg7 (f := f) (cdv := cdv) (outer := outer) (s := s) (H0 := H0) (E := E) hr T D
  obtain ⟨uA, dA, hA⟩ := asks (f := f) (cdv := cdv) (outer := outer) (s := s) (H0 := H0) (E := E) hr T D
  refine ⟨_, (pss_cons (ps_for PassesOwn.never rfl (pi_range1 rfl T.range (pa_cons pe_int pa_nil)) (pg_name (i := 6) sclaw.nd rfl (Or.inl rfl)) (pss_cons (ps_set (i := 7) sclaw.nd rfl (Or.inl rfl) (pe_df D.lIdx hr (by decide) (pa_cons (pv 1) (pa_cons (pv 2) pa_nil))))
  (pss_cons (ps_set (i := 8) sclaw.nd rfl (Or.inl rfl) (pe_df D.lIdx hr (by decide) (pa_cons (pv 1) (pa_cons (pv 2) pa_nil))))
  (pss_cons (ps_set (i := 9) sclaw.nd rfl (Or.inl rfl) (pe_ix ix_list (pv 3) (pe_df D.lDraw hr (by decide) (pa_cons (pv 1) (pa_cons pe_int pa_nil))) (fun _ _ => rfl)))
  (pss_cons (ps_set (i := 10) sclaw.nd rfl (Or.inl rfl) (pe_ix ix_list (pe_op op_cat (pv 4) (pe_lst (pa_cons (pv 9) pa_nil))) (pe_df D.lDraw hr (by decide) (pa_cons (pv 1) (pa_cons (pe_op op_add (pv 2) pe_int) pa_nil))) (fun _ _ => rfl)))
  (pss_cons (ps_set (i := 10) sclaw.nd rfl (Or.inl rfl) (pe_ix ix_list (pe_lst (pa_cons (pv 10) (pa_cons (pv 10) (pa_cons (pv 9) (pa_cons (pe_tup (pa_cons pe_bl (pa_cons pe_int pa_nil))) (pa_cons (pe_lst (pa_cons pe_int (pa_cons pe_int pa_nil))) (pa_cons pe_non (pa_cons (pe_disp (pps_cons pe_int pe_int pps_nil) (by rfl) (by rfl) (fun z => by cases z) (by decide)) (pa_cons (pe_tup (pa_cons pe_int (pa_cons pe_int pa_nil))) (pa_cons (pe_tup (pa_cons pe_int pa_nil)) pa_nil)))))))))) (pe_df D.lDraw hr (by decide) (pa_cons (pv 1) (pa_cons pe_int pa_nil))) (fun _ _ => rfl))) dA))))))
  d7), ?_⟩
  intro p c x dx q a e3 sc zs ys En H v0 v6 v7 v8 v9 v10 v11 v12 v13 v14 X L g L3 yl hp k
  have g64 := g.len
  walk_at "rd"
  refine ⟨_, rfl, by decide, by decide, for_it walk_range (fun i σ H' => ∃ w6 w7 w8 w9 w10 w11, σ = [v0, some (.ref p), some (.int (zs.length : Int)), some (.ref e3), some (.ref a), some (.ref x), w6, w7, w8, w9, w10, w11, v12, v13, v14] ∧ Keep p H H' ∧ PoolAt H' p c sc) ⟨_, _, _, _, _, _, rfl, Keep.refl, hp⟩ (fun _ _ _ _ _ => trivial) ?_ ?_⟩
  · rintro i y σ H1 H2 hi ⟨w6, w7, w8, w9, w10, w11, rfl, k1, P1⟩ ⟨rfl, rfl⟩
    walk_at "rd"
    refine ⟨p, c, sc, zs.length, rfl, P1, g64, fun v7 d7 H3 k3 P3 D7 F7 => ?_⟩
    walk_at "rd"
    refine ⟨p, c, sc, zs.length, rfl, P3, g64, fun v8 d8 H4 k4 P4 D8 F8 => ?_⟩
    walk_at "rd"
    refine ⟨p, c, sc, 64, rfl, P4, by decide, by decide, fun r5 H5 a5 b5 k5 P5 => ?_⟩
    have K5 : Keep p H H5 := k1.trans (k3.trans (k4.trans k5))
    obtain ⟨n3, vs3, h3, hv3⟩ := id (L3.keep K5)
    have l3 := hv3.length
    obtain ⟨u9, e9, z9, p9⟩ := pick (vs := vs3) (r := r5) (Pr := fun v => ∃ z, PrAt p H5 v z) (fun v m => by
      obtain ⟨j, hj, rfl⟩ := List.getElem_of_mem m
      obtain ⟨z, _, pz⟩ := hv3.at (List.getElem?_eq_getElem hj)
      exact ⟨z, pz⟩) a5 (by omega)
    refine r_ixL (SqL.of h3) e9 ?_
    walk_at "rd"
    refine ⟨by show 1 ≤ sizeLine; decide, fun L6 n6 => ?_⟩
    have s6 := Same.up (o := .lst [u9]) (Same.refl H5) n6
    obtain ⟨na, vs, ha, hv⟩ := id (L.keep K5)
    have vl := hv.length
    refine r_cat (xs := vs) (zs := [u9]) (s6 _ _ ha) upd_same (by rw [vl]; exact Nat.le_trans (show zs.length + 1 ≤ 66 by omega) (by decide)) fun L7 n7 => ?_
    have s7 := s6.trans (Same.up (o := .lst (vs ++ [u9])) (Same.refl _) n7)
    have h7l : (upd (upd H5 L6 (.lst [u9])) L7 (.lst (vs ++ [u9]))) L7 = some (.lst (vs ++ [u9])) := upd_same
    obtain ⟨H7, eH7⟩ : ∃ H7, H7 = upd (upd H5 L6 (.lst [u9])) L7 (.lst (vs ++ [u9])) := ⟨_, rfl⟩
    rw [← eH7] at s7 h7l ⊢
    walk_at "rd"
    refine ⟨p, c, sc, (zs.length : Int) + 1, rfl, P5.sameS s7, by omega, by omega, fun r8 H8 a8 b8 k8 P8 => ?_⟩
    have L7p : L7 ≠ p := (P5.sameS s6).apart n7
    obtain ⟨u10, e10, z10, p10⟩ := pick (vs := vs ++ [u9]) (r := r8) (Pr := fun v => ∃ z, PrAt p H5 v z) (fun v m => by
      rcases List.mem_append.mp m with m | m
      · obtain ⟨j, hj, rfl⟩ := List.getElem_of_mem m
        obtain ⟨z, _, pz⟩ := hv.at (List.getElem?_eq_getElem hj)
        exact ⟨z, pz⟩
      · rw [List.mem_singleton] at m
        subst m
        exact ⟨z9, p9⟩) a8 (by rw [List.length_append, vl]; show r8 < ((zs.length + 1 : Nat) : Int); omega)
    refine r_ixL (SqL.of (k8 _ _ L7p h7l)) e10 ?_
    have K8 : Keep p H5 H8 := (Keep.same s7).trans k8
    have q9 := p9.keep K8
    have q10 := p10.keep K8
    walk_at "rd"
    refine ⟨by show 2 ≤ sizeLine; decide, fun t1 n1 => ?_⟩
    have s1 := Same.up (o := .tup [V.bl true, V.int 0]) (Same.refl H8) n1
    have ht1 : upd H8 t1 (.tup [V.bl true, V.int 0]) t1 = some (.tup [V.bl true, V.int 0]) := upd_same
    obtain ⟨G1, eG1⟩ : ∃ G1, G1 = upd H8 t1 (.tup [V.bl true, V.int 0]) := ⟨_, rfl⟩
    rw [← eG1] at s1 ht1 ⊢
    walk_at "rd"
    refine ⟨by show 2 ≤ sizeLine; decide, fun t2 n2 => ?_⟩
    have s2 := Same.up (o := .lst [V.int 0, V.int 0]) (Same.refl G1) n2
    have ht2 : upd G1 t2 (.lst [V.int 0, V.int 0]) t2 = some (.lst [V.int 0, V.int 0]) := upd_same
    obtain ⟨G2, eG2⟩ : ∃ G2, G2 = upd G1 t2 (.lst [V.int 0, V.int 0]) := ⟨_, rfl⟩
    rw [← eG2] at s2 ht2 ⊢
    walk_at "rd"
    intro t3 n3
    refine (show _ ∧ _ from ⟨upd_same, kvs01, rfl, by decide, ?_⟩)
    have s3 : Same G2 (upd (upd G2 t3 (.dK [])) t3 (.dK (mergeK [] kvs01))) := fun b o e => by
      have n1 : b ≠ t3 := fun z => by rw [z, n3] at e; cases e
      rw [upd_ne n1, upd_ne n1]
      exact e
    have ht3 : (upd (upd G2 t3 (.dK [])) t3 (.dK (mergeK [] kvs01))) t3 = some (.dK kvs01) := upd_same
    obtain ⟨G3, eG3⟩ : ∃ G3, G3 = upd (upd G2 t3 (.dK [])) t3 (.dK (mergeK [] kvs01)) := ⟨_, rfl⟩
    rw [← eG3] at s3 ht3 ⊢
    walk_at "rd"
    refine ⟨by show 2 ≤ sizeLine; decide, fun t4 n4 => ?_⟩
    have s4 := Same.up (o := .tup [V.int 0, V.int 8]) (Same.refl G3) n4
    have ht4 : upd G3 t4 (.tup [V.int 0, V.int 8]) t4 = some (.tup [V.int 0, V.int 8]) := upd_same
    have t4p : t4 ≠ p := (P8.sameS (s1.trans (s2.trans s3))).apart n4
    obtain ⟨G4, eG4⟩ : ∃ G4, G4 = upd G3 t4 (.tup [V.int 0, V.int 8]) := ⟨_, rfl⟩
    rw [← eG4] at s4 ht4 ⊢
    walk_at "rd"
    refine ⟨by show 1 ≤ sizeLine; decide, fun t5 n5 => ?_⟩
    have s5 := Same.up (o := .tup [V.int 1]) (Same.refl G4) n5
    have ht5 : upd G4 t5 (.tup [V.int 1]) t5 = some (.tup [V.int 1]) := upd_same
    obtain ⟨G5, eG5⟩ : ∃ G5, G5 = upd G4 t5 (.tup [V.int 1]) := ⟨_, rfl⟩
    rw [← eG5] at s5 ht5 ⊢
    walk_at "rd"
    refine ⟨by show 9 ≤ sizeLine; decide, fun L9 n9 => ?_⟩
    obtain ⟨us, eus⟩ : ∃ us : List V, us = [u10, u10, u9, V.ref t1, V.ref t2, V.non, V.ref t3, V.ref t4, V.ref t5] := ⟨_, rfl⟩
    rw [← eus]
    have s6' := Same.up (o := .lst us) (Same.refl G5) n9
    have hL9 : upd G5 L9 (.lst us) L9 = some (.lst us) := upd_same
    obtain ⟨G6, eG6⟩ : ∃ G6, G6 = upd G5 L9 (.lst us) := ⟨_, rfl⟩
    have z5 := s1.trans (s2.trans (s3.trans (s4.trans s5)))
    have L9p : L9 ≠ p := (P8.sameS z5).apart n9
    rw [← eG6] at s6' hL9 ⊢
    have z6 := z5.trans s6'
    walk_at "rd"
    refine ⟨p, c, sc, 9, rfl, P8.sameS z6, by decide, by decide, fun rA HA aA bA kA PA => ?_⟩
    have kk : ∀ {b : Addr} {o : HO}, G6 b = some o → b ≠ p → HA b = some o := fun {b o} e n => kA _ _ n e
    have np : ∀ {t : Addr} {G : Hp}, G t = none → Same H8 G → t ≠ p := fun {t G} n sG => (P8.sameS sG).apart n
    have y4 := s5.trans s6'
    have y3 := s4.trans y4
    have y2 := s3.trans y3
    have y1 := s2.trans y2
    have KA : Keep p H8 HA := (Keep.same z6).trans kA
    have prK : ∀ {v : V} {z : Pr}, PrAt p H8 v z → PkV K p HA v := fun {v z} h => .data (prD z) (h.keep KA).dp (.inl ⟨z, rfl⟩) fun z' e => by
      rw [show z' = z from by rw [← prOf_pr z', ← e, prOf_pr]]
      exact h.keep KA
    obtain ⟨uB, eB, pB⟩ := pick (vs := us) (r := rA) (Pr := fun v => PkV K p HA v) (fun v m => by
      rw [eus] at m
      simp only [List.mem_cons, List.not_mem_nil, or_false] at m
      rcases m with rfl | rfl | rfl | rfl | rfl | rfl | rfl | rfl | rfl
      · exact prK q10
      · exact prK q10
      · exact prK q9
      · exact .data (.tuple [.bool true, .int 0]) (.tup (SqT.of (kk (y1 _ _ ht1) (np n1 (Same.refl _)))) (.cons (.bl _) (.cons (.int _) .nil))) (.inr (.inl rfl)) fun z e => by cases e
      · exact .data (.list [.int 0, .int 0]) (.lst (SqL.of (kk (y2 _ _ ht2) (np n2 s1))) (.cons (.int _) (.cons (.int _) .nil))) (.inr (.inr (.inl rfl))) fun z e => by cases e
      · exact .data .none .non (.inr (.inr (.inr (.inl rfl)))) fun z e => by cases e
      · exact .dict ⟨t3, rfl, kk (y3 _ _ ht3) (np n3 (s1.trans s2))⟩
      · refine .data (prD (0, 8)) (.tup (SqT.of (kk (y4 _ _ ht4) t4p)) (.cons (.int _) (.cons (.int _) .nil))) (.inl ⟨_, rfl⟩) fun z e => ?_
        rw [show z = (0, 8) from by rw [← prOf_pr z, ← e]; rfl]
        exact ⟨t4, rfl, t4p, kk (y4 _ _ ht4) t4p⟩
      · exact .data (.tuple [.int 1]) (.tup (SqT.of (kk (s6' _ _ ht5) (np n5 (s1.trans (s2.trans (s3.trans s4)))))) (.cons (.int _) .nil)) (.inr (.inr (.inr (.inr rfl)))) fun z e => by have h := congrArg List.length (PyData.tuple.inj e); cases h) aA (by rw [eus]; show rA < (9 : Int); omega)
    refine r_ixL (SqL.of (kA _ _ L9p hL9)) eB ?_
    have KT : Keep p H HA := K5.trans (K8.trans KA)
    walk_at "rd"
    exact hA _ HA _ _ _ _ _ _ _ _ _ v7 v8 uB (X.keep KT) (L.keep KT) g PA.ex (Dp.flat D7 F7) (Dp.flat D8 F8) pB fun due H' s' => ⟨_, _, _, _, _, _, rfl, KT.trans (Keep.same s'), PA.sameS s'⟩
  · rintro σ H1 ⟨w6, w7, w8, w9, w10, w11, rfl, k1, P1⟩
    exact h7 _ H1 _ _ _ _ _ _ _ _ _ _ _ _ _ (X.keep k1) (L.keep k1) g P1.ex k
theorem seg2 (hr : Room 39 (xLaw P w K mg base f cdv A outer s H0 E).A) (T : Bt mg) (D : LD P w K mg base C CE CB CP) : ∃ u : TS, PSs (xLaw P w K mg base f cdv A outer s H0 E) ((defBody slaw).drop 3) u ∧
    ∀ {p c : Addr} {sc : List Int} (En : Ends) (H : Hp) (m : Nat) (v0 v3 v4 v5 v6 v7 v8 v9 v10 v11 v12 v13 v14 : Option V), PoolAt H p c sc → m ≤ 64 → (∀ H', En.rt (.bl true) H') →
      u En [v0, some (.ref p), some (.int (m : Int)), v3, v4, v5, v6, v7, v8, v9, v10, v11, v12, v13, v14] H := by
  obtain ⟨u6, d6, h6⟩ := seg6 (f := f) (cdv := cdv) (outer := outer) (s := s) (H0 := H0) (E := E) hr T D
  refine ⟨_, (pss_cons (ps_set (i := 3) sclaw.nd rfl (Or.inl rfl) (pe_df D.lShuf hr (by decide) (pa_cons (pv 1) (pa_cons (pe_lc (own := [("_law_k", 7)]) (g := gName 7) rfl sclaw.nd (pi_range1 rfl T.range (pa_cons pe_int pa_nil)) (blkOk_by (own := [("_law_k", 7)]) (N := nmLaw) (sc := defScope slaw) (by decide +kernel)) (fun _ _ _ _ _ => pg_name (i := 7) sclaw.nd rfl (Or.inl rfl)) (fun _ _ _ _ _ => pts_nil) (fun _ _ _ _ _ => (pe_tup (pa_cons (pe_op op_fdiv (pv 7) pe_int) (pa_cons (pe_op op_sub (pv 7) (pe_op op_mul (pe_op op_fdiv (pv 7) pe_int) pe_int)) pa_nil))))) pa_nil))))
  (pss_cons (ps_set (i := 4) sclaw.nd rfl (Or.inl rfl) (pe_slice sl_list (pv 3) po_none (po_some (pv 2))))
  (pss_cons (ps_set (i := 5) sclaw.nd rfl (Or.inl rfl) (pe_dkL D.M.made hr (by decide) (pa_cons (pe_callTy cl_lst (by rfl) T.list (by decide +kernel) (pa_cons (pv 4) pa_nil)) pa_nil))) d6))), ?_⟩
  intro p c sc En H m v0 v3 v4 v5 v6 v7 v8 v9 v10 v11 v12 v13 v14 hp hm k
  walk_at "rd"
  refine ⟨64, rfl, by decide, by decide, fun D1 n1 => lc_it walk_range (fun i H' => Same H H' ∧ ∃ vs, H' D1 = some (.lst vs) ∧ vs.length = i ∧ PrsAt p H' vs (ev.take i)) ⟨Same.up (Same.refl H) n1, [], upd_same, rfl, .nil⟩ (fun _ _ _ _ => trivial) ?_ ?_⟩
  · rintro i y H1 H2 hi ⟨s1, vs, hD, vl, hv⟩ ⟨rfl, rfl⟩
    have hi : i < 64 := hi
    have e0 : (0 : Int) + (i : Int) = (i : Int) := by omega
    simp only [e0]
    walk_at "rd"
    refine ⟨rfl, ?_⟩
    walk_at "rd"
    refine ⟨by show 2 ≤ sizeLine; decide, fun t nt => ?_⟩
    have st := Same.up (o := .tup [V.int ((i : Int) / 8), V.int ((i : Int) - (i : Int) / 8 * 8)]) (Same.refl H2) nt
    have hD2 := st _ _ hD
    have tp : t ≠ p := (hp.sameS s1).apart nt
    refine ⟨vs, hD2, by rw [vl]; exact Nat.lt_of_lt_of_le hi (by decide), fun b o e => ?_, vs ++ [.ref t], upd_same, by rw [List.length_append, vl]; rfl, ?_⟩
    · have n : b ≠ D1 := fun z => by rw [z, n1] at e; cases e
      rw [upd_ne n]
      exact st _ _ (s1 _ _ e)
    · rw [take_more (ev_at hi)]
      have kD : ∀ q xs, (upd H2 t (.tup [V.int ((i : Int) / 8), V.int ((i : Int) - (i : Int) / 8 * 8)])) q = some (.tup xs) → (upd (upd H2 t (.tup [V.int ((i : Int) / 8), V.int ((i : Int) - (i : Int) / 8 * 8)])) D1 (.lst (vs ++ [V.ref t]))) q = some (.tup xs) := fun q xs e => by
        have n : q ≠ D1 := fun z => by rw [z, hD2] at e; cases e
        rw [upd_ne n]
        exact e
      exact ((hv.keep (Keep.same st)).mono kD).app (.cons ⟨t, rfl, tp, kD _ _ upd_same⟩ .nil)
  · rintro H1 ⟨s1, vs, hD, vl, hv⟩
    rw [show (((64 : Int)).toNat) = 64 from rfl, show ev.take 64 = ev from List.take_of_length_le (by rw [ev_len]; decide)] at hv
    have p1 := hp.sameS s1
    have l4 : PL p H1 D1 ev := ⟨hp.apart n1, vs, hD, hv⟩
    walk_at "rd"
    refine ⟨p, c, D1, sc, ev, rfl, p1, l4, by rw [ev_len]; decide, fun b ys H2 k2 p2 lb pm => ?_⟩
    obtain ⟨nb, us, hb, hu⟩ := id lb
    have ul : us.length = 64 := by rw [hu.length, pm.length_eq, ev_len]
    walk_at "rd"
    refine ⟨b, us, rfl, SqL.of hb, fun q nq => ?_⟩
    rw [cut_take (by omega)]
    have sq := Same.up (o := .lst (us.take m)) (Same.refl H2) nq
    have l5 := PL.cut hb hu nq (p2.apart nq) m
    have p3 := p2.sameS sq
    have g5 : Gp (ys.take m) := (ev_good.perm pm).take m
    have h5 : upd H2 q (.lst (us.take m)) q = some (.lst (us.take m)) := upd_same
    obtain ⟨H3, eH3⟩ : ∃ H3, H3 = upd H2 q (.lst (us.take m)) := ⟨_, rfl⟩
    rw [← eH3] at sq l5 p3 h5 ⊢
    walk_at "rd"
    refine r_lstOf (SqL.of h5) fun r nr => ?_
    have sr := Same.up (o := .lst (us.take m)) (Same.refl H3) nr
    have rp : r ≠ p := p3.apart nr
    obtain ⟨n5, vs5, h55, hv5⟩ := id l5
    have e5 : vs5 = us.take m := by
      rw [h5] at h55
      exact (HO.lst.inj (Option.some.inj h55)).symm
    subst e5
    have lr : PL p (upd H3 r (.lst (us.take m))) r (ys.take m) := ⟨rp, _, upd_same, hv5.keep (Keep.same sr)⟩
    walk_at "rd"
    intro x dx nx nd ne
    show spOrIF K C CE [V.ref x, V.ref r] _ _ _
    refine mk_or nx nd ne (p3.sameS sr).ex lr g5 fun H4 q4 s4 X => ?_
    have s34 := sr.trans s4
    have e7 : ((ys.take m).length : Int) = (m : Int) := by
      rw [List.length_take, show ys.length = 64 by rw [pm.length_eq, ev_len]]
      omega
    walk_at "rd"
    rw [← e7]
    exact h6 _ H4 _ _ _ _ _ _ _ _ _ _ X (l5.same s34) g5 ((lb.same sq).same s34) (by rw [pm.length_eq, ev_len]) (p3.sameS s34) k
theorem ok_law (F : Fun K "law" "law" slaw f fd) (D : LD P w K mg base C CE CB CP) (T : Bt mg) : FnOk P w K mg base CX0 40 f fd ["_law_script"] (spLaw K) := by
  refine F.ok sclaw (fun vs H Q E h => ?_) (fun cdv A outer s H vs Q E hr h => ?_)
  · obtain ⟨l, ns, rfl, _⟩ := h
    rfl
  · obtain ⟨l, sc, rfl, hl, h63, k⟩ := h
    obtain ⟨u2, d2, h2⟩ := seg2 (f := f) (cdv := cdv) (outer := outer) (s := s) (H0 := H) (E := E) hr T D
    refine ⟨_, (pss_cons (ps_set (i := 1) sclaw.nd rfl (Or.inl rfl) (pe_df D.lPool hr (by decide) (pa_cons (pv 0) pa_nil)))
  (pss_cons (ps_set (i := 2) sclaw.nd rfl (Or.inl rfl) (pe_df D.lDraw hr (by decide) (pa_cons (pv 1) (pa_cons pe_int pa_nil))))
  (C8.pss_cut (ps_if (pt_cmpR op_eq (pe_df D.lDraw hr (by decide) (pa_cons (pv 1) (pa_cons pe_int pa_nil))) pe_int (nomark _)) (pss_one (ps_set (i := 2) sclaw.nd rfl (Or.inl rfl) (pe_op op_fdiv (pv 2) pe_int))) pss_nil) d2))), ?_⟩
    walk_at "rd"
    refine ⟨l, sc, rfl, hl, h63, fun p c H1 hp hc s1 P1 => ?_⟩
    walk_at "rd"
    refine ⟨p, c, sc, 65, rfl, P1, by decide, by decide, fun r1 H2 a1 b1 k1 P2 => ?_⟩
    walk_at "rd"
    refine r_cut (fun σ' H' => ∃ m : Nat, m ≤ 64 ∧ σ' = [some (.ref l), some (.ref p), some (.int (m : Int)), none, none, none, none, none, none, none, none, none, none, none, none] ∧ PoolAt H' p c sc) ?_ ?_
    · walk_at "rd"
      refine ⟨p, c, sc, 2, rfl, P2, by decide, by decide, fun r2 H3 a2 b2 k2 P3 => ?_⟩
      walk_at "rd"
      refine r_eq rfl ?_
      walk_at "rd"
      refine ite_dec (fun _ => ?_) (fun _ => ?_)
      · walk_at "rd"
        refine ⟨(r1 / 8).toNat, by omega, ?_, P3⟩
        rw [show (((r1 / 8).toNat : Nat) : Int) = r1 / 8 by omega]
        rfl
      · walk_at "rd"
        refine ⟨r1.toNat, by omega, ?_, P3⟩
        rw [show ((r1.toNat : Nat) : Int) = r1 by omega]
        rfl
    · rintro σ' H3 ⟨m, hm, rfl, P3⟩
      exact h2 _ H3 m _ _ _ _ _ _ _ _ _ _ _ _ _ P3 hm k
end
end Pk
set_option Elab.async false
set_option linter.all false
set_option maxRecDepth 100000
set_option maxHeartbeats 4000000
namespace Pk
open PySem L2
local macro_rules | `(tactic| walk_at "rd") => `(tactic| repeat (first
  | with_reducible refine r_seq ?_ | with_reducible refine r_nxt ?_ | with_reducible refine r_asg ?_ | with_reducible refine r_to ?_ | with_reducible refine r_ret ?_ | with_reducible refine r_for ?_ | with_reducible refine r_lc ?_ | with_reducible refine r_lc2 ?_ | with_reducible refine r_rng1 ?_ | with_reducible refine r_list ?_ | with_reducible refine r_tupI ?_ | with_reducible refine r_drop ?_ | with_reducible refine r_ifs ?_
  | with_reducible refine r_op ?_ | with_reducible refine r_c ?_ | with_reducible refine r_var rfl ?_ | with_reducible refine r_var (by assumption) ?_ | with_reducible refine r_I0 ?_ | with_reducible refine r_un ?_ | with_reducible refine r_U ?_ | with_reducible refine r_make ?_ | with_reducible refine r_makeS ?_ | with_reducible refine r_ifE ?_ | with_reducible refine r_cm ?_ | with_reducible refine r_mkV rfl ?_ | with_reducible refine r_sub ?_
  | with_reducible refine r_nil ?_ | with_reducible refine r_cons ?_ | with_reducible refine r_cb ?_ | with_reducible refine r_sl ?_ | with_reducible refine r_noP ?_ | with_reducible refine r_part ?_ | with_reducible refine r_isI ?_ | with_reducible refine r_lst ?_ | with_reducible refine r_tup ?_ | with_reducible refine r_call ?_ | with_reducible refine r_callS ?_ | with_reducible refine r_sFldU ?_ | with_reducible refine r_chain ?_ | with_reducible refine r_enum ?_ | with_reducible refine r_zip ?_ | with_reducible refine r_rng3 ?_ | with_reducible refine r_gtup ?_ | with_reducible refine r_methU ?_
  | with_reducible refine r_test ?_ | with_reducible refine r_B ?_ | with_reducible refine r_and ?_ | with_reducible refine r_or ?_ | with_reducible refine r_not ?_ | with_reducible refine r_andV ?_ | with_reducible refine r_orV ?_ | with_reducible refine r_notV ?_ | with_reducible refine r_bl ?_ | with_reducible refine r_yes ?_ | with_reducible refine r_int ?_ | with_reducible refine r_is0 ?_ | with_reducible refine r_is1 ?_ | with_reducible refine iteT ?_ | with_reducible refine iteF ?_ | with_reducible refine ite_nF ?_ | with_reducible refine ite_nT ?_
  | with_reducible refine r_mod (by decide) ?_ | with_reducible refine r_div (by decide) (by decide) ?_ | with_reducible refine r_mulR (by decide) (by decide) ?_ | with_reducible refine r_mulL (by decide) (by decide) ?_ | with_reducible refine r_pow (by decide) (by decide) (by decide) ?_))
/-! ### the errors -/
section
variable {P : Program} {w : World} {K : PySem.W.Frag} {mg : Str → Option Value} {base : Heap} {C fI cc fc : Addr} {fdc : FuncData}
abbrev slIO : Stmt := inCls 3 0
abbrev nfIO (cc c : Addr) : NdefX.NF := { name := "__init__", qual := "InvalidOrder.__init__", params := defArgs slIO, body := defBody slIO, scope := defScope slIO, cl := [(("__class__" : Str), cc)], c := c }
theorem ok_IO {c : Addr} {n : Nat} (T : ErrC K C) (J : InitFn P K C fI cc (nfIO cc c)) (B : Bt mg) (G : FnOk P w K mg base CX0 (n + 1) fc fdc ["value"] (spCopy K n)) (mc : mg "own_copy" = some (.ref fc)) (kc : PySem.W.keepIn K (.ref fc) = true)
    (bc : Binds K fdc ["value"] []) (free : PySem.W.findIn K (.ref C) "at" = some none) : ErrOk P w K mg base (n + 2) C fI (spErr1 K n C "at") := by
  exact err_one (F := nfIO cc c) T J B.super G mc kc bc (NdefX.nscope_by (by show NdefX.nscB _ _ _ (defScope slIO) = true; decide +kernel)) rfl rfl rfl free (fun _ _ _ _ _ us hl => match us, hl with | [_, _], _ => rfl) (fun env => rfl) (by decide) (by decide)
abbrev slIP : Stmt := inCls 4 0
abbrev nfIP (cc c : Addr) : NdefX.NF := { name := "__init__", qual := "InvalidPair.__init__", params := defArgs slIP, body := defBody slIP, scope := defScope slIP, cl := [(("__class__" : Str), cc)], c := c }
theorem ok_IP {c : Addr} {n : Nat} (T : ErrC K C) (J : InitFn P K C fI cc (nfIP cc c)) (B : Bt mg) (G : FnOk P w K mg base CX0 (n + 1) fc fdc ["value"] (spCopy K n)) (mc : mg "own_copy" = some (.ref fc)) (kc : PySem.W.keepIn K (.ref fc) = true)
    (bc : Binds K fdc ["value"] []) (free : PySem.W.findIn K (.ref C) "pair" = some none) : ErrOk P w K mg base (n + 2) C fI (spErr1 K n C "pair") := by
  exact err_one (F := nfIP cc c) T J B.super G mc kc bc (NdefX.nscope_by (by show NdefX.nscB _ _ _ (defScope slIP) = true; decide +kernel)) rfl rfl rfl free (fun _ _ _ _ _ us hl => match us, hl with | [_, _], _ => rfl) (fun env => rfl) (by decide) (by decide)
abbrev slIB : Stmt := inCls 5 0
abbrev nfIB (cc c : Addr) : NdefX.NF := { name := "__init__", qual := "InvalidBound.__init__", params := defArgs slIB, body := defBody slIB, scope := defScope slIB, cl := [(("__class__" : Str), cc)], c := c }
theorem ok_IB {c : Addr} {n : Nat} (T : ErrC K C) (J : InitFn P K C fI cc (nfIB cc c)) (B : Bt mg) (G : FnOk P w K mg base CX0 (n + 1) fc fdc ["value"] (spCopy K n)) (mc : mg "own_copy" = some (.ref fc)) (kc : PySem.W.keepIn K (.ref fc) = true)
    (bc : Binds K fdc ["value"] []) (free : PySem.W.findIn K (.ref C) "name" = some none) : ErrOk P w K mg base (n + 2) C fI (spErr1 K n C "name") := by
  exact err_one (F := nfIB cc c) T J B.super G mc kc bc (NdefX.nscope_by (by show NdefX.nscB _ _ _ (defScope slIB) = true; decide +kernel)) rfl rfl rfl free (fun _ _ _ _ _ us hl => match us, hl with | [_, _], _ => rfl) (fun env => rfl) (by decide) (by decide)
end
theorem fi_of {K : PySem.W.Frag} {C f0 : Addr} {m : Str} (h1 : PySem.W.findIn K (.ref C) m = some (some (.ref f0))) (h2 : PySem.W.fnIn K f0 = true) : ∀ f, PySem.W.findIn K (.ref C) m = some (some (.ref f)) → PySem.W.fnIn K f = true := fun f e => by
  rw [h1] at e
  have z := Value.ref.inj (Option.some.inj (Option.some.inj e))
  rw [← z]
  exact h2
/-! ### the error, made with such a dict -/
section
variable {P : Program} {w : World} {K : PySem.W.Frag} {mg : Str → Option Value} {base : Heap} {C fI cc fc : Addr} {fdc : FuncData}
theorem ok_IPD {c : Addr} {n : Nat} (T : ErrC K C) (J : InitFn P K C fI cc (nfIP cc c)) (B : Bt mg) (G : FnOk P w K mg base CX0 (n + 1) fc fdc ["value"] spCopyD) (mc : mg "own_copy" = some (.ref fc)) (kc : PySem.W.keepIn K (.ref fc) = true)
    (bc : Binds K fdc ["value"] []) (free : PySem.W.findIn K (.ref C) "pair" = some none) : ErrOk P w K mg base (n + 2) C fI (spErrD K C "pair") := by
  exact err_oneD (F := nfIP cc c) T J B.super G mc kc bc (NdefX.nscope_by (by show NdefX.nscB _ _ _ (defScope slIP) = true; decide +kernel)) rfl rfl rfl free (fun _ _ _ _ _ us hl => match us, hl with | [_, _], _ => rfl) (fun env => rfl) (by decide) (by decide)
end
theorem err_other {K : PySem.W.Frag} {S T : Addr} (h1 : PySem.W.subIn K (.ref T) (.type "BaseException") = some true) (h2 : PySem.W.isClsIn K T = true) (h3 : PySem.W.typeIn K (.ref T) = some (.type "type"))
    (h4 : PySem.W.subIn K (.ref S) (.ref T) = some false) : PySem.W.exmOne K (.ref S) (.ref T) = some false := by
  have h5 : (PySem.W.clsIn K T).isSome = true := h2
  unfold PySem.W.exmOne PySem.W.kitCls
  simp only [h1, h3, h4, h5]
  rfl
open PySem.W
theorem all_mk {l : PySem.W.OpenLaw} {w : World} {K : PySem.W.Frag} {h : Heap} {mg : Str → Option Value} {fa : Addr} (X : K.In h) (G : h.Ns mainGlobals mg) (hfa : mg "law" = some (.ref fa)) {CEO fIEO ccEO cEO CEP fIEP ccEP cEP CEB fIEB ccEB cEB CO : Addr}
    (bt : BtIn K)
    (top : (l.prog.main.scope.names.lookup ("super" : Str)).isSome = false)
    (d_own : DefAt K "own_copy" sCopy)
    (e_EO : ErrAt1 l.prog K "InvalidOrder" "InvalidOrder.__init__" slIO CEO fIEO ccEO cEO)
    (fr_EO_at : PySem.W.findIn K (.ref CEO) "at" = some none)
    (e_EP : ErrAt1 l.prog K "InvalidPair" "InvalidPair.__init__" slIP CEP fIEP ccEP cEP)
    (fr_EP_pair : PySem.W.findIn K (.ref CEP) "pair" = some none)
    (e_EB : ErrAt1 l.prog K "InvalidBound" "InvalidBound.__init__" slIB CEB fIEB ccEB cEB)
    (fr_EB_name : PySem.W.findIn K (.ref CEB) "name" = some none)
    (d_DI : DefAt K "is_integer" slIsInt)
    (d_DB : DefAt K "is_between" slBet)
    (d_DT : DefAt K "is_two" slTwo)
    {tk_aL : Tok}
    (a_aL : PySem.W.nsIn K mainGlobals "MOST_LINES" = some (some (.int 8 tk_aL)))
    {tk_aP : Tok}
    (a_aP : PySem.W.nsIn K mainGlobals "MOST_PAIRS" = some (some (.int 64 tk_aP)))
    (d_DO : DefAt K "is_orderable" slOrdb)
    (d_DC : DefAt K "check_pairs" slChkP)
    (d_D6 : DefAt K "_law_pool" slPool)
    (d_D7 : DefAt K "_law_mixed" slMixed)
    (d_D8 : DefAt K "_law_draw" slDraw)
    (d_D10 : DefAt K "_law_same" slSame)
    (d_D11 : DefAt K "_law_shuffled" slShuf)
    (d_D12 : DefAt K "_law_index" slIdx)
    (d_D13 : DefAt K "_law_inside" slIns)
    (d_D14 : DefAt K "_law_moved" slLMv)
    (d_D15 : DefAt K "_law_is_there" slIsT)
    (a_CO : PySem.W.nsIn K mainGlobals "Order" = some (some (.ref CO)))
    (me_i : MethAt K CO "__init__" "Order.__init__" slOrI)
    (me_e : MethAt K CO "__eq__" "Order.__eq__" slOEq)
    (me_g : MethAt K CO "__getitem__" "Order.__getitem__" slGet)
    (me_h : MethAt K CO "__contains__" "Order.__contains__" slHas)
    (me_p : MethAt K CO "place" "Order.place" slPlace)
    (me_x : MethAt K CO "exchanged" "Order.exchanged" slEx)
    (me_v : MethAt K CO "moved" "Order.moved" slMv)
    (me_t : MethAt K CO "turned" "Order.turned" slTu)
    (me_q : MethAt K CO "pairs" "Order.pairs" slPrs)
    (O_CO : OwnC K CO)
    (mk_CO : PySem.W.makesIn K CO = true)
    (kc_CO : PySem.W.keepIn K (.ref CO) = true)
    (no_CO_sequence : PySem.W.findIn K (.ref CO) "sequence" = some none)
    (fi : ∀ f, PySem.W.findIn K (.ref CO) "__getitem__" = some (some (.ref f)) → PySem.W.fnIn K f = true)
    (ne : PySem.W.findIn K (.ref CO) "__ne__" = some (some (.builtin "object.__ne__")))
    (x0 : PySem.W.subIn K (.ref CEP) (.ref CEB) = some false)
    (d_D16 : DefAt K "_law_asked" slAsk)
    (d_D17 : DefAt K "_law_round" slRnd)
    (d_D18 : DefAt K "_law_indexes" slIxs)
    (d_law : DefAt K "law" slaw) :
    ∃ fd : FuncData, (∀ (s : Shared) (u : Value), BindsTo s fd ⟨[u], []⟩ [("_law_script", u)]) ∧ ∀ base : Heap, K.In base → base.Ns mainGlobals mg → FnOk l.prog w K mg base CX0 40 fa fd ["_law_script"] (spLaw K) := by
  have T := bt.bt X G
  obtain ⟨f1, fd1, F1, m1⟩ := d_own.fn X G
  obtain ⟨f_DI, fd_DI, F_DI, m_DI⟩ := d_DI.fn X G
  obtain ⟨f_DB, fd_DB, F_DB, m_DB⟩ := d_DB.fn X G
  obtain ⟨f_DT, fd_DT, F_DT, m_DT⟩ := d_DT.fn X G
  obtain ⟨f_DO, fd_DO, F_DO, m_DO⟩ := d_DO.fn X G
  obtain ⟨f_DC, fd_DC, F_DC, m_DC⟩ := d_DC.fn X G
  obtain ⟨f_D6, fd_D6, F_D6, m_D6⟩ := d_D6.fn X G
  obtain ⟨f_D7, fd_D7, F_D7, m_D7⟩ := d_D7.fn X G
  obtain ⟨f_D8, fd_D8, F_D8, m_D8⟩ := d_D8.fn X G
  obtain ⟨f_D10, fd_D10, F_D10, m_D10⟩ := d_D10.fn X G
  obtain ⟨f_D11, fd_D11, F_D11, m_D11⟩ := d_D11.fn X G
  obtain ⟨f_D12, fd_D12, F_D12, m_D12⟩ := d_D12.fn X G
  obtain ⟨f_D13, fd_D13, F_D13, m_D13⟩ := d_D13.fn X G
  obtain ⟨f_D14, fd_D14, F_D14, m_D14⟩ := d_D14.fn X G
  obtain ⟨f_D15, fd_D15, F_D15, m_D15⟩ := d_D15.fn X G
  obtain ⟨g_i, gd_i, G_i, n_i⟩ := me_i.fn
  obtain ⟨g_e, gd_e, G_e, n_e⟩ := me_e.fn
  obtain ⟨g_g, gd_g, G_g, n_g⟩ := me_g.fn
  obtain ⟨g_h, gd_h, G_h, n_h⟩ := me_h.fn
  obtain ⟨g_p, gd_p, G_p, n_p⟩ := me_p.fn
  obtain ⟨g_x, gd_x, G_x, n_x⟩ := me_x.fn
  obtain ⟨g_v, gd_v, G_v, n_v⟩ := me_v.fn
  obtain ⟨g_t, gd_t, G_t, n_t⟩ := me_t.fn
  obtain ⟨g_q, gd_q, G_q, n_q⟩ := me_q.fn
  obtain ⟨f_D16, fd_D16, F_D16, m_D16⟩ := d_D16.fn X G
  obtain ⟨f_D17, fd_D17, F_D17, m_D17⟩ := d_D17.fn X G
  obtain ⟨f_D18, fd_D18, F_D18, m_D18⟩ := d_D18.fn X G
  obtain ⟨f_law, fd_law, F_law, m_law⟩ := d_law.fn X G
  cases hfa.symm.trans m_law
  have b_law : ∀ (s : Shared) (u : Value), BindsTo s fd_law ⟨[u], []⟩ [("_law_script", u)] := fun s u => by
    obtain ⟨oc, od, kV, doc, pm, an, cdv, ct, osl, rfl, lk, hcd⟩ := F_law.ex
    exact .of_eq rfl
  refine ⟨fd_law, b_law, fun base _ _ => ?_⟩
  have mk1 : ∀ {fd x st f ps sp n}, Fun K x x st f fd → mg x = some (.ref f) → Binds K fd ps [] → FnOk l.prog w K mg base CX0 n f fd ps sp → Df l.prog w K mg base CX0 x n ps sp := fun F m b o => ⟨_, _, m, F.kp, b, o⟩
  have mkL : ∀ {fd x st f ps sp n}, Fun K x x st f fd → mg x = some (.ref f) → Binds K fd ps [] → FnOk l.prog w K mg base (L2.CX l.prog w) n f fd ps sp → Df l.prog w K mg base (L2.CX l.prog w) x n ps sp := fun F m b o => ⟨_, _, m, F.kp, b, o⟩
  have B1 : Binds K fd1 ["value"] [] := F1.binds fun _ _ _ _ _ _ us hl => match us, hl with | [_], _ => rfl
  have G1 := ok_copy (P := l.prog) (w := w) (base := base) F1 T m1 1
  have EO : De l.prog w K mg base "InvalidOrder" 3 (spErr1 K 1 CEO "at") CEO := e_EO.de X G (ok_IO e_EO.errC (e_EO.init top ⟨_, rfl⟩) T G1 m1 F1.kp B1 fr_EO_at)
  have EP : De l.prog w K mg base "InvalidPair" 3 (spErr1 K 1 CEP "pair") CEP := e_EP.de X G (ok_IP e_EP.errC (e_EP.init top ⟨_, rfl⟩) T G1 m1 F1.kp B1 fr_EP_pair)
  have EB : De l.prog w K mg base "InvalidBound" 3 (spErr1 K 1 CEB "name") CEB := e_EB.de X G (ok_IB e_EB.errC (e_EB.init top ⟨_, rfl⟩) T G1 m1 F1.kp B1 fr_EB_name)
  have GD := (ok_copyD (P := l.prog) (w := w) (base := base) F1 T m1)
  have EPd : De l.prog w K mg base "InvalidPair" 3 (spErrD K CEP "pair") CEP := e_EP.de X G (ok_IPD (n := 1) e_EP.errC (e_EP.init top ⟨_, rfl⟩) T GD m1 F1.kp B1 fr_EP_pair)
  have DI := mk1 F_DI m_DI (ps := ["value"]) (F_DI.binds fun _ _ _ _ _ _ us hl => match us, hl with | [_], _ => rfl) (ok_isInt F_DI T)
  have DB := mk1 F_DB m_DB (ps := ["value", "low", "high"]) (F_DB.binds fun _ _ _ _ _ _ us hl => match us, hl with | [_, _, _], _ => rfl) (ok_betD F_DB DI)
  have DT := mk1 F_DT m_DT (ps := ["value"]) (F_DT.binds fun _ _ _ _ _ _ us hl => match us, hl with | [_], _ => rfl) (ok_two F_DT T DI)
  have DTn := mk1 F_DT m_DT (ps := ["value"]) (F_DT.binds fun _ _ _ _ _ _ us hl => match us, hl with | [_], _ => rfl) (ok_twoN F_DT T DI)
  have aL := PySem.W.mg_of X G a_aL
  have aP := PySem.W.mg_of X G a_aP
  have DO := mk1 F_DO m_DO (ps := ["value"]) (F_DO.binds fun _ _ _ _ _ _ us hl => match us, hl with | [_], _ => rfl) (ok_ordb F_DO aL DT)
  have DC := mkL F_DC m_DC (ps := ["pairs"]) (F_DC.binds fun _ _ _ _ _ _ us hl => match us, hl with | [_], _ => rfl) (ok_chkP F_DC T aP DO EO)
  have D6 := mk1 F_D6 m_D6 (ps := ["_law_script"]) (F_D6.binds fun _ _ _ _ _ _ us hl => match us, hl with | [_], _ => rfl) (ok_pool F_D6 T)
  have D7 := mk1 F_D7 m_D7 (ps := ["_law_pool_here", "_law_cell"]) (F_D7.binds fun _ _ _ _ _ _ us hl => match us, hl with | [_, _], _ => rfl) (ok_mixed F_D7 T)
  have D8 := mk1 F_D8 m_D8 (ps := ["_law_pool_here", "_law_size"]) (F_D8.binds fun _ _ _ _ _ _ us hl => match us, hl with | [_, _], _ => rfl) (ok_draw F_D8 T D7)
  have D10 := mk1 F_D10 m_D10 (ps := ["_law_actual", "_law_due"]) (F_D10.binds fun _ _ _ _ _ _ us hl => match us, hl with | [_, _], _ => rfl) ((ok_same F_D10 T m_D10 3).or ((ok_sameT F_D10 T m_D10).mono (by decide)))
  have D11 := mk1 F_D11 m_D11 (ps := ["_law_pool_here", "_law_things"]) (F_D11.binds fun _ _ _ _ _ _ us hl => match us, hl with | [_, _], _ => rfl) (ok_shuf F_D11 T D8)
  have D12 := mk1 F_D12 m_D12 (ps := ["_law_pool_here", "_law_many"]) (F_D12.binds fun _ _ _ _ _ _ us hl => match us, hl with | [_, _], _ => rfl) (ok_idx F_D12 T D8)
  have D13 := mk1 F_D13 m_D13 (ps := ["_law_value", "_law_low", "_law_high"]) (F_D13.binds fun _ _ _ _ _ _ us hl => match us, hl with | [_, _, _], _ => rfl) (ok_ins F_D13 T)
  have D14 := mk1 F_D14 m_D14 (ps := ["_law_pairs", "_law_pair", "_law_place"]) (F_D14.binds fun _ _ _ _ _ _ us hl => match us, hl with | [_, _, _], _ => rfl) (ok_lMv F_D14 T)
  have D15 := mk1 F_D15 m_D15 (ps := ["_law_pairs", "_law_pair"]) (F_D15.binds fun _ _ _ _ _ _ us hl => match us, hl with | [_, _], _ => rfl) ((ok_isT F_D15 T).or (ok_isTN F_D15 T))
  have b_i : Binds K gd_i ["self", "pairs"] [] := G_i.binds fun _ _ _ _ _ _ us hl => match us, hl with | [_, _], _ => rfl
  have b_e : Binds K gd_e ["self", "other"] [] := G_e.binds fun _ _ _ _ _ _ us hl => match us, hl with | [_, _], _ => rfl
  have b_g : Binds K gd_g ["self", "at"] [] := G_g.binds fun _ _ _ _ _ _ us hl => match us, hl with | [_, _], _ => rfl
  have b_h : Binds K gd_h ["self", "x"] [] := G_h.binds fun _ _ _ _ _ _ us hl => match us, hl with | [_, _], _ => rfl
  have b_p : Binds K gd_p ["self", "pair"] [] := G_p.binds fun _ _ _ _ _ _ us hl => match us, hl with | [_, _], _ => rfl
  have b_x : Binds K gd_x ["self", "k"] [] := G_x.binds fun _ _ _ _ _ _ us hl => match us, hl with | [_, _], _ => rfl
  have b_v : Binds K gd_v ["self", "pair", "place"] [] := G_v.binds fun _ _ _ _ _ _ us hl => match us, hl with | [_, _, _], _ => rfl
  have b_t : Binds K gd_t ["self"] [] := G_t.binds fun _ _ _ _ _ _ us hl => match us, hl with | [_], _ => rfl
  have b_q : Binds K gd_q ["self"] [] := G_q.binds fun _ _ _ _ _ _ us hl => match us, hl with | [_], _ => rfl
  have g_CO := PySem.W.mg_of X G a_CO
  have x1 := err_other e_EB.exB e_EB.isC e_EB.ty x0
  have nS : NoAttr K CO "sequence" := no_CO_sequence
  have oH := ok_hasD (P := l.prog) (w := w) (mg := mg) (base := base) G_h O_CO nS DT
  have oHn := ok_hasN (P := l.prog) (w := w) (mg := mg) (base := base) G_h O_CO nS DTn
  have DOr : Dk l.prog w K mg base (L2.CX l.prog w) "Order" 8 ["self", "pairs"] (spOrIF K CO CEO) CO := ⟨_, _, g_CO, ⟨mk_CO, n_i.at_, n_i.fn, kc_CO⟩, b_i, ok_orI G_i T O_CO nS DC⟩
  have M : OrP l.prog w K mg base CO CEO CEB CEP :=
    { O := O_CO
      nS := nS
      eq := ⟨_, _, n_e, ok_OEq G_e T O_CO nS g_CO, b_e⟩
      ne := ne
      get := ⟨_, _, n_g, ok_getD G_g T O_CO nS DB EB, b_g⟩
      fi := fi
      has := ⟨_, _, n_h, oH.or oHn, b_h⟩
      pl := ⟨_, _, n_p, (ok_plD G_p O_CO nS n_h oH b_h EP).or (ok_plN G_p O_CO nS n_h oHn b_h EPd), b_p⟩
      ex := ⟨_, _, n_x, ok_exD G_x T O_CO nS DB EB DOr, b_x⟩
      mv := ⟨_, _, n_v, (ok_mvD G_v T O_CO nS n_h oH b_h DB EB EP DOr).or (ok_mvN G_v O_CO n_h oHn b_h EPd), b_v⟩
      tu := ⟨_, _, n_t, ok_tuO G_t T O_CO nS DOr, b_t⟩
      pairs := ⟨_, _, n_q, ok_prs G_q T O_CO nS, b_q⟩
      made := DOr }
  have D16 := mk1 F_D16 m_D16 (ps := ["_law_order", "_law_word", "_law_one", "_law_two"]) (F_D16.binds fun _ _ _ _ _ _ us hl => match us, hl with | [_, _, _, _], _ => rfl) ((ok_asI F_D16 M EB fr_EB_name EP fr_EP_pair x1).or ((ok_asE F_D16 M EB fr_EB_name EP fr_EP_pair x1).or ((ok_asP F_D16 M EB fr_EB_name EP fr_EP_pair x1).or ((ok_asPN F_D16 M EB fr_EB_name EP fr_EP_pair x1).or ((ok_asM F_D16 M EB fr_EB_name EP fr_EP_pair x1).or (ok_asMN F_D16 M EB fr_EB_name EP fr_EP_pair x1))))))
  have D17 := mk1 F_D17 m_D17 (ps := ["_law_order", "_law_pairs", "_law_k"]) (F_D17.binds fun _ _ _ _ _ _ us hl => match us, hl with | [_, _, _], _ => rfl) (ok_rnd F_D17 T M)
  have D18 := mk1 F_D18 m_D18 (ps := ["_law_order", "_law_pairs", "_law_k"]) (F_D18.binds fun _ _ _ _ _ _ us hl => match us, hl with | [_, _, _], _ => rfl) (ok_ixs F_D18 T D13 D10 D16 D17)
  exact ok_law F_law ⟨D6, D8, D11, D10, D12, D13, D16, D14, D15, D18, M⟩ T
end Pk
set_option Elab.async false
set_option linter.all false
set_option maxRecDepth 100000
namespace Pk
open PySem L2
theorem walk {l : PySem.W.OpenLaw} {q : Program} {loose : List Str} {XP : (Str → Option Value) → Heap → Prop} {YP : World → Heap → Prop} {d : DefRec} {K : Params → PySem.W.Frag} (hn : l.most = some 63) (hdf : d.params.defaults = [])
    (hY : ∀ (w : World) (h : Heap), YP w h → (K w.params).In h)
    (F : ∀ (w : World) (mg : Str → Option Value) (fa : Addr) (h : Heap), (K w.params).In h → h.Ns mainGlobals mg → mg d.name = some (.ref fa) →
      ∃ fd : FuncData, (∀ (s : Shared) (u : Value), BindsTo s fd ⟨[u], []⟩ [("_law_script", u)]) ∧ ∀ base : Heap, (K w.params).In base → base.Ns mainGlobals mg → FnOk l.prog w (K w.params) mg base CX0 40 fa fd ["_law_script"] (spLaw (K w.params))) :
    PySem.W.WalkO q loose XP YP l.row.toRowW d [] (fun f vs => PySem.call f vs) :=
  L2.walk_of (n := 63) (k := 40) (x := "_law_script") (CX := fun _ => CX0) (sp := fun w => spLaw (K w.params)) hn (by decide) hdf ⟨rfl, by decide, by decide⟩ hY F (fun _ _ a ns hl _ hS => ⟨a, ns, rfl, hS, hl, fun _ => rfl⟩) fun _ _ _ _ _ z => z
end Pk
local macro_rules | `(tactic| walk_at "pk_def") => `(tactic| (refine' Pk.DefAt.of ?a ?l ?c ?k; (case a => k_is); (case l => k_is); (case c => k_is); (case k => k_is)))
local macro_rules | `(tactic| walk_at "pk_defK") => `(tactic| (refine' Pk.DefAtK.of ?a ?l ?c ?k ?n; (case a => k_is); (case l => k_is); (case c => k_is); (case k => k_is); (case n => k_is)))
local macro_rules | `(tactic| walk_at "pk_meth") => `(tactic| (refine' Pk.MethAt.of ?a ?l ?c ?k ?i; (case a => k_is); (case l => k_is); (case c => k_is); (case k => k_is); (case i => k_is)))
open PySem PySem.W PyProof.Rows Pk in
set_option maxRecDepth 100000 in
set_option maxHeartbeats 0 in
theorem PySem.Challenge.cw_pairorder_k09_orders_places_holds : PySem.Challenge.rw_pairorder_k09_orders_places.Holds := by
  w_on; o_law; k_head; (case hw => w_witness2)
  k_fill
  refine Pk.walk (l := PySem.Challenge.rw_pairorder_k09_orders_places) rfl rfl (fun w h Y => PySem.W.kIn_of Y) ?F
  case F =>
    intro w mg fa h KX G hmg
    refine' Pk.all_mk KX G hmg ?zz_bt ?zz_top ?zz_d_own ?zz_e_EO ?zz_fr_EO_at ?zz_e_EP ?zz_fr_EP_pair ?zz_e_EB ?zz_fr_EB_name ?zz_d_DI ?zz_d_DB ?zz_d_DT ?zz_a_aL ?zz_a_aP ?zz_d_DO ?zz_d_DC ?zz_d_D6 ?zz_d_D7 ?zz_d_D8 ?zz_d_D10 ?zz_d_D11 ?zz_d_D12 ?zz_d_D13 ?zz_d_D14 ?zz_d_D15 ?zz_a_CO ?zz_me_i ?zz_me_e ?zz_me_g ?zz_me_h ?zz_me_p ?zz_me_x ?zz_me_v ?zz_me_t ?zz_me_q ?zz_O_CO ?zz_mk_CO ?zz_kc_CO ?zz_no_CO_sequence ?zz_fi ?zz_ne ?zz_x0 ?zz_d_D16 ?zz_d_D17 ?zz_d_D18 ?zz_d_law
    case zz_bt =>
      intro x hx
      simp only [List.mem_cons, List.not_mem_nil, or_false] at hx
      rcases hx with rfl | rfl | rfl | rfl | rfl | rfl | rfl | rfl | rfl | rfl | rfl | rfl | rfl | rfl | rfl | rfl | rfl | rfl <;> k_is
    case zz_top => rfl
    case zz_d_own => walk_at "pk_def"
    case zz_e_EO =>
      refine' Pk.ErrAt1.of ?at_ ?cls ?sa ?exB ?exA ?ty ?kp ?ini ?fnt ?fn ?code ?cell ?file ?file2 ?file3 ?opq ?sup ?below ?ga ?gg ?hd ?isC ?own
      case at_ => k_is
      case cls => k_is
      case sa => k_is
      case exB => k_is
      case exA => k_is
      case ty => k_is
      case kp => k_is
      case ini => k_is
      case fnt => k_is
      case fn => k_is
      case code => k_is
      case cell => k_is
      case file => k_is
      case file2 => rfl
      case file3 => rfl
      case opq => k_is
      case sup => first | k_is | ks_is
      case below => k_is
      case ga => k_is
      case gg => k_is
      case hd => k_is
      case isC => k_is
      case own => k_is
    case zz_fr_EO_at => k_is
    case zz_e_EP =>
      refine' Pk.ErrAt1.of ?at_ ?cls ?sa ?exB ?exA ?ty ?kp ?ini ?fnt ?fn ?code ?cell ?file ?file2 ?file3 ?opq ?sup ?below ?ga ?gg ?hd ?isC ?own
      case at_ => k_is
      case cls => k_is
      case sa => k_is
      case exB => k_is
      case exA => k_is
      case ty => k_is
      case kp => k_is
      case ini => k_is
      case fnt => k_is
      case fn => k_is
      case code => k_is
      case cell => k_is
      case file => k_is
      case file2 => rfl
      case file3 => rfl
      case opq => k_is
      case sup => first | k_is | ks_is
      case below => k_is
      case ga => k_is
      case gg => k_is
      case hd => k_is
      case isC => k_is
      case own => k_is
    case zz_fr_EP_pair => k_is
    case zz_e_EB =>
      refine' Pk.ErrAt1.of ?at_ ?cls ?sa ?exB ?exA ?ty ?kp ?ini ?fnt ?fn ?code ?cell ?file ?file2 ?file3 ?opq ?sup ?below ?ga ?gg ?hd ?isC ?own
      case at_ => k_is
      case cls => k_is
      case sa => k_is
      case exB => k_is
      case exA => k_is
      case ty => k_is
      case kp => k_is
      case ini => k_is
      case fnt => k_is
      case fn => k_is
      case code => k_is
      case cell => k_is
      case file => k_is
      case file2 => rfl
      case file3 => rfl
      case opq => k_is
      case sup => first | k_is | ks_is
      case below => k_is
      case ga => k_is
      case gg => k_is
      case hd => k_is
      case isC => k_is
      case own => k_is
    case zz_fr_EB_name => k_is
    case zz_d_DI => walk_at "pk_def"
    case zz_d_DB => walk_at "pk_def"
    case zz_d_DT => walk_at "pk_def"
    case zz_a_aL => k_is
    case zz_a_aP => k_is
    case zz_d_DO => walk_at "pk_def"
    case zz_d_DC => walk_at "pk_def"
    case zz_d_D6 => walk_at "pk_def"
    case zz_d_D7 => walk_at "pk_def"
    case zz_d_D8 => walk_at "pk_def"
    case zz_d_D10 => walk_at "pk_def"
    case zz_d_D11 => walk_at "pk_def"
    case zz_d_D12 => walk_at "pk_def"
    case zz_d_D13 => walk_at "pk_def"
    case zz_d_D14 => walk_at "pk_def"
    case zz_d_D15 => walk_at "pk_def"
    case zz_a_CO => k_is
    case zz_me_i => walk_at "pk_meth"
    case zz_me_e => walk_at "pk_meth"
    case zz_me_g => walk_at "pk_meth"
    case zz_me_h => walk_at "pk_meth"
    case zz_me_p => walk_at "pk_meth"
    case zz_me_x => walk_at "pk_meth"
    case zz_me_v => walk_at "pk_meth"
    case zz_me_t => walk_at "pk_meth"
    case zz_me_q => walk_at "pk_meth"
    case zz_O_CO =>
      refine' Pk.OwnC.of ?pg ?hd ?po ?sa ?ha ?hn ?htk ?hm ?isC ?ty ?s1 ?s2 ?s3 ?s4 ?s5 ?s6 ?s7
      case pg => k_is
      case hd => k_is
      case po => k_is
      case sa => k_is
      case ha => k_is
      case hn => k_is
      case htk => k_is
      case hm => k_is
      case isC => k_is
      case ty => k_is
      case s1 => k_is
      case s2 => k_is
      case s3 => k_is
      case s4 => k_is
      case s5 => k_is
      case s6 => k_is
      case s7 => k_is
    case zz_mk_CO => k_is
    case zz_kc_CO => k_is
    case zz_no_CO_sequence => k_is
    case zz_fi =>
      refine' Pk.fi_of ?fia ?fib
      case fia => k_is
      case fib => k_is
    case zz_ne => k_is
    case zz_x0 => k_is
    case zz_d_D16 => walk_at "pk_def"
    case zz_d_D17 => walk_at "pk_def"
    case zz_d_D18 => walk_at "pk_def"
    case zz_d_law => walk_at "pk_def"
