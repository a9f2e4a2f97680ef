import PyProof.Rows.All
import Wide.All
import OpenK.AllK
import Wide.FinOn
import HandS.ForMost
import HandS.Exc
import HandS.TryOnly
import HandS.WordsExc
import HandS.IsInst
import HandS.ExcInit
import HandS.ExcSuper
import HandS.ExcField
import HandS.Nested
import KE.KExcSuper
import HandS.Defaults
import HandS.CallSlots
import HandS.MakeKwOnly
import HandS.OwnEq
import HandS.SlotsOwn
import HandS.More
import HandS.Walk
import KE.Datum
import HandS.Wide
import PySem.Challenge.RW_pairorder_k07_amounts_added
set_option Elab.async false
set_option linter.all false
set_option maxRecDepth 100000
/-! What the laws of this program share: the reading's steps, the heap but for one object, the pool of draws. -/
namespace Pk
open PySem L2

/-! ### steps of a reading -/
section
variable {K : PySem.W.Frag} {σ : L2.St} {H : Hp} {Q : VK} {D : Ends} {ta tb te to ti : TE} {t u : TS} {tt tu : TT} {tr : TA} {i j : Nat} {v w : V} {a b : Int}
theorem r_seq (h : t { D with nx := u D } σ H) : tSeq t u D σ H := h
theorem r_nxt (h : D.nx σ H) : tNext D σ H := h
theorem r_asg {g : TG} (h : te σ H fun x H1 => g x σ H1 D.nx) : tAsg te g D σ H := h
theorem r_to {P : L2.St → Hp → Prop} (h : P (σ.set i (some v)) H) : gName i v σ H P := h
theorem r_for {wi : TI} {g : TG} (h : wi σ H fun J H1 => ∃ W : Nat → Nat → L2.St → Hp → Prop, (∃ m, W 0 m σ H1) ∧ ∀ i m σ H, W i m σ H →
    (J.stop i H ∧ D.nx σ H) ∨ (J.go i H ∧ ∃ N : L2.St → Hp → Prop, (∀ σ' H', N σ' H' → ∃ m', m' < m ∧ W (i + 1) m' σ' H') ∧ ∀ x H', J.yld i H x H' → g x σ H' fun σ2 H2 => t { D with nx := N, ct := N, bk := D.nx } σ2 H2)) : tFor wi g t D σ H := h
theorem r_lc {wi : TI} {g : TG} {vs : List Nat} (h : wi σ H fun J H1 => ∀ D, H1 D = none → ∃ W : Nat → Nat → Hp → Prop, (∃ m, W 0 m (upd H1 D (.lst []))) ∧ ∀ i m H, W i m H →
    (J.stop i H ∧ Q (.ref D) H) ∨ (J.go i H ∧ ∃ Nx : Hp → Prop, (∀ H', Nx H' → ∃ m', m' < m ∧ W (i + 1) m' H') ∧ ∀ x H', J.yld i H x H' → g x (wipe σ vs) H' fun σ2 H2 => wipe σ2 vs = wipe σ vs ∧ tt σ2 H2 fun b H3 =>
      if b = true then te σ2 H3 fun y H4 => ∃ acc, H4 D = some (.lst acc) ∧ acc.length < sizeLine ∧ Nx (upd H4 D (.lst (acc ++ [y]))) else Nx H3)) : tLc wi g tt te vs σ H Q := h
theorem r_tupI {R : It → Hp → Prop} (h : te σ H fun x H1 => ∃ l, x = .ref l ∧ (∃ xs, SqT K H1 l xs) ∧ R (Itt K l) H1) : iTup K te σ H R := h
theorem r_yes {P : Bool → Hp → Prop} (h : P true H) : tYes σ H P := h
theorem r_B {P : Bool → Hp → Prop} (h : te σ H fun x H1 => ∃ c, x = .bl c ∧ P c H1) : tB te σ H P := h
theorem r_rng1 {R : It → Hp → Prop} (h : tr σ H fun vs H1 => ∃ j : Int, vs = [.int j] ∧ -(2 ^ 62) ≤ j ∧ j < 2 ^ 62 ∧ R (Itr 0 j.toNat) H1) : iRng1 tr σ H R := h
theorem r_list {R : It → Hp → Prop} (h : te σ H fun x H1 => ∃ l, x = .ref l ∧ (∃ xs, SqL K H1 l xs) ∧ R (Itl K l) H1) : iList K te σ H R := h
theorem r_ret (h : te σ H D.rt) : tRet te D σ H := h
theorem r_drop (h : te σ H fun _ H1 => D.nx σ H1) : tDrop te D σ H := h
theorem r_ifs (h : tt σ H fun c H1 => if c = true then t D σ H1 else u D σ H1) : tIfS tt t u D σ H := h
theorem r_var (e : σ[i]? = some (some v)) (h : Q v H) : tVar i σ H Q := ⟨v, e, h⟩
theorem r_c (h : Q v H) : tC v σ H Q := h
theorem r_op {r : R2} (h : ta σ H fun x H1 => tb σ H1 fun y H2 => r x y H2 Q) : tOp r ta tb σ H Q := h
theorem r_un {r : V → Hp → VK → Prop} (h : ta σ H fun x H1 => r x H1 Q) : tUn r ta σ H Q := h
theorem r_U {g : Int → V} (h : Q (g a) H) : rU g (.int a) H Q := ⟨a, rfl, h⟩
theorem r_make {C : Addr} {sp : Sp} {dvs : List V} {E : XK} (h : tr σ H fun vs H1 => ∀ x dx, H1 x = none → H1 dx = none → dx ≠ x → sp (.ref x :: (vs ++ dvs)) (upd (upd H1 dx (.own x)) x (.ins C dx [])) (fun v H2 => v = .non ∧ Q (.ref x) H2) E) : tMake C sp dvs E tr σ H Q := h
theorem r_cat {l m : Addr} {xs zs : List V} (hl : H l = some (.lst xs)) (hm : H m = some (.lst zs)) (hz : xs.length + zs.length ≤ sizeLine) (h : ∀ p, H p = none → Q (.ref p) (upd H p (.lst (xs ++ zs)))) : rCat (.ref l) (.ref m) H Q := ⟨l, m, xs, zs, rfl, rfl, hl, hm, hz, h⟩
theorem r_sum {l : Addr} {ns : List Int} (hl : SqL K H l (ns.map V.int)) (h : Q (.int ns.sum) H) : rSum K [.ref l] H Q := ⟨l, ns, rfl, hl, h⟩
theorem r_I0 {g : Int → Int → V} (h : Q (g a b) H) : rI0 g (.int a) (.int b) H Q := ⟨a, b, rfl, rfl, h⟩
theorem r_I {C : Int → Int → Prop} {g : Int → Int → V} (c : C a b) (h : Q (g a b) H) : rI C g (.int a) (.int b) H Q := ⟨a, b, rfl, rfl, c, h⟩
theorem r_mod (c : 0 < b) (h : Q (.int (a % b)) H) : rI (fun _ j => 0 < j) (fun i j => .int (i % j)) (.int a) (.int b) H Q := r_I c h
theorem r_div (c : 0 < b) (d : b < 1073741824) (h : Q (.int (a / b)) H) : rI CDiv (fun i j => .int (i / j)) (.int a) (.int b) H Q := r_I ⟨c, d⟩ h
theorem r_mulL (c : -(2 ^ 64) < a) (d : a < 2 ^ 64) (h : Q (.int (a * b)) H) : rI CMul (fun i j => .int (i * j)) (.int a) (.int b) H Q := r_I (.inl ⟨c, d⟩) h
theorem r_mulR (c : -(2 ^ 64) < b) (d : b < 2 ^ 64) (h : Q (.int (a * b)) H) : rI CMul (fun i j => .int (i * j)) (.int a) (.int b) H Q := r_I (.inr ⟨c, d⟩) h
theorem r_pow (c : 0 ≤ b) (d : b ≤ 1000000) (e : a.natAbs < 2 ^ 64) (h : Q (.int (a ^ b.toNat)) H) : rI CPow (fun i j => .int (i ^ j.toNat)) (.int a) (.int b) H Q := r_I ⟨c, d, e⟩ h
theorem r_ixL {p : Addr} {xs : List V} (hs : SqL K H p xs) (he : atI xs a = some v) (h : Q v H) : rIxL K (.ref p) (.int a) H Q := ⟨p, xs, a, v, rfl, rfl, hs, he, h⟩
theorem r_ixT {p : Addr} {xs : List V} (hs : SqT K H p xs) (he : atI xs a = some v) (h : Q v H) : rIxT K (.ref p) (.int a) H Q := ⟨p, xs, a, v, rfl, rfl, hs, he, h⟩
theorem r_sub {s : TSet} {P : L2.St → Hp → Prop} (h : to σ H fun o H1 => ti σ H1 fun k H2 => s o k v H2 fun H3 => P σ H3) : gSub to ti s v σ H P := h
theorem r_setL {p : Addr} {xs : List V} {P : Hp → Prop} (hp : H p = some (.lst xs)) (hj : ixN xs.length a = some j) (h : P (upd H p (.lst (xs.set j v)))) : rSetL (.ref p) (.int a) v H P := ⟨p, xs, a, j, rfl, rfl, hp, hj, h⟩
theorem r_nil {R : List V → Hp → Prop} (h : R [] H) : tNil σ H R := h
theorem r_cons {R : List V → Hp → Prop} (h : ta σ H fun x H1 => tr σ H1 fun xs H2 => R (x :: xs) H2) : tCons ta tr σ H R := h
theorem r_cb {r : List V → Hp → VK → Prop} (h : tr σ H fun vs H1 => r vs H1 Q) : tCB r tr σ H Q := h
theorem r_call {sp : Sp} {dvs : List V} {E : XK} (h : tr σ H fun vs H1 => sp (vs ++ dvs) H1 Q E) : tCall sp dvs E tr σ H Q := h
theorem r_sl {r : V → Option Int → Option Int → Hp → VK → Prop} {tl th : TO} (h : te σ H fun x H1 => tl σ H1 fun l H2 => th σ H2 fun u H3 => r x l u H3 Q) : tSl r te tl th σ H Q := h
theorem r_noP {P : Option Int → Hp → Prop} (h : P none H) : tNoPart σ H P := h
theorem r_part {P : Option Int → Hp → Prop} (h : te σ H fun x H1 => ∃ i, x = .int i ∧ P (some i) H1) : tPart te σ H P := h
theorem r_isI {P : Int → Prop} (h : P a) : ∃ i, V.int a = .int i ∧ P i := ⟨a, rfl, h⟩
theorem r_lst (h : tr σ H fun xs H1 => xs.length ≤ sizeLine ∧ ∀ p, H1 p = none → Q (.ref p) (upd H1 p (.lst xs))) : tLst tr σ H Q := h
theorem r_tup (h : tr σ H fun xs H1 => xs.length ≤ sizeLine ∧ ∀ p, H1 p = none → Q (.ref p) (upd H1 p (.tup xs))) : tTup tr σ H Q := h
theorem r_test {P : Bool → Hp → Prop} (h : te σ H fun x H' => ∃ k, x = .bl k ∧ P k H') : tTest te σ H P := h
theorem r_and {P : Bool → Hp → Prop} (h : tt σ H fun c H1 => if c = true then tu σ H1 P else P false H1) : tAnd tt tu σ H P := h
theorem r_or {P : Bool → Hp → Prop} (h : tt σ H fun c H1 => if c = true then P true H1 else tu σ H1 P) : tOr tt tu σ H P := h
theorem r_not {P : Bool → Hp → Prop} (h : tt σ H fun c H1 => P (!c) H1) : tNot tt σ H P := h
theorem r_bl {P : Bool → Prop} {k : Bool} (h : P k) : ∃ c, V.bl k = .bl c ∧ P c := ⟨k, rfl, h⟩
theorem r_eq (hs : scal v w = true) (h : Q (.bl (decide (v = w))) H) : rEq v w H Q := ⟨hs, h⟩
theorem r_eqT (hs : scal v v = true) (h : Q (.bl true) H) : rEq v v H Q := ⟨hs, by rw [decide_eq_true (rfl : v = v)]; exact h⟩
theorem r_andV (h : ta σ H fun x H1 => ∃ c, x = .bl c ∧ if c = true then tb σ H1 Q else Q (.bl false) H1) : tAndV ta tb σ H Q := h
theorem r_orV (h : ta σ H fun x H1 => ∃ c, x = .bl c ∧ if c = true then Q (.bl true) H1 else tb σ H1 Q) : tOrV ta tb σ H Q := h
theorem r_notV (h : ta σ H fun x H1 => ∃ c, x = .bl c ∧ Q (.bl (!c)) H1) : tNotV ta σ H Q := h
theorem r_ne (hs : scal v w = true) (h : Q (.bl (!decide (v = w))) H) : rNe v w H Q := ⟨hs, h⟩
theorem ite_nF {A B : Prop} (h : A) : if (!false) = true then A else B := by rw [show (!false) = true from rfl, if_pos rfl]; exact h
theorem ite_nT {A B : Prop} (h : B) : if (!true) = true then A else B := by rw [show (!true) = false from rfl, if_neg Bool.false_ne_true]; exact h
theorem ite_no {c : Prop} [Decidable c] {A B : Prop} (h1 : c → A) (h2 : ¬ c → B) : if (!decide c) = true then B else A := by
  by_cases h : c
  · rw [decide_eq_true h]; exact h1 h
  · rw [decide_eq_false h]; exact h2 h
theorem ite_dec {c : Prop} [Decidable c] {A B : Prop} (h1 : c → A) (h2 : ¬ c → B) : if decide c = true then A else B := by
  by_cases h : c
  · rw [decide_eq_true h, if_pos rfl]; exact h1 h
  · rw [decide_eq_false h, if_neg Bool.false_ne_true]; exact h2 h
end

/-! ### built-ins by readings with a name -/
def rIs0 : R2 := fun x y H Q => y = .non ∧ Q (.bl (decide (x = .non))) H
def rIs1 : R2 := fun x y H Q => y = .non ∧ Q (.bl (!decide (x = .non))) H
theorem op_is0 {X : Cx} : OpR X (compareOp .Is) rIs0 := op_isN
theorem op_is1 {X : Cx} : OpR X (compareOp .IsNot) rIs1 := op_notN
theorem r_is0 {x : V} {H : Hp} {Q : VK} (h : Q (.bl (decide (x = .non))) H) : rIs0 x .non H Q := ⟨rfl, h⟩
theorem r_is1 {x : V} {H : Hp} {Q : VK} (h : Q (.bl (!decide (x = .non))) H) : rIs1 x .non H Q := ⟨rfl, h⟩
def rInt : List V → Hp → VK → Prop := fun xs H Q => ∃ n, xs = [.int n] ∧ Q (.int n) H
def rIntB : List V → Hp → VK → Prop := fun xs H Q => ∃ b, xs = [.bl b] ∧ Q (.int (if b then 1 else 0)) H
def rLen (K : PySem.W.Frag) : List V → Hp → VK → Prop := fun xs H Q => ∃ l ys, xs = [.ref l] ∧ (SqL K H l ys ∨ SqT K H l ys) ∧ Q (.int ys.length) H
theorem cl_int {X : Cx} : CallR X (.type "int") rInt := fun pins s σ H xs us Q I r h => by
  obtain ⟨n, e, q⟩ := h
  exact call_int1 pins s σ H xs us Q I r (.inl ⟨n, e, q⟩)
theorem cl_intB {X : Cx} : CallR X (.type "int") rIntB := fun pins s σ H xs us Q I r h => by
  obtain ⟨b, e, q⟩ := h
  exact call_int1 pins s σ H xs us Q I r (.inr ⟨b, e, q⟩)
def rTupOf (K : PySem.W.Frag) : List V → Hp → VK → Prop := fun xs H Q => ∃ l ys, xs = [.ref l] ∧ SqL K H l ys ∧ ∀ q, H q = none → Q (.ref q) (upd H q (.tup ys))
def rLstOf (K : PySem.W.Frag) : List V → Hp → VK → Prop := fun xs H Q => ∃ l ys, xs = [.ref l] ∧ (SqL K H l ys ∨ SqT K H l ys) ∧ ∀ q, H q = none → Q (.ref q) (upd H q (.lst ys))
theorem cl_tup {X : Cx} : CallR X (.type "tuple") (rTupOf X.K) := fun pins s σ H xs us Q I r h => by
  obtain ⟨l, ys, e, hs, q⟩ := h
  exact call_tuple_of pins s σ H xs us Q I r ⟨l, ys, e, .inl ⟨hs, q⟩⟩
theorem cl_lst {X : Cx} : CallR X (.type "list") (rLstOf X.K) := fun pins s σ H xs us Q I r h => call_list_of pins s σ H xs us Q I r h
theorem cl_len {X : Cx} : CallR X (.builtin "len") (rLen X.K) := fun pins s σ H xs us Q I r h => call_len_seq pins s σ H xs us Q I r h
section
variable {K : PySem.W.Frag} {H : Hp} {Q : VK} {l : Addr} {ys : List V}
theorem r_int {n : Int} (h : Q (.int n) H) : rInt [.int n] H Q := ⟨n, rfl, h⟩
theorem r_intB {b : Bool} (h : Q (.int (if b then 1 else 0)) H) : rIntB [.bl b] H Q := ⟨b, rfl, h⟩
theorem r_tupOf (hs : SqL K H l ys) (h : ∀ q, H q = none → Q (.ref q) (upd H q (.tup ys))) : rTupOf K [.ref l] H Q := ⟨l, ys, rfl, hs, h⟩
theorem r_lstOf (hs : SqL K H l ys) (h : ∀ q, H q = none → Q (.ref q) (upd H q (.lst ys))) : rLstOf K [.ref l] H Q := ⟨l, ys, rfl, .inl hs, h⟩
theorem r_lenL (hs : SqL K H l ys) (h : Q (.int ys.length) H) : rLen K [.ref l] H Q := ⟨l, ys, rfl, .inl hs, h⟩
theorem r_lenT (hs : SqT K H l ys) (h : Q (.int ys.length) H) : rLen K [.ref l] H Q := ⟨l, ys, rfl, .inr hs, h⟩
end

/-! ### the heap but for one object -/
/-- all that was tracked, the object at p aside, is as it was -/
def Keep (p : Addr) (H H' : Hp) : Prop := ∀ b o, b ≠ p → H b = some o → H' b = some o
section
variable {p q : Addr} {H H' H1 H2 : Hp} {o u : HO}
theorem Keep.refl : Keep p H H := fun _ _ _ h => h
theorem Keep.trans (a : Keep p H H1) (b : Keep p H1 H2) : Keep p H H2 := fun c o n h => b c o n (a c o n h)
theorem Keep.own (a : Keep p H H1) : Keep p H (upd H1 p o) := fun c v n h => by rw [upd_ne n]; exact a c v n h
theorem Keep.new (a : Keep p H H1) (hq : H1 q = none) : Keep p H (upd H1 q o) := fun c v n h => by
  have e := a c v n h
  rw [upd_ne (ne_of_none e hq)]; exact e
theorem Keep.same (s : Same H H1) : Keep p H H1 := fun c v _ h => s c v h
theorem Keep.seq {K : PySem.W.Frag} (a : Keep p H H1) {l : Addr} {xs : List V} (n : l ≠ p) (h : SqL K H l xs) : SqL K H1 l xs := by
  rcases h with (h | ⟨v, h⟩) | h
  · exact .inl (.inl (a l _ n h))
  · exact .inl (.inr ⟨v, a l _ n h⟩)
  · exact .inr h
theorem Same.up (s : Same H H1) (hq : H1 q = none) : Same H (upd H1 q o) := fun c v h => by
  have e := s c v h
  rw [upd_ne (ne_of_none e hq)]; exact e
end

/-! ### the pool of draws: at p a list of the cells' list (at c) and four ints -/
def PoolAt (H : Hp) (p c : Addr) (ns : List Int) : Prop :=
  ∃ a b s n : Int, 0 ≤ a ∧ H p = some (.lst [.ref c, .int a, .int b, .int s, .int n]) ∧ H c = some (.lst (ns.map V.int))
theorem PoolAt.ne {H : Hp} {p c : Addr} {ns : List Int} (h : PoolAt H p c ns) : c ≠ p := by
  obtain ⟨a, b, s, n, _, h1, h2⟩ := h
  intro e
  rw [e, h1] at h2
  cases ns with
  | nil => cases h2
  | cons x r =>
    have z := HO.lst.inj (Option.some.inj h2)
    rw [List.map_cons] at z
    cases (List.cons.inj z).1
/-- a store into one of its places -/
theorem PoolAt.put {H : Hp} {p c : Addr} {ns : List Int} {a b s n : Int} (ha : 0 ≤ a) (hc : H c = some (.lst (ns.map V.int))) (ne : c ≠ p) :
    PoolAt (upd H p (.lst [.ref c, .int a, .int b, .int s, .int n])) p c ns := ⟨a, b, s, n, ha, upd_same, by rw [upd_ne ne]; exact hc⟩

theorem later {H : Hp} {a q : Addr} {o u : HO} (h : H a = some o) (hq : H q = none) : upd H q u a = some o := by
  rw [upd_ne (ne_of_none h hq)]; exact h
theorem PoolAt.new {H : Hp} {p c q : Addr} {ns : List Int} {o : HO} (h : PoolAt H p c ns) (hq : H q = none) : PoolAt (upd H q o) p c ns := by
  obtain ⟨a, b, z, n, ha, hP, hC⟩ := h
  exact ⟨a, b, z, n, ha, later hP hq, later hC hq⟩
theorem PoolAt.apart {H : Hp} {p c q : Addr} {ns : List Int} (h : PoolAt H p c ns) (hq : H q = none) : q ≠ p := by
  obtain ⟨a, b, z, n, ha, hP, hC⟩ := h
  exact fun e => by rw [e, hP] at hq; cases hq
theorem PoolAt.apartC {H : Hp} {p c q : Addr} {ns : List Int} (h : PoolAt H p c ns) (hq : H q = none) : q ≠ c := by
  obtain ⟨a, b, z, n, ha, hP, hC⟩ := h
  exact fun e => by rw [e, hC] at hq; cases hq
theorem log_small {i : Int} (h : -8 < i ∧ i < 8) : i.natAbs.log2 < 1920 := by
  have e : i.natAbs < 8 := by omega
  exact Nat.lt_of_le_of_lt (Nat.log2_le_self _) (by omega)
/-- _law_mixed(pool, cell) -/
def spMix : Sp := fun vs H Q _ => ∃ (p c : Addr) (ns : List Int) (x : Int), vs = [.ref p, .int x] ∧ PoolAt H p c ns ∧
  ∀ (r : Int) (H' : Hp), 0 ≤ r → Keep p H H' → PoolAt H' p c ns → Q (.int r) H'
/-- _law_draw(pool, size) -/
def spDraw : Sp := fun vs H Q _ => ∃ (p c : Addr) (ns : List Int) (z : Int), vs = [.ref p, .int z] ∧ PoolAt H p c ns ∧ 0 < z ∧ z < 1073741824 ∧
  ∀ (r : Int) (H' : Hp), 0 ≤ r → r < z → Keep p H H' → PoolAt H' p c ns → Q (.int r) H'
/-- _law_number(pool, parts) -/
def spNum : Sp := fun vs H Q _ => ∃ (p c : Addr) (ns : List Int) (k : Int), vs = [.ref p, .int k] ∧ PoolAt H p c ns ∧ 0 ≤ k ∧ k ≤ 1000 ∧
  ∀ (r : Int) (H' : Hp), 0 ≤ r → r < 1000000 ^ k.toNat → Keep p H H' → PoolAt H' p c ns → Q (.int r) H'
/-- _law_pool(script) -/
def spPool (K : PySem.W.Frag) : Sp := fun vs H Q _ => ∃ (l : Addr) (ns : List Int), vs = [.ref l] ∧ SqL K H l (ns.map V.int) ∧ ns.length ≤ 63 ∧
  ∀ (p c : Addr) (H' : Hp), H p = none → H c = none → Same H H' → PoolAt H' p c ns → Q (.ref p) H'
theorem take_snoc {α : Type} : ∀ {l : List α} {i : Nat} {x : α}, l[i]? = some x → l.take (i + 1) = l.take i ++ [x]
  | [], i, x, h => by simp at h
  | a :: l, 0, x, h => by
    have e : a = x := Option.some.inj h
    rw [e]; rfl
  | a :: l, i + 1, x, h => by
    have ih := take_snoc (l := l) (i := i) (x := x) h
    rw [List.take_succ_cons, ih]; rfl
theorem ixN_last {α : Type} (xs : List α) (v : α) : ixN (xs ++ [v]).length (-1) = some xs.length := by
  have hl : (xs ++ [v]).length = xs.length + 1 := by simp
  unfold ixN
  rw [hl, if_neg (by decide), if_pos (by omega)]
  congr 1
  omega
theorem ixN_nat {n j : Nat} (h : j < n) : ixN n (j : Int) = some j := by
  unfold ixN
  rw [if_pos (by omega), if_pos (by omega)]
  simp
theorem set_last {α : Type} (xs : List α) (v u : α) : (xs ++ [v]).set xs.length u = xs ++ [u] := by simp
theorem cut_all {xs : List V} {n : Nat} (h : xs.length ≤ n) : cutV xs none (some (n : Int)) = xs := by
  have e1 : HT.sIx xs.length 0 none = 0 := rfl
  have e2 : HT.sIx xs.length xs.length (some (n : Int)) = xs.length := by
    rw [HT.sIx_nat]
    exact Nat.min_eq_right h
  unfold cutV
  rw [e1, e2, Nat.sub_zero, List.drop_zero, List.take_length]
end Pk
set_option Elab.async false
set_option linter.all false
set_option maxRecDepth 100000
set_option maxHeartbeats 1000000
/-! Data of lists and tuples of bounded depth; copies of it that share no list. -/
namespace Pk
open PySem L2
/-- nested at most n deep, no list or tuple longer than 1000 -/
inductive Deep : Nat → PyData → Prop
  | non {n : Nat} : Deep n .none
  | bl {n : Nat} (b : Bool) : Deep n (.bool b)
  | int {n : Nat} (i : Int) : Deep n (.int i)
  | str {n : Nat} (z : Str) : Deep n (.str z)
  | lst {n : Nat} {ds : List PyData} (h : ∀ d ∈ ds, Deep n d) (z : ds.length ≤ 1000) : Deep (n + 1) (.list ds)
  | tup {n : Nat} {ds : List PyData} (h : ∀ d ∈ ds, Deep n d) (z : ds.length ≤ 1000) : Deep (n + 1) (.tuple ds)
theorem Deep.mono {n m : Nat} {d : PyData} (h : Deep n d) (l : n ≤ m) : Deep m d := by
  induction h generalizing m with
  | non => exact .non
  | bl b => exact .bl b
  | int i => exact .int i
  | str z => exact .str z
  | lst h z ih =>
    obtain ⟨k, rfl⟩ : ∃ k, m = k + 1 := ⟨m - 1, by omega⟩
    exact .lst (fun d hd => ih d hd (by omega)) z
  | tup h z ih =>
    obtain ⟨k, rfl⟩ : ∃ k, m = k + 1 := ⟨m - 1, by omega⟩
    exact .tup (fun d hd => ih d hd (by omega)) z
/-- v is the data d in H, and every list and tuple of it is new: not tracked in H0 -/
inductive Own (H0 H : Hp) : V → PyData → Prop
  | non : Own H0 H .non .none
  | bl (b : Bool) : Own H0 H (.bl b) (.bool b)
  | int (i : Int) : Own H0 H (.int i) (.int i)
  | str (z : Str) : Own H0 H (.str z) (.str z)
  | lst {a : Addr} {xs : List V} {ds : List PyData} (n : H0 a = none) (h : H a = some (.lst xs)) (hl : xs.length = ds.length) (hs : ∀ (i : Nat) (v : V) (d : PyData), xs[i]? = some v → ds[i]? = some d → Own H0 H v d) : Own H0 H (.ref a) (.list ds)
  | tup {a : Addr} {xs : List V} {ds : List PyData} (n : H0 a = none) (h : H a = some (.tup xs)) (hl : xs.length = ds.length) (hs : ∀ (i : Nat) (v : V) (d : PyData), xs[i]? = some v → ds[i]? = some d → Own H0 H v d) : Own H0 H (.ref a) (.tuple ds)
theorem Own.mono {H0 H H0' H' : Hp} {v : V} {d : PyData} (o : Own H0 H v d) (f : ∀ a, H0 a = none → H a ≠ none → H0' a = none) (k : ∀ a u, H0 a = none → H a = some u → (∃ xs, u = .lst xs ∨ u = .tup xs) → H' a = some u) : Own H0' H' v d := by
  induction o with
  | non => exact .non
  | bl b => exact .bl b
  | int i => exact .int i
  | str z => exact .str z
  | lst n h hl _ ih => exact .lst (f _ n (by rw [h]; exact Option.some_ne_none _)) (k _ _ n h ⟨_, .inl rfl⟩) hl fun i v d e1 e2 => ih i v d e1 e2
  | tup n h hl _ ih => exact .tup (f _ n (by rw [h]; exact Option.some_ne_none _)) (k _ _ n h ⟨_, .inr rfl⟩) hl fun i v d e1 e2 => ih i v d e1 e2
theorem Own.later {H0 H H' : Hp} {v : V} {d : PyData} (o : Own H0 H v d) (s : Same H H') : Own H0 H' v d := o.mono (fun _ n _ => n) fun a u _ h _ => s a u h
/-- made later than H0, so also later than what H0 has grown from -/
theorem Own.back {H0 H1 H : Hp} {v : V} {d : PyData} (o : Own H1 H v d) (s : Same H0 H1) : Own H0 H v d := by
  induction o with
  | non => exact .non
  | bl b => exact .bl b
  | int i => exact .int i
  | str z => exact .str z
  | lst n h hl _ ih => exact .lst (s.free n) h hl ih
  | tup n h hl _ ih => exact .tup (s.free n) h hl ih
theorem dpAll_of {K : PySem.W.Frag} {H : Hp} : ∀ {xs : List V} {ds : List PyData}, xs.length = ds.length → (∀ (i : Nat) (v : V) (d : PyData), xs[i]? = some v → ds[i]? = some d → Dp K H v d) → DpAll K H xs ds
  | [], [], _, _ => .nil
  | [], _ :: _, h, _ => by cases h
  | _ :: _, [], h, _ => by cases h
  | x :: xs, d :: ds, h, k => .cons (k 0 x d rfl rfl) (dpAll_of (Nat.succ.inj h) fun i v e e1 e2 => k (i + 1) v e e1 e2)
theorem dpAll_len {K : PySem.W.Frag} {H : Hp} : ∀ {xs : List V} {ds : List PyData}, DpAll K H xs ds → xs.length = ds.length
  | _, _, .nil => rfl
  | _, _, .cons _ t => congrArg Nat.succ (dpAll_len t)
theorem dpAll_at {K : PySem.W.Frag} {H : Hp} : ∀ {xs : List V} {ds : List PyData} {i : Nat} {v : V}, DpAll K H xs ds → xs[i]? = some v → ∃ d, ds[i]? = some d ∧ Dp K H v d
  | _, _, _, _, .nil, e => by simp at e
  | _, _, 0, _, .cons h _, e => ⟨_, rfl, by have z := Option.some.inj e; subst z; exact h⟩
  | _, _, i + 1, _, .cons _ t, e => dpAll_at (i := i) t e
theorem Own.dp {K : PySem.W.Frag} {H0 H : Hp} {v : V} {d : PyData} (o : Own H0 H v d) : Dp K H v d := by
  induction o with
  | non => exact .non
  | bl b => exact .bl b
  | int i => exact .int i
  | str z => exact .str z
  | lst n h hl _ ih => exact .lst (SqL.of h) (dpAll_of hl ih)
  | tup n h hl _ ih => exact .tup (SqT.of h) (dpAll_of hl ih)
/-- lists, tuples and what is locked -/
def IsLT (u : HO) : Prop := (∃ xs, u = .lst xs) ∨ (∃ xs, u = .tup xs) ∨ ∃ o z, u = .frz o z
/-- these are as they were -/
def SameD (H H' : Hp) : Prop := ∀ a u, IsLT u → H a = some u → H' a = some u
theorem SameD.of {H H' : Hp} (s : Same H H') : SameD H H' := fun a u _ h => s a u h
theorem SameD.trans {H H1 H2 : Hp} (a : SameD H H1) (b : SameD H1 H2) : SameD H H2 := fun c u l h => b c u l (a c u l h)
theorem SameD.seqL {K : PySem.W.Frag} {H H' : Hp} (s : SameD H H') {a : Addr} {xs : List V} (h : SqL K H a xs) : SqL K H' a xs := by
  rcases h with (h | ⟨o, h⟩) | h
  · exact .inl (.inl (s _ _ (.inl ⟨_, rfl⟩) h))
  · exact .inl (.inr ⟨o, s _ _ (.inr (.inr ⟨_, _, rfl⟩)) h⟩)
  · exact .inr h
theorem SameD.seqT {K : PySem.W.Frag} {H H' : Hp} (s : SameD H H') {a : Addr} {xs : List V} (h : SqT K H a xs) : SqT K H' a xs := by
  rcases h with (h | ⟨o, h⟩) | h
  · exact .inl (.inl (s _ _ (.inr (.inl ⟨_, rfl⟩)) h))
  · exact .inl (.inr ⟨o, s _ _ (.inr (.inr ⟨_, _, rfl⟩)) h⟩)
  · exact .inr h
mutual
theorem Dp.laterD {K : PySem.W.Frag} {H H' : Hp} (s : SameD H H') : ∀ {v : V} {d : PyData}, Dp K H v d → Dp K H' v d
  | _, _, .non => .non
  | _, _, .bl b => .bl b
  | _, _, .int i => .int i
  | _, _, .str z => .str z
  | _, _, .lst h t => .lst (s.seqL h) (DpAll.laterD s t)
  | _, _, .tup h t => .tup (s.seqT h) (DpAll.laterD s t)
theorem DpAll.laterD {K : PySem.W.Frag} {H H' : Hp} (s : SameD H H') : ∀ {xs : List V} {ds : List PyData}, DpAll K H xs ds → DpAll K H' xs ds
  | _, _, .nil => .nil
  | _, _, .cons h t => .cons (Dp.laterD s h) (DpAll.laterD s t)
end
theorem Dp.later {K : PySem.W.Frag} {H H' : Hp} (s : Same H H') {v : V} {d : PyData} (h : Dp K H v d) : Dp K H' v d := Dp.laterD (.of s) h
theorem DpAll.later {K : PySem.W.Frag} {H H' : Hp} (s : Same H H') {xs : List V} {ds : List PyData} (h : DpAll K H xs ds) : DpAll K H' xs ds := DpAll.laterD (.of s) h
/-- the built-in class of a piece of data -/
def kindOf : PyData → String
  | .none => "NoneType" | .bool _ => "bool" | .int _ => "int" | .str _ => "str" | .list _ => "list" | .tuple _ => "tuple" | _ => "object"
theorem Dp.kind {K : PySem.W.Frag} {H : Hp} {v : V} {d : PyData} (h : Dp K H v d) : TyX K H v (.type (kindOf d)) := by
  cases h with
  | non => exact .base .non
  | bl b => exact .base (.bl b)
  | int i => exact .base (.int i)
  | str z => exact .base (.str z)
  | lst h _ =>
    rcases h with (h | ⟨o, h⟩) | ⟨o, its, n, h, c, _⟩
    · exact .base (.lst h)
    · exact .base (.frz h)
    · exact .kList h c
  | tup h _ =>
    rcases h with (h | ⟨o, h⟩) | ⟨o, its, n, h, c, _⟩
    · exact .base (.tup h)
    · exact .fTuple h
    · exact .kTuple h c
/-- isinstance(x, T), T a built-in class -/
theorem r_isi {K : PySem.W.Frag} {H : Hp} {Q : VK} {x : V} {a b : String} {r : Bool} (t : TyX K H x (.type a)) (e : kitB a b = some r) (h : Q (.bl r) H) : rIsi K [x, .ty b] H Q := ⟨x, .ty b, _, _, r, rfl, .ty b, t, kit_ty e, h⟩
/-- own_copy(value), for data at most n deep -/
def spCopy (K : PySem.W.Frag) (n : Nat) : Sp := fun vs H Q _ => ∃ (v : V) (d : PyData), vs = [v] ∧ Dp K H v d ∧ Deep n d ∧ ∀ (v' : V) (H' : Hp), Same H H' → Own H H' v' d → Q v' H'
/-- _law_same(a, b) of two values that are the same data -/
def spSame (K : PySem.W.Frag) (n : Nat) : Sp := fun vs H Q _ => ∃ (a b : V) (d : PyData), vs = [a, b] ∧ Dp K H a d ∧ Dp K H b d ∧ Deep n d ∧ Q (.bl true) H
theorem kit_list (d : PyData) : ∃ r, kitB (kindOf d) "list" = some r ∧ (r = true ↔ ∃ ds, d = .list ds) := by
  cases d with
  | none => exact ⟨false, (by decide +kernel : kitB "NoneType" "list" = some false), ⟨(fun z => by cases z), (fun z => by obtain ⟨_, z⟩ := z; cases z)⟩⟩
  | bool b => exact ⟨false, (by decide +kernel : kitB "bool" "list" = some false), ⟨(fun z => by cases z), (fun z => by obtain ⟨_, z⟩ := z; cases z)⟩⟩
  | int i => exact ⟨false, (by decide +kernel : kitB "int" "list" = some false), ⟨(fun z => by cases z), (fun z => by obtain ⟨_, z⟩ := z; cases z)⟩⟩
  | str z => exact ⟨false, (by decide +kernel : kitB "str" "list" = some false), ⟨(fun z => by cases z), (fun z => by obtain ⟨_, z⟩ := z; cases z)⟩⟩
  | list ds => exact ⟨true, (by decide +kernel : kitB "list" "list" = some true), ⟨fun _ => ⟨ds, rfl⟩, fun _ => rfl⟩⟩
  | tuple ds => exact ⟨false, (by decide +kernel : kitB "tuple" "list" = some false), ⟨(fun z => by cases z), (fun z => by obtain ⟨_, z⟩ := z; cases z)⟩⟩
  | dict kv => exact ⟨false, (by decide +kernel : kitB "object" "list" = some false), ⟨(fun z => by cases z), (fun z => by obtain ⟨_, z⟩ := z; cases z)⟩⟩
theorem kit_tuple (d : PyData) : ∃ r, kitB (kindOf d) "tuple" = some r ∧ (r = true ↔ ∃ ds, d = .tuple ds) := by
  cases d with
  | none => exact ⟨false, (by decide +kernel : kitB "NoneType" "tuple" = some false), ⟨(fun z => by cases z), (fun z => by obtain ⟨_, z⟩ := z; cases z)⟩⟩
  | bool b => exact ⟨false, (by decide +kernel : kitB "bool" "tuple" = some false), ⟨(fun z => by cases z), (fun z => by obtain ⟨_, z⟩ := z; cases z)⟩⟩
  | int i => exact ⟨false, (by decide +kernel : kitB "int" "tuple" = some false), ⟨(fun z => by cases z), (fun z => by obtain ⟨_, z⟩ := z; cases z)⟩⟩
  | str z => exact ⟨false, (by decide +kernel : kitB "str" "tuple" = some false), ⟨(fun z => by cases z), (fun z => by obtain ⟨_, z⟩ := z; cases z)⟩⟩
  | list ds => exact ⟨false, (by decide +kernel : kitB "list" "tuple" = some false), ⟨(fun z => by cases z), (fun z => by obtain ⟨_, z⟩ := z; cases z)⟩⟩
  | tuple ds => exact ⟨true, (by decide +kernel : kitB "tuple" "tuple" = some true), ⟨fun _ => ⟨ds, rfl⟩, fun _ => rfl⟩⟩
  | dict kv => exact ⟨false, (by decide +kernel : kitB "object" "tuple" = some false), ⟨(fun z => by cases z), (fun z => by obtain ⟨_, z⟩ := z; cases z)⟩⟩
theorem kit_dict {n : Nat} {d : PyData} (h : Deep n d) : kitB (kindOf d) "dict" = some false := by
  cases h with
  | non => exact (by decide +kernel : kitB "NoneType" "dict" = some false)
  | bl b => exact (by decide +kernel : kitB "bool" "dict" = some false)
  | int i => exact (by decide +kernel : kitB "int" "dict" = some false)
  | str z => exact (by decide +kernel : kitB "str" "dict" = some false)
  | lst h z => exact (by decide +kernel : kitB "list" "dict" = some false)
  | tup h z => exact (by decide +kernel : kitB "tuple" "dict" = some false)
end Pk
set_option Elab.async false
set_option linter.all false
set_option maxRecDepth 100000
set_option maxHeartbeats 1000000
/-! Error classes two steps below ArithmeticError, made by an __init__ that calls super().__init__ first and then stores fields. -/
namespace Pk
open PySem L2 PySem.Spec PyProof.Rows
abbrev arT : List Value := [.type "ArithmeticError", .type "Exception", .type "BaseException", .type "object"]
theorem arT_has {C pe : Addr} {z : String} (h : arT.contains (.type z) = true) : (Value.ref C :: .ref pe :: arT).contains (.type z) = true := by
  rw [List.contains_cons, List.contains_cons, h, Bool.or_true, Bool.or_true]
theorem arT_same {pe : Addr} (z : String) : (Value.ref pe :: arT).contains (.type z) = arT.contains (.type z) := by
  rw [List.contains_cons]
  simp
section
open PySem.W PySem.Calls Builtin Builtin.ObjectAttr
variable {prog : Program} {w : World} {A : Around} {R : Result → Shared → Prop} {hp : Heap} {g : Array GenState} {dn : Drawn} {tk : Nat} {os : OsState} {K : W.Frag} {nm : Str} {nt : Tok} {v : Value} {x C pe : Addr} {cd : ClassData}
/-- object.__setattr__ of such an error, up to the store in its own dict -/
theorem sa_head {ox : Obj} {od : Option Obj} (kin : K.In hp) (inst : W.InstAt hp x ox C od) (hcd : W.clsIn K C = some cd) (mro : cd.mro = .ref C :: .ref pe :: arT) (free : W.findIn K (.ref C) nm = some none)
    (go : wpAny (model prog w) A.in1 (storeInOwnDict (.ref x) (.ref C) (.str nm nt) nm v false) (fun fn st => match fn with
        | .done r => R (.ok r) st
        | .again c => c.quiet = true ∧ codeAny (model prog w) A c R st) (fun er st => R (.error er) st) ⟨hp, g, dn, tk, os⟩) :
    codeAny (model prog w) A (.call (.builtin "object.__setattr__") ⟨[.ref x, .str nm nt, v], []⟩) R ⟨hp, g, dn, tk, os⟩ := by
  have so := PySem.F.store_object
  have isO : W.mroIn K C (.type "object") = some true := by
    unfold W.mroIn
    rw [hcd, Option.bind_some, mro, if_neg (show ¬ (List.isEmpty (Value.ref C :: .ref pe :: arT) = true) from Bool.false_ne_true), arT_has (by decide +kernel)]
  have below : W.Looks (model prog w) hp (isInstance (.ref x) (.type "object")) true := inst.type.andThen (W.looks_mroIn kin isO)
  have line : W.Looks (model prog w) hp (mroOf (.ref C)) cd.mro := (W.looks_clsIn kin hcd).andThen .now
  have loop : refuseLoop (.ref x) "__setattr__" cd.mro = pure () := by
    rw [mro, refuseLoop_ref, refuseLoop_ref]
    exact PySem.F.store_ArithmeticError.passes _
  have no3 : W.Looks (model prog w) hp (storeTaker? none) none := .now
  refine codeAny_call_builtin so.slot.plain so.entry (@W.check_slot (model prog w) _ _ ⟨hp, g, dn, tk, os⟩ "object.__setattr__" "object" "__setattr__" (.ref x) [.str nm nt, v] [] _ so.kind so.split below (so.args (.ref x) (.str nm nt) v) ?_)
  rw [W.osa_eq, refuse_eq]
  refine wpAny_bind (wpAny_bind (inst.type.at (wpAny_bind (line.at ?_)))); rw [loop]
  exact wpAny_pure (wpAny_bind (inst.type.at (wpAny_bind ((W.looks_findIn kin free).at (wpAny_bind (no3.at go))))))
/-- the first field: the dict is made -/
theorem sa_first {fv : Array Value} (kin : K.In hp) (hx : hp.get? x = some { cls := .ref C, data := .fields fv }) (hcd : W.clsIn K C = some cd) (mro : cd.mro = .ref C :: .ref pe :: arT) (hasD : cd.hasDict = true) (free : W.findIn K (.ref C) nm = some none)
    (done : ∀ h2 t2 dx, (∀ b o, b ≠ x → hp.get? b = some o → h2.get? b = some o) → hp.objs.size ≤ dx → dx ≠ x → h2.get? x = some { cls := .ref C, dict := some dx, data := .fields fv } →
      h2.Ns1 dx (fun y => if y = nm then some v else none) → R (.ok (.ret .none)) ⟨h2, g, dn, t2, os⟩) :
    codeAny (model prog w) A (.call (.builtin "object.__setattr__") ⟨[.ref x, .str nm nt, v], []⟩) R ⟨hp, g, dn, tk, os⟩ := by
  have away : x ≠ hp.objs.size := Nat.ne_of_lt (Heap.lt_size hx)
  refine sa_head kin (ox := { cls := .ref C, data := .fields fv }) (od := none) ⟨hx, rfl, rfl, trivial⟩ hcd mro free ?_
  have look : W.Looks (model prog w) hp (classData C) cd := W.looks_clsIn kin hcd
  obtain ⟨c1, c2, c3, c4, c5, hd, c7, c8, c9, c10, c11⟩ := cd
  dsimp only at hasD
  subst hasD
  unfold storeInOwnDict ownDictForStores
  repeat (first | with_reducible refine HandSPX.store_in_new ?_ ?_ | with_reducible refine wpAny_loadPart_at hx ?_ | with_reducible refine look.at ?_ | wp_step)
  · exact ⟨_, #[], _, (Heap.get?_update_ne _ _ _ _ away.symm).trans (Heap.get?_push_at rfl rfl), rfl, fun e he => absurd he (by simp), fun _ => rfl⟩
  · intro h2 t2 ns sb
    have pushed : (hp.push { cls := .type "dict", data := .dict #[] }).get? x = some { cls := .ref C, data := .fields fv } := Heap.get?_push_of_some _ hx
    exact done h2 t2 hp.objs.size (fun b o hb ho => (sb.2 b (Nat.ne_of_lt (Heap.lt_size ho))).trans ((Heap.get?_update_ne _ _ _ _ hb).trans (Heap.get?_push_of_some _ ho))) (Nat.le_refl _) away.symm ((sb.2 x away).trans (Heap.get?_update_self _ pushed rfl)) ns
/-- a further field -/
theorem sa_more {fv : Array Value} {dx : Addr} {m0 : Str → Option Value} {nl : List Str} (kin : K.In hp) (hx : hp.get? x = some { cls := .ref C, dict := some dx, data := .fields fv }) (ns : hp.Ns1 dx m0) (wi : Within m0 nl) (few : nl.length ≤ 1000)
    (hcd : W.clsIn K C = some cd) (mro : cd.mro = .ref C :: .ref pe :: arT) (hasD : cd.hasDict = true) (free : W.findIn K (.ref C) nm = some none)
    (done : ∀ h2 t2, (∀ b o, b ≠ dx → hp.get? b = some o → h2.get? b = some o) → h2.Ns1 dx (fun y => if y = nm then some v else m0 y) → R (.ok (.ret .none)) ⟨h2, g, dn, t2, os⟩) :
    codeAny (model prog w) A (.call (.builtin "object.__setattr__") ⟨[.ref x, .str nm nt, v], []⟩) R ⟨hp, g, dn, tk, os⟩ := by
  obtain ⟨oD, _, _, hoD, _, _⟩ := ns.count wi
  refine sa_head kin (ox := { cls := .ref C, dict := some dx, data := .fields fv }) (od := some oD) ⟨hx, rfl, rfl, hoD⟩ hcd mro free ?_
  have look : W.Looks (model prog w) hp (classData C) cd := W.looks_clsIn kin hcd
  obtain ⟨c1, c2, c3, c4, c5, hd, c7, c8, c9, c10, c11⟩ := cd
  dsimp only at hasD
  subst hasD
  unfold storeInOwnDict ownDictForStores
  repeat (first | with_reducible refine PySem.ESX.store_in_old ns wi few ?_ | with_reducible refine wpAny_loadPart_at hx ?_ | with_reducible refine look.at ?_ | wp_step)
  exact fun h2 t2 n2 sb => done h2 t2 (fun b o hb ho => (sb.2 b hb).trans ho) n2
end

/-- what the written part says of an error class at C -/
structure ErrC (K : PySem.W.Frag) (C : Addr) : Prop where
  cls : ∃ pe nm q N bs sn sub ab col dd k0 k1 k2 k3 k5, K.lookup C = some (excClassObj nm q C N bs (.ref pe :: arT) true sn sub ab col dd k0 k1 k2 k3 k5 "ArithmeticError.__new__")
  sa : PySem.W.findIn K (.ref C) "__setattr__" = some (some (.builtin "object.__setattr__"))
  exB : PySem.W.subIn K (.ref C) (.type "BaseException") = some true
  exA : PySem.W.subIn K (.ref C) (.type "ArithmeticError") = some true
  ty : PySem.W.typeIn K (.ref C) = some (.type "type")
  kp : PySem.W.keepIn K (.ref C) = true
section
variable {X : Cx} {pins : List (Addr × Obj)} {σ : L2.St} {H : Hp} {s : Shared} {a C dx : Addr} {f : Str} {y : V} {u : Value} {fs : List (Str × V)} {Q : Unit → Shared → Prop} {E : Value → Shared → Prop} {A : Around}
theorem ErrC.data {K : PySem.W.Frag} (T : ErrC K C) : ∃ pe cd, PySem.W.clsIn K C = some cd ∧ cd.mro = .ref C :: .ref pe :: arT ∧ cd.hasDict = true := by
  obtain ⟨pe, nm, q, N, bs, sn, sub, ab, col, dd, k0, k1, k2, k3, k5, hC⟩ := T.cls
  exact ⟨pe, { name := nm, bases := bs, mro := .ref C :: .ref pe :: arT, ns := N, qualname := q, hasDict := true, slotNames := sn, subclasses := sub, abstract := ab, collection := col, hasDel := false }, by unfold PySem.W.clsIn; rw [hC] <;> rfl, rfl, rfl⟩
theorem not_at {H : Hp} {b c : Addr} {o : HO} (h : H b = some o) (n : H c = none) : c ≠ b := fun z => by
  rw [z, h] at n
  cases n
/-- self.f = y where the error has no dict as yet -/
theorem err_first (T : ErrC X.K C) (I : Inv X pins σ H s) (e : H a = some (exo a C none)) (free : PySem.W.findIn X.K (.ref C) f = some none) (ry : RelV y u)
    (go : ∀ dx st, H dx = none → dx ≠ a → Inv X pins σ (upd (upd H dx (exd dx [(f, y)])) a (exo a C (some dx))) st → Q () st) : wpAny (model X.prog X.w) A (setAttr (.ref a) f u) Q E s := by
  obtain ⟨pe, cd, hcl, hm, hh⟩ := T.data
  obtain ⟨t1, ho⟩ := exo_at I.hok e
  obtain ⟨hp, g, d, t, os⟩ := s
  refine PySem.W.set_plain I.kIn (od := none) (ox := { cls := .ref C, dict := none, data := .fields #[.ref t1, .none, .none, .none, .bool false, .none] }) ⟨ho, rfl, rfl, trivial⟩ T.sa (sa_first I.kIn ho hcl hm hh free fun h2 t2 dx k lt ne hx hn => ?_)
  have hnd : H dx = none := I.hok.fresh lt
  have old : ∀ {b : Addr} {o : Obj}, hp.get? b = some o → b ≠ dx := fun {b o} q => Nat.ne_of_lt (Nat.lt_of_lt_of_le (Heap.lt_size q) lt)
  have stay : ∀ {b : Addr} {o : HO}, H b = some o → exo a C none ≠ o → upd (upd H dx (exd dx [(f, y)])) a (exo a C (some dx)) b = some o := fun {b o} q ne => by
    rw [upd_ne (at_ne e q ne), upd_ne (ne_of_none q hnd)]; exact q
  have U : Un X.fs [] H (upd (upd H dx (exd dx [(f, y)])) a (exo a C (some dx))) hp h2 := {
    keep := fun b o q n _ _ => k b o (not_at e n) q
    slot := fun b o q n _ _ => ⟨o.slots, k b o (not_at e n) q⟩
    free := fun b o q n _ => by rw [upd_ne (not_at e n), upd_ne (old q)]; exact n
    there := fun b o q _ => by
      by_cases hb : b = a
      · exact ⟨_, hb ▸ hx⟩
      · exact ⟨o, k b o hb q⟩
    tups := fun b xs q => stay q exo_tup
    frzs := fun b o v q => stay q exo_frz
    tbls := fun b ps q => ⟨#[], by rw [stay q exo_tbl]; simp⟩ }
  refine go dx _ hnd ne (I.un (t' := t2) U fun b o q => ?_)
  by_cases hb : b = a
  · subst hb; rw [upd_same] at q; cases q; exact exo_ok hx
  · rw [upd_ne hb] at q
    by_cases hd : b = dx
    · subst hd; rw [upd_same] at q; cases q
      exact exd_ok hn (relO_put (fs := []) ry fun _ => True.intro)
    · rw [upd_ne hd] at q
      refine (I.hok b o q).stay (fun c v hc z => k c v ?_ z) (fun c hc => stay hc exo_own) fun c xs hc => stay hc exo_tup
      rcases hc with hc | hc
      · exact hc ▸ hb
      · exact at_ne e hc exo_own
/-- self.f = y, a further field -/
theorem err_more (T : ErrC X.K C) (I : Inv X pins σ H s) (e : H a = some (exo a C (some dx))) (ed : H dx = some (exd dx fs)) (few : fs.length ≤ 900) (free : PySem.W.findIn X.K (.ref C) f = some none) (ry : RelV y u)
    (go : ∀ st, Inv X pins σ (upd H dx (exd dx ((f, y) :: fs))) st → Q () st) : wpAny (model X.prog X.w) A (setAttr (.ref a) f u) Q E s := by
  obtain ⟨pe, cd, hcl, hm, hh⟩ := T.data
  obtain ⟨t1, ho⟩ := exo_at I.hok e
  obtain ⟨mA, hns, rel⟩ := exd_at I.hok ed
  have hw := within_of rel
  obtain ⟨hp, g, d, t, os⟩ := s
  obtain ⟨oD, _, _, hoD, _, _⟩ := hns.count hw
  refine PySem.W.set_plain I.kIn (od := some oD) (ox := { cls := .ref C, dict := some dx, data := .fields #[.ref t1, .none, .none, .none, .bool false, .none] }) ⟨ho, rfl, rfl, hoD⟩ T.sa (sa_more I.kIn ho hns hw (by rw [List.length_map]; omega) hcl hm hh free fun h2 t2 k hn => ?_)
  have there : ∃ o, h2.get? dx = some o := ⟨_, hn.choose_spec.choose_spec.choose_spec.1⟩
  exact go _ (I.write (t' := t2) (x := dx) (e := dx) (o := exd dx ((f, y) :: fs)) (by rw [ed]; exact True.intro) (.inl rfl) k there (exd_ok hn (relO_put ry rel)))
end
/-- self.f = e in the __init__ of such an error -/
def tErrSet (K : PySem.W.Frag) (f : Str) (to te : TE) : TS := fun D σ H => te σ H fun y H1 => to σ H1 fun x H2 => ∃ a C : Addr, x = .ref a ∧ ErrC K C ∧ PySem.W.findIn K (.ref C) f = some none ∧
  ((H2 a = some (exo a C none) ∧ ∀ dx, H2 dx = none → dx ≠ a → D.nx σ (upd (upd H2 dx (exd dx [(f, y)])) a (exo a C (some dx)))) ∨
   (∃ (dx : Addr) (fs : List (Str × V)), H2 a = some (exo a C (some dx)) ∧ H2 dx = some (exd dx fs) ∧ fs.length ≤ 900 ∧ D.nx σ (upd H2 dx (exd dx ((f, y) :: fs)))))
theorem ps_errSet {X : Cx} {o e : Expr} {to te : TE} {f : Str} {p' pos : Pos} (ho : PE X o to) (he : PE X e te) (hs : swapsWith e (some (.Attribute o f p')) pos.line X.env = pure false := by rfl) : PS X (.Assign [.Attribute o f p'] e pos) (tErrSet X.K f to te) := by
  refine ⟨fun pins s σ H D I h => plainObj_wpAny_Assign_Attribute (thn (he.run pins s σ H _ I h) fun v s1 ⟨y, H1, I1, r1, q1⟩ => thn (ho.run pins s1 σ H1 _ I1 q1) fun u s2 ⟨x, H2, I2, r2, a, C, ex, T, free, q⟩ => ?_) hs⟩
  subst ex
  obtain rfl : u = Value.ref a := r2
  rcases q with ⟨ea, q⟩ | ⟨dx, fs, ea, ed, few, q⟩
  · exact err_first T I2 ea free r1 fun dx st n ne J => ⟨σ, _, J, q dx n ne⟩
  · exact err_more T I2 ea ed few free r1 fun st J => ⟨σ, _, J, q⟩
end Pk
set_option Elab.async false
set_option linter.all false
set_option maxRecDepth 100000
set_option maxHeartbeats 1000000
namespace Pk
open PySem L2 PySem.Spec PyProof.Rows
/-- the __init__ at fI of the error class at C: F its words, cc the cell of the class -/
structure InitFn (P : Program) (K : PySem.W.Frag) (C fI cc : Addr) (F : NdefX.NF) : Prop where
  fn : ∃ (oc : Value) (od : Option Addr) (kV doc pm : Value) (an : Option Addr) (ct : Value) (osl : Array (Option Value)), K.lookup fI = some ⟨oc, od, .func (PySem.W.fnX F.name F.qual F.params F.body F.scope F.cl .none kV doc pm an (.ref F.c) ct), osl⟩
  code : PySem.W.codeIn K (.ref F.c) F.qual = true
  cl : F.cl = [(("__class__" : Str), cc)]
  cell : ∃ (a : Value) (b : Option Addr) (c : Array (Option Value)), K.lookup cc = some ⟨a, b, .cell (some (.ref C)), c⟩
  file : ∃ (a : Value) (b : Option Addr) (vs : Array Value) (c : Array (Option Value)) (f : Str) (t : Tok), K.lookup F.c = some ⟨a, b, .fields vs, c⟩ ∧ vs[2]? = some (.str f t) ∧ ((P.main.file : Str) == f) = true
  top : (P.main.scope.names.lookup ("super" : Str)).isSome = false
  opq : PySem.W.nsIn K cStatics "thirdparty.any" = some none
  self : ∃ q, (F.params.posonlyargs ++ F.params.args).head? = some { arg := "self", annotation := none, pos := q }
  sup : PySem.W.ks_superIn K C C "__init__" = some (some (.builtin "ArithmeticError.__init__"))
  below : PySem.W.mroIn K C (.ref C) = some true
section
open PySem.W PySem.Calls
variable {P : Program} {w : World} {K : PySem.W.Frag} {mg : Str → Option Value} {base : Heap} {CX : CXT} {C fI cc : Addr} {F : NdefX.NF} {N ps : List Str} {A : Around} {outer : List Env} {s : Shared} {H : Hp} {Q : VK} {E : XK} {k : Nat}
/-- super().__init__(text): the error's own arguments are laid anew, nothing else is changed -/
theorem sup_init {X : Cx} {pins : List (Addr × Obj)} {σ : L2.St} {H : Hp} {s : Shared} {x u : Addr} {us : List Value} {Qv : Value → Shared → Prop} (T : ErrC X.K C) (I : Inv X pins σ H s) (ex : H x = some (exo x C none)) (hu : s.heap.get? u = some (kxs_mw "ArithmeticError.__init__" x)) (hz : us.length ≤ sizeLine)
    (go : ∀ st, Inv X pins σ H st → Qv .none st) : wpAny (model X.prog X.w) X.A (call (.ref u) us) Qv X.xe s := by
  obtain ⟨pe, nm, q, NN, bs, sn, sub, ab, col, dd, k0, k1, k2, k3, k5, hC⟩ := T.cls
  obtain ⟨t1, ho⟩ := exo_at I.hok ex
  have hC' := I.kIn _ _ hC
  have hE := PySem.F.excBase_ArithmeticError
  have fin : ∀ h2, (∀ b o, b ≠ x → s.heap.get? b = some o → h2.get? b = some o) → h2.get? x = some (excObj C s.heap.objs.size none .none) → Qv .none { s with heap := h2 } := fun h2 keep hx => by
    have J := I.write (t' := s.toks) (x := x) (e := x) (o := exo x C none) (by rw [ex]; exact True.intro) (.inl rfl) keep ⟨_, hx⟩ (exo_ok hx)
    have e2 : upd H x (exo x C none) = H := by
      funext b
      by_cases hb : b = x
      · rw [hb, upd_same, ex]
      · rw [upd_ne hb]
    rw [e2] at J
    exact go _ J
  obtain ⟨hp, g, d, tk, os⟩ := s
  refine wpAny_call (codeAny_of_tree ?_)
  show wpAny _ X.A.in1 (callAny (.ref u) ⟨us, []⟩) _ _ _
  simp only [callAny]
  refine wpAny_bind (wpAny_load hu ?_)
  simp only [kxs_mw, show (Value.type "method-wrapper" == Value.type "method" || Value.type "method-wrapper" == Value.type "builtin_function_or_method" || Value.type "method-wrapper" == Value.type "method-wrapper") = true from by decide, if_true]
  refine KFB.if_so (by decide) (wpAny_bind (check_bound_init hE.toExcCallFacts hC' ho rfl (wpAny_bind (wpAny_pure (wpAny_pure ⟨plainId_quiet hE.init.plain _, codeAny_builtin hE.initEntry ?_⟩)))))
  exact exc_init_tree (cls := .ref C) (t0 := t1) (dv := none) (c2 := .none) (c3 := .none) (b4 := .bool false) ho hz fun h2 keep hx _ => fin h2 keep hx

/-- THE RULE of such an __init__: behind its first row the rest of its body runs as a def's body does, the class in its cell -/
theorem init_run {msg : Str} {kd : Nat} {p0 p1 p2 p3 p4 p5 : Pos} {rest : List Stmt} {us : List Value} {vs : List V} {x : Addr} (T : ErrC K C) (J : InitFn P K C fI cc F) (ms : mg "super" = none) (S : NdefX.NScope N ps ["__class__"] F.scope)
    (hB : F.body = .Expr (.Call (.Attribute (.Call (.Name "super" p0) [] [] p1) "__init__" p2) [.Constant (.str msg) kd p3] [] p4) p5 :: rest) (hsg : F.scope.names.lookup ("super" : Str) = some .globalImplicit)
    (hsl : F.scope.names.lookup ("self" : Str) = some .local) (hr : Room (k + 1) A) (e0 : Env0 P w K mg base A outer s H)
    (hb : ∀ (kV doc pm ct : Value) (an : Option Addr), BindsTo s (PySem.W.fnX F.name F.qual F.params F.body F.scope F.cl .none kV doc pm an (.ref F.c) ct) ⟨us, []⟩ (ps.zip us)) (r : Vals vs us) (hl : vs.length = ps.length)
    (hs0 : ps[0]? = some ("self" : Str)) (hv0 : vs[0]? = some (.ref x)) (ex : H x = some (exo x C none))
    {pl : Sem Bool} (he : ∀ env : Env, eval (.Call (.Attribute (.Call (.Name "super" p0) [] [] p1) "__init__" p2) [.Constant (.str msg) kd p3] [] p4) env = (do
      let ov ← attributeBase (.Call (.Name "super" p0) [] [] p1) "__init__" env (eval (.Call (.Name "super" p0) [] [] p1) env)
      standAt p2.atName
      let (f, first) ← holding [ov] (getMethod ov "__init__" pl)
      callWith p4 f first (backTo p4 (starEach [.Constant (.str msg) kd p3] env)) []))
    (hq : Room k (A.deeper (NdefX.envF F fI s.heap.objs.size)) → ∃ t, PSs (NdefX.ncx CX P w K mg base N F fI A outer s H E) rest t ∧ t { nx := fun _ H' => Q .non H', rt := Q } (NdefX.startF N vs [some (.ref C)]) H) :
    codeAny (model P w) A (.call (.ref fI) ⟨us, []⟩) (CR CX outer P w H s Q E) s := by
  obtain ⟨oc, od, kV, doc, pm, an, ct, osl, lk⟩ := J.fn
  obtain ⟨ca, cb, ccs, hcell⟩ := J.cell
  obtain ⟨fa, fb, fvs, fc, ff, ft, hcode, hvs, hfile⟩ := J.file
  obtain ⟨aq, hself⟩ := J.self
  obtain ⟨pe, cd, hcd, hmro, hhd⟩ := T.data
  have kin0 : K.In s.heap := e0.mod.kin.keeps fun b o e => (e0.bs b o e).1
  have lim : s.heap.NoLimit := e0.mod.nolimit.keeps fun b o e => (e0.bs b o e).1
  have cells : NdefX.CellsAt F.cl ["__class__"] [some (.ref C)] s.heap H := by
    have there : s.heap.IsCell cc (some (.ref C)) := ⟨_, kin0 _ _ hcell, rfl⟩
    have one : ∀ (y : Str) (c : Addr), F.cl.lookup y = some c → y = "__class__" ∧ c = cc := fun y c e => by
      rw [J.cl] at e
      have m := PySem.mem_of_lookup e
      simp only [List.mem_singleton, Prod.mk.injEq] at m
      exact m
    refine ⟨rfl, fun y c e => ?_, fun y z c e1 e2 => (one y c e1).1.trans (one z c e2).1.symm, fun i y e => ?_⟩
    · obtain ⟨_, rfl⟩ := one y c e
      exact ⟨(e0.bs _ _ (e0.mod.kin _ _ hcell)).2, _, there⟩
    · have ey : y = "__class__" := by
        match i, e with
        | 0, e => exact (Option.some.inj e).symm
        | i + 1, e => simp at e
      subst ey
      refine ⟨cc, by rw [J.cl]; simp [List.lookup], fun v e => ?_⟩
      match i, e with
      | 0, e => exact ⟨.ref C, by have z := Option.some.inj (Option.some.inj e); subst z; rfl, there⟩
      | i + 1, e => simp at e
  have ndP : ps.Nodup := by
    have q := S.nd.sublist (List.take_sublist (ps.length + [("__class__" : Str)].length) N)
    rw [S.pre] at q
    exact (List.nodup_append.mp q).1
  have hu0 : us[0]? = some (.ref x) := by
    obtain ⟨u, hu, ru⟩ := r.get hv0
    rw [hu]
    exact congrArg some ru
  refine ks_codeAny_call_defAt (fd := PySem.W.fnX F.name F.qual F.params F.body F.scope F.cl .none kV doc pm an (.ref F.c) ct) (body := F.body) (binds := ps.zip us) hr.depth (kin0 _ _ lk) rfl lim (PySem.W.codeRec_of kin0 J.code) rfl (hb kV doc pm ct an) S.nocell
    (fun ⟨n, v⟩ hy => S.par n (List.of_mem_zip hy).1) (fun h₁ hns hk₁ => ?_) S.co S.gen S.kind
  have I : Inv (NdefX.ncx CX P w K mg base N F fI A outer s H E) [] (NdefX.startF N vs [some (.ref C)]) H { s with heap := h₁, toks := s.toks + (ps.zip us).length } := NdefX.inv_startN S hr.hd e0 hl r cells hns hk₁
  obtain ⟨t, ht, hgo⟩ := hq (hr.deeper _)
  show PySem.wpAt _ (A.deeper (NdefX.envF F fI s.heap.objs.size)) (.func F.body (NdefX.envF F fI s.heap.objs.size)) (execs F.body (NdefX.envF F fI s.heap.objs.size)) _ _ _
  rw [hB]
  have hx1 : ∃ t1, h₁.get? x = some (excObj C t1 none .none) := exo_at I.hok ex
  obtain ⟨t1, hx1⟩ := hx1
  have kin1 : K.In h₁ := I.kIn
  obtain ⟨oD, hD1, hD2⟩ : ∃ oD, h₁.get? C = some oD ∧ oD.data = .cls cd := by
    have q := hcd
    unfold PySem.W.clsIn at q
    split at q
    · rename_i c' d' cd' sl' ho
      cases q
      exact ⟨_, kin1 _ _ ho, rfl⟩
    · cases q
  have fin : ∀ st, Inv (NdefX.ncx CX P w K mg base N F fI A outer s H E) [] (NdefX.startF N vs [some (.ref C)]) H st →
      wpAny (model P w) (A.deeper (NdefX.envF F fI s.heap.objs.size)) (execs rest (NdefX.envF F fI s.heap.objs.size)) (fun f s' => CR CX outer P w H s Q E (.ok (.ret (match f with | .ret v => v | _ => .none))) s')
        (fun e s' => wpAny (model P w) (A.deeper (NdefX.envF F fI s.heap.objs.size)) (leaving (NdefX.envF F fI s.heap.objs.size) e) (fun _ s'' => CR CX outer P w H s Q E (.error e) s'') (fun e' s'' => CR CX outer P w H s Q E (.error e') s'') s') st := fun st I2 => by
    refine wpAny_mono (ht.run [] st _ H _ I2 hgo) (fun fl s' hs => ?_) fun e s' hs => hs
    have close : ∀ {σ' : L2.St} {H' : Hp} {v : V} {u : Value}, Inv (NdefX.ncx CX P w K mg base N F fI A outer s H E) [] σ' H' s' → L2.RelV v u → Q v H' → CE outer P w H s Q u s' := fun {σ' H' v u} Z rv q => ⟨v, H', Z.os, Z.bare, Z.base, Z.hok, rv, q⟩
    cases fl with
    | ret u =>
      obtain ⟨v, σ', H', Z, rv, q⟩ := hs
      exact close Z rv q
    | next =>
      obtain ⟨σ', H', Z, q⟩ := hs
      exact close (v := V.non) (u := Value.none) Z rfl q
    | brk => exact (hs.choose_spec.choose_spec.2 : False).elim
    | cont => exact (hs.choose_spec.choose_spec.2 : False).elim
  refine ks_wpAt_execs_cons (ks_wpAt_Expr_any (ks_wpAt_MethodCall (ks_wpAt_super_base (cc := F.c) (f := fI) (ar := { arg := "self", annotation := none, pos := aq }) hsg (S.frk _ (by simp)) (by decide) rfl (kin1 _ _ lk) rfl hself rfl (kin1 _ _ hcode) rfl hvs hfile J.top ?_) (he _)) I.quiet ?sw)
  case sw => rfl
  obtain ⟨mb, hm1, hm2⟩ := e0.mod.blt
  refine ks_loadName_global S.kind hsg (loadGlobal_builtin (env := NdefX.envF F fI s.heap.objs.size) (e0.mod.glob.keeps I.bk) ms (hm1.keeps I.bk) ((hm2 "super" (by decide)).trans (by decide +kernel)) ⟨rfl, ?_⟩)
  refine wpAny_loadName_free S.kind (S.frk _ (by simp)) (show F.cl.lookup ("__class__" : Str) = some cc by rw [J.cl]; simp [List.lookup]) ⟨_, kin1 _ _ hcell, rfl⟩ ?_
  refine wpAny_loadName_local S.kind hsl hns (NdefX.zip_look ndP hs0 hu0) (ks_wpAny_isType_cls hD1 hD2 ⟨rfl, ?_⟩)
  have nocls : ∀ c, (excObj C t1 none .none).data ≠ .cls c := fun c z => by cases z
  refine ks_wpAny_call_super hD1 hD2 hx1 rfl nocls (PySem.W.looks_mroIn kin1 J.below) (fun h2 eso k2 => ?_)
  have I2 := I.kept (t' := s.toks + (ps.zip us).length) k2
  have kin2 : K.In h2 := I2.kIn
  have inst : PySem.W.InstAt h2 x (excObj C t1 none .none) C none := ⟨k2 _ _ hx1, rfl, rfl, trivial⟩
  have along : PySem.W.alongIn K "__init__" ((cd.mro.dropWhile (· != .ref C)).drop 1) = some (some (.builtin "ArithmeticError.__init__")) := by
    have q := J.sup
    unfold PySem.W.ks_superIn at q
    rw [hcd] at q
    exact q
  refine kxs_getMethod kxs_ArithmeticError eso (PySem.W.looks_opaque kin2 J.opq) ((PySem.W.looks_clsIn kin2 hcd).andThen .now) rfl kin2 along (inst.type.andThen (PySem.W.looks_subIn kin2 T.exA)) (PySem.W.ks_ne kin2 inst hcd) (by decide) ?_
  refine kxs_callWith (i := "ArithmeticError.__init__") (x := x) rfl ?_
  have hu : (h2.push (kxs_mw "ArithmeticError.__init__" x)).get? h2.objs.size = some (kxs_mw "ArithmeticError.__init__" x) := Heap.get?_push_at rfl rfl
  have fr : H h2.objs.size = none := I2.hok.fresh (Nat.le_refl _)
  have I3 := I2.kept (t' := s.toks + (ps.zip us).length + 1) (h' := h2.push (kxs_mw "ArithmeticError.__init__" x)) fun b o e => Heap.get?_push_of_some _ e
  have I4 : Inv (NdefX.ncx CX P w K mg base N F fI A outer s H E) [(h2.objs.size, kxs_mw "ArithmeticError.__init__" x)] (NdefX.startF N vs [some (.ref C)]) H { s with heap := h2.push (kxs_mw "ArithmeticError.__init__" x), toks := s.toks + (ps.zip us).length + 1 } :=
    ⟨I3.ok, I3.os, I3.bare, I3.base, I3.loc, I3.cell, I3.free, I3.freeC, fun p hp => by
      have e : p = (h2.objs.size, kxs_mw "ArithmeticError.__init__" x) := by
        have q : p ∈ [] ++ [(h2.objs.size, kxs_mw "ArithmeticError.__init__" x)] := hp
        simpa using q
      subst e
      exact ⟨hu, fr, Nat.ne_of_gt I2.lt, I2.nofs (Nat.le_refl _), fun v z => by cases z⟩, I3.hok, I3.len⟩
  have arg : PA (NdefX.ncx CX P w K mg base N F fI A outer s H E) [.Constant (.str msg) kd p3] (tCons (tC (.str msg)) tNil) := pa_cons pe_str pa_nil
  refine evalArgs_plain (thn (arg.run p4 _ _ _ H (fun us2 H2 => us2 = [.str msg] ∧ H2 = H) I4 ⟨rfl, rfl⟩) fun us2 s3 h3 => ?_)
  obtain ⟨vs2, H3, I5, r5, rfl, rfl⟩ := h3
  have mu : s3.heap.get? h2.objs.size = some (kxs_mw "ArithmeticError.__init__" x) := (I5.pin (h2.objs.size, kxs_mw "ArithmeticError.__init__" x) (List.mem_append_right _ (List.mem_singleton.mpr rfl))).1
  have one : us2.length ≤ sizeLine := by
    have z := Paired.length r5
    rw [← z, sizeLine_eq]
    show 1 ≤ 16777216
    decide
  refine ⟨mu, sup_init (us := us2) T I5 ex mu one fun st I6 => ?_⟩
  refine wpAt_of_wpAny (fin st ⟨I6.ok, I6.os, I6.bare, I6.base, I6.loc, I6.cell, I6.free, I6.freeC, fun p hp => I6.pin p (List.mem_append_left _ ?_), I6.hok, I6.len⟩)
  have q : p ∈ [] ++ [] := hp
  simpa using q
end
end Pk
set_option Elab.async false
set_option linter.all false
set_option maxRecDepth 100000
set_option maxHeartbeats 1000000
namespace Pk
open PySem L2 PySem.Spec PyProof.Rows
/-- the __init__ at fI keeps sp, its first argument an error that is being made -/
structure ErrOk (P : Program) (w : World) (K : PySem.W.Frag) (mg : Str → Option Value) (base : Heap) (k : Nat) (C fI : Addr) (sp : Sp) : Prop where
  run : ∀ (A : Around) (outer : List Env) (s : Shared) (H : Hp) (us : List Value) (vs : List V) (x : Addr) (Q : VK), Room k A → Env0 P w K mg base A outer s H → Vals (.ref x :: vs) us → H x = some (exo x C none) → sp (.ref x :: vs) H Q (fun _ _ _ => False) →
    codeAny (model P w) A (.call (.ref fI) ⟨us, []⟩) (CR CX0 outer P w H s Q (fun _ _ _ => False)) s
/-- C(e, ..) -/
def tMkErr (C : Addr) (sp : Sp) (ta : TA) : L2.St → Hp → XK → Prop := fun σ H Q => ta σ H fun vs H1 => vs.length ≤ 1000 ∧ ∀ x, H1 x = none →
  sp (.ref x :: vs) (upd H1 x (exo x C none)) (fun v H2 => v = .non ∧ ∃ (d : Addr) (fs : List (Str × V)), H2 x = some (exo x C (some d)) ∧ H2 d = some (exd d fs) ∧ H1 d = none ∧ Q (.ref C) (some d) (upd (del H2 x) d (.xd fs))) (fun _ _ _ => False)
theorem pmk_err {X : Cx} {x : Str} {C fI : Addr} {k : Nat} {sp : Sp} {p pos : Pos} {e : Expr} {es : List Expr} {ta : TA} (T : ErrC X.K C) (iC : PySem.W.findIn X.K (.ref C) "__init__" = some (some (.ref fI))) (tI : PySem.W.typeIn X.K (.ref fI) = some (.type "function"))
    (G : ErrOk X.prog X.w X.K X.mg X.base k C fI sp) (hr : Room (k + 1) X.A) (hg : Gl X x) (hm : X.mg x = some (.ref C)) (ha : PA X (e :: es) ta)
    (hdb : (x == ("__debug__" : Str)) = false := by decide) (he : starEach (e :: es) X.env = (false, eval e X.env) :: starEach es X.env := by rfl) (hpl : (backTo pos (starEach es X.env)).any (·.1) = false := by rfl) : PMk X (.Call (.Name x p) (e :: es) [] pos) (tMkErr C sp ta) := by
  intro pins s σ H Q I h
  obtain ⟨pe, nm, q, N, bs, sn, sub, ab, col, dd, k0, k1, k2, k3, k5, hC⟩ := T.cls
  refine wpAny_Call_Name_kw (ld_glob I hg hm (PySem.W.callWith_K (h₀ := X.base) I.ok.mod.kin T.kp (thn (ha.run pos pins s σ H _ I h) fun us s1 ⟨vs, H1, I1, r1, hz, q1⟩ => ⟨I1.kIn, ?_⟩) he hpl) hdb)
  show wpAny _ _ (call (.ref C) us) _ _ _
  obtain ⟨hp, g, dr, tk, os⟩ := s1
  have up := Nat.le_succ hp.objs.size
  have hq := q1 (hp.objs.size + 1) (I1.hok.fresh up)
  have kk : ∀ b o, hp.get? b = some o → ((hp.push (PySem.W.kdv_tup us)).push (PySem.HandSPX.excO C hp.objs.size)).get? b = some o := fun b o z => Heap.get?_push_of_some _ (Heap.get?_push_of_some _ z)
  have made : ((hp.push (PySem.W.kdv_tup us)).push (PySem.HandSPX.excO C hp.objs.size)).get? (hp.objs.size + 1) = some (PySem.HandSPX.excO C hp.objs.size) := by heap_get
  have I2 := I1.laid (t' := tk) (a := hp.objs.size + 1) (o := exo (hp.objs.size + 1) C none) kk up (exo_ok made)
  have short : us.length ≤ sizeLine := by
    rw [← Paired.length r1, sizeLine_eq]; omega
  refine wpAny_call (PySem.HandSPX.call_own PySem.F.excBase_ArithmeticError arT_same (I1.kIn _ _ hC) (PySem.W.looks_findIn I1.kIn iC) (fun z => PySem.W.bind_fn I1.kIn z tI) short
    (codeAny_mono (G.run _ X.stack _ _ (Value.ref (hp.objs.size + 1) :: us) vs (hp.objs.size + 1) _ (hr.make C us []) (I2.env0.make C us []) (.cons rfl r1) upd_same hq) fun r st z => ?_))
  cases r with
  | error er => exact (show False from z).elim
  | ok fl =>
    cases fl with
    | ret u =>
      obtain ⟨v, H2, os2, bare2, un2, hok2, rv, ev, d, fs, ea, ed, hd1, q2⟩ := z
      subst ev
      obtain ⟨h2, g2, d2, t2, os'⟩ := st
      exact ⟨rv, mk_end (raises_own T.exB T.ty) I1 up kk un2 hok2 os2 bare2 ea ed hd1 q2⟩
    | next => exact False.elim z
    | brk => exact False.elim z
    | cont => exact False.elim z

theorem r_errSet {K : PySem.W.Frag} {f : Str} {to te : TE} {D : Ends} {σ : L2.St} {H : Hp} (h : te σ H fun y H1 => to σ H1 fun x H2 => ∃ a C : Addr, x = .ref a ∧ ErrC K C ∧ PySem.W.findIn K (.ref C) f = some none ∧
  ((H2 a = some (exo a C none) ∧ ∀ dx, H2 dx = none → dx ≠ a → D.nx σ (upd (upd H2 dx (exd dx [(f, y)])) a (exo a C (some dx)))) ∨
   (∃ (dx : Addr) (fs : List (Str × V)), H2 a = some (exo a C (some dx)) ∧ H2 dx = some (exd dx fs) ∧ fs.length ≤ 900 ∧ D.nx σ (upd H2 dx (exd dx ((f, y) :: fs)))))) : tErrSet K f to te D σ H := h
/-- an __init__ of one field, a copy of what it is passed -/
def spErr1 (K : PySem.W.Frag) (n : Nat) (C : Addr) (f : Str) : Sp := fun vs H Q _ => ∃ (x : Addr) (v : V) (d : PyData), vs = [.ref x, v] ∧ H x = some (exo x C none) ∧ Dp K H v d ∧ Deep n d ∧
  ∀ (dx : Addr) (v' : V) (H' : Hp), H' x = some (exo x C (some dx)) → H' dx = some (exd dx [(f, v')]) → H dx = none → dx ≠ x → Keep x H H' → Own H H' v' d → Q .non H'
/-- .. of two fields, in this sequence -/
def spErr2 (K : PySem.W.Frag) (n : Nat) (C : Addr) (f g : Str) : Sp := fun vs H Q _ => ∃ (x : Addr) (v u : V) (d e : PyData), vs = [.ref x, v, u] ∧ H x = some (exo x C none) ∧ Dp K H v d ∧ Deep n d ∧ Dp K H u e ∧ Deep n e ∧
  ∀ (dx : Addr) (v' u' : V) (H' : Hp), H' x = some (exo x C (some dx)) → H' dx = some (exd dx [(g, u'), (f, v')]) → H dx = none → dx ≠ x → Keep x H H' → Own H H' v' d → Own H H' u' e → Q .non H'
theorem exd_lt {dx : Addr} {fs : List (Str × V)} {u : HO} (h : ∃ xs, u = .lst xs ∨ u = .tup xs) : exd dx fs ≠ u := fun z => by
  obtain ⟨xs, e | e⟩ := h
  · rw [e] at z; cases (show HO.ext _ = HO.lst xs from z)
  · rw [e] at z; cases (show HO.ext _ = HO.tup xs from z)
/-- what is new stays so when the error, which is known, and its new dict are written -/
theorem Own.stored {H H1 : Hp} {v : V} {d : PyData} {x dx : Addr} {o u : HO} (w : Own H H1 v d) (hx : H x ≠ none) (hd : H1 dx = none) : Own H (upd (upd H1 dx o) x u) v d :=
  w.mono (fun _ n _ => n) fun a z n q _ => by
    have na : a ≠ x := fun e => hx (e ▸ n)
    rw [upd_ne na, upd_ne (ne_of_none q hd)]
    exact q
section
variable {P : Program} {w : World} {K : PySem.W.Frag} {mg : Str → Option Value} {base : Heap} {C fI cc fc : Addr} {fdc : FuncData} {F : NdefX.NF} {n : Nat} {f g : Str}
theorem err_one {msg : Str} {kd : Nat} {p0 p1 p2 p3 p4 p5 q0 q1 q2 q3 q4 q5 : Pos} (T : ErrC K C) (J : InitFn P K C fI cc F) (ms : mg "super" = none) (G : FnOk P w K mg base CX0 (n + 1) fc fdc ["value"] (spCopy K n)) (mc : mg "own_copy" = some (.ref fc)) (kc : PySem.W.keepIn K (.ref fc) = true)
    (bc : Binds K fdc ["value"] []) (S : NdefX.NScope ["self", f, "__class__"] ["self", f] ["__class__"] F.scope)
    (hB : F.body = .Expr (.Call (.Attribute (.Call (.Name "super" p0) [] [] p1) "__init__" p2) [.Constant (.str msg) kd p3] [] p4) p5 :: [.Assign [.Attribute (.Name "self" q0) f q1] (.Call (.Name "own_copy" q2) [.Name f q3] [] q4) q5])
    (hsg : F.scope.names.lookup ("super" : Str) = some .globalImplicit) (hog : F.scope.names.lookup ("own_copy" : Str) = some .globalImplicit) (free : PySem.W.findIn K (.ref C) f = some none)
    (hb : ∀ (kV doc pm ct : Value) (an : Option Addr) (us : List Value), us.length = 2 → bindArgs (PySem.W.fnX F.name F.qual F.params F.body F.scope F.cl .none kV doc pm an (.ref F.c) ct) ⟨us, []⟩ = pure ((["self", f] : List Str).zip us))
    {pl : Sem Bool} (he : ∀ env : Env, eval (.Call (.Attribute (.Call (.Name "super" p0) [] [] p1) "__init__" p2) [.Constant (.str msg) kd p3] [] p4) env = (do
      let ov ← attributeBase (.Call (.Name "super" p0) [] [] p1) "__init__" env (eval (.Call (.Name "super" p0) [] [] p1) env)
      standAt p2.atName
      let (f, first) ← holding [ov] (getMethod ov "__init__" pl)
      callWith p4 f first (backTo p4 (starEach [.Constant (.str msg) kd p3] env)) []))
    (fd : (f == ("__debug__" : Str)) = false) (fcd : (f == ("__classdict__" : Str)) = false) : ErrOk P w K mg base (n + 2) C fI (spErr1 K n C f) := by
  refine ⟨fun A outer s H us vs x Q hr e0 r ex hsp => ?_⟩
  obtain ⟨x', v, d, evs, _, hv, hd, k⟩ := hsp
  obtain ⟨rfl, rfl⟩ : x = x' ∧ vs = [v] := by
    have z := List.cons.inj evs
    exact ⟨V.ref.inj z.1, z.2⟩
  have lu : us.length = 2 := by rw [← r.length]; rfl
  refine init_run (k := n + 1) (rest := [.Assign [.Attribute (.Name "self" q0) f q1] (.Call (.Name "own_copy" q2) [.Name f q3] [] q4) q5]) (x := x) T J ms S hB hsg (S.par _ (by simp)) hr e0 (fun kV doc pm ct an => BindsTo.of_eq (hb kV doc pm ct an us lu)) r rfl rfl rfl ex he fun hr' => ?_
  refine ⟨_, pss_one (ps_errSet (pe_var (i := 0) rfl (.inl (S.par _ (by simp)))) (pe_call G hr' hog mc kc bc .nil pass0 (pa_cons (pe_var (i := 1) rfl (.inl (S.par _ (by simp))) fd fcd) pa_nil)) ?sw), ?_⟩
  case sw => rfl
  refine r_errSet ?_
  refine r_call ?_
  refine r_cons ?_
  refine r_var rfl ?_
  refine r_nil ?_
  refine ⟨v, d, rfl, hv, hd, fun v' H1 s1 o1 => ?_⟩
  refine r_var rfl ?_
  refine ⟨x, C, rfl, T, free, .inl ⟨s1 _ _ ex, fun dx hdx ne => ?_⟩⟩
  refine k dx v' _ upd_same (by rw [upd_ne ne, upd_same]) (s1.free hdx) ne (Keep.own (Keep.new (Keep.same s1) hdx)) (o1.stored (by rw [ex]; exact Option.some_ne_none _) hdx)

theorem exo_lt {x : Addr} {C : Addr} {d : Option Addr} {u : HO} (h : IsLT u) : exo x C d ≠ u := fun z => by
  rcases h with ⟨_, e⟩ | ⟨_, e⟩ | ⟨_, _, e⟩
  · rw [e] at z; exact exo_lt' z
  · exact exo_tup (z.trans e)
  · exact exo_frz (z.trans e)
where exo_lt' {x C : Addr} {d : Option Addr} {xs : List V} (z : exo x C d = .lst xs) : False := by cases (show HO.ext _ = HO.lst xs from z)
/-- behind the stores into the error at x lists and tuples are as they were -/
theorem sameD_err {H : Hp} {x C dx : Addr} {d : Option Addr} {o u : HO} (hx : H x = some (exo x C d)) (hd : H dx = none) : SameD H (upd (upd H dx o) x u) := fun a z l h => by
  rw [upd_ne (at_ne hx h (exo_lt l)), upd_ne (ne_of_none h hd)]
  exact h
theorem err_two {msg : Str} {kd : Nat} {p0 p1 p2 p3 p4 p5 q0 q1 q2 q3 q4 q5 z0 z1 z2 z3 z4 z5 : Pos} (T : ErrC K C) (J : InitFn P K C fI cc F) (ms : mg "super" = none) (G : FnOk P w K mg base CX0 (n + 1) fc fdc ["value"] (spCopy K n)) (mc : mg "own_copy" = some (.ref fc)) (kc : PySem.W.keepIn K (.ref fc) = true)
    (bc : Binds K fdc ["value"] []) (S : NdefX.NScope ["self", f, g, "__class__"] ["self", f, g] ["__class__"] F.scope)
    (hB : F.body = .Expr (.Call (.Attribute (.Call (.Name "super" p0) [] [] p1) "__init__" p2) [.Constant (.str msg) kd p3] [] p4) p5 ::
      [.Assign [.Attribute (.Name "self" q0) f q1] (.Call (.Name "own_copy" q2) [.Name f q3] [] q4) q5, .Assign [.Attribute (.Name "self" z0) g z1] (.Call (.Name "own_copy" z2) [.Name g z3] [] z4) z5])
    (hsg : F.scope.names.lookup ("super" : Str) = some .globalImplicit) (hog : F.scope.names.lookup ("own_copy" : Str) = some .globalImplicit) (free : PySem.W.findIn K (.ref C) f = some none) (freeg : PySem.W.findIn K (.ref C) g = some none)
    (hb : ∀ (kV doc pm ct : Value) (an : Option Addr) (us : List Value), us.length = 3 → bindArgs (PySem.W.fnX F.name F.qual F.params F.body F.scope F.cl .none kV doc pm an (.ref F.c) ct) ⟨us, []⟩ = pure ((["self", f, g] : List Str).zip us))
    {pl : Sem Bool} (he : ∀ env : Env, eval (.Call (.Attribute (.Call (.Name "super" p0) [] [] p1) "__init__" p2) [.Constant (.str msg) kd p3] [] p4) env = (do
      let ov ← attributeBase (.Call (.Name "super" p0) [] [] p1) "__init__" env (eval (.Call (.Name "super" p0) [] [] p1) env)
      standAt p2.atName
      let (f, first) ← holding [ov] (getMethod ov "__init__" pl)
      callWith p4 f first (backTo p4 (starEach [.Constant (.str msg) kd p3] env)) []))
    (fd : (f == ("__debug__" : Str)) = false) (fcd : (f == ("__classdict__" : Str)) = false) (gd : (g == ("__debug__" : Str)) = false) (gcd : (g == ("__classdict__" : Str)) = false) : ErrOk P w K mg base (n + 2) C fI (spErr2 K n C f g) := by
  refine ⟨fun A outer s H us vs x Q hr e0 r ex hsp => ?_⟩
  obtain ⟨x', v, u, d, e, evs, _, hv, hd, hu, hde, k⟩ := hsp
  obtain ⟨rfl, rfl⟩ : x = x' ∧ vs = [v, u] := by
    have z := List.cons.inj evs
    exact ⟨V.ref.inj z.1, z.2⟩
  have lu : us.length = 3 := by rw [← r.length]; rfl
  refine init_run (k := n + 1) (rest := [.Assign [.Attribute (.Name "self" q0) f q1] (.Call (.Name "own_copy" q2) [.Name f q3] [] q4) q5, .Assign [.Attribute (.Name "self" z0) g z1] (.Call (.Name "own_copy" z2) [.Name g z3] [] z4) z5]) (x := x) T J ms S hB hsg (S.par _ (by simp)) hr e0
    (fun kV doc pm ct an => BindsTo.of_eq (hb kV doc pm ct an us lu)) r rfl rfl rfl ex he fun hr' => ?_
  refine ⟨_, pss_cons (ps_errSet (pe_var (i := 0) rfl (.inl (S.par _ (by simp)))) (pe_call G hr' hog mc kc bc .nil pass0 (pa_cons (pe_var (i := 1) rfl (.inl (S.par _ (by simp))) fd fcd) pa_nil)) ?sw)
    (pss_one (ps_errSet (pe_var (i := 0) rfl (.inl (S.par _ (by simp)))) (pe_call G hr' hog mc kc bc .nil pass0 (pa_cons (pe_var (i := 2) rfl (.inl (S.par _ (by simp))) gd gcd) pa_nil)) ?sv)), ?_⟩
  case sw => rfl
  case sv => rfl
  refine r_seq ?_
  refine r_errSet ?_
  refine r_call ?_
  refine r_cons ?_
  refine r_var rfl ?_
  refine r_nil ?_
  refine ⟨v, d, rfl, hv, hd, fun v' H1 s1 o1 => ?_⟩
  refine r_var rfl ?_
  refine ⟨x, C, rfl, T, free, .inl ⟨s1 _ _ ex, fun dx hdx ne => ?_⟩⟩
  have o2 := o1.stored (o := exd dx [(f, v')]) (u := exo x C (some dx)) (by rw [ex]; exact Option.some_ne_none _) hdx
  have sd : SameD H (upd (upd H1 dx (exd dx [(f, v')])) x (exo x C (some dx))) := (SameD.of s1).trans (sameD_err (s1 _ _ ex) hdx)
  show tErrSet K g (tVar 0) (tCall (spCopy K n) [] E0 (tCons (tVar 2) tNil)) { nx := fun _ H2 => Q .non H2, rt := Q } _ _
  refine r_errSet ?_
  refine r_call ?_
  refine r_cons ?_
  refine r_var rfl ?_
  refine r_nil ?_
  refine ⟨u, e, rfl, Dp.laterD sd hu, hde, fun u' H2 s2 o3 => ?_⟩
  refine r_var rfl ?_
  have ed2 : H2 dx = some (exd dx [(f, v')]) := s2 _ _ (by rw [upd_ne ne, upd_same])
  refine ⟨x, C, rfl, T, freeg, .inr ⟨dx, [(f, v')], s2 _ _ upd_same, ed2, by show 1 ≤ 900; decide, ?_⟩⟩
  have hdx0 : H dx = none := s1.free hdx
  have kp : Keep x H H2 := (Keep.own (Keep.new (Keep.same s1) hdx)).trans (Keep.same s2)
  have ndx : ∀ {a : Addr} {z : HO}, (∃ xs, z = .lst xs ∨ z = .tup xs) → H2 a = some z → a ≠ dx := fun {a z} l h => at_ne ed2 h (exd_lt l)
  refine k dx v' u' _ (by rw [upd_ne (Ne.symm ne)]; exact s2 _ _ upd_same) upd_same hdx0 ne (fun b o nb hbo => ?_) ((o2.later s2).mono (fun _ n _ => n) fun a z n q l => by rw [upd_ne (ndx l q)]; exact q) ?_
  · rw [upd_ne (ne_of_none hbo hdx0)]
    exact kp b o nb hbo
  · refine o3.mono (fun a n _ => ?_) fun a z n q l => by rw [upd_ne (ndx l q)]; exact q
    have na : a ≠ x := fun z => by rw [z, upd_same] at n; cases n
    have nd : a ≠ dx := fun z => by rw [z, upd_ne ne, upd_same] at n; cases n
    rw [upd_ne na, upd_ne nd] at n
    exact s1.free n
/-- C(e) in the raiser's heap: a new dict with a copy -/
theorem r_err1 {σ : L2.St} {H : Hp} {Q : XK} {v : V} {d : PyData} (hv : Dp K H v d) (hd : Deep n d) (q : ∀ (dd : Addr) (v' : V) (H' : Hp), Same H H' → H dd = none → H' dd = some (.xd [(f, v')]) → Own H H' v' d → Q (.ref C) (some dd) H') :
    [v].length ≤ 1000 ∧ ∀ x, H x = none → spErr1 K n C f (.ref x :: [v]) (upd H x (exo x C none)) (fun v H2 => v = .non ∧ ∃ (d : Addr) (fs : List (Str × V)), H2 x = some (exo x C (some d)) ∧ H2 d = some (exd d fs) ∧ H d = none ∧ Q (.ref C) (some d) (upd (del H2 x) d (.xd fs))) (fun _ _ _ => False) := by
  refine ⟨by show 1 ≤ 1000; decide, fun x hx => ?_⟩
  have s0 : Same H (upd H x (exo x C none)) := Same.up (Same.refl H) hx
  refine ⟨x, v, d, rfl, upd_same, Dp.later s0 hv, hd, fun dx v' H' h1 h2 h3 ne h4 h5 => ⟨rfl, dx, _, h1, h2, ?_, ?_⟩⟩
  · rw [upd_ne ne] at h3; exact h3
  · rw [upd_ne ne] at h3
    refine q dx v' _ (fun b o e => ?_) h3 upd_same (h5.mono (fun a n _ => s0.free n) fun a z n e l => ?_)
    · have nb : b ≠ x := ne_of_none e hx
      rw [upd_ne (ne_of_none e h3), del_ne nb]
      exact h4 b o nb (s0 b o e)
    · have na : a ≠ x := fun z => by rw [z, upd_same] at n; cases n
      rw [upd_ne (at_ne h2 e (exd_lt l)), del_ne na]
      exact e
theorem r_err2 {σ : L2.St} {H : Hp} {Q : XK} {v u : V} {d e : PyData} (hv : Dp K H v d) (hd : Deep n d) (hu : Dp K H u e) (he : Deep n e)
    (q : ∀ (dd : Addr) (v' u' : V) (H' : Hp), Same H H' → H dd = none → H' dd = some (.xd [(g, u'), (f, v')]) → Own H H' v' d → Own H H' u' e → Q (.ref C) (some dd) H') :
    [v, u].length ≤ 1000 ∧ ∀ x, H x = none → spErr2 K n C f g (.ref x :: [v, u]) (upd H x (exo x C none)) (fun v H2 => v = .non ∧ ∃ (d : Addr) (fs : List (Str × V)), H2 x = some (exo x C (some d)) ∧ H2 d = some (exd d fs) ∧ H d = none ∧ Q (.ref C) (some d) (upd (del H2 x) d (.xd fs))) (fun _ _ _ => False) := by
  refine ⟨by show 2 ≤ 1000; decide, fun x hx => ?_⟩
  have s0 : Same H (upd H x (exo x C none)) := Same.up (Same.refl H) hx
  refine ⟨x, v, u, d, e, rfl, upd_same, Dp.later s0 hv, hd, Dp.later s0 hu, he, fun dx v' u' H' h1 h2 h3 ne h4 h5 h6 => ⟨rfl, dx, _, h1, h2, ?_, ?_⟩⟩
  · rw [upd_ne ne] at h3; exact h3
  · rw [upd_ne ne] at h3
    have keep : ∀ a z, upd H x (exo x C none) a = none → H' a = some z → (∃ xs, z = .lst xs ∨ z = .tup xs) → upd (del H' x) dx (.xd [(g, u'), (f, v')]) a = some z := fun a z n e l => by
      have na : a ≠ x := fun z => by rw [z, upd_same] at n; cases n
      rw [upd_ne (at_ne h2 e (exd_lt l)), del_ne na]
      exact e
    refine q dx v' u' _ (fun b o e => ?_) h3 upd_same (h5.mono (fun a n _ => s0.free n) keep) (h6.mono (fun a n _ => s0.free n) keep)
    have nb : b ≠ x := ne_of_none e hx
    rw [upd_ne (ne_of_none e h3), del_ne nb]
    exact h4 b o nb (s0 b o e)
end
end Pk
set_option Elab.async false
set_option linter.all false
set_option maxRecDepth 100000
set_option maxHeartbeats 1000000
namespace Pk
open PySem L2 PySem.Spec PyProof.Rows
/-- a def x of the text, at f, with its promise -/
structure Df1 (P : Program) (w : World) (K : PySem.W.Frag) (mg : Str → Option Value) (base : Heap) (CX : CXT) (x : Str) (k : Nat) (ps : List Str) (sp : Sp) (f : Addr) (fd : FuncData) : Prop where
  at_ : mg x = some (.ref f)
  kp : PySem.W.keepIn K (.ref f) = true
  bd : Binds K fd ps []
  ok : FnOk P w K mg base CX k f fd ps sp
/-- an error class x of the text, at C, with the promise of its __init__ -/
structure De1 (P : Program) (w : World) (K : PySem.W.Frag) (mg : Str → Option Value) (base : Heap) (x : Str) (k : Nat) (sp : Sp) (C fI : Addr) : Prop where
  at_ : mg x = some (.ref C)
  cls : ErrC K C
  ini : PySem.W.findIn K (.ref C) "__init__" = some (some (.ref fI))
  fn : PySem.W.typeIn K (.ref fI) = some (.type "function")
  ok : ErrOk P w K mg base k C fI sp
  xf : XfC K C
  xm : PySem.W.exmOne K (.ref C) (.ref C) = some true
abbrev Df (P : Program) (w : World) (K : PySem.W.Frag) (mg : Str → Option Value) (base : Heap) (CX : CXT) (x : Str) (k : Nat) (ps : List Str) (sp : Sp) : Prop := ∃ f fd, Df1 P w K mg base CX x k ps sp f fd
abbrev De (P : Program) (w : World) (K : PySem.W.Frag) (mg : Str → Option Value) (base : Heap) (x : Str) (k : Nat) (sp : Sp) (C : Addr) : Prop := ∃ fI, De1 P w K mg base x k sp C fI
section
variable {X : Cx} {CX : CXT} {x : Str} {k j : Nat} {ps : List Str} {sp : Sp} {e : Expr} {es : List Expr} {t : TA} {p pos : Pos} {W : WX} {C : Addr}
/-- a call of what raises nothing -/
theorem pe_df (D : Df X.prog X.w X.K X.mg X.base CX0 x k ps sp) (hr : Room j X.A) (l : k ≤ j) (ha : PA X (e :: es) t) (hg : Gl X x := by rfl) (hdb : (x == ("__debug__" : Str)) = false := by decide)
    (he : starEach (e :: es) X.env = (false, eval e X.env) :: starEach es X.env := by rfl) (hpl : (backTo pos (starEach es X.env)).any (·.1) = false := by rfl) : PE X (.Call (.Name x p) (e :: es) [] pos) (tCall sp [] E0 t) :=
  let ⟨_, _, D⟩ := D; pe_call D.ok (hr.mono l) hg D.at_ D.kp D.bd .nil pass0 ha hdb he hpl
/-- .. of what may raise, and does not here -/
theorem pe_dfL (D : Df X.prog X.w X.K X.mg X.base (L2.CX X.prog X.w) x k ps sp) (hr : Room j X.A) (l : k ≤ j) (ha : PA X (e :: es) t) (hg : Gl X x := by rfl) (hdb : (x == ("__debug__" : Str)) = false := by decide)
    (he : starEach (e :: es) X.env = (false, eval e X.env) :: starEach es X.env := by rfl) (hpl : (backTo pos (starEach es X.env)).any (·.1) = false := by rfl) : PE X (.Call (.Name x p) (e :: es) [] pos) (tCall sp [] E0 t) :=
  let ⟨_, _, D⟩ := D; pe_call D.ok (hr.mono l) hg D.at_ D.kp D.bd .nil passL ha hdb he hpl
/-- .. where what is raised is taken: within a try, or by a def that lets it out -/
theorem pe_dfS (tk : Takes X W) (D : Df X.prog X.w X.K X.mg X.base (L2.CX X.prog X.w) x k ps sp) (hr : Room j X.A) (l : k ≤ j) (ha : PA X (e :: es) t) (hg : Gl X x := by rfl) (hdb : (x == ("__debug__" : Str)) = false := by decide)
    (he : starEach (e :: es) X.env = (false, eval e X.env) :: starEach es X.env := by rfl) (hpl : (backTo pos (starEach es X.env)).any (·.1) = false := by rfl) : PE X (.Call (.Name x p) (e :: es) [] pos) (tCallS sp (WE W) t) :=
  let ⟨_, _, D⟩ := D; pe_callS D.ok (hr.mono l) hg D.at_ D.kp D.bd (fun σ => passAt tk σ) ha hdb he hpl
/-- raise x(e, ..) -/
theorem ps_rse {spos : Pos} (hc : X.calm = true) (tk : Takes X W) (D : De X.prog X.w X.K X.mg X.base x k sp C) (hr : Room j X.A) (l : k + 1 ≤ j) (ha : PA X (e :: es) t) (hg : Gl X x := by rfl) (hdb : (x == ("__debug__" : Str)) = false := by decide)
    (he : starEach (e :: es) X.env = (false, eval e X.env) :: starEach es X.env := by rfl) (hpl : (backTo pos (starEach es X.env)).any (·.1) = false := by rfl) :
    PS X (.Raise (some (.Call (.Name x p) (e :: es) [] pos)) none spos) (fun _ σ H => tMkErr C sp t σ H fun cls d H' => W cls d σ H') := let ⟨_, D⟩ := D; ps_raise hc tk (pmk_err D.cls D.ini D.fn D.ok (hr.mono l) hg D.at_ ha hdb he hpl)
end
section
variable {σ : L2.St} {H : Hp} {Q : VK} {ta tk : TA} {sp : Sp} {E : L2.St → XK} {D : Ends}
theorem r_callS (h : ta σ H fun vs H1 => sp vs H1 Q (E σ)) : tCallS sp E ta σ H Q := h
theorem r_callN {n m : Nat} {gV : List V → List V → List V} {E : XK} (h : ta σ H fun vs H1 => tk σ H1 fun zs H2 => vs.length = n ∧ zs.length = m ∧ sp (gV vs zs) H2 Q E) : tCallN n m sp gV E ta tk σ H Q := h
theorem r_mkErr {C : Addr} {R : XK} (h : ta σ H fun vs H1 => vs.length ≤ 1000 ∧ ∀ x, H1 x = none →
  sp (.ref x :: vs) (upd H1 x (exo x C none)) (fun v H2 => v = .non ∧ ∃ (d : Addr) (fs : List (Str × V)), H2 x = some (exo x C (some d)) ∧ H2 d = some (exd d fs) ∧ H1 d = none ∧ R (.ref C) (some d) (upd (del H2 x) d (.xd fs))) (fun _ _ _ => False)) : tMkErr C sp ta σ H R := h
theorem r_xf {a : Addr} {C dd : Addr} {f : Str} {te : TE} {fs : List (Str × V)} {v : V} (h : te σ H fun x H1 => x = .ref a ∧ Value.ref C = .ref C ∧ ∃ (d2 : Addr) (fs : List (Str × V)) (v : V), some dd = some d2 ∧ H1 d2 = some (.xd fs) ∧ fs.lookup f = some v ∧ Q v H1) : tXf a (.ref C) (some dd) C f te σ H Q := h
end
/-- f(e, .., k = v, ..) where what is raised is wished for at the caller's slots -/
def tKwS (n m : Nat) (sp : Sp) (gV : List V → List V → List V) (E : L2.St → XK) (t tk : TA) : TE := fun σ H Q => t σ H fun vs H1 => tk σ H1 fun zs H2 => vs.length = n ∧ zs.length = m ∧ sp (gV vs zs) H2 Q (E σ)
theorem r_kwS {σ : L2.St} {H : Hp} {Q : VK} {ta tk : TA} {sp : Sp} {n m : Nat} {gV : List V → List V → List V} {E : L2.St → XK} (h : ta σ H fun vs H1 => tk σ H1 fun zs H2 => vs.length = n ∧ zs.length = m ∧ sp (gV vs zs) H2 Q (E σ)) : tKwS n m sp gV E ta tk σ H Q := h
theorem pe_kwS {X : Cx} {CX : CXT} {k n : Nat} {f : Addr} {fd : FuncData} {ps ks : List Str} {sp : Sp} {E : L2.St → XK} {x : Str} {p pos : Pos} {e : Expr} {es : List Expr} {kws : List Keyword} {t tk : TA} {g : List Value → List Value → List Value} {gV : List V → List V → List V}
    (F : FnOk X.prog X.w X.K X.mg X.base CX k f fd ps sp) (hr : Room k X.A) (hm : X.mg x = some (.ref f)) (hk : PySem.W.keepIn X.K (.ref f) = true) (hb : KBn X.K fd ps n ks g gV) (hx : ∀ σ, PassesAt CX X σ (E σ)) (ha : PA X (e :: es) t) (hkw : PK X kws tk) (hg : Gl X x := by rfl)
    (hall : (backToKw pos (keywordEach kws X.env)).all (·.1.isSome) = true := by rfl) (hks : (backToKw pos (keywordEach kws X.env)).filterMap (·.1) = ks := by rfl) (hdb : (x == ("__debug__" : Str)) = false := by decide)
    (he : starEach (e :: es) X.env = (false, eval e X.env) :: starEach es X.env := by rfl) (hpl : ((backTo pos (starEach (e :: es) X.env)).any (·.1) || (backToKw pos (keywordEach kws X.env)).any (·.1.isNone)) = false := by rfl) :
    PE X (.Call (.Name x p) (e :: es) kws pos) (tKwS n ks.length sp gV E t tk) := by
  refine ⟨fun pins s σ H Q I h => wpAny_Call_Name_kw (ld_glob I hg hm (PySem.W.callWith_KW (h₀ := X.base) I.ok.mod.kin hk hall (thn (ha.run pos pins s σ H _ I h) fun us s1 ⟨vs, H1, I1, r, q⟩ => thn (hkw.run pos pins s1 σ H1 _ I1 q) fun ws s2 ⟨zs, H2, I2, rz, l1, l2, q2⟩ => ⟨I2.kIn, ?_⟩) hpl he) hdb)⟩
  rw [hks]
  refine wpAny_call (codeAny_mono (F.run X.A X.stack s2 H2 ⟨us, ks.zip ws⟩ (g us ws) (gV vs zs) Q (E σ) hr I2.env0 (hb.to s2 us ws I2.kIn (r.length.symm.trans l1) (rz.length.symm.trans l2)) (hb.rel r rz) q2) fun r s' hq => ?_)
  cases r with
  | error er => exact hx σ pins H2 s2 er s' I2 hq
  | ok fl =>
    cases fl with
    | ret u => exact I2.after hq
    | next => exact False.elim hq
    | brk => exact False.elim hq
    | cont => exact False.elim hq
/-- an own class x of the text, made by its __init__ -/
structure Dk1 (P : Program) (w : World) (K : PySem.W.Frag) (mg : Str → Option Value) (base : Heap) (CX : CXT) (x : Str) (k : Nat) (ps : List Str) (sp : Sp) (C fI : Addr) (fd : FuncData) : Prop where
  at_ : mg x = some (.ref C)
  mkc : Mk K C fI
  bd : Binds K fd ps []
  ok : FnOk P w K mg base CX k fI fd ps sp
abbrev Dk (P : Program) (w : World) (K : PySem.W.Frag) (mg : Str → Option Value) (base : Heap) (CX : CXT) (x : Str) (k : Nat) (ps : List Str) (sp : Sp) (C : Addr) : Prop := ∃ fI fd, Dk1 P w K mg base CX x k ps sp C fI fd
theorem pe_dkL {X : Cx} {x : Str} {k j : Nat} {ps : List Str} {sp : Sp} {e : Expr} {es : List Expr} {t : TA} {p pos : Pos} {C : Addr} (D : Dk X.prog X.w X.K X.mg X.base (L2.CX X.prog X.w) x k ps sp C) (hr : Room j X.A) (l : k + 1 ≤ j) (ha : PA X (e :: es) t) (hg : Gl X x := by rfl)
    (hdb : (x == ("__debug__" : Str)) = false := by decide) (he : starEach (e :: es) X.env = (false, eval e X.env) :: starEach es X.env := by rfl) (hpl : (backTo pos (starEach es X.env)).any (·.1) = false := by rfl) : PE X (.Call (.Name x p) (e :: es) [] pos) (tMake C sp [] E0 t) :=
  let ⟨_, _, D⟩ := D; pe_make D.mkc D.ok (hr.mono l) hg D.at_ D.bd .nil passL ha hdb he hpl
theorem look1 (f : Str) (v : V) : List.lookup f [(f, v)] = some v := by simp [List.lookup]
theorem look2 (f g : Str) (v u : V) (h : (f == g) = false) : List.lookup f [(g, u), (f, v)] = some v := by simp [List.lookup, h]
theorem look2' (f g : Str) (v u : V) : List.lookup g [(g, u), (f, v)] = some u := by simp [List.lookup]
/-- built-ins that the text does not name anew -/
structure Bt (mg : Str → Option Value) : Prop where
  int : mg "int" = none
  str : mg "str" = none
  bool : mg "bool" = none
  list : mg "list" = none
  tuple : mg "tuple" = none
  dict : mg "dict" = none
  len : mg "len" = none
  range : mg "range" = none
  isinstance : mg "isinstance" = none
  sum : mg "sum" = none
  max : mg "max" = none
  min : mg "min" = none
  sorted : mg "sorted" = none
  set : mg "set" = none
  super : mg "super" = none
  enumerate : mg "enumerate" = none
  zip : mg "zip" = none
  abs : mg "abs" = none
end Pk
set_option Elab.async false
set_option linter.all false
set_option maxRecDepth 100000
set_option maxHeartbeats 1000000
namespace Pk
open PySem L2 PySem.Spec PyProof.Rows PySem.W
/-- what the top holds of a def x -/
def DefAt (K : PySem.W.Frag) (x : Str) (st : Stmt) : Prop := ∃ (f : Addr) (oc : Value) (od : Option Addr) (kV dc pm : Value) (an : Option Addr) (cd ct : Value) (sl : Array (Option Value)),
  PySem.W.nsIn K mainGlobals x = some (some (.ref f)) ∧ K.lookup f = some ⟨oc, od, .func (PySem.W.fnOf x x (defArgs st) (defBody st) (defScope st) .none kV dc pm an cd ct), sl⟩ ∧ PySem.W.codeIn K cd x = true ∧ PySem.W.keepIn K (.ref f) = true
theorem DefAt.fn {K : PySem.W.Frag} {h : Heap} {mg : Str → Option Value} {x : Str} {st : Stmt} (X : K.In h) (G : h.Ns mainGlobals mg) (d : DefAt K x st) : ∃ f fd, Fun K x x st f fd ∧ mg x = some (.ref f) := by
  obtain ⟨f, oc, od, kV, dc, pm, an, cd, ct, sl, a, l, c, k⟩ := d
  exact ⟨f, _, fun_mk (st := st) l c k, PySem.W.mg_of X G a⟩
/-- .. of a method x of the class at C -/
def MethAt (K : PySem.W.Frag) (C : Addr) (x q : Str) (st : Stmt) : Prop := ∃ (f : Addr) (oc : Value) (od : Option Addr) (kV dc pm : Value) (an : Option Addr) (cd ct : Value) (sl : Array (Option Value)),
  PySem.W.findIn K (.ref C) x = some (some (.ref f)) ∧ K.lookup f = some ⟨oc, od, .func (PySem.W.fnOf x q (defArgs st) (defBody st) (defScope st) .none kV dc pm an cd ct), sl⟩ ∧ PySem.W.codeIn K cd q = true ∧ PySem.W.keepIn K (.ref f) = true ∧ PySem.W.isFn K (.ref f) = true
theorem MethAt.fn {K : PySem.W.Frag} {C : Addr} {x q : Str} {st : Stmt} (d : MethAt K C x q st) : ∃ f fd, Fun K x q st f fd ∧ Meth K C x f := by
  obtain ⟨f, oc, od, kV, dc, pm, an, cd, ct, sl, a, l, c, k, i⟩ := d
  exact ⟨f, _, fun_mk (st := st) l c k, ⟨a, i, k⟩⟩
/-- .. of a def x with one keyword-only default, a text -/
def DefAtK (K : PySem.W.Frag) (x k : Str) (z : Str) (st : Stmt) : Prop := ∃ (f D : Addr) (oc : Value) (od : Option Addr) (dc pm : Value) (an : Option Addr) (cd ct : Value) (sl : Array (Option Value)) (t : Tok),
  PySem.W.nsIn K mainGlobals x = some (some (.ref f)) ∧ K.lookup f = some ⟨oc, od, .func (PySem.W.fnOf x x (defArgs st) (defBody st) (defScope st) .none (.ref D) dc pm an cd ct), sl⟩ ∧ PySem.W.codeIn K cd x = true ∧ PySem.W.keepIn K (.ref f) = true ∧ PySem.W.nsIn K D k = some (some (.str z t))
theorem DefAtK.fn {K : PySem.W.Frag} {h : Heap} {mg : Str → Option Value} {x k z : Str} {st : Stmt} (X : K.In h) (G : h.Ns mainGlobals mg) (d : DefAtK K x k z st) : ∃ f fd, FunD K x x (defArgs st) (defBody st) (defScope st) [] [(k, .str z)] f fd ∧ mg x = some (.ref f) := by
  obtain ⟨f, D, oc, od, dc, pm, an, cd, ct, sl, t, a, l, c, kp, n⟩ := d
  refine ⟨f, _, ⟨⟨oc, od, .none, .ref D, dc, pm, an, cd, ct, sl, rfl, l, c, .inl ⟨rfl, rfl⟩, .inr ⟨D, rfl, fun q hq => ?_⟩⟩, kp⟩, PySem.W.mg_of X G a⟩
  rw [List.mem_singleton.mp hq]
  exact ⟨_, n, t, rfl⟩
/-- what the top holds of an error class x with an __init__ of its own (st) -/
structure ErrAt1 (P : Program) (K : PySem.W.Frag) (x q : Str) (st : Stmt) (C fI cc c : Addr) : Prop where
  at_ : PySem.W.nsIn K mainGlobals x = some (some (.ref C))
  cls : ∃ pe nm qn N bs sn sub ab col dd k0 k1 k2 k3 k5, K.lookup C = some (excClassObj nm qn C N bs (.ref pe :: arT) true sn sub ab col dd k0 k1 k2 k3 k5 "ArithmeticError.__new__")
  sa : PySem.W.findIn K (.ref C) "__setattr__" = some (some (.builtin "object.__setattr__"))
  exB : PySem.W.subIn K (.ref C) (.type "BaseException") = some true
  exA : PySem.W.subIn K (.ref C) (.type "ArithmeticError") = some true
  ty : PySem.W.typeIn K (.ref C) = some (.type "type")
  kp : PySem.W.keepIn K (.ref C) = true
  ini : PySem.W.findIn K (.ref C) "__init__" = some (some (.ref fI))
  fnt : PySem.W.typeIn K (.ref fI) = some (.type "function")
  fn : ∃ (oc : Value) (od : Option Addr) (kV doc pm : Value) (an : Option Addr) (ct : Value) (osl : Array (Option Value)), K.lookup fI = some ⟨oc, od, .func (PySem.W.fnX "__init__" q (defArgs st) (defBody st) (defScope st) [(("__class__" : Str), cc)] .none kV doc pm an (.ref c) ct), osl⟩
  code : PySem.W.codeIn K (.ref c) q = true
  cell : ∃ (a : Value) (b : Option Addr) (d : Array (Option Value)), K.lookup cc = some ⟨a, b, .cell (some (.ref C)), d⟩
  file : ∃ (a : Value) (b : Option Addr) (vs : Array Value) (d : Array (Option Value)) (f : Str) (t : Tok), K.lookup c = some ⟨a, b, .fields vs, d⟩ ∧ vs[2]? = some (.str f t) ∧ ((P.main.file : Str) == f) = true
  opq : PySem.W.nsIn K cStatics "thirdparty.any" = some none
  sup : PySem.W.ks_superIn K C C "__init__" = some (some (.builtin "ArithmeticError.__init__"))
  below : PySem.W.mroIn K C (.ref C) = some true
  ga : PySem.W.findIn K (.ref C) "__getattribute__" = some (some (.builtin "BaseException.__getattribute__"))
  gg : PySem.W.findIn K (.ref C) "__getattr__" = some none
  hd : PySem.W.hasDictIn K C = true
  isC : PySem.W.isClsIn K C = true
  own : PySem.W.subIn K (.ref C) (.ref C) = some true
theorem err_self {K : PySem.W.Frag} {S : Addr} (h1 : PySem.W.subIn K (.ref S) (.type "BaseException") = some true) (h2 : PySem.W.isClsIn K S = true) (h3 : PySem.W.typeIn K (.ref S) = some (.type "type")) (h4 : PySem.W.subIn K (.ref S) (.ref S) = some true) : PySem.W.exmOne K (.ref S) (.ref S) = some true := by
  have h5 : (PySem.W.clsIn K S).isSome = true := h2
  unfold PySem.W.exmOne PySem.W.kitCls
  simp only [h1, h3, h4, h5]
  rfl
section
variable {P : Program} {w : World} {K : PySem.W.Frag} {h : Heap} {mg : Str → Option Value} {base : Heap} {x q : Str} {st : Stmt} {C fI cc c : Addr}
theorem ErrAt1.errC (e : ErrAt1 P K x q st C fI cc c) : ErrC K C := ⟨e.cls, e.sa, e.exB, e.exA, e.ty, e.kp⟩
theorem ErrAt1.init (e : ErrAt1 P K x q st C fI cc c) (top : (P.main.scope.names.lookup ("super" : Str)).isSome = false) (self : ∃ q, ((defArgs st).posonlyargs ++ (defArgs st).args).head? = some { arg := "self", annotation := none, pos := q }) :
    InitFn P K C fI cc { name := "__init__", qual := q, params := defArgs st, body := defBody st, scope := defScope st, cl := [(("__class__" : Str), cc)], c := c } :=
  ⟨e.fn, e.code, rfl, e.cell, e.file, top, e.opq, self, e.sup, e.below⟩
theorem ErrAt1.de {k : Nat} {sp : Sp} (e : ErrAt1 P K x q st C fI cc c) (X : K.In h) (G : h.Ns mainGlobals mg) (o : ErrOk P w K mg base k C fI sp) : De P w K mg base x k sp C :=
  ⟨fI, PySem.W.mg_of X G e.at_, e.errC, e.ini, e.fnt, o, ⟨e.ga, e.gg, e.exB, e.hd⟩, err_self e.exB e.isC e.ty e.own⟩
end
def BtIn (K : PySem.W.Frag) : Prop := ∀ x, x ∈ (["int", "str", "bool", "list", "tuple", "dict", "len", "range", "isinstance", "sum", "max", "min", "sorted", "set", "super", "enumerate", "zip", "abs"] : List Str) → PySem.W.nsIn K mainGlobals x = some none
theorem BtIn.bt {K : PySem.W.Frag} {h : Heap} {mg : Str → Option Value} (X : K.In h) (G : h.Ns mainGlobals mg) (b : BtIn K) : Bt mg := by
  have g : ∀ x, x ∈ (["int", "str", "bool", "list", "tuple", "dict", "len", "range", "isinstance", "sum", "max", "min", "sorted", "set", "super", "enumerate", "zip", "abs"] : List Str) → mg x = none := fun x hx => PySem.W.mg_none_of X G (b x hx)
  constructor <;> exact g _ (by decide)
theorem DefAt.of {K : PySem.W.Frag} {x : Str} {st : Stmt} {f : Addr} {oc : Value} {od : Option Addr} {kV dc pm : Value} {an : Option Addr} {cd ct : Value} {sl : Array (Option Value)} (a : PySem.W.nsIn K mainGlobals x = some (some (.ref f)))
    (l : K.lookup f = some ⟨oc, od, .func (PySem.W.fnOf x x (defArgs st) (defBody st) (defScope st) .none kV dc pm an cd ct), sl⟩) (c : PySem.W.codeIn K cd x = true) (k : PySem.W.keepIn K (.ref f) = true) : DefAt K x st := ⟨_, _, _, _, _, _, _, _, _, _, a, l, c, k⟩
theorem DefAtK.of {K : PySem.W.Frag} {x y z : Str} {st : Stmt} {f D : Addr} {oc : Value} {od : Option Addr} {dc pm : Value} {an : Option Addr} {cd ct : Value} {sl : Array (Option Value)} {t : Tok} (a : PySem.W.nsIn K mainGlobals x = some (some (.ref f)))
    (l : K.lookup f = some ⟨oc, od, .func (PySem.W.fnOf x x (defArgs st) (defBody st) (defScope st) .none (.ref D) dc pm an cd ct), sl⟩) (c : PySem.W.codeIn K cd x = true) (k : PySem.W.keepIn K (.ref f) = true) (n : PySem.W.nsIn K D y = some (some (.str z t))) : DefAtK K x y z st := ⟨_, _, _, _, _, _, _, _, _, _, _, a, l, c, k, n⟩
theorem MethAt.of {K : PySem.W.Frag} {C : Addr} {x q : Str} {st : Stmt} {f : Addr} {oc : Value} {od : Option Addr} {kV dc pm : Value} {an : Option Addr} {cd ct : Value} {sl : Array (Option Value)} (a : PySem.W.findIn K (.ref C) x = some (some (.ref f)))
    (l : K.lookup f = some ⟨oc, od, .func (PySem.W.fnOf x q (defArgs st) (defBody st) (defScope st) .none kV dc pm an cd ct), sl⟩) (c : PySem.W.codeIn K cd q = true) (k : PySem.W.keepIn K (.ref f) = true) (i : PySem.W.isFn K (.ref f) = true) : MethAt K C x q st := ⟨_, _, _, _, _, _, _, _, _, _, a, l, c, k, i⟩
theorem ErrAt1.of {P : Program} {K : PySem.W.Frag} {x q : Str} {st : Stmt} {C fI cc c pe : Addr} {nm qn : Str} {N : Addr} {bs sn sub ab col dd k0 k1 k2 k3 k5} {oc1 : Value} {od1 : Option Addr} {kV dc pm : Value} {an : Option Addr} {ct : Value} {sl1 sl2 sl3 : Array (Option Value)} {v2 v3 : Value} {o2 o3 : Option Addr} {vs : Array Value} {fl : Str} {t : Tok}
    (at_ : PySem.W.nsIn K mainGlobals x = some (some (.ref C))) (cls : K.lookup C = some (excClassObj nm qn C N bs (.ref pe :: arT) true sn sub ab col dd k0 k1 k2 k3 k5 "ArithmeticError.__new__"))
    (sa : PySem.W.findIn K (.ref C) "__setattr__" = some (some (.builtin "object.__setattr__"))) (exB : PySem.W.subIn K (.ref C) (.type "BaseException") = some true) (exA : PySem.W.subIn K (.ref C) (.type "ArithmeticError") = some true) (ty : PySem.W.typeIn K (.ref C) = some (.type "type")) (kp : PySem.W.keepIn K (.ref C) = true)
    (ini : PySem.W.findIn K (.ref C) "__init__" = some (some (.ref fI))) (fnt : PySem.W.typeIn K (.ref fI) = some (.type "function")) (fn : K.lookup fI = some ⟨oc1, od1, .func (PySem.W.fnX "__init__" q (defArgs st) (defBody st) (defScope st) [(("__class__" : Str), cc)] .none kV dc pm an (.ref c) ct), sl1⟩)
    (code : PySem.W.codeIn K (.ref c) q = true) (cell : K.lookup cc = some ⟨v2, o2, .cell (some (.ref C)), sl2⟩) (file : K.lookup c = some ⟨v3, o3, .fields vs, sl3⟩) (file2 : vs[2]? = some (.str fl t)) (file3 : ((P.main.file : Str) == fl) = true) (opq : PySem.W.nsIn K cStatics "thirdparty.any" = some none)
    (sup : PySem.W.ks_superIn K C C "__init__" = some (some (.builtin "ArithmeticError.__init__"))) (below : PySem.W.mroIn K C (.ref C) = some true) (ga : PySem.W.findIn K (.ref C) "__getattribute__" = some (some (.builtin "BaseException.__getattribute__"))) (gg : PySem.W.findIn K (.ref C) "__getattr__" = some none)
    (hd : PySem.W.hasDictIn K C = true) (isC : PySem.W.isClsIn K C = true) (own : PySem.W.subIn K (.ref C) (.ref C) = some true) : ErrAt1 P K x q st C fI cc c :=
  ⟨at_, ⟨_, _, _, _, _, _, _, _, _, _, _, _, _, _, _, cls⟩, sa, exB, exA, ty, kp, ini, fnt, ⟨_, _, _, _, _, _, _, _, fn⟩, code, ⟨_, _, _, cell⟩, ⟨_, _, _, _, _, _, file, file2, file3⟩, opq, sup, below, ga, gg, hd, isC, own⟩
end Pk
set_option Elab.async false
set_option linter.all false
set_option maxRecDepth 100000
set_option maxHeartbeats 1000000
namespace Pk
open PySem L2 PySem.Spec PyProof.Rows
/-! ### operators of an own class, by its own methods -/
section
variable {X : Cx} {CX : CXT} {pins : List (Addr × Obj)} {σ : L2.St} {H : Hp} {s : Shared} {k : Nat} {f C : Addr} {fd : FuncData} {ps : List Str} {sp : Sp} {E : L2.St → XK} {Q : VK} {us : List Value} {vs : List V} {A' : Around}
/-- the run of a method in a room around -/
theorem own_run (F : FnOk X.prog X.w X.K X.mg X.base CX k f fd ps sp) (hr : Room k A') (e0 : Env0 X.prog X.w X.K X.mg X.base A' X.stack s H) (hb : Binds X.K fd ps []) (hx : PassesAt CX X σ (E σ)) (I : Inv X pins σ H s) (r : Vals vs us) (h : sp vs H Q (E σ)) :
    wpAny (model X.prog X.w) A' (call (.ref f) us) (EP X pins σ Q) X.xe s := by
  have n : us.length = ps.length := r.length ▸ F.len _ _ _ _ h
  have b := hb s us I.kIn (by simpa using n)
  rw [List.append_nil] at b
  refine wpAny_call (codeAny_mono (F.run A' X.stack s H ⟨us, []⟩ us vs Q (E σ) hr e0 b r h) ?_)
  intro z s' hz
  rcases z with e | fl
  · exact hx pins H s e s' I hz
  · cases fl with
    | ret u => exact I.after hz
    | next => exact hz.elim
    | brk => exact hz.elim
    | cont => exact hz.elim
/-- the instance that stands at a -/
theorem own_at {a dx : Addr} {fs : List (Str × V)} (I : Inv X pins σ H s) (ha : H a = some (.ins C dx fs)) : ∃ ox od, PySem.W.InstAt s.heap a ox C (some od) := by
  obtain ⟨mA, J, _⟩ := ins_get I.hok ha
  obtain ⟨od, J, _⟩ := J.look
  exact ⟨_, od, J⟩
/-- e1 ⊕ e2, at the slots -/
def tOp2 (r : (L2.St → XK) → L2.St → V → V → Hp → VK → Prop) (E : L2.St → XK) (ta tb : TE) : TE := fun σ H Q => ta σ H fun x H1 => tb σ H1 fun y H2 => r E σ x y H2 Q
/-- the method's promise, of the instance x of C and y -/
def rOwn2 (C : Addr) (sp : Sp) : (L2.St → XK) → L2.St → V → V → Hp → VK → Prop := fun E σ x y H Q => ∃ a dx fs, x = .ref a ∧ H a = some (.ins C dx fs) ∧ sp [x, y] H Q (E σ)
/-- .. and the two are of the one class, or y is of a class that C is no base of -/
def OtherT (K : PySem.W.Frag) (C : Addr) (H : Hp) (y : V) : Prop := (∃ b dy gs, y = .ref b ∧ H b = some (.ins C dy gs)) ∨ (∃ T : String, TyX K H y (.type T) ∧ PySem.W.subIn K (.type T) (.ref C) = some false)
theorem ty_looks {y : V} {u t : Value} {M : Model} (I : Inv X pins σ H s) (ry : RelV y u) (ty : TyX X.K H y t) : PySem.W.Looks M s.heap (typeOf u) t := by
  obtain ⟨P, kx, hp, _⟩ := kit_of I ry ty
  exact kx.ty M s.heap I.kIn hp
theorem other_looks {y : V} {u : Value} {M : Model} (I : Inv X pins σ H s) (ry : RelV y u) (o : OtherT X.K C H y) (one : ∀ b dy gs, y = .ref b → H b = some (.ins C dy gs) → True) : ∃ tb, PySem.W.Looks M s.heap (typeOf u) tb ∧ PySem.W.notFirst X.K C tb = true := by
  rcases o with ⟨b, dy, gs, rfl, hb⟩ | ⟨T, ty, hs⟩
  · cases ry
    obtain ⟨ox, od, J⟩ := own_at I hb
    exact ⟨.ref C, J.type, by simp [PySem.W.notFirst]⟩
  · exact ⟨.type T, ty_looks I ry ty, by simp [PySem.W.notFirst, hs]⟩
/-- what an own method of two places must be -/
structure Two (X : Cx) (CX : CXT) (k : Nat) (C : Addr) (m : Str) (sp : Sp) : Prop where
  ex : ∃ (f : Addr) (fd : FuncData) (ps : List Str), Meth X.K C m f ∧ FnOk X.prog X.w X.K X.mg X.base CX k f fd ps sp ∧ Binds X.K fd ps []
/-- x == y, x < y, .. by the own method -/
def rOwnC (K : PySem.W.Frag) (C : Addr) (sp : Sp) : (L2.St → XK) → L2.St → V → V → Hp → VK → Prop := fun E σ x y H Q => ∃ a dx fs, x = .ref a ∧ H a = some (.ins C dx fs) ∧ OtherT K C H y ∧ sp [x, y] H Q (E σ)
theorem pe_cmpOwn {op : CmpOp} {a b : Expr} {ta tb : TE} {pos : Pos} (hop : ∀ a b, compareOp op a b = richCompare op a b) (F : Two X CX k C (cmpInfo op).2.1 sp) (hr : Room k X.A) (hx : ∀ σ, PassesAt CX X σ (E σ)) (ha : PE X a ta) (hb : PE X b tb) (hm : behindInMarks op b = false) :
    PE X (.Compare a [op] [b] pos) (tOp2 (rOwnC X.K C sp) E ta tb) := by
  obtain ⟨f, fd, ps, M, F, B⟩ := F.ex
  refine ⟨fun pins s σ H Q I h => ?_⟩
  refine wpAny_Compare1 (binT ha hb I h fun v u s2 x y H2 I2 rx ry q => ?_) hm
  obtain ⟨a, dx, fs, rfl, e, o, q⟩ := q
  cases rx
  obtain ⟨ox, od, J⟩ := own_at I2 e
  obtain ⟨tb, L, nf⟩ := other_looks (M := model X.prog X.w) I2 ry o fun _ _ _ _ _ => trivial
  obtain ⟨m, hF⟩ := I2.fr
  rw [hop]
  refine PySem.W.cmp_K (op := op) hr.units0 hF I2.ok.mod.kin J L nf M.at_ M.fn ?_
  refine wpAny_mono (own_run (us := [.ref a, u]) (vs := [.ref a, y]) F hr I2.env0 B (hx σ) I2 (.cons rfl (.cons ry .nil)) q) (fun w s' z => ?_) fun _ _ z => z
  obtain ⟨z, H3, I3, rz, qz⟩ := z
  exact SlX.cmpback rz ⟨z, H3, I3, rz, qz⟩
/-- y in x by the own __contains__ -/
def rOwnIn (C : Addr) (sp : Sp) (neg : Bool) : (L2.St → XK) → L2.St → V → V → Hp → VK → Prop := fun E σ y x H Q => ∃ a dx fs, x = .ref a ∧ H a = some (.ins C dx fs) ∧ sp [x, y] H (fun z H' => ∃ c, z = .bl c ∧ Q (.bl (if neg then !c else c)) H') (E σ)
theorem pe_inOwn {a b : Expr} {ta tb : TE} {pos : Pos} (F : Two X CX k C "__contains__" sp) (hr : Room k X.A) (hx : ∀ σ, PassesAt CX X σ (E σ)) (ha : PE X a ta) (hb : PE X b tb) (hm : behindInMarks .In b = false) :
    PE X (.Compare a [.In] [b] pos) (tOp2 (rOwnIn C sp false) E ta tb) := by
  obtain ⟨f, fd, ps, M, F, B⟩ := F.ex
  refine ⟨fun pins s σ H Q I h => ?_⟩
  refine wpAny_Compare1 (binT ha hb I h fun v u s2 y x H2 I2 ry rx q => ?_) hm
  obtain ⟨a, dx, fs, rfl, e, q⟩ := q
  cases rx
  obtain ⟨ox, od, J⟩ := own_at I2 e
  obtain ⟨m, hF⟩ := I2.fr
  refine PySem.W.in_K hF I2.ok.mod.kin J M.at_ M.fn ?_
  refine wpAny_mono (own_run (us := [.ref a, v]) (vs := [.ref a, y]) F hr I2.env0 B (hx σ) I2 (.cons rfl (.cons ry .nil)) q) (fun w s' z => ?_) fun _ _ z => z
  obtain ⟨z, H3, I3, rz, c, rfl, qz⟩ := z
  cases (show w = Value.bool c from rz)
  exact wpAny_pure ⟨.bl c, H3, I3, rfl, qz⟩
/-- len(x) by the own __len__ -/
def rOwnLen (C : Addr) (sp : Sp) : (L2.St → XK) → L2.St → List V → Hp → VK → Prop := fun E σ xs H Q => ∃ a dx fs, xs = [.ref a] ∧ H a = some (.ins C dx fs) ∧ sp xs H (fun z H' => ∃ n : Nat, z = .int n ∧ n < 2 ^ 63 ∧ Q (.int n) H') (E σ)
theorem call_lenOwn {D : XK} (F : Two X CX k C "__len__" sp) (hr : Room (k + 1) X.A) (hx : Passes CX X D) : CallR X (.builtin "len") (rOwnLen C sp (fun _ => D) []) := by
  obtain ⟨f, fd, ps, M, F, B⟩ := F.ex
  intro pins s σ H xs us Q I r q
  obtain ⟨a, dx, fs, rfl, e, q⟩ := q
  cases r with
  | cons r1 r2 =>
    cases r2
    cases r1
    obtain ⟨ox, od, J⟩ := own_at I e
    obtain ⟨m, hF⟩ := I.fr
    refine PySem.W.len_K hF I.ok.mod.kin J M.at_ M.fn ?_
    refine wpAny_mono (own_run (us := [.ref a]) (vs := [.ref a]) (E := fun _ => D) F hr.in1 I.env0.in1 B (fun pins H s e s' I z => hx pins σ H s e s' I z) I (.cons rfl .nil) q) (fun w s' z => ?_) fun _ _ z => z
    obtain ⟨z, H3, I3, rz, n, rfl, hn, qz⟩ := z
    obtain ⟨t, rfl⟩ := (show ∃ t, w = Value.int n t from rz)
    refine ⟨⟨by omega, by omega⟩, ?_⟩
    exact ⟨.int n, H3, I3.tok _, ⟨_, rfl⟩, qz⟩
/-- x[y] by the own __getitem__ -/
theorem pe_ixOwn {a b : Expr} {ta tb : TE} {pos : Pos} (F : Two X CX k C "__getitem__" sp) (fi : ∀ f, PySem.W.findIn X.K (.ref C) "__getitem__" = some (some (.ref f)) → PySem.W.fnIn X.K f = true) (hr : Room (k + 1) X.A) (hx : ∀ σ, PassesAt CX X σ (E σ)) (ha : PE X a ta) (hb : PE X b tb)
    (hs : ∀ x i, subscripted b true (.ref x) i = runValue (.builtin "lifetime.subscript" ⟨[.ref x, i], []⟩)) :
    PE X (.Subscript a b pos) (tOp2 (rOwn2 C sp) E ta tb) := by
  obtain ⟨f, fd, ps, M, F, B⟩ := F.ex
  refine ⟨fun pins s σ H Q I h => ?_⟩
  refine Subscript_ (binT ha hb I h fun v u s2 x y H2 I2 rx ry q => ?_)
  obtain ⟨c, dx, fs, rfl, e, q⟩ := q
  cases rx
  obtain ⟨ox, od, J⟩ := own_at I2 e
  obtain ⟨m, hF⟩ := I2.fr
  refine PySem.W.sub_K hF I2.ok.mod.kin J M.at_ (fi f M.at_) M.fn ?_ (hs _ _)
  exact own_run (us := [.ref c, u]) (vs := [.ref c, y]) F hr.in1 I2.env0.in1 B (hx σ) I2 (.cons rfl (.cons ry .nil)) q
end
section
open PySem.W PySem.Calls
variable {prog : Program} {w : World} {A : Around} {E : Value → Shared → Prop} {s : Shared} {K : Frag} {x f C : Addr} {ox : Obj} {od : Option Obj}
/-- x ⊕ b by the own method: b is of the one class, or of a built-in one -/
theorem bin_by_own {op : Operator} {b tb : Value} {Q : Value → Shared → Prop} (X : K.In s.heap) (I : InstAt s.heap x ox C od) (hb : Looks (model prog w) s.heap (typeOf b) tb) (hc : selfFirst K C = true)
    (hs : findIn K (.ref C) (PySem.dunder op.info.2) = some (some (.ref f))) (hf : isFn K (.ref f) = true) (hr : ∃ rc, findIn K (.ref C) (dunderR op.info.2) = some rc ∧ (rc = none ∨ ∃ g : Addr, rc = some (.ref g)))
    (ht : tb = .ref C ∨ ∃ (T : String) (fo ro : Option Value), tb = .type T ∧ findIn K (.type T) (PySem.dunder op.info.2) = some fo ∧ findIn K (.type T) (dunderR op.info.2) = some ro ∧ subIn K (.type T) (.ref C) = some false)
    (h : wpAny (model prog w) A (call (.ref f) [.ref x, b]) (PySem.W.CmpBack Q) E s) : wpAny (model prog w) A (binaryOp op (.ref x) b) Q E s := by
  obtain ⟨cd, rest, hcd, hm⟩ := ksp_first hc
  obtain ⟨rc, hr, hp⟩ := hr
  rcases hi : op.info with ⟨sym, nm'⟩
  rw [hi] at hs hr ht
  dsimp only at hs hr ht
  have one := ksp_try X I hs hf h
  obtain ⟨hh, g, d, tt, os⟩ := s
  have a1 : Looks (model prog w) hh (typeOf (.ref x)) (.ref C) := I.type
  have a2 : Looks (model prog w) hh (typeOf b) tb := hb
  have a3 : Looks (model prog w) hh (fillsNumberSlot (.ref C) nm') true := fills_K X hcd hm hs
  have a6 : Looks (model prog w) hh (numberSlotInPython (.ref C) nm') true := ksp_inPy X hs hr hp
  simp only [binaryOp, hi]
  refine wpAny_holding (wpAny_bind ?_)
  unfold binaryOp1
  refine wpAny_bind (a1.at (wpAny_bind (a2.at (wpAny_bind (a3.at ?_)))))
  rcases ht with rfl | ⟨T, fo, ro, rfl, h1, h2, hsub⟩
  · simp only [beq_self_eq_true, if_true]
    ksp_lk
    refine wpAny_mono one (fun r s' hr' => ?_) fun _ _ e => e
    obtain ⟨v, rfl, hq⟩ := hr'
    ksp_lk
    exact hq
  · have a4 := ksp_fillsT (M := model prog w) X h1 h2
    have a5 : Looks (model prog w) hh (isSubtype (.type T) (.ref C)) false := looks_subIn X hsub
    have a7 : Looks (model prog w) hh (numberSlotInPython (.type T) nm') false := Looks.of_pure rfl
    have a8 : Looks (model prog w) hh (typeLookup (.type T) (dunderR nm')) ro := looks_findIn X h2
    generalize ((fo.isSome && !isSeqSlot fo) || (ro.isSome && !isSeqSlot ro)) = right at a4
    have ne : (Value.ref C == Value.type T) = false := Bool.eq_false_iff.mpr fun q => by cases beq_iff_eq.mp q
    simp only [ne, Bool.false_eq_true, if_false]
    cases right with
    | false =>
      ksp_lk
      refine wpAny_mono one (fun r s' hr' => ?_) fun _ _ e => e
      obtain ⟨v, rfl, hq⟩ := hr'
      ksp_lk
      exact hq
    | true =>
      ksp_lk
      refine wpAny_mono one (fun r s' hr' => ?_) fun _ _ e => e
      obtain ⟨v, rfl, hq⟩ := hr'
      ksp_lk
      exact hq
end
section
variable {X : Cx} {CX : CXT} {k : Nat} {C : Addr} {sp : Sp} {E : L2.St → XK}
/-- what the other one may be in x ⊕ y -/
def OtherB (K : PySem.W.Frag) (C : Addr) (H : Hp) (nm : String) (y : V) : Prop := (∃ b dy gs, y = .ref b ∧ H b = some (.ins C dy gs)) ∨
  (∃ (T : String) (fo ro : Option Value), TyX K H y (.type T) ∧ PySem.W.findIn K (.type T) (PySem.dunder nm) = some fo ∧ PySem.W.findIn K (.type T) (dunderR nm) = some ro ∧ PySem.W.subIn K (.type T) (.ref C) = some false)
def rOwnB (K : PySem.W.Frag) (C : Addr) (nm : String) (sp : Sp) : (L2.St → XK) → L2.St → V → V → Hp → VK → Prop := fun E σ x y H Q => ∃ a dx fs, x = .ref a ∧ H a = some (.ins C dx fs) ∧ OtherB K C H nm y ∧ sp [x, y] H Q (E σ)
/-- x ⊕ y by the own method -/
theorem pe_binOwn {op : Operator} {a b : Expr} {ta tb : TE} {pos : Pos} (F : Two X CX k C (PySem.dunder op.info.2) sp) (hc : PySem.W.selfFirst X.K C = true) (hrc : ∃ rc, PySem.W.findIn X.K (.ref C) (dunderR op.info.2) = some rc ∧ (rc = none ∨ ∃ g : Addr, rc = some (.ref g)))
    (hr : Room k X.A) (hx : ∀ σ, PassesAt CX X σ (E σ)) (ha : PE X a ta) (hb : PE X b tb) : PE X (.BinOp a op b pos) (tOp2 (rOwnB X.K C op.info.2 sp) E ta tb) := by
  obtain ⟨f, fd, ps, M, F, B⟩ := F.ex
  refine ⟨fun pins s σ H Q I h => ?_⟩
  refine wpAny_BinOp (binT ha hb I h fun v u s2 x y H2 I2 rx ry q => ?_)
  obtain ⟨a, dx, fs, rfl, e, o, q⟩ := q
  cases rx
  obtain ⟨ox, od, J⟩ := own_at I2 e
  have run := wpAny_mono (own_run (us := [.ref a, u]) (vs := [.ref a, y]) F hr I2.env0 B (hx σ) I2 (.cons rfl (.cons ry .nil)) q) (Q' := PySem.W.CmpBack (EP X pins σ Q)) (fun w s' z => by
    obtain ⟨z, H3, I3, rz, qz⟩ := z
    exact SlX.cmpback rz ⟨z, H3, I3, rz, qz⟩) fun _ _ z => z
  rcases o with ⟨b, dy, gs, rfl, eb⟩ | ⟨T, fo, ro, ty, h1, h2, h3⟩
  · cases ry
    obtain ⟨oy, oe, J'⟩ := own_at I2 eb
    exact bin_by_own I2.kIn J J'.type hc M.at_ M.fn hrc (.inl rfl) run
  · exact bin_by_own I2.kIn J (ty_looks I2 ry ty) hc M.at_ M.fn hrc (.inr ⟨T, fo, ro, rfl, h1, h2, h3⟩) run
/-- what raises nothing here -/
theorem passN (hx : Passes CX X E0) : ∀ σ, PassesAt CX X σ ((fun _ => E0 : L2.St → XK) σ) := fun σ pins H s e s' I c => hx pins σ H s e s' I c
end
section
open PySem.W PySem.Calls
variable {prog : Program} {w : World} {A : Around} {E : Value → Shared → Prop} {s : Shared} {K : Frag} {x f C : Addr} {ox : Obj} {od : Option Obj} {b tb : Value}
/-- what object's != does where an own == stands -/
theorem ne_body (hu : A.units < cLine) (X : K.In s.heap) (I : InstAt s.heap x ox C od) (he : findIn K (.ref C) "__eq__" = some (some (.ref f))) (hf : isFn K (.ref f) = true) {Q : Fin → Shared → Prop}
    (h : wpAny (model prog w) A (call (.ref f) [.ref x, b]) (fun v s' => ∃ c, v = .bool c ∧ Q (.done (.ret (.bool (!c)))) s') E s) : wpAny (model prog w) A (Builtin.«object.__ne__» ⟨[.ref x, b], []⟩) Q E s := by
  unfold Builtin.«object.__ne__»
  repeat (first
    | with_reducible refine wpAny_cRoomFor hu ?_
    | (refine wpAny_bind (m := callSpecialIfBound? (.ref x) (Str.ofString "__eq__") [b]) (ifBound_K X I he hf (wpAny_mono h (fun r s' hr => by
          obtain ⟨c, rfl, hq⟩ := hr
          repeat (first | exact hq | exact wpAny_pure hq | exact wpAny_truthy_bool hq | (refine wpAny_bind (m := truthy (.bool _)) (wpAny_truthy_bool ?_)) | wp_step)) fun _ _ e => e)))
    | wp_step)
/-- x != b by the own == -/
theorem ne_by_eq (hu : A.in1.units < cLine) (hu0 : A.units < cLine) (X : K.In s.heap) (I : InstAt s.heap x ox C od) (hb : Looks (model prog w) s.heap (typeOf b) tb) (hn : notFirst K C tb = true) (hm : mroIn K C (.type "object") = some true)
    (hs : findIn K (.ref C) "__ne__" = some (some (.builtin "object.__ne__"))) (he : findIn K (.ref C) "__eq__" = some (some (.ref f))) (hf : isFn K (.ref f) = true) {Q : Value → Shared → Prop}
    (h : wpAny (model prog w) A.in1 (call (.ref f) [.ref x, b]) (fun v s' => ∃ c, v = .bool c ∧ Q (.bool (!c)) s') E s) : wpAny (model prog w) A (richCompare .NotEq (.ref x) b) Q E s := by
  have inner : ∀ {R : Value → Shared → Prop}, (∀ c s', Q (.bool c) s' → R (.bool c) s') → wpAny (model prog w) A (call (.builtin "object.__ne__") [.ref x, b]) R E s := fun {R} hR =>
    wpAny_call (codeAny_call_builtin F.cmp_object.ne.plain F.cmpEntry_ne (check_slot F.cmpKind_ne F.cmpSplit_ne (I.type.andThen (looks_mroIn X hm)) (F.cmpArgs_ne _ _)
      (ne_body hu X I he hf (wpAny_mono h (fun v s' z => by
        obtain ⟨c, e, q⟩ := z
        exact ⟨c, e, hR _ _ q⟩) fun _ _ e => e))))
  have one : wpAny (model prog w) A (tryCompare (.ref x) "__ne__" b) (fun r s' => ∃ v, r = some v ∧ Q v s') E s := by
    unfold tryCompare
    simp only [callSpecialIfBound?, bindSpecialIfBound?]
    refine wpAny_bind (wpAny_holding (wpAny_bind (wpAny_bind (wpAny_bind (I.type.here ((looks_findIn X hs).here ?_))))))
    refine wpAny_bind (wpAny_askSetting (wpAny_ite ?_))
    have fin := inner (R := fun v s' => wpAny (model prog w) A (pure (some v)) (fun r s'' => wpAny (model prog w) A (match r with | some .notImplemented | none => pure none | some v => pure (some v)) (fun r s' => ∃ v, r = some v ∧ Q v s') E s'') E s') (fun c s' q => wpAny_pure (wpAny_pure ⟨_, rfl, q⟩))
    split
    · exact wpAny_bind (wpAny_of_eq (F.cmp_object.ne.bind _) (wpAny_pure (by exact wpAny_bind fin)))
    · exact wpAny_tryCatch (wpAny_bind (wpAny_of_eq (F.cmp_object.ne.bind _) (wpAny_pure (by exact wpAny_bind fin))))
  unfold richCompare
  simp only [oneThing_ref]
  refine wpAny_holding (wpAny_bind (wpAny_cRoomFor hu0 ?_))
  refine wpAny_bind (I.type.here (wpAny_bind (hb.here ?_)))
  split
  · rename_i q
    have e : subIn K tb (.ref C) = some false := by
      rcases Bool.or_eq_true_iff.mp hn with e | e
      · rw [beq_iff_eq.mp e] at q; simp at q
      · exact beq_iff_eq.mp e
    refine wpAny_bind ((looks_subIn X e).here ?_)
    simp only [Bool.false_eq_true, if_false]
    refine wpAny_bind (wpAny_mono one (fun r s' z => ?_) fun _ _ e => e)
    obtain ⟨v, rfl, hq⟩ := z
    exact wpAny_pure hq
  · refine wpAny_bind (wpAny_pure ?_)
    simp only [Bool.false_eq_true, if_false]
    refine wpAny_bind (wpAny_mono one (fun r s' z => ?_) fun _ _ e => e)
    obtain ⟨v, rfl, hq⟩ := z
    exact wpAny_pure hq
end
section
variable {X : Cx} {CX : CXT} {k : Nat} {C : Addr} {sp : Sp} {E : L2.St → XK}
/-- x != y, where the class has an == of its own and no != -/
def rOwnNe (K : PySem.W.Frag) (C : Addr) (sp : Sp) : (L2.St → XK) → L2.St → V → V → Hp → VK → Prop := fun E σ x y H Q => ∃ a dx fs, x = .ref a ∧ H a = some (.ins C dx fs) ∧ OtherT K C H y ∧ sp [x, y] H (fun z H' => ∃ c, z = .bl c ∧ Q (.bl (!c)) H') (E σ)
theorem pe_neOwn {a b : Expr} {ta tb : TE} {pos : Pos} (F : Two X CX k C "__eq__" sp) (hs : PySem.W.findIn X.K (.ref C) "__ne__" = some (some (.builtin "object.__ne__"))) (ho : PySem.W.mroIn X.K C (.type "object") = some true) (hr : Room (k + 1) X.A) (hx : ∀ σ, PassesAt CX X σ (E σ)) (ha : PE X a ta) (hb : PE X b tb) (hm : behindInMarks .NotEq b = false) :
    PE X (.Compare a [.NotEq] [b] pos) (tOp2 (rOwnNe X.K C sp) E ta tb) := by
  obtain ⟨f, fd, ps, M, F, B⟩ := F.ex
  refine ⟨fun pins s σ H Q I h => ?_⟩
  refine wpAny_Compare1 (binT ha hb I h fun v u s2 x y H2 I2 rx ry q => ?_) hm
  obtain ⟨a, dx, fs, rfl, e, o, q⟩ := q
  cases rx
  obtain ⟨ox, od, J⟩ := own_at I2 e
  obtain ⟨tb, L, nf⟩ := other_looks (M := model X.prog X.w) I2 ry o fun _ _ _ _ _ => trivial
  show wpAny _ _ (richCompare .NotEq _ _) _ _ _
  refine ne_by_eq hr.in1.units0 hr.units0 I2.kIn J L nf ho hs M.at_ M.fn ?_
  refine wpAny_mono (own_run (us := [.ref a, u]) (vs := [.ref a, y]) F hr.in1 I2.env0.in1 B (hx σ) I2 (.cons rfl (.cons ry .nil)) q) (fun w s' z => ?_) fun _ _ z => z
  obtain ⟨z, H3, I3, rz, c, rfl, qz⟩ := z
  cases (show w = Value.bool c from rz)
  exact ⟨c, rfl, .bl (!c), H3, I3, rfl, qz⟩
end
/-! readings, step by step -/
section
variable {K : PySem.W.Frag} {C a dx : Addr} {fs : List (Str × V)} {sp : Sp} {E : L2.St → XK} {σ : L2.St} {y : V} {H : Hp} {Q : VK} {nm : String}
theorem r_op2 {r : (L2.St → XK) → L2.St → V → V → Hp → VK → Prop} {ta tb : TE} (h : ta σ H fun x H1 => tb σ H1 fun y H2 => r E σ x y H2 Q) : tOp2 r E ta tb σ H Q := h
theorem r_own2 (e : H a = some (.ins C dx fs)) (h : sp [.ref a, y] H Q (E σ)) : rOwn2 C sp E σ (.ref a) y H Q := ⟨a, dx, fs, rfl, e, h⟩
theorem r_ownC (e : H a = some (.ins C dx fs)) (o : OtherT K C H y) (h : sp [.ref a, y] H Q (E σ)) : rOwnC K C sp E σ (.ref a) y H Q := ⟨a, dx, fs, rfl, e, o, h⟩
theorem r_ownB (e : H a = some (.ins C dx fs)) (o : OtherB K C H nm y) (h : sp [.ref a, y] H Q (E σ)) : rOwnB K C nm sp E σ (.ref a) y H Q := ⟨a, dx, fs, rfl, e, o, h⟩
theorem r_ownNe (e : H a = some (.ins C dx fs)) (o : OtherT K C H y) (h : sp [.ref a, y] H (fun z H' => ∃ c, z = .bl c ∧ Q (.bl (!c)) H') (E σ)) : rOwnNe K C sp E σ (.ref a) y H Q := ⟨a, dx, fs, rfl, e, o, h⟩
theorem r_ownIn (e : H a = some (.ins C dx fs)) (h : sp [.ref a, y] H (fun z H' => ∃ c, z = .bl c ∧ Q (.bl c) H') (E σ)) : rOwnIn C sp false E σ y (.ref a) H Q := ⟨a, dx, fs, rfl, e, h⟩
theorem r_ownLen (e : H a = some (.ins C dx fs)) (h : sp [.ref a] H (fun z H' => ∃ n : Nat, z = .int n ∧ n < 2 ^ 63 ∧ Q (.int n) H') (E σ)) : rOwnLen C sp E σ [.ref a] H Q := ⟨a, dx, fs, rfl, e, h⟩
end
end Pk
set_option Elab.async false
set_option linter.all false
set_option maxRecDepth 100000
set_option maxHeartbeats 200000
namespace Pk
open PySem L2 PySem.Spec PyProof.Rows
section
open PySem.W PySem.Calls
variable {prog : Program} {w : World} {A : Around} {E : Value → Shared → Prop} {s : Shared} {K : Frag} {x f C : Addr} {ox : Obj} {od : Option Obj} {i : Int} {t : Tok}
/-- int's product with an instance: declined -/
theorem mul_no {c : Value} {dd : Option Addr} {sl : Array (Option Value)} {Q : Value → Shared → Prop} (hx : s.heap.get? x = some ⟨c, dd, .plain, sl⟩) (h : Q .notImplemented s) : wpAny (model prog w) A (call (.builtin "int.__mul__") [.int i t, .ref x]) Q E s := by
  refine wpAny_call (codeAny_call_builtin F.slot_int_mul.plain F.entry_int_mul (F.slot_int_mul.check _ _ _ _ _ _ _ _ (typeIs_int s i t) (F.args_int_mul_2 _ _) ?_))
  obtain ⟨hp, g, d, tk, os⟩ := s
  unfold Builtin.«int.__mul__» Builtin.Int.intBinary
  repeat (first
    | exact h
    | with_reducible refine wpAny_load hx ?_
    | wp_step)
theorem try_mul_int {nm : Str} {c : Value} {dd : Option Addr} {sl : Array (Option Value)} {Q : Option Value → Shared → Prop} (L : Slot "int" nm "int.__mul__") (hx : s.heap.get? x = some ⟨c, dd, .plain, sl⟩) (h : Q none s) : wpAny (model prog w) A (tryMethod (.int i t) nm (.ref x)) Q E s :=
  wpAny_tryMethod_declines (typeIs_int s i t) L (mul_no hx ⟨rfl, h⟩)
/-- a ⊕ x by x's own reflected method, a of a built-in class that has none of its own, or declines -/
theorem bin_back {op : Operator} {a : Value} {T : String} {lb : Bool} {g0 : Addr} {Q : Value → Shared → Prop} (X : K.In s.heap) (I : InstAt s.heap x ox C od) (hta : typeOf a = pure (.type T)) (hl : fillsNumberSlot (.type T) op.info.2 = pure lb) (hc : selfFirst K C = true)
    (hs : findIn K (.ref C) (PySem.dunder op.info.2) = some (some (.ref g0))) (hr : findIn K (.ref C) (dunderR op.info.2) = some (some (.ref f))) (hf : isFn K (.ref f) = true) (hsub : subIn K (.ref C) (.type T) = some false)
    (no : lb = true → ∀ {R : Option Value → Shared → Prop}, R none s → wpAny (model prog w) A (tryMethod a (PySem.dunder op.info.2) (.ref x)) R E s)
    (h : wpAny (model prog w) A (call (.ref f) [.ref x, a]) (PySem.W.CmpBack Q) E s) : wpAny (model prog w) A (binaryOp op a (.ref x)) Q E s := by
  obtain ⟨cd, rest, hcd, hm⟩ := ksp_first hc
  rcases hi : op.info with ⟨sym, nm'⟩
  rw [hi] at hs hr hl no
  dsimp only at hs hr hl no
  have one := ksp_try X I hr hf h
  obtain ⟨hh, g, d, tt, os⟩ := s
  have a1 : Looks (model prog w) hh (typeOf (.ref x)) (.ref C) := I.type
  have a2 : Looks (model prog w) hh (typeOf a) (.type T) := Looks.of_pure hta
  have a3 : Looks (model prog w) hh (fillsNumberSlot (.ref C) nm') true := fills_K X hcd hm hs
  have a4 : Looks (model prog w) hh (fillsNumberSlot (.type T) nm') lb := Looks.of_pure hl
  have a5 : Looks (model prog w) hh (isSubtype (.ref C) (.type T)) false := looks_subIn X hsub
  have a7 : Looks (model prog w) hh (numberSlotInPython (.type T) nm') false := Looks.of_pure rfl
  have ne : (Value.type T == Value.ref C) = false := Bool.eq_false_iff.mpr fun q => by cases beq_iff_eq.mp q
  simp only [binaryOp, hi]
  refine wpAny_holding (wpAny_bind ?_)
  unfold binaryOp1
  refine wpAny_bind (a2.at (wpAny_bind (a1.at (wpAny_bind (a4.at ?_)))))
  simp only [ne, Bool.false_eq_true, if_false]
  cases lb with
  | false =>
    ksp_lk
    refine wpAny_mono one (fun r s' hr' => ?_) fun _ _ e => e
    obtain ⟨v, rfl, hq⟩ := hr'
    ksp_lk
    exact hq
  | true =>
    ksp_lk
    refine no rfl ?_
    ksp_lk
    refine wpAny_mono one (fun r s' hr' => ?_) fun _ _ e => e
    obtain ⟨v, rfl, hq⟩ := hr'
    ksp_lk
    exact hq
end
theorem slot_mul_lit : Slot "int" ("__mul__" : Str) "int.__mul__" := by
  have e : PySem.dunder "mul" = ("__mul__" : Str) := by decide +kernel
  rw [← e]
  exact PySem.F.slot_int_mul
section
variable {X : Cx} {CX : CXT} {k : Nat} {C g0 : Addr} {sp : Sp} {E : L2.St → XK}
/-- i * x by the own __rmul__, i an int -/
def rMulBack (C : Addr) (sp : Sp) : (L2.St → XK) → L2.St → V → V → Hp → VK → Prop := fun E σ y x H Q => ∃ a dx fs i, x = .ref a ∧ y = .int i ∧ H a = some (.ins C dx fs) ∧ sp [x, y] H Q (E σ)
theorem pe_mulBack {op : Operator} {a b : Expr} {ta tb : TE} {pos : Pos} (hop : op = .Mult) (F : Two X CX k C "__rmul__" sp) (hc : PySem.W.selfFirst X.K C = true) (hs : PySem.W.findIn X.K (.ref C) "__mul__" = some (some (.ref g0))) (hsub : PySem.W.subIn X.K (.ref C) (.type "int") = some false)
    (hr : Room k X.A) (hx : ∀ σ, PassesAt CX X σ (E σ)) (ha : PE X a ta) (hb : PE X b tb) : PE X (.BinOp a op b pos) (tOp2 (rMulBack C sp) E ta tb) := by
  obtain ⟨f, fd, ps, M, F, B⟩ := F.ex
  refine ⟨fun pins s σ H Q I h => ?_⟩
  refine wpAny_BinOp (binT ha hb I h fun v u s2 y x H2 I2 ry rx q => ?_)
  obtain ⟨a, dx, fs, i, rfl, rfl, e, q⟩ := q
  cases rx
  obtain ⟨t, rfl⟩ := (show ∃ t, v = Value.int i t from ry)
  obtain ⟨mA, J0, _⟩ := ins_get I2.hok e
  obtain ⟨od, J, _⟩ := J0.look
  have run := wpAny_mono (own_run (us := [.ref a, .int i t]) (vs := [.ref a, .int i]) F hr I2.env0 B (hx σ) I2 (.cons rfl (.cons ⟨t, rfl⟩ .nil)) q) (Q' := PySem.W.CmpBack (EP X pins σ Q)) (fun w s' z => by
    obtain ⟨z, H3, I3, rz, qz⟩ := z
    exact SlX.cmpback rz ⟨z, H3, I3, rz, qz⟩) fun _ _ z => z
  have e0 : op.info.2 = "mul" := by rw [hop]; rfl
  have e1 : PySem.dunder op.info.2 = ("__mul__" : Str) := by rw [e0]; decide +kernel
  have e2 : dunderR op.info.2 = ("__rmul__" : Str) := by rw [e0]; decide +kernel
  have k1 : PySem.W.findIn X.K (.ref C) (PySem.dunder op.info.2) = some (some (.ref g0)) := by rw [e1]; exact hs
  have k2 : PySem.W.findIn X.K (.ref C) (dunderR op.info.2) = some (some (.ref f)) := by rw [e2]; exact M.at_
  have k3 : fillsNumberSlot (.type "int") op.info.2 = pure true := by rw [e0]; exact PySem.F.fills_int_mul
  have k5 : Slot "int" (PySem.dunder op.info.2) "int.__mul__" := by rw [e1]; exact slot_mul_lit
  have kT : typeOf (.int i t) = pure (.type "int") := rfl
  exact bin_back I2.kIn J kT k3 hc k1 k2 M.fn hsub (fun _ {R} hR => try_mul_int k5 J0.obj hR) run
theorem r_mulBack {σ : L2.St} {H : Hp} {Q : VK} {a dx : Addr} {fs : List (Str × V)} {i : Int} (e : H a = some (.ins C dx fs)) (h : sp [.ref a, .int i] H Q (E σ)) : rMulBack C sp E σ (.int i) (.ref a) H Q := ⟨a, dx, fs, i, rfl, rfl, e, h⟩
end
section
open PySem.W PySem.Calls
variable {prog : Program} {w : World} {A : Around} {E : Value → Shared → Prop} {s : Shared} {x : Addr} {b : Bool}
/-- a bool's product with an instance: declined -/
theorem mul_noB {c : Value} {dd : Option Addr} {sl : Array (Option Value)} {Q : Value → Shared → Prop} (hx : s.heap.get? x = some ⟨c, dd, .plain, sl⟩) (h : Q .notImplemented s) : wpAny (model prog w) A (call (.builtin "int.__mul__") [.bool b, .ref x]) Q E s := by
  refine wpAny_call (codeAny_call_builtin PySem.F.slot_int_mul.plain PySem.F.entry_int_mul (PySem.F.slot_bool_mul.check _ _ _ _ _ _ _ _ (PySem.typeIs_bool s b) (PySem.F.args_int_mul_2 _ _) ?_))
  obtain ⟨hp, g, d, tk, os⟩ := s
  unfold Builtin.«int.__mul__» Builtin.Int.intBinary
  repeat (first
    | exact h
    | with_reducible refine wpAny_load hx ?_
    | wp_step)
theorem try_mul_bool {nm : Str} {c : Value} {dd : Option Addr} {sl : Array (Option Value)} {Q : Option Value → Shared → Prop} (L : Slot "bool" nm "int.__mul__") (hx : s.heap.get? x = some ⟨c, dd, .plain, sl⟩) (h : Q none s) : wpAny (model prog w) A (tryMethod (.bool b) nm (.ref x)) Q E s :=
  wpAny_tryMethod_declines (PySem.typeIs_bool s b) L (mul_noB hx ⟨rfl, h⟩)
theorem slot_mul_litB : Slot "bool" ("__mul__" : Str) "int.__mul__" := by
  have e : PySem.dunder "mul" = ("__mul__" : Str) := by decide +kernel
  rw [← e]
  exact PySem.F.slot_bool_mul
end
section
variable {X : Cx} {CX : CXT} {k : Nat} {C g0 : Addr} {sp : Sp} {E : L2.St → XK}
/-- y * x by the own __rmul__, y a number, a truth, a text or none -/
def Plain1 (y : V) : Prop := (∃ i, y = .int i) ∨ (∃ b, y = .bl b) ∨ (∃ z, y = .str z) ∨ y = .non
def rMulAny (C : Addr) (sp : Sp) : (L2.St → XK) → L2.St → V → V → Hp → VK → Prop := fun E σ y x H Q => ∃ a dx fs, x = .ref a ∧ Plain1 y ∧ H a = some (.ins C dx fs) ∧ sp [x, y] H Q (E σ)
theorem none_mul : fillsNumberSlot (.type "NoneType") "mul" = pure false := by
  unfold fillsNumberSlot
  have a : typeLookup (.type "NoneType") (PySem.dunder "mul") = pure none := by rw [typeLookup_type, builtinLookup_eq_fast]; kernel_rfl
  have b : typeLookup (.type "NoneType") (dunderR "mul") = pure none := by rw [typeLookup_type, builtinLookup_eq_fast]; kernel_rfl
  simp only [a, b, pure_bind]
  rfl
theorem pe_mulAny {op : Operator} {a b : Expr} {ta tb : TE} {pos : Pos} (hop : op = .Mult) (F : Two X CX k C "__rmul__" sp) (hc : PySem.W.selfFirst X.K C = true) (hs : PySem.W.findIn X.K (.ref C) "__mul__" = some (some (.ref g0)))
    (hi : PySem.W.subIn X.K (.ref C) (.type "int") = some false) (hbo : PySem.W.subIn X.K (.ref C) (.type "bool") = some false) (hst : PySem.W.subIn X.K (.ref C) (.type "str") = some false) (hno : PySem.W.subIn X.K (.ref C) (.type "NoneType") = some false)
    (hr : Room k X.A) (hx : ∀ σ, PassesAt CX X σ (E σ)) (ha : PE X a ta) (hb : PE X b tb) : PE X (.BinOp a op b pos) (tOp2 (rMulAny C sp) E ta tb) := by
  obtain ⟨f, fd, ps, M, F, B⟩ := F.ex
  refine ⟨fun pins s σ H Q I h => ?_⟩
  refine wpAny_BinOp (binT ha hb I h fun v u s2 y x H2 I2 ry rx q => ?_)
  obtain ⟨a, dx, fs, rfl, py, e, q⟩ := q
  cases rx
  obtain ⟨mA, J0, _⟩ := ins_get I2.hok e
  obtain ⟨od, J, _⟩ := J0.look
  have run := wpAny_mono (own_run (us := [.ref a, v]) (vs := [.ref a, y]) F hr I2.env0 B (hx σ) I2 (.cons rfl (.cons ry .nil)) q) (Q' := PySem.W.CmpBack (EP X pins σ Q)) (fun w s' z => by
    obtain ⟨z, H3, I3, rz, qz⟩ := z
    exact SlX.cmpback rz ⟨z, H3, I3, rz, qz⟩) fun _ _ z => z
  have e0 : op.info.2 = "mul" := by rw [hop]; rfl
  have e1 : PySem.dunder op.info.2 = ("__mul__" : Str) := by rw [e0]; decide +kernel
  have e2 : dunderR op.info.2 = ("__rmul__" : Str) := by rw [e0]; decide +kernel
  have k1 : PySem.W.findIn X.K (.ref C) (PySem.dunder op.info.2) = some (some (.ref g0)) := by rw [e1]; exact hs
  have k2 : PySem.W.findIn X.K (.ref C) (dunderR op.info.2) = some (some (.ref f)) := by rw [e2]; exact M.at_
  rcases py with ⟨i, rfl⟩ | ⟨i, rfl⟩ | ⟨i, rfl⟩ | rfl
  · obtain ⟨t, rfl⟩ := (show ∃ t, v = Value.int i t from ry)
    have k3 : fillsNumberSlot (.type "int") op.info.2 = pure true := by rw [e0]; exact PySem.F.fills_int_mul
    have k5 : Slot "int" (PySem.dunder op.info.2) "int.__mul__" := by rw [e1]; exact slot_mul_lit
    have kT : typeOf (.int i t) = pure (.type "int") := rfl
    exact bin_back I2.kIn J kT k3 hc k1 k2 M.fn hi (fun _ {R} hR => try_mul_int k5 J0.obj hR) run
  · cases (show v = Value.bool i from ry)
    have k3 : fillsNumberSlot (.type "bool") op.info.2 = pure true := by rw [e0]; exact PySem.F.fills_bool_mul
    have k5 : Slot "bool" (PySem.dunder op.info.2) "int.__mul__" := by rw [e1]; exact slot_mul_litB
    have kT : typeOf (.bool i) = pure (.type "bool") := rfl
    exact bin_back I2.kIn J kT k3 hc k1 k2 M.fn hbo (fun _ {R} hR => try_mul_bool k5 J0.obj hR) run
  · obtain ⟨t, rfl⟩ := (show ∃ t, v = Value.str i t from ry)
    have k3 : fillsNumberSlot (.type "str") op.info.2 = pure false := by rw [e0]; exact noFill_str_mul
    have kT : typeOf (.str i t) = pure (.type "str") := rfl
    exact bin_back I2.kIn J kT k3 hc k1 k2 M.fn hst (fun z => Bool.noConfusion z) run
  · cases (show v = Value.none from ry)
    have k3 : fillsNumberSlot (.type "NoneType") op.info.2 = pure false := by rw [e0]; exact none_mul
    have kT : typeOf .none = pure (.type "NoneType") := rfl
    exact bin_back I2.kIn J kT k3 hc k1 k2 M.fn hno (fun z => Bool.noConfusion z) run
theorem r_mulAny {σ : L2.St} {H : Hp} {Q : VK} {a dx : Addr} {fs : List (Str × V)} {y : V} (e : H a = some (.ins C dx fs)) (py : Plain1 y) (h : sp [.ref a, y] H Q (E σ)) : rMulAny C sp E σ y (.ref a) H Q := ⟨a, dx, fs, rfl, py, e, h⟩
end
end Pk
set_option Elab.async false
set_option linter.all false
set_option maxRecDepth 100000
set_option maxHeartbeats 1000000
namespace Pk
open PySem L2
section
variable {K : PySem.W.Frag} {σ : L2.St} {H : Hp} {Q : VK} {D : Ends} {a C dx : Addr} {fs : List (Str × V)} {f g : Str} {v u : V} {i : Nat} {ta tv : TE}
/-- an attribute is read -/
theorem r_fldU (h : ta σ H fun x H1 => ∃ a C dx fs v, x = .ref a ∧ H1 a = some (.ins C dx fs) ∧ Cls K C ∧ NoAttr K C f ∧ fs.lookup f = some v ∧ Q v H1) : tFld K ta f σ H Q := h
theorem r_fld0 (o : H a = some (.ins C dx fs)) (c : Cls K C) (n : NoAttr K C f) (l : fs.lookup f = some v) (h : Q v H) : ∃ b C dx fs v, V.ref a = .ref b ∧ H b = some (.ins C dx fs) ∧ Cls K C ∧ NoAttr K C f ∧ fs.lookup f = some v ∧ Q v H := ⟨a, C, dx, fs, v, rfl, o, c, n, l, h⟩
theorem r_fldV (e : σ[i]? = some (some (.ref a))) (o : H a = some (.ins C dx fs)) (c : Cls K C) (n : NoAttr K C f) (l : fs.lookup f = some v) (h : Q v H) : tFld K (tVar i) f σ H Q := ⟨.ref a, e, a, C, dx, fs, v, rfl, o, c, n, l, h⟩
/-- .. is set -/
theorem r_sFldU (h : tv σ H fun y H1 => ta σ H1 fun x H2 => ∃ a C dx fs, x = .ref a ∧ H2 a = some (.ins C dx fs) ∧ Cls K C ∧ NoAttr K C f ∧ fs.length < 1000 ∧ D.nx σ (upd H2 a (.ins C dx (putF f y fs)))) : sFld K ta tv f D σ H := h
theorem r_sFld0 {P : Hp → Prop} {y : V} (o : H a = some (.ins C dx fs)) (c : Cls K C) (n : NoAttr K C f) (l : fs.length < 1000) (h : P (upd H a (.ins C dx (putF f y fs)))) :
    ∃ b C dx fs, V.ref a = .ref b ∧ H b = some (.ins C dx fs) ∧ Cls K C ∧ NoAttr K C f ∧ fs.length < 1000 ∧ P (upd H b (.ins C dx (putF f y fs))) := ⟨a, C, dx, fs, rfl, o, c, n, l, h⟩
/-- a method of an own class is called -/
theorem r_methU {m : Str} {sp : Sp} {dvs : List V} {E : XK} {t : TA} (h : ta σ H fun x H1 => ∃ a dx fs, x = .ref a ∧ H1 a = some (.ins C dx fs) ∧ fs.lookup m = none ∧ t σ H1 fun vs H2 => sp (x :: (vs ++ dvs)) H2 Q E) : tMeth C m sp dvs E ta t σ H Q := h
/-- a < b < c -/
theorem r_chain {r r' : R2} {tc : TE} (h : ta σ H fun x H1 => tv σ H1 fun y H2 => r x y H2 fun z H3 => ∃ k, z = .bl k ∧ (if k = true then tc σ H3 fun w H4 => r' y w H4 Q else Q (.bl false) H3)) : tChain r r' ta tv tc σ H Q := h
theorem ifT {c : Bool} {A B : Prop} (hc : c = true) (h : A) : if c = true then A else B := by rw [if_pos hc]; exact h
theorem ifF {c : Bool} {A B : Prop} (hc : c = false) (h : B) : if c = true then A else B := by rw [hc, if_neg Bool.false_ne_true]; exact h
/-- enumerate(list) in a for -/
theorem r_enum {ta : TA} {R : It → Hp → Prop} (h : ta σ H fun vs H1 => ∃ a xs, vs = [.ref a] ∧ SqL K H1 a xs ∧ R (Ite K a) H1) : iEnum K ta σ H R := h
theorem r_zip {ta : TA} {R : It → Hp → Prop} (h : ta σ H fun vs H1 => ∃ a b xs ys, vs = [.ref a, .ref b] ∧ SqL K H1 a xs ∧ SqL K H1 b ys ∧ R (Itz K a b) H1) : iZip K ta σ H R := h
theorem r_gtup {n : Nat} {t : TGs} {R : L2.St → Hp → Prop} (h : ∃ a xs, v = .ref a ∧ SqT K H a xs ∧ xs.length = n ∧ t xs σ H R) : gTup K n t v σ H R := h
theorem int_at {ms : List Int} {i : Nat} {y : V} (h : (ms.map V.int)[i]? = some y) : ∃ m, m ∈ ms ∧ y = .int m := by
  rw [List.getElem?_map] at h
  cases e : ms[i]? with
  | none => rw [e] at h; cases h
  | some m => rw [e] at h; exact ⟨m, List.mem_of_getElem? e, (Option.some.inj h).symm⟩
theorem int_get {ms : List Int} {i : Nat} {y : V} (h : (ms.map V.int)[i]? = some y) : y = .int (ms.getD i 0) := by
  rw [List.getElem?_map] at h
  cases e : ms[i]? with
  | none => rw [e] at h; cases h
  | some m => rw [e] at h; rw [List.getD_eq_getElem?_getD, e]; exact (Option.some.inj h).symm
/-- two attributes -/
theorem two_put (hfg : (f == g) = false) (e : ¬ f = g) : putF g u (putF f v []) = [(f, v), (g, u)] := by
  show putF g u [(f, v)] = _
  rw [show putF g u [(f, v)] = (f, v) :: putF g u [] from if_neg e]
  rfl
theorem two_fst : List.lookup f [(f, v), (g, u)] = some v := by simp [List.lookup]
theorem two_snd (hfg : (g == f) = false) : List.lookup g [(f, v), (g, u)] = some u := by simp [List.lookup, hfg]
theorem two_no {m : Str} (h1 : (m == f) = false) (h2 : (m == g) = false) : List.lookup m [(f, v), (g, u)] = none := by simp [List.lookup, h1, h2]
theorem ite_and {c d : Bool} {A B : Prop} (h : if (c && d) = true then A else B) : if c = true then (if d = true then A else B) else B := by
  cases c <;> cases d <;> simpa using h
end
/-- what isinstance asks of an own class -/
structure OwnC (K : PySem.W.Frag) (C : Addr) : Prop where
  cl : Cls K C
  ha : PySem.W.findIn K (.ref C) "__class__" = some (some (.builtin "object.__class__"))
  hn : PySem.W.specialIn K (.builtin "object.__class__") "__get__" = some (some (.builtin "getset_descriptor.__get__"))
  htk : PySem.W.takesIn K (.builtin "object.__class__") = some true
  hm : PySem.W.mroIn K C (.type "object") = some true
  isC : PySem.W.isClsIn K C = true
  ty : PySem.W.typeIn K (.ref C) = some (.type "type")
  sub : ∀ T : String, T ∈ (["NoneType", "int", "bool", "str", "list", "tuple", "dict"] : List String) → PySem.W.subIn K (.type T) (.ref C) = some false
theorem OwnC.of {K : PySem.W.Frag} {C : Addr} (pg : PySem.W.plainGet K C Str.empty = true) (hd : PySem.W.hasDictIn K C = true) (po : PySem.W.plainOver K C = true) (sa : PySem.W.findIn K (.ref C) "__setattr__" = some (some (.builtin "object.__setattr__")))
    (ha : PySem.W.findIn K (.ref C) "__class__" = some (some (.builtin "object.__class__"))) (hn : PySem.W.specialIn K (.builtin "object.__class__") "__get__" = some (some (.builtin "getset_descriptor.__get__"))) (htk : PySem.W.takesIn K (.builtin "object.__class__") = some true)
    (hm : PySem.W.mroIn K C (.type "object") = some true) (isC : PySem.W.isClsIn K C = true) (ty : PySem.W.typeIn K (.ref C) = some (.type "type")) (s1 : PySem.W.subIn K (.type "NoneType") (.ref C) = some false) (s2 : PySem.W.subIn K (.type "int") (.ref C) = some false)
    (s3 : PySem.W.subIn K (.type "bool") (.ref C) = some false) (s4 : PySem.W.subIn K (.type "str") (.ref C) = some false) (s5 : PySem.W.subIn K (.type "list") (.ref C) = some false) (s6 : PySem.W.subIn K (.type "tuple") (.ref C) = some false) (s7 : PySem.W.subIn K (.type "dict") (.ref C) = some false) : OwnC K C :=
  ⟨⟨pg, hd, po, sa⟩, ha, hn, htk, hm, isC, ty, fun T h => by
    simp only [List.mem_cons, List.not_mem_nil, or_false] at h
    rcases h with rfl | rfl | rfl | rfl | rfl | rfl | rfl
    · exact s1
    · exact s2
    · exact s3
    · exact s4
    · exact s5
    · exact s6
    · exact s7⟩
section
variable {K : PySem.W.Frag} {C a dx : Addr} {fs : List (Str × V)} {H : Hp} {Q : VK} {x : V} {T : String}
theorem OwnC.tyx (c : OwnC K C) (e : H a = some (.ins C dx fs)) : TyX K H (.ref a) (.ref C) := .base (.ins e c.cl c.ha c.hn c.htk c.hm)
/-- isinstance(x, the own class) -/
theorem r_isiSelf (c : OwnC K C) (e : H a = some (.ins C dx fs)) (h : Q (.bl true) H) : rIsi K [.ref a, .ref C] H Q :=
  ⟨.ref a, .ref C, _, _, true, rfl, .own C, c.tyx e, by unfold PySem.W.kitOne; rw [if_pos (by simp)], h⟩
theorem OwnC.kit (c : OwnC K C) (h : T ∈ (["NoneType", "int", "bool", "str", "list", "tuple", "dict"] : List String)) : PySem.W.kitOne K (.type T) (.ref C) = some false := by
  unfold PySem.W.kitOne PySem.W.kitCls
  have h1 : (PySem.W.clsIn K C).isSome = true := c.isC
  simp only [h1, c.ty, c.sub T h]
  rfl
theorem r_isiNo (c : OwnC K C) (t : TyX K H x (.type T)) (m : T ∈ (["NoneType", "int", "bool", "str", "list", "tuple", "dict"] : List String)) (h : Q (.bl false) H) : rIsi K [x, .ref C] H Q :=
  ⟨x, .ref C, _, _, false, rfl, .own C, t, c.kit m, h⟩
end
/-! ### lists of ints are compared -/
section
variable {K : PySem.W.Frag} {H : Hp} {Q : VK} {a b : Addr} {ms ns : List Int}
theorem ints_all (ns : List Int) : DpAll K H (ns.map V.int) (ns.map PyData.int) := by
  induction ns with
  | nil => exact .nil
  | cons n r ih => exact .cons (.int n) ih
theorem Dp.ints (h : SqL K H a (ns.map V.int)) : Dp K H (.ref a) (.list (ns.map PyData.int)) := .lst h (ints_all ns)
theorem eqv_ints : PyData.eqv (.list (ms.map PyData.int)) (.list (ns.map PyData.int)) = decide (ms = ns) := by
  have h := PySem.W.eqvAll_map ms ns
  rw [PyData.eqv]
  exact h
theorem r_eqL (h1 : SqL K H a (ms.map V.int)) (h2 : SqL K H b (ns.map V.int)) (h : Q (.bl (decide (ms = ns))) H) : rEqD K (.ref a) (.ref b) H Q :=
  ⟨_, _, Dp.ints h1, Dp.ints h2, PySem.W.ke_shaped_ints ms, PySem.W.ke_shaped_ints ns, by rw [eqv_ints]; exact h⟩
theorem r_neL (h1 : SqL K H a (ms.map V.int)) (h2 : SqL K H b (ns.map V.int)) (h : Q (.bl (!decide (ms = ns))) H) : rNeD K (.ref a) (.ref b) H Q :=
  ⟨_, _, Dp.ints h1, Dp.ints h2, PySem.W.ke_shaped_ints ms, PySem.W.ke_shaped_ints ns, by rw [eqv_ints]; exact h⟩
end
/-! ### a comprehension: the list at D, by its turns -/
def Out (H1 : Hp) (D : Addr) (out : Nat → V) (i : Nat) (H' : Hp) : Prop := Same H1 H' ∧ H' D = some (.lst ((List.range i).map out))
theorem Out.start {H1 : Hp} {D : Addr} {out : Nat → V} (hD : H1 D = none) : Out H1 D out 0 (upd H1 D (.lst [])) := ⟨Same.up (Same.refl H1) hD, upd_same⟩
theorem Out.more {H1 H H4 : Hp} {D : Addr} {out : Nat → V} {i : Nat} (hD : H1 D = none) (o : Out H1 D out i H) (s : Same H H4) (hi : i < sizeLine) :
    ∃ acc, H4 D = some (.lst acc) ∧ acc.length < sizeLine ∧ Out H1 D out (i + 1) (upd H4 D (.lst (acc ++ [out i]))) := by
  refine ⟨_, s _ _ o.2, by simpa using hi, fun c u e => ?_, ?_⟩
  · have n : c ≠ D := fun z => by rw [z, hD] at e; cases e
    rw [upd_ne n]
    exact s _ _ (o.1 _ _ e)
  · rw [upd_same, List.range_succ, List.map_append]
    rfl
/-! ### x ⊕ y by the own method, the other one no number of ours -/
structure BinC (K : PySem.W.Frag) (C : Addr) (nm : String) (Ts : List String) : Prop where
  sf : PySem.W.selfFirst K C = true
  rc : ∃ rc, PySem.W.findIn K (.ref C) (PySem.dunderR nm) = some rc ∧ (rc = none ∨ ∃ g : Addr, rc = some (.ref g))
  oth : ∀ T : String, T ∈ Ts → ∃ fo ro : Option Value, PySem.W.findIn K (.type T) (PySem.dunder nm) = some fo ∧ PySem.W.findIn K (.type T) (PySem.dunderR nm) = some ro
theorem BinC.other {K : PySem.W.Frag} {C : Addr} {nm T : String} {Ts : List String} {H : Hp} {y : V} (b : BinC K C nm Ts) (O : OwnC K C) (t : TyX K H y (.type T)) (m : T ∈ Ts) (m2 : T ∈ (["NoneType", "int", "bool", "str", "list", "tuple", "dict"] : List String)) : OtherB K C H nm y := by
  obtain ⟨fo, ro, h1, h2⟩ := b.oth T m
  exact .inr ⟨T, fo, ro, t, h1, h2, O.sub T m2⟩
theorem Plain1.ty {K : PySem.W.Frag} {H : Hp} {y : V} (h : Plain1 y) : ∃ T : String, TyX K H y (.type T) ∧ T ∈ (["NoneType", "int", "bool", "str"] : List String) := by
  rcases h with ⟨i, rfl⟩ | ⟨b, rfl⟩ | ⟨z, rfl⟩ | rfl
  · exact ⟨"int", .base (.int i), by simp⟩
  · exact ⟨"bool", .base (.bl b), by simp⟩
  · exact ⟨"str", .base (.str z), by simp⟩
  · exact ⟨"NoneType", .base .non, by simp⟩
end Pk
set_option Elab.async false
set_option linter.all false
set_option maxRecDepth 100000
set_option maxHeartbeats 1000000
namespace Pk
open PySem L2 PySem.Spec PyProof.Rows
/-! ### an own comparison as a test -/
section
variable {X : Cx} {CX : CXT} {k : Nat} {C : Addr} {sp : Sp} {E : L2.St → XK} {a b : Expr} {ta tb : TE} {pos : Pos}
theorem core_cmpOwn {op : CmpOp} (hop : ∀ a b, compareOp op a b = richCompare op a b) (F : Two X CX k C (cmpInfo op).2.1 sp) (hr : Room k X.A) (hx : ∀ σ, PassesAt CX X σ (E σ))
    {pins : List (Addr × Obj)} {σ : L2.St} {H2 : Hp} {s2 : Shared} {x y : V} {v u : Value} {Q : VK} (I2 : Inv X pins σ H2 s2) (rx : RelV x v) (ry : RelV y u) (q : rOwnC X.K C sp E σ x y H2 Q) :
    wpAny (model X.prog X.w) X.A (compareOp op v u) (EP X pins σ Q) X.xe s2 := by
  obtain ⟨f, fd, ps, M, F, B⟩ := F.ex
  obtain ⟨a, dx, fs, rfl, e, o, q⟩ := q
  cases rx
  obtain ⟨ox, od, J⟩ := own_at I2 e
  obtain ⟨tb, L, nf⟩ := other_looks (M := model X.prog X.w) I2 ry o fun _ _ _ _ _ => trivial
  obtain ⟨m, hF⟩ := I2.fr
  rw [hop]
  refine PySem.W.cmp_K (op := op) hr.units0 hF I2.ok.mod.kin J L nf M.at_ M.fn ?_
  refine wpAny_mono (own_run (us := [.ref a, u]) (vs := [.ref a, y]) F hr I2.env0 B (hx σ) I2 (.cons rfl (.cons ry .nil)) q) (fun w s' z => ?_) fun _ _ z => z
  obtain ⟨z, H3, I3, rz, qz⟩ := z
  exact SlX.cmpback rz ⟨z, H3, I3, rz, qz⟩
theorem pt_cmpOwn {op : CmpOp} (hop : ∀ a b, compareOp op a b = richCompare op a b) (F : Two X CX k C (cmpInfo op).2.1 sp) (hr : Room k X.A) (hx : ∀ σ, PassesAt CX X σ (E σ)) (ha : PE X a ta) (hb : PE X b tb) (hm : behindInMarks op b = false) :
    PT X (.Compare a [op] [b] pos) (tTest (tOp2 (rOwnC X.K C sp) E ta tb)) := by
  refine ⟨fun pins s σ H Q I h => ?_⟩
  refine wpAny_isTrue_Compare1 (binT ha hb I h fun v u s2 x y H2 I2 rx ry q => ?_) hm
  refine thn (core_cmpOwn hop F hr hx I2 rx ry q) fun c s3 ⟨z, H3, I3, r3, k, e, q3⟩ => ?_
  subst e
  cases r3
  exact wpAny_truthy_bool ⟨H3, I3, q3⟩
theorem core_neOwn (F : Two X CX k C "__eq__" sp) (hs : PySem.W.findIn X.K (.ref C) "__ne__" = some (some (.builtin "object.__ne__"))) (ho : PySem.W.mroIn X.K C (.type "object") = some true) (hr : Room (k + 1) X.A) (hx : ∀ σ, PassesAt CX X σ (E σ))
    {pins : List (Addr × Obj)} {σ : L2.St} {H2 : Hp} {s2 : Shared} {x y : V} {v u : Value} {Q : VK} (I2 : Inv X pins σ H2 s2) (rx : RelV x v) (ry : RelV y u) (q : rOwnNe X.K C sp E σ x y H2 Q) :
    wpAny (model X.prog X.w) X.A (compareOp .NotEq v u) (EP X pins σ Q) X.xe s2 := by
  obtain ⟨f, fd, ps, M, F, B⟩ := F.ex
  obtain ⟨a, dx, fs, rfl, e, o, q⟩ := q
  cases rx
  obtain ⟨ox, od, J⟩ := own_at I2 e
  obtain ⟨tb, L, nf⟩ := other_looks (M := model X.prog X.w) I2 ry o fun _ _ _ _ _ => trivial
  show wpAny _ _ (richCompare .NotEq _ _) _ _ _
  refine ne_by_eq hr.in1.units0 hr.units0 I2.kIn J L nf ho hs M.at_ M.fn ?_
  refine wpAny_mono (own_run (us := [.ref a, u]) (vs := [.ref a, y]) F hr.in1 I2.env0.in1 B (hx σ) I2 (.cons rfl (.cons ry .nil)) q) (fun w s' z => ?_) fun _ _ z => z
  obtain ⟨z, H3, I3, rz, c, rfl, qz⟩ := z
  cases (show w = Value.bool c from rz)
  exact ⟨c, rfl, .bl (!c), H3, I3, rfl, qz⟩
theorem pt_neOwn (F : Two X CX k C "__eq__" sp) (hs : PySem.W.findIn X.K (.ref C) "__ne__" = some (some (.builtin "object.__ne__"))) (ho : PySem.W.mroIn X.K C (.type "object") = some true) (hr : Room (k + 1) X.A) (hx : ∀ σ, PassesAt CX X σ (E σ)) (ha : PE X a ta) (hb : PE X b tb) (hm : behindInMarks .NotEq b = false) :
    PT X (.Compare a [.NotEq] [b] pos) (tTest (tOp2 (rOwnNe X.K C sp) E ta tb)) := by
  refine ⟨fun pins s σ H Q I h => ?_⟩
  refine wpAny_isTrue_Compare1 (binT ha hb I h fun v u s2 x y H2 I2 rx ry q => ?_) hm
  refine thn (core_neOwn F hs ho hr hx I2 rx ry q) fun c s3 ⟨z, H3, I3, r3, k, e, q3⟩ => ?_
  subst e
  cases r3
  exact wpAny_truthy_bool ⟨H3, I3, q3⟩
end
end Pk
set_option Elab.async false
set_option linter.all false
set_option maxRecDepth 100000
set_option maxHeartbeats 1000000
namespace Pk
open PySem L2
local macro_rules | `(tactic| walk_at "rd") => `(tactic| repeat (first
  | with_reducible refine r_seq ?_ | with_reducible refine r_nxt ?_ | with_reducible refine r_asg ?_ | with_reducible refine r_to ?_ | with_reducible refine r_ret ?_ | with_reducible refine r_for ?_ | with_reducible refine r_lc ?_ | with_reducible refine r_rng1 ?_ | with_reducible refine r_list ?_ | with_reducible refine r_tupI ?_ | with_reducible refine r_drop ?_ | with_reducible refine r_ifs ?_
  | with_reducible refine r_op ?_ | with_reducible refine r_c ?_ | with_reducible refine r_var rfl ?_ | with_reducible refine r_I0 ?_ | with_reducible refine r_un ?_ | with_reducible refine r_U ?_ | with_reducible refine r_make ?_ | with_reducible refine r_sub ?_
  | with_reducible refine r_nil ?_ | with_reducible refine r_cons ?_ | with_reducible refine r_cb ?_ | with_reducible refine r_sl ?_ | with_reducible refine r_noP ?_ | with_reducible refine r_part ?_ | with_reducible refine r_isI ?_ | with_reducible refine r_lst ?_ | with_reducible refine r_tup ?_ | with_reducible refine r_call ?_
  | with_reducible refine r_test ?_ | with_reducible refine r_B ?_ | with_reducible refine r_and ?_ | with_reducible refine r_or ?_ | with_reducible refine r_not ?_ | with_reducible refine r_andV ?_ | with_reducible refine r_orV ?_ | with_reducible refine r_notV ?_ | with_reducible refine r_bl ?_ | with_reducible refine r_yes ?_ | with_reducible refine r_int ?_ | with_reducible refine r_is0 ?_ | with_reducible refine r_is1 ?_ | with_reducible refine iteT ?_ | with_reducible refine iteF ?_ | with_reducible refine ite_nF ?_ | with_reducible refine ite_nT ?_
  | with_reducible refine r_mod (by decide) ?_ | with_reducible refine r_div (by decide) (by decide) ?_ | with_reducible refine r_mulR (by decide) (by decide) ?_ | with_reducible refine r_mulL (by decide) (by decide) ?_ | with_reducible refine r_pow (by decide) (by decide) (by decide) ?_))
def top (i : Nat) : Stmt := PySem.Challenge.pw_pairorder_k07_amounts_added.main.body.getD i (.Pass ⟨0, 0, 0, 0⟩)
abbrev slMixed : Stmt := top 14
abbrev slDraw : Stmt := top 15
abbrev slNumber : Stmt := top 16
abbrev slPool : Stmt := top 13
section
variable {P : Program} {w : World} {K : PySem.W.Frag} {mg : Str → Option Value} {base : Heap}
theorem sclMixed : FnScope ["_law_pool_here", "_law_cell", "_law_number_here"] ["_law_pool_here", "_law_cell"] (defScope slMixed) := ⟨rfl, rfl, rfl, by decide +kernel, rfl, by decide +kernel, by decide +kernel⟩
theorem ok_mixed {f : Addr} {fd : FuncData} (F : Fun K "_law_mixed" "_law_mixed" slMixed f fd) (T : Bt mg) : FnOk P w K mg base CX0 1 f fd ["_law_pool_here", "_law_cell"] spMix := by
  refine F.ok sclMixed (fun vs H Q E h => ?_) (fun cdv A outer s H vs Q E hr h => ?_)
  · obtain ⟨p, c, ns, x, rfl, _⟩ := h
    rfl
  · obtain ⟨p, c, ns, x, rfl, hp, k⟩ := h
    refine ⟨_, pss_cons (ps_asg (pe_op op_add (pe_ix ix_list (pv 0) pe_int (fun _ _ => rfl)) pe_int) (pg_sub (pv 0) pe_int set_list))
      (pss_cons (ps_set (i := 2) sclMixed.nd rfl (Or.inl rfl) (pe_op op_add (pe_op op_add (pe_ix ix_list (pv 0) pe_int (fun _ _ => rfl)) (pe_op op_mod (pe_callTy cl_int (by rfl) T.int (by decide +kernel) (pa_cons (pv 1) pa_nil)) pe_int)) (pe_op op_mul pe_int (pe_ix ix_list (pv 0) pe_int (fun _ _ => rfl)))))
      (pss_cons (ps_set (i := 2) sclMixed.nd rfl (Or.inl rfl) (pe_op op_mod (pe_callTy cl_int (by rfl) T.int (by decide +kernel) (pa_cons (pe_op op_mul (pv 2) pe_int) pa_nil)) pe_int))
      (pss_cons (ps_set (i := 2) sclMixed.nd rfl (Or.inl rfl) (pe_op op_mod (pe_callTy cl_int (by rfl) T.int (by decide +kernel) (pa_cons (pe_op op_mul (pv 2) (pe_op op_add (pe_op op_fdiv (pv 2) pe_int) pe_int)) pa_nil)) pe_int))
      (pss_cons (ps_asg (pv 2) (pg_sub (pv 0) pe_int set_list))
      (pss_cons (ps_set (i := 2) sclMixed.nd rfl (Or.inl rfl) (pe_op op_mod (pe_callTy cl_int (by rfl) T.int (by decide +kernel) (pa_cons (pe_op op_mul (pv 2) (pe_op op_add (pe_op op_fdiv (pv 2) pe_int) pe_int)) pa_nil)) pe_int))
      (pss_one (ps_ret (pe_op op_fdiv (pv 2) pe_int)))))))), ?_⟩
    obtain ⟨a, b, z, n, ha, hP, hC⟩ := hp
    have ne : c ≠ p := PoolAt.ne ⟨a, b, z, n, ha, hP, hC⟩
    have lt : ∀ y : Int, -(2 ^ 64) < y % 2147483647 ∧ y % 2147483647 < 2 ^ 64 := fun y => by omega
    walk_at "rd"
    refine r_ixL (SqL.of hP) rfl ?_
    walk_at "rd"
    refine r_setL hP rfl ?_
    walk_at "rd"
    refine r_ixL (SqL.of upd_same) rfl ?_
    walk_at "rd"
    refine r_ixL (SqL.of upd_same) rfl ?_
    walk_at "rd"
    refine r_mulL (lt _).1 (lt _).2 ?_
    walk_at "rd"
    refine r_setL upd_same rfl ?_
    walk_at "rd"
    refine r_mulL (lt _).1 (lt _).2 ?_
    walk_at "rd"
    rw [upd_upd]
    refine k _ _ ?_ (Keep.refl.own) (PoolAt.put ha hC ne)
    generalize (z + x % 2147483647 + 7919 * (n + 1)) * 48271 % 2147483647 = y
    omega
theorem sclDraw : FnScope ["_law_pool_here", "_law_size", "_law_cell", "_law_number_here"] ["_law_pool_here", "_law_size"] (defScope slDraw) := ⟨rfl, rfl, rfl, by decide +kernel, rfl, by decide +kernel, by decide +kernel⟩
theorem ok_draw {f : Addr} {fd : FuncData} (F : Fun K "_law_draw" "_law_draw" slDraw f fd) (T : Bt mg) (D : Df P w K mg base CX0 "_law_mixed" 1 ["_law_pool_here", "_law_cell"] spMix) :
    FnOk P w K mg base CX0 2 f fd ["_law_pool_here", "_law_size"] spDraw := by
  refine F.ok sclDraw (fun vs H Q E h => ?_) (fun cdv A outer s H vs Q E hr h => ?_)
  · obtain ⟨p, c, ns, x, rfl, _⟩ := h
    rfl
  · obtain ⟨p, c, ns, x, rfl, pl, x0, x1, k⟩ := h
    obtain ⟨u, hu, ru⟩ : ∃ u : TS, PSs (cxOf CX0 P w K mg base ["_law_pool_here", "_law_size", "_law_cell", "_law_number_here"] "_law_draw" (defScope slDraw) f cdv A outer s H E).nox ((defBody slDraw).drop 1) u ∧
        ∀ (v1 v2 : Option V) (H1 : Hp), Keep p H H1 → PoolAt H1 p c ns → u { nx := fun _ H' => Q .non H', rt := Q } [some (.ref p), some (.int x), v1, v2] H1 := by
      refine ⟨_, (pss_cons (ps_if (pt_cmpR op_gt (pe_ix ix_list (pv 0) pe_int (fun _ _ => rfl)) pe_int (nomark _))
        (pss_cons (ps_set (i := 3) sclDraw.nd rfl (Or.inl rfl) (pe_callTy cl_int (by rfl) T.int (by decide +kernel) (pa_cons (pe_ix ix_list (pv 0) pe_int (fun _ _ => rfl)) pa_nil)))
        (pss_cons (ps_asg (pe_op op_fdiv (pv 3) (pv 1)) (pg_sub (pv 0) pe_int set_list))
        (pss_one (ps_ret (pe_op op_mod (pe_callTy cl_int (by rfl) T.int (by decide +kernel) (pa_cons (pv 3) pa_nil)) (pv 1)))))) pss_nil)
        (pss_one (ps_ret (pe_op op_mod (pe_callTy cl_int (by rfl) T.int (by decide +kernel) (pa_cons (pe_df D hr (by decide) (pa_cons (pv 0) (pa_cons pe_int pa_nil))) pa_nil)) (pv 1))))), ?_⟩
      rintro v1 v2 H1 kp ⟨a, b, z, n, ha, hP, hC⟩
      have ne : c ≠ p := PoolAt.ne ⟨a, b, z, n, ha, hP, hC⟩
      walk_at "rd"
      refine r_ixL (SqL.of hP) rfl ?_
      walk_at "rd"
      refine ite_dec (fun h1 => ?_) (fun h1 => ?_)
      · walk_at "rd"
        refine r_ixL (SqL.of hP) rfl ?_
        walk_at "rd"
        refine r_div x0 x1 ?_
        walk_at "rd"
        refine r_setL hP rfl ?_
        walk_at "rd"
        refine r_mod x0 ?_
        exact k _ _ (Int.emod_nonneg _ (by omega)) (Int.emod_lt_of_pos _ x0) kp.own (PoolAt.put ha hC ne)
      · walk_at "rd"
        refine ⟨p, c, ns, 0, rfl, ⟨a, b, z, n, ha, hP, hC⟩, fun r H2 r0 k2 p2 => ?_⟩
        walk_at "rd"
        refine r_mod x0 ?_
        exact k _ _ (Int.emod_nonneg _ (by omega)) (Int.emod_lt_of_pos _ x0) (kp.trans k2) p2
    refine ⟨_, pss_cons (ps_if (PW.pt (pw_and (pt_cmpR op_le (pe_ix ix_list (pv 0) pe_int (fun _ _ => rfl)) pe_int (nomark _)) (pw_and1 (pt_cmpR op_lt (pe_ix ix_list (pv 0) pe_int (fun _ _ => rfl)) (pe_callB cl_len (by rfl) T.len PySem.boot_len (pa_cons (pe_ix ix_list (pv 0) pe_int (fun _ _ => rfl)) pa_nil)) (nomark _)))))
        (pss_cons (ps_set (i := 2) sclDraw.nd rfl (Or.inl rfl) (pe_callTy cl_int (by rfl) T.int (by decide +kernel) (pa_cons (pe_ix ix_list (pe_ix ix_list (pv 0) pe_int (fun _ _ => rfl)) (pe_ix ix_list (pv 0) pe_int (fun _ _ => rfl)) (fun _ _ => rfl)) pa_nil)))
        (pss_cons (ps_asg (pe_op op_add (pe_ix ix_list (pv 0) pe_int (fun _ _ => rfl)) pe_int) (pg_sub (pv 0) pe_int set_list))
        (pss_cons (ps_if (pt_cmpR op_lt (pv 2) (pe_op op_pow pe_int pe_int) (nomark _))
            (pss_one (ps_ret (pe_op op_mod (pe_callTy cl_int (by rfl) T.int (by decide +kernel) (pa_cons (pe_df D hr (by decide) (pa_cons (pv 0) (pa_cons (pv 2) pa_nil))) pa_nil)) (pv 1)))) pss_nil)
        (pss_one (ps_asg (pv 2) (pg_sub (pv 0) pe_int set_list)))))) pss_nil) hu, ?_⟩
    obtain ⟨a, b, z, n, ha, hP, hC⟩ := id pl
    have ne : c ≠ p := PoolAt.ne pl
    walk_at "rd"
    refine r_ixL (SqL.of hP) rfl ?_
    walk_at "rd"
    refine ite_dec (fun h1 => ?_) (fun h1 => ?_)
    · walk_at "rd"
      refine r_ixL (SqL.of hP) rfl ?_
      walk_at "rd"
      refine r_ixL (SqL.of hP) rfl ?_
      walk_at "rd"
      refine r_lenL (SqL.of hC) ?_
      walk_at "rd"
      refine ite_dec (fun h2 => ?_) (fun h2 => ?_)
      · rw [List.length_map] at h2
        obtain ⟨y, hy⟩ : ∃ y, ns[a.toNat]? = some y := ⟨_, List.getElem?_eq_getElem (by omega)⟩
        walk_at "rd"
        refine r_ixL (SqL.of hP) rfl ?_
        walk_at "rd"
        refine r_ixL (SqL.of hP) rfl ?_
        refine r_ixL (v := .int y) (SqL.of hC) (by have e := atI_nat (xs := ns.map V.int) (j := a.toNat) (v := .int y) (by rw [List.getElem?_map, hy]; rfl); rw [Int.toNat_of_nonneg ha] at e; exact e) ?_
        walk_at "rd"
        refine r_ixL (SqL.of hP) rfl ?_
        walk_at "rd"
        refine r_setL hP rfl ?_
        walk_at "rd"
        have P1 : PoolAt (upd H p (.lst [.ref c, .int (a + 1), .int b, .int z, .int n])) p c ns := PoolAt.put (by omega) hC ne
        refine ite_dec (fun h3 => ?_) (fun h3 => ?_)
        · walk_at "rd"
          refine ⟨p, c, ns, y, rfl, P1, fun r H2 r0 k2 p2 => ?_⟩
          walk_at "rd"
          refine r_mod x0 ?_
          exact k _ _ (Int.emod_nonneg _ (by omega)) (Int.emod_lt_of_pos _ x0) (Keep.refl.own.trans k2) p2
        · walk_at "rd"
          refine r_setL upd_same rfl ?_
          refine ru _ _ _ (Keep.refl.own.own) ?_
          rw [upd_upd]
          exact PoolAt.put (by omega) hC ne
      · walk_at "rd"
        exact ru _ _ _ Keep.refl pl
    · walk_at "rd"
      exact ru _ _ _ Keep.refl pl
theorem sclNumber : FnScope ["_law_pool_here", "_law_parts", "_law_number_here", "_law_k"] ["_law_pool_here", "_law_parts"] (defScope slNumber) := ⟨rfl, rfl, rfl, by decide +kernel, rfl, by decide +kernel, by decide +kernel⟩
theorem ok_number {f : Addr} {fd : FuncData} (F : Fun K "_law_number" "_law_number" slNumber f fd) (T : Bt mg) (D : Df P w K mg base CX0 "_law_draw" 2 ["_law_pool_here", "_law_size"] spDraw) :
    FnOk P w K mg base CX0 3 f fd ["_law_pool_here", "_law_parts"] spNum := by
  refine F.ok sclNumber (fun vs H Q E h => ?_) (fun cdv A outer s H vs Q E hr h => ?_)
  · obtain ⟨p, c, ns, x, rfl, _⟩ := h
    rfl
  · obtain ⟨p, c, ns, x, rfl, pl, x0, x1, k⟩ := h
    refine ⟨_, pss_cons (ps_set (i := 2) sclNumber.nd rfl (Or.inl rfl) pe_int)
      (pss_cons (ps_for PassesOwn.never rfl (pi_range1 rfl T.range (pa_cons (pv 1) pa_nil)) (pg_name (i := 3) sclNumber.nd rfl (Or.inl rfl))
        (pss_one (ps_set (i := 2) sclNumber.nd rfl (Or.inl rfl) (pe_op op_add (pe_op op_mul (pv 2) (pe_op op_pow pe_int pe_int)) (pe_df D hr (by decide) (pa_cons (pv 0) (pa_cons (pe_op op_pow pe_int pe_int) pa_nil)))))))
      (pss_one (ps_ret (pv 2)))), ?_⟩
    walk_at "rd"
    refine ⟨x, rfl, by omega, by omega, for_range (lo := 0) (n := x.toNat) (fun i σ H' => ∃ (m : Int) (v : Option V), σ = [some (.ref p), some (.int x), some (.int m), v] ∧ 0 ≤ m ∧ m < 1000000 ^ i ∧ Keep p H H' ∧ PoolAt H' p c ns)
      ⟨0, none, rfl, Int.le_refl 0, by decide, Keep.refl, pl⟩ ?_ ?_⟩
    · rintro i σ H' hi ⟨m, v, rfl, m0, m1, kp, pl'⟩
      walk_at "rd"
      refine ⟨p, c, ns, _, rfl, pl', by decide, by decide, fun r H2 r0 r1 k2 p2 => ?_⟩
      walk_at "rd"
      have e6 : ((10 : Int) ^ Int.toNat 6) = 1000000 := by decide
      rw [e6] at r1 ⊢
      refine ⟨_, _, rfl, by omega, ?_, kp.trans k2, p2⟩
      rw [Int.pow_succ]
      omega
    · rintro σ H' ⟨m, v, rfl, m0, m1, kp, pl'⟩
      walk_at "rd"
      exact k _ _ m0 m1 kp pl'
theorem sclPool : FnScope ["_law_script", "_law_cell"] ["_law_script"] (defScope slPool) := ⟨rfl, rfl, rfl, by decide +kernel, rfl, by decide +kernel, by decide +kernel⟩
theorem ok_pool {f : Addr} {fd : FuncData} (F : Fun K "_law_pool" "_law_pool" slPool f fd) (T : Bt mg) : FnOk P w K mg base CX0 1 f fd ["_law_script"] (spPool K) := by
  refine F.ok sclPool (fun vs H Q E h => ?_) (fun cdv A outer s H vs Q E hr h => ?_)
  · obtain ⟨l, ns, rfl, _⟩ := h
    rfl
  · obtain ⟨l, ns, rfl, hS, hlen, k⟩ := h
    refine ⟨_, (pss_one (ps_ret (pe_lst (pa_cons (pe_lc (own := [("_law_cell", 1)]) (g := gName 1) rfl sclPool.nd (pi_list (pe_slice sl_list (pv 0) po_none (po_some pe_int))) (blkOk_by (own := [("_law_cell", 1)]) (N := ["_law_script", "_law_cell"]) (sc := defScope slPool) (by decide +kernel)) (fun _ _ _ _ _ => pg_name (i := 1) sclPool.nd rfl (Or.inl rfl)) (fun _ _ _ _ _ => pts_nil) (fun _ _ _ _ _ => (pe_callTy cl_int (by rfl) T.int (by decide +kernel) (pa_cons (pv 1) pa_nil)))) (pa_cons pe_int (pa_cons pe_int (pa_cons pe_int (pa_cons pe_int pa_nil)))))))), ?_⟩
    have cut : cutV (ns.map V.int) none (some 63) = ns.map V.int := cut_all (by rw [List.length_map]; exact hlen)
    walk_at "rd"
    refine ⟨l, ns.map V.int, rfl, hS, fun q hq => ⟨q, rfl, ⟨_, SqL.of upd_same⟩, fun D hD => ?_⟩⟩
    rw [cut] at hD ⊢
    have nqD : q ≠ D := fun z => by rw [← z, upd_same] at hD; cases hD
    refine lc_list (K := K) (a := q) (xs := ns.map V.int) (fun i H' => H' D = some (.lst ((ns.take i).map V.int)) ∧ H' q = some (.lst (ns.map V.int)) ∧ Same H H') ⟨upd_same, ?_, ?_⟩ (fun i H' _ h => SqL.of h.2.1) (fun i x H' hi h => ?_) (fun H' h => ?_)
    · rw [upd_ne nqD, upd_same]
    · exact Same.up (Same.up (Same.refl H) hq) hD
    · obtain ⟨h1, h2, h3⟩ := h
      rw [List.getElem?_map] at hi
      obtain ⟨y, hy, rfl⟩ := Option.map_eq_some_iff.mp hi
      walk_at "rd"
      refine ⟨rfl, ?_⟩
      walk_at "rd"
      refine ⟨_, h1, ?_, upd_same.trans ?_, ?_, ?_⟩
      · rw [List.length_map, List.length_take]
        exact Nat.lt_of_le_of_lt (Nat.min_le_right _ _) (Nat.lt_of_le_of_lt hlen (by decide))
      · rw [take_snoc hy, List.map_append]; rfl
      · rw [upd_ne nqD]; exact h2
      · have hDn : H D = none := by
          rw [upd_ne (fun z => nqD z.symm)] at hD; exact hD
        exact fun b o e => by rw [upd_ne (ne_of_none e hDn)]; exact h3 b o e
    · obtain ⟨h1, h2, h3⟩ := h
      rw [List.length_map, List.take_length] at h1
      walk_at "rd"
      refine ⟨by show 5 ≤ sizeLine; decide, fun p hp => ?_⟩
      have hDn : H D = none := by
        rw [upd_ne (fun z => nqD z.symm)] at hD; exact hD
      have npD : D ≠ p := ne_of_none h1 hp
      exact k p D _ (h3.free hp) hDn (Same.up h3 hp) ⟨0, 0, 1, 0, Int.le_refl 0, upd_same, by rw [upd_ne npD]; exact h1⟩
end
abbrev slSame : Stmt := top 17
section
variable {P : Program} {w : World} {K : PySem.W.Frag} {mg : Str → Option Value} {base : Heap}
theorem sclSame : FnScope ["_law_actual", "_law_due", "_law_k"] ["_law_actual", "_law_due"] (defScope slSame) := ⟨rfl, rfl, rfl, by decide +kernel, rfl, by decide +kernel, by decide +kernel⟩
theorem ok_same {f : Addr} {fd : FuncData} (F : Fun K "_law_same" "_law_same" slSame f fd) (T : Bt mg) (me : mg "_law_same" = some (.ref f)) : ∀ n : Nat, FnOk P w K mg base CX0 (n + 1) f fd ["_law_actual", "_law_due"] (spSame K n)
  | n => by
    have G : ∀ m, n = m + 1 → FnOk P w K mg base CX0 (m + 1) f fd ["_law_actual", "_law_due"] (spSame K m) := fun m e => by
      subst e
      exact ok_same F T me m
    have b : Binds K fd ["_law_actual", "_law_due"] [] := F.binds fun _ _ _ _ _ _ us hl => match us, hl with | [_, _], _ => rfl
    refine F.ok sclSame (fun vs H Q E h => ?_) (fun cdv A outer s H vs Q E hr h => ?_)
    · obtain ⟨v, d, d', rfl, _⟩ := h
      rfl
    · obtain ⟨x, y, d, rfl, hx, hy, hd, k⟩ := h
      obtain ⟨u, hu, ru⟩ : ∃ u : TS, PSs (cxOf CX0 P w K mg base ["_law_actual", "_law_due", "_law_k"] "_law_same" (defScope slSame) f cdv A outer s H E).nox ((defBody slSame).drop 5) u ∧
          (∀ (p q : Addr) (xs ys : List V) (ds : List PyData), x = .ref p → y = .ref q → ((SqL K H p xs ∧ SqL K H q ys ∧ d = .list ds) ∨ (SqT K H p xs ∧ SqT K H q ys ∧ d = .tuple ds)) → DpAll K H xs ds → DpAll K H ys ds →
            u { nx := fun _ H' => Q .non H', rt := Q } [some x, some y, none] H) := by
        cases hd with
        | non => exact ⟨_, pss_never, fun p q xs ys ds e _ h => by cases hx; cases e⟩
        | bl b => exact ⟨_, pss_never, fun p q xs ys ds e _ h => by cases hx; cases e⟩
        | int i => exact ⟨_, pss_never, fun p q xs ys ds e _ h => by cases hx; cases e⟩
        | str z => exact ⟨_, pss_never, fun p q xs ys ds e _ h => by cases hx; cases e⟩
        | @lst n ds hds hz =>
          refine ⟨_, pss_cons (ps_if (pt_cmpR op_ne (pe_callB cl_len (by rfl) T.len PySem.boot_len (pa_cons (pv 0) pa_nil)) (pe_callB cl_len (by rfl) T.len PySem.boot_len (pa_cons (pv 1) pa_nil)) (nomark _)) (pss_one (ps_ret pe_bl)) pss_nil)
            (pss_cons (ps_for PassesOwn.never rfl (pi_range1 rfl T.range (pa_cons (pe_callB cl_len (by rfl) T.len PySem.boot_len (pa_cons (pv 1) pa_nil)) pa_nil)) (pg_name (i := 2) sclSame.nd rfl (Or.inl rfl))
              (pss_one (ps_if (pt_not (pt_val (pe_call (G _ rfl) hr rfl me F.kp b .nil pass0 (pa_cons (pe_ix ix_list (pv 0) (pv 2) (fun _ _ => rfl)) (pa_cons (pe_ix ix_list (pv 1) (pv 2) (fun _ _ => rfl)) pa_nil))))) (pss_one (ps_ret pe_bl)) pss_nil)))
            (pss_one (ps_ret pe_bl))), ?_⟩
          intro p q xs ys ds' e1 e2 h hA hB
          rcases h with ⟨hX, hY, e⟩ | ⟨_, _, e⟩
          · have ed := PyData.list.inj e
            subst ed e1 e2
            have l1 := dpAll_len hA
            have l2 := dpAll_len hB
            walk_at "rd"
            refine r_lenL hX ?_
            walk_at "rd"
            refine r_lenL hY ?_
            refine r_ne rfl ?_
            walk_at "rd"
            refine ite_no (fun _ => ?_) (fun h => absurd (by rw [l1, l2]) h)
            walk_at "rd"
            refine r_lenL hY ?_
            walk_at "rd"
            refine ⟨_, rfl, by omega, by omega, for_range (lo := 0) (n := _) (fun i σ H' => H' = H ∧ ∃ v : Option V, σ = [some (.ref p), some (.ref q), v]) ⟨rfl, none, rfl⟩ ?_ ?_⟩
            · rintro i σ H' hi ⟨rfl, v, rfl⟩
              have hi' : i < ys.length := by omega
              obtain ⟨dx, hdx, hdX⟩ := dpAll_at (i := i) hA (List.getElem?_eq_getElem (by omega))
              obtain ⟨dy, hdy, hdY⟩ := dpAll_at (i := i) hB (List.getElem?_eq_getElem hi')
              have ee : dx = dy := Option.some.inj (hdx.symm.trans hdy)
              subst ee
              have e0 : (0 : Int) + (i : Int) = (i : Int) := Int.zero_add _
              walk_at "rd"
              rw [e0]
              refine r_ixL hX (atI_nat (List.getElem?_eq_getElem (by omega))) ?_
              walk_at "rd"
              refine r_ixL hY (atI_nat (List.getElem?_eq_getElem hi')) ?_
              walk_at "rd"
              refine ⟨_, _, dx, rfl, hdX, hdY, hds _ (List.mem_of_getElem? hdx), ?_⟩
              walk_at "rd"
              exact ⟨rfl, _, rfl⟩
            · rintro σ H' ⟨rfl, v, rfl⟩
              walk_at "rd"
              exact k
          · cases e
        | @tup n ds hds hz =>
          refine ⟨_, pss_cons (ps_if (pt_cmpR op_ne (pe_callB cl_len (by rfl) T.len PySem.boot_len (pa_cons (pv 0) pa_nil)) (pe_callB cl_len (by rfl) T.len PySem.boot_len (pa_cons (pv 1) pa_nil)) (nomark _)) (pss_one (ps_ret pe_bl)) pss_nil)
            (pss_cons (ps_for PassesOwn.never rfl (pi_range1 rfl T.range (pa_cons (pe_callB cl_len (by rfl) T.len PySem.boot_len (pa_cons (pv 1) pa_nil)) pa_nil)) (pg_name (i := 2) sclSame.nd rfl (Or.inl rfl))
              (pss_one (ps_if (pt_not (pt_val (pe_call (G _ rfl) hr rfl me F.kp b .nil pass0 (pa_cons (pe_ix ix_tup (pv 0) (pv 2) (fun _ _ => rfl)) (pa_cons (pe_ix ix_tup (pv 1) (pv 2) (fun _ _ => rfl)) pa_nil))))) (pss_one (ps_ret pe_bl)) pss_nil)))
            (pss_one (ps_ret pe_bl))), ?_⟩
          intro p q xs ys ds' e1 e2 h hA hB
          rcases h with ⟨_, _, e⟩ | ⟨hX, hY, e⟩
          · cases e
          · have ed := PyData.tuple.inj e
            subst ed e1 e2
            have l1 := dpAll_len hA
            have l2 := dpAll_len hB
            walk_at "rd"
            refine r_lenT hX ?_
            walk_at "rd"
            refine r_lenT hY ?_
            refine r_ne rfl ?_
            walk_at "rd"
            refine ite_no (fun _ => ?_) (fun h => absurd (by rw [l1, l2]) h)
            walk_at "rd"
            refine r_lenT hY ?_
            walk_at "rd"
            refine ⟨_, rfl, by omega, by omega, for_range (lo := 0) (n := _) (fun i σ H' => H' = H ∧ ∃ v : Option V, σ = [some (.ref p), some (.ref q), v]) ⟨rfl, none, rfl⟩ ?_ ?_⟩
            · rintro i σ H' hi ⟨rfl, v, rfl⟩
              have hi' : i < ys.length := by omega
              obtain ⟨dx, hdx, hdX⟩ := dpAll_at (i := i) hA (List.getElem?_eq_getElem (by omega))
              obtain ⟨dy, hdy, hdY⟩ := dpAll_at (i := i) hB (List.getElem?_eq_getElem hi')
              have ee : dx = dy := Option.some.inj (hdx.symm.trans hdy)
              subst ee
              have e0 : (0 : Int) + (i : Int) = (i : Int) := Int.zero_add _
              walk_at "rd"
              rw [e0]
              refine r_ixT hX (atI_nat (List.getElem?_eq_getElem (by omega))) ?_
              walk_at "rd"
              refine r_ixT hY (atI_nat (List.getElem?_eq_getElem hi')) ?_
              walk_at "rd"
              refine ⟨_, _, dx, rfl, hdX, hdY, hds _ (List.mem_of_getElem? hdx), ?_⟩
              walk_at "rd"
              exact ⟨rfl, _, rfl⟩
            · rintro σ H' ⟨rfl, v, rfl⟩
              walk_at "rd"
              exact k
      refine ⟨_, pss_cons (ps_if (pt_cmpR op_is0 (pv 1) pe_non (nomark _)) (pss_one (ps_ret (pe_cmpR op_is0 (pv 0) pe_non (nomark _)))) pss_nil)
        (pss_cons (ps_if (pt_val (pe_callB call_isi (by rfl) T.isinstance (by decide +kernel) (pa_cons (pv 1) (pa_cons (pe_bltn (v := .ty "bool") (by rfl) T.bool (by decide +kernel) rfl) pa_nil))))
          (pss_one (ps_ret (pe_and (pe_callB call_isi (by rfl) T.isinstance (by decide +kernel) (pa_cons (pv 0) (pa_cons (pe_bltn (v := .ty "bool") (by rfl) T.bool (by decide +kernel) rfl) pa_nil))) (pe_one (pe_cmpR op_eq (pv 0) (pv 1) (nomark _)))))) pss_nil)
        (pss_cons (ps_if (pt_val (pe_callB call_isi (by rfl) T.isinstance (by decide +kernel) (pa_cons (pv 1) (pa_cons (pe_bltn (v := .ty "int") (by rfl) T.int (by decide +kernel) rfl) pa_nil))))
          (pss_one (ps_ret (pe_and (pe_callB call_isi (by rfl) T.isinstance (by decide +kernel) (pa_cons (pv 0) (pa_cons (pe_bltn (v := .ty "int") (by rfl) T.int (by decide +kernel) rfl) pa_nil))) (pe_and (pe_not (pe_callB call_isi (by rfl) T.isinstance (by decide +kernel) (pa_cons (pv 0) (pa_cons (pe_bltn (v := .ty "bool") (by rfl) T.bool (by decide +kernel) rfl) pa_nil)))) (pe_one (pe_cmpR op_eq (pv 0) (pv 1) (nomark _))))))) pss_nil)
        (pss_cons (ps_if (pt_val (pe_callB call_isi (by rfl) T.isinstance (by decide +kernel) (pa_cons (pv 1) (pa_cons (pe_bltn (v := .ty "str") (by rfl) T.str (by decide +kernel) rfl) pa_nil))))
          (pss_one (ps_ret (pe_and (pe_callB call_isi (by rfl) T.isinstance (by decide +kernel) (pa_cons (pv 0) (pa_cons (pe_bltn (v := .ty "str") (by rfl) T.str (by decide +kernel) rfl) pa_nil))) (pe_one (pe_cmpR op_eq (pv 0) (pv 1) (nomark _)))))) pss_nil)
        (pss_cons (ps_if (pt_val (pe_callB call_isi (by rfl) T.isinstance (by decide +kernel) (pa_cons (pv 1) (pa_cons (pe_bltn (v := .ty "list") (by rfl) T.list (by decide +kernel) rfl) pa_nil))))
          (pss_one (ps_if (pt_not (pt_val (pe_callB call_isi (by rfl) T.isinstance (by decide +kernel) (pa_cons (pv 0) (pa_cons (pe_bltn (v := .ty "list") (by rfl) T.list (by decide +kernel) rfl) pa_nil))))) (pss_one (ps_ret pe_bl)) pss_nil))
          (pss_one (ps_if (pt_not (pt_val (pe_callB call_isi (by rfl) T.isinstance (by decide +kernel) (pa_cons (pv 0) (pa_cons (pe_bltn (v := .ty "tuple") (by rfl) T.tuple (by decide +kernel) rfl) pa_nil))))) (pss_one (ps_ret pe_bl)) pss_nil)))
        hu)))), ?_⟩
      cases hd with
      | non =>
        cases hx; cases hy
        walk_at "rd"
        refine ite_dec (fun _ => ?_) (fun h => absurd rfl h)
        walk_at "rd"
        exact k
      | bl b =>
        cases hx; cases hy
        walk_at "rd"
        refine ite_dec (fun h => by cases h) (fun _ => ?_)
        walk_at "rd"
        refine r_isi (.base (.bl b)) (by decide +kernel : kitB "bool" "bool" = some true) ?_
        walk_at "rd"
        refine r_isi (.base (.bl b)) (by decide +kernel : kitB "bool" "bool" = some true) ?_
        walk_at "rd"
        exact r_eqT (by rfl) k
      | int i =>
        cases hx; cases hy
        walk_at "rd"
        refine ite_dec (fun h => by cases h) (fun _ => ?_)
        walk_at "rd"
        refine r_isi (.base (.int i)) (by decide +kernel : kitB "int" "bool" = some false) ?_
        walk_at "rd"
        refine r_isi (.base (.int i)) (by decide +kernel : kitB "int" "int" = some true) ?_
        walk_at "rd"
        refine r_isi (.base (.int i)) (by decide +kernel : kitB "int" "int" = some true) ?_
        walk_at "rd"
        refine r_isi (.base (.int i)) (by decide +kernel : kitB "int" "bool" = some false) ?_
        walk_at "rd"
        exact r_eqT (by rfl) k
      | str z =>
        cases hx; cases hy
        walk_at "rd"
        refine ite_dec (fun h => by cases h) (fun _ => ?_)
        walk_at "rd"
        refine r_isi (.base (.str z)) (by decide +kernel : kitB "str" "bool" = some false) ?_
        walk_at "rd"
        refine r_isi (.base (.str z)) (by decide +kernel : kitB "str" "int" = some false) ?_
        walk_at "rd"
        refine r_isi (.base (.str z)) (by decide +kernel : kitB "str" "str" = some true) ?_
        walk_at "rd"
        refine r_isi (.base (.str z)) (by decide +kernel : kitB "str" "str" = some true) ?_
        walk_at "rd"
        exact r_eqT (by rfl) k
      | @lst n ds hds hz =>
        have tx : TyX K H x (.type "list") := Dp.kind hx
        have ty : TyX K H y (.type "list") := Dp.kind hy
        cases hx with
        | @lst p xs _ hX hA =>
          cases hy with
          | @lst q ys _ hY hB =>
            walk_at "rd"
            refine ite_dec (fun h => by cases h) (fun _ => ?_)
            walk_at "rd"
            refine r_isi ty (by decide +kernel : kitB "list" "bool" = some false) ?_
            walk_at "rd"
            refine r_isi ty (by decide +kernel : kitB "list" "int" = some false) ?_
            walk_at "rd"
            refine r_isi ty (by decide +kernel : kitB "list" "str" = some false) ?_
            walk_at "rd"
            refine r_isi ty (by decide +kernel : kitB "list" "list" = some true) ?_
            walk_at "rd"
            refine r_isi tx (by decide +kernel : kitB "list" "list" = some true) ?_
            walk_at "rd"
            exact ru p q xs ys ds rfl rfl (.inl ⟨hX, hY, rfl⟩) hA hB
      | @tup n ds hds hz =>
        have tx : TyX K H x (.type "tuple") := Dp.kind hx
        have ty : TyX K H y (.type "tuple") := Dp.kind hy
        cases hx with
        | @tup p xs _ hX hA =>
          cases hy with
          | @tup q ys _ hY hB =>
            walk_at "rd"
            refine ite_dec (fun h => by cases h) (fun _ => ?_)
            walk_at "rd"
            refine r_isi ty (by decide +kernel : kitB "tuple" "bool" = some false) ?_
            walk_at "rd"
            refine r_isi ty (by decide +kernel : kitB "tuple" "int" = some false) ?_
            walk_at "rd"
            refine r_isi ty (by decide +kernel : kitB "tuple" "str" = some false) ?_
            walk_at "rd"
            refine r_isi ty (by decide +kernel : kitB "tuple" "list" = some false) ?_
            walk_at "rd"
            refine r_isi tx (by decide +kernel : kitB "tuple" "tuple" = some true) ?_
            walk_at "rd"
            exact ru p q xs ys ds rfl rfl (.inr ⟨hX, hY, rfl⟩) hA hB
end
abbrev sCopy : Stmt := top 2
section
variable {P : Program} {w : World} {K : PySem.W.Frag} {mg : Str → Option Value} {base : Heap}
/-- the copies made so far stand in the list at D -/
def Copied (H : Hp) (D : Addr) (ds : List PyData) (i : Nat) (H' : Hp) : Prop :=
  ∃ ys, H' D = some (.lst ys) ∧ ys.length = i ∧ Same H H' ∧ ∀ (j : Nat) (v : V) (d : PyData), ys[j]? = some v → ds[j]? = some d → Own (upd H D (.lst [])) H' v d
theorem Copied.start {H : Hp} {D : Addr} {ds : List PyData} (hD : H D = none) : Copied H D ds 0 (upd H D (.lst [])) :=
  ⟨[], upd_same, rfl, fun b o e => by rw [upd_ne (ne_of_none e hD)]; exact e, fun j v d e => by simp at e⟩
theorem Copied.more {H H1 H2 : Hp} {D : Addr} {ds : List PyData} {i : Nat} {v : V} {d : PyData} (hD : H D = none) (c : Copied H D ds i H1) (s : Same H1 H2) (o : Own H1 H2 v d) (hd : ds[i]? = some d) :
    ∃ acc, H2 D = some (.lst acc) ∧ acc.length = i ∧ Copied H D ds (i + 1) (upd H2 D (.lst (acc ++ [v]))) := by
  obtain ⟨ys, h1, h2, h3, h4⟩ := c
  have nD : ∀ {a : Addr}, upd H D (.lst []) a = none → a ≠ D := fun {a} n z => by rw [z, upd_same] at n; cases n
  refine ⟨ys, s _ _ h1, h2, ys ++ [v], upd_same, by rw [List.length_append, h2]; rfl, fun b o e => ?_, fun j u e e1 e2 => ?_⟩
  · have n : b ≠ D := ne_of_none e hD
    rw [upd_ne n]
    exact s _ _ (h3 _ _ e)
  · by_cases hj : j < ys.length
    · rw [List.getElem?_append_left hj] at e1
      exact ((h4 j u e e1 e2).later s).mono (fun a n _ => n) fun a z n q _ => by rw [upd_ne (nD n)]; exact q
    · have ej : j = i := by
        have z := (List.getElem?_eq_some_iff.mp e1).1
        rw [List.length_append, List.length_singleton] at z
        omega
      subst ej
      rw [List.getElem?_append_right (by omega), h2, Nat.sub_self] at e1
      have eu : v = u := Option.some.inj e1
      have ee : d = e := Option.some.inj (hd.symm.trans e2)
      subst eu ee
      refine o.mono (fun a n _ => ?_) fun a z n q _ => ?_
      · have na : a ≠ D := fun z => by rw [z, h1] at n; cases n
        rw [upd_ne na]
        exact h3.free n
      · have na : a ≠ D := fun z => by rw [z, h1] at n; cases n
        rw [upd_ne na]
        exact q
theorem Copied.done {H H' : Hp} {D : Addr} {ds : List PyData} (hD : H D = none) (c : Copied H D ds ds.length H') : ∃ ys, H' D = some (.lst ys) ∧ ys.length = ds.length ∧ Same H H' ∧ ∀ (j : Nat) (v : V) (d : PyData), ys[j]? = some v → ds[j]? = some d → Own H H' v d := by
  obtain ⟨ys, h1, h2, h3, h4⟩ := c
  refine ⟨ys, h1, h2, h3, fun j v d e1 e2 => (h4 j v d e1 e2).mono (fun a n _ => ?_) fun a u _ q _ => q⟩
  have na : a ≠ D := fun z => by rw [z, upd_same] at n; cases n
  rw [upd_ne na] at n
  exact n

theorem scCopy : FnScope ["value", "entry"] ["value"] (defScope sCopy) := ⟨rfl, rfl, rfl, by decide +kernel, rfl, by decide +kernel, by decide +kernel⟩
theorem ok_copy {f : Addr} {fd : FuncData} (F : Fun K "own_copy" "own_copy" sCopy f fd) (T : Bt mg) (me : mg "own_copy" = some (.ref f)) : ∀ n : Nat, FnOk P w K mg base CX0 (n + 1) f fd ["value"] (spCopy K n)
  | 0 => by
    refine F.ok scCopy (fun vs H Q E h => ?_) (fun cdv A outer s H vs Q E hr h => ?_)
    · obtain ⟨v, d, rfl, _⟩ := h
      rfl
    · obtain ⟨v, d, rfl, hv, hd, k⟩ := h
      refine ⟨_, pss_cons (ps_if (pt_val (pe_callB call_isi (by rfl) T.isinstance (by decide +kernel) (pa_cons (pv 0) (pa_cons (pe_bltn (v := .ty "list") (by rfl) T.list (by decide +kernel) rfl) pa_nil)))) pss_never pss_nil)
        (pss_cons (ps_if (pt_val (pe_callB call_isi (by rfl) T.isinstance (by decide +kernel) (pa_cons (pv 0) (pa_cons (pe_bltn (v := .ty "tuple") (by rfl) T.tuple (by decide +kernel) rfl) pa_nil)))) pss_never pss_nil)
        (pss_cons (ps_if (pt_val (pe_callB call_isi (by rfl) T.isinstance (by decide +kernel) (pa_cons (pv 0) (pa_cons (pe_bltn (v := .ty "dict") (by rfl) T.dict (by decide +kernel) rfl) pa_nil)))) pss_never pss_nil)
        (pss_one (ps_ret (pv 0))))), ?_⟩
      obtain ⟨r1, e1, f1⟩ := kit_list d
      obtain ⟨r2, e2, f2⟩ := kit_tuple d
      have n1 : r1 = false := by
        cases r1 with
        | false => rfl
        | true => obtain ⟨ds, rfl⟩ := f1.mp rfl; cases hd
      have n2 : r2 = false := by
        cases r2 with
        | false => rfl
        | true => obtain ⟨ds, rfl⟩ := f2.mp rfl; cases hd
      subst n1 n2
      walk_at "rd"
      refine r_isi (Dp.kind hv) e1 ?_
      walk_at "rd"
      refine r_isi (Dp.kind hv) e2 ?_
      walk_at "rd"
      refine r_isi (Dp.kind hv) (kit_dict hd) ?_
      walk_at "rd"
      refine k v H (Same.refl H) ?_
      cases hd with
      | non => cases hv; exact .non
      | bl b => cases hv; exact .bl b
      | int i => cases hv; exact .int i
      | str z => cases hv; exact .str z
  | n + 1 => by
    have G := ok_copy F T me n
    have b : Binds K fd ["value"] [] := F.binds fun _ _ _ _ _ _ us hl => match us, hl with | [_], _ => rfl
    refine F.ok scCopy (fun vs H Q E h => ?_) (fun cdv A outer s H vs Q E hr h => ?_)
    · obtain ⟨v, d, rfl, _⟩ := h
      rfl
    · obtain ⟨v, d, rfl, hv, hd, k⟩ := h
      refine ⟨_, pss_cons (ps_if (pt_val (pe_callB call_isi (by rfl) T.isinstance (by decide +kernel) (pa_cons (pv 0) (pa_cons (pe_bltn (v := .ty "list") (by rfl) T.list (by decide +kernel) rfl) pa_nil))))
          (pss_one (ps_ret (pe_lc (own := [("entry", 1)]) (g := gName 1) rfl scCopy.nd (pi_list (pv 0)) (blkOk_by (own := [("entry", 1)]) (N := ["value", "entry"]) (sc := defScope sCopy) (by decide +kernel)) (fun _ _ _ _ _ => pg_name (i := 1) scCopy.nd rfl (Or.inl rfl)) (fun _ _ _ _ _ => pts_nil)
            (fun _ _ _ _ _ => pe_call G hr rfl me F.kp b .nil pass0 (pa_cons (pv 1) pa_nil))))) pss_nil)
        (pss_cons (ps_if (pt_val (pe_callB call_isi (by rfl) T.isinstance (by decide +kernel) (pa_cons (pv 0) (pa_cons (pe_bltn (v := .ty "tuple") (by rfl) T.tuple (by decide +kernel) rfl) pa_nil))))
          (pss_one (ps_ret (pe_callTy cl_tup (by rfl) T.tuple (by decide +kernel) (pa_cons (pe_lc (own := [("entry", 1)]) (g := gName 1) rfl scCopy.nd (pi_tup (pv 0)) (blkOk_by (own := [("entry", 1)]) (N := ["value", "entry"]) (sc := defScope sCopy) (by decide +kernel)) (fun _ _ _ _ _ => pg_name (i := 1) scCopy.nd rfl (Or.inl rfl)) (fun _ _ _ _ _ => pts_nil)
            (fun _ _ _ _ _ => pe_call G hr rfl me F.kp b .nil pass0 (pa_cons (pv 1) pa_nil))) pa_nil)))) pss_nil)
        (pss_cons (ps_if (pt_val (pe_callB call_isi (by rfl) T.isinstance (by decide +kernel) (pa_cons (pv 0) (pa_cons (pe_bltn (v := .ty "dict") (by rfl) T.dict (by decide +kernel) rfl) pa_nil)))) pss_never pss_nil)
        (pss_one (ps_ret (pv 0))))), ?_⟩
      obtain ⟨r1, e1, f1⟩ := kit_list d
      obtain ⟨r2, e2, f2⟩ := kit_tuple d
      walk_at "rd"
      refine r_isi (Dp.kind hv) e1 ?_
      walk_at "rd"
      cases r1 with
      | true =>
        obtain ⟨ds, rfl⟩ := f1.mp rfl
        cases hd with
        | lst hds hz =>
          cases hv with
          | @lst a xs _ hS hA =>
            have ln := dpAll_len hA
            walk_at "rd"
            refine ⟨a, rfl, ⟨_, hS⟩, fun D hD => lc_list (K := K) (a := a) (xs := xs) (Copied H D ds) (Copied.start hD) (fun i H' _ c => c.choose_spec.2.2.1.seq hS) (fun i x H' hi c => ?_) (fun H' c => ?_)⟩
            · obtain ⟨d, hd, hx⟩ := dpAll_at hA hi
              have s1 : Same H H' := c.choose_spec.2.2.1
              walk_at "rd"
              refine ⟨rfl, ?_⟩
              walk_at "rd"
              refine ⟨x, d, rfl, Dp.later s1 hx, hds d (List.mem_of_getElem? hd), fun v' H2 s2 o => ?_⟩
              obtain ⟨acc, h1, h2, h3⟩ := c.more hD s2 o hd
              refine ⟨acc, h1, Nat.lt_of_lt_of_le ?_ (show 1001 ≤ sizeLine by decide), h3⟩
              have := (List.getElem?_eq_some_iff.mp hd).1
              omega
            · rw [ln] at c
              obtain ⟨ys, h1, h2, h3, h4⟩ := Copied.done hD c
              exact k _ _ h3 (.lst hD h1 h2 h4)
      | false =>
        walk_at "rd"
        refine r_isi (Dp.kind hv) e2 ?_
        walk_at "rd"
        cases r2 with
        | true =>
          obtain ⟨ds, rfl⟩ := f2.mp rfl
          cases hd with
          | tup hds hz =>
            cases hv with
            | @tup a xs _ hS hA =>
              have ln := dpAll_len hA
              walk_at "rd"
              refine ⟨a, rfl, ⟨_, hS⟩, fun D hD => lc_tup (K := K) (a := a) (xs := xs) (Copied H D ds) (Copied.start hD) (fun i H' _ c => ?_) (fun i x H' hi c => ?_) (fun H' c => ?_)⟩
              · have s1 : Same H H' := c.choose_spec.2.2.1
                rcases hS with (h | ⟨o, h⟩) | h
                · exact .inl (.inl (s1 _ _ h))
                · exact .inl (.inr ⟨o, s1 _ _ h⟩)
                · exact .inr h
              · obtain ⟨d, hd, hx⟩ := dpAll_at hA hi
                have s1 : Same H H' := c.choose_spec.2.2.1
                walk_at "rd"
                refine ⟨rfl, ?_⟩
                walk_at "rd"
                refine ⟨x, d, rfl, Dp.later s1 hx, hds d (List.mem_of_getElem? hd), fun v' H2 s2 o => ?_⟩
                obtain ⟨acc, h1, h2, h3⟩ := c.more hD s2 o hd
                refine ⟨acc, h1, Nat.lt_of_lt_of_le ?_ (show 1001 ≤ sizeLine by decide), h3⟩
                have := (List.getElem?_eq_some_iff.mp hd).1
                omega
              · rw [ln] at c
                obtain ⟨ys, h1, h2, h3, h4⟩ := Copied.done hD c
                walk_at "rd"
                refine r_tupOf (SqL.of h1) fun q hq => ?_
                have s2 : Same H (upd H' q (.tup ys)) := Same.up h3 hq
                exact k _ _ s2 (.tup (h3.free hq) upd_same h2 fun j v d e1 e2 => (h4 j v d e1 e2).later (Same.up (Same.refl H') hq))
        | false =>
          walk_at "rd"
          refine r_isi (Dp.kind hv) (kit_dict hd) ?_
          walk_at "rd"
          refine k v H (Same.refl H) ?_
          cases hd with
          | non => cases hv; exact .non
          | bl b => cases hv; exact .bl b
          | int i => cases hv; exact .int i
          | str z => cases hv; exact .str z
          | lst h z => exact absurd (f1.mpr ⟨_, rfl⟩) Bool.false_ne_true
          | tup h z => exact absurd (f2.mpr ⟨_, rfl⟩) Bool.false_ne_true
end
end Pk
set_option Elab.async false
set_option linter.all false
set_option maxRecDepth 100000
set_option maxHeartbeats 4000000
namespace Pk
open PySem L2
local macro_rules | `(tactic| walk_at "rd") => `(tactic| repeat (first
  | with_reducible refine r_seq ?_ | with_reducible refine r_nxt ?_ | with_reducible refine r_asg ?_ | with_reducible refine r_to ?_ | with_reducible refine r_ret ?_ | with_reducible refine r_for ?_ | with_reducible refine r_lc ?_ | with_reducible refine r_rng1 ?_ | with_reducible refine r_list ?_ | with_reducible refine r_tupI ?_ | with_reducible refine r_drop ?_ | with_reducible refine r_ifs ?_
  | with_reducible refine r_op ?_ | with_reducible refine r_c ?_ | with_reducible refine r_var rfl ?_ | with_reducible refine r_var (by assumption) ?_ | with_reducible refine r_I0 ?_ | with_reducible refine r_un ?_ | with_reducible refine r_U ?_ | with_reducible refine r_make ?_ | with_reducible refine r_sub ?_
  | with_reducible refine r_nil ?_ | with_reducible refine r_cons ?_ | with_reducible refine r_cb ?_ | with_reducible refine r_sl ?_ | with_reducible refine r_noP ?_ | with_reducible refine r_part ?_ | with_reducible refine r_isI ?_ | with_reducible refine r_lst ?_ | with_reducible refine r_tup ?_ | with_reducible refine r_call ?_ | with_reducible refine r_callS ?_ | with_reducible refine r_sFldU ?_ | with_reducible refine r_chain ?_ | with_reducible refine r_enum ?_ | with_reducible refine r_gtup ?_ | with_reducible refine r_methU ?_
  | with_reducible refine r_test ?_ | with_reducible refine r_B ?_ | with_reducible refine r_and ?_ | with_reducible refine r_or ?_ | with_reducible refine r_not ?_ | with_reducible refine r_andV ?_ | with_reducible refine r_orV ?_ | with_reducible refine r_notV ?_ | with_reducible refine r_bl ?_ | with_reducible refine r_yes ?_ | with_reducible refine r_int ?_ | with_reducible refine r_is0 ?_ | with_reducible refine r_is1 ?_ | with_reducible refine iteT ?_ | with_reducible refine iteF ?_ | with_reducible refine ite_nF ?_ | with_reducible refine ite_nT ?_
  | with_reducible refine r_mod (by decide) ?_ | with_reducible refine r_div (by decide) (by decide) ?_ | with_reducible refine r_mulR (by decide) (by decide) ?_ | with_reducible refine r_mulL (by decide) (by decide) ?_ | with_reducible refine r_pow (by decide) (by decide) (by decide) ?_))
/-! ### any value of the menu -/
inductive IvH (p : Addr) (H : Hp) : V → Prop
  | non : IvH p H .non
  | bl (b : Bool) : IvH p H (.bl b)
  | int (i : Int) : IvH p H (.int i)
  | str (z : Str) : IvH p H (.str z)
  | lst {a : Addr} {xs : List V} (n : a ≠ p) (h : H a = some (.lst xs)) : IvH p H (.ref a)
  | tup {a : Addr} {xs : List V} (n : a ≠ p) (h : H a = some (.tup xs)) : IvH p H (.ref a)
  | dct {a : Addr} {kvs : List (Key × V)} (n : a ≠ p) (h : H a = some (.dK kvs)) : IvH p H (.ref a)
theorem IvH.keep {p : Addr} {H H' : Hp} {v : V} (h : IvH p H v) (k : Keep p H H') : IvH p H' v := by
  cases h with
  | non => exact .non
  | bl b => exact .bl b
  | int i => exact .int i
  | str z => exact .str z
  | lst n h => exact .lst n (k _ _ n h)
  | tup n h => exact .tup n (k _ _ n h)
  | dct n h => exact .dct n (k _ _ n h)
/-- isinstance of int, bool, str -/
def isI : V → Bool | .int _ => true | .bl _ => true | _ => false
def isB : V → Bool | .bl _ => true | _ => false
def isS : V → Bool | .str _ => true | _ => false
section
variable {K : PySem.W.Frag} {p : Addr} {H : Hp} {Q : VK} {v : V}
theorem IvH.kind (h : IvH p H v) : ∃ T, TyX K H v (.type T) ∧ kitB T "int" = some (isI v) ∧ kitB T "bool" = some (isB v) ∧ kitB T "str" = some (isS v) := by
  cases h with
  | non => exact ⟨"NoneType", .base .non, by decide +kernel, by decide +kernel, by decide +kernel⟩
  | bl b => exact ⟨"bool", .base (.bl b), (by decide +kernel : kitB "bool" "int" = some true), (by decide +kernel : kitB "bool" "bool" = some true), (by decide +kernel : kitB "bool" "str" = some false)⟩
  | int i => exact ⟨"int", .base (.int i), (by decide +kernel : kitB "int" "int" = some true), (by decide +kernel : kitB "int" "bool" = some false), (by decide +kernel : kitB "int" "str" = some false)⟩
  | str z => exact ⟨"str", .base (.str z), (by decide +kernel : kitB "str" "int" = some false), (by decide +kernel : kitB "str" "bool" = some false), (by decide +kernel : kitB "str" "str" = some true)⟩
  | lst n h => exact ⟨"list", .base (.lst h), (by decide +kernel : kitB "list" "int" = some false), (by decide +kernel : kitB "list" "bool" = some false), (by decide +kernel : kitB "list" "str" = some false)⟩
  | tup n h => exact ⟨"tuple", .base (.tup h), (by decide +kernel : kitB "tuple" "int" = some false), (by decide +kernel : kitB "tuple" "bool" = some false), (by decide +kernel : kitB "tuple" "str" = some false)⟩
  | dct n h => exact ⟨"dict", .base (.dK h), (by decide +kernel : kitB "dict" "int" = some false), (by decide +kernel : kitB "dict" "bool" = some false), (by decide +kernel : kitB "dict" "str" = some false)⟩
theorem r_isiI (h : IvH p H v) (q : Q (.bl (isI v)) H) : rIsi K [v, .ty "int"] H Q := by
  obtain ⟨T, t, a, _, _⟩ := h.kind (K := K)
  exact r_isi t a q
theorem r_isiB (h : IvH p H v) (q : Q (.bl (isB v)) H) : rIsi K [v, .ty "bool"] H Q := by
  obtain ⟨T, t, _, a, _⟩ := h.kind (K := K)
  exact r_isi t a q
theorem r_isiS (h : IvH p H v) (q : Q (.bl (isS v)) H) : rIsi K [v, .ty "str"] H Q := by
  obtain ⟨T, t, _, _, a⟩ := h.kind (K := K)
  exact r_isi t a q
end
/-- an integer, between, one of the kinds -/
def whole (v : V) : Bool := isI v && !isB v
theorem whole_int {v : V} (h : whole v = true) : ∃ i, v = .int i := by
  cases v with
  | int i => exact ⟨i, rfl⟩
  | bl b => cases h
  | non => cases h
  | str z => cases h
  | byt b => cases h
  | flt b => cases h
  | ref a => cases h
  | ty n => cases h
def spIsInt : Sp := fun vs H Q _ => ∃ (p : Addr) (v : V), vs = [v] ∧ IvH p H v ∧ Q (.bl (whole v)) H
section
variable {P : Program} {w : World} {K : PySem.W.Frag} {mg : Str → Option Value} {base : Heap} {f : Addr} {fd : FuncData}
abbrev slIsInt : Stmt := top 8
theorem sclIsInt : FnScope ["value"] ["value"] (defScope slIsInt) := ⟨rfl, rfl, rfl, by decide +kernel, rfl, by decide +kernel, by decide +kernel⟩
theorem ok_isInt (F : Fun K "is_integer" "is_integer" slIsInt f fd) (T : Bt mg) : FnOk P w K mg base CX0 1 f fd ["value"] spIsInt := by
  refine F.ok sclIsInt (fun vs H Q E h => ?_) (fun cdv A outer s H vs Q E hr h => ?_)
  · obtain ⟨p, v, rfl, _⟩ := h
    rfl
  · obtain ⟨p, v, rfl, hv, k⟩ := h
    refine ⟨_, (pss_one (ps_ret (pe_and (pe_callB call_isi (by rfl) T.isinstance (by decide +kernel) (pa_cons (pv 0) (pa_cons (pe_bltn (v := .ty "int") (by rfl) T.int (by decide +kernel) rfl) pa_nil))) (pe_one (pe_not (pe_callB call_isi (by rfl) T.isinstance (by decide +kernel) (pa_cons (pv 0) (pa_cons (pe_bltn (v := .ty "bool") (by rfl) T.bool (by decide +kernel) rfl) pa_nil)))))))), ?_⟩
    walk_at "rd"
    refine r_isiI hv ?_
    walk_at "rd"
    by_cases hi : isI v = true
    · rw [if_pos hi]
      walk_at "rd"
      refine r_isiB hv ?_
      walk_at "rd"
      rw [whole, hi] at k
      exact k
    · rw [if_neg hi]
      rw [whole, Bool.eq_false_iff.mpr hi] at k
      exact k
end
/-- the def within a class's text -/
def inCls (i j : Nat) : Stmt := match top i with
  | .ClassDef (body := b) .. => b.getD j (.Pass ⟨0, 0, 0, 0⟩)
  | _ => .Pass ⟨0, 0, 0, 0⟩
/-! ### the errors -/
section
variable {P : Program} {w : World} {K : PySem.W.Frag} {mg : Str → Option Value} {base : Heap} {C fI cc fc : Addr} {fdc : FuncData}
abbrev slIB : Stmt := inCls 5 0
abbrev nfIB (cc c : Addr) : NdefX.NF := { name := "__init__", qual := "InvalidBound.__init__", params := defArgs slIB, body := defBody slIB, scope := defScope slIB, cl := [(("__class__" : Str), cc)], c := c }
theorem ok_IB {c : Addr} {n : Nat} (T : ErrC K C) (J : InitFn P K C fI cc (nfIB cc c)) (B : Bt mg) (G : FnOk P w K mg base CX0 (n + 1) fc fdc ["value"] (spCopy K n)) (mc : mg "own_copy" = some (.ref fc)) (kc : PySem.W.keepIn K (.ref fc) = true)
    (bc : Binds K fdc ["value"] []) (free : PySem.W.findIn K (.ref C) "name" = some none) : ErrOk P w K mg base (n + 2) C fI (spErr1 K n C "name") := by
  exact err_one (F := nfIB cc c) T J B.super G mc kc bc (NdefX.nscope_by (by show NdefX.nscB _ _ _ (defScope slIB) = true; decide +kernel)) rfl rfl rfl free (fun _ _ _ _ _ us hl => match us, hl with | [_, _], _ => rfl) (fun env => rfl) (by decide) (by decide)
abbrev slIA : Stmt := inCls 4 0
abbrev nfIA (cc c : Addr) : NdefX.NF := { name := "__init__", qual := "InvalidAmounts.__init__", params := defArgs slIA, body := defBody slIA, scope := defScope slIA, cl := [(("__class__" : Str), cc)], c := c }
theorem ok_IA {c : Addr} {n : Nat} (T : ErrC K C) (J : InitFn P K C fI cc (nfIA cc c)) (B : Bt mg) (G : FnOk P w K mg base CX0 (n + 1) fc fdc ["value"] (spCopy K n)) (mc : mg "own_copy" = some (.ref fc)) (kc : PySem.W.keepIn K (.ref fc) = true)
    (bc : Binds K fdc ["value"] []) (free : PySem.W.findIn K (.ref C) "word" = some none) (free2 : PySem.W.findIn K (.ref C) "at" = some none) : ErrOk P w K mg base (n + 2) C fI (spErr2 K n C "word" "at") := by
  exact err_two (F := nfIA cc c) T J B.super G mc kc bc (NdefX.nscope_by (by show NdefX.nscB _ _ _ (defScope slIA) = true; decide +kernel)) rfl rfl rfl free free2 (fun _ _ _ _ _ us hl => match us, hl with | [_, _, _], _ => rfl) (fun env => rfl) (by decide) (by decide) (by decide) (by decide)
end
/-! ### class Amounts, where what is handed in is good -/
/-- the amounts at x: their dict at dx, their two lists at p and q -/
structure AmX (C : Addr) (H : Hp) (x dx p q : Addr) (ms ns : List Int) : Prop where
  o : H x = some (.ins C dx [("held", .ref p), ("wished", .ref q)])
  h : H p = some (.lst (ms.map V.int))
  w : H q = some (.lst (ns.map V.int))
/-- good amounts of some lines -/
def Gd (ms : List Int) : Prop := 0 < ms.length ∧ ms.length ≤ 8 ∧ ∀ m, m ∈ ms → 0 ≤ m
structure AmC (K : PySem.W.Frag) (C : Addr) : Prop where
  cls : Cls K C
  h : NoAttr K C "held"
  w : NoAttr K C "wished"
def spChk : Sp := fun vs H Q _ => ∃ (z : Str) (a : Addr) (ms : List Int), vs = [.str z, .ref a] ∧ H a = some (.lst (ms.map V.int)) ∧ Gd ms ∧ ∀ H' : Hp, Same H H' → Q .non H'
def spAmI (C : Addr) : Sp := fun vs H Q _ => ∃ (x dx a b : Addr) (ms ns : List Int), vs = [.ref x, .ref a, .ref b] ∧ H x = some (.ins C dx []) ∧ H dx = some (.own x) ∧ dx ≠ x ∧
  H a = some (.lst (ms.map V.int)) ∧ H b = some (.lst (ns.map V.int)) ∧ Gd ms ∧ Gd ns ∧
  ∀ (H' : Hp) (p q : Addr), H p = none → H q = none → p ≠ q → AmX C H' x dx p q ms ns → (∀ c o, c ≠ x → H c = some o → H' c = some o) → Q .non H'
abbrev slChk : Stmt := top 10
abbrev slAmI : Stmt := inCls 11 0
section
variable {P : Program} {w : World} {K : PySem.W.Frag} {mg : Str → Option Value} {base : Heap} {C f : Addr} {fd : FuncData}
theorem sclChk : FnScope ["word", "numbers", "at", "number"] ["word", "numbers"] (defScope slChk) := ⟨rfl, rfl, rfl, by decide +kernel, rfl, by decide +kernel, by decide +kernel⟩
theorem ok_chk (F : Fun K "check_line_amounts" "check_line_amounts" slChk f fd) (T : Bt mg) {tk : Tok} (hM : mg "MOST_LINES" = some (.int 8 tk)) (DI : Df P w K mg base CX0 "is_integer" 1 ["value"] spIsInt) :
    FnOk P w K mg base CX0 2 f fd ["word", "numbers"] spChk := by
  refine F.ok sclChk (fun vs H Q E h => ?_) (fun cdv A outer s H vs Q E hr h => ?_)
  · obtain ⟨z, a, ms, rfl, _⟩ := h
    rfl
  · obtain ⟨z, a, ms, rfl, ha, ⟨m0, m8, mp⟩, k⟩ := h
    refine ⟨_, (pss_cons (ps_if (PW.pt (pw_or (pt_not (pt_val (pe_callB call_isi (by rfl) T.isinstance (by decide +kernel) (pa_cons (pv 1) (pa_cons (pe_bltn (v := .ty "list") (by rfl) T.list (by decide +kernel) rfl) pa_nil)))))
        (pw_or1 (pt_not (pt_chain op_le op_le pe_int (pe_callB cl_len (by rfl) T.len PySem.boot_len (pa_cons (pv 1) pa_nil)) (pe_glob (v := .int 8) (by rfl) hM ⟨tk, rfl⟩)))))) pss_never pss_nil)
      (pss_one (ps_for PassesOwn.never rfl (pi_enum (by rfl) T.enumerate (pa_cons (pv 1) pa_nil)) (pg_tup rfl (pgs_cons (pg_name (i := 2) sclChk.nd rfl (Or.inl rfl)) (pgs_cons (pg_name (i := 3) sclChk.nd rfl (Or.inl rfl)) pgs_nil)))
        (pss_one (ps_if (PW.pt (pw_or (pt_not (pt_val (pe_df DI hr (by decide) (pa_cons (pv 3) pa_nil)))) (pw_or1 (pt_cmpR op_lt (pv 3) pe_int (nomark _))))) pss_never pss_nil))))), ?_⟩
    walk_at "rd"
    refine r_isi (.base (.lst ha)) (by decide +kernel : kitB "list" "list" = some true) ?_
    walk_at "rd"
    refine r_lenL (SqL.of ha) ?_
    walk_at "rd"
    refine ifT (decide_eq_true (by rw [List.length_map]; omega)) ?_
    walk_at "rd"
    refine ifF (by rw [decide_eq_true (by rw [List.length_map]; omega)]; rfl) ?_
    walk_at "rd"
    refine ⟨a, _, rfl, SqL.of ha, for_it walk_enum (fun i σ H' => ∃ u v, σ = [some (.str z), some (.ref a), u, v] ∧ Same H H') ⟨none, none, rfl, Same.refl H⟩ (fun i σ H' _ ⟨_, _, _, s⟩ => s.seq (SqL.of ha)) ?_ ?_⟩
    · rintro i x σ H1 H2 hi ⟨u, v, rfl, s1⟩ ⟨t, i', y, rfl, ht, rfl, e1, e2⟩
      obtain ⟨m, hm, rfl⟩ := int_at e2
      have st : Same H (upd H1 t (.tup [i', .int m])) := Same.up s1 ht
      refine r_gtup ⟨t, _, rfl, SqT.of upd_same, rfl, _, _, rfl, ?_⟩
      walk_at "rd"
      refine ⟨_, _, rfl, ?_⟩
      walk_at "rd"
      refine ⟨rfl, ?_⟩
      walk_at "rd"
      refine ⟨a, .int m, rfl, .int m, ?_⟩
      walk_at "rd"
      refine ifF (by simp [whole, isI, isB]) ?_
      walk_at "rd"
      refine ifF (decide_eq_false (by have := mp m hm; omega)) ?_
      walk_at "rd"
      exact ⟨_, _, rfl, st⟩
    · rintro σ H1 ⟨u, v, rfl, s1⟩
      exact k H1 s1
theorem sclAmI : FnScope ["self", "stocks", "wishes"] ["self", "stocks", "wishes"] (defScope slAmI) := ⟨rfl, rfl, rfl, by decide +kernel, rfl, by decide +kernel, by decide +kernel⟩
theorem ok_amI (F : Fun K "__init__" "Amounts.__init__" slAmI f fd) (T : Bt mg) (A : AmC K C) (DC : Df P w K mg base CX0 "check_line_amounts" 2 ["word", "numbers"] spChk) :
    FnOk P w K mg base (L2.CX P w) 3 f fd ["self", "stocks", "wishes"] (spAmI C) := by
  refine F.okX sclAmI (fun vs H Q E h => ?_) (fun cdv A' outer s H vs Q E hr h => ?_)
  · obtain ⟨x, dx, a, b, ms, ns, rfl, _⟩ := h
    rfl
  · obtain ⟨x, dx, a, b, ms, ns, rfl, hx, hdx, ne, ha, hb, gm, gn, k⟩ := h
    refine ⟨_, (pss_cons (ps_expr (pe_df DC hr (by decide) (pa_cons pe_str (pa_cons (pv 1) pa_nil))))
      (pss_cons (ps_expr (pe_df DC hr (by decide) (pa_cons pe_str (pa_cons (pv 2) pa_nil))))
      (pss_cons (ps_fld (pv 0) (pe_callTy cl_lst (by rfl) T.list (by decide +kernel) (pa_cons (pv 1) pa_nil)) rfl)
      (pss_one (ps_fld (pv 0) (pe_callTy cl_lst (by rfl) T.list (by decide +kernel) (pa_cons (pv 2) pa_nil)) rfl))))), ?_⟩
    walk_at "rd"
    refine ⟨_, a, ms, rfl, ha, gm, fun H1 s1 => ?_⟩
    walk_at "rd"
    refine ⟨_, b, ns, rfl, s1 _ _ hb, gn, fun H2 s2 => ?_⟩
    have s12 : Same H H2 := s1.trans s2
    walk_at "rd"
    refine r_lstOf (SqL.of (s12 _ _ ha)) fun q1 n1 => ?_
    have x1 : x ≠ q1 := fun z => by
      have e := s12 _ _ hx
      rw [z, n1] at e
      cases e
    have a1 : b ≠ q1 := fun z => by
      have e := s12 _ _ hb
      rw [z, n1] at e
      cases e
    have a2 : b ≠ x := fun z => by
      have e := hb
      rw [z, hx] at e
      cases e
    walk_at "rd"
    refine r_sFld0 (C := C) (dx := dx) (fs := []) (by rw [upd_ne x1]; exact s12 _ _ hx) A.cls A.h (by decide) ?_
    walk_at "rd"
    refine r_lstOf (SqL.of (by rw [upd_ne a2, upd_ne a1]; exact s12 _ _ hb)) fun q2 n2 => ?_
    have x2 : x ≠ q2 := fun z => by
      rw [← z, upd_same] at n2
      cases n2
    have q12 : q1 ≠ q2 := fun z => by
      rw [← z, upd_ne (Ne.symm x1), upd_same] at n2
      cases n2
    rw [upd_ne (Ne.symm x2), upd_ne (Ne.symm q12)] at n2
    walk_at "rd"
    refine r_sFld0 (C := C) (dx := dx) (by rw [upd_ne x2, upd_same]) A.cls A.w (by show 1 < 1000; decide) ?_
    rw [two_put (by decide +kernel) (by decide +kernel)]
    refine k _ q1 q2 (s12.free n1) (s12.free n2) q12 ⟨upd_same, ?_, ?_⟩ fun c o hc e => ?_
    · rw [upd_ne (Ne.symm x1), upd_ne q12, upd_ne (Ne.symm x1), upd_same]
    · rw [upd_ne (Ne.symm x2), upd_same]
    · have e2 := s12 _ _ e
      have c1 : c ≠ q1 := fun z => by rw [z, n1] at e2; cases e2
      have c2 : c ≠ q2 := fun z => by rw [z, n2] at e2; cases e2
      rw [upd_ne hc, upd_ne c2, upd_ne hc, upd_ne c1]
      exact e2
/-- over() -/
def spAmOver (C : Addr) : Sp := fun vs H Q _ => ∃ (x dx p q : Addr) (ms ns : List Int), vs = [.ref x] ∧ AmX C H x dx p q ms ns ∧ Q (.int (ms.sum - ns.sum)) H
abbrev slOver : Stmt := inCls 11 9
theorem sclOver : FnScope ["self"] ["self"] (defScope slOver) := ⟨rfl, rfl, rfl, by decide +kernel, rfl, by decide +kernel, by decide +kernel⟩
theorem ok_over (F : Fun K "over" "Amounts.over" slOver f fd) (T : Bt mg) (A : AmC K C) : FnOk P w K mg base CX0 1 f fd ["self"] (spAmOver C) := by
  refine F.ok sclOver (fun vs H Q E h => ?_) (fun cdv A' outer s H vs Q E hr h => ?_)
  · obtain ⟨x, dx, p, q, ms, ns, rfl, _⟩ := h
    rfl
  · obtain ⟨x, dx, p, q, ms, ns, rfl, a, k⟩ := h
    refine ⟨_, (pss_one (ps_ret (pe_op op_sub (pe_callB (cr_sum rfl) (by rfl) T.sum (by decide +kernel) (pa_cons (pe_fld (pv 0) rfl) pa_nil)) (pe_callB (cr_sum rfl) (by rfl) T.sum (by decide +kernel) (pa_cons (pe_fld (pv 0) rfl) pa_nil))))), ?_⟩
    walk_at "rd"
    refine r_fldV rfl a.o A.cls A.h two_fst ?_
    walk_at "rd"
    refine r_sum (SqL.of a.h) ?_
    walk_at "rd"
    refine r_fldV rfl a.o A.cls A.w (two_snd (by decide +kernel)) ?_
    walk_at "rd"
    refine r_sum (SqL.of a.w) ?_
    walk_at "rd"
    exact k
end
end Pk
set_option Elab.async false
set_option linter.all false
set_option maxRecDepth 100000
set_option maxHeartbeats 4000000
namespace Pk
open PySem L2
local macro_rules | `(tactic| walk_at "rd") => `(tactic| repeat (first
  | with_reducible refine r_seq ?_ | with_reducible refine r_nxt ?_ | with_reducible refine r_asg ?_ | with_reducible refine r_to ?_ | with_reducible refine r_ret ?_ | with_reducible refine r_for ?_ | with_reducible refine r_lc ?_ | with_reducible refine r_rng1 ?_ | with_reducible refine r_list ?_ | with_reducible refine r_tupI ?_ | with_reducible refine r_drop ?_ | with_reducible refine r_ifs ?_
  | with_reducible refine r_op ?_ | with_reducible refine r_c ?_ | with_reducible refine r_var rfl ?_ | with_reducible refine r_var (by assumption) ?_ | with_reducible refine r_I0 ?_ | with_reducible refine r_un ?_ | with_reducible refine r_U ?_ | with_reducible refine r_make ?_ | with_reducible refine r_sub ?_
  | with_reducible refine r_nil ?_ | with_reducible refine r_cons ?_ | with_reducible refine r_cb ?_ | with_reducible refine r_sl ?_ | with_reducible refine r_noP ?_ | with_reducible refine r_part ?_ | with_reducible refine r_isI ?_ | with_reducible refine r_lst ?_ | with_reducible refine r_tup ?_ | with_reducible refine r_call ?_ | with_reducible refine r_callS ?_ | with_reducible refine r_sFldU ?_ | with_reducible refine r_chain ?_ | with_reducible refine r_enum ?_ | with_reducible refine r_zip ?_ | with_reducible refine r_gtup ?_ | with_reducible refine r_methU ?_
  | with_reducible refine r_test ?_ | with_reducible refine r_B ?_ | with_reducible refine r_and ?_ | with_reducible refine r_or ?_ | with_reducible refine r_not ?_ | with_reducible refine r_andV ?_ | with_reducible refine r_orV ?_ | with_reducible refine r_notV ?_ | with_reducible refine r_bl ?_ | with_reducible refine r_yes ?_ | with_reducible refine r_int ?_ | with_reducible refine r_is0 ?_ | with_reducible refine r_is1 ?_ | with_reducible refine iteT ?_ | with_reducible refine iteF ?_ | with_reducible refine ite_nF ?_ | with_reducible refine ite_nT ?_
  | with_reducible refine r_mod (by decide) ?_ | with_reducible refine r_div (by decide) (by decide) ?_ | with_reducible refine r_mulR (by decide) (by decide) ?_ | with_reducible refine r_mulL (by decide) (by decide) ?_ | with_reducible refine r_pow (by decide) (by decide) (by decide) ?_))
/-! ### the methods of Amounts -/
/-- stocks(), wishes() -/
def spGet (C : Addr) (g : List Int → List Int → List Int) : Sp := fun vs H Q _ => ∃ (x dx p q : Addr) (ms ns : List Int), vs = [.ref x] ∧ AmX C H x dx p q ms ns ∧ ∀ r, H r = none → Q (.ref r) (upd H r (.lst ((g ms ns).map V.int)))
def spLong (C : Addr) : Sp := fun vs H Q _ => ∃ (x dx p q a b : Addr) (ms ns ms' ns' : List Int), vs = [.ref x, .ref a, .ref b] ∧ AmX C H x dx p q ms ns ∧ H a = some (.lst (ms'.map V.int)) ∧ H b = some (.lst (ns'.map V.int)) ∧
  Q (.bl (decide (ms.length = ms'.length) && decide (ns.length = ns'.length))) H
def spAmEq (C : Addr) : Sp := fun vs H Q _ => ∃ (x dx p q y dy r s : Addr) (ms ns ms' ns' : List Int), vs = [.ref x, .ref y] ∧ AmX C H x dx p q ms ns ∧ AmX C H y dy r s ms' ns' ∧ Q (.bl (decide (ms = ms') && decide (ns = ns'))) H
/-- what is no amounts -/
def NoAm (K : PySem.W.Frag) (H : Hp) (y : V) : Prop := ∃ T : String, TyX K H y (.type T) ∧ T ∈ (["NoneType", "int", "bool", "str", "list", "tuple", "dict"] : List String)
/-- x + y -/
def spAdd (K : PySem.W.Frag) (C CE : Addr) : Sp := fun vs H Q E => ∃ (x dx p q : Addr) (ms ns : List Int) (y : V), vs = [.ref x, y] ∧ AmX C H x dx p q ms ns ∧ Gd ms ∧ Gd ns ∧
  ((NoAm K H y ∧ ∀ (d : Addr) (H' : Hp), Same H H' → H d = none → H' d = some (.xd [("at", .int (-1)), ("word", .str "size")]) → E (.ref CE) (some d) H') ∨
   (∃ (b dy r s : Addr) (ms' ns' : List Int), y = .ref b ∧ AmX C H b dy r s ms' ns' ∧ Gd ms' ∧ Gd ns' ∧
     ((ms.length = ms'.length ∧ ns.length = ns'.length) → ∀ (z dz t u : Addr) (H' : Hp), AmX C H' z dz t u (List.zipWith (· + ·) ms ms') (List.zipWith (· + ·) ns ns') → Same H H' → Q (.ref z) H') ∧
     (¬ (ms.length = ms'.length ∧ ns.length = ns'.length) → ∀ (d : Addr) (H' : Hp), Same H H' → H d = none → H' d = some (.xd [("at", .int (-1)), ("word", .str "size")]) → E (.ref CE) (some d) H')))
/-- numbers of no more than some hundred bits -/
def Sm (i : Int) : Prop := i.natAbs < 2 ^ 200
/-- x * v -/
def spMul (C CB : Addr) : Sp := fun vs H Q E => ∃ (x dx p q : Addr) (ms ns : List Int) (c : Addr) (v : V), vs = [.ref x, v] ∧ AmX C H x dx p q ms ns ∧ Gd ms ∧ Gd ns ∧ (∀ m, m ∈ ms ++ ns → Sm m) ∧ IvH c H v ∧
  (∀ k : Int, v = .int k → 0 ≤ k → Sm k ∧ ∀ (z dz t u : Addr) (H' : Hp), AmX C H' z dz t u (ms.map (k * ·)) (ns.map (k * ·)) → Same H H' → Q (.ref z) H') ∧
  ((¬ ∃ k : Int, v = .int k ∧ 0 ≤ k) → ∀ (d : Addr) (H' : Hp), Same H H' → H d = none → H' d = some (.xd [("name", .str "times")]) → E (.ref CB) (some d) H')
abbrev slEq : Stmt := inCls 11 2
abbrev slAdd : Stmt := inCls 11 3
abbrev slMul : Stmt := inCls 11 4
abbrev slRmul : Stmt := inCls 11 5
abbrev slLong : Stmt := inCls 11 6
abbrev slStocks : Stmt := inCls 11 7
abbrev slWishes : Stmt := inCls 11 8
section
variable {P : Program} {w : World} {K : PySem.W.Frag} {mg : Str → Option Value} {base : Heap} {C CE CB f : Addr} {fd : FuncData}
theorem sclStocks : FnScope ["self"] ["self"] (defScope slStocks) := ⟨rfl, rfl, rfl, by decide +kernel, rfl, by decide +kernel, by decide +kernel⟩
theorem sclWishes : FnScope ["self"] ["self"] (defScope slWishes) := ⟨rfl, rfl, rfl, by decide +kernel, rfl, by decide +kernel, by decide +kernel⟩
theorem ok_stocks (F : Fun K "stocks" "Amounts.stocks" slStocks f fd) (T : Bt mg) (A : AmC K C) : FnOk P w K mg base CX0 1 f fd ["self"] (spGet C fun ms _ => ms) := by
  refine F.ok sclStocks (fun vs H Q E h => ?_) (fun cdv A' outer s H vs Q E hr h => ?_)
  · obtain ⟨x, dx, p, q, ms, ns, rfl, _⟩ := h
    rfl
  · obtain ⟨x, dx, p, q, ms, ns, rfl, a, k⟩ := h
    refine ⟨_, (pss_one (ps_ret (pe_callTy cl_lst (by rfl) T.list (by decide +kernel) (pa_cons (pe_fld (pv 0) rfl) pa_nil)))), ?_⟩
    walk_at "rd"
    refine r_fldV rfl a.o A.cls A.h two_fst ?_
    walk_at "rd"
    exact r_lstOf (SqL.of a.h) k
theorem ok_wishes (F : Fun K "wishes" "Amounts.wishes" slWishes f fd) (T : Bt mg) (A : AmC K C) : FnOk P w K mg base CX0 1 f fd ["self"] (spGet C fun _ ns => ns) := by
  refine F.ok sclWishes (fun vs H Q E h => ?_) (fun cdv A' outer s H vs Q E hr h => ?_)
  · obtain ⟨x, dx, p, q, ms, ns, rfl, _⟩ := h
    rfl
  · obtain ⟨x, dx, p, q, ms, ns, rfl, a, k⟩ := h
    refine ⟨_, (pss_one (ps_ret (pe_callTy cl_lst (by rfl) T.list (by decide +kernel) (pa_cons (pe_fld (pv 0) rfl) pa_nil)))), ?_⟩
    walk_at "rd"
    refine r_fldV rfl a.o A.cls A.w (two_snd (by decide +kernel)) ?_
    walk_at "rd"
    exact r_lstOf (SqL.of a.w) k
theorem sclLong : FnScope ["self", "held", "wished"] ["self", "held", "wished"] (defScope slLong) := ⟨rfl, rfl, rfl, by decide +kernel, rfl, by decide +kernel, by decide +kernel⟩
theorem ok_long (F : Fun K "is_as_long" "Amounts.is_as_long" slLong f fd) (T : Bt mg) (A : AmC K C) : FnOk P w K mg base CX0 1 f fd ["self", "held", "wished"] (spLong C) := by
  refine F.ok sclLong (fun vs H Q E h => ?_) (fun cdv A' outer s H vs Q E hr h => ?_)
  · obtain ⟨x, dx, p, q, a, b, ms, ns, ms', ns', rfl, _⟩ := h
    rfl
  · obtain ⟨x, dx, p, q, a, b, ms, ns, ms', ns', rfl, o, ha, hb, k⟩ := h
    refine ⟨_, (pss_one (ps_ret (pe_and (pe_cmpR op_eq (pe_callB cl_len (by rfl) T.len PySem.boot_len (pa_cons (pe_fld (pv 0) rfl) pa_nil)) (pe_callB cl_len (by rfl) T.len PySem.boot_len (pa_cons (pv 1) pa_nil)) (nomark _))
      (pe_one (pe_cmpR op_eq (pe_callB cl_len (by rfl) T.len PySem.boot_len (pa_cons (pe_fld (pv 0) rfl) pa_nil)) (pe_callB cl_len (by rfl) T.len PySem.boot_len (pa_cons (pv 2) pa_nil)) (nomark _)))))), ?_⟩
    walk_at "rd"
    refine r_fldV rfl o.o A.cls A.h two_fst ?_
    walk_at "rd"
    refine r_lenL (SqL.of o.h) ?_
    walk_at "rd"
    refine r_lenL (SqL.of ha) ?_
    walk_at "rd"
    refine r_eq rfl ?_
    walk_at "rd"
    rw [List.length_map, List.length_map] at *
    rw [show decide (V.int (ms.length : Int) = V.int (ms'.length : Int)) = decide (ms.length = ms'.length) from decide_eq_decide.mpr ⟨fun h => Int.ofNat.inj (V.int.inj h), fun h => by rw [h]⟩]
    by_cases e : ms.length = ms'.length
    · refine ifT (decide_eq_true e) ?_
      rw [decide_eq_true e, Bool.true_and] at k
      walk_at "rd"
      refine r_fldV rfl o.o A.cls A.w (two_snd (by decide +kernel)) ?_
      walk_at "rd"
      refine r_lenL (SqL.of o.w) ?_
      walk_at "rd"
      refine r_lenL (SqL.of hb) ?_
      walk_at "rd"
      refine r_eq rfl ?_
      rw [List.length_map, List.length_map]
      rw [show decide (V.int (ns.length : Int) = V.int (ns'.length : Int)) = decide (ns.length = ns'.length) from decide_eq_decide.mpr ⟨fun h => Int.ofNat.inj (V.int.inj h), fun h => by rw [h]⟩]
      exact k
    · refine ifF (decide_eq_false e) ?_
      rw [decide_eq_false e, Bool.false_and] at k
      exact k
theorem sclEq : FnScope ["self", "other"] ["self", "other"] (defScope slEq) := ⟨rfl, rfl, rfl, by decide +kernel, rfl, by decide +kernel, by decide +kernel⟩
theorem ok_amEq (F : Fun K "__eq__" "Amounts.__eq__" slEq f fd) (T : Bt mg) (A : AmC K C) (O : OwnC K C) (gA : mg "Amounts" = some (.ref C)) : FnOk P w K mg base CX0 1 f fd ["self", "other"] (spAmEq C) := by
  refine F.ok sclEq (fun vs H Q E h => ?_) (fun cdv A' outer s H vs Q E hr h => ?_)
  · obtain ⟨x, dx, p, q, y, dy, r, s, ms, ns, ms', ns', rfl, _⟩ := h
    rfl
  · obtain ⟨x, dx, p, q, y, dy, r, s, ms, ns, ms', ns', rfl, o, o', k⟩ := h
    refine ⟨_, (pss_one (ps_ret (pe_and (pe_callB call_isi (by rfl) T.isinstance (by decide +kernel) (pa_cons (pv 1) (pa_cons (pe_glob (v := .ref C) (by rfl) gA rfl) pa_nil)))
      (pe_and (pe_cmpR (op_eqD hr.units) (pe_fld (pv 0) rfl) (pe_fld (pv 1) rfl) (nomark _)) (pe_one (pe_cmpR (op_eqD hr.units) (pe_fld (pv 0) rfl) (pe_fld (pv 1) rfl) (nomark _))))))), ?_⟩
    walk_at "rd"
    refine r_isiSelf O o'.o ?_
    walk_at "rd"
    refine r_fldV rfl o.o A.cls A.h two_fst ?_
    refine r_fldV rfl o'.o A.cls A.h two_fst ?_
    refine r_eqL (SqL.of o.h) (SqL.of o'.h) ?_
    walk_at "rd"
    by_cases e : ms = ms'
    · refine ifT (decide_eq_true e) ?_
      rw [decide_eq_true e, Bool.true_and] at k
      walk_at "rd"
      refine r_fldV rfl o.o A.cls A.w (two_snd (by decide +kernel)) ?_
      refine r_fldV rfl o'.o A.cls A.w (two_snd (by decide +kernel)) ?_
      exact r_eqL (SqL.of o.w) (SqL.of o'.w) k
    · refine ifF (decide_eq_false e) ?_
      rw [decide_eq_false e, Bool.false_and] at k
      exact k
/-- new amounts -/
theorem mk_am {H1 : Hp} {x dx a b : Addr} {ms ns : List Int} {Q : VK} {E : XK} (nx : H1 x = none) (nd : H1 dx = none) (ne : dx ≠ x) (ha : H1 a = some (.lst (ms.map V.int))) (hb : H1 b = some (.lst (ns.map V.int))) (gm : Gd ms) (gn : Gd ns)
    (k : ∀ (H' : Hp) (p q : Addr), H1 p = none → H1 q = none → p ≠ q → AmX C H' x dx p q ms ns → Same H1 H' → Q .non H') : spAmI C [.ref x, .ref a, .ref b] (upd (upd H1 dx (.own x)) x (.ins C dx [])) Q E := by
  have st : ∀ c o, H1 c = some o → c ≠ x ∧ (upd (upd H1 dx (.own x)) x (.ins C dx [])) c = some o := fun c o e => by
    have c1 : c ≠ x := fun z => by rw [z, nx] at e; cases e
    have c2 : c ≠ dx := fun z => by rw [z, nd] at e; cases e
    exact ⟨c1, by rw [upd_ne c1, upd_ne c2]; exact e⟩
  have fr : ∀ p, (upd (upd H1 dx (.own x)) x (.ins C dx [])) p = none → H1 p = none := fun p e => by
    have c1 : p ≠ x := fun z => by rw [z, upd_same] at e; cases e
    have c2 : p ≠ dx := fun z => by rw [z, upd_ne ne, upd_same] at e; cases e
    rw [upd_ne c1, upd_ne c2] at e
    exact e
  refine ⟨x, dx, a, b, ms, ns, rfl, upd_same, by rw [upd_ne ne, upd_same], ne, (st _ _ ha).2, (st _ _ hb).2, gm, gn, fun H' p q hp hq hpq o f => k H' p q (fr _ hp) (fr _ hq) hpq o fun c u e => ?_⟩
  exact f c u (st _ _ e).1 (st _ _ e).2
theorem zip_out {ms ns : List Int} (h : ms.length = ns.length) : (List.range ms.length).map (fun i => V.int (ms.getD i 0 + ns.getD i 0)) = (List.zipWith (· + ·) ms ns).map V.int := by
  apply List.ext_getElem
  · simp [h]
  · intro i h1 h2
    have a : i < ms.length := by simpa using h1
    have b : i < ns.length := by omega
    simp [a, b]
theorem gd_zip {ms ns : List Int} (h : ms.length = ns.length) (a : Gd ms) (b : Gd ns) : Gd (List.zipWith (· + ·) ms ns) := by
  refine ⟨by have := a.1; simp; omega, by have := a.2.1; simp; omega, fun m hm => ?_⟩
  obtain ⟨i, hi, rfl⟩ := List.getElem_of_mem hm
  simp only [List.getElem_zipWith]
  have x := a.2.2 _ (List.getElem_mem (l := ms) (n := i) (by simp at hi; omega))
  have y := b.2.2 _ (List.getElem_mem (l := ns) (n := i) (by simp at hi; omega))
  omega
theorem sclAdd : FnScope ["self", "other", "more", "one"] ["self", "other"] (defScope slAdd) := ⟨rfl, rfl, rfl, by decide +kernel, rfl, by decide +kernel, by decide +kernel⟩
theorem ok_amAdd {fl : Addr} {fdl : FuncData} (F : Fun K "__add__" "Amounts.__add__" slAdd f fd) (T : Bt mg) (A : AmC K C) (O : OwnC K C) (gA : mg "Amounts" = some (.ref C)) (DA : Dk P w K mg base (L2.CX P w) "Amounts" 3 ["self", "stocks", "wishes"] (spAmI C) C)
    (mL : Meth K C "is_as_long" fl) (oL : FnOk P w K mg base CX0 1 fl fdl ["self", "held", "wished"] (spLong C)) (bL : Binds K fdl ["self", "held", "wished"] []) (EA : De P w K mg base "InvalidAmounts" 3 (spErr2 K 1 CE "word" "at") CE) :
    FnOk P w K mg base (L2.CX P w) 6 f fd ["self", "other"] (spAdd K C CE) := by
  refine F.okX sclAdd (fun vs H Q E h => ?_) (fun cdv A' outer s H vs Q E hr h => ?_)
  · obtain ⟨x, dx, p, q, ms, ns, y, rfl, _⟩ := h
    rfl
  · obtain ⟨x, dx, p, q, ms, ns, y, rfl, o, gm, gn, k⟩ := h
    refine ⟨_, (pss_cons (ps_if (PW.pt (pw_or (pt_not (pt_val (pe_callB call_isi (by rfl) T.isinstance (by decide +kernel) (pa_cons (pv 1) (pa_cons (pe_glob (v := .ref C) (by rfl) gA rfl) pa_nil)))))
        (pw_or1 (pt_not (pt_val (pe_meth (pv 0) A.cls mL oL (hr.mono (by decide)) bL .nil pass0 (pa_cons (pe_fld (pv 1) rfl) (pa_cons (pe_fld (pv 1) rfl) pa_nil))))))))
        (pss_one (ps_rse rfl (takes_of rfl rfl rfl rfl) EA hr (by decide) (pa_cons pe_str (pa_cons (pe_un un_neg pe_int) pa_nil)))) pss_nil)
      (pss_one (ps_ret (pe_dkL DA hr (by decide) (pa_cons (pe_lc (own := [("one", 3), ("more", 2)]) (g := gTup K 2 (gCons (gName 3) (gCons (gName 2) gNil))) rfl sclAdd.nd (pi_zip (by rfl) T.zip (pa_cons (pe_fld (pv 0) rfl) (pa_cons (pe_fld (pv 1) rfl) pa_nil))) (blkOk_by (own := [("one", 3), ("more", 2)]) (N := ["self", "other", "more", "one"]) (sc := defScope slAdd) (by decide +kernel)) (fun _ _ _ _ _ => pg_tup rfl (pgs_cons (pg_name (i := 3) sclAdd.nd rfl (Or.inl rfl)) (pgs_cons (pg_name (i := 2) sclAdd.nd rfl (Or.inl rfl)) pgs_nil))) (fun _ _ _ _ _ => pts_nil) (fun _ _ _ _ _ => (pe_op op_add (pv 3) (pv 2))))
        (pa_cons (pe_lc (own := [("one", 3), ("more", 2)]) (g := gTup K 2 (gCons (gName 3) (gCons (gName 2) gNil))) rfl sclAdd.nd (pi_zip (by rfl) T.zip (pa_cons (pe_fld (pv 0) rfl) (pa_cons (pe_fld (pv 1) rfl) pa_nil))) (blkOk_by (own := [("one", 3), ("more", 2)]) (N := ["self", "other", "more", "one"]) (sc := defScope slAdd) (by decide +kernel)) (fun _ _ _ _ _ => pg_tup rfl (pgs_cons (pg_name (i := 3) sclAdd.nd rfl (Or.inl rfl)) (pgs_cons (pg_name (i := 2) sclAdd.nd rfl (Or.inl rfl)) pgs_nil))) (fun _ _ _ _ _ => pts_nil) (fun _ _ _ _ _ => (pe_op op_add (pv 3) (pv 2)))) pa_nil)))))), ?_⟩
    walk_at "rd"
    rcases k with ⟨⟨t, ty, tm⟩, k⟩ | ⟨b, dy, r, t, ms', ns', rfl, o', gm', gn', k1, k2⟩
    · refine r_isiNo O ty tm ?_
      walk_at "rd"
      refine r_mkErr ?_
      walk_at "rd"
      refine r_err2 (σ := []) (.str _) (.str _) (.int _) (.int _) fun d u v H' s1 h1 h2 o1 o2 => ?_
      cases o1
      cases o2
      exact k d H' s1 h1 h2
    · refine r_isiSelf O o'.o ?_
      walk_at "rd"
      refine ⟨x, dx, _, rfl, o.o, two_no (by decide +kernel) (by decide +kernel), ?_⟩
      walk_at "rd"
      refine r_fldV rfl o'.o A.cls A.h two_fst ?_
      walk_at "rd"
      refine r_fldV rfl o'.o A.cls A.w (two_snd (by decide +kernel)) ?_
      walk_at "rd"
      refine ⟨x, dx, p, q, r, t, ms, ns, ms', ns', rfl, o, o'.h, o'.w, ?_⟩
      walk_at "rd"
      by_cases e : ms.length = ms'.length ∧ ns.length = ns'.length
      · have k := k1 e
        refine ifF (by simp [e.1, e.2]) ?_
        walk_at "rd"
        refine r_fldV rfl o.o A.cls A.h two_fst ?_
        walk_at "rd"
        refine r_fldV rfl o'.o A.cls A.h two_fst ?_
        walk_at "rd"
        refine ⟨p, r, _, _, rfl, SqL.of o.h, SqL.of o'.h, fun D1 n1 => lc_it (walk_zip (n := ms.length) (by simp [e.1])) (Out H D1 fun i => V.int (ms.getD i 0 + ms'.getD i 0)) (Out.start n1) (fun i H1 _ z => ⟨z.1.seq (SqL.of o.h), z.1.seq (SqL.of o'.h)⟩) ?_ ?_⟩
        · rintro i y H1 H2 hi z ⟨t', u, v, rfl, ht, rfl, e1, e2⟩
          obtain rfl := int_get e1
          obtain rfl := int_get e2
          refine r_gtup ⟨t', _, rfl, SqT.of upd_same, rfl, _, _, rfl, ?_⟩
          walk_at "rd"
          refine ⟨_, _, rfl, ?_⟩
          walk_at "rd"
          refine ⟨rfl, rfl, ?_⟩
          walk_at "rd"
          exact Out.more n1 z (Same.up (Same.refl _) ht) (Nat.lt_of_lt_of_le hi (Nat.le_trans gm.2.1 (by decide)))
        intro H1 z1
        walk_at "rd"
        refine r_fldV rfl (z1.1 _ _ o.o) A.cls A.w (two_snd (by decide +kernel)) ?_
        walk_at "rd"
        refine r_fldV rfl (z1.1 _ _ o'.o) A.cls A.w (two_snd (by decide +kernel)) ?_
        walk_at "rd"
        refine ⟨q, t, _, _, rfl, SqL.of (z1.1 _ _ o.w), SqL.of (z1.1 _ _ o'.w), fun D2 n2 => lc_it (walk_zip (n := ns.length) (by simp [e.2])) (Out H1 D2 fun i => V.int (ns.getD i 0 + ns'.getD i 0)) (Out.start n2) (fun i H1 _ z => ⟨z.1.seq (SqL.of (z1.1 _ _ o.w)), z.1.seq (SqL.of (z1.1 _ _ o'.w))⟩) ?_ ?_⟩
        · rintro i y H1 H2 hi z ⟨t', u, v, rfl, ht, rfl, e1, e2⟩
          obtain rfl := int_get e1
          obtain rfl := int_get e2
          refine r_gtup ⟨t', _, rfl, SqT.of upd_same, rfl, _, _, rfl, ?_⟩
          walk_at "rd"
          refine ⟨_, _, rfl, ?_⟩
          walk_at "rd"
          refine ⟨rfl, rfl, ?_⟩
          walk_at "rd"
          exact Out.more n2 z (Same.up (Same.refl _) ht) (Nat.lt_of_lt_of_le hi (Nat.le_trans gn.2.1 (by decide)))
        intro H2 z2
        walk_at "rd"
        intro x2 dx2 nx nd ne
        have s2 : Same H H2 := z1.1.trans z2.1
        have l1 : H2 D1 = some (.lst ((List.zipWith (· + ·) ms ms').map V.int)) := by rw [← zip_out e.1]; exact z2.1 _ _ z1.2
        have l2 : H2 D2 = some (.lst ((List.zipWith (· + ·) ns ns').map V.int)) := by rw [← zip_out e.2]; exact z2.2
        exact mk_am nx nd ne l1 l2 (gd_zip e.1 gm gm') (gd_zip e.2 gn gn') fun H' p' q' _ _ _ o2 s3 => ⟨rfl, k _ _ _ _ _ o2 (s2.trans s3)⟩
      · have k := k2 e
        refine ifT (by rw [← Bool.decide_and, decide_eq_false e]; rfl) ?_
        walk_at "rd"
        refine r_mkErr ?_
        walk_at "rd"
        refine r_err2 (σ := []) (.str _) (.str _) (.int _) (.int _) fun d u v H' s1 h1 h2 o1 o2 => ?_
        cases o1
        cases o2
        exact k d H' s1 h1 h2
end
section
variable {P : Program} {w : World} {K : PySem.W.Frag} {mg : Str → Option Value} {base : Heap} {C CE CB f : Addr} {fd : FuncData}
theorem sm_mul {a b : Int} (h : Sm a) (g : Sm b) : CMulW a b := by
  have l : ∀ x : Int, Sm x → x.natAbs.log2 < 200 := fun x hx => by
    by_cases e : x.natAbs = 0
    · rw [e]; decide
    · exact (Nat.log2_lt e).mpr hx
  have := l a h
  have := l b g
  show a.natAbs.log2 + b.natAbs.log2 < 1000000
  omega
theorem map_out {ms : List Int} {k : Int} : (List.range ms.length).map (fun i => V.int (k * ms.getD i 0)) = (ms.map (k * ·)).map V.int := by
  apply List.ext_getElem
  · simp
  · intro i h1 h2
    have a : i < ms.length := by simpa using h1
    simp [a]
theorem gd_map {ms : List Int} {k : Int} (hk : 0 ≤ k) (a : Gd ms) : Gd (ms.map (k * ·)) := by
  refine ⟨by have := a.1; simpa using this, by have := a.2.1; simpa using this, fun m hm => ?_⟩
  obtain ⟨x, hx, rfl⟩ := List.mem_map.mp hm
  exact Int.mul_nonneg hk (a.2.2 x hx)
theorem getD_mem {ms : List Int} {i : Nat} (h : i < ms.length) : ms.getD i 0 ∈ ms := by
  rw [List.getD_eq_getElem?_getD, List.getElem?_eq_getElem h]
  exact List.getElem_mem h
theorem sclMul : FnScope ["self", "other", "entry"] ["self", "other"] (defScope slMul) := ⟨rfl, rfl, rfl, by decide +kernel, rfl, by decide +kernel, by decide +kernel⟩
theorem ok_amMul (F : Fun K "__mul__" "Amounts.__mul__" slMul f fd) (T : Bt mg) (A : AmC K C) (DI : Df P w K mg base CX0 "is_integer" 1 ["value"] spIsInt) (DA : Dk P w K mg base (L2.CX P w) "Amounts" 3 ["self", "stocks", "wishes"] (spAmI C) C)
    (EB : De P w K mg base "InvalidBound" 3 (spErr1 K 1 CB "name") CB) : FnOk P w K mg base (L2.CX P w) 6 f fd ["self", "other"] (spMul C CB) := by
  refine F.okX sclMul (fun vs H Q E h => ?_) (fun cdv A' outer s H vs Q E hr h => ?_)
  · obtain ⟨x, dx, p, q, ms, ns, c, v, rfl, _⟩ := h
    rfl
  · obtain ⟨x, dx, p, q, ms, ns, c, v, rfl, o, gm, gn, sm, hv, k1, k2⟩ := h
    refine ⟨_, (pss_cons (ps_if (PW.pt (pw_or (pt_not (pt_val (pe_df DI hr (by decide) (pa_cons (pv 1) pa_nil)))) (pw_or1 (pt_cmpR op_lt (pv 1) pe_int (nomark _))))) (pss_one (ps_rse rfl (takes_of rfl rfl rfl rfl) EB hr (by decide) (pa_cons pe_str pa_nil))) pss_nil)
      (pss_one (ps_ret (pe_dkL DA hr (by decide) (pa_cons (pe_lc (own := [("entry", 2)]) (g := gName 2) rfl sclMul.nd (pi_list (pe_fld (pv 0) rfl)) (blkOk_by (own := [("entry", 2)]) (N := ["self", "other", "entry"]) (sc := defScope slMul) (by decide +kernel)) (fun _ _ _ _ _ => pg_name (i := 2) sclMul.nd rfl (Or.inl rfl)) (fun _ _ _ _ _ => pts_nil) (fun _ _ _ _ _ => (pe_op op_mulW (pv 1) (pv 2))))
        (pa_cons (pe_lc (own := [("entry", 2)]) (g := gName 2) rfl sclMul.nd (pi_list (pe_fld (pv 0) rfl)) (blkOk_by (own := [("entry", 2)]) (N := ["self", "other", "entry"]) (sc := defScope slMul) (by decide +kernel)) (fun _ _ _ _ _ => pg_name (i := 2) sclMul.nd rfl (Or.inl rfl)) (fun _ _ _ _ _ => pts_nil) (fun _ _ _ _ _ => (pe_op op_mulW (pv 1) (pv 2)))) pa_nil)))))), ?_⟩
    walk_at "rd"
    refine ⟨c, v, rfl, hv, ?_⟩
    walk_at "rd"
    by_cases hw : whole v = true
    · obtain ⟨i, rfl⟩ := whole_int hw
      refine ifF (by rw [hw]; rfl) ?_
      walk_at "rd"
      by_cases hi : i < 0
      · refine ifT (decide_eq_true hi) ?_
        walk_at "rd"
        refine r_mkErr ?_
        walk_at "rd"
        refine r_err1 (σ := []) (.str _) (.str _) fun d v' H' s1 h1 h2 o1 => ?_
        cases o1
        exact k2 (fun ⟨j, e, h0⟩ => by cases e; omega) d H' s1 h1 h2
      · refine ifF (decide_eq_false hi) ?_
        obtain ⟨si, k⟩ := k1 i rfl (by omega)
        walk_at "rd"
        refine r_fldV rfl o.o A.cls A.h two_fst ?_
        refine ⟨p, rfl, ⟨_, SqL.of o.h⟩, fun D1 n1 => lc_it walk_list (Out H D1 fun j => V.int (i * ms.getD j 0)) (Out.start n1) (fun j H1 _ z => z.1.seq (SqL.of o.h)) ?_ ?_⟩
        · rintro j y H1 H2 hj z ⟨rfl, e1⟩
          obtain rfl := int_get e1
          rw [List.length_map] at hj
          walk_at "rd"
          refine ⟨rfl, ?_⟩
          walk_at "rd"
          refine r_I (sm_mul si (sm _ (List.mem_append_left _ (getD_mem hj)))) ?_
          exact Out.more n1 z (Same.refl _) (Nat.lt_of_lt_of_le hj (Nat.le_trans gm.2.1 (by decide)))
        · intro H1 z1
          rw [List.length_map, Out, map_out] at z1
          walk_at "rd"
          refine r_fldV rfl (z1.1 _ _ o.o) A.cls A.w (two_snd (by decide +kernel)) ?_
          refine ⟨q, rfl, ⟨_, SqL.of (z1.1 _ _ o.w)⟩, fun D2 n2 => lc_it walk_list (Out H1 D2 fun j => V.int (i * ns.getD j 0)) (Out.start n2) (fun j H1 _ z => z.1.seq (SqL.of (z1.1 _ _ o.w))) ?_ ?_⟩
          · rintro j y H1 H2 hj z ⟨rfl, e1⟩
            obtain rfl := int_get e1
            rw [List.length_map] at hj
            walk_at "rd"
            refine ⟨rfl, ?_⟩
            walk_at "rd"
            refine r_I (sm_mul si (sm _ (List.mem_append_right _ (getD_mem hj)))) ?_
            exact Out.more n2 z (Same.refl _) (Nat.lt_of_lt_of_le hj (Nat.le_trans gn.2.1 (by decide)))
          · intro H2 z2
            rw [List.length_map, Out, map_out] at z2
            walk_at "rd"
            intro x2 dx2 nx nd ne
            exact mk_am nx nd ne (z2.1 _ _ z1.2) z2.2 (gd_map (by omega) gm) (gd_map (by omega) gn) fun H' p' q' _ _ _ o2 s3 => ⟨rfl, k _ _ _ _ _ o2 ((z1.1.trans z2.1).trans s3)⟩
    · refine ifT (by rw [Bool.eq_false_iff.mpr hw]; rfl) ?_
      walk_at "rd"
      refine r_mkErr ?_
      walk_at "rd"
      refine r_err1 (σ := []) (.str _) (.str _) fun d v' H' s1 h1 h2 o1 => ?_
      cases o1
      exact k2 (fun ⟨j, e, h0⟩ => hw (by rw [e]; rfl)) d H' s1 h1 h2
end
section
variable {P : Program} {w : World} {K : PySem.W.Frag} {mg : Str → Option Value} {base : Heap} {C CE CB f : Addr} {fd : FuncData}
def spRmul (C CB : Addr) : Sp := fun vs H Q E => (∃ x v, vs = [x, v] ∧ Plain1 v) ∧ spMul C CB vs H Q E
theorem sclRmul : FnScope ["self", "other"] ["self", "other"] (defScope slRmul) := ⟨rfl, rfl, rfl, by decide +kernel, rfl, by decide +kernel, by decide +kernel⟩
theorem mul_name : PySem.dunder Operator.Mult.info.2 = ("__mul__" : Str) := by decide +kernel
theorem ok_amRmul {fm : Addr} {fdm : FuncData} (F : Fun K "__rmul__" "Amounts.__rmul__" slRmul f fd) (O : OwnC K C) (B : BinC K C Operator.Mult.info.2 ["NoneType", "int", "bool", "str"]) (mM : Meth K C "__mul__" fm)
    (oM : FnOk P w K mg base (L2.CX P w) 6 fm fdm ["self", "other"] (spMul C CB)) (bM : Binds K fdm ["self", "other"] []) : FnOk P w K mg base (L2.CX P w) 8 f fd ["self", "other"] (spRmul C CB) := by
  refine F.okX sclRmul (fun vs H Q E h => ?_) (fun cdv A' outer s H vs Q E hr h => ?_)
  · obtain ⟨-, x, dx, p, q, ms, ns, c, v, rfl, _⟩ := h
    rfl
  · obtain ⟨⟨x', v', e, pv1⟩, x, dx, p, q, ms, ns, c, v, rfl, o, h⟩ := h
    cases e
    refine ⟨_, (pss_one (ps_ret (pe_binOwn (op := .Mult) (E := WE fun cls d _ H => E cls d H) ⟨fm, fdm, _, mul_name ▸ mM, oM, bM⟩ B.sf B.rc (hr.mono (by decide)) (fun σ => passAt (takes_of rfl rfl rfl rfl) σ) (pv 0) (pv 1)))), ?_⟩
    walk_at "rd"
    refine r_op2 ?_
    walk_at "rd"
    obtain ⟨t, ty, m⟩ := Plain1.ty (K := K) (H := H) pv1
    refine r_ownB o.o (B.other O ty m (List.mem_append_left ["list", "tuple", "dict"] m)) ?_
    exact ⟨x, dx, p, q, ms, ns, c, _, rfl, o, h⟩
end
end Pk
set_option Elab.async false
set_option linter.all false
set_option maxRecDepth 100000
set_option maxHeartbeats 4000000
namespace Pk
open PySem L2
local macro_rules | `(tactic| walk_at "rd") => `(tactic| repeat (first
  | with_reducible refine r_seq ?_ | with_reducible refine r_nxt ?_ | with_reducible refine r_asg ?_ | with_reducible refine r_to ?_ | with_reducible refine r_ret ?_ | with_reducible refine r_for ?_ | with_reducible refine r_lc ?_ | with_reducible refine r_rng1 ?_ | with_reducible refine r_list ?_ | with_reducible refine r_tupI ?_ | with_reducible refine r_drop ?_ | with_reducible refine r_ifs ?_
  | with_reducible refine r_op ?_ | with_reducible refine r_c ?_ | with_reducible refine r_var rfl ?_ | with_reducible refine r_var (by assumption) ?_ | with_reducible refine r_I0 ?_ | with_reducible refine r_un ?_ | with_reducible refine r_U ?_ | with_reducible refine r_make ?_ | with_reducible refine r_sub ?_
  | with_reducible refine r_nil ?_ | with_reducible refine r_cons ?_ | with_reducible refine r_cb ?_ | with_reducible refine r_sl ?_ | with_reducible refine r_noP ?_ | with_reducible refine r_part ?_ | with_reducible refine r_isI ?_ | with_reducible refine r_lst ?_ | with_reducible refine r_tup ?_ | with_reducible refine r_call ?_ | with_reducible refine r_callS ?_ | with_reducible refine r_sFldU ?_ | with_reducible refine r_chain ?_ | with_reducible refine r_enum ?_ | with_reducible refine r_zip ?_ | with_reducible refine r_gtup ?_ | with_reducible refine r_methU ?_
  | with_reducible refine r_test ?_ | with_reducible refine r_B ?_ | with_reducible refine r_and ?_ | with_reducible refine r_or ?_ | with_reducible refine r_not ?_ | with_reducible refine r_andV ?_ | with_reducible refine r_orV ?_ | with_reducible refine r_notV ?_ | with_reducible refine r_bl ?_ | with_reducible refine r_yes ?_ | with_reducible refine r_int ?_ | with_reducible refine r_is0 ?_ | with_reducible refine r_is1 ?_ | with_reducible refine iteT ?_ | with_reducible refine iteF ?_ | with_reducible refine ite_nF ?_ | with_reducible refine ite_nT ?_
  | with_reducible refine r_mod (by decide) ?_ | with_reducible refine r_div (by decide) (by decide) ?_ | with_reducible refine r_mulR (by decide) (by decide) ?_ | with_reducible refine r_mulL (by decide) (by decide) ?_ | with_reducible refine r_pow (by decide) (by decide) (by decide) ?_))
/-- a list of ints, none of the pool's -/
def LI (p : Addr) (H : Hp) (a : Addr) (ms : List Int) : Prop := a ≠ p ∧ H a = some (.lst (ms.map V.int))
theorem LI.keep {p a : Addr} {H H' : Hp} {ms : List Int} (l : LI p H a ms) (k : Keep p H H') : LI p H' a ms := ⟨l.1, k _ _ l.1 l.2⟩
theorem LI.same {p a : Addr} {H H' : Hp} {ms : List Int} (l : LI p H a ms) (k : Same H H') : LI p H' a ms := ⟨l.1, k _ _ l.2⟩
theorem PoolAt.off {H : Hp} {p c D : Addr} {ns : List Int} {o : HO} (h : PoolAt H p c ns) (n1 : D ≠ p) (n2 : D ≠ c) : PoolAt (upd H D o) p c ns := by
  obtain ⟨a, b, z, n, h0, hP, hC⟩ := h
  exact ⟨a, b, z, n, h0, by rw [upd_ne (Ne.symm n1)]; exact hP, by rw [upd_ne (Ne.symm n2)]; exact hC⟩
/-- amounts, none of the pool's -/
def AL (p C : Addr) (H : Hp) (x : Addr) (ms ns : List Int) : Prop := ∃ dx q r, AmX C H x dx q r ms ns ∧ x ≠ p ∧ q ≠ p ∧ r ≠ p
theorem AL.keep {p C x : Addr} {H H' : Hp} {ms ns : List Int} (l : AL p C H x ms ns) (k : Keep p H H') : AL p C H' x ms ns := by
  obtain ⟨dx, q, r, o, h1, h2, h3⟩ := l
  exact ⟨dx, q, r, ⟨k _ _ h1 o.o, k _ _ h2 o.h, k _ _ h3 o.w⟩, h1, h2, h3⟩
theorem AL.same {p C x : Addr} {H H' : Hp} {ms ns : List Int} (l : AL p C H x ms ns) (k : Same H H') : AL p C H' x ms ns := by
  obtain ⟨dx, q, r, o, h⟩ := l
  exact ⟨dx, q, r, ⟨k _ _ o.o, k _ _ o.h, k _ _ o.w⟩, h⟩
/-- drawn amounts -/
def Dr (ms : List Int) : Prop := ∀ m, m ∈ ms → 0 ≤ m ∧ m < 2 ^ 150
theorem Dr.sm {ms : List Int} (h : Dr ms) {m : Int} (hm : m ∈ ms) : Sm m := by
  have := h m hm
  show m.natAbs < 2 ^ 200
  omega
theorem Dr.gd {ms : List Int} (h : Dr ms) (h0 : 0 < ms.length) (h8 : ms.length ≤ 8) : Gd ms := ⟨h0, h8, fun m hm => (h m hm).1⟩
def spList : Sp := fun vs H Q _ => ∃ (p c : Addr) (ns : List Int) (k : Int), vs = [.ref p, .int k] ∧ PoolAt H p c ns ∧ 0 ≤ k ∧ k ≤ 8 ∧
  ∀ (a : Addr) (ms : List Int) (H' : Hp), Keep p H H' → PoolAt H' p c ns → LI p H' a ms → (ms.length : Int) = k → Dr ms → Q (.ref a) H'
abbrev slList : Stmt := top 18
section
variable {P : Program} {w : World} {K : PySem.W.Frag} {mg : Str → Option Value} {base : Heap} {C CE CB f : Addr} {fd : FuncData}
theorem sclList : FnScope ["_law_pool_here", "_law_many", "_law_k"] ["_law_pool_here", "_law_many"] (defScope slList) := ⟨rfl, rfl, rfl, by decide +kernel, rfl, by decide +kernel, by decide +kernel⟩
theorem ok_list (F : Fun K "_law_list" "_law_list" slList f fd) (T : Bt mg) (DN : Df P w K mg base CX0 "_law_number" 3 ["_law_pool_here", "_law_parts"] spNum) (DD : Df P w K mg base CX0 "_law_draw" 2 ["_law_pool_here", "_law_size"] spDraw) :
    FnOk P w K mg base CX0 5 f fd ["_law_pool_here", "_law_many"] spList := by
  refine F.ok sclList (fun vs H Q E h => ?_) (fun cdv A outer s H vs Q E hr h => ?_)
  · obtain ⟨p, c, ns, k, rfl, _⟩ := h
    rfl
  · obtain ⟨p, c, ns, k, rfl, hp, k0, k8, q⟩ := h
    refine ⟨_, (pss_one (ps_ret (pe_lc (own := [("_law_k", 2)]) (g := gName 2) rfl sclList.nd (pi_range1 rfl T.range (pa_cons (pv 1) pa_nil)) (blkOk_by (own := [("_law_k", 2)]) (N := ["_law_pool_here", "_law_many", "_law_k"]) (sc := defScope slList) (by decide +kernel)) (fun _ _ _ _ _ => pg_name (i := 2) sclList.nd rfl (Or.inl rfl)) (fun _ _ _ _ _ => pts_nil) (fun _ _ _ _ _ => (pe_op op_add (pe_op op_mul (pe_df DN hr (by decide) (pa_cons (pv 0) (pa_cons pe_int pa_nil))) (pe_df DD hr (by decide) (pa_cons (pv 0) (pa_cons pe_int pa_nil)))) (pe_df DD hr (by decide) (pa_cons (pv 0) (pa_cons pe_int pa_nil)))))))), ?_⟩
    walk_at "rd"
    refine ⟨k, rfl, by omega, by omega, fun D nD => ?_⟩
    have pD : D ≠ p := hp.apart nD
    have cD : D ≠ c := hp.apartC nD
    refine lc_it walk_range (fun i H' => Keep p H H' ∧ PoolAt H' p c ns ∧ ∃ ms, H' D = some (.lst (ms.map V.int)) ∧ ms.length = i ∧ Dr ms) ⟨?_, hp.new nD, [], upd_same, rfl, fun m hm => by cases hm⟩ (fun _ _ _ _ => trivial) ?_ ?_
    · exact fun a o _ e => (Same.up (Same.refl H) nD) _ _ e
    · rintro i y H1 H2 hi ⟨kp, pl, ms, hD, hl, hm⟩ ⟨rfl, rfl⟩
      walk_at "rd"
      refine ⟨rfl, ?_⟩
      walk_at "rd"
      refine ⟨p, c, ns, 5, rfl, pl, by decide, by decide, fun r1 H3 g0 g1 k1 pl1 => ?_⟩
      walk_at "rd"
      refine ⟨p, c, ns, 2, rfl, pl1, by decide, by decide, fun r2 H4 g2 g3 k2 pl2 => ?_⟩
      refine r_mulR (by omega) (by omega) ?_
      walk_at "rd"
      refine ⟨p, c, ns, 4, rfl, pl2, by decide, by decide, fun r3 H5 g4 g5 k3 pl3 => ?_⟩
      walk_at "rd"
      have kk := (k1.trans k2).trans k3
      have hb : 0 ≤ r1 * r2 + r3 ∧ r1 * r2 + r3 < 2 ^ 150 := by
        have e : (1000000 : Int) ^ (5 : Int).toNat = 1000000000000000000000000000000 := by decide
        rw [e] at g1
        obtain rfl | rfl : r2 = 0 ∨ r2 = 1 := by omega
        · rw [Int.mul_zero]; omega
        · rw [Int.mul_one]; omega
      refine ⟨_, kk _ _ pD hD, by rw [List.length_map, hl]; exact Nat.lt_of_lt_of_le (by omega : i < 8) (by decide), ?_, ?_, ms ++ [r1 * r2 + r3], ?_, ?_, ?_⟩
      · intro a o ha e
        have n : a ≠ D := fun z => by rw [z, nD] at e; cases e
        rw [upd_ne n]
        exact kk _ _ ha (kp _ _ ha e)
      · exact pl3.off pD cD
      · rw [upd_same, List.map_append]
        rfl
      · rw [List.length_append, hl]
        rfl
      · intro m hm'
        rcases List.mem_append.mp hm' with z | z
        · exact hm m z
        · rw [List.mem_singleton.mp z]
          exact hb
    · rintro H1 ⟨kp, pl, ms, hD, hl, hm⟩
      exact q D ms H1 kp pl ⟨pD, hD⟩ (by omega) hm
end
end Pk
set_option Elab.async false
set_option linter.all false
set_option maxRecDepth 100000
set_option maxHeartbeats 4000000
namespace Pk
open PySem L2
local macro_rules | `(tactic| walk_at "rd") => `(tactic| repeat (first
  | with_reducible refine r_seq ?_ | with_reducible refine r_nxt ?_ | with_reducible refine r_asg ?_ | with_reducible refine r_to ?_ | with_reducible refine r_ret ?_ | with_reducible refine r_for ?_ | with_reducible refine r_lc ?_ | with_reducible refine r_rng1 ?_ | with_reducible refine r_list ?_ | with_reducible refine r_tupI ?_ | with_reducible refine r_drop ?_ | with_reducible refine r_ifs ?_
  | with_reducible refine r_op ?_ | with_reducible refine r_c ?_ | with_reducible refine r_var rfl ?_ | with_reducible refine r_var (by assumption) ?_ | with_reducible refine r_I0 ?_ | with_reducible refine r_un ?_ | with_reducible refine r_U ?_ | with_reducible refine r_make ?_ | with_reducible refine r_sub ?_
  | with_reducible refine r_nil ?_ | with_reducible refine r_cons ?_ | with_reducible refine r_cb ?_ | with_reducible refine r_sl ?_ | with_reducible refine r_noP ?_ | with_reducible refine r_part ?_ | with_reducible refine r_isI ?_ | with_reducible refine r_lst ?_ | with_reducible refine r_tup ?_ | with_reducible refine r_call ?_ | with_reducible refine r_callS ?_ | with_reducible refine r_sFldU ?_ | with_reducible refine r_chain ?_ | with_reducible refine r_enum ?_ | with_reducible refine r_zip ?_ | with_reducible refine r_gtup ?_ | with_reducible refine r_methU ?_
  | with_reducible refine r_test ?_ | with_reducible refine r_B ?_ | with_reducible refine r_and ?_ | with_reducible refine r_or ?_ | with_reducible refine r_not ?_ | with_reducible refine r_andV ?_ | with_reducible refine r_orV ?_ | with_reducible refine r_notV ?_ | with_reducible refine r_bl ?_ | with_reducible refine r_yes ?_ | with_reducible refine r_int ?_ | with_reducible refine r_is0 ?_ | with_reducible refine r_is1 ?_ | with_reducible refine iteT ?_ | with_reducible refine iteF ?_ | with_reducible refine ite_nF ?_ | with_reducible refine ite_nT ?_
  | with_reducible refine r_mod (by decide) ?_ | with_reducible refine r_div (by decide) (by decide) ?_ | with_reducible refine r_mulR (by decide) (by decide) ?_ | with_reducible refine r_mulL (by decide) (by decide) ?_ | with_reducible refine r_pow (by decide) (by decide) (by decide) ?_))
theorem AmX.same {C : Addr} {H H' : Hp} {x dx p q : Addr} {ms ns : List Int} (a : AmX C H x dx p q ms ns) (s : Same H H') : AmX C H' x dx p q ms ns := ⟨s _ _ a.o, s _ _ a.h, s _ _ a.w⟩
/-- what is told of a sum -/
def refD : PyData := .tuple [.str "refused", .str "size", .int (-1)]
def sumD (ms ns ms' ns' : List Int) : PyData := if ms.length = ms'.length ∧ ns.length = ns'.length then
  .tuple [.str "told", .list ((List.zipWith (· + ·) ms ms').map PyData.int), .list ((List.zipWith (· + ·) ns ns').map PyData.int), .int ((List.zipWith (· + ·) ms ms').sum - (List.zipWith (· + ·) ns ns').sum)] else refD
def spAdded (K : PySem.W.Frag) (C : Addr) : Sp := fun vs H Q _ => ∃ (x dx p q : Addr) (ms ns : List Int) (y : V), vs = [.ref x, y] ∧ AmX C H x dx p q ms ns ∧ Gd ms ∧ Gd ns ∧
  ((OtherB K C H "add" y ∧ NoAm K H y ∧ ∀ (v : V) (H' : Hp), Same H H' → Dp K H' v refD → Q v H') ∨
   (∃ (b dy r s : Addr) (ms' ns' : List Int), y = .ref b ∧ AmX C H b dy r s ms' ns' ∧ Gd ms' ∧ Gd ns' ∧ ∀ (v : V) (H' : Hp), Same H H' → Dp K H' v (sumD ms ns ms' ns') → Q v H'))
abbrev slAdded : Stmt := top 19
/-- the methods, one by one -/
structure AmM (P : Program) (w : World) (K : PySem.W.Frag) (mg : Str → Option Value) (base : Heap) (C CE CB : Addr) : Prop where
  A : AmC K C
  O : OwnC K C
  stocks : ∃ f fd, Meth K C "stocks" f ∧ FnOk P w K mg base CX0 1 f fd ["self"] (spGet C fun ms _ => ms) ∧ Binds K fd ["self"] []
  wishes : ∃ f fd, Meth K C "wishes" f ∧ FnOk P w K mg base CX0 1 f fd ["self"] (spGet C fun _ ns => ns) ∧ Binds K fd ["self"] []
  over : ∃ f fd, Meth K C "over" f ∧ FnOk P w K mg base CX0 1 f fd ["self"] (spAmOver C) ∧ Binds K fd ["self"] []
  eq : ∃ f fd, Meth K C "__eq__" f ∧ FnOk P w K mg base CX0 1 f fd ["self", "other"] (spAmEq C) ∧ Binds K fd ["self", "other"] []
  add : ∃ f fd, Meth K C (PySem.dunder Operator.Add.info.2) f ∧ FnOk P w K mg base (L2.CX P w) 6 f fd ["self", "other"] (spAdd K C CE) ∧ Binds K fd ["self", "other"] []
  mul : ∃ f fd, Meth K C (PySem.dunder Operator.Mult.info.2) f ∧ FnOk P w K mg base (L2.CX P w) 6 f fd ["self", "other"] (spMul C CB) ∧ Binds K fd ["self", "other"] []
  rmul : ∃ f fd, Meth K C "__rmul__" f ∧ FnOk P w K mg base (L2.CX P w) 8 f fd ["self", "other"] (spRmul C CB) ∧ Binds K fd ["self", "other"] []
  bA : BinC K C Operator.Add.info.2 ["NoneType", "int", "list", "tuple"]
  bM : BinC K C Operator.Mult.info.2 ["NoneType", "int", "bool", "str"]
  up : PySem.W.subIn K (.ref C) (.type "int") = some false ∧ PySem.W.subIn K (.ref C) (.type "bool") = some false ∧ PySem.W.subIn K (.ref C) (.type "str") = some false ∧ PySem.W.subIn K (.ref C) (.type "NoneType") = some false
  ne : PySem.W.findIn K (.ref C) "__ne__" = some (some (.builtin "object.__ne__"))
  made : Dk P w K mg base (L2.CX P w) "Amounts" 3 ["self", "stocks", "wishes"] (spAmI C) C
section
variable {P : Program} {w : World} {K : PySem.W.Frag} {mg : Str → Option Value} {base : Heap} {C CE CB f : Addr} {fd : FuncData}
theorem sclAdded : FnScope ["_law_amounts", "_law_other", "_law_made", "e"] ["_law_amounts", "_law_other"] (defScope slAdded) := ⟨rfl, rfl, rfl, by decide +kernel, rfl, by decide +kernel, by decide +kernel⟩
theorem ok_added (F : Fun K "_law_added" "_law_added" slAdded f fd) (M : AmM P w K mg base C CE CB) (EA : De P w K mg base "InvalidAmounts" 3 (spErr2 K 1 CE "word" "at") CE) (fw : PySem.W.findIn K (.ref CE) "word" = some none) (fa : PySem.W.findIn K (.ref CE) "at" = some none) :
    FnOk P w K mg base CX0 8 f fd ["_law_amounts", "_law_other"] (spAdded K C) := by
  obtain ⟨fI, EA⟩ := EA
  obtain ⟨fA, fdA, mA, oA, bA⟩ := M.add
  obtain ⟨fS, fdS, mS, oS, bS⟩ := M.stocks
  obtain ⟨fW, fdW, mW, oW, bW⟩ := M.wishes
  obtain ⟨fO, fdO, mO, oO, bO⟩ := M.over
  refine F.ok sclAdded (fun vs H Q E h => ?_) (fun cdv A outer s H vs Q E hr h => ?_)
  · obtain ⟨x, dx, p, q, ms, ns, y, rfl, _⟩ := h
    rfl
  · obtain ⟨x, dx, p, q, ms, ns, y, rfl, o, gm, gn, k⟩ := h
    have hr1 := hr.mono (show 1 ≤ 7 by decide)
    have hr6 := hr.mono (show 6 ≤ 7 by decide)
    refine ⟨_, (pss_one (ps_try_as (i := 3) (Wout := fun _ _ _ _ => False)
      (tb := fun W => tSeq (tAsg (tOp2 (rOwnB K C Operator.Add.info.2 (spAdd K C CE)) (WE W) (tVar 0) (tVar 1)) (gName 2)) (tRet (tTup (tCons (tC (.str "told")) (tCons (tMeth C "stocks" (spGet C fun ms _ => ms) [] E0 (tVar 2) tNil) (tCons (tMeth C "wishes" (spGet C fun _ ns => ns) [] E0 (tVar 2) tNil) (tCons (tMeth C "over" (spAmOver C) [] E0 (tVar 2) tNil) tNil)))))))
      (ts := fun a cls d => tRet (tTup (tCons (tC (.str "refused")) (tCons (tXf a cls d CE "word" (tVar 3)) (tCons (tXf a cls d CE "at" (tVar 3)) tNil)))))
      rfl rfl sclAdded.nd rfl rfl ⟨rfl, by decide, Or.inl EA.at_⟩ takes0
      (fun W pn xe tk _ => (pss_cons (ps_set (i := 2) sclAdded.nd rfl (Or.inl rfl) (pe_binOwn (op := .Add) (E := WE W) ⟨fA, fdA, _, mA, oA, bA⟩ M.bA.sf M.bA.rc hr6 (fun σ => passAt tk σ) (pv 0) (pv 1)))
        (pss_one (ps_ret (pe_tup (pa_cons pe_str (pa_cons (pe_meth0 (pv 2) M.A.cls mS oS hr1 bS .nil pass0) (pa_cons (pe_meth0 (pv 2) M.A.cls mW oW hr1 bW .nil pass0) (pa_cons (pe_meth0 (pv 2) M.A.cls mO oO hr1 bO .nil pass0) pa_nil)))))))))
      (fun a oe cls d pn hz hf => (pss_one (ps_ret (pe_tup (pa_cons pe_str (pa_cons (pe_xf EA.xf fw hz hf (pv 3)) (pa_cons (pe_xf EA.xf fa hz hf (pv 3)) pa_nil))))))))), ?_⟩
    walk_at "rd"
    refine r_op2 ?_
    walk_at "rd"
    rcases k with ⟨ob, nam, k⟩ | ⟨b, dy, r, t, ms', ns', rfl, o', gm', gn', k⟩
    · refine r_ownB o.o ob ?_
      refine ⟨x, dx, p, q, ms, ns, y, rfl, o, gm, gn, .inl ⟨nam, fun d H' s1 h1 h2 => ?_⟩⟩
      refine ⟨true, EA.xm, fun _ a0 _ => ?_, fun q => Bool.noConfusion q⟩
      refine r_ret ?_
      walk_at "rd"
      refine ⟨_, rfl, rfl, rfl, d, _, _, rfl, h2, look2 _ _ _ _ (by decide +kernel), ?_⟩
      walk_at "rd"
      refine ⟨_, rfl, rfl, rfl, d, _, _, rfl, h2, look2' _ _ _ _, ?_⟩
      walk_at "rd"
      refine ⟨by show 3 ≤ sizeLine; decide, fun u hu => ?_⟩
      exact k _ _ (Same.up s1 hu) (.tup (SqT.of upd_same) (.cons (.str _) (.cons (.str _) (.cons (.int _) .nil))))
    · refine r_ownB o.o (.inl ⟨b, dy, _, rfl, o'.o⟩) ?_
      refine ⟨x, dx, p, q, ms, ns, _, rfl, o, gm, gn, .inr ⟨b, dy, r, t, ms', ns', rfl, o', gm', gn', fun e z dz t' u' H' oz s1 => ?_, fun e d H' s1 h1 h2 => ?_⟩⟩
      · walk_at "rd"
        refine ⟨z, dz, _, rfl, oz.o, two_no (by decide +kernel) (by decide +kernel), ?_⟩
        walk_at "rd"
        refine ⟨z, dz, t', u', _, _, rfl, oz, fun r1 hr1 => ?_⟩
        have oz1 := oz.same (Same.up (o := .lst ((List.zipWith (· + ·) ms ms').map V.int)) (Same.refl H') hr1)
        walk_at "rd"
        refine ⟨z, dz, _, rfl, oz1.o, two_no (by decide +kernel) (by decide +kernel), ?_⟩
        walk_at "rd"
        refine ⟨z, dz, t', u', _, _, rfl, oz1, fun r2 hr2 => ?_⟩
        have oz2 := oz1.same (Same.up (o := .lst ((List.zipWith (· + ·) ns ns').map V.int)) (Same.refl _) hr2)
        walk_at "rd"
        refine ⟨z, dz, _, rfl, oz2.o, two_no (by decide +kernel) (by decide +kernel), ?_⟩
        walk_at "rd"
        refine ⟨z, dz, t', u', _, _, rfl, oz2, ?_⟩
        walk_at "rd"
        refine ⟨by show 4 ≤ sizeLine; decide, fun u hu => ?_⟩
        have n1 : r1 ≠ r2 := fun z => by rw [← z, upd_same] at hr2; cases hr2
        have n2 : r2 ≠ u := fun z => by rw [← z, upd_same] at hu; cases hu
        have n3 : r1 ≠ u := fun z => by rw [← z, upd_ne n1, upd_same] at hu; cases hu
        refine k _ _ (Same.up (Same.up (Same.up s1 hr1) hr2) hu) ?_
        rw [sumD, if_pos e]
        exact .tup (SqT.of upd_same) (.cons (.str _) (.cons (Dp.ints (SqL.of (by rw [upd_ne n3, upd_ne n1, upd_same]))) (.cons (Dp.ints (SqL.of (by rw [upd_ne n2, upd_same]))) (.cons (.int _) .nil))))
      · refine ⟨true, EA.xm, fun _ a0 _ => ?_, fun q => Bool.noConfusion q⟩
        refine r_ret ?_
        walk_at "rd"
        refine ⟨_, rfl, rfl, rfl, d, _, _, rfl, h2, look2 _ _ _ _ (by decide +kernel), ?_⟩
        walk_at "rd"
        refine ⟨_, rfl, rfl, rfl, d, _, _, rfl, h2, look2' _ _ _ _, ?_⟩
        walk_at "rd"
        refine ⟨by show 3 ≤ sizeLine; decide, fun u hu => ?_⟩
        refine k _ _ (Same.up s1 hu) ?_
        rw [sumD, if_neg e]
        exact .tup (SqT.of upd_same) (.cons (.str _) (.cons (.str _) (.cons (.int _) .nil)))
end
end Pk
set_option Elab.async false
set_option linter.all false
set_option maxRecDepth 100000
set_option maxHeartbeats 4000000
namespace Pk
open PySem L2
local macro_rules | `(tactic| walk_at "rd") => `(tactic| repeat (first
  | with_reducible refine r_seq ?_ | with_reducible refine r_nxt ?_ | with_reducible refine r_asg ?_ | with_reducible refine r_to ?_ | with_reducible refine r_ret ?_ | with_reducible refine r_for ?_ | with_reducible refine r_lc ?_ | with_reducible refine r_rng1 ?_ | with_reducible refine r_list ?_ | with_reducible refine r_tupI ?_ | with_reducible refine r_drop ?_ | with_reducible refine r_ifs ?_
  | with_reducible refine r_op ?_ | with_reducible refine r_c ?_ | with_reducible refine r_var rfl ?_ | with_reducible refine r_var (by assumption) ?_ | with_reducible refine r_I0 ?_ | with_reducible refine r_un ?_ | with_reducible refine r_U ?_ | with_reducible refine r_make ?_ | with_reducible refine r_sub ?_
  | with_reducible refine r_nil ?_ | with_reducible refine r_cons ?_ | with_reducible refine r_cb ?_ | with_reducible refine r_sl ?_ | with_reducible refine r_noP ?_ | with_reducible refine r_part ?_ | with_reducible refine r_isI ?_ | with_reducible refine r_lst ?_ | with_reducible refine r_tup ?_ | with_reducible refine r_call ?_ | with_reducible refine r_callS ?_ | with_reducible refine r_sFldU ?_ | with_reducible refine r_chain ?_ | with_reducible refine r_enum ?_ | with_reducible refine r_zip ?_ | with_reducible refine r_gtup ?_ | with_reducible refine r_methU ?_
  | with_reducible refine r_test ?_ | with_reducible refine r_B ?_ | with_reducible refine r_and ?_ | with_reducible refine r_or ?_ | with_reducible refine r_not ?_ | with_reducible refine r_andV ?_ | with_reducible refine r_orV ?_ | with_reducible refine r_notV ?_ | with_reducible refine r_bl ?_ | with_reducible refine r_yes ?_ | with_reducible refine r_int ?_ | with_reducible refine r_is0 ?_ | with_reducible refine r_is1 ?_ | with_reducible refine iteT ?_ | with_reducible refine iteF ?_ | with_reducible refine ite_nF ?_ | with_reducible refine ite_nT ?_
  | with_reducible refine r_mod (by decide) ?_ | with_reducible refine r_div (by decide) (by decide) ?_ | with_reducible refine r_mulR (by decide) (by decide) ?_ | with_reducible refine r_mulL (by decide) (by decide) ?_ | with_reducible refine r_pow (by decide) (by decide) (by decide) ?_))
def timesD (ms ns : List Int) (v : V) : PyData := match v with
  | .int k => if 0 ≤ k then .tuple [.str "told", .list ((ms.map (k * ·)).map PyData.int), .list ((ns.map (k * ·)).map PyData.int)] else .tuple [.str "refused", .str "times"]
  | _ => .tuple [.str "refused", .str "times"]
theorem timesD_no {ms ns : List Int} {v : V} (h : ¬ ∃ k : Int, v = .int k ∧ 0 ≤ k) : timesD ms ns v = .tuple [.str "refused", .str "times"] := by
  cases v with
  | int k => exact if_neg fun z => h ⟨k, rfl, z⟩
  | _ => rfl
theorem Plain1.iv {v : V} (h : Plain1 v) (c : Addr) (H : Hp) : IvH c H v := by
  rcases h with ⟨i, rfl⟩ | ⟨b, rfl⟩ | ⟨z, rfl⟩ | rfl
  · exact .int i
  · exact .bl b
  · exact .str z
  · exact .non
def spTimes (K : PySem.W.Frag) (C : Addr) : Sp := fun vs H Q _ => ∃ (x dx p q : Addr) (ms ns : List Int) (v : V) (l : Bool), vs = [.ref x, v, .bl l] ∧ AmX C H x dx p q ms ns ∧ Gd ms ∧ Gd ns ∧ (∀ m, m ∈ ms ++ ns → Sm m) ∧ Plain1 v ∧ (∀ k : Int, v = .int k → 0 ≤ k → Sm k) ∧
  ∀ (r : V) (H' : Hp), Same H H' → Dp K H' r (timesD ms ns v) → Q r H'
abbrev slTimes : Stmt := top 20
section
variable {P : Program} {w : World} {K : PySem.W.Frag} {mg : Str → Option Value} {base : Heap} {C CE CB f : Addr} {fd : FuncData}
theorem sclTimes : FnScope ["_law_amounts", "_law_times_here", "_law_left", "_law_made", "e"] ["_law_amounts", "_law_times_here", "_law_left"] (defScope slTimes) := ⟨rfl, rfl, rfl, by decide +kernel, rfl, by decide +kernel, by decide +kernel⟩
theorem ok_times (F : Fun K "_law_times" "_law_times" slTimes f fd) (M : AmM P w K mg base C CE CB) (EB : De P w K mg base "InvalidBound" 3 (spErr1 K 1 CB "name") CB) (fn : PySem.W.findIn K (.ref CB) "name" = some none) :
    FnOk P w K mg base CX0 10 f fd ["_law_amounts", "_law_times_here", "_law_left"] (spTimes K C) := by
  obtain ⟨fI, EB⟩ := EB
  obtain ⟨fM, fdM, mM, oM, bM⟩ := M.mul
  obtain ⟨fR, fdR, mR, oR, bR⟩ := M.rmul
  obtain ⟨fS, fdS, mS, oS, bS⟩ := M.stocks
  obtain ⟨fW, fdW, mW, oW, bW⟩ := M.wishes
  have g0 : PySem.W.findIn K (.ref C) "__mul__" = some (some (.ref fM)) := mul_name ▸ mM.at_
  refine F.ok sclTimes (fun vs H Q E h => ?_) (fun cdv A outer s H vs Q E hr h => ?_)
  · obtain ⟨x, dx, p, q, ms, ns, v, l, rfl, _⟩ := h
    rfl
  · obtain ⟨x, dx, p, q, ms, ns, v, l, rfl, o, gm, gn, sm, pl, sk, k⟩ := h
    have hr1 := hr.mono (show 1 ≤ 9 by decide)
    have hr6 := hr.mono (show 6 ≤ 9 by decide)
    have hr8 := hr.mono (show 8 ≤ 9 by decide)
    refine ⟨_, (pss_one (ps_try_as (i := 4) (Wout := fun _ _ _ _ => False)
      (tb := fun W => tSeq (tAsg (tOp2 (rOwnB K C Operator.Mult.info.2 (spMul C CB)) (WE W) (tVar 0) (tC (.int 1))) (gName 3))
        (tSeq (tIfS (tB (tVar 2)) (tAsg (tOp2 (rMulAny C (spRmul C CB)) (WE W) (tVar 1) (tVar 0)) (gName 3)) (tAsg (tOp2 (rOwnB K C Operator.Mult.info.2 (spMul C CB)) (WE W) (tVar 0) (tVar 1)) (gName 3)))
        (tRet (tTup (tCons (tC (.str "told")) (tCons (tMeth C "stocks" (spGet C fun ms _ => ms) [] E0 (tVar 3) tNil) (tCons (tMeth C "wishes" (spGet C fun _ ns => ns) [] E0 (tVar 3) tNil) tNil)))))))
      (ts := fun a cls d => tRet (tTup (tCons (tC (.str "refused")) (tCons (tXf a cls d CB "name" (tVar 4)) tNil))))
      rfl rfl sclTimes.nd rfl rfl ⟨rfl, by decide, Or.inl EB.at_⟩ takes0
      (fun W pn xe tk _ => (pss_cons (ps_set (i := 3) sclTimes.nd rfl (Or.inl rfl) (pe_binOwn (op := .Mult) (E := WE W) ⟨fM, fdM, _, mM, oM, bM⟩ M.bM.sf M.bM.rc hr6 (fun σ => passAt tk σ) (pv 0) pe_int))
        (pss_cons (ps_if (pt_val (pv 2)) (pss_one (ps_set (i := 3) sclTimes.nd rfl (Or.inl rfl) (pe_mulAny (E := WE W) rfl ⟨fR, fdR, _, mR, oR, bR⟩ M.bM.sf g0 M.up.1 M.up.2.1 M.up.2.2.1 M.up.2.2.2 hr8 (fun σ => passAt tk σ) (pv 1) (pv 0))))
          (pss_one (ps_set (i := 3) sclTimes.nd rfl (Or.inl rfl) (pe_binOwn (op := .Mult) (E := WE W) ⟨fM, fdM, _, mM, oM, bM⟩ M.bM.sf M.bM.rc hr6 (fun σ => passAt tk σ) (pv 0) (pv 1)))))
        (pss_one (ps_ret (pe_tup (pa_cons pe_str (pa_cons (pe_meth0 (pv 3) M.A.cls mS oS hr1 bS .nil pass0) (pa_cons (pe_meth0 (pv 3) M.A.cls mW oW hr1 bW .nil pass0) pa_nil)))))))))
      (fun a oe cls d pn hz hf => (pss_one (ps_ret (pe_tup (pa_cons pe_str (pa_cons (pe_xf EB.xf fn hz hf (pv 4)) pa_nil)))))))), ?_⟩
    walk_at "rd"
    refine r_op2 ?_
    walk_at "rd"
    refine r_ownB o.o (M.bM.other M.O (.base (.int 1)) (by simp) (by simp)) ?_
    refine ⟨x, dx, p, q, ms, ns, x, _, rfl, o, gm, gn, sm, .int 1, fun j e j0 => ?_, fun n => (n ⟨1, rfl, by decide⟩).elim⟩
    cases e
    refine ⟨by show (1 : Nat) < 2 ^ 200; decide, fun z1 dz1 t1 u1 H1 o1 s1 => ?_⟩
    walk_at "rd"
    have tell : ∀ (z dz t u : Addr) (H2 : Hp) (j : Int), v = .int j → 0 ≤ j → AmX C H2 z dz t u (ms.map (j * ·)) (ns.map (j * ·)) → Same H H2 →
        (tRet (tTup (tCons (tC (.str "told")) (tCons (tMeth C "stocks" (spGet C fun ms _ => ms) [] E0 (tVar 3) tNil) (tCons (tMeth C "wishes" (spGet C fun _ ns => ns) [] E0 (tVar 3) tNil) tNil))))) { nx := fun _ H' => Q .non H', rt := Q } [some (.ref x), some v, some (.bl l), some (.ref z), none] H2 := by
      rintro z dz t u H2 j rfl j0 oz s2
      walk_at "rd"
      refine ⟨z, dz, _, rfl, oz.o, two_no (by decide +kernel) (by decide +kernel), ?_⟩
      walk_at "rd"
      refine ⟨z, dz, t, u, _, _, rfl, oz, fun r1 hr1 => ?_⟩
      have oz1 := oz.same (Same.up (o := .lst ((ms.map (j * ·)).map V.int)) (Same.refl H2) hr1)
      walk_at "rd"
      refine ⟨z, dz, _, rfl, oz1.o, two_no (by decide +kernel) (by decide +kernel), ?_⟩
      walk_at "rd"
      refine ⟨z, dz, t, u, _, _, rfl, oz1, fun r2 hr2 => ?_⟩
      walk_at "rd"
      refine ⟨by show 3 ≤ sizeLine; decide, fun y hu => ?_⟩
      have n1 : r1 ≠ r2 := fun z => by rw [← z, upd_same] at hr2; cases hr2
      have n2 : r2 ≠ y := fun z => by rw [← z, upd_same] at hu; cases hu
      have n3 : r1 ≠ y := fun z => by rw [← z, upd_ne n1, upd_same] at hu; cases hu
      refine k _ _ (Same.up (Same.up (Same.up s2 hr1) hr2) hu) ?_
      rw [timesD, if_pos j0]
      exact .tup (SqT.of upd_same) (.cons (.str _) (.cons (Dp.ints (SqL.of (by rw [upd_ne n3, upd_ne n1, upd_same]))) (.cons (Dp.ints (SqL.of (by rw [upd_ne n2, upd_same]))) .nil)))
    have sk' : ∀ j : Int, v = .int j → 0 ≤ j → Sm j := sk
    have oo := o.same s1
    cases l with
    | true =>
      walk_at "rd"
      refine r_op2 ?_
      walk_at "rd"
      refine r_mulAny oo.o pl ?_
      refine ⟨⟨_, _, rfl, pl⟩, x, dx, p, q, ms, ns, x, v, rfl, oo, gm, gn, sm, pl.iv _ _, fun j e j0 => ⟨sk' j e j0, fun z dz t u H2 oz s2 => ?_⟩, fun n d H' s2 h1 h2 => ?_⟩
      · exact tell z dz t u H2 j e j0 oz (s1.trans s2)
      · refine ⟨true, EB.xm, fun _ a0 _ => ?_, fun q => Bool.noConfusion q⟩
        refine r_ret ?_
        walk_at "rd"
        refine ⟨_, rfl, rfl, rfl, d, _, _, rfl, h2, look1 _ _, ?_⟩
        walk_at "rd"
        refine ⟨by show 2 ≤ sizeLine; decide, fun y hu => ?_⟩
        refine k _ _ (Same.up (s1.trans s2) hu) ?_
        rw [timesD_no n]
        exact .tup (SqT.of upd_same) (.cons (.str _) (.cons (.str _) .nil))
    | false =>
      walk_at "rd"
      refine r_op2 ?_
      walk_at "rd"
      obtain ⟨t0, ty, m⟩ := Plain1.ty (K := K) (H := H1) pl
      refine r_ownB oo.o (M.bM.other M.O ty m (List.mem_append_left ["list", "tuple", "dict"] m)) ?_
      refine ⟨x, dx, p, q, ms, ns, x, v, rfl, oo, gm, gn, sm, pl.iv _ _, fun j e j0 => ⟨sk' j e j0, fun z dz t u H2 oz s2 => ?_⟩, fun n d H' s2 h1 h2 => ?_⟩
      · exact tell z dz t u H2 j e j0 oz (s1.trans s2)
      · refine ⟨true, EB.xm, fun _ a0 _ => ?_, fun q => Bool.noConfusion q⟩
        refine r_ret ?_
        walk_at "rd"
        refine ⟨_, rfl, rfl, rfl, d, _, _, rfl, h2, look1 _ _, ?_⟩
        walk_at "rd"
        refine ⟨by show 2 ≤ sizeLine; decide, fun y hu => ?_⟩
        refine k _ _ (Same.up (s1.trans s2) hu) ?_
        rw [timesD_no n]
        exact .tup (SqT.of upd_same) (.cons (.str _) (.cons (.str _) .nil))
end
end Pk
set_option Elab.async false
set_option linter.all false
set_option maxRecDepth 100000
set_option maxHeartbeats 4000000
namespace Pk
open PySem L2
local macro_rules | `(tactic| walk_at "rd") => `(tactic| repeat (first
  | with_reducible refine r_seq ?_ | with_reducible refine r_nxt ?_ | with_reducible refine r_asg ?_ | with_reducible refine r_to ?_ | with_reducible refine r_ret ?_ | with_reducible refine r_for ?_ | with_reducible refine r_lc ?_ | with_reducible refine r_rng1 ?_ | with_reducible refine r_list ?_ | with_reducible refine r_tupI ?_ | with_reducible refine r_drop ?_ | with_reducible refine r_ifs ?_
  | with_reducible refine r_op ?_ | with_reducible refine r_c ?_ | with_reducible refine r_var rfl ?_ | with_reducible refine r_var (by assumption) ?_ | with_reducible refine r_I0 ?_ | with_reducible refine r_un ?_ | with_reducible refine r_U ?_ | with_reducible refine r_make ?_ | with_reducible refine r_sub ?_
  | with_reducible refine r_nil ?_ | with_reducible refine r_cons ?_ | with_reducible refine r_cb ?_ | with_reducible refine r_sl ?_ | with_reducible refine r_noP ?_ | with_reducible refine r_part ?_ | with_reducible refine r_isI ?_ | with_reducible refine r_lst ?_ | with_reducible refine r_tup ?_ | with_reducible refine r_call ?_ | with_reducible refine r_callS ?_ | with_reducible refine r_sFldU ?_ | with_reducible refine r_chain ?_ | with_reducible refine r_enum ?_ | with_reducible refine r_zip ?_ | with_reducible refine r_gtup ?_ | with_reducible refine r_methU ?_
  | with_reducible refine r_test ?_ | with_reducible refine r_B ?_ | with_reducible refine r_and ?_ | with_reducible refine r_or ?_ | with_reducible refine r_not ?_ | with_reducible refine r_andV ?_ | with_reducible refine r_orV ?_ | with_reducible refine r_notV ?_ | with_reducible refine r_bl ?_ | with_reducible refine r_yes ?_ | with_reducible refine r_int ?_ | with_reducible refine r_is0 ?_ | with_reducible refine r_is1 ?_ | with_reducible refine iteT ?_ | with_reducible refine iteF ?_ | with_reducible refine ite_nF ?_ | with_reducible refine ite_nT ?_
  | with_reducible refine r_mod (by decide) ?_ | with_reducible refine r_div (by decide) (by decide) ?_ | with_reducible refine r_mulR (by decide) (by decide) ?_ | with_reducible refine r_mulL (by decide) (by decide) ?_ | with_reducible refine r_pow (by decide) (by decide) (by decide) ?_))
def spKept (C : Addr) : Sp := fun vs H Q _ => ∃ (x dx p q a b : Addr) (ms ns : List Int), vs = [.ref x, .ref a, .ref b] ∧ AmX C H x dx p q ms ns ∧ Gd ms ∧ Gd ns ∧ H a = some (.lst (ms.map V.int)) ∧ H b = some (.lst (ns.map V.int)) ∧ ∀ H' : Hp, Same H H' → Q (.bl true) H'
abbrev slKept : Stmt := top 21
theorem set_lastI {xs : List Int} {u v : Int} : ((xs ++ [u]).map V.int).set xs.length (.int v) = (xs ++ [v]).map V.int := by
  rw [List.map_append, List.map_append, List.set_append_right _ _ (by simp)]
  simp
theorem split_last {ns : List Int} (h : 0 < ns.length) : ∃ zs z, ns = zs ++ [z] := by
  rcases List.eq_nil_or_concat ns with e | ⟨zs, z, e⟩
  · rw [e] at h; cases h
  · exact ⟨zs, z, by simpa using e⟩
theorem ix_lastI {xs : List Int} {u : Int} : ixN ((xs ++ [u]).map V.int).length (-1) = some xs.length := by
  rw [List.map_append]
  have h := ixN_last (xs.map V.int) (V.int u)
  rw [List.length_map] at h
  exact h
theorem at_lastI {xs : List Int} {u : Int} : atI ((xs ++ [u]).map V.int) (-1) = some (.int u) := by
  rw [atI, ix_lastI]
  simp
theorem deep_ints {n : Nat} {ns : List Int} (h : ns.length ≤ 8) : Deep (n + 1) (.list (ns.map PyData.int)) := .lst (fun d hd => by
    obtain ⟨i, _, rfl⟩ := List.mem_map.mp hd
    exact .int i) (by rw [List.length_map]; omega)
theorem cut_one {m : Int} {r : List Int} : cutV ((m :: r).map V.int) (some 1) none = r.map V.int := by
  simp [cutV, HT.sIx, List.take_of_length_le]
theorem Same.put {H H1 : Hp} {q : Addr} {u v : HO} (s : Same H H1) (hq : H1 q = none) : Same H (upd (upd H1 q u) q v) := fun c o e => by
  have n : c ≠ q := fun z => by
    have e2 := s _ _ e
    rw [z, hq] at e2
    cases e2
  rw [upd_ne n, upd_ne n]
  exact s _ _ e
section
variable {P : Program} {w : World} {K : PySem.W.Frag} {mg : Str → Option Value} {base : Heap} {C CE CB f : Addr} {fd : FuncData}
theorem sclKept : FnScope ["_law_amounts", "_law_stocks", "_law_wishes", "_law_changed"] ["_law_amounts", "_law_stocks", "_law_wishes"] (defScope slKept) := ⟨rfl, rfl, rfl, by decide +kernel, rfl, by decide +kernel, by decide +kernel⟩
theorem ok_kept (F : Fun K "_law_kept" "_law_kept" slKept f fd) (T : Bt mg) (M : AmM P w K mg base C CE CB) (DS : Df P w K mg base CX0 "_law_same" 4 ["_law_actual", "_law_due"] (spSame K 3)) :
    FnOk P w K mg base CX0 8 f fd ["_law_amounts", "_law_stocks", "_law_wishes"] (spKept C) := by
  obtain ⟨fQ, fdQ, mQ, oQ, bQ⟩ := M.eq
  obtain ⟨fS, fdS, mS, oS, bS⟩ := M.stocks
  obtain ⟨fW, fdW, mW, oW, bW⟩ := M.wishes
  refine F.ok sclKept (fun vs H Q E h => ?_) (fun cdv A outer s H vs Q E hr h => ?_)
  · obtain ⟨x, dx, p, q, a, b, ms, ns, rfl, _⟩ := h
    rfl
  · obtain ⟨x, dx, p, q, a, b, ms, ns, rfl, o, gm, gn, ha, hb, k⟩ := h
    have hr1 := hr.mono (show 1 ≤ 7 by decide)
    have hr2 := hr.mono (show 2 ≤ 7 by decide)
    refine ⟨_, (pss_cons (ps_if ((pt_neOwn (E := fun _ => E0) ⟨fQ, fdQ, _, mQ, oQ, bQ⟩ M.ne M.O.hm hr2 (passN pass0) (pv 0) (pe_dkL M.made hr (by decide) (pa_cons (pe_callTy cl_lst (by rfl) T.list (by decide +kernel) (pa_cons (pv 1) pa_nil)) (pa_cons (pe_callTy cl_lst (by rfl) T.list (by decide +kernel) (pa_cons (pv 2) pa_nil)) pa_nil))) (nomark _))) (pss_one (ps_ret pe_bl)) pss_nil)
      (pss_cons (ps_set (i := 3) sclKept.nd rfl (Or.inl rfl) (pe_callTy cl_lst (by rfl) T.list (by decide +kernel) (pa_cons (pv 2) pa_nil)))
      (pss_cons (ps_asg (pe_op op_add (pe_ix ix_list (pv 3) (pe_un un_neg pe_int) (fun _ _ => rfl)) pe_int) (pg_sub (pv 3) (pe_un un_neg pe_int) set_list))
      (pss_cons (ps_if (PW.pt (pw_or ((pt_cmpOwn (op := .Eq) (E := fun _ => E0) (fun _ _ => rfl) ⟨fQ, fdQ, _, mQ, oQ, bQ⟩ hr1 (passN pass0) (pv 0) (pe_dkL M.made hr (by decide) (pa_cons (pe_callTy cl_lst (by rfl) T.list (by decide +kernel) (pa_cons (pv 1) pa_nil)) (pa_cons (pv 3) pa_nil))) (nomark _)))
          (pw_or1 ((pt_cmpOwn (op := .Eq) (E := fun _ => E0) (fun _ _ => rfl) ⟨fQ, fdQ, _, mQ, oQ, bQ⟩ hr1 (passN pass0) (pv 0) (pe_dkL M.made hr (by decide) (pa_cons (pe_op op_cat (pe_lst (pa_cons (pe_op op_add (pe_ix ix_list (pv 1) pe_int (fun _ _ => rfl)) pe_int) pa_nil)) (pe_slice sl_list (pv 1) (po_some pe_int) po_none)) (pa_cons (pe_callTy cl_lst (by rfl) T.list (by decide +kernel) (pa_cons (pv 2) pa_nil)) pa_nil))) (nomark _)))))) (pss_one (ps_ret pe_bl)) pss_nil)
      (pss_one (ps_ret (pe_and (pe_df DS hr (by decide) (pa_cons (pe_meth0 (pv 0) M.A.cls mS oS hr1 bS .nil pass0) (pa_cons (pv 1) pa_nil))) (pe_one (pe_df DS hr (by decide) (pa_cons (pe_meth0 (pv 0) M.A.cls mW oW hr1 bW .nil pass0) (pa_cons (pv 2) pa_nil))))))))))), ?_⟩
    obtain ⟨zs, z, rfl⟩ := split_last gn.1
    obtain ⟨m, r, rfl⟩ : ∃ m r, ms = m :: r := by
      cases ms with
      | nil => exact absurd gm.1 (Nat.lt_irrefl 0)
      | cons m r => exact ⟨m, r, rfl⟩
    have gn' : Gd (zs ++ [z + 1]) := ⟨by simp, by have := gn.2.1; simpa using this, fun y hy => by
      rcases List.mem_append.mp hy with h | h
      · exact gn.2.2 y (List.mem_append_left _ h)
      · rw [List.mem_singleton.mp h]
        have := gn.2.2 z (List.mem_append_right _ (List.mem_singleton.mpr rfl))
        omega⟩
    have gm' : Gd ((m + 1) :: r) := ⟨by simp, by have := gm.2.1; simpa using this, fun y hy => by
      rcases List.mem_cons.mp hy with h | h
      · rw [h]
        have := gm.2.2 m List.mem_cons_self
        omega
      · exact gm.2.2 y (List.mem_cons_of_mem _ h)⟩
    walk_at "rd"
    refine r_op2 ?_
    walk_at "rd"
    refine r_lstOf (SqL.of ha) fun q1 n1 => ?_
    walk_at "rd"
    have b1 := Same.up (o := .lst ((m :: r).map V.int)) (Same.refl H) n1
    refine r_lstOf (SqL.of (b1 _ _ hb)) fun q2 n2 => ?_
    walk_at "rd"
    intro x2 dx2 nx nd ne
    have b2 := Same.up (o := .lst ((zs ++ [z]).map V.int)) b1 n2
    have n12 : q1 ≠ q2 := fun z => by rw [← z, upd_same] at n2; cases n2
    refine mk_am nx nd ne (by rw [upd_ne n12, upd_same]) upd_same gm gn fun H1 p' q' _ _ _ o2 s3 => ⟨rfl, ?_⟩
    have t1 : Same H H1 := b2.trans s3
    refine r_ownNe (o.same t1).o (.inl ⟨x2, dx2, _, rfl, o2.o⟩) ?_
    refine ⟨x, dx, p, q, x2, dx2, p', q', _, _, _, _, rfl, o.same t1, o2, ?_⟩
    refine ⟨_, rfl, _, rfl, ?_⟩
    refine ifF (by simp) ?_
    walk_at "rd"
    refine r_lstOf (SqL.of (t1 _ _ hb)) fun q3 n3 => ?_
    walk_at "rd"
    refine r_ixL (SqL.of upd_same) at_lastI ?_
    walk_at "rd"
    refine r_setL upd_same ix_lastI ?_
    rw [set_lastI]
    have t3 := Same.put (u := .lst ((zs ++ [z]).map V.int)) (v := .lst ((zs ++ [z + 1]).map V.int)) t1 n3
    have l3 : upd (upd H1 q3 (.lst ((zs ++ [z]).map V.int))) q3 (.lst ((zs ++ [z + 1]).map V.int)) q3 = some (.lst ((zs ++ [z + 1]).map V.int)) := upd_same
    generalize upd (upd H1 q3 (.lst ((zs ++ [z]).map V.int))) q3 (.lst ((zs ++ [z + 1]).map V.int)) = H3 at t3 l3 ⊢
    walk_at "rd"
    refine r_op2 ?_
    walk_at "rd"
    refine r_lstOf (SqL.of (t3 _ _ ha)) fun q4 n4 => ?_
    walk_at "rd"
    intro x4 dx4 nx4 nd4 ne4
    have n34 : q3 ≠ q4 := fun z => by rw [← z, l3] at n4; cases n4
    refine mk_am nx4 nd4 ne4 upd_same (by rw [upd_ne n34]; exact l3) gm gn' fun H4 p' q' _ _ _ o4 s4 => ⟨rfl, ?_⟩
    have t4 : Same H H4 := (Same.up t3 n4).trans s4
    refine r_ownC (o.same t4).o (.inl ⟨x4, dx4, _, rfl, o4.o⟩) ?_
    refine ⟨x, dx, p, q, x4, dx4, p', q', _, _, _, _, rfl, o.same t4, o4, ?_⟩
    refine ⟨_, rfl, ?_⟩
    refine ifF (by simp; omega) ?_
    walk_at "rd"
    refine r_op2 ?_
    walk_at "rd"
    refine r_ixL (SqL.of (t4 _ _ ha)) (atI_nat (j := 0) rfl) ?_
    walk_at "rd"
    refine ⟨by show 1 ≤ sizeLine; decide, fun q5 n5 => ?_⟩
    have t5 := Same.up (o := .lst [V.int (m + 1)]) t4 n5
    walk_at "rd"
    refine ⟨a, _, rfl, SqL.of (t5 _ _ ha), fun q6 n6 => ?_⟩
    rw [cut_one]
    have n56 : q5 ≠ q6 := fun z => by rw [← z, upd_same] at n6; cases n6
    have t6 := Same.up (o := .lst (r.map V.int)) t5 n6
    walk_at "rd"
    refine r_cat (xs := [V.int (m + 1)]) (zs := r.map V.int) (by rw [upd_ne n56, upd_same]) upd_same (by have := gm.2.1; simp at this ⊢; exact Nat.le_trans (by omega : 1 + r.length ≤ 9) (by decide)) fun q7 n7 => ?_
    have t7 := Same.up (o := .lst ([V.int (m + 1)] ++ r.map V.int)) t6 n7
    walk_at "rd"
    refine r_lstOf (SqL.of (t7 _ _ hb)) fun q8 n8 => ?_
    walk_at "rd"
    intro x9 dx9 nx9 nd9 ne9
    have n78 : q7 ≠ q8 := fun z => by rw [← z, upd_same] at n8; cases n8
    refine mk_am (ms := (m + 1) :: r) nx9 nd9 ne9 (by rw [upd_ne n78, upd_same]; rfl) upd_same gm' gn fun H9 p' q' _ _ _ o9 s9 => ⟨rfl, ?_⟩
    have t9 : Same H H9 := (Same.up t7 n8).trans s9
    refine r_ownC (o.same t9).o (.inl ⟨x9, dx9, _, rfl, o9.o⟩) ?_
    refine ⟨x, dx, p, q, x9, dx9, p', q', _, _, _, _, rfl, o.same t9, o9, ?_⟩
    refine ⟨_, rfl, ?_⟩
    refine ifF (by simp; omega) ?_
    walk_at "rd"
    refine ⟨x, dx, _, rfl, (o.same t9).o, two_no (by decide +kernel) (by decide +kernel), ?_⟩
    walk_at "rd"
    refine ⟨x, dx, p, q, _, _, rfl, o.same t9, fun q10 n10 => ?_⟩
    have t10 := Same.up (o := .lst ((m :: r).map V.int)) t9 n10
    walk_at "rd"
    refine ⟨_, _, _, rfl, Dp.ints (SqL.of upd_same), Dp.ints (SqL.of (t10 _ _ ha)), deep_ints gm.2.1, ?_⟩
    walk_at "rd"
    refine ⟨x, dx, _, rfl, (o.same t10).o, two_no (by decide +kernel) (by decide +kernel), ?_⟩
    walk_at "rd"
    refine ⟨x, dx, p, q, _, _, rfl, o.same t10, fun q11 n11 => ?_⟩
    have t11 := Same.up (o := .lst ((zs ++ [z]).map V.int)) t10 n11
    walk_at "rd"
    exact ⟨_, _, _, rfl, Dp.ints (SqL.of upd_same), Dp.ints (SqL.of (t11 _ _ hb)), deep_ints gn.2.1, k _ t11⟩
end
end Pk
set_option Elab.async false
set_option linter.all false
set_option maxRecDepth 100000
set_option maxHeartbeats 4000000
namespace Pk
open PySem L2
local macro_rules | `(tactic| walk_at "rd") => `(tactic| repeat (first
  | with_reducible refine r_seq ?_ | with_reducible refine r_nxt ?_ | with_reducible refine r_asg ?_ | with_reducible refine r_to ?_ | with_reducible refine r_ret ?_ | with_reducible refine r_for ?_ | with_reducible refine r_lc ?_ | with_reducible refine r_rng1 ?_ | with_reducible refine r_list ?_ | with_reducible refine r_tupI ?_ | with_reducible refine r_drop ?_ | with_reducible refine r_ifs ?_
  | with_reducible refine r_op ?_ | with_reducible refine r_c ?_ | with_reducible refine r_var rfl ?_ | with_reducible refine r_var (by assumption) ?_ | with_reducible refine r_I0 ?_ | with_reducible refine r_un ?_ | with_reducible refine r_U ?_ | with_reducible refine r_make ?_ | with_reducible refine r_sub ?_
  | with_reducible refine r_nil ?_ | with_reducible refine r_cons ?_ | with_reducible refine r_cb ?_ | with_reducible refine r_sl ?_ | with_reducible refine r_noP ?_ | with_reducible refine r_part ?_ | with_reducible refine r_isI ?_ | with_reducible refine r_lst ?_ | with_reducible refine r_tup ?_ | with_reducible refine r_call ?_ | with_reducible refine r_callS ?_ | with_reducible refine r_sFldU ?_ | with_reducible refine r_chain ?_ | with_reducible refine r_enum ?_ | with_reducible refine r_zip ?_ | with_reducible refine r_gtup ?_ | with_reducible refine r_methU ?_
  | with_reducible refine r_test ?_ | with_reducible refine r_B ?_ | with_reducible refine r_and ?_ | with_reducible refine r_or ?_ | with_reducible refine r_not ?_ | with_reducible refine r_andV ?_ | with_reducible refine r_orV ?_ | with_reducible refine r_notV ?_ | with_reducible refine r_bl ?_ | with_reducible refine r_yes ?_ | with_reducible refine r_int ?_ | with_reducible refine r_is0 ?_ | with_reducible refine r_is1 ?_ | with_reducible refine iteT ?_ | with_reducible refine iteF ?_ | with_reducible refine ite_nF ?_ | with_reducible refine ite_nT ?_
  | with_reducible refine r_mod (by decide) ?_ | with_reducible refine r_div (by decide) (by decide) ?_ | with_reducible refine r_mulR (by decide) (by decide) ?_ | with_reducible refine r_mulL (by decide) (by decide) ?_ | with_reducible refine r_pow (by decide) (by decide) (by decide) ?_))
def spLaw (K : PySem.W.Frag) : Sp := fun vs H Q _ => ∃ (l : Addr) (ns : List Int), vs = [.ref l] ∧ SqL K H l (ns.map V.int) ∧ ns.length ≤ 63 ∧ ∀ H' : Hp, Q (.bl true) H'
abbrev slaw : Stmt := top 22
abbrev nmLaw : List Str := ["_law_script", "_law_pool_here", "_law_alike", "_law_stocks", "_law_wishes", "_law_height", "_law_width", "_law_more", "_law_others", "_law_amounts", "_law_other", "_law_due", "_law_over", "_law_sums", "_law_wrong", "_law_great", "_law_times_here", "_law_left", "_law_same_here", "_law_k", "_law_entry"]
theorem sclaw : FnScope nmLaw ["_law_script"] (defScope slaw) := ⟨rfl, rfl, rfl, by decide +kernel, rfl, by decide +kernel, by decide +kernel⟩
abbrev xLaw (P : Program) (w : World) (K : PySem.W.Frag) (mg : Str → Option Value) (base : Heap) (f : Addr) (cdv : Value) (A : Around) (outer : List Env) (s : Shared) (H0 : Hp) (E : XK) : Cx := (cxOf CX0 P w K mg base nmLaw "law" (defScope slaw) f cdv A outer s H0 E).nox
structure LD (P : Program) (w : World) (K : PySem.W.Frag) (mg : Str → Option Value) (base : Heap) (C CE CB : Addr) : Prop where
  lPool : Df P w K mg base CX0 "_law_pool" 1 ["_law_script"] (spPool K)
  lDraw : Df P w K mg base CX0 "_law_draw" 2 ["_law_pool_here", "_law_size"] spDraw
  lNumber : Df P w K mg base CX0 "_law_number" 3 ["_law_pool_here", "_law_parts"] spNum
  lSame : Df P w K mg base CX0 "_law_same" 4 ["_law_actual", "_law_due"] (spSame K 3)
  lList : Df P w K mg base CX0 "_law_list" 5 ["_law_pool_here", "_law_many"] spList
  lAdded : Df P w K mg base CX0 "_law_added" 8 ["_law_amounts", "_law_other"] (spAdded K C)
  lTimes : Df P w K mg base CX0 "_law_times" 10 ["_law_amounts", "_law_times_here", "_law_left"] (spTimes K C)
  lKept : Df P w K mg base CX0 "_law_kept" 8 ["_law_amounts", "_law_stocks", "_law_wishes"] (spKept C)
  M : AmM P w K mg base C CE CB
/-- what stands behind the making -/
structure Sit (C p c : Addr) (sc : List Int) (a3 a4 a7 a8 x y : Addr) (ms ns ms' ns' : List Int) (H : Hp) : Prop where
  pool : PoolAt H p c sc
  l3 : LI p H a3 ms
  l4 : LI p H a4 ns
  l7 : LI p H a7 ms'
  l8 : LI p H a8 ns'
  X : AL p C H x ms ns
  Y : AL p C H y ms' ns'
  d : Dr ms ∧ Dr ns ∧ Dr ms' ∧ Dr ns'
  g : Gd ms ∧ Gd ns ∧ Gd ms' ∧ Gd ns'
theorem PoolAt.sameS {H H' : Hp} {p c : Addr} {ns : List Int} (h : PoolAt H p c ns) (s : Same H H') : PoolAt H' p c ns := by
  obtain ⟨a, b, z, n, h0, hP, hC⟩ := h
  exact ⟨a, b, z, n, h0, s _ _ hP, s _ _ hC⟩
section
variable {P : Program} {w : World} {K : PySem.W.Frag} {mg : Str → Option Value} {base : Heap} {C CE CB p c a3 a4 a7 a8 x y : Addr} {sc ms ns ms' ns' : List Int} {H H' : Hp}
theorem Sit.same (S : Sit C p c sc a3 a4 a7 a8 x y ms ns ms' ns' H) (s : Same H H') : Sit C p c sc a3 a4 a7 a8 x y ms ns ms' ns' H' := ⟨S.pool.sameS s, S.l3.same s, S.l4.same s, S.l7.same s, S.l8.same s, S.X.same s, S.Y.same s, S.d, S.g⟩
theorem Sit.keep (S : Sit C p c sc a3 a4 a7 a8 x y ms ns ms' ns' H) (s : Keep p H H') (q : PoolAt H' p c sc) : Sit C p c sc a3 a4 a7 a8 x y ms ns ms' ns' H' := ⟨q, S.l3.keep s, S.l4.keep s, S.l7.keep s, S.l8.keep s, S.X.keep s, S.Y.keep s, S.d, S.g⟩
variable {f : Addr} {cdv : Value} {A : Around} {outer : List Env} {s : Shared} {H0 : Hp} {E : XK}
/-- from the ways of comparing on -/
theorem seg19 (hr : Room 39 (xLaw P w K mg base f cdv A outer s H0 E).A) (D : LD P w K mg base C CE CB) : ∃ u : TS, PSs (xLaw P w K mg base f cdv A outer s H0 E) ((defBody slaw).drop 19) u ∧
    ∀ {p c a3 a4 a7 a8 x y : Addr} {sc ms ns ms' ns' : List Int} (En : Ends) (H : Hp) (v0 v1 v2 v5 v6 v11 v12 v13 v14 v15 v16 v17 v18 v19 v20 : Option V), Sit C p c sc a3 a4 a7 a8 x y ms ns ms' ns' H → (∀ H', En.rt (.bl true) H') →
      u En [v0, v1, v2, some (.ref a3), some (.ref a4), v5, v6, some (.ref a7), some (.ref a8), some (.ref x), some (.ref y), v11, v12, v13, v14, v15, v16, v17, v18, v19, v20] H := by
  obtain ⟨fQ, fdQ, mQ, oQ, bQ⟩ := D.M.eq
  have hr1 := hr.mono (show 1 ≤ 39 by decide)
  have hr2 := hr.mono (show 2 ≤ 39 by decide)
  refine ⟨_, (pss_cons (ps_set (i := 18) sclaw.nd rfl (Or.inl rfl) (pe_and (pe_cmpR (op_eqD hr.units) (pv 3) (pv 7) (nomark _)) (pe_one (pe_cmpR (op_eqD hr.units) (pv 4) (pv 8) (nomark _)))))
    (pss_cons (ps_if (PW.pt (pw_or (pt_cmpR op_ne (pe_cmpOwn (op := .Eq) (E := fun _ => E0) (fun _ _ => rfl) ⟨fQ, fdQ, _, mQ, oQ, bQ⟩ hr1 (passN pass0) (pv 9) (pv 10) (nomark _)) (pv 18) (nomark _))
      (pw_or1 (pt_cmpR op_eq (pe_neOwn (E := fun _ => E0) ⟨fQ, fdQ, _, mQ, oQ, bQ⟩ D.M.ne D.M.O.hm hr2 (passN pass0) (pv 9) (pv 10) (nomark _)) (pv 18) (nomark _))))) (pss_one (ps_ret pe_bl)) pss_nil)
    (pss_one (ps_ret (pe_and (pe_df D.lKept hr (by decide) (pa_cons (pv 9) (pa_cons (pv 3) (pa_cons (pv 4) pa_nil)))) (pe_one (pe_df D.lKept hr (by decide) (pa_cons (pv 10) (pa_cons (pv 7) (pa_cons (pv 8) pa_nil)))))))))), ?_⟩
  intro p c a3 a4 a7 a8 x y sc ms ns ms' ns' En H v0 v1 v2 v5 v6 v11 v12 v13 v14 v15 v16 v17 v18 v19 v20 S k
  obtain ⟨dx, q, r, X, -⟩ := S.X
  obtain ⟨dy, q', r', Y, -⟩ := S.Y
  obtain ⟨g1, g2, g3, g4⟩ := S.g
  walk_at "rd"
  refine r_eqL (SqL.of S.l3.2) (SqL.of S.l7.2) ?_
  walk_at "rd"
  have fin : ∀ b : Bool, b = (decide (ms = ms') && decide (ns = ns')) → tSeq (tIfS (tOr (tTest (tOp rNe (tOp2 (rOwnC K C (spAmEq C)) (fun _ => E0) (tVar 9) (tVar 10)) (tVar 18))) (tTest (tOp rEq (tOp2 (rOwnNe K C (spAmEq C)) (fun _ => E0) (tVar 9) (tVar 10)) (tVar 18)))) (tRet (tC (.bl false))) tNext)
      (tRet (tAndV (tCall (spKept C) [] E0 (tCons (tVar 9) (tCons (tVar 3) (tCons (tVar 4) tNil)))) (tCall (spKept C) [] E0 (tCons (tVar 10) (tCons (tVar 7) (tCons (tVar 8) tNil)))))) En
      [v0, v1, v2, some (.ref a3), some (.ref a4), v5, v6, some (.ref a7), some (.ref a8), some (.ref x), some (.ref y), v11, v12, v13, v14, v15, v16, v17, some (.bl b), v19, v20] H := by
    intro b hb
    walk_at "rd"
    refine r_op2 ?_
    walk_at "rd"
    refine r_ownC X.o (.inl ⟨y, dy, _, rfl, Y.o⟩) ⟨x, dx, q, r, y, dy, q', r', _, _, _, _, rfl, X, Y, ?_⟩
    walk_at "rd"
    refine r_ne rfl ?_
    rw [← hb]
    refine ⟨_, rfl, ifF (by simp) ?_⟩
    walk_at "rd"
    refine r_op2 ?_
    walk_at "rd"
    refine r_ownNe X.o (.inl ⟨y, dy, _, rfl, Y.o⟩) ⟨x, dx, q, r, y, dy, q', r', _, _, _, _, rfl, X, Y, _, rfl, ?_⟩
    walk_at "rd"
    refine r_eq rfl ?_
    rw [← hb]
    refine ⟨_, rfl, ifF (by cases b <;> simp) ?_⟩
    walk_at "rd"
    refine ⟨x, dx, q, r, a3, a4, _, _, rfl, X, g1, g2, S.l3.2, S.l4.2, fun H1 s1 => ?_⟩
    walk_at "rd"
    exact ⟨y, dy, q', r', a7, a8, _, _, rfl, Y.same s1, g3, g4, s1 _ _ S.l7.2, s1 _ _ S.l8.2, fun H2 _ => k H2⟩
  by_cases e : ms = ms'
  · refine ifT (decide_eq_true e) ?_
    walk_at "rd"
    refine r_eqL (SqL.of S.l4.2) (SqL.of S.l8.2) ?_
    exact fin _ (by rw [decide_eq_true e, Bool.true_and])
  · refine ifF (decide_eq_false e) ?_
    exact fin _ (by rw [decide_eq_false e, Bool.false_and])
end
end Pk
set_option Elab.async false
set_option linter.all false
set_option maxRecDepth 100000
set_option maxHeartbeats 4000000
namespace Pk
open PySem L2
local macro_rules | `(tactic| walk_at "rd") => `(tactic| repeat (first
  | with_reducible refine r_seq ?_ | with_reducible refine r_nxt ?_ | with_reducible refine r_asg ?_ | with_reducible refine r_to ?_ | with_reducible refine r_ret ?_ | with_reducible refine r_for ?_ | with_reducible refine r_lc ?_ | with_reducible refine r_rng1 ?_ | with_reducible refine r_list ?_ | with_reducible refine r_tupI ?_ | with_reducible refine r_drop ?_ | with_reducible refine r_ifs ?_
  | with_reducible refine r_op ?_ | with_reducible refine r_c ?_ | with_reducible refine r_var rfl ?_ | with_reducible refine r_var (by assumption) ?_ | with_reducible refine r_I0 ?_ | with_reducible refine r_un ?_ | with_reducible refine r_U ?_ | with_reducible refine r_make ?_ | with_reducible refine r_sub ?_
  | with_reducible refine r_nil ?_ | with_reducible refine r_cons ?_ | with_reducible refine r_cb ?_ | with_reducible refine r_sl ?_ | with_reducible refine r_noP ?_ | with_reducible refine r_part ?_ | with_reducible refine r_isI ?_ | with_reducible refine r_lst ?_ | with_reducible refine r_tup ?_ | with_reducible refine r_call ?_ | with_reducible refine r_callS ?_ | with_reducible refine r_sFldU ?_ | with_reducible refine r_chain ?_ | with_reducible refine r_enum ?_ | with_reducible refine r_zip ?_ | with_reducible refine r_gtup ?_ | with_reducible refine r_methU ?_
  | with_reducible refine r_test ?_ | with_reducible refine r_B ?_ | with_reducible refine r_and ?_ | with_reducible refine r_or ?_ | with_reducible refine r_not ?_ | with_reducible refine r_andV ?_ | with_reducible refine r_orV ?_ | with_reducible refine r_notV ?_ | with_reducible refine r_bl ?_ | with_reducible refine r_yes ?_ | with_reducible refine r_int ?_ | with_reducible refine r_is0 ?_ | with_reducible refine r_is1 ?_ | with_reducible refine iteT ?_ | with_reducible refine iteF ?_ | with_reducible refine ite_nF ?_ | with_reducible refine ite_nT ?_
  | with_reducible refine r_mod (by decide) ?_ | with_reducible refine r_div (by decide) (by decide) ?_ | with_reducible refine r_mulR (by decide) (by decide) ?_ | with_reducible refine r_mulL (by decide) (by decide) ?_ | with_reducible refine r_pow (by decide) (by decide) (by decide) ?_))
theorem bl_at {i : Nat} {y : V} (h : ([V.bl true, V.bl false] : List V)[i]? = some y) : ∃ b, y = .bl b := by
  match i, h with
  | 0, h => exact ⟨true, (Option.some.inj h).symm⟩
  | 1, h => exact ⟨false, (Option.some.inj h).symm⟩
  | i + 2, h => simp at h
theorem map_outR {ms : List Int} {k : Int} : (List.range ms.length).map (fun i => V.int (ms.getD i 0 * k)) = (ms.map (k * ·)).map V.int := by
  rw [← map_out]
  simp [Int.mul_comm]
theorem deep_times {ms ns : List Int} {v : V} (h : Gd ms) (g : Gd ns) : Deep 3 (timesD ms ns v) := by
  have bad : Deep 3 (.tuple [.str "refused", .str "times"]) := .tup (fun d hd => by
    simp only [List.mem_cons, List.not_mem_nil, or_false] at hd
    rcases hd with rfl | rfl
    · exact .str _
    · exact .str _) (by decide)
  cases v with
  | int k =>
    show Deep 3 (if 0 ≤ k then _ else _)
    by_cases e : 0 ≤ k
    · rw [if_pos e]
      refine .tup (fun d hd => ?_) (by show 3 ≤ 1000; decide)
      simp only [List.mem_cons, List.not_mem_nil, or_false] at hd
      rcases hd with rfl | rfl | rfl
      · exact .str _
      · exact deep_ints (by rw [List.length_map]; exact h.2.1)
      · exact deep_ints (by rw [List.length_map]; exact g.2.1)
    · rw [if_neg e]
      exact bad
  | _ => exact bad
section
variable {P : Program} {w : World} {K : PySem.W.Frag} {mg : Str → Option Value} {base : Heap} {C CE CB p c a3 a4 a7 a8 x y : Addr} {sc ms ns ms' ns' : List Int} {H H' : Hp} {f : Addr} {cdv : Value} {A : Around} {outer : List Env} {s : Shared} {H0 : Hp} {E : XK}
/-- from the factor on -/
theorem seg16 (hr : Room 39 (xLaw P w K mg base f cdv A outer s H0 E).A) (T : Bt mg) (D : LD P w K mg base C CE CB) : ∃ u : TS, PSs (xLaw P w K mg base f cdv A outer s H0 E) ((defBody slaw).drop 16) u ∧
    ∀ {p c a3 a4 a7 a8 x y : Addr} {sc ms ns ms' ns' : List Int} (En : Ends) (H : Hp) (v : V) (v0 v1 v2 v5 v6 v11 v12 v13 v14 v15 v17 v18 v19 v20 : Option V), Sit C p c sc a3 a4 a7 a8 x y ms ns ms' ns' H → Plain1 v → (∀ k : Int, v = .int k → 0 ≤ k → Sm k) → (∀ H', En.rt (.bl true) H') →
      u En [v0, v1, v2, some (.ref a3), some (.ref a4), v5, v6, some (.ref a7), some (.ref a8), some (.ref x), some (.ref y), v11, v12, v13, v14, v15, some v, v17, v18, v19, v20] H := by
  obtain ⟨u19, d19, h19⟩ := seg19 (f := f) (cdv := cdv) (outer := outer) (s := s) (H0 := H0) (E := E) hr D
  refine ⟨_, (pss_cons (ps_set (i := 11) sclaw.nd rfl (Or.inl rfl) (pe_tup (pa_cons pe_str (pa_cons pe_str pa_nil))))
    (pss_cons (ps_if (PW.pt (pw_and (pt_val (pe_callB call_isi (by rfl) T.isinstance (by decide +kernel) (pa_cons (pv 16) (pa_cons (pe_bltn (v := .ty "int") (by rfl) T.int (by decide +kernel) rfl) pa_nil)))) (pw_and (pt_not (pt_val (pe_callB call_isi (by rfl) T.isinstance (by decide +kernel) (pa_cons (pv 16) (pa_cons (pe_bltn (v := .ty "bool") (by rfl) T.bool (by decide +kernel) rfl) pa_nil))))) (pw_and1 (pt_cmpR op_ge (pv 16) pe_int (nomark _))))))
      (pss_one (ps_set (i := 11) sclaw.nd rfl (Or.inl rfl) (pe_tup (pa_cons pe_str (pa_cons (pe_lc (own := [("_law_entry", 20)]) (g := gName 20) rfl sclaw.nd (pi_list (pv 3)) (blkOk_by (own := [("_law_entry", 20)]) (N := nmLaw) (sc := defScope slaw) (by decide +kernel)) (fun _ _ _ _ _ => pg_name (i := 20) sclaw.nd rfl (Or.inl rfl)) (fun _ _ _ _ _ => pts_nil) (fun _ _ _ _ _ => (pe_op op_mulW (pv 20) (pv 16))))
        (pa_cons (pe_lc (own := [("_law_entry", 20)]) (g := gName 20) rfl sclaw.nd (pi_list (pv 4)) (blkOk_by (own := [("_law_entry", 20)]) (N := nmLaw) (sc := defScope slaw) (by decide +kernel)) (fun _ _ _ _ _ => pg_name (i := 20) sclaw.nd rfl (Or.inl rfl)) (fun _ _ _ _ _ => pts_nil) (fun _ _ _ _ _ => (pe_op op_mulW (pv 20) (pv 16)))) pa_nil)))))) pss_nil)
    (pss_cons (ps_for PassesOwn.never rfl (pi_list (pe_lst (pa_cons pe_bl (pa_cons pe_bl pa_nil)))) (pg_name (i := 17) sclaw.nd rfl (Or.inl rfl)) (pss_one (ps_if (pt_not (pt_val (pe_df D.lSame hr (by decide) (pa_cons (pe_df D.lTimes hr (by decide) (pa_cons (pv 9) (pa_cons (pv 16) (pa_cons (pv 17) pa_nil)))) (pa_cons (pv 11) pa_nil))))) (pss_one (ps_ret pe_bl)) pss_nil))) d19))), ?_⟩
  intro p c a3 a4 a7 a8 x y sc ms ns ms' ns' En H v v0 v1 v2 v5 v6 v11 v12 v13 v14 v15 v17 v18 v19 v20 S pl sk k
  walk_at "rd"
  refine ⟨by show 2 ≤ sizeLine; decide, fun q1 n1 => ?_⟩
  have t1 := Same.up (o := .tup [V.str "refused", V.str "times"]) (Same.refl H) n1
  walk_at "rd"
  -- the loop, whatever is due
  have loop : ∀ (q : Addr) (H1 : Hp) (w17 w19 w20 : Option V), Sit C p c sc a3 a4 a7 a8 x y ms ns ms' ns' H1 → Dp K H1 (.ref q) (timesD ms ns v) →
      tSeq (tFor (iList K (tLst (tCons (tC (.bl true)) (tCons (tC (.bl false)) tNil)))) (gName 17) (tIfS (tNot (tB (tCall (spSame K 3) [] E0 (tCons (tCall (spTimes K C) [] E0 (tCons (tVar 9) (tCons (tVar 16) (tCons (tVar 17) tNil)))) (tCons (tVar 11) tNil))))) (tRet (tC (.bl false))) tNext)) u19 En
      [v0, v1, v2, some (.ref a3), some (.ref a4), v5, v6, some (.ref a7), some (.ref a8), some (.ref x), some (.ref y), some (.ref q), v12, v13, v14, v15, some v, w17, v18, w19, w20] H1 := by
    intro q H1 w17 w19 w20 S1 hq
    obtain ⟨g1, g2, -, -⟩ := S.g
    walk_at "rd"
    refine ⟨by show 2 ≤ sizeLine; decide, fun q2 n2 => ?_⟩
    have t2 := Same.up (o := .lst [V.bl true, V.bl false]) (Same.refl H1) n2
    refine ⟨q2, rfl, ⟨_, SqL.of upd_same⟩, for_it walk_list (fun i σ H' => ∃ u, σ = [v0, v1, v2, some (.ref a3), some (.ref a4), v5, v6, some (.ref a7), some (.ref a8), some (.ref x), some (.ref y), some (.ref q), v12, v13, v14, v15, some v, u, v18, w19, w20] ∧ Same (upd H1 q2 (.lst [V.bl true, V.bl false])) H')
      ⟨_, rfl, Same.refl _⟩ (fun i σ H' _ ⟨_, _, z⟩ => z.seq (SqL.of upd_same)) ?_ ?_⟩
    · rintro i b σ H2 H3 hi ⟨u, rfl, z⟩ ⟨rfl, e⟩
      obtain ⟨b, rfl⟩ := bl_at e
      have S2 := (S1.same t2).same z
      obtain ⟨dx, r1, r2, X, -⟩ := S2.X
      walk_at "rd"
      refine ⟨x, dx, r1, r2, _, _, v, b, rfl, X, g1, g2, fun m hm => ?_, pl, sk, fun r H4 s4 dr => ?_⟩
      · rcases List.mem_append.mp hm with h | h
        · exact S.d.1.sm h
        · exact S.d.2.1.sm h
      · walk_at "rd"
        refine ⟨_, _, _, rfl, dr, Dp.later ((t2.trans z).trans s4) hq, deep_times g1 g2, ?_⟩
        walk_at "rd"
        exact ⟨_, rfl, z.trans s4⟩
    · rintro σ H2 ⟨u, rfl, z⟩
      exact h19 En H2 _ _ _ _ _ _ _ _ _ _ _ _ _ _ _ ((S1.same t2).same z) k
  have iv := pl.iv x (upd H q1 (.tup [V.str "refused", V.str "times"]))
  have dno : (¬ ∃ k : Int, v = .int k ∧ 0 ≤ k) → Dp K (upd H q1 (.tup [V.str "refused", V.str "times"])) (.ref q1) (timesD ms ns v) := fun n => by
    rw [timesD_no n]
    exact .tup (SqT.of upd_same) (.cons (.str _) (.cons (.str _) .nil))
  refine r_isiI iv ?_
  walk_at "rd"
  by_cases hi : isI v = true
  · refine ifT hi ?_
    walk_at "rd"
    refine r_isiB iv ?_
    walk_at "rd"
    by_cases hb : isB v = true
    · refine ifF (by rw [hb]; rfl) ?_
      walk_at "rd"
      exact loop _ _ _ _ _ (S.same t1) (dno fun ⟨j, e, _⟩ => by rw [e] at hb; cases hb)
    · refine ifT (by rw [Bool.eq_false_iff.mpr hb]; rfl) ?_
      obtain ⟨j, rfl⟩ := whole_int (v := v) (by rw [whole, hi, Bool.eq_false_iff.mpr hb]; rfl)
      walk_at "rd"
      by_cases hj : 0 ≤ j
      · have sj := sk j rfl hj
        refine ifT (decide_eq_true hj) ?_
        walk_at "rd"
        refine ⟨a3, rfl, ⟨_, SqL.of (t1 _ _ S.l3.2)⟩, fun D1 n2 => lc_it walk_list (Out _ D1 fun i => V.int (ms.getD i 0 * j)) (Out.start n2) (fun i H1 _ z => z.1.seq (SqL.of (t1 _ _ S.l3.2))) ?_ ?_⟩
        · rintro i b H1 H2 hi z ⟨rfl, e1⟩
          obtain rfl := int_get e1
          rw [List.length_map] at hi
          walk_at "rd"
          refine ⟨rfl, ?_⟩
          walk_at "rd"
          refine r_I (sm_mul (S.d.1.sm (getD_mem hi)) sj) ?_
          exact Out.more n2 z (Same.refl _) (Nat.lt_of_lt_of_le hi (Nat.le_trans S.g.1.2.1 (by decide)))
        · intro H1 z1
          rw [List.length_map, Out, map_outR] at z1
          walk_at "rd"
          refine ⟨a4, rfl, ⟨_, SqL.of (z1.1 _ _ (t1 _ _ S.l4.2))⟩, fun D2 n3 => lc_it walk_list (Out H1 D2 fun i => V.int (ns.getD i 0 * j)) (Out.start n3) (fun i H1 _ z => z.1.seq (SqL.of (z1.1 _ _ (t1 _ _ S.l4.2)))) ?_ ?_⟩
          · rintro i b H1 H2 hi z ⟨rfl, e1⟩
            obtain rfl := int_get e1
            rw [List.length_map] at hi
            walk_at "rd"
            refine ⟨rfl, ?_⟩
            walk_at "rd"
            refine r_I (sm_mul (S.d.2.1.sm (getD_mem hi)) sj) ?_
            exact Out.more n3 z (Same.refl _) (Nat.lt_of_lt_of_le hi (Nat.le_trans S.g.2.1.2.1 (by decide)))
          · intro H2 z2
            rw [List.length_map, Out, map_outR] at z2
            walk_at "rd"
            refine ⟨by show 3 ≤ sizeLine; decide, fun q3 n4 => ?_⟩
            walk_at "rd"
            have n5 : D1 ≠ q3 := fun z => by
              have e := z2.1 _ _ z1.2
              rw [z, n4] at e
              cases e
            have n6 : D2 ≠ q3 := fun z => by
              have e := z2.2
              rw [z, n4] at e
              cases e
            refine loop _ _ _ _ _ (S.same (Same.up ((t1.trans z1.1).trans z2.1) n4)) ?_
            show Dp K _ _ (if 0 ≤ j then _ else _)
            rw [if_pos hj]
            exact .tup (SqT.of upd_same) (.cons (.str _) (.cons (Dp.ints (SqL.of (by rw [upd_ne n5]; exact z2.1 _ _ z1.2))) (.cons (Dp.ints (SqL.of (by rw [upd_ne n6]; exact z2.2))) .nil)))
      · refine ifF (decide_eq_false hj) ?_
        walk_at "rd"
        exact loop _ _ _ _ _ (S.same t1) (dno fun ⟨i, e, h⟩ => by cases e; exact hj h)
  · refine ifF (Bool.eq_false_iff.mpr hi) ?_
    walk_at "rd"
    exact loop _ _ _ _ _ (S.same t1) (dno fun ⟨j, e, _⟩ => hi (by rw [e]; rfl))
end
end Pk
set_option Elab.async false
set_option linter.all false
set_option maxRecDepth 100000
set_option maxHeartbeats 4000000
namespace Pk
open PySem L2
local macro_rules | `(tactic| walk_at "rd") => `(tactic| repeat (first
  | with_reducible refine r_seq ?_ | with_reducible refine r_nxt ?_ | with_reducible refine r_asg ?_ | with_reducible refine r_to ?_ | with_reducible refine r_ret ?_ | with_reducible refine r_for ?_ | with_reducible refine r_lc ?_ | with_reducible refine r_rng1 ?_ | with_reducible refine r_list ?_ | with_reducible refine r_tupI ?_ | with_reducible refine r_drop ?_ | with_reducible refine r_ifs ?_
  | with_reducible refine r_op ?_ | with_reducible refine r_c ?_ | with_reducible refine r_var rfl ?_ | with_reducible refine r_var (by assumption) ?_ | with_reducible refine r_I0 ?_ | with_reducible refine r_un ?_ | with_reducible refine r_U ?_ | with_reducible refine r_make ?_ | with_reducible refine r_sub ?_
  | with_reducible refine r_nil ?_ | with_reducible refine r_cons ?_ | with_reducible refine r_cb ?_ | with_reducible refine r_sl ?_ | with_reducible refine r_noP ?_ | with_reducible refine r_part ?_ | with_reducible refine r_isI ?_ | with_reducible refine r_lst ?_ | with_reducible refine r_tup ?_ | with_reducible refine r_call ?_ | with_reducible refine r_callS ?_ | with_reducible refine r_sFldU ?_ | with_reducible refine r_chain ?_ | with_reducible refine r_enum ?_ | with_reducible refine r_zip ?_ | with_reducible refine r_gtup ?_ | with_reducible refine r_methU ?_
  | with_reducible refine r_test ?_ | with_reducible refine r_B ?_ | with_reducible refine r_and ?_ | with_reducible refine r_or ?_ | with_reducible refine r_not ?_ | with_reducible refine r_andV ?_ | with_reducible refine r_orV ?_ | with_reducible refine r_notV ?_ | with_reducible refine r_bl ?_ | with_reducible refine r_yes ?_ | with_reducible refine r_int ?_ | with_reducible refine r_is0 ?_ | with_reducible refine r_is1 ?_ | with_reducible refine iteT ?_ | with_reducible refine iteF ?_ | with_reducible refine ite_nF ?_ | with_reducible refine ite_nT ?_
  | with_reducible refine r_mod (by decide) ?_ | with_reducible refine r_div (by decide) (by decide) ?_ | with_reducible refine r_mulR (by decide) (by decide) ?_ | with_reducible refine r_mulL (by decide) (by decide) ?_ | with_reducible refine r_pow (by decide) (by decide) (by decide) ?_))
theorem atI_lt {xs : List V} {i : Int} (h0 : 0 ≤ i) (h1 : i < xs.length) : ∃ v, atI xs i = some v ∧ v ∈ xs := by
  obtain ⟨k, rfl⟩ : ∃ k : Nat, i = (k : Int) := ⟨i.toNat, by omega⟩
  have hk : k < xs.length := by omega
  exact ⟨xs[k], atI_nat (List.getElem?_eq_getElem hk), List.getElem_mem hk⟩
theorem zip_comm (xs ys : List Int) : List.zipWith (· + ·) xs ys = List.zipWith (· + ·) ys xs := by
  rw [List.zipWith_comm]
  congr 1
  funext a b
  exact Int.add_comm _ _
theorem sumD_comm (ms ns ms' ns' : List Int) : sumD ms' ns' ms ns = sumD ms ns ms' ns' := by
  unfold sumD
  rw [zip_comm ms' ms, zip_comm ns' ns]
  by_cases e : ms.length = ms'.length ∧ ns.length = ns'.length
  · rw [if_pos e, if_pos ⟨e.1.symm, e.2.symm⟩]
  · rw [if_neg e, if_neg fun z => e ⟨z.1.symm, z.2.symm⟩]
theorem deep_ref : Deep 3 refD := .tup (fun d hd => by
  simp only [List.mem_cons, List.not_mem_nil, or_false] at hd
  rcases hd with rfl | rfl | rfl
  · exact .str _
  · exact .str _
  · exact .int _) (by decide)
theorem deep_sum {ms ns ms' ns' : List Int} (h : Gd ms) (g : Gd ns) : Deep 3 (sumD ms ns ms' ns') := by
  unfold sumD
  by_cases e : ms.length = ms'.length ∧ ns.length = ns'.length
  · rw [if_pos e]
    refine .tup (fun d hd => ?_) (by show 4 ≤ 1000; decide)
    simp only [List.mem_cons, List.not_mem_nil, or_false] at hd
    have a := h.2.1
    have b := g.2.1
    rcases hd with rfl | rfl | rfl | rfl
    · exact .str _
    · exact deep_ints (by rw [List.length_zipWith]; omega)
    · exact deep_ints (by rw [List.length_zipWith]; omega)
    · exact .int _
  · rw [if_neg e]
    exact deep_ref
/-- what is no amounts, one by one -/
theorem four_at {i : Nat} {y a b : V} (h : ([.non, .int 0, a, b] : List V)[i]? = some y) : y = .non ∨ y = .int 0 ∨ y = a ∨ y = b := by
  match i, h with
  | 0, h => exact .inl (Option.some.inj h).symm
  | 1, h => exact .inr (.inl (Option.some.inj h).symm)
  | 2, h => exact .inr (.inr (.inl (Option.some.inj h).symm))
  | 3, h => exact .inr (.inr (.inr (Option.some.inj h).symm))
  | i + 4, h => simp at h
theorem nine_at {g d r : Int} {v : V} (h0 : 0 ≤ r) (h9 : r < 9) (hg : 0 ≤ g ∧ g < 10 ^ 30) (hd : 0 ≤ d ∧ d < 9) (h : atI [V.int 0, .int 1, .int g, .int (2 + d), .int (-1), .bl true, .bl false, .str "2", .non] r = some v) :
    Plain1 v ∧ ∀ k : Int, v = .int k → 0 ≤ k → Sm k := by
  obtain ⟨j, rfl⟩ : ∃ j : Nat, r = (j : Int) := ⟨r.toNat, by omega⟩
  have hj : j < 9 := by omega
  have e10 : (10 : Int) ^ 30 = 1000000000000000000000000000000 := by decide
  rw [e10] at hg
  have sm : ∀ k : Int, k = 0 ∨ k = 1 ∨ k = g ∨ k = 2 + d ∨ k = -1 → Sm k := fun k hk => by
    show k.natAbs < 2 ^ 200
    rcases hk with rfl | rfl | rfl | rfl | rfl <;> omega
  match j, hj, h with
  | 0, _, h => cases (Option.some.inj ((atI_nat (j := 0) rfl).symm.trans h) : V.int 0 = v); exact ⟨.inl ⟨_, rfl⟩, fun k e _ => by cases e; exact sm _ (.inl rfl)⟩
  | 1, _, h => cases (Option.some.inj ((atI_nat (j := 1) rfl).symm.trans h) : V.int 1 = v); exact ⟨.inl ⟨_, rfl⟩, fun k e _ => by cases e; exact sm _ (.inr (.inl rfl))⟩
  | 2, _, h => cases (Option.some.inj ((atI_nat (j := 2) rfl).symm.trans h) : V.int g = v); exact ⟨.inl ⟨_, rfl⟩, fun k e _ => by cases e; exact sm _ (.inr (.inr (.inl rfl)))⟩
  | 3, _, h => cases (Option.some.inj ((atI_nat (j := 3) rfl).symm.trans h) : V.int (2 + d) = v); exact ⟨.inl ⟨_, rfl⟩, fun k e _ => by cases e; exact sm _ (.inr (.inr (.inr (.inl rfl))))⟩
  | 4, _, h => cases (Option.some.inj ((atI_nat (j := 4) rfl).symm.trans h) : V.int (-1) = v); exact ⟨.inl ⟨_, rfl⟩, fun k e _ => by cases e; exact sm _ (.inr (.inr (.inr (.inr rfl))))⟩
  | 5, _, h => cases (Option.some.inj ((atI_nat (j := 5) rfl).symm.trans h) : V.bl true = v); exact ⟨.inr (.inl ⟨_, rfl⟩), fun k e _ => by cases e⟩
  | 6, _, h => cases (Option.some.inj ((atI_nat (j := 6) rfl).symm.trans h) : V.bl false = v); exact ⟨.inr (.inl ⟨_, rfl⟩), fun k e _ => by cases e⟩
  | 7, _, h => cases (Option.some.inj ((atI_nat (j := 7) rfl).symm.trans h) : V.str "2" = v); exact ⟨.inr (.inr (.inl ⟨_, rfl⟩)), fun k e _ => by cases e⟩
  | 8, _, h => cases (Option.some.inj ((atI_nat (j := 8) rfl).symm.trans h) : V.non = v); exact ⟨.inr (.inr (.inr rfl)), fun k e _ => by cases e⟩
section
variable {P : Program} {w : World} {K : PySem.W.Frag} {mg : Str → Option Value} {base : Heap} {C CE CB p c a3 a4 a7 a8 x y : Addr} {sc ms ns ms' ns' : List Int} {H H' : Hp} {f : Addr} {cdv : Value} {A : Around} {outer : List Env} {s : Shared} {H0 : Hp} {E : XK}
/-- from the sums on -/
theorem seg12 (hr : Room 39 (xLaw P w K mg base f cdv A outer s H0 E).A) (T : Bt mg) (D : LD P w K mg base C CE CB) : ∃ u : TS, PSs (xLaw P w K mg base f cdv A outer s H0 E) ((defBody slaw).drop 12) u ∧
    ∀ {p c a3 a4 a7 a8 x y : Addr} {sc ms ns ms' ns' : List Int} (En : Ends) (H : Hp) (q : Addr) (v0 v2 v5 v6 v12 v13 v14 v15 v16 v17 v18 v19 v20 : Option V), Sit C p c sc a3 a4 a7 a8 x y ms ns ms' ns' H → Dp K H (.ref q) (sumD ms ns ms' ns') → (∀ H', En.rt (.bl true) H') →
      u En [v0, some (.ref p), v2, some (.ref a3), some (.ref a4), v5, v6, some (.ref a7), some (.ref a8), some (.ref x), some (.ref y), some (.ref q), v12, v13, v14, v15, v16, v17, v18, v19, v20] H := by
  obtain ⟨u16, d16, h16⟩ := seg16 (f := f) (cdv := cdv) (outer := outer) (s := s) (H0 := H0) (E := E) hr T D
  refine ⟨_, (pss_cons (ps_if (PW.pt (pw_or (pt_not (pt_val (pe_df D.lSame hr (by decide) (pa_cons (pe_df D.lAdded hr (by decide) (pa_cons (pv 9) (pa_cons (pv 10) pa_nil))) (pa_cons (pv 11) pa_nil))))) (pw_or1 (pt_not (pt_val (pe_df D.lSame hr (by decide) (pa_cons (pe_df D.lAdded hr (by decide) (pa_cons (pv 10) (pa_cons (pv 9) pa_nil))) (pa_cons (pv 11) pa_nil)))))))) (pss_one (ps_ret pe_bl)) pss_nil)
    (pss_cons (ps_for PassesOwn.never rfl (pi_list (pe_lst (pa_cons pe_non (pa_cons pe_int (pa_cons (pe_callTy cl_lst (by rfl) T.list (by decide +kernel) (pa_cons (pv 3) pa_nil)) (pa_cons (pe_tup (pa_cons pe_int (pa_cons pe_int pa_nil))) pa_nil)))))) (pg_name (i := 14) sclaw.nd rfl (Or.inl rfl)) (pss_one (ps_if (pt_not (pt_val (pe_df D.lSame hr (by decide) (pa_cons (pe_df D.lAdded hr (by decide) (pa_cons (pv 9) (pa_cons (pv 14) pa_nil))) (pa_cons (pe_tup (pa_cons pe_str (pa_cons pe_str (pa_cons (pe_un un_neg pe_int) pa_nil)))) pa_nil))))) (pss_one (ps_ret pe_bl)) pss_nil)))
    (pss_cons (ps_set (i := 15) sclaw.nd rfl (Or.inl rfl) (pe_df D.lNumber hr (by decide) (pa_cons (pv 1) (pa_cons pe_int pa_nil))))
    (pss_cons (ps_set (i := 16) sclaw.nd rfl (Or.inr rfl) (pe_ix ix_list (pe_lst (pa_cons pe_int (pa_cons pe_int (pa_cons (pv 15) (pa_cons (pe_op op_add pe_int (pe_df D.lDraw hr (by decide) (pa_cons (pv 1) (pa_cons pe_int pa_nil)))) (pa_cons (pe_un un_neg pe_int) (pa_cons pe_bl (pa_cons pe_bl (pa_cons pe_str (pa_cons pe_non pa_nil)))))))))) (pe_df D.lDraw hr (by decide) (pa_cons (pv 1) (pa_cons pe_int pa_nil))) (fun _ _ => rfl))) d16)))), ?_⟩
  intro p c a3 a4 a7 a8 x y sc ms ns ms' ns' En H q v0 v2 v5 v6 v12 v13 v14 v15 v16 v17 v18 v19 v20 S hq k
  obtain ⟨dx, r1, r2, X, -⟩ := S.X
  obtain ⟨dy, q1, q2, Y, -⟩ := S.Y
  obtain ⟨g1, g2, g3, g4⟩ := S.g
  walk_at "rd"
  refine ⟨x, dx, r1, r2, _, _, _, rfl, X, g1, g2, .inr ⟨y, dy, q1, q2, _, _, rfl, Y, g3, g4, fun v H1 s1 dv => ?_⟩⟩
  walk_at "rd"
  refine ⟨_, _, _, rfl, dv, Dp.later s1 hq, deep_sum g1 g2, ?_⟩
  walk_at "rd"
  refine ⟨y, dy, q1, q2, _, _, _, rfl, Y.same s1, g3, g4, .inr ⟨x, dx, r1, r2, _, _, rfl, X.same s1, g1, g2, fun v H2 s2 dv2 => ?_⟩⟩
  walk_at "rd"
  rw [sumD_comm] at dv2
  refine ⟨_, _, _, rfl, dv2, Dp.later (s1.trans s2) hq, deep_sum g1 g2, ?_⟩
  have t2 := s1.trans s2
  walk_at "rd"
  refine r_lstOf (SqL.of (t2 _ _ S.l3.2)) fun l1 n1 => ?_
  have t3 := Same.up (o := .lst (ms.map V.int)) t2 n1
  walk_at "rd"
  refine ⟨by show 2 ≤ sizeLine; decide, fun l2 n2 => ?_⟩
  have t4 := Same.up (o := .tup [V.int 1, V.int 2]) t3 n2
  walk_at "rd"
  refine ⟨by show 4 ≤ sizeLine; decide, fun l3 n3 => ?_⟩
  have t5 := Same.up (o := .lst [V.non, V.int 0, V.ref l1, V.ref l2]) t4 n3
  have n12 : l1 ≠ l2 := fun z => by rw [← z, upd_same] at n2; cases n2
  have n23 : l2 ≠ l3 := fun z => by rw [← z, upd_same] at n3; cases n3
  have n13 : l1 ≠ l3 := fun z => by rw [← z, upd_ne n12, upd_same] at n3; cases n3
  have f1 : (upd (upd (upd H2 l1 (.lst (ms.map V.int))) l2 (.tup [V.int 1, V.int 2])) l3 (.lst [V.non, V.int 0, V.ref l1, V.ref l2])) l1 = some (.lst (ms.map V.int)) := by rw [upd_ne n13, upd_ne n12, upd_same]
  have f2 : (upd (upd (upd H2 l1 (.lst (ms.map V.int))) l2 (.tup [V.int 1, V.int 2])) l3 (.lst [V.non, V.int 0, V.ref l1, V.ref l2])) l2 = some (.tup [V.int 1, V.int 2]) := by rw [upd_ne n23, upd_same]
  have f3 : (upd (upd (upd H2 l1 (.lst (ms.map V.int))) l2 (.tup [V.int 1, V.int 2])) l3 (.lst [V.non, V.int 0, V.ref l1, V.ref l2])) l3 = some (.lst [V.non, V.int 0, V.ref l1, V.ref l2]) := upd_same
  generalize (upd (upd (upd H2 l1 (.lst (ms.map V.int))) l2 (.tup [V.int 1, V.int 2])) l3 (.lst [V.non, V.int 0, V.ref l1, V.ref l2])) = H3 at t5 f1 f2 f3 ⊢
  refine ⟨l3, rfl, ⟨_, SqL.of f3⟩, for_it walk_list (fun i σ H' => ∃ u, σ = [v0, some (.ref p), v2, some (.ref a3), some (.ref a4), v5, v6, some (.ref a7), some (.ref a8), some (.ref x), some (.ref y), some (.ref q), v12, v13, u, v15, v16, v17, v18, v19, v20] ∧ Same H3 H')
      ⟨_, rfl, Same.refl _⟩ (fun i σ H' _ ⟨_, _, z⟩ => z.seq (SqL.of f3)) ?_ ?_⟩
  · rintro i b σ H4 H5 hi ⟨u, rfl, z⟩ ⟨rfl, e⟩
    have tt := t5.trans z
    have no : ∃ t : String, TyX K H5 b (.type t) ∧ t ∈ (["NoneType", "int", "list", "tuple"] : List String) ∧ t ∈ (["NoneType", "int", "bool", "str", "list", "tuple", "dict"] : List String) := by
      rcases four_at e with rfl | rfl | rfl | rfl
      · exact ⟨"NoneType", .base .non, by simp, by simp⟩
      · exact ⟨"int", .base (.int 0), by simp, by simp⟩
      · exact ⟨"list", .base (.lst (z _ _ f1)), by simp, by simp⟩
      · exact ⟨"tuple", .base (.tup (z _ _ f2)), by simp, by simp⟩
    obtain ⟨t, ty, m1, m2⟩ := no
    walk_at "rd"
    refine ⟨x, dx, r1, r2, _, _, b, rfl, X.same tt, g1, g2, .inl ⟨D.M.bA.other D.M.O ty m1 m2, ⟨t, ty, m2⟩, fun v H6 s6 dv => ?_⟩⟩
    walk_at "rd"
    refine ⟨by show 3 ≤ sizeLine; decide, fun l4 n4 => ?_⟩
    have t7 := Same.up (o := .tup [V.str "refused", V.str "size", V.int (-1)]) s6 n4
    walk_at "rd"
    refine ⟨_, _, _, rfl, Dp.later (Same.up (Same.refl H6) n4) dv, .tup (SqT.of upd_same) (.cons (.str _) (.cons (.str _) (.cons (.int _) .nil))), deep_ref, ?_⟩
    walk_at "rd"
    exact ⟨_, rfl, Same.trans z (Same.up s6 n4)⟩
  · rintro σ H4 ⟨u, rfl, z⟩
    have S4 := S.same (t5.trans z)
    walk_at "rd"
    refine ⟨p, c, sc, 5, rfl, S4.pool, by decide, by decide, fun g H5 h0 h1 k5 p5 => ?_⟩
    have S5 := S4.keep k5 p5
    walk_at "rd"
    refine ⟨p, c, sc, 9, rfl, p5, by decide, by decide, fun d H6 d0 d1 k6 p6 => ?_⟩
    have S6 := S5.keep k6 p6
    walk_at "rd"
    refine ⟨by show 9 ≤ sizeLine; decide, fun l5 n5 => ?_⟩
    have S7 := S6.same (Same.up (o := .lst [V.int 0, .int 1, .int g, .int (2 + d), .int (-1), .bl true, .bl false, .str "2", .non]) (Same.refl H6) n5)
    walk_at "rd"
    refine ⟨p, c, sc, 9, rfl, S7.pool, by decide, by decide, fun r H8 e0 e1 k8 p8 => ?_⟩
    have S8 := S7.keep k8 p8
    obtain ⟨v, hv, -⟩ := atI_lt (xs := [V.int 0, .int 1, .int g, .int (2 + d), .int (-1), .bl true, .bl false, .str "2", .non]) e0 e1
    refine r_ixL (SqL.of (k8 _ _ (S6.pool.apart n5) upd_same)) hv ?_
    have nn := nine_at e0 e1 ⟨h0, by have e : (1000000 : Int) ^ (5 : Int).toNat = 10 ^ 30 := by decide
                                     rw [e] at h1; exact h1⟩ ⟨d0, d1⟩ hv
    exact h16 En H8 v _ _ _ _ _ _ _ _ _ _ _ _ _ _ S8 nn.1 nn.2 k
end
end Pk
set_option Elab.async false
set_option linter.all false
set_option maxRecDepth 100000
set_option maxHeartbeats 4000000
namespace Pk
open PySem L2
local macro_rules | `(tactic| walk_at "rd") => `(tactic| repeat (first
  | with_reducible refine r_seq ?_ | with_reducible refine r_nxt ?_ | with_reducible refine r_asg ?_ | with_reducible refine r_to ?_ | with_reducible refine r_ret ?_ | with_reducible refine r_for ?_ | with_reducible refine r_lc ?_ | with_reducible refine r_rng1 ?_ | with_reducible refine r_list ?_ | with_reducible refine r_tupI ?_ | with_reducible refine r_drop ?_ | with_reducible refine r_ifs ?_
  | with_reducible refine r_op ?_ | with_reducible refine r_c ?_ | with_reducible refine r_var rfl ?_ | with_reducible refine r_var (by assumption) ?_ | with_reducible refine r_I0 ?_ | with_reducible refine r_un ?_ | with_reducible refine r_U ?_ | with_reducible refine r_make ?_ | with_reducible refine r_sub ?_
  | with_reducible refine r_nil ?_ | with_reducible refine r_cons ?_ | with_reducible refine r_cb ?_ | with_reducible refine r_sl ?_ | with_reducible refine r_noP ?_ | with_reducible refine r_part ?_ | with_reducible refine r_isI ?_ | with_reducible refine r_lst ?_ | with_reducible refine r_tup ?_ | with_reducible refine r_call ?_ | with_reducible refine r_callS ?_ | with_reducible refine r_sFldU ?_ | with_reducible refine r_chain ?_ | with_reducible refine r_enum ?_ | with_reducible refine r_zip ?_ | with_reducible refine r_gtup ?_ | with_reducible refine r_methU ?_
  | with_reducible refine r_test ?_ | with_reducible refine r_B ?_ | with_reducible refine r_and ?_ | with_reducible refine r_or ?_ | with_reducible refine r_not ?_ | with_reducible refine r_andV ?_ | with_reducible refine r_orV ?_ | with_reducible refine r_notV ?_ | with_reducible refine r_bl ?_ | with_reducible refine r_yes ?_ | with_reducible refine r_int ?_ | with_reducible refine r_is0 ?_ | with_reducible refine r_is1 ?_ | with_reducible refine iteT ?_ | with_reducible refine iteF ?_ | with_reducible refine ite_nF ?_ | with_reducible refine ite_nT ?_
  | with_reducible refine r_mod (by decide) ?_ | with_reducible refine r_div (by decide) (by decide) ?_ | with_reducible refine r_mulR (by decide) (by decide) ?_ | with_reducible refine r_mulL (by decide) (by decide) ?_ | with_reducible refine r_pow (by decide) (by decide) (by decide) ?_))
theorem sum_zip : ∀ {xs ys : List Int}, xs.length = ys.length → (List.zipWith (· + ·) xs ys).sum = xs.sum + ys.sum
  | [], [], _ => rfl
  | x :: xs, y :: ys, h => by
    have ih := sum_zip (xs := xs) (ys := ys) (by simpa using h)
    simp only [List.zipWith_cons_cons, List.sum_cons, ih]
    omega
theorem at_get {ms : List Int} {i : Nat} (h : i < ms.length) : atI (ms.map V.int) (0 + (i : Int)) = some (.int (ms.getD i 0)) := by
  rw [Int.zero_add]
  exact atI_nat (j := i) (by rw [List.getElem?_map, List.getElem?_eq_getElem h, List.getD_eq_getElem?_getD, List.getElem?_eq_getElem h]; rfl)
section
variable {P : Program} {w : World} {K : PySem.W.Frag} {mg : Str → Option Value} {base : Heap} {C CE CB p c a3 a4 a7 a8 x y : Addr} {sc ms ns ms' ns' : List Int} {H H' : Hp} {f : Addr} {cdv : Value} {A : Around} {outer : List Env} {s : Shared} {H0 : Hp} {E : XK}
/-- from what is due of the sum on -/
theorem seg10 (hr : Room 39 (xLaw P w K mg base f cdv A outer s H0 E).A) (T : Bt mg) (D : LD P w K mg base C CE CB) : ∃ u : TS, PSs (xLaw P w K mg base f cdv A outer s H0 E) ((defBody slaw).drop 10) u ∧
    ∀ {p c a3 a4 a7 a8 x y : Addr} {sc ms ns ms' ns' : List Int} (En : Ends) (H : Hp) (v0 v2 v11 v12 v13 v14 v15 v16 v17 v18 v19 v20 : Option V), Sit C p c sc a3 a4 a7 a8 x y ms ns ms' ns' H → (∀ H', En.rt (.bl true) H') →
      u En [v0, some (.ref p), v2, some (.ref a3), some (.ref a4), some (.int (ms'.length : Int)), some (.int (ns'.length : Int)), some (.ref a7), some (.ref a8), some (.ref x), some (.ref y), v11, v12, v13, v14, v15, v16, v17, v18, v19, v20] H := by
  obtain ⟨u12, d12, h12⟩ := seg12 (f := f) (cdv := cdv) (outer := outer) (s := s) (H0 := H0) (E := E) hr T D
  refine ⟨_, (pss_cons (ps_set (i := 11) sclaw.nd rfl (Or.inl rfl) (pe_tup (pa_cons pe_str (pa_cons pe_str (pa_cons (pe_un un_neg pe_int) pa_nil)))))
  (pss_cons (ps_if (PW.pt (pw_and (pt_cmpR op_eq (pv 5) (pe_callB cl_len (by rfl) T.len (by decide +kernel) (pa_cons (pv 3) pa_nil)) (nomark _)) (pw_and1 (pt_cmpR op_eq (pv 6) (pe_callB cl_len (by rfl) T.len (by decide +kernel) (pa_cons (pv 4) pa_nil)) (nomark _))))) (pss_cons (ps_set (i := 12) sclaw.nd rfl (Or.inl rfl) (pe_op op_sub (pe_op op_sub (pe_op op_add (pe_callB (cr_sum rfl) (by rfl) T.sum (by decide +kernel) (pa_cons (pv 3) pa_nil)) (pe_callB (cr_sum rfl) (by rfl) T.sum (by decide +kernel) (pa_cons (pv 7) pa_nil))) (pe_callB (cr_sum rfl) (by rfl) T.sum (by decide +kernel) (pa_cons (pv 4) pa_nil))) (pe_callB (cr_sum rfl) (by rfl) T.sum (by decide +kernel) (pa_cons (pv 8) pa_nil))))
  (pss_cons (ps_setLc (i := 13) (own := [("_law_k", 19)]) (g := gName 19) rfl sclaw.nd rfl rfl (sw_true rfl rfl rfl (by decide +kernel)) (pi_range1 rfl T.range (pa_cons (pv 5) pa_nil)) (blkOk_by (own := [("_law_k", 19)]) (N := nmLaw) (sc := defScope slaw) (by decide +kernel)) (fun _ _ _ _ _ => pg_name (i := 19) sclaw.nd rfl (Or.inl rfl)) (fun _ _ _ _ _ => pts_nil) (fun _ _ _ _ _ => (pe_op op_add (pe_ix (r := rIxL K) ix_list (pv 3) (pv 19) (fun _ _ => rfl)) (pe_ix (r := rIxL K) ix_list (pv 7) (pv 19) (fun _ _ => rfl)))))
  (pss_one (ps_set (i := 11) sclaw.nd rfl (Or.inl rfl) (pe_tup (pa_cons pe_str (pa_cons (pv 13) (pa_cons (pe_lc (own := [("_law_k", 19)]) (g := gName 19) rfl sclaw.nd (pi_range1 rfl T.range (pa_cons (pv 6) pa_nil)) (blkOk_by (own := [("_law_k", 19)]) (N := nmLaw) (sc := defScope slaw) (by decide +kernel)) (fun _ _ _ _ _ => pg_name (i := 19) sclaw.nd rfl (Or.inl rfl)) (fun _ _ _ _ _ => pts_nil) (fun _ _ _ _ _ => (pe_op op_add (pe_ix (r := rIxL K) ix_list (pv 4) (pv 19) (fun _ _ => rfl)) (pe_ix (r := rIxL K) ix_list (pv 8) (pv 19) (fun _ _ => rfl))))) (pa_cons (pv 12) pa_nil))))))))) pss_nil) d12)), ?_⟩
  intro p c a3 a4 a7 a8 x y sc ms ns ms' ns' En H v0 v2 v11 v12 v13 v14 v15 v16 v17 v18 v19 v20 S k
  obtain ⟨g1, g2, g3, g4⟩ := S.g
  have dec : ∀ a b : Nat, decide (V.int (a : Int) = V.int (b : Int)) = decide (a = b) := fun a b => decide_eq_decide.mpr ⟨fun h => Int.ofNat.inj (V.int.inj h), fun h => by rw [h]⟩
  walk_at "rd"
  refine ⟨by show 3 ≤ sizeLine; decide, fun q1 n1 => ?_⟩
  have t1 := Same.up (o := .tup [V.str "refused", V.str "size", V.int (-1)]) (Same.refl H) n1
  have no : ¬ (ms.length = ms'.length ∧ ns.length = ns'.length) → Dp K (upd H q1 (.tup [V.str "refused", V.str "size", V.int (-1)])) (.ref q1) (sumD ms ns ms' ns') := fun e => by
    rw [sumD, if_neg e]
    exact .tup (SqT.of upd_same) (.cons (.str _) (.cons (.str _) (.cons (.int _) .nil)))
  walk_at "rd"
  refine r_lenL (SqL.of (t1 _ _ S.l3.2)) ?_
  walk_at "rd"
  refine r_eq rfl ?_
  walk_at "rd"
  rw [List.length_map, dec]
  by_cases e1 : ms'.length = ms.length
  · refine ifT (decide_eq_true e1) ?_
    walk_at "rd"
    refine r_lenL (SqL.of (t1 _ _ S.l4.2)) ?_
    walk_at "rd"
    refine r_eq rfl ?_
    walk_at "rd"
    rw [List.length_map, dec]
    by_cases e2 : ns'.length = ns.length
    · refine ifT (decide_eq_true e2) ?_
      walk_at "rd"
      refine r_sum (SqL.of (t1 _ _ S.l3.2)) ?_
      walk_at "rd"
      refine r_sum (SqL.of (t1 _ _ S.l7.2)) ?_
      walk_at "rd"
      refine r_sum (SqL.of (t1 _ _ S.l4.2)) ?_
      walk_at "rd"
      refine r_sum (SqL.of (t1 _ _ S.l8.2)) ?_
      walk_at "rd"
      have b8 := g3.2.1
      have b9 := g4.2.1
      refine ⟨(ms'.length : Int), rfl, by omega, by omega, fun D1 n2 => lc_it walk_range (Out _ D1 fun i => V.int (ms.getD i 0 + ms'.getD i 0)) (Out.start n2) (fun _ _ _ _ => trivial) ?_ ?_⟩
      · rintro i b H1 H2 hi z ⟨rfl, rfl⟩
        have hi' : i < ms'.length := by simpa using hi
        walk_at "rd"
        refine ⟨rfl, ?_⟩
        walk_at "rd"
        refine r_ixL (SqL.of (z.1 _ _ (t1 _ _ S.l3.2))) (at_get (by omega)) ?_
        walk_at "rd"
        refine r_ixL (SqL.of (z.1 _ _ (t1 _ _ S.l7.2))) (at_get hi') ?_
        walk_at "rd"
        exact Out.more n2 z (Same.refl _) (Nat.lt_of_lt_of_le (by omega : i < 8) (by decide))
      · intro H1 z1
        rw [show ((ms'.length : Int)).toNat = ms.length by omega, Out, zip_out e1.symm] at z1
        walk_at "rd"
        refine ⟨(ns'.length : Int), rfl, by omega, by omega, fun D2 n3 => lc_it walk_range (Out _ D2 fun i => V.int (ns.getD i 0 + ns'.getD i 0)) (Out.start n3) (fun _ _ _ _ => trivial) ?_ ?_⟩
        · rintro i b H2 H3 hi z ⟨rfl, rfl⟩
          have hi' : i < ns'.length := by simpa using hi
          walk_at "rd"
          refine ⟨rfl, ?_⟩
          walk_at "rd"
          refine r_ixL (SqL.of (z.1 _ _ (z1.1 _ _ (t1 _ _ S.l4.2)))) (at_get (by omega)) ?_
          walk_at "rd"
          refine r_ixL (SqL.of (z.1 _ _ (z1.1 _ _ (t1 _ _ S.l8.2)))) (at_get hi') ?_
          walk_at "rd"
          exact Out.more n3 z (Same.refl _) (Nat.lt_of_lt_of_le (by omega : i < 8) (by decide))
        · intro H2 z2
          rw [show ((ns'.length : Int)).toNat = ns.length by omega, Out, zip_out e2.symm] at z2
          walk_at "rd"
          refine ⟨by show 4 ≤ sizeLine; decide, fun q3 n4 => ?_⟩
          walk_at "rd"
          have m1 : D1 ≠ q3 := fun z => by
            have e := z2.1 _ _ z1.2
            rw [z, n4] at e
            cases e
          have m2 : D2 ≠ q3 := fun z => by
            have e := z2.2
            rw [z, n4] at e
            cases e
          refine h12 En _ q3 _ _ _ _ _ _ _ _ _ _ _ _ _ (S.same (Same.up ((t1.trans z1.1).trans z2.1) n4)) ?_ k
          rw [sumD, if_pos ⟨e1.symm, e2.symm⟩, sum_zip e1.symm, sum_zip e2.symm]
          rw [show ms.sum + ms'.sum - (ns.sum + ns'.sum) = ms.sum + ms'.sum - ns.sum - ns'.sum by omega]
          exact .tup (SqT.of upd_same) (.cons (.str _) (.cons (Dp.ints (SqL.of (by rw [upd_ne m1]; exact z2.1 _ _ z1.2))) (.cons (Dp.ints (SqL.of (by rw [upd_ne m2]; exact z2.2))) (.cons (.int _) .nil))))
    · refine ifF (decide_eq_false e2) ?_
      walk_at "rd"
      exact h12 En _ q1 _ _ _ _ _ _ _ _ _ _ _ _ _ (S.same t1) (no fun z => e2 z.2.symm) k
  · refine ifF (decide_eq_false e1) ?_
    walk_at "rd"
    exact h12 En _ q1 _ _ _ _ _ _ _ _ _ _ _ _ _ (S.same t1) (no fun z => e1 z.1.symm) k
end
end Pk
set_option Elab.async false
set_option linter.all false
set_option maxRecDepth 100000
set_option maxHeartbeats 4000000
namespace Pk
open PySem L2
local macro_rules | `(tactic| walk_at "rd") => `(tactic| repeat (first
  | with_reducible refine r_seq ?_ | with_reducible refine r_nxt ?_ | with_reducible refine r_asg ?_ | with_reducible refine r_to ?_ | with_reducible refine r_ret ?_ | with_reducible refine r_for ?_ | with_reducible refine r_lc ?_ | with_reducible refine r_rng1 ?_ | with_reducible refine r_list ?_ | with_reducible refine r_tupI ?_ | with_reducible refine r_drop ?_ | with_reducible refine r_ifs ?_
  | with_reducible refine r_op ?_ | with_reducible refine r_c ?_ | with_reducible refine r_var rfl ?_ | with_reducible refine r_var (by assumption) ?_ | with_reducible refine r_I0 ?_ | with_reducible refine r_un ?_ | with_reducible refine r_U ?_ | with_reducible refine r_make ?_ | with_reducible refine r_sub ?_
  | with_reducible refine r_nil ?_ | with_reducible refine r_cons ?_ | with_reducible refine r_cb ?_ | with_reducible refine r_sl ?_ | with_reducible refine r_noP ?_ | with_reducible refine r_part ?_ | with_reducible refine r_isI ?_ | with_reducible refine r_lst ?_ | with_reducible refine r_tup ?_ | with_reducible refine r_call ?_ | with_reducible refine r_callS ?_ | with_reducible refine r_sFldU ?_ | with_reducible refine r_chain ?_ | with_reducible refine r_enum ?_ | with_reducible refine r_zip ?_ | with_reducible refine r_gtup ?_ | with_reducible refine r_methU ?_
  | with_reducible refine r_test ?_ | with_reducible refine r_B ?_ | with_reducible refine r_and ?_ | with_reducible refine r_or ?_ | with_reducible refine r_not ?_ | with_reducible refine r_andV ?_ | with_reducible refine r_orV ?_ | with_reducible refine r_notV ?_ | with_reducible refine r_bl ?_ | with_reducible refine r_yes ?_ | with_reducible refine r_int ?_ | with_reducible refine r_is0 ?_ | with_reducible refine r_is1 ?_ | with_reducible refine iteT ?_ | with_reducible refine iteF ?_ | with_reducible refine ite_nF ?_ | with_reducible refine ite_nT ?_
  | with_reducible refine r_mod (by decide) ?_ | with_reducible refine r_div (by decide) (by decide) ?_ | with_reducible refine r_mulR (by decide) (by decide) ?_ | with_reducible refine r_mulL (by decide) (by decide) ?_ | with_reducible refine r_pow (by decide) (by decide) (by decide) ?_))
theorem two_at {a b r : Int} (h0 : 0 ≤ r) (h2 : r < 2) (ha : 1 ≤ a ∧ a ≤ 8) (hb : 1 ≤ b ∧ b ≤ 8) : ∃ h : Int, atI [V.int a, V.int b] r = some (.int h) ∧ 1 ≤ h ∧ h ≤ 8 := by
  obtain rfl | rfl : r = 0 ∨ r = 1 := by omega
  · exact ⟨a, atI_nat (j := 0) rfl, ha⟩
  · exact ⟨b, atI_nat (j := 1) rfl, hb⟩
section
variable {P : Program} {w : World} {K : PySem.W.Frag} {mg : Str → Option Value} {base : Heap} {C CE CB : Addr} {f : Addr} {fd : FuncData}
theorem ok_law (F : Fun K "law" "law" slaw f fd) (D : LD P w K mg base C CE CB) (T : Bt mg) : FnOk P w K mg base CX0 40 f fd ["_law_script"] (spLaw K) := by
  refine F.ok sclaw (fun vs H Q E h => ?_) (fun cdv A outer s H vs Q E hr h => ?_)
  · obtain ⟨l, ns, rfl, _⟩ := h
    rfl
  · obtain ⟨l, sc, rfl, hl, h63, k⟩ := h
    obtain ⟨u10, d10, h10⟩ := seg10 (f := f) (cdv := cdv) (outer := outer) (s := s) (H0 := H) (E := E) hr T D
    refine ⟨_, (pss_cons (ps_set (i := 1) sclaw.nd rfl (Or.inl rfl) (pe_df D.lPool hr (by decide) (pa_cons (pv 0) pa_nil)))
  (pss_cons (ps_set (i := 2) sclaw.nd rfl (Or.inl rfl) (pe_df D.lDraw hr (by decide) (pa_cons (pv 1) (pa_cons pe_int pa_nil))))
  (pss_cons (ps_set (i := 3) sclaw.nd rfl (Or.inr rfl) (pe_df D.lList hr (by decide) (pa_cons (pv 1) (pa_cons (pe_op op_add pe_int (pe_df D.lDraw hr (by decide) (pa_cons (pv 1) (pa_cons pe_int pa_nil)))) pa_nil))))
  (pss_cons (ps_set (i := 4) sclaw.nd rfl (Or.inr rfl) (pe_df D.lList hr (by decide) (pa_cons (pv 1) (pa_cons (pe_op op_add pe_int (pe_df D.lDraw hr (by decide) (pa_cons (pv 1) (pa_cons pe_int pa_nil)))) pa_nil))))
  (pss_cons (ps_set (i := 5) sclaw.nd rfl (Or.inl rfl) (pe_ix ix_list (pe_lst (pa_cons (pe_op op_add pe_int (pe_df D.lDraw hr (by decide) (pa_cons (pv 1) (pa_cons pe_int pa_nil)))) (pa_cons (pe_callB cl_len (by rfl) T.len (by decide +kernel) (pa_cons (pv 3) pa_nil)) pa_nil))) (pv 2) (fun _ _ => rfl)))
  (pss_cons (ps_set (i := 6) sclaw.nd rfl (Or.inl rfl) (pe_ix ix_list (pe_lst (pa_cons (pe_op op_add pe_int (pe_df D.lDraw hr (by decide) (pa_cons (pv 1) (pa_cons pe_int pa_nil)))) (pa_cons (pe_callB cl_len (by rfl) T.len (by decide +kernel) (pa_cons (pv 4) pa_nil)) pa_nil))) (pv 2) (fun _ _ => rfl)))
  (pss_cons (ps_set (i := 7) sclaw.nd rfl (Or.inr rfl) (pe_df D.lList hr (by decide) (pa_cons (pv 1) (pa_cons (pv 5) pa_nil))))
  (pss_cons (ps_set (i := 8) sclaw.nd rfl (Or.inr rfl) (pe_df D.lList hr (by decide) (pa_cons (pv 1) (pa_cons (pv 6) pa_nil))))
  (pss_cons (ps_set (i := 9) sclaw.nd rfl (Or.inl rfl) (pe_dkL D.M.made hr (by decide) (pa_cons (pe_callTy cl_lst (by rfl) T.list (by decide +kernel) (pa_cons (pv 3) pa_nil)) (pa_cons (pe_callTy cl_lst (by rfl) T.list (by decide +kernel) (pa_cons (pv 4) pa_nil)) pa_nil))))
  (pss_cons (ps_set (i := 10) sclaw.nd rfl (Or.inl rfl) (pe_dkL D.M.made hr (by decide) (pa_cons (pe_callTy cl_lst (by rfl) T.list (by decide +kernel) (pa_cons (pv 7) pa_nil)) (pa_cons (pe_callTy cl_lst (by rfl) T.list (by decide +kernel) (pa_cons (pv 8) pa_nil)) pa_nil)))) d10)))))))))), ?_⟩
    walk_at "rd"
    refine ⟨l, sc, rfl, hl, h63, fun p c H1 hp hc s1 P1 => ?_⟩
    walk_at "rd"
    refine ⟨p, c, sc, 2, rfl, P1, by decide, by decide, fun al H2 a0 a1 k2 P2 => ?_⟩
    walk_at "rd"
    refine ⟨p, c, sc, 8, rfl, P2, by decide, by decide, fun d3 H3 b0 b1 k3 P3 => ?_⟩
    walk_at "rd"
    refine ⟨p, c, sc, _, rfl, P3, by omega, by omega, fun a3 ms H4 k4 P4 L3 e3 D3 => ?_⟩
    walk_at "rd"
    refine ⟨p, c, sc, 8, rfl, P4, by decide, by decide, fun d4 H5 c0 c1 k5 P5 => ?_⟩
    walk_at "rd"
    refine ⟨p, c, sc, _, rfl, P5, by omega, by omega, fun a4 ns H6 k6 P6 L4 e4 D4 => ?_⟩
    have L3 := (L3.keep k5).keep k6
    walk_at "rd"
    refine ⟨p, c, sc, 8, rfl, P6, by decide, by decide, fun d5 H7 f0 f1 k7 P7 => ?_⟩
    have L3 := L3.keep k7
    have L4 := L4.keep k7
    walk_at "rd"
    refine r_lenL (SqL.of L3.2) ?_
    walk_at "rd"
    refine ⟨by show 2 ≤ sizeLine; decide, fun q1 n1 => ?_⟩
    rw [List.length_map]
    have L3 := L3.same (Same.up (o := .lst [V.int (1 + d5), V.int (ms.length : Int)]) (Same.refl H7) n1)
    have L4 := L4.same (Same.up (o := .lst [V.int (1 + d5), V.int (ms.length : Int)]) (Same.refl H7) n1)
    have P8 := P7.sameS (Same.up (o := .lst [V.int (1 + d5), V.int (ms.length : Int)]) (Same.refl H7) n1)
    obtain ⟨ht, ih, h1, h8⟩ := two_at (a := 1 + d5) (b := (ms.length : Int)) a0 a1 (by omega) (by omega)
    walk_at "rd"
    refine r_ixL (SqL.of upd_same) ih ?_
    walk_at "rd"
    refine ⟨p, c, sc, 8, rfl, P8, by decide, by decide, fun d6 H8 g0 g1 k8 P9 => ?_⟩
    have L3 := L3.keep k8
    have L4 := L4.keep k8
    walk_at "rd"
    refine r_lenL (SqL.of L4.2) ?_
    walk_at "rd"
    refine ⟨by show 2 ≤ sizeLine; decide, fun q2 n2 => ?_⟩
    rw [List.length_map]
    have L3 := L3.same (Same.up (o := .lst [V.int (1 + d6), V.int (ns.length : Int)]) (Same.refl H8) n2)
    have L4 := L4.same (Same.up (o := .lst [V.int (1 + d6), V.int (ns.length : Int)]) (Same.refl H8) n2)
    have P10 := P9.sameS (Same.up (o := .lst [V.int (1 + d6), V.int (ns.length : Int)]) (Same.refl H8) n2)
    obtain ⟨wd, iw, w1, w8⟩ := two_at (a := 1 + d6) (b := (ns.length : Int)) a0 a1 (by omega) (by omega)
    walk_at "rd"
    refine r_ixL (SqL.of upd_same) iw ?_
    walk_at "rd"
    refine ⟨p, c, sc, _, rfl, P10, by omega, by omega, fun a7 ms' H9 k9 P11 L7 e7 D7 => ?_⟩
    have L3 := L3.keep k9
    have L4 := L4.keep k9
    walk_at "rd"
    refine ⟨p, c, sc, _, rfl, P11, by omega, by omega, fun a8 ns' H10 k10 P12 L8 e8 D8 => ?_⟩
    have L3 := L3.keep k10
    have L4 := L4.keep k10
    have L7 := L7.keep k10
    have g1' := D3.gd (by omega) (by omega)
    have g2' := D4.gd (by omega) (by omega)
    have g3' := D7.gd (by omega) (by omega)
    have g4' := D8.gd (by omega) (by omega)
    walk_at "rd"
    refine r_lstOf (SqL.of L3.2) fun q3 n3 => ?_
    have t3 := Same.up (o := .lst (ms.map V.int)) (Same.refl H10) n3
    walk_at "rd"
    refine r_lstOf (SqL.of (t3 _ _ L4.2)) fun q4 n4 => ?_
    have t4 := Same.up (o := .lst (ns.map V.int)) t3 n4
    have n34 : q3 ≠ q4 := fun z => by rw [← z, upd_same] at n4; cases n4
    walk_at "rd"
    intro x dx nx nd ne
    have px : x ≠ p := (P12.sameS t4).apart nx
    refine mk_am nx nd ne (by rw [upd_ne n34, upd_same]) upd_same g1' g2' fun H11 r1 r2 m1 m2 _ X s11 => ⟨rfl, ?_⟩
    have t11 : Same H10 H11 := t4.trans s11
    have AX : AL p C H11 x ms ns := ⟨dx, r1, r2, X, px, (P12.sameS t4).apart m1, (P12.sameS t4).apart m2⟩
    walk_at "rd"
    refine r_lstOf (SqL.of (t11 _ _ L7.2)) fun q5 n5 => ?_
    have t12 := Same.up (o := .lst (ms'.map V.int)) t11 n5
    walk_at "rd"
    refine r_lstOf (SqL.of (t12 _ _ L8.2)) fun q6 n6 => ?_
    have t13 := Same.up (o := .lst (ns'.map V.int)) t12 n6
    have t13' := Same.up (o := .lst (ns'.map V.int)) (Same.up (o := .lst (ms'.map V.int)) (Same.refl H11) n5) n6
    have n56 : q5 ≠ q6 := fun z => by rw [← z, upd_same] at n6; cases n6
    walk_at "rd"
    intro y dy ny my ney
    refine mk_am ny my ney (by rw [upd_ne n56, upd_same]) upd_same g3' g4' fun H12 r3 r4 m3 m4 _ Y s12 => ⟨rfl, ?_⟩
    have t14 : Same H10 H12 := t13.trans s12
    have AY : AL p C H12 y ms' ns' := ⟨dy, r3, r4, Y, (P12.sameS t13).apart ny, (P12.sameS t13).apart m3, (P12.sameS t13).apart m4⟩
    walk_at "rd"
    rw [← e7, ← e8]
    exact h10 _ H12 _ _ _ _ _ _ _ _ _ _ _ _ ⟨P12.sameS t14, L3.same t14, L4.same t14, L7.same t14, L8.same t14, AX.same (t13'.trans s12), AY, ⟨D3, D4, D7, D8⟩, ⟨g1', g2', g3', g4'⟩⟩ k
end
end Pk
set_option Elab.async false
set_option linter.all false
set_option maxRecDepth 100000
set_option maxHeartbeats 4000000
namespace Pk
open PySem L2
local macro_rules | `(tactic| walk_at "rd") => `(tactic| repeat (first
  | with_reducible refine r_seq ?_ | with_reducible refine r_nxt ?_ | with_reducible refine r_asg ?_ | with_reducible refine r_to ?_ | with_reducible refine r_ret ?_ | with_reducible refine r_for ?_ | with_reducible refine r_lc ?_ | with_reducible refine r_rng1 ?_ | with_reducible refine r_list ?_ | with_reducible refine r_tupI ?_ | with_reducible refine r_drop ?_ | with_reducible refine r_ifs ?_
  | with_reducible refine r_op ?_ | with_reducible refine r_c ?_ | with_reducible refine r_var rfl ?_ | with_reducible refine r_var (by assumption) ?_ | with_reducible refine r_I0 ?_ | with_reducible refine r_un ?_ | with_reducible refine r_U ?_ | with_reducible refine r_make ?_ | with_reducible refine r_sub ?_
  | with_reducible refine r_nil ?_ | with_reducible refine r_cons ?_ | with_reducible refine r_cb ?_ | with_reducible refine r_sl ?_ | with_reducible refine r_noP ?_ | with_reducible refine r_part ?_ | with_reducible refine r_isI ?_ | with_reducible refine r_lst ?_ | with_reducible refine r_tup ?_ | with_reducible refine r_call ?_ | with_reducible refine r_callS ?_ | with_reducible refine r_sFldU ?_ | with_reducible refine r_chain ?_ | with_reducible refine r_enum ?_ | with_reducible refine r_zip ?_ | with_reducible refine r_gtup ?_ | with_reducible refine r_methU ?_
  | with_reducible refine r_test ?_ | with_reducible refine r_B ?_ | with_reducible refine r_and ?_ | with_reducible refine r_or ?_ | with_reducible refine r_not ?_ | with_reducible refine r_andV ?_ | with_reducible refine r_orV ?_ | with_reducible refine r_notV ?_ | with_reducible refine r_bl ?_ | with_reducible refine r_yes ?_ | with_reducible refine r_int ?_ | with_reducible refine r_is0 ?_ | with_reducible refine r_is1 ?_ | with_reducible refine iteT ?_ | with_reducible refine iteF ?_ | with_reducible refine ite_nF ?_ | with_reducible refine ite_nT ?_
  | with_reducible refine r_mod (by decide) ?_ | with_reducible refine r_div (by decide) (by decide) ?_ | with_reducible refine r_mulR (by decide) (by decide) ?_ | with_reducible refine r_mulL (by decide) (by decide) ?_ | with_reducible refine r_pow (by decide) (by decide) (by decide) ?_))
theorem add_name : PySem.dunder Operator.Add.info.2 = ("__add__" : Str) := by decide +kernel
theorem BinC.of4 {K : PySem.W.Frag} {C : Addr} {nm T1 T2 T3 T4 : String} {rc f1 r1 f2 r2 f3 r3 f4 r4 : Option Value} (sf : PySem.W.selfFirst K C = true) (rc1 : PySem.W.findIn K (.ref C) (PySem.dunderR nm) = some rc) (rc2 : rc = none ∨ ∃ g : Addr, rc = some (.ref g))
    (x1 : PySem.W.findIn K (.type T1) (PySem.dunder nm) = some f1) (y1 : PySem.W.findIn K (.type T1) (PySem.dunderR nm) = some r1) (x2 : PySem.W.findIn K (.type T2) (PySem.dunder nm) = some f2) (y2 : PySem.W.findIn K (.type T2) (PySem.dunderR nm) = some r2)
    (x3 : PySem.W.findIn K (.type T3) (PySem.dunder nm) = some f3) (y3 : PySem.W.findIn K (.type T3) (PySem.dunderR nm) = some r3) (x4 : PySem.W.findIn K (.type T4) (PySem.dunder nm) = some f4) (y4 : PySem.W.findIn K (.type T4) (PySem.dunderR nm) = some r4) : BinC K C nm [T1, T2, T3, T4] :=
  ⟨sf, ⟨rc, rc1, rc2⟩, fun T h => by
    simp only [List.mem_cons, List.not_mem_nil, or_false] at h
    rcases h with rfl | rfl | rfl | rfl
    · exact ⟨_, _, x1, y1⟩
    · exact ⟨_, _, x2, y2⟩
    · exact ⟨_, _, x3, y3⟩
    · exact ⟨_, _, x4, y4⟩⟩
open PySem.W
theorem all_mk {l : PySem.W.OpenLaw} {w : World} {K : PySem.W.Frag} {h : Heap} {mg : Str → Option Value} {fa : Addr} (X : K.In h) (G : h.Ns mainGlobals mg) (hfa : mg "law" = some (.ref fa)) {CB fI cc c CE fJ ce c2 CA : Addr}
    (bt : BtIn K) (top : (l.prog.main.scope.names.lookup ("super" : Str)).isSome = false)
    (dOwn : DefAt K "own_copy" sCopy) (eB : ErrAt1 l.prog K "InvalidBound" "InvalidBound.__init__" slIB CB fI cc c) (fn : PySem.W.findIn K (.ref CB) "name" = some none)
    (eA : ErrAt1 l.prog K "InvalidAmounts" "InvalidAmounts.__init__" slIA CE fJ ce c2) (fw : PySem.W.findIn K (.ref CE) "word" = some none) (ft : PySem.W.findIn K (.ref CE) "at" = some none)
    (dInt : DefAt K "is_integer" slIsInt) (dChk : DefAt K "check_line_amounts" slChk) {tk : Tok} (aMost : PySem.W.nsIn K mainGlobals "MOST_LINES" = some (some (.int 8 tk)))
    (dPool : DefAt K "_law_pool" slPool) (dMix : DefAt K "_law_mixed" slMixed) (dDraw : DefAt K "_law_draw" slDraw) (dNum : DefAt K "_law_number" slNumber) (dSame : DefAt K "_law_same" slSame)
    (dList : DefAt K "_law_list" slList) (dAdded : DefAt K "_law_added" slAdded) (dTimes : DefAt K "_law_times" slTimes) (dKept : DefAt K "_law_kept" slKept) (dLaw : DefAt K "law" slaw)
    (aA : PySem.W.nsIn K mainGlobals "Amounts" = some (some (.ref CA))) (mI : MethAt K CA "__init__" "Amounts.__init__" slAmI) (mE : MethAt K CA "__eq__" "Amounts.__eq__" slEq) (mA : MethAt K CA "__add__" "Amounts.__add__" slAdd) (mM : MethAt K CA "__mul__" "Amounts.__mul__" slMul)
    (mR : MethAt K CA "__rmul__" "Amounts.__rmul__" slRmul) (mL : MethAt K CA "is_as_long" "Amounts.is_as_long" slLong) (mS : MethAt K CA "stocks" "Amounts.stocks" slStocks) (mW : MethAt K CA "wishes" "Amounts.wishes" slWishes) (mO : MethAt K CA "over" "Amounts.over" slOver)
    (O : OwnC K CA) (bA : BinC K CA "add" ["NoneType", "int", "list", "tuple"]) (bM : BinC K CA "mul" ["NoneType", "int", "bool", "str"]) (mk : PySem.W.makesIn K CA = true) (kc : PySem.W.keepIn K (.ref CA) = true)
    (u1 : PySem.W.subIn K (.ref CA) (.type "int") = some false) (u2 : PySem.W.subIn K (.ref CA) (.type "bool") = some false) (u3 : PySem.W.subIn K (.ref CA) (.type "str") = some false) (u4 : PySem.W.subIn K (.ref CA) (.type "NoneType") = some false)
    (ne : PySem.W.findIn K (.ref CA) "__ne__" = some (some (.builtin "object.__ne__"))) (nH : PySem.W.findIn K (.ref CA) "held" = some none) (nW : PySem.W.findIn K (.ref CA) "wished" = some none) :
    ∃ fd : FuncData, (∀ (s : Shared) (u : Value), BindsTo s fd ⟨[u], []⟩ [("_law_script", u)]) ∧ ∀ base : Heap, K.In base → base.Ns mainGlobals mg → FnOk l.prog w K mg base CX0 40 fa fd ["_law_script"] (spLaw K) := by
  have T := bt.bt X G
  obtain ⟨f1, fd1, F1, m1⟩ := dOwn.fn X G
  obtain ⟨f2, fd2, F2, m2⟩ := dInt.fn X G
  obtain ⟨f3, fd3, F3, m3⟩ := dChk.fn X G
  obtain ⟨f6, fd6, F6, m6⟩ := dPool.fn X G
  obtain ⟨f7, fd7, F7, m7⟩ := dMix.fn X G
  obtain ⟨f8, fd8, F8, m8⟩ := dDraw.fn X G
  obtain ⟨f9, fd9, F9, m9⟩ := dNum.fn X G
  obtain ⟨f10, fd10, F10, m10⟩ := dSame.fn X G
  obtain ⟨f11, fd11, F11, m11⟩ := dList.fn X G
  obtain ⟨f12, fd12, F12, m12⟩ := dAdded.fn X G
  obtain ⟨f13, fd13, F13, m13⟩ := dTimes.fn X G
  obtain ⟨f14, fd14, F14, m14⟩ := dKept.fn X G
  obtain ⟨f15, fd15, F15, m15⟩ := dLaw.fn X G
  obtain ⟨gi, gdi, Gi, ni⟩ := mI.fn
  obtain ⟨ge, gde, Ge, nE⟩ := mE.fn
  obtain ⟨ga, gda, Ga, na⟩ := mA.fn
  obtain ⟨gm, gdm, Gm, nm⟩ := mM.fn
  obtain ⟨gr, gdr, Gr, nr⟩ := mR.fn
  obtain ⟨gl, gdl, Gl, nl⟩ := mL.fn
  obtain ⟨gs, gds, Gs, ns⟩ := mS.fn
  obtain ⟨gw, gdw, Gw, nw⟩ := mW.fn
  obtain ⟨go, gdo, Go, no⟩ := mO.fn
  have e := hfa.symm.trans m15
  cases e
  have b15 : ∀ (s : Shared) (u : Value), BindsTo s fd15 ⟨[u], []⟩ [("_law_script", u)] := fun s u => by
    obtain ⟨oc, od, kV, doc, pm, an, cdv, ct, osl, rfl, lk, hcd⟩ := F15.ex
    exact .of_eq rfl
  refine ⟨fd15, b15, fun base _ _ => ?_⟩
  have AC : AmC K CA := ⟨O.cl, nH, nW⟩
  have gA := PySem.W.mg_of X G aA
  have B1 : Binds K fd1 ["value"] [] := F1.binds fun _ _ _ _ _ _ us hl => match us, hl with | [_], _ => rfl
  have mk1 : ∀ {fd x st f ps sp n}, Fun K x x st f fd → mg x = some (.ref f) → Binds K fd ps [] → FnOk l.prog w K mg base CX0 n f fd ps sp → Df l.prog w K mg base CX0 x n ps sp := fun F m b o => ⟨_, _, m, F.kp, b, o⟩
  have D2 := mk1 F2 m2 (ps := ["value"]) (F2.binds fun _ _ _ _ _ _ us hl => match us, hl with | [_], _ => rfl) (ok_isInt F2 T)
  have D3 := mk1 F3 m3 (ps := ["word", "numbers"]) (F3.binds fun _ _ _ _ _ _ us hl => match us, hl with | [_, _], _ => rfl) (ok_chk F3 T (PySem.W.mg_of X G aMost) D2)
  have D6 := mk1 F6 m6 (ps := ["_law_script"]) (F6.binds fun _ _ _ _ _ _ us hl => match us, hl with | [_], _ => rfl) (ok_pool F6 T)
  have D7 := mk1 F7 m7 (ps := ["_law_pool_here", "_law_cell"]) (F7.binds fun _ _ _ _ _ _ us hl => match us, hl with | [_, _], _ => rfl) (ok_mixed F7 T)
  have D8 := mk1 F8 m8 (ps := ["_law_pool_here", "_law_size"]) (F8.binds fun _ _ _ _ _ _ us hl => match us, hl with | [_, _], _ => rfl) (ok_draw F8 T D7)
  have D9 := mk1 F9 m9 (ps := ["_law_pool_here", "_law_parts"]) (F9.binds fun _ _ _ _ _ _ us hl => match us, hl with | [_, _], _ => rfl) (ok_number F9 T D8)
  have D10 := mk1 F10 m10 (ps := ["_law_actual", "_law_due"]) (F10.binds fun _ _ _ _ _ _ us hl => match us, hl with | [_, _], _ => rfl) (ok_same F10 T m10 3)
  have D11 := mk1 F11 m11 (ps := ["_law_pool_here", "_law_many"]) (F11.binds fun _ _ _ _ _ _ us hl => match us, hl with | [_, _], _ => rfl) (ok_list F11 T D9 D8)
  have G1 := ok_copy (P := l.prog) (w := w) (base := base) F1 T m1 1
  have E1 : De l.prog w K mg base "InvalidBound" 3 (spErr1 K 1 CB "name") CB := eB.de X G (ok_IB eB.errC (eB.init top ⟨_, rfl⟩) T G1 m1 F1.kp B1 fn)
  have E2 : De l.prog w K mg base "InvalidAmounts" 3 (spErr2 K 1 CE "word" "at") CE := eA.de X G (ok_IA eA.errC (eA.init top ⟨_, rfl⟩) T G1 m1 F1.kp B1 fw ft)
  have DA : Dk l.prog w K mg base (L2.CX l.prog w) "Amounts" 3 ["self", "stocks", "wishes"] (spAmI CA) CA :=
    ⟨gi, gdi, gA, ⟨mk, ni.at_, ni.fn, kc⟩, Gi.binds fun _ _ _ _ _ _ us hl => match us, hl with | [_, _, _], _ => rfl, ok_amI Gi T AC D3⟩
  have oL := ok_long (P := l.prog) (w := w) (mg := mg) (base := base) Gl T AC
  have bL : Binds K gdl ["self", "held", "wished"] [] := Gl.binds fun _ _ _ _ _ _ us hl => match us, hl with | [_, _, _], _ => rfl
  have oM := ok_amMul Gm T AC D2 DA E1
  have bMu : Binds K gdm ["self", "other"] [] := Gm.binds fun _ _ _ _ _ _ us hl => match us, hl with | [_, _], _ => rfl
  have M : AmM l.prog w K mg base CA CE CB :=
    { A := AC, O := O
      stocks := ⟨gs, gds, ns, ok_stocks Gs T AC, Gs.binds fun _ _ _ _ _ _ us hl => match us, hl with | [_], _ => rfl⟩
      wishes := ⟨gw, gdw, nw, ok_wishes Gw T AC, Gw.binds fun _ _ _ _ _ _ us hl => match us, hl with | [_], _ => rfl⟩
      over := ⟨go, gdo, no, ok_over Go T AC, Go.binds fun _ _ _ _ _ _ us hl => match us, hl with | [_], _ => rfl⟩
      eq := ⟨ge, gde, nE, ok_amEq Ge T AC O gA, Ge.binds fun _ _ _ _ _ _ us hl => match us, hl with | [_, _], _ => rfl⟩
      add := ⟨ga, gda, add_name ▸ na, ok_amAdd Ga T AC O gA DA nl oL bL E2, Ga.binds fun _ _ _ _ _ _ us hl => match us, hl with | [_, _], _ => rfl⟩
      mul := ⟨gm, gdm, mul_name ▸ nm, oM, bMu⟩
      rmul := ⟨gr, gdr, nr, ok_amRmul Gr O bM nm oM bMu, Gr.binds fun _ _ _ _ _ _ us hl => match us, hl with | [_, _], _ => rfl⟩
      bA := bA, bM := bM, up := ⟨u1, u2, u3, u4⟩, ne := ne, made := DA }
  have D12 := mk1 F12 m12 (ps := ["_law_amounts", "_law_other"]) (F12.binds fun _ _ _ _ _ _ us hl => match us, hl with | [_, _], _ => rfl) (ok_added F12 M E2 fw ft)
  have D13 := mk1 F13 m13 (ps := ["_law_amounts", "_law_times_here", "_law_left"]) (F13.binds fun _ _ _ _ _ _ us hl => match us, hl with | [_, _, _], _ => rfl) (ok_times F13 M E1 fn)
  have D14 := mk1 F14 m14 (ps := ["_law_amounts", "_law_stocks", "_law_wishes"]) (F14.binds fun _ _ _ _ _ _ us hl => match us, hl with | [_, _, _], _ => rfl) (ok_kept F14 T M D10)
  exact ok_law F15 ⟨D6, D8, D9, D10, D11, D12, D13, D14, M⟩ T
end Pk
set_option Elab.async false
set_option linter.all false
set_option maxRecDepth 100000
namespace Pk
open PySem L2
theorem walk {l : PySem.W.OpenLaw} {q : Program} {loose : List Str} {XP : (Str → Option Value) → Heap → Prop} {YP : World → Heap → Prop} {d : DefRec} {K : Params → PySem.W.Frag} (hn : l.most = some 63) (hdf : d.params.defaults = [])
    (hY : ∀ (w : World) (h : Heap), YP w h → (K w.params).In h)
    (F : ∀ (w : World) (mg : Str → Option Value) (fa : Addr) (h : Heap), (K w.params).In h → h.Ns mainGlobals mg → mg d.name = some (.ref fa) →
      ∃ fd : FuncData, (∀ (s : Shared) (u : Value), BindsTo s fd ⟨[u], []⟩ [("_law_script", u)]) ∧ ∀ base : Heap, (K w.params).In base → base.Ns mainGlobals mg → FnOk l.prog w (K w.params) mg base CX0 40 fa fd ["_law_script"] (spLaw (K w.params))) :
    PySem.W.WalkO q loose XP YP l.row.toRowW d [] (fun f vs => PySem.call f vs) :=
  L2.walk_of (n := 63) (k := 40) (x := "_law_script") (CX := fun _ => CX0) (sp := fun w => spLaw (K w.params)) hn (by decide) hdf ⟨rfl, by decide, by decide⟩ hY F (fun _ _ a ns hl _ hS => ⟨a, ns, rfl, hS, hl, fun _ => rfl⟩) fun _ _ _ _ _ z => z
end Pk
local macro_rules | `(tactic| walk_at "pk_def") => `(tactic| (refine' Pk.DefAt.of ?a ?l ?c ?k; (case a => k_is); (case l => k_is); (case c => k_is); (case k => k_is)))
local macro_rules | `(tactic| walk_at "pk_defK") => `(tactic| (refine' Pk.DefAtK.of ?a ?l ?c ?k ?n; (case a => k_is); (case l => k_is); (case c => k_is); (case k => k_is); (case n => k_is)))
local macro_rules | `(tactic| walk_at "pk_meth") => `(tactic| (refine' Pk.MethAt.of ?a ?l ?c ?k ?i; (case a => k_is); (case l => k_is); (case c => k_is); (case k => k_is); (case i => k_is)))
open PySem PySem.W PyProof.Rows Pk in
set_option maxRecDepth 100000 in
set_option maxHeartbeats 0 in
theorem PySem.Challenge.cw_pairorder_k07_amounts_added_holds : PySem.Challenge.rw_pairorder_k07_amounts_added.Holds := by
  w_on; o_law; k_head; (case hw => w_witness2)
  k_fill
  refine Pk.walk (l := PySem.Challenge.rw_pairorder_k07_amounts_added) rfl rfl (fun w h Y => PySem.W.kIn_of Y) ?F
  case F =>
    intro w mg fa h KX G hmg
    refine' Pk.all_mk KX G hmg ?z_bt ?z_top ?z_dOwn ?z_eB ?z_fn ?z_eA ?z_fw ?z_ft ?z_dInt ?z_dChk ?z_aMost ?z_dPool ?z_dMix ?z_dDraw ?z_dNum ?z_dSame ?z_dList ?z_dAdded ?z_dTimes ?z_dKept ?z_dLaw ?z_aA ?z_mI ?z_mE ?z_mA ?z_mM ?z_mR ?z_mL ?z_mS ?z_mW ?z_mO ?z_O ?z_bA ?z_bM ?z_mk ?z_kc ?z_u1 ?z_u2 ?z_u3 ?z_u4 ?z_ne ?z_nH ?z_nW
    case z_bt =>
      intro x hx
      simp only [List.mem_cons, List.not_mem_nil, or_false] at hx
      rcases hx with rfl | rfl | rfl | rfl | rfl | rfl | rfl | rfl | rfl | rfl | rfl | rfl | rfl | rfl | rfl | rfl | rfl | rfl <;> k_is
    case z_top => rfl
    case z_dOwn => walk_at "pk_def"
    case z_eB =>
      refine' Pk.ErrAt1.of ?at_ ?cls ?sa ?exB ?exA ?ty ?kp ?ini ?fnt ?fn ?code ?cell ?file ?file2 ?file3 ?opq ?sup ?below ?ga ?gg ?hd ?isC ?own
      case at_ => k_is
      case cls => k_is
      case sa => k_is
      case exB => k_is
      case exA => k_is
      case ty => k_is
      case kp => k_is
      case ini => k_is
      case fnt => k_is
      case fn => k_is
      case code => k_is
      case cell => k_is
      case file => k_is
      case file2 => rfl
      case file3 => rfl
      case opq => k_is
      case sup => first | k_is | ks_is
      case below => k_is
      case ga => k_is
      case gg => k_is
      case hd => k_is
      case isC => k_is
      case own => k_is
    case z_fn => k_is
    case z_eA =>
      refine' Pk.ErrAt1.of ?at_ ?cls ?sa ?exB ?exA ?ty ?kp ?ini ?fnt ?fn ?code ?cell ?file ?file2 ?file3 ?opq ?sup ?below ?ga ?gg ?hd ?isC ?own
      case at_ => k_is
      case cls => k_is
      case sa => k_is
      case exB => k_is
      case exA => k_is
      case ty => k_is
      case kp => k_is
      case ini => k_is
      case fnt => k_is
      case fn => k_is
      case code => k_is
      case cell => k_is
      case file => k_is
      case file2 => rfl
      case file3 => rfl
      case opq => k_is
      case sup => first | k_is | ks_is
      case below => k_is
      case ga => k_is
      case gg => k_is
      case hd => k_is
      case isC => k_is
      case own => k_is
    case z_fw => k_is
    case z_ft => k_is
    case z_dInt => walk_at "pk_def"
    case z_dChk => walk_at "pk_def"
    case z_aMost => k_is
    case z_dPool => walk_at "pk_def"
    case z_dMix => walk_at "pk_def"
    case z_dDraw => walk_at "pk_def"
    case z_dNum => walk_at "pk_def"
    case z_dSame => walk_at "pk_def"
    case z_dList => walk_at "pk_def"
    case z_dAdded => walk_at "pk_def"
    case z_dTimes => walk_at "pk_def"
    case z_dKept => walk_at "pk_def"
    case z_dLaw => walk_at "pk_def"
    case z_aA => k_is
    case z_mI => walk_at "pk_meth"
    case z_mE => walk_at "pk_meth"
    case z_mA => walk_at "pk_meth"
    case z_mM => walk_at "pk_meth"
    case z_mR => walk_at "pk_meth"
    case z_mL => walk_at "pk_meth"
    case z_mS => walk_at "pk_meth"
    case z_mW => walk_at "pk_meth"
    case z_mO => walk_at "pk_meth"
    case z_O =>
      refine' Pk.OwnC.of ?pg ?hd ?po ?sa ?ha ?hn ?htk ?hm ?isC ?ty ?s1 ?s2 ?s3 ?s4 ?s5 ?s6 ?s7
      case pg => k_is
      case hd => k_is
      case po => k_is
      case sa => k_is
      case ha => k_is
      case hn => k_is
      case htk => k_is
      case hm => k_is
      case isC => k_is
      case ty => k_is
      case s1 => k_is
      case s2 => k_is
      case s3 => k_is
      case s4 => k_is
      case s5 => k_is
      case s6 => k_is
      case s7 => k_is
    case z_bA =>
      refine' Pk.BinC.of4 ?sf ?rc1 ?rc2 ?x1 ?y1 ?x2 ?y2 ?x3 ?y3 ?x4 ?y4
      case sf => k_is
      case rc1 => k_is
      case rc2 => exact .inl rfl
      case x1 => k_is
      case y1 => k_is
      case x2 => k_is
      case y2 => k_is
      case x3 => k_is
      case y3 => k_is
      case x4 => k_is
      case y4 => k_is
    case z_bM =>
      refine' Pk.BinC.of4 ?sf ?rc1 ?rc2 ?x1 ?y1 ?x2 ?y2 ?x3 ?y3 ?x4 ?y4
      case sf => k_is
      case rc1 => k_is
      case rc2 => exact .inr ⟨_, rfl⟩
      case x1 => k_is
      case y1 => k_is
      case x2 => k_is
      case y2 => k_is
      case x3 => k_is
      case y3 => k_is
      case x4 => k_is
      case y4 => k_is
    case z_mk => k_is
    case z_kc => k_is
    case z_u1 => k_is
    case z_u2 => k_is
    case z_u3 => k_is
    case z_u4 => k_is
    case z_ne => k_is
    case z_nH => k_is
    case z_nW => k_is
