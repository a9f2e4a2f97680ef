import PyProof.Rows.All
import Wide.All
import OpenK.AllK
import Wide.FinOn
import HandS.ForMost
import HandS.Exc
import HandS.TryOnly
import HandS.WordsExc
import HandS.IsInst
import HandS.ExcInit
import HandS.ExcSuper
import HandS.ExcField
import HandS.Nested
import KE.KExcSuper
import HandS.Defaults
import HandS.CallSlots
import HandS.MakeKwOnly
import HandS.Walk
import PySem.Challenge.RW_pairorder_k01_integers_and_kinds
set_option Elab.async false
set_option linter.all false
set_option maxRecDepth 100000
/-! What the laws of this program share: the reading's steps, the heap but for one object, the pool of draws. -/
namespace Pk
open PySem L2

/-! ### steps of a reading -/
section
variable {K : PySem.W.Frag} {σ : L2.St} {H : Hp} {Q : VK} {D : Ends} {ta tb te to ti : TE} {t u : TS} {tt tu : TT} {tr : TA} {i j : Nat} {v w : V} {a b : Int}
theorem r_seq (h : t { D with nx := u D } σ H) : tSeq t u D σ H := h
theorem r_nxt (h : D.nx σ H) : tNext D σ H := h
theorem r_asg {g : TG} (h : te σ H fun x H1 => g x σ H1 D.nx) : tAsg te g D σ H := h
theorem r_to {P : L2.St → Hp → Prop} (h : P (σ.set i (some v)) H) : gName i v σ H P := h
theorem r_for {wi : TI} {g : TG} (h : wi σ H fun J H1 => ∃ W : Nat → Nat → L2.St → Hp → Prop, (∃ m, W 0 m σ H1) ∧ ∀ i m σ H, W i m σ H →
    (J.stop i H ∧ D.nx σ H) ∨ (J.go i H ∧ ∃ N : L2.St → Hp → Prop, (∀ σ' H', N σ' H' → ∃ m', m' < m ∧ W (i + 1) m' σ' H') ∧ ∀ x H', J.yld i H x H' → g x σ H' fun σ2 H2 => t { D with nx := N, ct := N, bk := D.nx } σ2 H2)) : tFor wi g t D σ H := h
theorem r_lc {wi : TI} {g : TG} {vs : List Nat} (h : wi σ H fun J H1 => ∀ D, H1 D = none → ∃ W : Nat → Nat → Hp → Prop, (∃ m, W 0 m (upd H1 D (.lst []))) ∧ ∀ i m H, W i m H →
    (J.stop i H ∧ Q (.ref D) H) ∨ (J.go i H ∧ ∃ Nx : Hp → Prop, (∀ H', Nx H' → ∃ m', m' < m ∧ W (i + 1) m' H') ∧ ∀ x H', J.yld i H x H' → g x (wipe σ vs) H' fun σ2 H2 => wipe σ2 vs = wipe σ vs ∧ tt σ2 H2 fun b H3 =>
      if b = true then te σ2 H3 fun y H4 => ∃ acc, H4 D = some (.lst acc) ∧ acc.length < sizeLine ∧ Nx (upd H4 D (.lst (acc ++ [y]))) else Nx H3)) : tLc wi g tt te vs σ H Q := h
theorem r_tupI {R : It → Hp → Prop} (h : te σ H fun x H1 => ∃ l, x = .ref l ∧ (∃ xs, SqT K H1 l xs) ∧ R (Itt K l) H1) : iTup K te σ H R := h
theorem r_yes {P : Bool → Hp → Prop} (h : P true H) : tYes σ H P := h
theorem r_B {P : Bool → Hp → Prop} (h : te σ H fun x H1 => ∃ c, x = .bl c ∧ P c H1) : tB te σ H P := h
theorem r_rng1 {R : It → Hp → Prop} (h : tr σ H fun vs H1 => ∃ j : Int, vs = [.int j] ∧ -(2 ^ 62) ≤ j ∧ j < 2 ^ 62 ∧ R (Itr 0 j.toNat) H1) : iRng1 tr σ H R := h
theorem r_list {R : It → Hp → Prop} (h : te σ H fun x H1 => ∃ l, x = .ref l ∧ (∃ xs, SqL K H1 l xs) ∧ R (Itl K l) H1) : iList K te σ H R := h
theorem r_ret (h : te σ H D.rt) : tRet te D σ H := h
theorem r_drop (h : te σ H fun _ H1 => D.nx σ H1) : tDrop te D σ H := h
theorem r_ifs (h : tt σ H fun c H1 => if c = true then t D σ H1 else u D σ H1) : tIfS tt t u D σ H := h
theorem r_var (e : σ[i]? = some (some v)) (h : Q v H) : tVar i σ H Q := ⟨v, e, h⟩
theorem r_c (h : Q v H) : tC v σ H Q := h
theorem r_op {r : R2} (h : ta σ H fun x H1 => tb σ H1 fun y H2 => r x y H2 Q) : tOp r ta tb σ H Q := h
theorem r_un {r : V → Hp → VK → Prop} (h : ta σ H fun x H1 => r x H1 Q) : tUn r ta σ H Q := h
theorem r_U {g : Int → V} (h : Q (g a) H) : rU g (.int a) H Q := ⟨a, rfl, h⟩
theorem r_make {C : Addr} {sp : Sp} {dvs : List V} {E : XK} (h : tr σ H fun vs H1 => ∀ x dx, H1 x = none → H1 dx = none → dx ≠ x → sp (.ref x :: (vs ++ dvs)) (upd (upd H1 dx (.own x)) x (.ins C dx [])) (fun v H2 => v = .non ∧ Q (.ref x) H2) E) : tMake C sp dvs E tr σ H Q := h
theorem r_cat {l m : Addr} {xs zs : List V} (hl : H l = some (.lst xs)) (hm : H m = some (.lst zs)) (hz : xs.length + zs.length ≤ sizeLine) (h : ∀ p, H p = none → Q (.ref p) (upd H p (.lst (xs ++ zs)))) : rCat (.ref l) (.ref m) H Q := ⟨l, m, xs, zs, rfl, rfl, hl, hm, hz, h⟩
theorem r_sum {l : Addr} {ns : List Int} (hl : SqL K H l (ns.map V.int)) (h : Q (.int ns.sum) H) : rSum K [.ref l] H Q := ⟨l, ns, rfl, hl, h⟩
theorem r_I0 {g : Int → Int → V} (h : Q (g a b) H) : rI0 g (.int a) (.int b) H Q := ⟨a, b, rfl, rfl, h⟩
theorem r_I {C : Int → Int → Prop} {g : Int → Int → V} (c : C a b) (h : Q (g a b) H) : rI C g (.int a) (.int b) H Q := ⟨a, b, rfl, rfl, c, h⟩
theorem r_mod (c : 0 < b) (h : Q (.int (a % b)) H) : rI (fun _ j => 0 < j) (fun i j => .int (i % j)) (.int a) (.int b) H Q := r_I c h
theorem r_div (c : 0 < b) (d : b < 1073741824) (h : Q (.int (a / b)) H) : rI CDiv (fun i j => .int (i / j)) (.int a) (.int b) H Q := r_I ⟨c, d⟩ h
theorem r_mulL (c : -(2 ^ 64) < a) (d : a < 2 ^ 64) (h : Q (.int (a * b)) H) : rI CMul (fun i j => .int (i * j)) (.int a) (.int b) H Q := r_I (.inl ⟨c, d⟩) h
theorem r_mulR (c : -(2 ^ 64) < b) (d : b < 2 ^ 64) (h : Q (.int (a * b)) H) : rI CMul (fun i j => .int (i * j)) (.int a) (.int b) H Q := r_I (.inr ⟨c, d⟩) h
theorem r_pow (c : 0 ≤ b) (d : b ≤ 1000000) (e : a.natAbs < 2 ^ 64) (h : Q (.int (a ^ b.toNat)) H) : rI CPow (fun i j => .int (i ^ j.toNat)) (.int a) (.int b) H Q := r_I ⟨c, d, e⟩ h
theorem r_ixL {p : Addr} {xs : List V} (hs : SqL K H p xs) (he : atI xs a = some v) (h : Q v H) : rIxL K (.ref p) (.int a) H Q := ⟨p, xs, a, v, rfl, rfl, hs, he, h⟩
theorem r_ixT {p : Addr} {xs : List V} (hs : SqT K H p xs) (he : atI xs a = some v) (h : Q v H) : rIxT K (.ref p) (.int a) H Q := ⟨p, xs, a, v, rfl, rfl, hs, he, h⟩
theorem r_sub {s : TSet} {P : L2.St → Hp → Prop} (h : to σ H fun o H1 => ti σ H1 fun k H2 => s o k v H2 fun H3 => P σ H3) : gSub to ti s v σ H P := h
theorem r_setL {p : Addr} {xs : List V} {P : Hp → Prop} (hp : H p = some (.lst xs)) (hj : ixN xs.length a = some j) (h : P (upd H p (.lst (xs.set j v)))) : rSetL (.ref p) (.int a) v H P := ⟨p, xs, a, j, rfl, rfl, hp, hj, h⟩
theorem r_nil {R : List V → Hp → Prop} (h : R [] H) : tNil σ H R := h
theorem r_cons {R : List V → Hp → Prop} (h : ta σ H fun x H1 => tr σ H1 fun xs H2 => R (x :: xs) H2) : tCons ta tr σ H R := h
theorem r_cb {r : List V → Hp → VK → Prop} (h : tr σ H fun vs H1 => r vs H1 Q) : tCB r tr σ H Q := h
theorem r_call {sp : Sp} {dvs : List V} {E : XK} (h : tr σ H fun vs H1 => sp (vs ++ dvs) H1 Q E) : tCall sp dvs E tr σ H Q := h
theorem r_sl {r : V → Option Int → Option Int → Hp → VK → Prop} {tl th : TO} (h : te σ H fun x H1 => tl σ H1 fun l H2 => th σ H2 fun u H3 => r x l u H3 Q) : tSl r te tl th σ H Q := h
theorem r_noP {P : Option Int → Hp → Prop} (h : P none H) : tNoPart σ H P := h
theorem r_part {P : Option Int → Hp → Prop} (h : te σ H fun x H1 => ∃ i, x = .int i ∧ P (some i) H1) : tPart te σ H P := h
theorem r_isI {P : Int → Prop} (h : P a) : ∃ i, V.int a = .int i ∧ P i := ⟨a, rfl, h⟩
theorem r_lst (h : tr σ H fun xs H1 => xs.length ≤ sizeLine ∧ ∀ p, H1 p = none → Q (.ref p) (upd H1 p (.lst xs))) : tLst tr σ H Q := h
theorem r_tup (h : tr σ H fun xs H1 => xs.length ≤ sizeLine ∧ ∀ p, H1 p = none → Q (.ref p) (upd H1 p (.tup xs))) : tTup tr σ H Q := h
theorem r_test {P : Bool → Hp → Prop} (h : te σ H fun x H' => ∃ k, x = .bl k ∧ P k H') : tTest te σ H P := h
theorem r_and {P : Bool → Hp → Prop} (h : tt σ H fun c H1 => if c = true then tu σ H1 P else P false H1) : tAnd tt tu σ H P := h
theorem r_or {P : Bool → Hp → Prop} (h : tt σ H fun c H1 => if c = true then P true H1 else tu σ H1 P) : tOr tt tu σ H P := h
theorem r_not {P : Bool → Hp → Prop} (h : tt σ H fun c H1 => P (!c) H1) : tNot tt σ H P := h
theorem r_bl {P : Bool → Prop} {k : Bool} (h : P k) : ∃ c, V.bl k = .bl c ∧ P c := ⟨k, rfl, h⟩
theorem r_eq (hs : scal v w = true) (h : Q (.bl (decide (v = w))) H) : rEq v w H Q := ⟨hs, h⟩
theorem r_eqT (hs : scal v v = true) (h : Q (.bl true) H) : rEq v v H Q := ⟨hs, by rw [decide_eq_true (rfl : v = v)]; exact h⟩
theorem r_andV (h : ta σ H fun x H1 => ∃ c, x = .bl c ∧ if c = true then tb σ H1 Q else Q (.bl false) H1) : tAndV ta tb σ H Q := h
theorem r_orV (h : ta σ H fun x H1 => ∃ c, x = .bl c ∧ if c = true then Q (.bl true) H1 else tb σ H1 Q) : tOrV ta tb σ H Q := h
theorem r_notV (h : ta σ H fun x H1 => ∃ c, x = .bl c ∧ Q (.bl (!c)) H1) : tNotV ta σ H Q := h
theorem r_ne (hs : scal v w = true) (h : Q (.bl (!decide (v = w))) H) : rNe v w H Q := ⟨hs, h⟩
theorem ite_nF {A B : Prop} (h : A) : if (!false) = true then A else B := by rw [show (!false) = true from rfl, if_pos rfl]; exact h
theorem ite_nT {A B : Prop} (h : B) : if (!true) = true then A else B := by rw [show (!true) = false from rfl, if_neg Bool.false_ne_true]; exact h
theorem ite_no {c : Prop} [Decidable c] {A B : Prop} (h1 : c → A) (h2 : ¬ c → B) : if (!decide c) = true then B else A := by
  by_cases h : c
  · rw [decide_eq_true h]; exact h1 h
  · rw [decide_eq_false h]; exact h2 h
theorem ite_dec {c : Prop} [Decidable c] {A B : Prop} (h1 : c → A) (h2 : ¬ c → B) : if decide c = true then A else B := by
  by_cases h : c
  · rw [decide_eq_true h, if_pos rfl]; exact h1 h
  · rw [decide_eq_false h, if_neg Bool.false_ne_true]; exact h2 h
end

/-! ### built-ins by readings with a name -/
def rIs0 : R2 := fun x y H Q => y = .non ∧ Q (.bl (decide (x = .non))) H
def rIs1 : R2 := fun x y H Q => y = .non ∧ Q (.bl (!decide (x = .non))) H
theorem op_is0 {X : Cx} : OpR X (compareOp .Is) rIs0 := op_isN
theorem op_is1 {X : Cx} : OpR X (compareOp .IsNot) rIs1 := op_notN
theorem r_is0 {x : V} {H : Hp} {Q : VK} (h : Q (.bl (decide (x = .non))) H) : rIs0 x .non H Q := ⟨rfl, h⟩
theorem r_is1 {x : V} {H : Hp} {Q : VK} (h : Q (.bl (!decide (x = .non))) H) : rIs1 x .non H Q := ⟨rfl, h⟩
def rInt : List V → Hp → VK → Prop := fun xs H Q => ∃ n, xs = [.int n] ∧ Q (.int n) H
def rIntB : List V → Hp → VK → Prop := fun xs H Q => ∃ b, xs = [.bl b] ∧ Q (.int (if b then 1 else 0)) H
def rLen (K : PySem.W.Frag) : List V → Hp → VK → Prop := fun xs H Q => ∃ l ys, xs = [.ref l] ∧ (SqL K H l ys ∨ SqT K H l ys) ∧ Q (.int ys.length) H
theorem cl_int {X : Cx} : CallR X (.type "int") rInt := fun pins s σ H xs us Q I r h => by
  obtain ⟨n, e, q⟩ := h
  exact call_int1 pins s σ H xs us Q I r (.inl ⟨n, e, q⟩)
theorem cl_intB {X : Cx} : CallR X (.type "int") rIntB := fun pins s σ H xs us Q I r h => by
  obtain ⟨b, e, q⟩ := h
  exact call_int1 pins s σ H xs us Q I r (.inr ⟨b, e, q⟩)
def rTupOf (K : PySem.W.Frag) : List V → Hp → VK → Prop := fun xs H Q => ∃ l ys, xs = [.ref l] ∧ SqL K H l ys ∧ ∀ q, H q = none → Q (.ref q) (upd H q (.tup ys))
def rLstOf (K : PySem.W.Frag) : List V → Hp → VK → Prop := fun xs H Q => ∃ l ys, xs = [.ref l] ∧ (SqL K H l ys ∨ SqT K H l ys) ∧ ∀ q, H q = none → Q (.ref q) (upd H q (.lst ys))
theorem cl_tup {X : Cx} : CallR X (.type "tuple") (rTupOf X.K) := fun pins s σ H xs us Q I r h => by
  obtain ⟨l, ys, e, hs, q⟩ := h
  exact call_tuple_of pins s σ H xs us Q I r ⟨l, ys, e, .inl ⟨hs, q⟩⟩
theorem cl_lst {X : Cx} : CallR X (.type "list") (rLstOf X.K) := fun pins s σ H xs us Q I r h => call_list_of pins s σ H xs us Q I r h
theorem cl_len {X : Cx} : CallR X (.builtin "len") (rLen X.K) := fun pins s σ H xs us Q I r h => call_len_seq pins s σ H xs us Q I r h
section
variable {K : PySem.W.Frag} {H : Hp} {Q : VK} {l : Addr} {ys : List V}
theorem r_int {n : Int} (h : Q (.int n) H) : rInt [.int n] H Q := ⟨n, rfl, h⟩
theorem r_intB {b : Bool} (h : Q (.int (if b then 1 else 0)) H) : rIntB [.bl b] H Q := ⟨b, rfl, h⟩
theorem r_tupOf (hs : SqL K H l ys) (h : ∀ q, H q = none → Q (.ref q) (upd H q (.tup ys))) : rTupOf K [.ref l] H Q := ⟨l, ys, rfl, hs, h⟩
theorem r_lstOf (hs : SqL K H l ys) (h : ∀ q, H q = none → Q (.ref q) (upd H q (.lst ys))) : rLstOf K [.ref l] H Q := ⟨l, ys, rfl, .inl hs, h⟩
theorem r_lenL (hs : SqL K H l ys) (h : Q (.int ys.length) H) : rLen K [.ref l] H Q := ⟨l, ys, rfl, .inl hs, h⟩
theorem r_lenT (hs : SqT K H l ys) (h : Q (.int ys.length) H) : rLen K [.ref l] H Q := ⟨l, ys, rfl, .inr hs, h⟩
end

/-! ### the heap but for one object -/
/-- all that was tracked, the object at p aside, is as it was -/
def Keep (p : Addr) (H H' : Hp) : Prop := ∀ b o, b ≠ p → H b = some o → H' b = some o
section
variable {p q : Addr} {H H' H1 H2 : Hp} {o u : HO}
theorem Keep.refl : Keep p H H := fun _ _ _ h => h
theorem Keep.trans (a : Keep p H H1) (b : Keep p H1 H2) : Keep p H H2 := fun c o n h => b c o n (a c o n h)
theorem Keep.own (a : Keep p H H1) : Keep p H (upd H1 p o) := fun c v n h => by rw [upd_ne n]; exact a c v n h
theorem Keep.new (a : Keep p H H1) (hq : H1 q = none) : Keep p H (upd H1 q o) := fun c v n h => by
  have e := a c v n h
  rw [upd_ne (ne_of_none e hq)]; exact e
theorem Keep.same (s : Same H H1) : Keep p H H1 := fun c v _ h => s c v h
theorem Keep.seq {K : PySem.W.Frag} (a : Keep p H H1) {l : Addr} {xs : List V} (n : l ≠ p) (h : SqL K H l xs) : SqL K H1 l xs := by
  rcases h with (h | ⟨v, h⟩) | h
  · exact .inl (.inl (a l _ n h))
  · exact .inl (.inr ⟨v, a l _ n h⟩)
  · exact .inr h
theorem Same.up (s : Same H H1) (hq : H1 q = none) : Same H (upd H1 q o) := fun c v h => by
  have e := s c v h
  rw [upd_ne (ne_of_none e hq)]; exact e
end

/-! ### the pool of draws: at p a list of the cells' list (at c) and four ints -/
def PoolAt (H : Hp) (p c : Addr) (ns : List Int) : Prop :=
  ∃ a b s n : Int, 0 ≤ a ∧ H p = some (.lst [.ref c, .int a, .int b, .int s, .int n]) ∧ H c = some (.lst (ns.map V.int))
theorem PoolAt.ne {H : Hp} {p c : Addr} {ns : List Int} (h : PoolAt H p c ns) : c ≠ p := by
  obtain ⟨a, b, s, n, _, h1, h2⟩ := h
  intro e
  rw [e, h1] at h2
  cases ns with
  | nil => cases h2
  | cons x r =>
    have z := HO.lst.inj (Option.some.inj h2)
    rw [List.map_cons] at z
    cases (List.cons.inj z).1
/-- a store into one of its places -/
theorem PoolAt.put {H : Hp} {p c : Addr} {ns : List Int} {a b s n : Int} (ha : 0 ≤ a) (hc : H c = some (.lst (ns.map V.int))) (ne : c ≠ p) :
    PoolAt (upd H p (.lst [.ref c, .int a, .int b, .int s, .int n])) p c ns := ⟨a, b, s, n, ha, upd_same, by rw [upd_ne ne]; exact hc⟩

theorem later {H : Hp} {a q : Addr} {o u : HO} (h : H a = some o) (hq : H q = none) : upd H q u a = some o := by
  rw [upd_ne (ne_of_none h hq)]; exact h
theorem PoolAt.new {H : Hp} {p c q : Addr} {ns : List Int} {o : HO} (h : PoolAt H p c ns) (hq : H q = none) : PoolAt (upd H q o) p c ns := by
  obtain ⟨a, b, z, n, ha, hP, hC⟩ := h
  exact ⟨a, b, z, n, ha, later hP hq, later hC hq⟩
theorem PoolAt.apart {H : Hp} {p c q : Addr} {ns : List Int} (h : PoolAt H p c ns) (hq : H q = none) : q ≠ p := by
  obtain ⟨a, b, z, n, ha, hP, hC⟩ := h
  exact fun e => by rw [e, hP] at hq; cases hq
theorem PoolAt.apartC {H : Hp} {p c q : Addr} {ns : List Int} (h : PoolAt H p c ns) (hq : H q = none) : q ≠ c := by
  obtain ⟨a, b, z, n, ha, hP, hC⟩ := h
  exact fun e => by rw [e, hC] at hq; cases hq
theorem log_small {i : Int} (h : -8 < i ∧ i < 8) : i.natAbs.log2 < 1920 := by
  have e : i.natAbs < 8 := by omega
  exact Nat.lt_of_le_of_lt (Nat.log2_le_self _) (by omega)
/-- _law_mixed(pool, cell) -/
def spMix : Sp := fun vs H Q _ => ∃ (p c : Addr) (ns : List Int) (x : Int), vs = [.ref p, .int x] ∧ PoolAt H p c ns ∧
  ∀ (r : Int) (H' : Hp), 0 ≤ r → Keep p H H' → PoolAt H' p c ns → Q (.int r) H'
/-- _law_draw(pool, size) -/
def spDraw : Sp := fun vs H Q _ => ∃ (p c : Addr) (ns : List Int) (z : Int), vs = [.ref p, .int z] ∧ PoolAt H p c ns ∧ 0 < z ∧ z < 1073741824 ∧
  ∀ (r : Int) (H' : Hp), 0 ≤ r → r < z → Keep p H H' → PoolAt H' p c ns → Q (.int r) H'
/-- _law_number(pool, parts) -/
def spNum : Sp := fun vs H Q _ => ∃ (p c : Addr) (ns : List Int) (k : Int), vs = [.ref p, .int k] ∧ PoolAt H p c ns ∧ 0 ≤ k ∧ k ≤ 1000 ∧
  ∀ (r : Int) (H' : Hp), 0 ≤ r → r < 1000000 ^ k.toNat → Keep p H H' → PoolAt H' p c ns → Q (.int r) H'
/-- _law_pool(script) -/
def spPool (K : PySem.W.Frag) : Sp := fun vs H Q _ => ∃ (l : Addr) (ns : List Int), vs = [.ref l] ∧ SqL K H l (ns.map V.int) ∧ ns.length ≤ 63 ∧
  ∀ (p c : Addr) (H' : Hp), H p = none → H c = none → Same H H' → PoolAt H' p c ns → Q (.ref p) H'
theorem take_snoc {α : Type} : ∀ {l : List α} {i : Nat} {x : α}, l[i]? = some x → l.take (i + 1) = l.take i ++ [x]
  | [], i, x, h => by simp at h
  | a :: l, 0, x, h => by
    have e : a = x := Option.some.inj h
    rw [e]; rfl
  | a :: l, i + 1, x, h => by
    have ih := take_snoc (l := l) (i := i) (x := x) h
    rw [List.take_succ_cons, ih]; rfl
theorem ixN_last {α : Type} (xs : List α) (v : α) : ixN (xs ++ [v]).length (-1) = some xs.length := by
  have hl : (xs ++ [v]).length = xs.length + 1 := by simp
  unfold ixN
  rw [hl, if_neg (by decide), if_pos (by omega)]
  congr 1
  omega
theorem ixN_nat {n j : Nat} (h : j < n) : ixN n (j : Int) = some j := by
  unfold ixN
  rw [if_pos (by omega), if_pos (by omega)]
  simp
theorem set_last {α : Type} (xs : List α) (v u : α) : (xs ++ [v]).set xs.length u = xs ++ [u] := by simp
theorem cut_all {xs : List V} {n : Nat} (h : xs.length ≤ n) : cutV xs none (some (n : Int)) = xs := by
  have e1 : HT.sIx xs.length 0 none = 0 := rfl
  have e2 : HT.sIx xs.length xs.length (some (n : Int)) = xs.length := by
    rw [HT.sIx_nat]
    exact Nat.min_eq_right h
  unfold cutV
  rw [e1, e2, Nat.sub_zero, List.drop_zero, List.take_length]
end Pk
set_option Elab.async false
set_option linter.all false
set_option maxRecDepth 100000
set_option maxHeartbeats 1000000
/-! Data of lists and tuples of bounded depth; copies of it that share no list. -/
namespace Pk
open PySem L2
/-- nested at most n deep, no list or tuple longer than 1000 -/
inductive Deep : Nat → PyData → Prop
  | non {n : Nat} : Deep n .none
  | bl {n : Nat} (b : Bool) : Deep n (.bool b)
  | int {n : Nat} (i : Int) : Deep n (.int i)
  | str {n : Nat} (z : Str) : Deep n (.str z)
  | lst {n : Nat} {ds : List PyData} (h : ∀ d ∈ ds, Deep n d) (z : ds.length ≤ 1000) : Deep (n + 1) (.list ds)
  | tup {n : Nat} {ds : List PyData} (h : ∀ d ∈ ds, Deep n d) (z : ds.length ≤ 1000) : Deep (n + 1) (.tuple ds)
theorem Deep.mono {n m : Nat} {d : PyData} (h : Deep n d) (l : n ≤ m) : Deep m d := by
  induction h generalizing m with
  | non => exact .non
  | bl b => exact .bl b
  | int i => exact .int i
  | str z => exact .str z
  | lst h z ih =>
    obtain ⟨k, rfl⟩ : ∃ k, m = k + 1 := ⟨m - 1, by omega⟩
    exact .lst (fun d hd => ih d hd (by omega)) z
  | tup h z ih =>
    obtain ⟨k, rfl⟩ : ∃ k, m = k + 1 := ⟨m - 1, by omega⟩
    exact .tup (fun d hd => ih d hd (by omega)) z
/-- v is the data d in H, and every list and tuple of it is new: not tracked in H0 -/
inductive Own (H0 H : Hp) : V → PyData → Prop
  | non : Own H0 H .non .none
  | bl (b : Bool) : Own H0 H (.bl b) (.bool b)
  | int (i : Int) : Own H0 H (.int i) (.int i)
  | str (z : Str) : Own H0 H (.str z) (.str z)
  | lst {a : Addr} {xs : List V} {ds : List PyData} (n : H0 a = none) (h : H a = some (.lst xs)) (hl : xs.length = ds.length) (hs : ∀ (i : Nat) (v : V) (d : PyData), xs[i]? = some v → ds[i]? = some d → Own H0 H v d) : Own H0 H (.ref a) (.list ds)
  | tup {a : Addr} {xs : List V} {ds : List PyData} (n : H0 a = none) (h : H a = some (.tup xs)) (hl : xs.length = ds.length) (hs : ∀ (i : Nat) (v : V) (d : PyData), xs[i]? = some v → ds[i]? = some d → Own H0 H v d) : Own H0 H (.ref a) (.tuple ds)
theorem Own.mono {H0 H H0' H' : Hp} {v : V} {d : PyData} (o : Own H0 H v d) (f : ∀ a, H0 a = none → H a ≠ none → H0' a = none) (k : ∀ a u, H0 a = none → H a = some u → (∃ xs, u = .lst xs ∨ u = .tup xs) → H' a = some u) : Own H0' H' v d := by
  induction o with
  | non => exact .non
  | bl b => exact .bl b
  | int i => exact .int i
  | str z => exact .str z
  | lst n h hl _ ih => exact .lst (f _ n (by rw [h]; exact Option.some_ne_none _)) (k _ _ n h ⟨_, .inl rfl⟩) hl fun i v d e1 e2 => ih i v d e1 e2
  | tup n h hl _ ih => exact .tup (f _ n (by rw [h]; exact Option.some_ne_none _)) (k _ _ n h ⟨_, .inr rfl⟩) hl fun i v d e1 e2 => ih i v d e1 e2
theorem Own.later {H0 H H' : Hp} {v : V} {d : PyData} (o : Own H0 H v d) (s : Same H H') : Own H0 H' v d := o.mono (fun _ n _ => n) fun a u _ h _ => s a u h
/-- made later than H0, so also later than what H0 has grown from -/
theorem Own.back {H0 H1 H : Hp} {v : V} {d : PyData} (o : Own H1 H v d) (s : Same H0 H1) : Own H0 H v d := by
  induction o with
  | non => exact .non
  | bl b => exact .bl b
  | int i => exact .int i
  | str z => exact .str z
  | lst n h hl _ ih => exact .lst (s.free n) h hl ih
  | tup n h hl _ ih => exact .tup (s.free n) h hl ih
theorem dpAll_of {K : PySem.W.Frag} {H : Hp} : ∀ {xs : List V} {ds : List PyData}, xs.length = ds.length → (∀ (i : Nat) (v : V) (d : PyData), xs[i]? = some v → ds[i]? = some d → Dp K H v d) → DpAll K H xs ds
  | [], [], _, _ => .nil
  | [], _ :: _, h, _ => by cases h
  | _ :: _, [], h, _ => by cases h
  | x :: xs, d :: ds, h, k => .cons (k 0 x d rfl rfl) (dpAll_of (Nat.succ.inj h) fun i v e e1 e2 => k (i + 1) v e e1 e2)
theorem dpAll_len {K : PySem.W.Frag} {H : Hp} : ∀ {xs : List V} {ds : List PyData}, DpAll K H xs ds → xs.length = ds.length
  | _, _, .nil => rfl
  | _, _, .cons _ t => congrArg Nat.succ (dpAll_len t)
theorem dpAll_at {K : PySem.W.Frag} {H : Hp} : ∀ {xs : List V} {ds : List PyData} {i : Nat} {v : V}, DpAll K H xs ds → xs[i]? = some v → ∃ d, ds[i]? = some d ∧ Dp K H v d
  | _, _, _, _, .nil, e => by simp at e
  | _, _, 0, _, .cons h _, e => ⟨_, rfl, by have z := Option.some.inj e; subst z; exact h⟩
  | _, _, i + 1, _, .cons _ t, e => dpAll_at (i := i) t e
theorem Own.dp {K : PySem.W.Frag} {H0 H : Hp} {v : V} {d : PyData} (o : Own H0 H v d) : Dp K H v d := by
  induction o with
  | non => exact .non
  | bl b => exact .bl b
  | int i => exact .int i
  | str z => exact .str z
  | lst n h hl _ ih => exact .lst (SqL.of h) (dpAll_of hl ih)
  | tup n h hl _ ih => exact .tup (SqT.of h) (dpAll_of hl ih)
/-- lists, tuples and what is locked -/
def IsLT (u : HO) : Prop := (∃ xs, u = .lst xs) ∨ (∃ xs, u = .tup xs) ∨ ∃ o z, u = .frz o z
/-- these are as they were -/
def SameD (H H' : Hp) : Prop := ∀ a u, IsLT u → H a = some u → H' a = some u
theorem SameD.of {H H' : Hp} (s : Same H H') : SameD H H' := fun a u _ h => s a u h
theorem SameD.trans {H H1 H2 : Hp} (a : SameD H H1) (b : SameD H1 H2) : SameD H H2 := fun c u l h => b c u l (a c u l h)
theorem SameD.seqL {K : PySem.W.Frag} {H H' : Hp} (s : SameD H H') {a : Addr} {xs : List V} (h : SqL K H a xs) : SqL K H' a xs := by
  rcases h with (h | ⟨o, h⟩) | h
  · exact .inl (.inl (s _ _ (.inl ⟨_, rfl⟩) h))
  · exact .inl (.inr ⟨o, s _ _ (.inr (.inr ⟨_, _, rfl⟩)) h⟩)
  · exact .inr h
theorem SameD.seqT {K : PySem.W.Frag} {H H' : Hp} (s : SameD H H') {a : Addr} {xs : List V} (h : SqT K H a xs) : SqT K H' a xs := by
  rcases h with (h | ⟨o, h⟩) | h
  · exact .inl (.inl (s _ _ (.inr (.inl ⟨_, rfl⟩)) h))
  · exact .inl (.inr ⟨o, s _ _ (.inr (.inr ⟨_, _, rfl⟩)) h⟩)
  · exact .inr h
mutual
theorem Dp.laterD {K : PySem.W.Frag} {H H' : Hp} (s : SameD H H') : ∀ {v : V} {d : PyData}, Dp K H v d → Dp K H' v d
  | _, _, .non => .non
  | _, _, .bl b => .bl b
  | _, _, .int i => .int i
  | _, _, .str z => .str z
  | _, _, .lst h t => .lst (s.seqL h) (DpAll.laterD s t)
  | _, _, .tup h t => .tup (s.seqT h) (DpAll.laterD s t)
theorem DpAll.laterD {K : PySem.W.Frag} {H H' : Hp} (s : SameD H H') : ∀ {xs : List V} {ds : List PyData}, DpAll K H xs ds → DpAll K H' xs ds
  | _, _, .nil => .nil
  | _, _, .cons h t => .cons (Dp.laterD s h) (DpAll.laterD s t)
end
theorem Dp.later {K : PySem.W.Frag} {H H' : Hp} (s : Same H H') {v : V} {d : PyData} (h : Dp K H v d) : Dp K H' v d := Dp.laterD (.of s) h
theorem DpAll.later {K : PySem.W.Frag} {H H' : Hp} (s : Same H H') {xs : List V} {ds : List PyData} (h : DpAll K H xs ds) : DpAll K H' xs ds := DpAll.laterD (.of s) h
/-- the built-in class of a piece of data -/
def kindOf : PyData → String
  | .none => "NoneType" | .bool _ => "bool" | .int _ => "int" | .str _ => "str" | .list _ => "list" | .tuple _ => "tuple" | _ => "object"
theorem Dp.kind {K : PySem.W.Frag} {H : Hp} {v : V} {d : PyData} (h : Dp K H v d) : TyX K H v (.type (kindOf d)) := by
  cases h with
  | non => exact .base .non
  | bl b => exact .base (.bl b)
  | int i => exact .base (.int i)
  | str z => exact .base (.str z)
  | lst h _ =>
    rcases h with (h | ⟨o, h⟩) | ⟨o, its, n, h, c, _⟩
    · exact .base (.lst h)
    · exact .base (.frz h)
    · exact .kList h c
  | tup h _ =>
    rcases h with (h | ⟨o, h⟩) | ⟨o, its, n, h, c, _⟩
    · exact .base (.tup h)
    · exact .fTuple h
    · exact .kTuple h c
/-- isinstance(x, T), T a built-in class -/
theorem r_isi {K : PySem.W.Frag} {H : Hp} {Q : VK} {x : V} {a b : String} {r : Bool} (t : TyX K H x (.type a)) (e : kitB a b = some r) (h : Q (.bl r) H) : rIsi K [x, .ty b] H Q := ⟨x, .ty b, _, _, r, rfl, .ty b, t, kit_ty e, h⟩
/-- own_copy(value), for data at most n deep -/
def spCopy (K : PySem.W.Frag) (n : Nat) : Sp := fun vs H Q _ => ∃ (v : V) (d : PyData), vs = [v] ∧ Dp K H v d ∧ Deep n d ∧ ∀ (v' : V) (H' : Hp), Same H H' → Own H H' v' d → Q v' H'
/-- _law_same(a, b) of two values that are the same data -/
def spSame (K : PySem.W.Frag) (n : Nat) : Sp := fun vs H Q _ => ∃ (a b : V) (d : PyData), vs = [a, b] ∧ Dp K H a d ∧ Dp K H b d ∧ Deep n d ∧ Q (.bl true) H
theorem kit_list (d : PyData) : ∃ r, kitB (kindOf d) "list" = some r ∧ (r = true ↔ ∃ ds, d = .list ds) := by
  cases d with
  | none => exact ⟨false, (by decide +kernel : kitB "NoneType" "list" = some false), ⟨(fun z => by cases z), (fun z => by obtain ⟨_, z⟩ := z; cases z)⟩⟩
  | bool b => exact ⟨false, (by decide +kernel : kitB "bool" "list" = some false), ⟨(fun z => by cases z), (fun z => by obtain ⟨_, z⟩ := z; cases z)⟩⟩
  | int i => exact ⟨false, (by decide +kernel : kitB "int" "list" = some false), ⟨(fun z => by cases z), (fun z => by obtain ⟨_, z⟩ := z; cases z)⟩⟩
  | str z => exact ⟨false, (by decide +kernel : kitB "str" "list" = some false), ⟨(fun z => by cases z), (fun z => by obtain ⟨_, z⟩ := z; cases z)⟩⟩
  | list ds => exact ⟨true, (by decide +kernel : kitB "list" "list" = some true), ⟨fun _ => ⟨ds, rfl⟩, fun _ => rfl⟩⟩
  | tuple ds => exact ⟨false, (by decide +kernel : kitB "tuple" "list" = some false), ⟨(fun z => by cases z), (fun z => by obtain ⟨_, z⟩ := z; cases z)⟩⟩
  | dict kv => exact ⟨false, (by decide +kernel : kitB "object" "list" = some false), ⟨(fun z => by cases z), (fun z => by obtain ⟨_, z⟩ := z; cases z)⟩⟩
theorem kit_tuple (d : PyData) : ∃ r, kitB (kindOf d) "tuple" = some r ∧ (r = true ↔ ∃ ds, d = .tuple ds) := by
  cases d with
  | none => exact ⟨false, (by decide +kernel : kitB "NoneType" "tuple" = some false), ⟨(fun z => by cases z), (fun z => by obtain ⟨_, z⟩ := z; cases z)⟩⟩
  | bool b => exact ⟨false, (by decide +kernel : kitB "bool" "tuple" = some false), ⟨(fun z => by cases z), (fun z => by obtain ⟨_, z⟩ := z; cases z)⟩⟩
  | int i => exact ⟨false, (by decide +kernel : kitB "int" "tuple" = some false), ⟨(fun z => by cases z), (fun z => by obtain ⟨_, z⟩ := z; cases z)⟩⟩
  | str z => exact ⟨false, (by decide +kernel : kitB "str" "tuple" = some false), ⟨(fun z => by cases z), (fun z => by obtain ⟨_, z⟩ := z; cases z)⟩⟩
  | list ds => exact ⟨false, (by decide +kernel : kitB "list" "tuple" = some false), ⟨(fun z => by cases z), (fun z => by obtain ⟨_, z⟩ := z; cases z)⟩⟩
  | tuple ds => exact ⟨true, (by decide +kernel : kitB "tuple" "tuple" = some true), ⟨fun _ => ⟨ds, rfl⟩, fun _ => rfl⟩⟩
  | dict kv => exact ⟨false, (by decide +kernel : kitB "object" "tuple" = some false), ⟨(fun z => by cases z), (fun z => by obtain ⟨_, z⟩ := z; cases z)⟩⟩
theorem kit_dict {n : Nat} {d : PyData} (h : Deep n d) : kitB (kindOf d) "dict" = some false := by
  cases h with
  | non => exact (by decide +kernel : kitB "NoneType" "dict" = some false)
  | bl b => exact (by decide +kernel : kitB "bool" "dict" = some false)
  | int i => exact (by decide +kernel : kitB "int" "dict" = some false)
  | str z => exact (by decide +kernel : kitB "str" "dict" = some false)
  | lst h z => exact (by decide +kernel : kitB "list" "dict" = some false)
  | tup h z => exact (by decide +kernel : kitB "tuple" "dict" = some false)
end Pk
set_option Elab.async false
set_option linter.all false
set_option maxRecDepth 100000
set_option maxHeartbeats 1000000
/-! Error classes two steps below ArithmeticError, made by an __init__ that calls super().__init__ first and then stores fields. -/
namespace Pk
open PySem L2 PySem.Spec PyProof.Rows
abbrev arT : List Value := [.type "ArithmeticError", .type "Exception", .type "BaseException", .type "object"]
theorem arT_has {C pe : Addr} {z : String} (h : arT.contains (.type z) = true) : (Value.ref C :: .ref pe :: arT).contains (.type z) = true := by
  rw [List.contains_cons, List.contains_cons, h, Bool.or_true, Bool.or_true]
theorem arT_same {pe : Addr} (z : String) : (Value.ref pe :: arT).contains (.type z) = arT.contains (.type z) := by
  rw [List.contains_cons]
  simp
section
open PySem.W PySem.Calls Builtin Builtin.ObjectAttr
variable {prog : Program} {w : World} {A : Around} {R : Result → Shared → Prop} {hp : Heap} {g : Array GenState} {dn : Drawn} {tk : Nat} {os : OsState} {K : W.Frag} {nm : Str} {nt : Tok} {v : Value} {x C pe : Addr} {cd : ClassData}
/-- object.__setattr__ of such an error, up to the store in its own dict -/
theorem sa_head {ox : Obj} {od : Option Obj} (kin : K.In hp) (inst : W.InstAt hp x ox C od) (hcd : W.clsIn K C = some cd) (mro : cd.mro = .ref C :: .ref pe :: arT) (free : W.findIn K (.ref C) nm = some none)
    (go : wpAny (model prog w) A.in1 (storeInOwnDict (.ref x) (.ref C) (.str nm nt) nm v false) (fun fn st => match fn with
        | .done r => R (.ok r) st
        | .again c => c.quiet = true ∧ codeAny (model prog w) A c R st) (fun er st => R (.error er) st) ⟨hp, g, dn, tk, os⟩) :
    codeAny (model prog w) A (.call (.builtin "object.__setattr__") ⟨[.ref x, .str nm nt, v], []⟩) R ⟨hp, g, dn, tk, os⟩ := by
  have so := PySem.F.store_object
  have isO : W.mroIn K C (.type "object") = some true := by
    unfold W.mroIn
    rw [hcd, Option.bind_some, mro, if_neg (show ¬ (List.isEmpty (Value.ref C :: .ref pe :: arT) = true) from Bool.false_ne_true), arT_has (by decide +kernel)]
  have below : W.Looks (model prog w) hp (isInstance (.ref x) (.type "object")) true := inst.type.andThen (W.looks_mroIn kin isO)
  have line : W.Looks (model prog w) hp (mroOf (.ref C)) cd.mro := (W.looks_clsIn kin hcd).andThen .now
  have loop : refuseLoop (.ref x) "__setattr__" cd.mro = pure () := by
    rw [mro, refuseLoop_ref, refuseLoop_ref]
    exact PySem.F.store_ArithmeticError.passes _
  have no3 : W.Looks (model prog w) hp (storeTaker? none) none := .now
  refine codeAny_call_builtin so.slot.plain so.entry (@W.check_slot (model prog w) _ _ ⟨hp, g, dn, tk, os⟩ "object.__setattr__" "object" "__setattr__" (.ref x) [.str nm nt, v] [] _ so.kind so.split below (so.args (.ref x) (.str nm nt) v) ?_)
  rw [W.osa_eq, refuse_eq]
  refine wpAny_bind (wpAny_bind (inst.type.at (wpAny_bind (line.at ?_)))); rw [loop]
  exact wpAny_pure (wpAny_bind (inst.type.at (wpAny_bind ((W.looks_findIn kin free).at (wpAny_bind (no3.at go))))))
/-- the first field: the dict is made -/
theorem sa_first {fv : Array Value} (kin : K.In hp) (hx : hp.get? x = some { cls := .ref C, data := .fields fv }) (hcd : W.clsIn K C = some cd) (mro : cd.mro = .ref C :: .ref pe :: arT) (hasD : cd.hasDict = true) (free : W.findIn K (.ref C) nm = some none)
    (done : ∀ h2 t2 dx, (∀ b o, b ≠ x → hp.get? b = some o → h2.get? b = some o) → hp.objs.size ≤ dx → dx ≠ x → h2.get? x = some { cls := .ref C, dict := some dx, data := .fields fv } →
      h2.Ns1 dx (fun y => if y = nm then some v else none) → R (.ok (.ret .none)) ⟨h2, g, dn, t2, os⟩) :
    codeAny (model prog w) A (.call (.builtin "object.__setattr__") ⟨[.ref x, .str nm nt, v], []⟩) R ⟨hp, g, dn, tk, os⟩ := by
  have away : x ≠ hp.objs.size := Nat.ne_of_lt (Heap.lt_size hx)
  refine sa_head kin (ox := { cls := .ref C, data := .fields fv }) (od := none) ⟨hx, rfl, rfl, trivial⟩ hcd mro free ?_
  have look : W.Looks (model prog w) hp (classData C) cd := W.looks_clsIn kin hcd
  obtain ⟨c1, c2, c3, c4, c5, hd, c7, c8, c9, c10, c11⟩ := cd
  dsimp only at hasD
  subst hasD
  unfold storeInOwnDict ownDictForStores
  repeat (first | with_reducible refine HandSPX.store_in_new ?_ ?_ | with_reducible refine wpAny_loadPart_at hx ?_ | with_reducible refine look.at ?_ | wp_step)
  · exact ⟨_, #[], _, (Heap.get?_update_ne _ _ _ _ away.symm).trans (Heap.get?_push_at rfl rfl), rfl, fun e he => absurd he (by simp), fun _ => rfl⟩
  · intro h2 t2 ns sb
    have pushed : (hp.push { cls := .type "dict", data := .dict #[] }).get? x = some { cls := .ref C, data := .fields fv } := Heap.get?_push_of_some _ hx
    exact done h2 t2 hp.objs.size (fun b o hb ho => (sb.2 b (Nat.ne_of_lt (Heap.lt_size ho))).trans ((Heap.get?_update_ne _ _ _ _ hb).trans (Heap.get?_push_of_some _ ho))) (Nat.le_refl _) away.symm ((sb.2 x away).trans (Heap.get?_update_self _ pushed rfl)) ns
/-- a further field -/
theorem sa_more {fv : Array Value} {dx : Addr} {m0 : Str → Option Value} {nl : List Str} (kin : K.In hp) (hx : hp.get? x = some { cls := .ref C, dict := some dx, data := .fields fv }) (ns : hp.Ns1 dx m0) (wi : Within m0 nl) (few : nl.length ≤ 1000)
    (hcd : W.clsIn K C = some cd) (mro : cd.mro = .ref C :: .ref pe :: arT) (hasD : cd.hasDict = true) (free : W.findIn K (.ref C) nm = some none)
    (done : ∀ h2 t2, (∀ b o, b ≠ dx → hp.get? b = some o → h2.get? b = some o) → h2.Ns1 dx (fun y => if y = nm then some v else m0 y) → R (.ok (.ret .none)) ⟨h2, g, dn, t2, os⟩) :
    codeAny (model prog w) A (.call (.builtin "object.__setattr__") ⟨[.ref x, .str nm nt, v], []⟩) R ⟨hp, g, dn, tk, os⟩ := by
  obtain ⟨oD, _, _, hoD, _, _⟩ := ns.count wi
  refine sa_head kin (ox := { cls := .ref C, dict := some dx, data := .fields fv }) (od := some oD) ⟨hx, rfl, rfl, hoD⟩ hcd mro free ?_
  have look : W.Looks (model prog w) hp (classData C) cd := W.looks_clsIn kin hcd
  obtain ⟨c1, c2, c3, c4, c5, hd, c7, c8, c9, c10, c11⟩ := cd
  dsimp only at hasD
  subst hasD
  unfold storeInOwnDict ownDictForStores
  repeat (first | with_reducible refine PySem.ESX.store_in_old ns wi few ?_ | with_reducible refine wpAny_loadPart_at hx ?_ | with_reducible refine look.at ?_ | wp_step)
  exact fun h2 t2 n2 sb => done h2 t2 (fun b o hb ho => (sb.2 b hb).trans ho) n2
end

/-- what the written part says of an error class at C -/
structure ErrC (K : PySem.W.Frag) (C : Addr) : Prop where
  cls : ∃ pe nm q N bs sn sub ab col dd k0 k1 k2 k3 k5, K.lookup C = some (excClassObj nm q C N bs (.ref pe :: arT) true sn sub ab col dd k0 k1 k2 k3 k5 "ArithmeticError.__new__")
  sa : PySem.W.findIn K (.ref C) "__setattr__" = some (some (.builtin "object.__setattr__"))
  exB : PySem.W.subIn K (.ref C) (.type "BaseException") = some true
  exA : PySem.W.subIn K (.ref C) (.type "ArithmeticError") = some true
  ty : PySem.W.typeIn K (.ref C) = some (.type "type")
  kp : PySem.W.keepIn K (.ref C) = true
section
variable {X : Cx} {pins : List (Addr × Obj)} {σ : L2.St} {H : Hp} {s : Shared} {a C dx : Addr} {f : Str} {y : V} {u : Value} {fs : List (Str × V)} {Q : Unit → Shared → Prop} {E : Value → Shared → Prop} {A : Around}
theorem ErrC.data {K : PySem.W.Frag} (T : ErrC K C) : ∃ pe cd, PySem.W.clsIn K C = some cd ∧ cd.mro = .ref C :: .ref pe :: arT ∧ cd.hasDict = true := by
  obtain ⟨pe, nm, q, N, bs, sn, sub, ab, col, dd, k0, k1, k2, k3, k5, hC⟩ := T.cls
  exact ⟨pe, { name := nm, bases := bs, mro := .ref C :: .ref pe :: arT, ns := N, qualname := q, hasDict := true, slotNames := sn, subclasses := sub, abstract := ab, collection := col, hasDel := false }, by unfold PySem.W.clsIn; rw [hC] <;> rfl, rfl, rfl⟩
theorem not_at {H : Hp} {b c : Addr} {o : HO} (h : H b = some o) (n : H c = none) : c ≠ b := fun z => by
  rw [z, h] at n
  cases n
/-- self.f = y where the error has no dict as yet -/
theorem err_first (T : ErrC X.K C) (I : Inv X pins σ H s) (e : H a = some (exo a C none)) (free : PySem.W.findIn X.K (.ref C) f = some none) (ry : RelV y u)
    (go : ∀ dx st, H dx = none → dx ≠ a → Inv X pins σ (upd (upd H dx (exd dx [(f, y)])) a (exo a C (some dx))) st → Q () st) : wpAny (model X.prog X.w) A (setAttr (.ref a) f u) Q E s := by
  obtain ⟨pe, cd, hcl, hm, hh⟩ := T.data
  obtain ⟨t1, ho⟩ := exo_at I.hok e
  obtain ⟨hp, g, d, t, os⟩ := s
  refine PySem.W.set_plain I.kIn (od := none) (ox := { cls := .ref C, dict := none, data := .fields #[.ref t1, .none, .none, .none, .bool false, .none] }) ⟨ho, rfl, rfl, trivial⟩ T.sa (sa_first I.kIn ho hcl hm hh free fun h2 t2 dx k lt ne hx hn => ?_)
  have hnd : H dx = none := I.hok.fresh lt
  have old : ∀ {b : Addr} {o : Obj}, hp.get? b = some o → b ≠ dx := fun {b o} q => Nat.ne_of_lt (Nat.lt_of_lt_of_le (Heap.lt_size q) lt)
  have stay : ∀ {b : Addr} {o : HO}, H b = some o → exo a C none ≠ o → upd (upd H dx (exd dx [(f, y)])) a (exo a C (some dx)) b = some o := fun {b o} q ne => by
    rw [upd_ne (at_ne e q ne), upd_ne (ne_of_none q hnd)]; exact q
  have U : Un X.fs [] H (upd (upd H dx (exd dx [(f, y)])) a (exo a C (some dx))) hp h2 := {
    keep := fun b o q n _ _ => k b o (not_at e n) q
    slot := fun b o q n _ _ => ⟨o.slots, k b o (not_at e n) q⟩
    free := fun b o q n _ => by rw [upd_ne (not_at e n), upd_ne (old q)]; exact n
    there := fun b o q _ => by
      by_cases hb : b = a
      · exact ⟨_, hb ▸ hx⟩
      · exact ⟨o, k b o hb q⟩
    tups := fun b xs q => stay q exo_tup
    frzs := fun b o v q => stay q exo_frz
    tbls := fun b ps q => ⟨#[], by rw [stay q exo_tbl]; simp⟩ }
  refine go dx _ hnd ne (I.un (t' := t2) U fun b o q => ?_)
  by_cases hb : b = a
  · subst hb; rw [upd_same] at q; cases q; exact exo_ok hx
  · rw [upd_ne hb] at q
    by_cases hd : b = dx
    · subst hd; rw [upd_same] at q; cases q
      exact exd_ok hn (relO_put (fs := []) ry fun _ => True.intro)
    · rw [upd_ne hd] at q
      refine (I.hok b o q).stay (fun c v hc z => k c v ?_ z) (fun c hc => stay hc exo_own) fun c xs hc => stay hc exo_tup
      rcases hc with hc | hc
      · exact hc ▸ hb
      · exact at_ne e hc exo_own
/-- self.f = y, a further field -/
theorem err_more (T : ErrC X.K C) (I : Inv X pins σ H s) (e : H a = some (exo a C (some dx))) (ed : H dx = some (exd dx fs)) (few : fs.length ≤ 900) (free : PySem.W.findIn X.K (.ref C) f = some none) (ry : RelV y u)
    (go : ∀ st, Inv X pins σ (upd H dx (exd dx ((f, y) :: fs))) st → Q () st) : wpAny (model X.prog X.w) A (setAttr (.ref a) f u) Q E s := by
  obtain ⟨pe, cd, hcl, hm, hh⟩ := T.data
  obtain ⟨t1, ho⟩ := exo_at I.hok e
  obtain ⟨mA, hns, rel⟩ := exd_at I.hok ed
  have hw := within_of rel
  obtain ⟨hp, g, d, t, os⟩ := s
  obtain ⟨oD, _, _, hoD, _, _⟩ := hns.count hw
  refine PySem.W.set_plain I.kIn (od := some oD) (ox := { cls := .ref C, dict := some dx, data := .fields #[.ref t1, .none, .none, .none, .bool false, .none] }) ⟨ho, rfl, rfl, hoD⟩ T.sa (sa_more I.kIn ho hns hw (by rw [List.length_map]; omega) hcl hm hh free fun h2 t2 k hn => ?_)
  have there : ∃ o, h2.get? dx = some o := ⟨_, hn.choose_spec.choose_spec.choose_spec.1⟩
  exact go _ (I.write (t' := t2) (x := dx) (e := dx) (o := exd dx ((f, y) :: fs)) (by rw [ed]; exact True.intro) (.inl rfl) k there (exd_ok hn (relO_put ry rel)))
end
/-- self.f = e in the __init__ of such an error -/
def tErrSet (K : PySem.W.Frag) (f : Str) (to te : TE) : TS := fun D σ H => te σ H fun y H1 => to σ H1 fun x H2 => ∃ a C : Addr, x = .ref a ∧ ErrC K C ∧ PySem.W.findIn K (.ref C) f = some none ∧
  ((H2 a = some (exo a C none) ∧ ∀ dx, H2 dx = none → dx ≠ a → D.nx σ (upd (upd H2 dx (exd dx [(f, y)])) a (exo a C (some dx)))) ∨
   (∃ (dx : Addr) (fs : List (Str × V)), H2 a = some (exo a C (some dx)) ∧ H2 dx = some (exd dx fs) ∧ fs.length ≤ 900 ∧ D.nx σ (upd H2 dx (exd dx ((f, y) :: fs)))))
theorem ps_errSet {X : Cx} {o e : Expr} {to te : TE} {f : Str} {p' pos : Pos} (ho : PE X o to) (he : PE X e te) (hs : swapsWith e (some (.Attribute o f p')) pos.line X.env = pure false := by rfl) : PS X (.Assign [.Attribute o f p'] e pos) (tErrSet X.K f to te) := by
  refine ⟨fun pins s σ H D I h => plainObj_wpAny_Assign_Attribute (thn (he.run pins s σ H _ I h) fun v s1 ⟨y, H1, I1, r1, q1⟩ => thn (ho.run pins s1 σ H1 _ I1 q1) fun u s2 ⟨x, H2, I2, r2, a, C, ex, T, free, q⟩ => ?_) hs⟩
  subst ex
  obtain rfl : u = Value.ref a := r2
  rcases q with ⟨ea, q⟩ | ⟨dx, fs, ea, ed, few, q⟩
  · exact err_first T I2 ea free r1 fun dx st n ne J => ⟨σ, _, J, q dx n ne⟩
  · exact err_more T I2 ea ed few free r1 fun st J => ⟨σ, _, J, q⟩
end Pk
set_option Elab.async false
set_option linter.all false
set_option maxRecDepth 100000
set_option maxHeartbeats 1000000
namespace Pk
open PySem L2 PySem.Spec PyProof.Rows
/-- the __init__ at fI of the error class at C: F its words, cc the cell of the class -/
structure InitFn (P : Program) (K : PySem.W.Frag) (C fI cc : Addr) (F : NdefX.NF) : Prop where
  fn : ∃ (oc : Value) (od : Option Addr) (kV doc pm : Value) (an : Option Addr) (ct : Value) (osl : Array (Option Value)), K.lookup fI = some ⟨oc, od, .func (PySem.W.fnX F.name F.qual F.params F.body F.scope F.cl .none kV doc pm an (.ref F.c) ct), osl⟩
  code : PySem.W.codeIn K (.ref F.c) F.qual = true
  cl : F.cl = [(("__class__" : Str), cc)]
  cell : ∃ (a : Value) (b : Option Addr) (c : Array (Option Value)), K.lookup cc = some ⟨a, b, .cell (some (.ref C)), c⟩
  file : ∃ (a : Value) (b : Option Addr) (vs : Array Value) (c : Array (Option Value)) (f : Str) (t : Tok), K.lookup F.c = some ⟨a, b, .fields vs, c⟩ ∧ vs[2]? = some (.str f t) ∧ ((P.main.file : Str) == f) = true
  top : (P.main.scope.names.lookup ("super" : Str)).isSome = false
  opq : PySem.W.nsIn K cStatics "thirdparty.any" = some none
  self : ∃ q, (F.params.posonlyargs ++ F.params.args).head? = some { arg := "self", annotation := none, pos := q }
  sup : PySem.W.ks_superIn K C C "__init__" = some (some (.builtin "ArithmeticError.__init__"))
  below : PySem.W.mroIn K C (.ref C) = some true
section
open PySem.W PySem.Calls
variable {P : Program} {w : World} {K : PySem.W.Frag} {mg : Str → Option Value} {base : Heap} {CX : CXT} {C fI cc : Addr} {F : NdefX.NF} {N ps : List Str} {A : Around} {outer : List Env} {s : Shared} {H : Hp} {Q : VK} {E : XK} {k : Nat}
/-- super().__init__(text): the error's own arguments are laid anew, nothing else is changed -/
theorem sup_init {X : Cx} {pins : List (Addr × Obj)} {σ : L2.St} {H : Hp} {s : Shared} {x u : Addr} {us : List Value} {Qv : Value → Shared → Prop} (T : ErrC X.K C) (I : Inv X pins σ H s) (ex : H x = some (exo x C none)) (hu : s.heap.get? u = some (kxs_mw "ArithmeticError.__init__" x)) (hz : us.length ≤ sizeLine)
    (go : ∀ st, Inv X pins σ H st → Qv .none st) : wpAny (model X.prog X.w) X.A (call (.ref u) us) Qv X.xe s := by
  obtain ⟨pe, nm, q, NN, bs, sn, sub, ab, col, dd, k0, k1, k2, k3, k5, hC⟩ := T.cls
  obtain ⟨t1, ho⟩ := exo_at I.hok ex
  have hC' := I.kIn _ _ hC
  have hE := PySem.F.excBase_ArithmeticError
  have fin : ∀ h2, (∀ b o, b ≠ x → s.heap.get? b = some o → h2.get? b = some o) → h2.get? x = some (excObj C s.heap.objs.size none .none) → Qv .none { s with heap := h2 } := fun h2 keep hx => by
    have J := I.write (t' := s.toks) (x := x) (e := x) (o := exo x C none) (by rw [ex]; exact True.intro) (.inl rfl) keep ⟨_, hx⟩ (exo_ok hx)
    have e2 : upd H x (exo x C none) = H := by
      funext b
      by_cases hb : b = x
      · rw [hb, upd_same, ex]
      · rw [upd_ne hb]
    rw [e2] at J
    exact go _ J
  obtain ⟨hp, g, d, tk, os⟩ := s
  refine wpAny_call (codeAny_of_tree ?_)
  show wpAny _ X.A.in1 (callAny (.ref u) ⟨us, []⟩) _ _ _
  simp only [callAny]
  refine wpAny_bind (wpAny_load hu ?_)
  simp only [kxs_mw, show (Value.type "method-wrapper" == Value.type "method" || Value.type "method-wrapper" == Value.type "builtin_function_or_method" || Value.type "method-wrapper" == Value.type "method-wrapper") = true from by decide, if_true]
  refine KFB.if_so (by decide) (wpAny_bind (check_bound_init hE.toExcCallFacts hC' ho rfl (wpAny_bind (wpAny_pure (wpAny_pure ⟨plainId_quiet hE.init.plain _, codeAny_builtin hE.initEntry ?_⟩)))))
  exact exc_init_tree (cls := .ref C) (t0 := t1) (dv := none) (c2 := .none) (c3 := .none) (b4 := .bool false) ho hz fun h2 keep hx _ => fin h2 keep hx

/-- THE RULE of such an __init__: behind its first row the rest of its body runs as a def's body does, the class in its cell -/
theorem init_run {msg : Str} {kd : Nat} {p0 p1 p2 p3 p4 p5 : Pos} {rest : List Stmt} {us : List Value} {vs : List V} {x : Addr} (T : ErrC K C) (J : InitFn P K C fI cc F) (ms : mg "super" = none) (S : NdefX.NScope N ps ["__class__"] F.scope)
    (hB : F.body = .Expr (.Call (.Attribute (.Call (.Name "super" p0) [] [] p1) "__init__" p2) [.Constant (.str msg) kd p3] [] p4) p5 :: rest) (hsg : F.scope.names.lookup ("super" : Str) = some .globalImplicit)
    (hsl : F.scope.names.lookup ("self" : Str) = some .local) (hr : Room (k + 1) A) (e0 : Env0 P w K mg base A outer s H)
    (hb : ∀ (kV doc pm ct : Value) (an : Option Addr), BindsTo s (PySem.W.fnX F.name F.qual F.params F.body F.scope F.cl .none kV doc pm an (.ref F.c) ct) ⟨us, []⟩ (ps.zip us)) (r : Vals vs us) (hl : vs.length = ps.length)
    (hs0 : ps[0]? = some ("self" : Str)) (hv0 : vs[0]? = some (.ref x)) (ex : H x = some (exo x C none))
    {pl : Sem Bool} (he : ∀ env : Env, eval (.Call (.Attribute (.Call (.Name "super" p0) [] [] p1) "__init__" p2) [.Constant (.str msg) kd p3] [] p4) env = (do
      let ov ← attributeBase (.Call (.Name "super" p0) [] [] p1) "__init__" env (eval (.Call (.Name "super" p0) [] [] p1) env)
      standAt p2.atName
      let (f, first) ← holding [ov] (getMethod ov "__init__" pl)
      callWith p4 f first (backTo p4 (starEach [.Constant (.str msg) kd p3] env)) []))
    (hq : Room k (A.deeper (NdefX.envF F fI s.heap.objs.size)) → ∃ t, PSs (NdefX.ncx CX P w K mg base N F fI A outer s H E) rest t ∧ t { nx := fun _ H' => Q .non H', rt := Q } (NdefX.startF N vs [some (.ref C)]) H) :
    codeAny (model P w) A (.call (.ref fI) ⟨us, []⟩) (CR CX outer P w H s Q E) s := by
  obtain ⟨oc, od, kV, doc, pm, an, ct, osl, lk⟩ := J.fn
  obtain ⟨ca, cb, ccs, hcell⟩ := J.cell
  obtain ⟨fa, fb, fvs, fc, ff, ft, hcode, hvs, hfile⟩ := J.file
  obtain ⟨aq, hself⟩ := J.self
  obtain ⟨pe, cd, hcd, hmro, hhd⟩ := T.data
  have kin0 : K.In s.heap := e0.mod.kin.keeps fun b o e => (e0.bs b o e).1
  have lim : s.heap.NoLimit := e0.mod.nolimit.keeps fun b o e => (e0.bs b o e).1
  have cells : NdefX.CellsAt F.cl ["__class__"] [some (.ref C)] s.heap H := by
    have there : s.heap.IsCell cc (some (.ref C)) := ⟨_, kin0 _ _ hcell, rfl⟩
    have one : ∀ (y : Str) (c : Addr), F.cl.lookup y = some c → y = "__class__" ∧ c = cc := fun y c e => by
      rw [J.cl] at e
      have m := PySem.mem_of_lookup e
      simp only [List.mem_singleton, Prod.mk.injEq] at m
      exact m
    refine ⟨rfl, fun y c e => ?_, fun y z c e1 e2 => (one y c e1).1.trans (one z c e2).1.symm, fun i y e => ?_⟩
    · obtain ⟨_, rfl⟩ := one y c e
      exact ⟨(e0.bs _ _ (e0.mod.kin _ _ hcell)).2, _, there⟩
    · have ey : y = "__class__" := by
        match i, e with
        | 0, e => exact (Option.some.inj e).symm
        | i + 1, e => simp at e
      subst ey
      refine ⟨cc, by rw [J.cl]; simp [List.lookup], fun v e => ?_⟩
      match i, e with
      | 0, e => exact ⟨.ref C, by have z := Option.some.inj (Option.some.inj e); subst z; rfl, there⟩
      | i + 1, e => simp at e
  have ndP : ps.Nodup := by
    have q := S.nd.sublist (List.take_sublist (ps.length + [("__class__" : Str)].length) N)
    rw [S.pre] at q
    exact (List.nodup_append.mp q).1
  have hu0 : us[0]? = some (.ref x) := by
    obtain ⟨u, hu, ru⟩ := r.get hv0
    rw [hu]
    exact congrArg some ru
  refine ks_codeAny_call_defAt (fd := PySem.W.fnX F.name F.qual F.params F.body F.scope F.cl .none kV doc pm an (.ref F.c) ct) (body := F.body) (binds := ps.zip us) hr.depth (kin0 _ _ lk) rfl lim (PySem.W.codeRec_of kin0 J.code) rfl (hb kV doc pm ct an) S.nocell
    (fun ⟨n, v⟩ hy => S.par n (List.of_mem_zip hy).1) (fun h₁ hns hk₁ => ?_) S.co S.gen S.kind
  have I : Inv (NdefX.ncx CX P w K mg base N F fI A outer s H E) [] (NdefX.startF N vs [some (.ref C)]) H { s with heap := h₁, toks := s.toks + (ps.zip us).length } := NdefX.inv_startN S hr.hd e0 hl r cells hns hk₁
  obtain ⟨t, ht, hgo⟩ := hq (hr.deeper _)
  show PySem.wpAt _ (A.deeper (NdefX.envF F fI s.heap.objs.size)) (.func F.body (NdefX.envF F fI s.heap.objs.size)) (execs F.body (NdefX.envF F fI s.heap.objs.size)) _ _ _
  rw [hB]
  have hx1 : ∃ t1, h₁.get? x = some (excObj C t1 none .none) := exo_at I.hok ex
  obtain ⟨t1, hx1⟩ := hx1
  have kin1 : K.In h₁ := I.kIn
  obtain ⟨oD, hD1, hD2⟩ : ∃ oD, h₁.get? C = some oD ∧ oD.data = .cls cd := by
    have q := hcd
    unfold PySem.W.clsIn at q
    split at q
    · rename_i c' d' cd' sl' ho
      cases q
      exact ⟨_, kin1 _ _ ho, rfl⟩
    · cases q
  have fin : ∀ st, Inv (NdefX.ncx CX P w K mg base N F fI A outer s H E) [] (NdefX.startF N vs [some (.ref C)]) H st →
      wpAny (model P w) (A.deeper (NdefX.envF F fI s.heap.objs.size)) (execs rest (NdefX.envF F fI s.heap.objs.size)) (fun f s' => CR CX outer P w H s Q E (.ok (.ret (match f with | .ret v => v | _ => .none))) s')
        (fun e s' => wpAny (model P w) (A.deeper (NdefX.envF F fI s.heap.objs.size)) (leaving (NdefX.envF F fI s.heap.objs.size) e) (fun _ s'' => CR CX outer P w H s Q E (.error e) s'') (fun e' s'' => CR CX outer P w H s Q E (.error e') s'') s') st := fun st I2 => by
    refine wpAny_mono (ht.run [] st _ H _ I2 hgo) (fun fl s' hs => ?_) fun e s' hs => hs
    have close : ∀ {σ' : L2.St} {H' : Hp} {v : V} {u : Value}, Inv (NdefX.ncx CX P w K mg base N F fI A outer s H E) [] σ' H' s' → L2.RelV v u → Q v H' → CE outer P w H s Q u s' := fun {σ' H' v u} Z rv q => ⟨v, H', Z.os, Z.bare, Z.base, Z.hok, rv, q⟩
    cases fl with
    | ret u =>
      obtain ⟨v, σ', H', Z, rv, q⟩ := hs
      exact close Z rv q
    | next =>
      obtain ⟨σ', H', Z, q⟩ := hs
      exact close (v := V.non) (u := Value.none) Z rfl q
    | brk => exact (hs.choose_spec.choose_spec.2 : False).elim
    | cont => exact (hs.choose_spec.choose_spec.2 : False).elim
  refine ks_wpAt_execs_cons (ks_wpAt_Expr_any (ks_wpAt_MethodCall (ks_wpAt_super_base (cc := F.c) (f := fI) (ar := { arg := "self", annotation := none, pos := aq }) hsg (S.frk _ (by simp)) (by decide) rfl (kin1 _ _ lk) rfl hself rfl (kin1 _ _ hcode) rfl hvs hfile J.top ?_) (he _)) I.quiet ?sw)
  case sw => rfl
  obtain ⟨mb, hm1, hm2⟩ := e0.mod.blt
  refine ks_loadName_global S.kind hsg (loadGlobal_builtin (env := NdefX.envF F fI s.heap.objs.size) (e0.mod.glob.keeps I.bk) ms (hm1.keeps I.bk) ((hm2 "super" (by decide)).trans (by decide +kernel)) ⟨rfl, ?_⟩)
  refine wpAny_loadName_free S.kind (S.frk _ (by simp)) (show F.cl.lookup ("__class__" : Str) = some cc by rw [J.cl]; simp [List.lookup]) ⟨_, kin1 _ _ hcell, rfl⟩ ?_
  refine wpAny_loadName_local S.kind hsl hns (NdefX.zip_look ndP hs0 hu0) (ks_wpAny_isType_cls hD1 hD2 ⟨rfl, ?_⟩)
  have nocls : ∀ c, (excObj C t1 none .none).data ≠ .cls c := fun c z => by cases z
  refine ks_wpAny_call_super hD1 hD2 hx1 rfl nocls (PySem.W.looks_mroIn kin1 J.below) (fun h2 eso k2 => ?_)
  have I2 := I.kept (t' := s.toks + (ps.zip us).length) k2
  have kin2 : K.In h2 := I2.kIn
  have inst : PySem.W.InstAt h2 x (excObj C t1 none .none) C none := ⟨k2 _ _ hx1, rfl, rfl, trivial⟩
  have along : PySem.W.alongIn K "__init__" ((cd.mro.dropWhile (· != .ref C)).drop 1) = some (some (.builtin "ArithmeticError.__init__")) := by
    have q := J.sup
    unfold PySem.W.ks_superIn at q
    rw [hcd] at q
    exact q
  refine kxs_getMethod kxs_ArithmeticError eso (PySem.W.looks_opaque kin2 J.opq) ((PySem.W.looks_clsIn kin2 hcd).andThen .now) rfl kin2 along (inst.type.andThen (PySem.W.looks_subIn kin2 T.exA)) (PySem.W.ks_ne kin2 inst hcd) (by decide) ?_
  refine kxs_callWith (i := "ArithmeticError.__init__") (x := x) rfl ?_
  have hu : (h2.push (kxs_mw "ArithmeticError.__init__" x)).get? h2.objs.size = some (kxs_mw "ArithmeticError.__init__" x) := Heap.get?_push_at rfl rfl
  have fr : H h2.objs.size = none := I2.hok.fresh (Nat.le_refl _)
  have I3 := I2.kept (t' := s.toks + (ps.zip us).length + 1) (h' := h2.push (kxs_mw "ArithmeticError.__init__" x)) fun b o e => Heap.get?_push_of_some _ e
  have I4 : Inv (NdefX.ncx CX P w K mg base N F fI A outer s H E) [(h2.objs.size, kxs_mw "ArithmeticError.__init__" x)] (NdefX.startF N vs [some (.ref C)]) H { s with heap := h2.push (kxs_mw "ArithmeticError.__init__" x), toks := s.toks + (ps.zip us).length + 1 } :=
    ⟨I3.ok, I3.os, I3.bare, I3.base, I3.loc, I3.cell, I3.free, I3.freeC, fun p hp => by
      have e : p = (h2.objs.size, kxs_mw "ArithmeticError.__init__" x) := by
        have q : p ∈ [] ++ [(h2.objs.size, kxs_mw "ArithmeticError.__init__" x)] := hp
        simpa using q
      subst e
      exact ⟨hu, fr, Nat.ne_of_gt I2.lt, I2.nofs (Nat.le_refl _), fun v z => by cases z⟩, I3.hok, I3.len⟩
  have arg : PA (NdefX.ncx CX P w K mg base N F fI A outer s H E) [.Constant (.str msg) kd p3] (tCons (tC (.str msg)) tNil) := pa_cons pe_str pa_nil
  refine evalArgs_plain (thn (arg.run p4 _ _ _ H (fun us2 H2 => us2 = [.str msg] ∧ H2 = H) I4 ⟨rfl, rfl⟩) fun us2 s3 h3 => ?_)
  obtain ⟨vs2, H3, I5, r5, rfl, rfl⟩ := h3
  have mu : s3.heap.get? h2.objs.size = some (kxs_mw "ArithmeticError.__init__" x) := (I5.pin (h2.objs.size, kxs_mw "ArithmeticError.__init__" x) (List.mem_append_right _ (List.mem_singleton.mpr rfl))).1
  have one : us2.length ≤ sizeLine := by
    have z := Paired.length r5
    rw [← z, sizeLine_eq]
    show 1 ≤ 16777216
    decide
  refine ⟨mu, sup_init (us := us2) T I5 ex mu one fun st I6 => ?_⟩
  refine wpAt_of_wpAny (fin st ⟨I6.ok, I6.os, I6.bare, I6.base, I6.loc, I6.cell, I6.free, I6.freeC, fun p hp => I6.pin p (List.mem_append_left _ ?_), I6.hok, I6.len⟩)
  have q : p ∈ [] ++ [] := hp
  simpa using q
end
end Pk
set_option Elab.async false
set_option linter.all false
set_option maxRecDepth 100000
set_option maxHeartbeats 1000000
namespace Pk
open PySem L2 PySem.Spec PyProof.Rows
/-- the __init__ at fI keeps sp, its first argument an error that is being made -/
structure ErrOk (P : Program) (w : World) (K : PySem.W.Frag) (mg : Str → Option Value) (base : Heap) (k : Nat) (C fI : Addr) (sp : Sp) : Prop where
  run : ∀ (A : Around) (outer : List Env) (s : Shared) (H : Hp) (us : List Value) (vs : List V) (x : Addr) (Q : VK), Room k A → Env0 P w K mg base A outer s H → Vals (.ref x :: vs) us → H x = some (exo x C none) → sp (.ref x :: vs) H Q (fun _ _ _ => False) →
    codeAny (model P w) A (.call (.ref fI) ⟨us, []⟩) (CR CX0 outer P w H s Q (fun _ _ _ => False)) s
/-- C(e, ..) -/
def tMkErr (C : Addr) (sp : Sp) (ta : TA) : L2.St → Hp → XK → Prop := fun σ H Q => ta σ H fun vs H1 => vs.length ≤ 1000 ∧ ∀ x, H1 x = none →
  sp (.ref x :: vs) (upd H1 x (exo x C none)) (fun v H2 => v = .non ∧ ∃ (d : Addr) (fs : List (Str × V)), H2 x = some (exo x C (some d)) ∧ H2 d = some (exd d fs) ∧ H1 d = none ∧ Q (.ref C) (some d) (upd (del H2 x) d (.xd fs))) (fun _ _ _ => False)
theorem pmk_err {X : Cx} {x : Str} {C fI : Addr} {k : Nat} {sp : Sp} {p pos : Pos} {e : Expr} {es : List Expr} {ta : TA} (T : ErrC X.K C) (iC : PySem.W.findIn X.K (.ref C) "__init__" = some (some (.ref fI))) (tI : PySem.W.typeIn X.K (.ref fI) = some (.type "function"))
    (G : ErrOk X.prog X.w X.K X.mg X.base k C fI sp) (hr : Room (k + 1) X.A) (hg : Gl X x) (hm : X.mg x = some (.ref C)) (ha : PA X (e :: es) ta)
    (hdb : (x == ("__debug__" : Str)) = false := by decide) (he : starEach (e :: es) X.env = (false, eval e X.env) :: starEach es X.env := by rfl) (hpl : (backTo pos (starEach es X.env)).any (·.1) = false := by rfl) : PMk X (.Call (.Name x p) (e :: es) [] pos) (tMkErr C sp ta) := by
  intro pins s σ H Q I h
  obtain ⟨pe, nm, q, N, bs, sn, sub, ab, col, dd, k0, k1, k2, k3, k5, hC⟩ := T.cls
  refine wpAny_Call_Name_kw (ld_glob I hg hm (PySem.W.callWith_K (h₀ := X.base) I.ok.mod.kin T.kp (thn (ha.run pos pins s σ H _ I h) fun us s1 ⟨vs, H1, I1, r1, hz, q1⟩ => ⟨I1.kIn, ?_⟩) he hpl) hdb)
  show wpAny _ _ (call (.ref C) us) _ _ _
  obtain ⟨hp, g, dr, tk, os⟩ := s1
  have up := Nat.le_succ hp.objs.size
  have hq := q1 (hp.objs.size + 1) (I1.hok.fresh up)
  have kk : ∀ b o, hp.get? b = some o → ((hp.push (PySem.W.kdv_tup us)).push (PySem.HandSPX.excO C hp.objs.size)).get? b = some o := fun b o z => Heap.get?_push_of_some _ (Heap.get?_push_of_some _ z)
  have made : ((hp.push (PySem.W.kdv_tup us)).push (PySem.HandSPX.excO C hp.objs.size)).get? (hp.objs.size + 1) = some (PySem.HandSPX.excO C hp.objs.size) := by heap_get
  have I2 := I1.laid (t' := tk) (a := hp.objs.size + 1) (o := exo (hp.objs.size + 1) C none) kk up (exo_ok made)
  have short : us.length ≤ sizeLine := by
    rw [← Paired.length r1, sizeLine_eq]; omega
  refine wpAny_call (PySem.HandSPX.call_own PySem.F.excBase_ArithmeticError arT_same (I1.kIn _ _ hC) (PySem.W.looks_findIn I1.kIn iC) (fun z => PySem.W.bind_fn I1.kIn z tI) short
    (codeAny_mono (G.run _ X.stack _ _ (Value.ref (hp.objs.size + 1) :: us) vs (hp.objs.size + 1) _ (hr.make C us []) (I2.env0.make C us []) (.cons rfl r1) upd_same hq) fun r st z => ?_))
  cases r with
  | error er => exact (show False from z).elim
  | ok fl =>
    cases fl with
    | ret u =>
      obtain ⟨v, H2, os2, bare2, un2, hok2, rv, ev, d, fs, ea, ed, hd1, q2⟩ := z
      subst ev
      obtain ⟨h2, g2, d2, t2, os'⟩ := st
      exact ⟨rv, mk_end (raises_own T.exB T.ty) I1 up kk un2 hok2 os2 bare2 ea ed hd1 q2⟩
    | next => exact False.elim z
    | brk => exact False.elim z
    | cont => exact False.elim z

theorem r_errSet {K : PySem.W.Frag} {f : Str} {to te : TE} {D : Ends} {σ : L2.St} {H : Hp} (h : te σ H fun y H1 => to σ H1 fun x H2 => ∃ a C : Addr, x = .ref a ∧ ErrC K C ∧ PySem.W.findIn K (.ref C) f = some none ∧
  ((H2 a = some (exo a C none) ∧ ∀ dx, H2 dx = none → dx ≠ a → D.nx σ (upd (upd H2 dx (exd dx [(f, y)])) a (exo a C (some dx)))) ∨
   (∃ (dx : Addr) (fs : List (Str × V)), H2 a = some (exo a C (some dx)) ∧ H2 dx = some (exd dx fs) ∧ fs.length ≤ 900 ∧ D.nx σ (upd H2 dx (exd dx ((f, y) :: fs)))))) : tErrSet K f to te D σ H := h
/-- an __init__ of one field, a copy of what it is passed -/
def spErr1 (K : PySem.W.Frag) (n : Nat) (C : Addr) (f : Str) : Sp := fun vs H Q _ => ∃ (x : Addr) (v : V) (d : PyData), vs = [.ref x, v] ∧ H x = some (exo x C none) ∧ Dp K H v d ∧ Deep n d ∧
  ∀ (dx : Addr) (v' : V) (H' : Hp), H' x = some (exo x C (some dx)) → H' dx = some (exd dx [(f, v')]) → H dx = none → dx ≠ x → Keep x H H' → Own H H' v' d → Q .non H'
/-- .. of two fields, in this sequence -/
def spErr2 (K : PySem.W.Frag) (n : Nat) (C : Addr) (f g : Str) : Sp := fun vs H Q _ => ∃ (x : Addr) (v u : V) (d e : PyData), vs = [.ref x, v, u] ∧ H x = some (exo x C none) ∧ Dp K H v d ∧ Deep n d ∧ Dp K H u e ∧ Deep n e ∧
  ∀ (dx : Addr) (v' u' : V) (H' : Hp), H' x = some (exo x C (some dx)) → H' dx = some (exd dx [(g, u'), (f, v')]) → H dx = none → dx ≠ x → Keep x H H' → Own H H' v' d → Own H H' u' e → Q .non H'
theorem exd_lt {dx : Addr} {fs : List (Str × V)} {u : HO} (h : ∃ xs, u = .lst xs ∨ u = .tup xs) : exd dx fs ≠ u := fun z => by
  obtain ⟨xs, e | e⟩ := h
  · rw [e] at z; cases (show HO.ext _ = HO.lst xs from z)
  · rw [e] at z; cases (show HO.ext _ = HO.tup xs from z)
/-- what is new stays so when the error, which is known, and its new dict are written -/
theorem Own.stored {H H1 : Hp} {v : V} {d : PyData} {x dx : Addr} {o u : HO} (w : Own H H1 v d) (hx : H x ≠ none) (hd : H1 dx = none) : Own H (upd (upd H1 dx o) x u) v d :=
  w.mono (fun _ n _ => n) fun a z n q _ => by
    have na : a ≠ x := fun e => hx (e ▸ n)
    rw [upd_ne na, upd_ne (ne_of_none q hd)]
    exact q
section
variable {P : Program} {w : World} {K : PySem.W.Frag} {mg : Str → Option Value} {base : Heap} {C fI cc fc : Addr} {fdc : FuncData} {F : NdefX.NF} {n : Nat} {f g : Str}
theorem err_one {msg : Str} {kd : Nat} {p0 p1 p2 p3 p4 p5 q0 q1 q2 q3 q4 q5 : Pos} (T : ErrC K C) (J : InitFn P K C fI cc F) (ms : mg "super" = none) (G : FnOk P w K mg base CX0 (n + 1) fc fdc ["value"] (spCopy K n)) (mc : mg "own_copy" = some (.ref fc)) (kc : PySem.W.keepIn K (.ref fc) = true)
    (bc : Binds K fdc ["value"] []) (S : NdefX.NScope ["self", f, "__class__"] ["self", f] ["__class__"] F.scope)
    (hB : F.body = .Expr (.Call (.Attribute (.Call (.Name "super" p0) [] [] p1) "__init__" p2) [.Constant (.str msg) kd p3] [] p4) p5 :: [.Assign [.Attribute (.Name "self" q0) f q1] (.Call (.Name "own_copy" q2) [.Name f q3] [] q4) q5])
    (hsg : F.scope.names.lookup ("super" : Str) = some .globalImplicit) (hog : F.scope.names.lookup ("own_copy" : Str) = some .globalImplicit) (free : PySem.W.findIn K (.ref C) f = some none)
    (hb : ∀ (kV doc pm ct : Value) (an : Option Addr) (us : List Value), us.length = 2 → bindArgs (PySem.W.fnX F.name F.qual F.params F.body F.scope F.cl .none kV doc pm an (.ref F.c) ct) ⟨us, []⟩ = pure ((["self", f] : List Str).zip us))
    {pl : Sem Bool} (he : ∀ env : Env, eval (.Call (.Attribute (.Call (.Name "super" p0) [] [] p1) "__init__" p2) [.Constant (.str msg) kd p3] [] p4) env = (do
      let ov ← attributeBase (.Call (.Name "super" p0) [] [] p1) "__init__" env (eval (.Call (.Name "super" p0) [] [] p1) env)
      standAt p2.atName
      let (f, first) ← holding [ov] (getMethod ov "__init__" pl)
      callWith p4 f first (backTo p4 (starEach [.Constant (.str msg) kd p3] env)) []))
    (fd : (f == ("__debug__" : Str)) = false) (fcd : (f == ("__classdict__" : Str)) = false) : ErrOk P w K mg base (n + 2) C fI (spErr1 K n C f) := by
  refine ⟨fun A outer s H us vs x Q hr e0 r ex hsp => ?_⟩
  obtain ⟨x', v, d, evs, _, hv, hd, k⟩ := hsp
  obtain ⟨rfl, rfl⟩ : x = x' ∧ vs = [v] := by
    have z := List.cons.inj evs
    exact ⟨V.ref.inj z.1, z.2⟩
  have lu : us.length = 2 := by rw [← r.length]; rfl
  refine init_run (k := n + 1) (rest := [.Assign [.Attribute (.Name "self" q0) f q1] (.Call (.Name "own_copy" q2) [.Name f q3] [] q4) q5]) (x := x) T J ms S hB hsg (S.par _ (by simp)) hr e0 (fun kV doc pm ct an => BindsTo.of_eq (hb kV doc pm ct an us lu)) r rfl rfl rfl ex he fun hr' => ?_
  refine ⟨_, pss_one (ps_errSet (pe_var (i := 0) rfl (.inl (S.par _ (by simp)))) (pe_call G hr' hog mc kc bc .nil pass0 (pa_cons (pe_var (i := 1) rfl (.inl (S.par _ (by simp))) fd fcd) pa_nil)) ?sw), ?_⟩
  case sw => rfl
  refine r_errSet ?_
  refine r_call ?_
  refine r_cons ?_
  refine r_var rfl ?_
  refine r_nil ?_
  refine ⟨v, d, rfl, hv, hd, fun v' H1 s1 o1 => ?_⟩
  refine r_var rfl ?_
  refine ⟨x, C, rfl, T, free, .inl ⟨s1 _ _ ex, fun dx hdx ne => ?_⟩⟩
  refine k dx v' _ upd_same (by rw [upd_ne ne, upd_same]) (s1.free hdx) ne (Keep.own (Keep.new (Keep.same s1) hdx)) (o1.stored (by rw [ex]; exact Option.some_ne_none _) hdx)

theorem exo_lt {x : Addr} {C : Addr} {d : Option Addr} {u : HO} (h : IsLT u) : exo x C d ≠ u := fun z => by
  rcases h with ⟨_, e⟩ | ⟨_, e⟩ | ⟨_, _, e⟩
  · rw [e] at z; exact exo_lt' z
  · exact exo_tup (z.trans e)
  · exact exo_frz (z.trans e)
where exo_lt' {x C : Addr} {d : Option Addr} {xs : List V} (z : exo x C d = .lst xs) : False := by cases (show HO.ext _ = HO.lst xs from z)
/-- behind the stores into the error at x lists and tuples are as they were -/
theorem sameD_err {H : Hp} {x C dx : Addr} {d : Option Addr} {o u : HO} (hx : H x = some (exo x C d)) (hd : H dx = none) : SameD H (upd (upd H dx o) x u) := fun a z l h => by
  rw [upd_ne (at_ne hx h (exo_lt l)), upd_ne (ne_of_none h hd)]
  exact h
theorem err_two {msg : Str} {kd : Nat} {p0 p1 p2 p3 p4 p5 q0 q1 q2 q3 q4 q5 z0 z1 z2 z3 z4 z5 : Pos} (T : ErrC K C) (J : InitFn P K C fI cc F) (ms : mg "super" = none) (G : FnOk P w K mg base CX0 (n + 1) fc fdc ["value"] (spCopy K n)) (mc : mg "own_copy" = some (.ref fc)) (kc : PySem.W.keepIn K (.ref fc) = true)
    (bc : Binds K fdc ["value"] []) (S : NdefX.NScope ["self", f, g, "__class__"] ["self", f, g] ["__class__"] F.scope)
    (hB : F.body = .Expr (.Call (.Attribute (.Call (.Name "super" p0) [] [] p1) "__init__" p2) [.Constant (.str msg) kd p3] [] p4) p5 ::
      [.Assign [.Attribute (.Name "self" q0) f q1] (.Call (.Name "own_copy" q2) [.Name f q3] [] q4) q5, .Assign [.Attribute (.Name "self" z0) g z1] (.Call (.Name "own_copy" z2) [.Name g z3] [] z4) z5])
    (hsg : F.scope.names.lookup ("super" : Str) = some .globalImplicit) (hog : F.scope.names.lookup ("own_copy" : Str) = some .globalImplicit) (free : PySem.W.findIn K (.ref C) f = some none) (freeg : PySem.W.findIn K (.ref C) g = some none)
    (hb : ∀ (kV doc pm ct : Value) (an : Option Addr) (us : List Value), us.length = 3 → bindArgs (PySem.W.fnX F.name F.qual F.params F.body F.scope F.cl .none kV doc pm an (.ref F.c) ct) ⟨us, []⟩ = pure ((["self", f, g] : List Str).zip us))
    {pl : Sem Bool} (he : ∀ env : Env, eval (.Call (.Attribute (.Call (.Name "super" p0) [] [] p1) "__init__" p2) [.Constant (.str msg) kd p3] [] p4) env = (do
      let ov ← attributeBase (.Call (.Name "super" p0) [] [] p1) "__init__" env (eval (.Call (.Name "super" p0) [] [] p1) env)
      standAt p2.atName
      let (f, first) ← holding [ov] (getMethod ov "__init__" pl)
      callWith p4 f first (backTo p4 (starEach [.Constant (.str msg) kd p3] env)) []))
    (fd : (f == ("__debug__" : Str)) = false) (fcd : (f == ("__classdict__" : Str)) = false) (gd : (g == ("__debug__" : Str)) = false) (gcd : (g == ("__classdict__" : Str)) = false) : ErrOk P w K mg base (n + 2) C fI (spErr2 K n C f g) := by
  refine ⟨fun A outer s H us vs x Q hr e0 r ex hsp => ?_⟩
  obtain ⟨x', v, u, d, e, evs, _, hv, hd, hu, hde, k⟩ := hsp
  obtain ⟨rfl, rfl⟩ : x = x' ∧ vs = [v, u] := by
    have z := List.cons.inj evs
    exact ⟨V.ref.inj z.1, z.2⟩
  have lu : us.length = 3 := by rw [← r.length]; rfl
  refine init_run (k := n + 1) (rest := [.Assign [.Attribute (.Name "self" q0) f q1] (.Call (.Name "own_copy" q2) [.Name f q3] [] q4) q5, .Assign [.Attribute (.Name "self" z0) g z1] (.Call (.Name "own_copy" z2) [.Name g z3] [] z4) z5]) (x := x) T J ms S hB hsg (S.par _ (by simp)) hr e0
    (fun kV doc pm ct an => BindsTo.of_eq (hb kV doc pm ct an us lu)) r rfl rfl rfl ex he fun hr' => ?_
  refine ⟨_, pss_cons (ps_errSet (pe_var (i := 0) rfl (.inl (S.par _ (by simp)))) (pe_call G hr' hog mc kc bc .nil pass0 (pa_cons (pe_var (i := 1) rfl (.inl (S.par _ (by simp))) fd fcd) pa_nil)) ?sw)
    (pss_one (ps_errSet (pe_var (i := 0) rfl (.inl (S.par _ (by simp)))) (pe_call G hr' hog mc kc bc .nil pass0 (pa_cons (pe_var (i := 2) rfl (.inl (S.par _ (by simp))) gd gcd) pa_nil)) ?sv)), ?_⟩
  case sw => rfl
  case sv => rfl
  refine r_seq ?_
  refine r_errSet ?_
  refine r_call ?_
  refine r_cons ?_
  refine r_var rfl ?_
  refine r_nil ?_
  refine ⟨v, d, rfl, hv, hd, fun v' H1 s1 o1 => ?_⟩
  refine r_var rfl ?_
  refine ⟨x, C, rfl, T, free, .inl ⟨s1 _ _ ex, fun dx hdx ne => ?_⟩⟩
  have o2 := o1.stored (o := exd dx [(f, v')]) (u := exo x C (some dx)) (by rw [ex]; exact Option.some_ne_none _) hdx
  have sd : SameD H (upd (upd H1 dx (exd dx [(f, v')])) x (exo x C (some dx))) := (SameD.of s1).trans (sameD_err (s1 _ _ ex) hdx)
  show tErrSet K g (tVar 0) (tCall (spCopy K n) [] E0 (tCons (tVar 2) tNil)) { nx := fun _ H2 => Q .non H2, rt := Q } _ _
  refine r_errSet ?_
  refine r_call ?_
  refine r_cons ?_
  refine r_var rfl ?_
  refine r_nil ?_
  refine ⟨u, e, rfl, Dp.laterD sd hu, hde, fun u' H2 s2 o3 => ?_⟩
  refine r_var rfl ?_
  have ed2 : H2 dx = some (exd dx [(f, v')]) := s2 _ _ (by rw [upd_ne ne, upd_same])
  refine ⟨x, C, rfl, T, freeg, .inr ⟨dx, [(f, v')], s2 _ _ upd_same, ed2, by show 1 ≤ 900; decide, ?_⟩⟩
  have hdx0 : H dx = none := s1.free hdx
  have kp : Keep x H H2 := (Keep.own (Keep.new (Keep.same s1) hdx)).trans (Keep.same s2)
  have ndx : ∀ {a : Addr} {z : HO}, (∃ xs, z = .lst xs ∨ z = .tup xs) → H2 a = some z → a ≠ dx := fun {a z} l h => at_ne ed2 h (exd_lt l)
  refine k dx v' u' _ (by rw [upd_ne (Ne.symm ne)]; exact s2 _ _ upd_same) upd_same hdx0 ne (fun b o nb hbo => ?_) ((o2.later s2).mono (fun _ n _ => n) fun a z n q l => by rw [upd_ne (ndx l q)]; exact q) ?_
  · rw [upd_ne (ne_of_none hbo hdx0)]
    exact kp b o nb hbo
  · refine o3.mono (fun a n _ => ?_) fun a z n q l => by rw [upd_ne (ndx l q)]; exact q
    have na : a ≠ x := fun z => by rw [z, upd_same] at n; cases n
    have nd : a ≠ dx := fun z => by rw [z, upd_ne ne, upd_same] at n; cases n
    rw [upd_ne na, upd_ne nd] at n
    exact s1.free n
/-- C(e) in the raiser's heap: a new dict with a copy -/
theorem r_err1 {σ : L2.St} {H : Hp} {Q : XK} {v : V} {d : PyData} (hv : Dp K H v d) (hd : Deep n d) (q : ∀ (dd : Addr) (v' : V) (H' : Hp), Same H H' → H dd = none → H' dd = some (.xd [(f, v')]) → Own H H' v' d → Q (.ref C) (some dd) H') :
    [v].length ≤ 1000 ∧ ∀ x, H x = none → spErr1 K n C f (.ref x :: [v]) (upd H x (exo x C none)) (fun v H2 => v = .non ∧ ∃ (d : Addr) (fs : List (Str × V)), H2 x = some (exo x C (some d)) ∧ H2 d = some (exd d fs) ∧ H d = none ∧ Q (.ref C) (some d) (upd (del H2 x) d (.xd fs))) (fun _ _ _ => False) := by
  refine ⟨by show 1 ≤ 1000; decide, fun x hx => ?_⟩
  have s0 : Same H (upd H x (exo x C none)) := Same.up (Same.refl H) hx
  refine ⟨x, v, d, rfl, upd_same, Dp.later s0 hv, hd, fun dx v' H' h1 h2 h3 ne h4 h5 => ⟨rfl, dx, _, h1, h2, ?_, ?_⟩⟩
  · rw [upd_ne ne] at h3; exact h3
  · rw [upd_ne ne] at h3
    refine q dx v' _ (fun b o e => ?_) h3 upd_same (h5.mono (fun a n _ => s0.free n) fun a z n e l => ?_)
    · have nb : b ≠ x := ne_of_none e hx
      rw [upd_ne (ne_of_none e h3), del_ne nb]
      exact h4 b o nb (s0 b o e)
    · have na : a ≠ x := fun z => by rw [z, upd_same] at n; cases n
      rw [upd_ne (at_ne h2 e (exd_lt l)), del_ne na]
      exact e
theorem r_err2 {σ : L2.St} {H : Hp} {Q : XK} {v u : V} {d e : PyData} (hv : Dp K H v d) (hd : Deep n d) (hu : Dp K H u e) (he : Deep n e)
    (q : ∀ (dd : Addr) (v' u' : V) (H' : Hp), Same H H' → H dd = none → H' dd = some (.xd [(g, u'), (f, v')]) → Own H H' v' d → Own H H' u' e → Q (.ref C) (some dd) H') :
    [v, u].length ≤ 1000 ∧ ∀ x, H x = none → spErr2 K n C f g (.ref x :: [v, u]) (upd H x (exo x C none)) (fun v H2 => v = .non ∧ ∃ (d : Addr) (fs : List (Str × V)), H2 x = some (exo x C (some d)) ∧ H2 d = some (exd d fs) ∧ H d = none ∧ Q (.ref C) (some d) (upd (del H2 x) d (.xd fs))) (fun _ _ _ => False) := by
  refine ⟨by show 2 ≤ 1000; decide, fun x hx => ?_⟩
  have s0 : Same H (upd H x (exo x C none)) := Same.up (Same.refl H) hx
  refine ⟨x, v, u, d, e, rfl, upd_same, Dp.later s0 hv, hd, Dp.later s0 hu, he, fun dx v' u' H' h1 h2 h3 ne h4 h5 h6 => ⟨rfl, dx, _, h1, h2, ?_, ?_⟩⟩
  · rw [upd_ne ne] at h3; exact h3
  · rw [upd_ne ne] at h3
    have keep : ∀ a z, upd H x (exo x C none) a = none → H' a = some z → (∃ xs, z = .lst xs ∨ z = .tup xs) → upd (del H' x) dx (.xd [(g, u'), (f, v')]) a = some z := fun a z n e l => by
      have na : a ≠ x := fun z => by rw [z, upd_same] at n; cases n
      rw [upd_ne (at_ne h2 e (exd_lt l)), del_ne na]
      exact e
    refine q dx v' u' _ (fun b o e => ?_) h3 upd_same (h5.mono (fun a n _ => s0.free n) keep) (h6.mono (fun a n _ => s0.free n) keep)
    have nb : b ≠ x := ne_of_none e hx
    rw [upd_ne (ne_of_none e h3), del_ne nb]
    exact h4 b o nb (s0 b o e)
end
end Pk
set_option Elab.async false
set_option linter.all false
set_option maxRecDepth 100000
set_option maxHeartbeats 1000000
namespace Pk
open PySem L2 PySem.Spec PyProof.Rows
/-- a def x of the text, at f, with its promise -/
structure Df1 (P : Program) (w : World) (K : PySem.W.Frag) (mg : Str → Option Value) (base : Heap) (CX : CXT) (x : Str) (k : Nat) (ps : List Str) (sp : Sp) (f : Addr) (fd : FuncData) : Prop where
  at_ : mg x = some (.ref f)
  kp : PySem.W.keepIn K (.ref f) = true
  bd : Binds K fd ps []
  ok : FnOk P w K mg base CX k f fd ps sp
/-- an error class x of the text, at C, with the promise of its __init__ -/
structure De1 (P : Program) (w : World) (K : PySem.W.Frag) (mg : Str → Option Value) (base : Heap) (x : Str) (k : Nat) (sp : Sp) (C fI : Addr) : Prop where
  at_ : mg x = some (.ref C)
  cls : ErrC K C
  ini : PySem.W.findIn K (.ref C) "__init__" = some (some (.ref fI))
  fn : PySem.W.typeIn K (.ref fI) = some (.type "function")
  ok : ErrOk P w K mg base k C fI sp
  xf : XfC K C
  xm : PySem.W.exmOne K (.ref C) (.ref C) = some true
abbrev Df (P : Program) (w : World) (K : PySem.W.Frag) (mg : Str → Option Value) (base : Heap) (CX : CXT) (x : Str) (k : Nat) (ps : List Str) (sp : Sp) : Prop := ∃ f fd, Df1 P w K mg base CX x k ps sp f fd
abbrev De (P : Program) (w : World) (K : PySem.W.Frag) (mg : Str → Option Value) (base : Heap) (x : Str) (k : Nat) (sp : Sp) (C : Addr) : Prop := ∃ fI, De1 P w K mg base x k sp C fI
section
variable {X : Cx} {CX : CXT} {x : Str} {k j : Nat} {ps : List Str} {sp : Sp} {e : Expr} {es : List Expr} {t : TA} {p pos : Pos} {W : WX} {C : Addr}
/-- a call of what raises nothing -/
theorem pe_df (D : Df X.prog X.w X.K X.mg X.base CX0 x k ps sp) (hr : Room j X.A) (l : k ≤ j) (ha : PA X (e :: es) t) (hg : Gl X x := by rfl) (hdb : (x == ("__debug__" : Str)) = false := by decide)
    (he : starEach (e :: es) X.env = (false, eval e X.env) :: starEach es X.env := by rfl) (hpl : (backTo pos (starEach es X.env)).any (·.1) = false := by rfl) : PE X (.Call (.Name x p) (e :: es) [] pos) (tCall sp [] E0 t) :=
  let ⟨_, _, D⟩ := D; pe_call D.ok (hr.mono l) hg D.at_ D.kp D.bd .nil pass0 ha hdb he hpl
/-- .. of what may raise, and does not here -/
theorem pe_dfL (D : Df X.prog X.w X.K X.mg X.base (L2.CX X.prog X.w) x k ps sp) (hr : Room j X.A) (l : k ≤ j) (ha : PA X (e :: es) t) (hg : Gl X x := by rfl) (hdb : (x == ("__debug__" : Str)) = false := by decide)
    (he : starEach (e :: es) X.env = (false, eval e X.env) :: starEach es X.env := by rfl) (hpl : (backTo pos (starEach es X.env)).any (·.1) = false := by rfl) : PE X (.Call (.Name x p) (e :: es) [] pos) (tCall sp [] E0 t) :=
  let ⟨_, _, D⟩ := D; pe_call D.ok (hr.mono l) hg D.at_ D.kp D.bd .nil passL ha hdb he hpl
/-- .. where what is raised is taken: within a try, or by a def that lets it out -/
theorem pe_dfS (tk : Takes X W) (D : Df X.prog X.w X.K X.mg X.base (L2.CX X.prog X.w) x k ps sp) (hr : Room j X.A) (l : k ≤ j) (ha : PA X (e :: es) t) (hg : Gl X x := by rfl) (hdb : (x == ("__debug__" : Str)) = false := by decide)
    (he : starEach (e :: es) X.env = (false, eval e X.env) :: starEach es X.env := by rfl) (hpl : (backTo pos (starEach es X.env)).any (·.1) = false := by rfl) : PE X (.Call (.Name x p) (e :: es) [] pos) (tCallS sp (WE W) t) :=
  let ⟨_, _, D⟩ := D; pe_callS D.ok (hr.mono l) hg D.at_ D.kp D.bd (fun σ => passAt tk σ) ha hdb he hpl
/-- raise x(e, ..) -/
theorem ps_rse {spos : Pos} (hc : X.calm = true) (tk : Takes X W) (D : De X.prog X.w X.K X.mg X.base x k sp C) (hr : Room j X.A) (l : k + 1 ≤ j) (ha : PA X (e :: es) t) (hg : Gl X x := by rfl) (hdb : (x == ("__debug__" : Str)) = false := by decide)
    (he : starEach (e :: es) X.env = (false, eval e X.env) :: starEach es X.env := by rfl) (hpl : (backTo pos (starEach es X.env)).any (·.1) = false := by rfl) :
    PS X (.Raise (some (.Call (.Name x p) (e :: es) [] pos)) none spos) (fun _ σ H => tMkErr C sp t σ H fun cls d H' => W cls d σ H') := let ⟨_, D⟩ := D; ps_raise hc tk (pmk_err D.cls D.ini D.fn D.ok (hr.mono l) hg D.at_ ha hdb he hpl)
end
section
variable {σ : L2.St} {H : Hp} {Q : VK} {ta tk : TA} {sp : Sp} {E : L2.St → XK} {D : Ends}
theorem r_callS (h : ta σ H fun vs H1 => sp vs H1 Q (E σ)) : tCallS sp E ta σ H Q := h
theorem r_callN {n m : Nat} {gV : List V → List V → List V} {E : XK} (h : ta σ H fun vs H1 => tk σ H1 fun zs H2 => vs.length = n ∧ zs.length = m ∧ sp (gV vs zs) H2 Q E) : tCallN n m sp gV E ta tk σ H Q := h
theorem r_mkErr {C : Addr} {R : XK} (h : ta σ H fun vs H1 => vs.length ≤ 1000 ∧ ∀ x, H1 x = none →
  sp (.ref x :: vs) (upd H1 x (exo x C none)) (fun v H2 => v = .non ∧ ∃ (d : Addr) (fs : List (Str × V)), H2 x = some (exo x C (some d)) ∧ H2 d = some (exd d fs) ∧ H1 d = none ∧ R (.ref C) (some d) (upd (del H2 x) d (.xd fs))) (fun _ _ _ => False)) : tMkErr C sp ta σ H R := h
theorem r_xf {a : Addr} {C dd : Addr} {f : Str} {te : TE} {fs : List (Str × V)} {v : V} (h : te σ H fun x H1 => x = .ref a ∧ Value.ref C = .ref C ∧ ∃ (d2 : Addr) (fs : List (Str × V)) (v : V), some dd = some d2 ∧ H1 d2 = some (.xd fs) ∧ fs.lookup f = some v ∧ Q v H1) : tXf a (.ref C) (some dd) C f te σ H Q := h
end
/-- f(e, .., k = v, ..) where what is raised is wished for at the caller's slots -/
def tKwS (n m : Nat) (sp : Sp) (gV : List V → List V → List V) (E : L2.St → XK) (t tk : TA) : TE := fun σ H Q => t σ H fun vs H1 => tk σ H1 fun zs H2 => vs.length = n ∧ zs.length = m ∧ sp (gV vs zs) H2 Q (E σ)
theorem r_kwS {σ : L2.St} {H : Hp} {Q : VK} {ta tk : TA} {sp : Sp} {n m : Nat} {gV : List V → List V → List V} {E : L2.St → XK} (h : ta σ H fun vs H1 => tk σ H1 fun zs H2 => vs.length = n ∧ zs.length = m ∧ sp (gV vs zs) H2 Q (E σ)) : tKwS n m sp gV E ta tk σ H Q := h
theorem pe_kwS {X : Cx} {CX : CXT} {k n : Nat} {f : Addr} {fd : FuncData} {ps ks : List Str} {sp : Sp} {E : L2.St → XK} {x : Str} {p pos : Pos} {e : Expr} {es : List Expr} {kws : List Keyword} {t tk : TA} {g : List Value → List Value → List Value} {gV : List V → List V → List V}
    (F : FnOk X.prog X.w X.K X.mg X.base CX k f fd ps sp) (hr : Room k X.A) (hm : X.mg x = some (.ref f)) (hk : PySem.W.keepIn X.K (.ref f) = true) (hb : KBn X.K fd ps n ks g gV) (hx : ∀ σ, PassesAt CX X σ (E σ)) (ha : PA X (e :: es) t) (hkw : PK X kws tk) (hg : Gl X x := by rfl)
    (hall : (backToKw pos (keywordEach kws X.env)).all (·.1.isSome) = true := by rfl) (hks : (backToKw pos (keywordEach kws X.env)).filterMap (·.1) = ks := by rfl) (hdb : (x == ("__debug__" : Str)) = false := by decide)
    (he : starEach (e :: es) X.env = (false, eval e X.env) :: starEach es X.env := by rfl) (hpl : ((backTo pos (starEach (e :: es) X.env)).any (·.1) || (backToKw pos (keywordEach kws X.env)).any (·.1.isNone)) = false := by rfl) :
    PE X (.Call (.Name x p) (e :: es) kws pos) (tKwS n ks.length sp gV E t tk) := by
  refine ⟨fun pins s σ H Q I h => wpAny_Call_Name_kw (ld_glob I hg hm (PySem.W.callWith_KW (h₀ := X.base) I.ok.mod.kin hk hall (thn (ha.run pos pins s σ H _ I h) fun us s1 ⟨vs, H1, I1, r, q⟩ => thn (hkw.run pos pins s1 σ H1 _ I1 q) fun ws s2 ⟨zs, H2, I2, rz, l1, l2, q2⟩ => ⟨I2.kIn, ?_⟩) hpl he) hdb)⟩
  rw [hks]
  refine wpAny_call (codeAny_mono (F.run X.A X.stack s2 H2 ⟨us, ks.zip ws⟩ (g us ws) (gV vs zs) Q (E σ) hr I2.env0 (hb.to s2 us ws I2.kIn (r.length.symm.trans l1) (rz.length.symm.trans l2)) (hb.rel r rz) q2) fun r s' hq => ?_)
  cases r with
  | error er => exact hx σ pins H2 s2 er s' I2 hq
  | ok fl =>
    cases fl with
    | ret u => exact I2.after hq
    | next => exact False.elim hq
    | brk => exact False.elim hq
    | cont => exact False.elim hq
/-- an own class x of the text, made by its __init__ -/
structure Dk1 (P : Program) (w : World) (K : PySem.W.Frag) (mg : Str → Option Value) (base : Heap) (CX : CXT) (x : Str) (k : Nat) (ps : List Str) (sp : Sp) (C fI : Addr) (fd : FuncData) : Prop where
  at_ : mg x = some (.ref C)
  mkc : Mk K C fI
  bd : Binds K fd ps []
  ok : FnOk P w K mg base CX k fI fd ps sp
abbrev Dk (P : Program) (w : World) (K : PySem.W.Frag) (mg : Str → Option Value) (base : Heap) (CX : CXT) (x : Str) (k : Nat) (ps : List Str) (sp : Sp) (C : Addr) : Prop := ∃ fI fd, Dk1 P w K mg base CX x k ps sp C fI fd
theorem pe_dkL {X : Cx} {x : Str} {k j : Nat} {ps : List Str} {sp : Sp} {e : Expr} {es : List Expr} {t : TA} {p pos : Pos} {C : Addr} (D : Dk X.prog X.w X.K X.mg X.base (L2.CX X.prog X.w) x k ps sp C) (hr : Room j X.A) (l : k + 1 ≤ j) (ha : PA X (e :: es) t) (hg : Gl X x := by rfl)
    (hdb : (x == ("__debug__" : Str)) = false := by decide) (he : starEach (e :: es) X.env = (false, eval e X.env) :: starEach es X.env := by rfl) (hpl : (backTo pos (starEach es X.env)).any (·.1) = false := by rfl) : PE X (.Call (.Name x p) (e :: es) [] pos) (tMake C sp [] E0 t) :=
  let ⟨_, _, D⟩ := D; pe_make D.mkc D.ok (hr.mono l) hg D.at_ D.bd .nil passL ha hdb he hpl
theorem look1 (f : Str) (v : V) : List.lookup f [(f, v)] = some v := by simp [List.lookup]
theorem look2 (f g : Str) (v u : V) (h : (f == g) = false) : List.lookup f [(g, u), (f, v)] = some v := by simp [List.lookup, h]
theorem look2' (f g : Str) (v u : V) : List.lookup g [(g, u), (f, v)] = some u := by simp [List.lookup]
/-- built-ins that the text does not name anew -/
structure Bt (mg : Str → Option Value) : Prop where
  int : mg "int" = none
  str : mg "str" = none
  bool : mg "bool" = none
  list : mg "list" = none
  tuple : mg "tuple" = none
  dict : mg "dict" = none
  len : mg "len" = none
  range : mg "range" = none
  isinstance : mg "isinstance" = none
  sum : mg "sum" = none
  max : mg "max" = none
  min : mg "min" = none
  sorted : mg "sorted" = none
  set : mg "set" = none
  super : mg "super" = none
  enumerate : mg "enumerate" = none
  zip : mg "zip" = none
  abs : mg "abs" = none
end Pk
set_option Elab.async false
set_option linter.all false
set_option maxRecDepth 100000
set_option maxHeartbeats 1000000
namespace Pk
open PySem L2 PySem.Spec PyProof.Rows PySem.W
/-- what the top holds of a def x -/
def DefAt (K : PySem.W.Frag) (x : Str) (st : Stmt) : Prop := ∃ (f : Addr) (oc : Value) (od : Option Addr) (kV dc pm : Value) (an : Option Addr) (cd ct : Value) (sl : Array (Option Value)),
  PySem.W.nsIn K mainGlobals x = some (some (.ref f)) ∧ K.lookup f = some ⟨oc, od, .func (PySem.W.fnOf x x (defArgs st) (defBody st) (defScope st) .none kV dc pm an cd ct), sl⟩ ∧ PySem.W.codeIn K cd x = true ∧ PySem.W.keepIn K (.ref f) = true
theorem DefAt.fn {K : PySem.W.Frag} {h : Heap} {mg : Str → Option Value} {x : Str} {st : Stmt} (X : K.In h) (G : h.Ns mainGlobals mg) (d : DefAt K x st) : ∃ f fd, Fun K x x st f fd ∧ mg x = some (.ref f) := by
  obtain ⟨f, oc, od, kV, dc, pm, an, cd, ct, sl, a, l, c, k⟩ := d
  exact ⟨f, _, fun_mk (st := st) l c k, PySem.W.mg_of X G a⟩
/-- .. of a method x of the class at C -/
def MethAt (K : PySem.W.Frag) (C : Addr) (x q : Str) (st : Stmt) : Prop := ∃ (f : Addr) (oc : Value) (od : Option Addr) (kV dc pm : Value) (an : Option Addr) (cd ct : Value) (sl : Array (Option Value)),
  PySem.W.findIn K (.ref C) x = some (some (.ref f)) ∧ K.lookup f = some ⟨oc, od, .func (PySem.W.fnOf x q (defArgs st) (defBody st) (defScope st) .none kV dc pm an cd ct), sl⟩ ∧ PySem.W.codeIn K cd q = true ∧ PySem.W.keepIn K (.ref f) = true ∧ PySem.W.isFn K (.ref f) = true
theorem MethAt.fn {K : PySem.W.Frag} {C : Addr} {x q : Str} {st : Stmt} (d : MethAt K C x q st) : ∃ f fd, Fun K x q st f fd ∧ Meth K C x f := by
  obtain ⟨f, oc, od, kV, dc, pm, an, cd, ct, sl, a, l, c, k, i⟩ := d
  exact ⟨f, _, fun_mk (st := st) l c k, ⟨a, i, k⟩⟩
/-- .. of a def x with one keyword-only default, a text -/
def DefAtK (K : PySem.W.Frag) (x k : Str) (z : Str) (st : Stmt) : Prop := ∃ (f D : Addr) (oc : Value) (od : Option Addr) (dc pm : Value) (an : Option Addr) (cd ct : Value) (sl : Array (Option Value)) (t : Tok),
  PySem.W.nsIn K mainGlobals x = some (some (.ref f)) ∧ K.lookup f = some ⟨oc, od, .func (PySem.W.fnOf x x (defArgs st) (defBody st) (defScope st) .none (.ref D) dc pm an cd ct), sl⟩ ∧ PySem.W.codeIn K cd x = true ∧ PySem.W.keepIn K (.ref f) = true ∧ PySem.W.nsIn K D k = some (some (.str z t))
theorem DefAtK.fn {K : PySem.W.Frag} {h : Heap} {mg : Str → Option Value} {x k z : Str} {st : Stmt} (X : K.In h) (G : h.Ns mainGlobals mg) (d : DefAtK K x k z st) : ∃ f fd, FunD K x x (defArgs st) (defBody st) (defScope st) [] [(k, .str z)] f fd ∧ mg x = some (.ref f) := by
  obtain ⟨f, D, oc, od, dc, pm, an, cd, ct, sl, t, a, l, c, kp, n⟩ := d
  refine ⟨f, _, ⟨⟨oc, od, .none, .ref D, dc, pm, an, cd, ct, sl, rfl, l, c, .inl ⟨rfl, rfl⟩, .inr ⟨D, rfl, fun q hq => ?_⟩⟩, kp⟩, PySem.W.mg_of X G a⟩
  rw [List.mem_singleton.mp hq]
  exact ⟨_, n, t, rfl⟩
/-- what the top holds of an error class x with an __init__ of its own (st) -/
structure ErrAt1 (P : Program) (K : PySem.W.Frag) (x q : Str) (st : Stmt) (C fI cc c : Addr) : Prop where
  at_ : PySem.W.nsIn K mainGlobals x = some (some (.ref C))
  cls : ∃ pe nm qn N bs sn sub ab col dd k0 k1 k2 k3 k5, K.lookup C = some (excClassObj nm qn C N bs (.ref pe :: arT) true sn sub ab col dd k0 k1 k2 k3 k5 "ArithmeticError.__new__")
  sa : PySem.W.findIn K (.ref C) "__setattr__" = some (some (.builtin "object.__setattr__"))
  exB : PySem.W.subIn K (.ref C) (.type "BaseException") = some true
  exA : PySem.W.subIn K (.ref C) (.type "ArithmeticError") = some true
  ty : PySem.W.typeIn K (.ref C) = some (.type "type")
  kp : PySem.W.keepIn K (.ref C) = true
  ini : PySem.W.findIn K (.ref C) "__init__" = some (some (.ref fI))
  fnt : PySem.W.typeIn K (.ref fI) = some (.type "function")
  fn : ∃ (oc : Value) (od : Option Addr) (kV doc pm : Value) (an : Option Addr) (ct : Value) (osl : Array (Option Value)), K.lookup fI = some ⟨oc, od, .func (PySem.W.fnX "__init__" q (defArgs st) (defBody st) (defScope st) [(("__class__" : Str), cc)] .none kV doc pm an (.ref c) ct), osl⟩
  code : PySem.W.codeIn K (.ref c) q = true
  cell : ∃ (a : Value) (b : Option Addr) (d : Array (Option Value)), K.lookup cc = some ⟨a, b, .cell (some (.ref C)), d⟩
  file : ∃ (a : Value) (b : Option Addr) (vs : Array Value) (d : Array (Option Value)) (f : Str) (t : Tok), K.lookup c = some ⟨a, b, .fields vs, d⟩ ∧ vs[2]? = some (.str f t) ∧ ((P.main.file : Str) == f) = true
  opq : PySem.W.nsIn K cStatics "thirdparty.any" = some none
  sup : PySem.W.ks_superIn K C C "__init__" = some (some (.builtin "ArithmeticError.__init__"))
  below : PySem.W.mroIn K C (.ref C) = some true
  ga : PySem.W.findIn K (.ref C) "__getattribute__" = some (some (.builtin "BaseException.__getattribute__"))
  gg : PySem.W.findIn K (.ref C) "__getattr__" = some none
  hd : PySem.W.hasDictIn K C = true
  isC : PySem.W.isClsIn K C = true
  own : PySem.W.subIn K (.ref C) (.ref C) = some true
theorem err_self {K : PySem.W.Frag} {S : Addr} (h1 : PySem.W.subIn K (.ref S) (.type "BaseException") = some true) (h2 : PySem.W.isClsIn K S = true) (h3 : PySem.W.typeIn K (.ref S) = some (.type "type")) (h4 : PySem.W.subIn K (.ref S) (.ref S) = some true) : PySem.W.exmOne K (.ref S) (.ref S) = some true := by
  have h5 : (PySem.W.clsIn K S).isSome = true := h2
  unfold PySem.W.exmOne PySem.W.kitCls
  simp only [h1, h3, h4, h5]
  rfl
section
variable {P : Program} {w : World} {K : PySem.W.Frag} {h : Heap} {mg : Str → Option Value} {base : Heap} {x q : Str} {st : Stmt} {C fI cc c : Addr}
theorem ErrAt1.errC (e : ErrAt1 P K x q st C fI cc c) : ErrC K C := ⟨e.cls, e.sa, e.exB, e.exA, e.ty, e.kp⟩
theorem ErrAt1.init (e : ErrAt1 P K x q st C fI cc c) (top : (P.main.scope.names.lookup ("super" : Str)).isSome = false) (self : ∃ q, ((defArgs st).posonlyargs ++ (defArgs st).args).head? = some { arg := "self", annotation := none, pos := q }) :
    InitFn P K C fI cc { name := "__init__", qual := q, params := defArgs st, body := defBody st, scope := defScope st, cl := [(("__class__" : Str), cc)], c := c } :=
  ⟨e.fn, e.code, rfl, e.cell, e.file, top, e.opq, self, e.sup, e.below⟩
theorem ErrAt1.de {k : Nat} {sp : Sp} (e : ErrAt1 P K x q st C fI cc c) (X : K.In h) (G : h.Ns mainGlobals mg) (o : ErrOk P w K mg base k C fI sp) : De P w K mg base x k sp C :=
  ⟨fI, PySem.W.mg_of X G e.at_, e.errC, e.ini, e.fnt, o, ⟨e.ga, e.gg, e.exB, e.hd⟩, err_self e.exB e.isC e.ty e.own⟩
end
def BtIn (K : PySem.W.Frag) : Prop := ∀ x, x ∈ (["int", "str", "bool", "list", "tuple", "dict", "len", "range", "isinstance", "sum", "max", "min", "sorted", "set", "super", "enumerate", "zip", "abs"] : List Str) → PySem.W.nsIn K mainGlobals x = some none
theorem BtIn.bt {K : PySem.W.Frag} {h : Heap} {mg : Str → Option Value} (X : K.In h) (G : h.Ns mainGlobals mg) (b : BtIn K) : Bt mg := by
  have g : ∀ x, x ∈ (["int", "str", "bool", "list", "tuple", "dict", "len", "range", "isinstance", "sum", "max", "min", "sorted", "set", "super", "enumerate", "zip", "abs"] : List Str) → mg x = none := fun x hx => PySem.W.mg_none_of X G (b x hx)
  constructor <;> exact g _ (by decide)
theorem DefAt.of {K : PySem.W.Frag} {x : Str} {st : Stmt} {f : Addr} {oc : Value} {od : Option Addr} {kV dc pm : Value} {an : Option Addr} {cd ct : Value} {sl : Array (Option Value)} (a : PySem.W.nsIn K mainGlobals x = some (some (.ref f)))
    (l : K.lookup f = some ⟨oc, od, .func (PySem.W.fnOf x x (defArgs st) (defBody st) (defScope st) .none kV dc pm an cd ct), sl⟩) (c : PySem.W.codeIn K cd x = true) (k : PySem.W.keepIn K (.ref f) = true) : DefAt K x st := ⟨_, _, _, _, _, _, _, _, _, _, a, l, c, k⟩
theorem DefAtK.of {K : PySem.W.Frag} {x y z : Str} {st : Stmt} {f D : Addr} {oc : Value} {od : Option Addr} {dc pm : Value} {an : Option Addr} {cd ct : Value} {sl : Array (Option Value)} {t : Tok} (a : PySem.W.nsIn K mainGlobals x = some (some (.ref f)))
    (l : K.lookup f = some ⟨oc, od, .func (PySem.W.fnOf x x (defArgs st) (defBody st) (defScope st) .none (.ref D) dc pm an cd ct), sl⟩) (c : PySem.W.codeIn K cd x = true) (k : PySem.W.keepIn K (.ref f) = true) (n : PySem.W.nsIn K D y = some (some (.str z t))) : DefAtK K x y z st := ⟨_, _, _, _, _, _, _, _, _, _, _, a, l, c, k, n⟩
theorem MethAt.of {K : PySem.W.Frag} {C : Addr} {x q : Str} {st : Stmt} {f : Addr} {oc : Value} {od : Option Addr} {kV dc pm : Value} {an : Option Addr} {cd ct : Value} {sl : Array (Option Value)} (a : PySem.W.findIn K (.ref C) x = some (some (.ref f)))
    (l : K.lookup f = some ⟨oc, od, .func (PySem.W.fnOf x q (defArgs st) (defBody st) (defScope st) .none kV dc pm an cd ct), sl⟩) (c : PySem.W.codeIn K cd q = true) (k : PySem.W.keepIn K (.ref f) = true) (i : PySem.W.isFn K (.ref f) = true) : MethAt K C x q st := ⟨_, _, _, _, _, _, _, _, _, _, a, l, c, k, i⟩
theorem ErrAt1.of {P : Program} {K : PySem.W.Frag} {x q : Str} {st : Stmt} {C fI cc c pe : Addr} {nm qn : Str} {N : Addr} {bs sn sub ab col dd k0 k1 k2 k3 k5} {oc1 : Value} {od1 : Option Addr} {kV dc pm : Value} {an : Option Addr} {ct : Value} {sl1 sl2 sl3 : Array (Option Value)} {v2 v3 : Value} {o2 o3 : Option Addr} {vs : Array Value} {fl : Str} {t : Tok}
    (at_ : PySem.W.nsIn K mainGlobals x = some (some (.ref C))) (cls : K.lookup C = some (excClassObj nm qn C N bs (.ref pe :: arT) true sn sub ab col dd k0 k1 k2 k3 k5 "ArithmeticError.__new__"))
    (sa : PySem.W.findIn K (.ref C) "__setattr__" = some (some (.builtin "object.__setattr__"))) (exB : PySem.W.subIn K (.ref C) (.type "BaseException") = some true) (exA : PySem.W.subIn K (.ref C) (.type "ArithmeticError") = some true) (ty : PySem.W.typeIn K (.ref C) = some (.type "type")) (kp : PySem.W.keepIn K (.ref C) = true)
    (ini : PySem.W.findIn K (.ref C) "__init__" = some (some (.ref fI))) (fnt : PySem.W.typeIn K (.ref fI) = some (.type "function")) (fn : K.lookup fI = some ⟨oc1, od1, .func (PySem.W.fnX "__init__" q (defArgs st) (defBody st) (defScope st) [(("__class__" : Str), cc)] .none kV dc pm an (.ref c) ct), sl1⟩)
    (code : PySem.W.codeIn K (.ref c) q = true) (cell : K.lookup cc = some ⟨v2, o2, .cell (some (.ref C)), sl2⟩) (file : K.lookup c = some ⟨v3, o3, .fields vs, sl3⟩) (file2 : vs[2]? = some (.str fl t)) (file3 : ((P.main.file : Str) == fl) = true) (opq : PySem.W.nsIn K cStatics "thirdparty.any" = some none)
    (sup : PySem.W.ks_superIn K C C "__init__" = some (some (.builtin "ArithmeticError.__init__"))) (below : PySem.W.mroIn K C (.ref C) = some true) (ga : PySem.W.findIn K (.ref C) "__getattribute__" = some (some (.builtin "BaseException.__getattribute__"))) (gg : PySem.W.findIn K (.ref C) "__getattr__" = some none)
    (hd : PySem.W.hasDictIn K C = true) (isC : PySem.W.isClsIn K C = true) (own : PySem.W.subIn K (.ref C) (.ref C) = some true) : ErrAt1 P K x q st C fI cc c :=
  ⟨at_, ⟨_, _, _, _, _, _, _, _, _, _, _, _, _, _, _, cls⟩, sa, exB, exA, ty, kp, ini, fnt, ⟨_, _, _, _, _, _, _, _, fn⟩, code, ⟨_, _, _, cell⟩, ⟨_, _, _, _, _, _, file, file2, file3⟩, opq, sup, below, ga, gg, hd, isC, own⟩
end Pk
set_option Elab.async false
set_option linter.all false
set_option maxRecDepth 100000
set_option maxHeartbeats 1000000
namespace Pk
open PySem L2
section
variable {K : PySem.W.Frag} {σ : L2.St} {H : Hp} {Q : VK} {D : Ends} {a C dx : Addr} {fs : List (Str × V)} {f g : Str} {v u : V} {i : Nat} {ta tv : TE}
/-- an attribute is read -/
theorem r_fldU (h : ta σ H fun x H1 => ∃ a C dx fs v, x = .ref a ∧ H1 a = some (.ins C dx fs) ∧ Cls K C ∧ NoAttr K C f ∧ fs.lookup f = some v ∧ Q v H1) : tFld K ta f σ H Q := h
theorem r_fld0 (o : H a = some (.ins C dx fs)) (c : Cls K C) (n : NoAttr K C f) (l : fs.lookup f = some v) (h : Q v H) : ∃ b C dx fs v, V.ref a = .ref b ∧ H b = some (.ins C dx fs) ∧ Cls K C ∧ NoAttr K C f ∧ fs.lookup f = some v ∧ Q v H := ⟨a, C, dx, fs, v, rfl, o, c, n, l, h⟩
theorem r_fldV (e : σ[i]? = some (some (.ref a))) (o : H a = some (.ins C dx fs)) (c : Cls K C) (n : NoAttr K C f) (l : fs.lookup f = some v) (h : Q v H) : tFld K (tVar i) f σ H Q := ⟨.ref a, e, a, C, dx, fs, v, rfl, o, c, n, l, h⟩
/-- .. is set -/
theorem r_sFldU (h : tv σ H fun y H1 => ta σ H1 fun x H2 => ∃ a C dx fs, x = .ref a ∧ H2 a = some (.ins C dx fs) ∧ Cls K C ∧ NoAttr K C f ∧ fs.length < 1000 ∧ D.nx σ (upd H2 a (.ins C dx (putF f y fs)))) : sFld K ta tv f D σ H := h
theorem r_sFld0 {P : Hp → Prop} {y : V} (o : H a = some (.ins C dx fs)) (c : Cls K C) (n : NoAttr K C f) (l : fs.length < 1000) (h : P (upd H a (.ins C dx (putF f y fs)))) :
    ∃ b C dx fs, V.ref a = .ref b ∧ H b = some (.ins C dx fs) ∧ Cls K C ∧ NoAttr K C f ∧ fs.length < 1000 ∧ P (upd H b (.ins C dx (putF f y fs))) := ⟨a, C, dx, fs, rfl, o, c, n, l, h⟩
/-- a method of an own class is called -/
theorem r_methU {m : Str} {sp : Sp} {dvs : List V} {E : XK} {t : TA} (h : ta σ H fun x H1 => ∃ a dx fs, x = .ref a ∧ H1 a = some (.ins C dx fs) ∧ fs.lookup m = none ∧ t σ H1 fun vs H2 => sp (x :: (vs ++ dvs)) H2 Q E) : tMeth C m sp dvs E ta t σ H Q := h
/-- a < b < c -/
theorem r_chain {r r' : R2} {tc : TE} (h : ta σ H fun x H1 => tv σ H1 fun y H2 => r x y H2 fun z H3 => ∃ k, z = .bl k ∧ (if k = true then tc σ H3 fun w H4 => r' y w H4 Q else Q (.bl false) H3)) : tChain r r' ta tv tc σ H Q := h
theorem ifT {c : Bool} {A B : Prop} (hc : c = true) (h : A) : if c = true then A else B := by rw [if_pos hc]; exact h
theorem ifF {c : Bool} {A B : Prop} (hc : c = false) (h : B) : if c = true then A else B := by rw [hc, if_neg Bool.false_ne_true]; exact h
/-- enumerate(list) in a for -/
theorem r_enum {ta : TA} {R : It → Hp → Prop} (h : ta σ H fun vs H1 => ∃ a xs, vs = [.ref a] ∧ SqL K H1 a xs ∧ R (Ite K a) H1) : iEnum K ta σ H R := h
theorem r_gtup {n : Nat} {t : TGs} {R : L2.St → Hp → Prop} (h : ∃ a xs, v = .ref a ∧ SqT K H a xs ∧ xs.length = n ∧ t xs σ H R) : gTup K n t v σ H R := h
theorem int_at {ms : List Int} {i : Nat} {y : V} (h : (ms.map V.int)[i]? = some y) : ∃ m, m ∈ ms ∧ y = .int m := by
  rw [List.getElem?_map] at h
  cases e : ms[i]? with
  | none => rw [e] at h; cases h
  | some m => rw [e] at h; exact ⟨m, List.mem_of_getElem? e, (Option.some.inj h).symm⟩
/-- two attributes -/
theorem two_put (hfg : (f == g) = false) (e : ¬ f = g) : putF g u (putF f v []) = [(f, v), (g, u)] := by
  show putF g u [(f, v)] = _
  rw [show putF g u [(f, v)] = (f, v) :: putF g u [] from if_neg e]
  rfl
theorem two_fst : List.lookup f [(f, v), (g, u)] = some v := by simp [List.lookup]
theorem two_snd (hfg : (g == f) = false) : List.lookup g [(f, v), (g, u)] = some u := by simp [List.lookup, hfg]
theorem two_no {m : Str} (h1 : (m == f) = false) (h2 : (m == g) = false) : List.lookup m [(f, v), (g, u)] = none := by simp [List.lookup, h1, h2]
theorem ite_and {c d : Bool} {A B : Prop} (h : if (c && d) = true then A else B) : if c = true then (if d = true then A else B) else B := by
  cases c <;> cases d <;> simpa using h
end
end Pk
set_option Elab.async false
set_option linter.all false
set_option maxRecDepth 100000
set_option maxHeartbeats 1000000
namespace Pk
open PySem L2
local macro_rules | `(tactic| walk_at "rd") => `(tactic| repeat (first
  | with_reducible refine r_seq ?_ | with_reducible refine r_nxt ?_ | with_reducible refine r_asg ?_ | with_reducible refine r_to ?_ | with_reducible refine r_ret ?_ | with_reducible refine r_for ?_ | with_reducible refine r_lc ?_ | with_reducible refine r_rng1 ?_ | with_reducible refine r_list ?_ | with_reducible refine r_tupI ?_ | with_reducible refine r_drop ?_ | with_reducible refine r_ifs ?_
  | with_reducible refine r_op ?_ | with_reducible refine r_c ?_ | with_reducible refine r_var rfl ?_ | with_reducible refine r_I0 ?_ | with_reducible refine r_un ?_ | with_reducible refine r_U ?_ | with_reducible refine r_make ?_ | with_reducible refine r_sub ?_
  | with_reducible refine r_nil ?_ | with_reducible refine r_cons ?_ | with_reducible refine r_cb ?_ | with_reducible refine r_sl ?_ | with_reducible refine r_noP ?_ | with_reducible refine r_part ?_ | with_reducible refine r_isI ?_ | with_reducible refine r_lst ?_ | with_reducible refine r_tup ?_ | with_reducible refine r_call ?_
  | with_reducible refine r_test ?_ | with_reducible refine r_B ?_ | with_reducible refine r_and ?_ | with_reducible refine r_or ?_ | with_reducible refine r_not ?_ | with_reducible refine r_andV ?_ | with_reducible refine r_orV ?_ | with_reducible refine r_notV ?_ | with_reducible refine r_bl ?_ | with_reducible refine r_yes ?_ | with_reducible refine r_int ?_ | with_reducible refine r_is0 ?_ | with_reducible refine r_is1 ?_ | with_reducible refine iteT ?_ | with_reducible refine iteF ?_ | with_reducible refine ite_nF ?_ | with_reducible refine ite_nT ?_
  | with_reducible refine r_mod (by decide) ?_ | with_reducible refine r_div (by decide) (by decide) ?_ | with_reducible refine r_mulR (by decide) (by decide) ?_ | with_reducible refine r_mulL (by decide) (by decide) ?_ | with_reducible refine r_pow (by decide) (by decide) (by decide) ?_))
def top (i : Nat) : Stmt := PySem.Challenge.pw_pairorder_k01_integers_and_kinds.main.body.getD i (.Pass ⟨0, 0, 0, 0⟩)
abbrev slMixed : Stmt := top 20
abbrev slDraw : Stmt := top 21
abbrev slNumber : Stmt := top 22
abbrev slPool : Stmt := top 19
section
variable {P : Program} {w : World} {K : PySem.W.Frag} {mg : Str → Option Value} {base : Heap}
theorem sclMixed : FnScope ["_law_pool_here", "_law_cell", "_law_number_here"] ["_law_pool_here", "_law_cell"] (defScope slMixed) := ⟨rfl, rfl, rfl, by decide +kernel, rfl, by decide +kernel, by decide +kernel⟩
theorem ok_mixed {f : Addr} {fd : FuncData} (F : Fun K "_law_mixed" "_law_mixed" slMixed f fd) (T : Bt mg) : FnOk P w K mg base CX0 1 f fd ["_law_pool_here", "_law_cell"] spMix := by
  refine F.ok sclMixed (fun vs H Q E h => ?_) (fun cdv A outer s H vs Q E hr h => ?_)
  · obtain ⟨p, c, ns, x, rfl, _⟩ := h
    rfl
  · obtain ⟨p, c, ns, x, rfl, hp, k⟩ := h
    refine ⟨_, pss_cons (ps_asg (pe_op op_add (pe_ix ix_list (pv 0) pe_int (fun _ _ => rfl)) pe_int) (pg_sub (pv 0) pe_int set_list))
      (pss_cons (ps_set (i := 2) sclMixed.nd rfl (Or.inl rfl) (pe_op op_add (pe_op op_add (pe_ix ix_list (pv 0) pe_int (fun _ _ => rfl)) (pe_op op_mod (pe_callTy cl_int (by rfl) T.int (by decide +kernel) (pa_cons (pv 1) pa_nil)) pe_int)) (pe_op op_mul pe_int (pe_ix ix_list (pv 0) pe_int (fun _ _ => rfl)))))
      (pss_cons (ps_set (i := 2) sclMixed.nd rfl (Or.inl rfl) (pe_op op_mod (pe_callTy cl_int (by rfl) T.int (by decide +kernel) (pa_cons (pe_op op_mul (pv 2) pe_int) pa_nil)) pe_int))
      (pss_cons (ps_set (i := 2) sclMixed.nd rfl (Or.inl rfl) (pe_op op_mod (pe_callTy cl_int (by rfl) T.int (by decide +kernel) (pa_cons (pe_op op_mul (pv 2) (pe_op op_add (pe_op op_fdiv (pv 2) pe_int) pe_int)) pa_nil)) pe_int))
      (pss_cons (ps_asg (pv 2) (pg_sub (pv 0) pe_int set_list))
      (pss_cons (ps_set (i := 2) sclMixed.nd rfl (Or.inl rfl) (pe_op op_mod (pe_callTy cl_int (by rfl) T.int (by decide +kernel) (pa_cons (pe_op op_mul (pv 2) (pe_op op_add (pe_op op_fdiv (pv 2) pe_int) pe_int)) pa_nil)) pe_int))
      (pss_one (ps_ret (pe_op op_fdiv (pv 2) pe_int)))))))), ?_⟩
    obtain ⟨a, b, z, n, ha, hP, hC⟩ := hp
    have ne : c ≠ p := PoolAt.ne ⟨a, b, z, n, ha, hP, hC⟩
    have lt : ∀ y : Int, -(2 ^ 64) < y % 2147483647 ∧ y % 2147483647 < 2 ^ 64 := fun y => by omega
    walk_at "rd"
    refine r_ixL (SqL.of hP) rfl ?_
    walk_at "rd"
    refine r_setL hP rfl ?_
    walk_at "rd"
    refine r_ixL (SqL.of upd_same) rfl ?_
    walk_at "rd"
    refine r_ixL (SqL.of upd_same) rfl ?_
    walk_at "rd"
    refine r_mulL (lt _).1 (lt _).2 ?_
    walk_at "rd"
    refine r_setL upd_same rfl ?_
    walk_at "rd"
    refine r_mulL (lt _).1 (lt _).2 ?_
    walk_at "rd"
    rw [upd_upd]
    refine k _ _ ?_ (Keep.refl.own) (PoolAt.put ha hC ne)
    generalize (z + x % 2147483647 + 7919 * (n + 1)) * 48271 % 2147483647 = y
    omega
theorem sclDraw : FnScope ["_law_pool_here", "_law_size", "_law_cell", "_law_number_here"] ["_law_pool_here", "_law_size"] (defScope slDraw) := ⟨rfl, rfl, rfl, by decide +kernel, rfl, by decide +kernel, by decide +kernel⟩
theorem ok_draw {f : Addr} {fd : FuncData} (F : Fun K "_law_draw" "_law_draw" slDraw f fd) (T : Bt mg) (D : Df P w K mg base CX0 "_law_mixed" 1 ["_law_pool_here", "_law_cell"] spMix) :
    FnOk P w K mg base CX0 2 f fd ["_law_pool_here", "_law_size"] spDraw := by
  refine F.ok sclDraw (fun vs H Q E h => ?_) (fun cdv A outer s H vs Q E hr h => ?_)
  · obtain ⟨p, c, ns, x, rfl, _⟩ := h
    rfl
  · obtain ⟨p, c, ns, x, rfl, pl, x0, x1, k⟩ := h
    obtain ⟨u, hu, ru⟩ : ∃ u : TS, PSs (cxOf CX0 P w K mg base ["_law_pool_here", "_law_size", "_law_cell", "_law_number_here"] "_law_draw" (defScope slDraw) f cdv A outer s H E).nox ((defBody slDraw).drop 1) u ∧
        ∀ (v1 v2 : Option V) (H1 : Hp), Keep p H H1 → PoolAt H1 p c ns → u { nx := fun _ H' => Q .non H', rt := Q } [some (.ref p), some (.int x), v1, v2] H1 := by
      refine ⟨_, (pss_cons (ps_if (pt_cmpR op_gt (pe_ix ix_list (pv 0) pe_int (fun _ _ => rfl)) pe_int (nomark _))
        (pss_cons (ps_set (i := 3) sclDraw.nd rfl (Or.inl rfl) (pe_callTy cl_int (by rfl) T.int (by decide +kernel) (pa_cons (pe_ix ix_list (pv 0) pe_int (fun _ _ => rfl)) pa_nil)))
        (pss_cons (ps_asg (pe_op op_fdiv (pv 3) (pv 1)) (pg_sub (pv 0) pe_int set_list))
        (pss_one (ps_ret (pe_op op_mod (pe_callTy cl_int (by rfl) T.int (by decide +kernel) (pa_cons (pv 3) pa_nil)) (pv 1)))))) pss_nil)
        (pss_one (ps_ret (pe_op op_mod (pe_callTy cl_int (by rfl) T.int (by decide +kernel) (pa_cons (pe_df D hr (by decide) (pa_cons (pv 0) (pa_cons pe_int pa_nil))) pa_nil)) (pv 1))))), ?_⟩
      rintro v1 v2 H1 kp ⟨a, b, z, n, ha, hP, hC⟩
      have ne : c ≠ p := PoolAt.ne ⟨a, b, z, n, ha, hP, hC⟩
      walk_at "rd"
      refine r_ixL (SqL.of hP) rfl ?_
      walk_at "rd"
      refine ite_dec (fun h1 => ?_) (fun h1 => ?_)
      · walk_at "rd"
        refine r_ixL (SqL.of hP) rfl ?_
        walk_at "rd"
        refine r_div x0 x1 ?_
        walk_at "rd"
        refine r_setL hP rfl ?_
        walk_at "rd"
        refine r_mod x0 ?_
        exact k _ _ (Int.emod_nonneg _ (by omega)) (Int.emod_lt_of_pos _ x0) kp.own (PoolAt.put ha hC ne)
      · walk_at "rd"
        refine ⟨p, c, ns, 0, rfl, ⟨a, b, z, n, ha, hP, hC⟩, fun r H2 r0 k2 p2 => ?_⟩
        walk_at "rd"
        refine r_mod x0 ?_
        exact k _ _ (Int.emod_nonneg _ (by omega)) (Int.emod_lt_of_pos _ x0) (kp.trans k2) p2
    refine ⟨_, pss_cons (ps_if (PW.pt (pw_and (pt_cmpR op_le (pe_ix ix_list (pv 0) pe_int (fun _ _ => rfl)) pe_int (nomark _)) (pw_and1 (pt_cmpR op_lt (pe_ix ix_list (pv 0) pe_int (fun _ _ => rfl)) (pe_callB cl_len (by rfl) T.len PySem.boot_len (pa_cons (pe_ix ix_list (pv 0) pe_int (fun _ _ => rfl)) pa_nil)) (nomark _)))))
        (pss_cons (ps_set (i := 2) sclDraw.nd rfl (Or.inl rfl) (pe_callTy cl_int (by rfl) T.int (by decide +kernel) (pa_cons (pe_ix ix_list (pe_ix ix_list (pv 0) pe_int (fun _ _ => rfl)) (pe_ix ix_list (pv 0) pe_int (fun _ _ => rfl)) (fun _ _ => rfl)) pa_nil)))
        (pss_cons (ps_asg (pe_op op_add (pe_ix ix_list (pv 0) pe_int (fun _ _ => rfl)) pe_int) (pg_sub (pv 0) pe_int set_list))
        (pss_cons (ps_if (pt_cmpR op_lt (pv 2) (pe_op op_pow pe_int pe_int) (nomark _))
            (pss_one (ps_ret (pe_op op_mod (pe_callTy cl_int (by rfl) T.int (by decide +kernel) (pa_cons (pe_df D hr (by decide) (pa_cons (pv 0) (pa_cons (pv 2) pa_nil))) pa_nil)) (pv 1)))) pss_nil)
        (pss_one (ps_asg (pv 2) (pg_sub (pv 0) pe_int set_list)))))) pss_nil) hu, ?_⟩
    obtain ⟨a, b, z, n, ha, hP, hC⟩ := id pl
    have ne : c ≠ p := PoolAt.ne pl
    walk_at "rd"
    refine r_ixL (SqL.of hP) rfl ?_
    walk_at "rd"
    refine ite_dec (fun h1 => ?_) (fun h1 => ?_)
    · walk_at "rd"
      refine r_ixL (SqL.of hP) rfl ?_
      walk_at "rd"
      refine r_ixL (SqL.of hP) rfl ?_
      walk_at "rd"
      refine r_lenL (SqL.of hC) ?_
      walk_at "rd"
      refine ite_dec (fun h2 => ?_) (fun h2 => ?_)
      · rw [List.length_map] at h2
        obtain ⟨y, hy⟩ : ∃ y, ns[a.toNat]? = some y := ⟨_, List.getElem?_eq_getElem (by omega)⟩
        walk_at "rd"
        refine r_ixL (SqL.of hP) rfl ?_
        walk_at "rd"
        refine r_ixL (SqL.of hP) rfl ?_
        refine r_ixL (v := .int y) (SqL.of hC) (by have e := atI_nat (xs := ns.map V.int) (j := a.toNat) (v := .int y) (by rw [List.getElem?_map, hy]; rfl); rw [Int.toNat_of_nonneg ha] at e; exact e) ?_
        walk_at "rd"
        refine r_ixL (SqL.of hP) rfl ?_
        walk_at "rd"
        refine r_setL hP rfl ?_
        walk_at "rd"
        have P1 : PoolAt (upd H p (.lst [.ref c, .int (a + 1), .int b, .int z, .int n])) p c ns := PoolAt.put (by omega) hC ne
        refine ite_dec (fun h3 => ?_) (fun h3 => ?_)
        · walk_at "rd"
          refine ⟨p, c, ns, y, rfl, P1, fun r H2 r0 k2 p2 => ?_⟩
          walk_at "rd"
          refine r_mod x0 ?_
          exact k _ _ (Int.emod_nonneg _ (by omega)) (Int.emod_lt_of_pos _ x0) (Keep.refl.own.trans k2) p2
        · walk_at "rd"
          refine r_setL upd_same rfl ?_
          refine ru _ _ _ (Keep.refl.own.own) ?_
          rw [upd_upd]
          exact PoolAt.put (by omega) hC ne
      · walk_at "rd"
        exact ru _ _ _ Keep.refl pl
    · walk_at "rd"
      exact ru _ _ _ Keep.refl pl
theorem sclNumber : FnScope ["_law_pool_here", "_law_parts", "_law_number_here", "_law_k"] ["_law_pool_here", "_law_parts"] (defScope slNumber) := ⟨rfl, rfl, rfl, by decide +kernel, rfl, by decide +kernel, by decide +kernel⟩
theorem ok_number {f : Addr} {fd : FuncData} (F : Fun K "_law_number" "_law_number" slNumber f fd) (T : Bt mg) (D : Df P w K mg base CX0 "_law_draw" 2 ["_law_pool_here", "_law_size"] spDraw) :
    FnOk P w K mg base CX0 3 f fd ["_law_pool_here", "_law_parts"] spNum := by
  refine F.ok sclNumber (fun vs H Q E h => ?_) (fun cdv A outer s H vs Q E hr h => ?_)
  · obtain ⟨p, c, ns, x, rfl, _⟩ := h
    rfl
  · obtain ⟨p, c, ns, x, rfl, pl, x0, x1, k⟩ := h
    refine ⟨_, pss_cons (ps_set (i := 2) sclNumber.nd rfl (Or.inl rfl) pe_int)
      (pss_cons (ps_for PassesOwn.never rfl (pi_range1 rfl T.range (pa_cons (pv 1) pa_nil)) (pg_name (i := 3) sclNumber.nd rfl (Or.inl rfl))
        (pss_one (ps_set (i := 2) sclNumber.nd rfl (Or.inl rfl) (pe_op op_add (pe_op op_mul (pv 2) (pe_op op_pow pe_int pe_int)) (pe_df D hr (by decide) (pa_cons (pv 0) (pa_cons (pe_op op_pow pe_int pe_int) pa_nil)))))))
      (pss_one (ps_ret (pv 2)))), ?_⟩
    walk_at "rd"
    refine ⟨x, rfl, by omega, by omega, for_range (lo := 0) (n := x.toNat) (fun i σ H' => ∃ (m : Int) (v : Option V), σ = [some (.ref p), some (.int x), some (.int m), v] ∧ 0 ≤ m ∧ m < 1000000 ^ i ∧ Keep p H H' ∧ PoolAt H' p c ns)
      ⟨0, none, rfl, Int.le_refl 0, by decide, Keep.refl, pl⟩ ?_ ?_⟩
    · rintro i σ H' hi ⟨m, v, rfl, m0, m1, kp, pl'⟩
      walk_at "rd"
      refine ⟨p, c, ns, _, rfl, pl', by decide, by decide, fun r H2 r0 r1 k2 p2 => ?_⟩
      walk_at "rd"
      have e6 : ((10 : Int) ^ Int.toNat 6) = 1000000 := by decide
      rw [e6] at r1 ⊢
      refine ⟨_, _, rfl, by omega, ?_, kp.trans k2, p2⟩
      rw [Int.pow_succ]
      omega
    · rintro σ H' ⟨m, v, rfl, m0, m1, kp, pl'⟩
      walk_at "rd"
      exact k _ _ m0 m1 kp pl'
theorem sclPool : FnScope ["_law_script", "_law_cell"] ["_law_script"] (defScope slPool) := ⟨rfl, rfl, rfl, by decide +kernel, rfl, by decide +kernel, by decide +kernel⟩
theorem ok_pool {f : Addr} {fd : FuncData} (F : Fun K "_law_pool" "_law_pool" slPool f fd) (T : Bt mg) : FnOk P w K mg base CX0 1 f fd ["_law_script"] (spPool K) := by
  refine F.ok sclPool (fun vs H Q E h => ?_) (fun cdv A outer s H vs Q E hr h => ?_)
  · obtain ⟨l, ns, rfl, _⟩ := h
    rfl
  · obtain ⟨l, ns, rfl, hS, hlen, k⟩ := h
    refine ⟨_, (pss_one (ps_ret (pe_lst (pa_cons (pe_lc (own := [("_law_cell", 1)]) (g := gName 1) rfl sclPool.nd (pi_list (pe_slice sl_list (pv 0) po_none (po_some pe_int))) (blkOk_by (own := [("_law_cell", 1)]) (N := ["_law_script", "_law_cell"]) (sc := defScope slPool) (by decide +kernel)) (fun _ _ _ _ _ => pg_name (i := 1) sclPool.nd rfl (Or.inl rfl)) (fun _ _ _ _ _ => pts_nil) (fun _ _ _ _ _ => (pe_callTy cl_int (by rfl) T.int (by decide +kernel) (pa_cons (pv 1) pa_nil)))) (pa_cons pe_int (pa_cons pe_int (pa_cons pe_int (pa_cons pe_int pa_nil)))))))), ?_⟩
    have cut : cutV (ns.map V.int) none (some 63) = ns.map V.int := cut_all (by rw [List.length_map]; exact hlen)
    walk_at "rd"
    refine ⟨l, ns.map V.int, rfl, hS, fun q hq => ⟨q, rfl, ⟨_, SqL.of upd_same⟩, fun D hD => ?_⟩⟩
    rw [cut] at hD ⊢
    have nqD : q ≠ D := fun z => by rw [← z, upd_same] at hD; cases hD
    refine lc_list (K := K) (a := q) (xs := ns.map V.int) (fun i H' => H' D = some (.lst ((ns.take i).map V.int)) ∧ H' q = some (.lst (ns.map V.int)) ∧ Same H H') ⟨upd_same, ?_, ?_⟩ (fun i H' _ h => SqL.of h.2.1) (fun i x H' hi h => ?_) (fun H' h => ?_)
    · rw [upd_ne nqD, upd_same]
    · exact Same.up (Same.up (Same.refl H) hq) hD
    · obtain ⟨h1, h2, h3⟩ := h
      rw [List.getElem?_map] at hi
      obtain ⟨y, hy, rfl⟩ := Option.map_eq_some_iff.mp hi
      walk_at "rd"
      refine ⟨rfl, ?_⟩
      walk_at "rd"
      refine ⟨_, h1, ?_, upd_same.trans ?_, ?_, ?_⟩
      · rw [List.length_map, List.length_take]
        exact Nat.lt_of_le_of_lt (Nat.min_le_right _ _) (Nat.lt_of_le_of_lt hlen (by decide))
      · rw [take_snoc hy, List.map_append]; rfl
      · rw [upd_ne nqD]; exact h2
      · have hDn : H D = none := by
          rw [upd_ne (fun z => nqD z.symm)] at hD; exact hD
        exact fun b o e => by rw [upd_ne (ne_of_none e hDn)]; exact h3 b o e
    · obtain ⟨h1, h2, h3⟩ := h
      rw [List.length_map, List.take_length] at h1
      walk_at "rd"
      refine ⟨by show 5 ≤ sizeLine; decide, fun p hp => ?_⟩
      have hDn : H D = none := by
        rw [upd_ne (fun z => nqD z.symm)] at hD; exact hD
      have npD : D ≠ p := ne_of_none h1 hp
      exact k p D _ (h3.free hp) hDn (Same.up h3 hp) ⟨0, 0, 1, 0, Int.le_refl 0, upd_same, by rw [upd_ne npD]; exact h1⟩
end
abbrev slSame : Stmt := top 23
section
variable {P : Program} {w : World} {K : PySem.W.Frag} {mg : Str → Option Value} {base : Heap}
theorem sclSame : FnScope ["_law_actual", "_law_due", "_law_k"] ["_law_actual", "_law_due"] (defScope slSame) := ⟨rfl, rfl, rfl, by decide +kernel, rfl, by decide +kernel, by decide +kernel⟩
theorem ok_same {f : Addr} {fd : FuncData} (F : Fun K "_law_same" "_law_same" slSame f fd) (T : Bt mg) (me : mg "_law_same" = some (.ref f)) : ∀ n : Nat, FnOk P w K mg base CX0 (n + 1) f fd ["_law_actual", "_law_due"] (spSame K n)
  | n => by
    have G : ∀ m, n = m + 1 → FnOk P w K mg base CX0 (m + 1) f fd ["_law_actual", "_law_due"] (spSame K m) := fun m e => by
      subst e
      exact ok_same F T me m
    have b : Binds K fd ["_law_actual", "_law_due"] [] := F.binds fun _ _ _ _ _ _ us hl => match us, hl with | [_, _], _ => rfl
    refine F.ok sclSame (fun vs H Q E h => ?_) (fun cdv A outer s H vs Q E hr h => ?_)
    · obtain ⟨v, d, d', rfl, _⟩ := h
      rfl
    · obtain ⟨x, y, d, rfl, hx, hy, hd, k⟩ := h
      obtain ⟨u, hu, ru⟩ : ∃ u : TS, PSs (cxOf CX0 P w K mg base ["_law_actual", "_law_due", "_law_k"] "_law_same" (defScope slSame) f cdv A outer s H E).nox ((defBody slSame).drop 6) u ∧
          (∀ (p q : Addr) (xs ys : List V) (ds : List PyData), x = .ref p → y = .ref q → ((SqL K H p xs ∧ SqL K H q ys ∧ d = .list ds) ∨ (SqT K H p xs ∧ SqT K H q ys ∧ d = .tuple ds)) → DpAll K H xs ds → DpAll K H ys ds →
            u { nx := fun _ H' => Q .non H', rt := Q } [some x, some y, none] H) := by
        cases hd with
        | non => exact ⟨_, pss_never, fun p q xs ys ds e _ h => by cases hx; cases e⟩
        | bl b => exact ⟨_, pss_never, fun p q xs ys ds e _ h => by cases hx; cases e⟩
        | int i => exact ⟨_, pss_never, fun p q xs ys ds e _ h => by cases hx; cases e⟩
        | str z => exact ⟨_, pss_never, fun p q xs ys ds e _ h => by cases hx; cases e⟩
        | @lst n ds hds hz =>
          refine ⟨_, pss_cons (ps_if (pt_cmpR op_ne (pe_callB cl_len (by rfl) T.len PySem.boot_len (pa_cons (pv 0) pa_nil)) (pe_callB cl_len (by rfl) T.len PySem.boot_len (pa_cons (pv 1) pa_nil)) (nomark _)) (pss_one (ps_ret pe_bl)) pss_nil)
            (pss_cons (ps_for PassesOwn.never rfl (pi_range1 rfl T.range (pa_cons (pe_callB cl_len (by rfl) T.len PySem.boot_len (pa_cons (pv 1) pa_nil)) pa_nil)) (pg_name (i := 2) sclSame.nd rfl (Or.inl rfl))
              (pss_one (ps_if (pt_not (pt_val (pe_call (G _ rfl) hr rfl me F.kp b .nil pass0 (pa_cons (pe_ix ix_list (pv 0) (pv 2) (fun _ _ => rfl)) (pa_cons (pe_ix ix_list (pv 1) (pv 2) (fun _ _ => rfl)) pa_nil))))) (pss_one (ps_ret pe_bl)) pss_nil)))
            (pss_one (ps_ret pe_bl))), ?_⟩
          intro p q xs ys ds' e1 e2 h hA hB
          rcases h with ⟨hX, hY, e⟩ | ⟨_, _, e⟩
          · have ed := PyData.list.inj e
            subst ed e1 e2
            have l1 := dpAll_len hA
            have l2 := dpAll_len hB
            walk_at "rd"
            refine r_lenL hX ?_
            walk_at "rd"
            refine r_lenL hY ?_
            refine r_ne rfl ?_
            walk_at "rd"
            refine ite_no (fun _ => ?_) (fun h => absurd (by rw [l1, l2]) h)
            walk_at "rd"
            refine r_lenL hY ?_
            walk_at "rd"
            refine ⟨_, rfl, by omega, by omega, for_range (lo := 0) (n := _) (fun i σ H' => H' = H ∧ ∃ v : Option V, σ = [some (.ref p), some (.ref q), v]) ⟨rfl, none, rfl⟩ ?_ ?_⟩
            · rintro i σ H' hi ⟨rfl, v, rfl⟩
              have hi' : i < ys.length := by omega
              obtain ⟨dx, hdx, hdX⟩ := dpAll_at (i := i) hA (List.getElem?_eq_getElem (by omega))
              obtain ⟨dy, hdy, hdY⟩ := dpAll_at (i := i) hB (List.getElem?_eq_getElem hi')
              have ee : dx = dy := Option.some.inj (hdx.symm.trans hdy)
              subst ee
              have e0 : (0 : Int) + (i : Int) = (i : Int) := Int.zero_add _
              walk_at "rd"
              rw [e0]
              refine r_ixL hX (atI_nat (List.getElem?_eq_getElem (by omega))) ?_
              walk_at "rd"
              refine r_ixL hY (atI_nat (List.getElem?_eq_getElem hi')) ?_
              walk_at "rd"
              refine ⟨_, _, dx, rfl, hdX, hdY, hds _ (List.mem_of_getElem? hdx), ?_⟩
              walk_at "rd"
              exact ⟨rfl, _, rfl⟩
            · rintro σ H' ⟨rfl, v, rfl⟩
              walk_at "rd"
              exact k
          · cases e
        | @tup n ds hds hz =>
          refine ⟨_, pss_cons (ps_if (pt_cmpR op_ne (pe_callB cl_len (by rfl) T.len PySem.boot_len (pa_cons (pv 0) pa_nil)) (pe_callB cl_len (by rfl) T.len PySem.boot_len (pa_cons (pv 1) pa_nil)) (nomark _)) (pss_one (ps_ret pe_bl)) pss_nil)
            (pss_cons (ps_for PassesOwn.never rfl (pi_range1 rfl T.range (pa_cons (pe_callB cl_len (by rfl) T.len PySem.boot_len (pa_cons (pv 1) pa_nil)) pa_nil)) (pg_name (i := 2) sclSame.nd rfl (Or.inl rfl))
              (pss_one (ps_if (pt_not (pt_val (pe_call (G _ rfl) hr rfl me F.kp b .nil pass0 (pa_cons (pe_ix ix_tup (pv 0) (pv 2) (fun _ _ => rfl)) (pa_cons (pe_ix ix_tup (pv 1) (pv 2) (fun _ _ => rfl)) pa_nil))))) (pss_one (ps_ret pe_bl)) pss_nil)))
            (pss_one (ps_ret pe_bl))), ?_⟩
          intro p q xs ys ds' e1 e2 h hA hB
          rcases h with ⟨_, _, e⟩ | ⟨hX, hY, e⟩
          · cases e
          · have ed := PyData.tuple.inj e
            subst ed e1 e2
            have l1 := dpAll_len hA
            have l2 := dpAll_len hB
            walk_at "rd"
            refine r_lenT hX ?_
            walk_at "rd"
            refine r_lenT hY ?_
            refine r_ne rfl ?_
            walk_at "rd"
            refine ite_no (fun _ => ?_) (fun h => absurd (by rw [l1, l2]) h)
            walk_at "rd"
            refine r_lenT hY ?_
            walk_at "rd"
            refine ⟨_, rfl, by omega, by omega, for_range (lo := 0) (n := _) (fun i σ H' => H' = H ∧ ∃ v : Option V, σ = [some (.ref p), some (.ref q), v]) ⟨rfl, none, rfl⟩ ?_ ?_⟩
            · rintro i σ H' hi ⟨rfl, v, rfl⟩
              have hi' : i < ys.length := by omega
              obtain ⟨dx, hdx, hdX⟩ := dpAll_at (i := i) hA (List.getElem?_eq_getElem (by omega))
              obtain ⟨dy, hdy, hdY⟩ := dpAll_at (i := i) hB (List.getElem?_eq_getElem hi')
              have ee : dx = dy := Option.some.inj (hdx.symm.trans hdy)
              subst ee
              have e0 : (0 : Int) + (i : Int) = (i : Int) := Int.zero_add _
              walk_at "rd"
              rw [e0]
              refine r_ixT hX (atI_nat (List.getElem?_eq_getElem (by omega))) ?_
              walk_at "rd"
              refine r_ixT hY (atI_nat (List.getElem?_eq_getElem hi')) ?_
              walk_at "rd"
              refine ⟨_, _, dx, rfl, hdX, hdY, hds _ (List.mem_of_getElem? hdx), ?_⟩
              walk_at "rd"
              exact ⟨rfl, _, rfl⟩
            · rintro σ H' ⟨rfl, v, rfl⟩
              walk_at "rd"
              exact k
      refine ⟨_, pss_cons (ps_if (pt_cmpR op_is0 (pv 1) pe_non (nomark _)) (pss_one (ps_ret (pe_cmpR op_is0 (pv 0) pe_non (nomark _)))) pss_nil)
        (pss_cons (ps_if (pt_val (pe_callB call_isi (by rfl) T.isinstance (by decide +kernel) (pa_cons (pv 1) (pa_cons (pe_bltn (v := .ty "bool") (by rfl) T.bool (by decide +kernel) rfl) pa_nil))))
          (pss_one (ps_ret (pe_and (pe_callB call_isi (by rfl) T.isinstance (by decide +kernel) (pa_cons (pv 0) (pa_cons (pe_bltn (v := .ty "bool") (by rfl) T.bool (by decide +kernel) rfl) pa_nil))) (pe_one (pe_cmpR op_eq (pv 0) (pv 1) (nomark _)))))) pss_nil)
        (pss_cons (ps_if (pt_val (pe_callB call_isi (by rfl) T.isinstance (by decide +kernel) (pa_cons (pv 1) (pa_cons (pe_bltn (v := .ty "int") (by rfl) T.int (by decide +kernel) rfl) pa_nil))))
          (pss_one (ps_ret (pe_and (pe_callB call_isi (by rfl) T.isinstance (by decide +kernel) (pa_cons (pv 0) (pa_cons (pe_bltn (v := .ty "int") (by rfl) T.int (by decide +kernel) rfl) pa_nil))) (pe_and (pe_not (pe_callB call_isi (by rfl) T.isinstance (by decide +kernel) (pa_cons (pv 0) (pa_cons (pe_bltn (v := .ty "bool") (by rfl) T.bool (by decide +kernel) rfl) pa_nil)))) (pe_one (pe_cmpR op_eq (pv 0) (pv 1) (nomark _))))))) pss_nil)
        (pss_cons (ps_if (pt_val (pe_callB call_isi (by rfl) T.isinstance (by decide +kernel) (pa_cons (pv 1) (pa_cons (pe_bltn (v := .ty "str") (by rfl) T.str (by decide +kernel) rfl) pa_nil))))
          (pss_one (ps_ret (pe_and (pe_callB call_isi (by rfl) T.isinstance (by decide +kernel) (pa_cons (pv 0) (pa_cons (pe_bltn (v := .ty "str") (by rfl) T.str (by decide +kernel) rfl) pa_nil))) (pe_one (pe_cmpR op_eq (pv 0) (pv 1) (nomark _)))))) pss_nil)
        (pss_cons (ps_if (pt_val (pe_callB call_isi (by rfl) T.isinstance (by decide +kernel) (pa_cons (pv 1) (pa_cons (pe_bltn (v := .ty "dict") (by rfl) T.dict (by decide +kernel) rfl) pa_nil)))) pss_never pss_nil)
        (pss_cons (ps_if (pt_val (pe_callB call_isi (by rfl) T.isinstance (by decide +kernel) (pa_cons (pv 1) (pa_cons (pe_bltn (v := .ty "list") (by rfl) T.list (by decide +kernel) rfl) pa_nil))))
          (pss_one (ps_if (pt_not (pt_val (pe_callB call_isi (by rfl) T.isinstance (by decide +kernel) (pa_cons (pv 0) (pa_cons (pe_bltn (v := .ty "list") (by rfl) T.list (by decide +kernel) rfl) pa_nil))))) (pss_one (ps_ret pe_bl)) pss_nil))
          (pss_one (ps_if (pt_not (pt_val (pe_callB call_isi (by rfl) T.isinstance (by decide +kernel) (pa_cons (pv 0) (pa_cons (pe_bltn (v := .ty "tuple") (by rfl) T.tuple (by decide +kernel) rfl) pa_nil))))) (pss_one (ps_ret pe_bl)) pss_nil)))
        hu))))), ?_⟩
      cases hd with
      | non =>
        cases hx; cases hy
        walk_at "rd"
        refine ite_dec (fun _ => ?_) (fun h => absurd rfl h)
        walk_at "rd"
        exact k
      | bl b =>
        cases hx; cases hy
        walk_at "rd"
        refine ite_dec (fun h => by cases h) (fun _ => ?_)
        walk_at "rd"
        refine r_isi (.base (.bl b)) (by decide +kernel : kitB "bool" "bool" = some true) ?_
        walk_at "rd"
        refine r_isi (.base (.bl b)) (by decide +kernel : kitB "bool" "bool" = some true) ?_
        walk_at "rd"
        exact r_eqT (by rfl) k
      | int i =>
        cases hx; cases hy
        walk_at "rd"
        refine ite_dec (fun h => by cases h) (fun _ => ?_)
        walk_at "rd"
        refine r_isi (.base (.int i)) (by decide +kernel : kitB "int" "bool" = some false) ?_
        walk_at "rd"
        refine r_isi (.base (.int i)) (by decide +kernel : kitB "int" "int" = some true) ?_
        walk_at "rd"
        refine r_isi (.base (.int i)) (by decide +kernel : kitB "int" "int" = some true) ?_
        walk_at "rd"
        refine r_isi (.base (.int i)) (by decide +kernel : kitB "int" "bool" = some false) ?_
        walk_at "rd"
        exact r_eqT (by rfl) k
      | str z =>
        cases hx; cases hy
        walk_at "rd"
        refine ite_dec (fun h => by cases h) (fun _ => ?_)
        walk_at "rd"
        refine r_isi (.base (.str z)) (by decide +kernel : kitB "str" "bool" = some false) ?_
        walk_at "rd"
        refine r_isi (.base (.str z)) (by decide +kernel : kitB "str" "int" = some false) ?_
        walk_at "rd"
        refine r_isi (.base (.str z)) (by decide +kernel : kitB "str" "str" = some true) ?_
        walk_at "rd"
        refine r_isi (.base (.str z)) (by decide +kernel : kitB "str" "str" = some true) ?_
        walk_at "rd"
        exact r_eqT (by rfl) k
      | @lst n ds hds hz =>
        have tx : TyX K H x (.type "list") := Dp.kind hx
        have ty : TyX K H y (.type "list") := Dp.kind hy
        cases hx with
        | @lst p xs _ hX hA =>
          cases hy with
          | @lst q ys _ hY hB =>
            walk_at "rd"
            refine ite_dec (fun h => by cases h) (fun _ => ?_)
            walk_at "rd"
            refine r_isi ty (by decide +kernel : kitB "list" "bool" = some false) ?_
            walk_at "rd"
            refine r_isi ty (by decide +kernel : kitB "list" "int" = some false) ?_
            walk_at "rd"
            refine r_isi ty (by decide +kernel : kitB "list" "str" = some false) ?_
            walk_at "rd"
            refine r_isi ty (by decide +kernel : kitB "list" "dict" = some false) ?_
            walk_at "rd"
            refine r_isi ty (by decide +kernel : kitB "list" "list" = some true) ?_
            walk_at "rd"
            refine r_isi tx (by decide +kernel : kitB "list" "list" = some true) ?_
            walk_at "rd"
            exact ru p q xs ys ds rfl rfl (.inl ⟨hX, hY, rfl⟩) hA hB
      | @tup n ds hds hz =>
        have tx : TyX K H x (.type "tuple") := Dp.kind hx
        have ty : TyX K H y (.type "tuple") := Dp.kind hy
        cases hx with
        | @tup p xs _ hX hA =>
          cases hy with
          | @tup q ys _ hY hB =>
            walk_at "rd"
            refine ite_dec (fun h => by cases h) (fun _ => ?_)
            walk_at "rd"
            refine r_isi ty (by decide +kernel : kitB "tuple" "bool" = some false) ?_
            walk_at "rd"
            refine r_isi ty (by decide +kernel : kitB "tuple" "int" = some false) ?_
            walk_at "rd"
            refine r_isi ty (by decide +kernel : kitB "tuple" "str" = some false) ?_
            walk_at "rd"
            refine r_isi ty (by decide +kernel : kitB "tuple" "dict" = some false) ?_
            walk_at "rd"
            refine r_isi ty (by decide +kernel : kitB "tuple" "list" = some false) ?_
            walk_at "rd"
            refine r_isi tx (by decide +kernel : kitB "tuple" "tuple" = some true) ?_
            walk_at "rd"
            exact ru p q xs ys ds rfl rfl (.inr ⟨hX, hY, rfl⟩) hA hB
end
abbrev sCopy : Stmt := top 2
section
variable {P : Program} {w : World} {K : PySem.W.Frag} {mg : Str → Option Value} {base : Heap}
/-- the copies made so far stand in the list at D -/
def Copied (H : Hp) (D : Addr) (ds : List PyData) (i : Nat) (H' : Hp) : Prop :=
  ∃ ys, H' D = some (.lst ys) ∧ ys.length = i ∧ Same H H' ∧ ∀ (j : Nat) (v : V) (d : PyData), ys[j]? = some v → ds[j]? = some d → Own (upd H D (.lst [])) H' v d
theorem Copied.start {H : Hp} {D : Addr} {ds : List PyData} (hD : H D = none) : Copied H D ds 0 (upd H D (.lst [])) :=
  ⟨[], upd_same, rfl, fun b o e => by rw [upd_ne (ne_of_none e hD)]; exact e, fun j v d e => by simp at e⟩
theorem Copied.more {H H1 H2 : Hp} {D : Addr} {ds : List PyData} {i : Nat} {v : V} {d : PyData} (hD : H D = none) (c : Copied H D ds i H1) (s : Same H1 H2) (o : Own H1 H2 v d) (hd : ds[i]? = some d) :
    ∃ acc, H2 D = some (.lst acc) ∧ acc.length = i ∧ Copied H D ds (i + 1) (upd H2 D (.lst (acc ++ [v]))) := by
  obtain ⟨ys, h1, h2, h3, h4⟩ := c
  have nD : ∀ {a : Addr}, upd H D (.lst []) a = none → a ≠ D := fun {a} n z => by rw [z, upd_same] at n; cases n
  refine ⟨ys, s _ _ h1, h2, ys ++ [v], upd_same, by rw [List.length_append, h2]; rfl, fun b o e => ?_, fun j u e e1 e2 => ?_⟩
  · have n : b ≠ D := ne_of_none e hD
    rw [upd_ne n]
    exact s _ _ (h3 _ _ e)
  · by_cases hj : j < ys.length
    · rw [List.getElem?_append_left hj] at e1
      exact ((h4 j u e e1 e2).later s).mono (fun a n _ => n) fun a z n q _ => by rw [upd_ne (nD n)]; exact q
    · have ej : j = i := by
        have z := (List.getElem?_eq_some_iff.mp e1).1
        rw [List.length_append, List.length_singleton] at z
        omega
      subst ej
      rw [List.getElem?_append_right (by omega), h2, Nat.sub_self] at e1
      have eu : v = u := Option.some.inj e1
      have ee : d = e := Option.some.inj (hd.symm.trans e2)
      subst eu ee
      refine o.mono (fun a n _ => ?_) fun a z n q _ => ?_
      · have na : a ≠ D := fun z => by rw [z, h1] at n; cases n
        rw [upd_ne na]
        exact h3.free n
      · have na : a ≠ D := fun z => by rw [z, h1] at n; cases n
        rw [upd_ne na]
        exact q
theorem Copied.done {H H' : Hp} {D : Addr} {ds : List PyData} (hD : H D = none) (c : Copied H D ds ds.length H') : ∃ ys, H' D = some (.lst ys) ∧ ys.length = ds.length ∧ Same H H' ∧ ∀ (j : Nat) (v : V) (d : PyData), ys[j]? = some v → ds[j]? = some d → Own H H' v d := by
  obtain ⟨ys, h1, h2, h3, h4⟩ := c
  refine ⟨ys, h1, h2, h3, fun j v d e1 e2 => (h4 j v d e1 e2).mono (fun a n _ => ?_) fun a u _ q _ => q⟩
  have na : a ≠ D := fun z => by rw [z, upd_same] at n; cases n
  rw [upd_ne na] at n
  exact n

theorem scCopy : FnScope ["value", "entry"] ["value"] (defScope sCopy) := ⟨rfl, rfl, rfl, by decide +kernel, rfl, by decide +kernel, by decide +kernel⟩
theorem ok_copy {f : Addr} {fd : FuncData} (F : Fun K "own_copy" "own_copy" sCopy f fd) (T : Bt mg) (me : mg "own_copy" = some (.ref f)) : ∀ n : Nat, FnOk P w K mg base CX0 (n + 1) f fd ["value"] (spCopy K n)
  | 0 => by
    refine F.ok scCopy (fun vs H Q E h => ?_) (fun cdv A outer s H vs Q E hr h => ?_)
    · obtain ⟨v, d, rfl, _⟩ := h
      rfl
    · obtain ⟨v, d, rfl, hv, hd, k⟩ := h
      refine ⟨_, pss_cons (ps_if (pt_val (pe_callB call_isi (by rfl) T.isinstance (by decide +kernel) (pa_cons (pv 0) (pa_cons (pe_bltn (v := .ty "list") (by rfl) T.list (by decide +kernel) rfl) pa_nil)))) pss_never pss_nil)
        (pss_cons (ps_if (pt_val (pe_callB call_isi (by rfl) T.isinstance (by decide +kernel) (pa_cons (pv 0) (pa_cons (pe_bltn (v := .ty "tuple") (by rfl) T.tuple (by decide +kernel) rfl) pa_nil)))) pss_never pss_nil)
        (pss_cons (ps_if (pt_val (pe_callB call_isi (by rfl) T.isinstance (by decide +kernel) (pa_cons (pv 0) (pa_cons (pe_bltn (v := .ty "dict") (by rfl) T.dict (by decide +kernel) rfl) pa_nil)))) pss_never pss_nil)
        (pss_one (ps_ret (pv 0))))), ?_⟩
      obtain ⟨r1, e1, f1⟩ := kit_list d
      obtain ⟨r2, e2, f2⟩ := kit_tuple d
      have n1 : r1 = false := by
        cases r1 with
        | false => rfl
        | true => obtain ⟨ds, rfl⟩ := f1.mp rfl; cases hd
      have n2 : r2 = false := by
        cases r2 with
        | false => rfl
        | true => obtain ⟨ds, rfl⟩ := f2.mp rfl; cases hd
      subst n1 n2
      walk_at "rd"
      refine r_isi (Dp.kind hv) e1 ?_
      walk_at "rd"
      refine r_isi (Dp.kind hv) e2 ?_
      walk_at "rd"
      refine r_isi (Dp.kind hv) (kit_dict hd) ?_
      walk_at "rd"
      refine k v H (Same.refl H) ?_
      cases hd with
      | non => cases hv; exact .non
      | bl b => cases hv; exact .bl b
      | int i => cases hv; exact .int i
      | str z => cases hv; exact .str z
  | n + 1 => by
    have G := ok_copy F T me n
    have b : Binds K fd ["value"] [] := F.binds fun _ _ _ _ _ _ us hl => match us, hl with | [_], _ => rfl
    refine F.ok scCopy (fun vs H Q E h => ?_) (fun cdv A outer s H vs Q E hr h => ?_)
    · obtain ⟨v, d, rfl, _⟩ := h
      rfl
    · obtain ⟨v, d, rfl, hv, hd, k⟩ := h
      refine ⟨_, pss_cons (ps_if (pt_val (pe_callB call_isi (by rfl) T.isinstance (by decide +kernel) (pa_cons (pv 0) (pa_cons (pe_bltn (v := .ty "list") (by rfl) T.list (by decide +kernel) rfl) pa_nil))))
          (pss_one (ps_ret (pe_lc (own := [("entry", 1)]) (g := gName 1) rfl scCopy.nd (pi_list (pv 0)) (blkOk_by (own := [("entry", 1)]) (N := ["value", "entry"]) (sc := defScope sCopy) (by decide +kernel)) (fun _ _ _ _ _ => pg_name (i := 1) scCopy.nd rfl (Or.inl rfl)) (fun _ _ _ _ _ => pts_nil)
            (fun _ _ _ _ _ => pe_call G hr rfl me F.kp b .nil pass0 (pa_cons (pv 1) pa_nil))))) pss_nil)
        (pss_cons (ps_if (pt_val (pe_callB call_isi (by rfl) T.isinstance (by decide +kernel) (pa_cons (pv 0) (pa_cons (pe_bltn (v := .ty "tuple") (by rfl) T.tuple (by decide +kernel) rfl) pa_nil))))
          (pss_one (ps_ret (pe_callTy cl_tup (by rfl) T.tuple (by decide +kernel) (pa_cons (pe_lc (own := [("entry", 1)]) (g := gName 1) rfl scCopy.nd (pi_tup (pv 0)) (blkOk_by (own := [("entry", 1)]) (N := ["value", "entry"]) (sc := defScope sCopy) (by decide +kernel)) (fun _ _ _ _ _ => pg_name (i := 1) scCopy.nd rfl (Or.inl rfl)) (fun _ _ _ _ _ => pts_nil)
            (fun _ _ _ _ _ => pe_call G hr rfl me F.kp b .nil pass0 (pa_cons (pv 1) pa_nil))) pa_nil)))) pss_nil)
        (pss_cons (ps_if (pt_val (pe_callB call_isi (by rfl) T.isinstance (by decide +kernel) (pa_cons (pv 0) (pa_cons (pe_bltn (v := .ty "dict") (by rfl) T.dict (by decide +kernel) rfl) pa_nil)))) pss_never pss_nil)
        (pss_one (ps_ret (pv 0))))), ?_⟩
      obtain ⟨r1, e1, f1⟩ := kit_list d
      obtain ⟨r2, e2, f2⟩ := kit_tuple d
      walk_at "rd"
      refine r_isi (Dp.kind hv) e1 ?_
      walk_at "rd"
      cases r1 with
      | true =>
        obtain ⟨ds, rfl⟩ := f1.mp rfl
        cases hd with
        | lst hds hz =>
          cases hv with
          | @lst a xs _ hS hA =>
            have ln := dpAll_len hA
            walk_at "rd"
            refine ⟨a, rfl, ⟨_, hS⟩, fun D hD => lc_list (K := K) (a := a) (xs := xs) (Copied H D ds) (Copied.start hD) (fun i H' _ c => c.choose_spec.2.2.1.seq hS) (fun i x H' hi c => ?_) (fun H' c => ?_)⟩
            · obtain ⟨d, hd, hx⟩ := dpAll_at hA hi
              have s1 : Same H H' := c.choose_spec.2.2.1
              walk_at "rd"
              refine ⟨rfl, ?_⟩
              walk_at "rd"
              refine ⟨x, d, rfl, Dp.later s1 hx, hds d (List.mem_of_getElem? hd), fun v' H2 s2 o => ?_⟩
              obtain ⟨acc, h1, h2, h3⟩ := c.more hD s2 o hd
              refine ⟨acc, h1, Nat.lt_of_lt_of_le ?_ (show 1001 ≤ sizeLine by decide), h3⟩
              have := (List.getElem?_eq_some_iff.mp hd).1
              omega
            · rw [ln] at c
              obtain ⟨ys, h1, h2, h3, h4⟩ := Copied.done hD c
              exact k _ _ h3 (.lst hD h1 h2 h4)
      | false =>
        walk_at "rd"
        refine r_isi (Dp.kind hv) e2 ?_
        walk_at "rd"
        cases r2 with
        | true =>
          obtain ⟨ds, rfl⟩ := f2.mp rfl
          cases hd with
          | tup hds hz =>
            cases hv with
            | @tup a xs _ hS hA =>
              have ln := dpAll_len hA
              walk_at "rd"
              refine ⟨a, rfl, ⟨_, hS⟩, fun D hD => lc_tup (K := K) (a := a) (xs := xs) (Copied H D ds) (Copied.start hD) (fun i H' _ c => ?_) (fun i x H' hi c => ?_) (fun H' c => ?_)⟩
              · have s1 : Same H H' := c.choose_spec.2.2.1
                rcases hS with (h | ⟨o, h⟩) | h
                · exact .inl (.inl (s1 _ _ h))
                · exact .inl (.inr ⟨o, s1 _ _ h⟩)
                · exact .inr h
              · obtain ⟨d, hd, hx⟩ := dpAll_at hA hi
                have s1 : Same H H' := c.choose_spec.2.2.1
                walk_at "rd"
                refine ⟨rfl, ?_⟩
                walk_at "rd"
                refine ⟨x, d, rfl, Dp.later s1 hx, hds d (List.mem_of_getElem? hd), fun v' H2 s2 o => ?_⟩
                obtain ⟨acc, h1, h2, h3⟩ := c.more hD s2 o hd
                refine ⟨acc, h1, Nat.lt_of_lt_of_le ?_ (show 1001 ≤ sizeLine by decide), h3⟩
                have := (List.getElem?_eq_some_iff.mp hd).1
                omega
              · rw [ln] at c
                obtain ⟨ys, h1, h2, h3, h4⟩ := Copied.done hD c
                walk_at "rd"
                refine r_tupOf (SqL.of h1) fun q hq => ?_
                have s2 : Same H (upd H' q (.tup ys)) := Same.up h3 hq
                exact k _ _ s2 (.tup (h3.free hq) upd_same h2 fun j v d e1 e2 => (h4 j v d e1 e2).later (Same.up (Same.refl H') hq))
        | false =>
          walk_at "rd"
          refine r_isi (Dp.kind hv) (kit_dict hd) ?_
          walk_at "rd"
          refine k v H (Same.refl H) ?_
          cases hd with
          | non => cases hv; exact .non
          | bl b => cases hv; exact .bl b
          | int i => cases hv; exact .int i
          | str z => cases hv; exact .str z
          | lst h z => exact absurd (f1.mpr ⟨_, rfl⟩) Bool.false_ne_true
          | tup h z => exact absurd (f2.mpr ⟨_, rfl⟩) Bool.false_ne_true
end
end Pk
set_option Elab.async false
set_option linter.all false
set_option maxRecDepth 100000
set_option maxHeartbeats 2000000
namespace Pk
open PySem L2
local macro_rules | `(tactic| walk_at "rd") => `(tactic| repeat (first
  | with_reducible refine r_seq ?_ | with_reducible refine r_nxt ?_ | with_reducible refine r_asg ?_ | with_reducible refine r_to ?_ | with_reducible refine r_ret ?_ | with_reducible refine r_for ?_ | with_reducible refine r_lc ?_ | with_reducible refine r_rng1 ?_ | with_reducible refine r_list ?_ | with_reducible refine r_tupI ?_ | with_reducible refine r_drop ?_ | with_reducible refine r_ifs ?_
  | with_reducible refine r_op ?_ | with_reducible refine r_c ?_ | with_reducible refine r_var rfl ?_ | with_reducible refine r_I0 ?_ | with_reducible refine r_sub ?_
  | with_reducible refine r_nil ?_ | with_reducible refine r_cons ?_ | with_reducible refine r_cb ?_ | with_reducible refine r_sl ?_ | with_reducible refine r_noP ?_ | with_reducible refine r_part ?_ | with_reducible refine r_isI ?_ | with_reducible refine r_lst ?_ | with_reducible refine r_tup ?_ | with_reducible refine r_call ?_
  | with_reducible refine r_test ?_ | with_reducible refine r_B ?_ | with_reducible refine r_and ?_ | with_reducible refine r_or ?_ | with_reducible refine r_not ?_ | with_reducible refine r_andV ?_ | with_reducible refine r_orV ?_ | with_reducible refine r_notV ?_ | with_reducible refine r_bl ?_ | with_reducible refine r_yes ?_ | with_reducible refine r_int ?_ | with_reducible refine r_is0 ?_ | with_reducible refine r_is1 ?_ | with_reducible refine iteT ?_ | with_reducible refine iteF ?_ | with_reducible refine ite_nF ?_ | with_reducible refine ite_nT ?_
  | with_reducible refine r_mod (by decide) ?_ | with_reducible refine r_div (by decide) (by decide) ?_ | with_reducible refine r_mulR (by decide) (by decide) ?_ | with_reducible refine r_mulL (by decide) (by decide) ?_ | with_reducible refine r_pow (by decide) (by decide) (by decide) ?_))
/-! ### any value of the menu -/
inductive IvH (p : Addr) (H : Hp) : V → Prop
  | non : IvH p H .non
  | bl (b : Bool) : IvH p H (.bl b)
  | int (i : Int) : IvH p H (.int i)
  | str (z : Str) : IvH p H (.str z)
  | lst {a : Addr} {xs : List V} (n : a ≠ p) (h : H a = some (.lst xs)) : IvH p H (.ref a)
  | tup {a : Addr} {xs : List V} (n : a ≠ p) (h : H a = some (.tup xs)) : IvH p H (.ref a)
  | dct {a : Addr} {kvs : List (Key × V)} (n : a ≠ p) (h : H a = some (.dK kvs)) : IvH p H (.ref a)
theorem IvH.keep {p : Addr} {H H' : Hp} {v : V} (h : IvH p H v) (k : Keep p H H') : IvH p H' v := by
  cases h with
  | non => exact .non
  | bl b => exact .bl b
  | int i => exact .int i
  | str z => exact .str z
  | lst n h => exact .lst n (k _ _ n h)
  | tup n h => exact .tup n (k _ _ n h)
  | dct n h => exact .dct n (k _ _ n h)
/-- isinstance of int, bool, str -/
def isI : V → Bool | .int _ => true | .bl _ => true | _ => false
def isB : V → Bool | .bl _ => true | _ => false
def isS : V → Bool | .str _ => true | _ => false
section
variable {K : PySem.W.Frag} {p : Addr} {H : Hp} {Q : VK} {v : V}
theorem IvH.kind (h : IvH p H v) : ∃ T, TyX K H v (.type T) ∧ kitB T "int" = some (isI v) ∧ kitB T "bool" = some (isB v) ∧ kitB T "str" = some (isS v) := by
  cases h with
  | non => exact ⟨"NoneType", .base .non, by decide +kernel, by decide +kernel, by decide +kernel⟩
  | bl b => exact ⟨"bool", .base (.bl b), (by decide +kernel : kitB "bool" "int" = some true), (by decide +kernel : kitB "bool" "bool" = some true), (by decide +kernel : kitB "bool" "str" = some false)⟩
  | int i => exact ⟨"int", .base (.int i), (by decide +kernel : kitB "int" "int" = some true), (by decide +kernel : kitB "int" "bool" = some false), (by decide +kernel : kitB "int" "str" = some false)⟩
  | str z => exact ⟨"str", .base (.str z), (by decide +kernel : kitB "str" "int" = some false), (by decide +kernel : kitB "str" "bool" = some false), (by decide +kernel : kitB "str" "str" = some true)⟩
  | lst n h => exact ⟨"list", .base (.lst h), (by decide +kernel : kitB "list" "int" = some false), (by decide +kernel : kitB "list" "bool" = some false), (by decide +kernel : kitB "list" "str" = some false)⟩
  | tup n h => exact ⟨"tuple", .base (.tup h), (by decide +kernel : kitB "tuple" "int" = some false), (by decide +kernel : kitB "tuple" "bool" = some false), (by decide +kernel : kitB "tuple" "str" = some false)⟩
  | dct n h => exact ⟨"dict", .base (.dK h), (by decide +kernel : kitB "dict" "int" = some false), (by decide +kernel : kitB "dict" "bool" = some false), (by decide +kernel : kitB "dict" "str" = some false)⟩
theorem r_isiI (h : IvH p H v) (q : Q (.bl (isI v)) H) : rIsi K [v, .ty "int"] H Q := by
  obtain ⟨T, t, a, _, _⟩ := h.kind (K := K)
  exact r_isi t a q
theorem r_isiB (h : IvH p H v) (q : Q (.bl (isB v)) H) : rIsi K [v, .ty "bool"] H Q := by
  obtain ⟨T, t, _, a, _⟩ := h.kind (K := K)
  exact r_isi t a q
theorem r_isiS (h : IvH p H v) (q : Q (.bl (isS v)) H) : rIsi K [v, .ty "str"] H Q := by
  obtain ⟨T, t, _, _, a⟩ := h.kind (K := K)
  exact r_isi t a q
end
/-- an integer, between, one of the kinds -/
def whole (v : V) : Bool := isI v && !isB v
theorem whole_int {v : V} (h : whole v = true) : ∃ i, v = .int i := by
  cases v with
  | int i => exact ⟨i, rfl⟩
  | bl b => cases h
  | non => cases h
  | str z => cases h
  | byt b => cases h
  | flt b => cases h
  | ref a => cases h
  | ty n => cases h
def inside (v : V) (lo hi : Int) : Bool := match v with
  | .int i => decide (lo ≤ i) && decide (i ≤ hi)
  | _ => false
abbrev kinds : List V := [.str "even", .str "stock", .str "wish", .str "any"]
def known (v : V) : Bool := isS v && inV v kinds
/-- what suits says of an excess -/
def suited (v : V) (over : Int) : Bool :=
  if v = .str "even" then decide (over = 0) else if v = .str "stock" then decide (0 ≤ over) else if v = .str "wish" then decide (over ≤ 0) else true
def spIsInt : Sp := fun vs H Q _ => ∃ (p : Addr) (v : V), vs = [v] ∧ IvH p H v ∧ Q (.bl (whole v)) H
def spBetween : Sp := fun vs H Q _ => ∃ (p : Addr) (v : V) (lo hi : Int), vs = [v, .int lo, .int hi] ∧ IvH p H v ∧ Q (.bl (inside v lo hi)) H
def spIsKind : Sp := fun vs H Q _ => ∃ (p : Addr) (v : V), vs = [v] ∧ IvH p H v ∧ Q (.bl (known v)) H
/-- suits(amounts, kind): Am H a n: at a amounts whose excess is n -/
def spSuits (Am : Hp → Addr → Int → Prop) (CB : Addr) : Sp := fun vs H Q E => ∃ (a p : Addr) (n : Int) (v : V), vs = [.ref a, v] ∧ Am H a n ∧ IvH p H v ∧
  (known v = true → Q (.bl (suited v n)) H) ∧ (known v = false → ∀ (d : Addr) (H' : Hp), Same H H' → H d = none → H' d = some (.xd [("name", .str "kind")]) → E (.ref CB) (some d) H')
/-- _law_value(pool) -/
def spValue : Sp := fun vs H Q _ => ∃ (p c : Addr) (ns : List Int), vs = [.ref p] ∧ PoolAt H p c ns ∧ ∀ (v : V) (H' : Hp), Keep p H H' → PoolAt H' p c ns → IvH p H' v → Q v H'
theorem atI_lt {xs : List V} {i : Int} (h0 : 0 ≤ i) (h1 : i < xs.length) : ∃ v, atI xs i = some v ∧ v ∈ xs := by
  obtain ⟨k, rfl⟩ : ∃ k : Nat, i = (k : Int) := ⟨i.toNat, by omega⟩
  have hk : k < xs.length := by omega
  exact ⟨xs[k], atI_nat (List.getElem?_eq_getElem hk), List.getElem_mem hk⟩
section
variable {P : Program} {w : World} {K : PySem.W.Frag} {mg : Str → Option Value} {base : Heap}
abbrev slValue : Stmt := top 24
theorem sclValue : FnScope ["_law_pool_here", "_law_choice", "_law_number_here", "_law_small", "_law_word"] ["_law_pool_here"] (defScope slValue) := ⟨rfl, rfl, rfl, by decide +kernel, rfl, by decide +kernel, by decide +kernel⟩
theorem ok_value {f : Addr} {fd : FuncData} (F : Fun K "_law_value" "_law_value" slValue f fd) (T : Bt mg) (DD : Df P w K mg base CX0 "_law_draw" 2 ["_law_pool_here", "_law_size"] spDraw) (DN : Df P w K mg base CX0 "_law_number" 3 ["_law_pool_here", "_law_parts"] spNum) :
    FnOk P w K mg base CX0 4 f fd ["_law_pool_here"] spValue := by
  refine F.ok sclValue (fun vs H Q E h => ?_) (fun cdv A outer s H vs Q E hr h => ?_)
  · obtain ⟨p, c, ns, rfl, _⟩ := h
    rfl
  · obtain ⟨p, c, ns, rfl, pl, k⟩ := h
    refine ⟨_, (pss_cons (ps_set (i := 1) sclValue.nd rfl (Or.inl rfl) (pe_df DD hr (by decide) (pa_cons (pv 0) (pa_cons pe_int pa_nil))))
  (pss_cons (ps_set (i := 2) sclValue.nd rfl (Or.inl rfl) (pe_op op_sub (pe_df DN hr (by decide) (pa_cons (pv 0) (pa_cons pe_int pa_nil))) (pe_op op_mul pe_int (pe_op op_pow pe_int pe_int))))
  (pss_cons (ps_set (i := 3) sclValue.nd rfl (Or.inl rfl) (pe_op op_sub (pe_df DD hr (by decide) (pa_cons (pv 0) (pa_cons pe_int pa_nil))) pe_int))
  (pss_cons (ps_set (i := 4) sclValue.nd rfl (Or.inl rfl) (pe_ix ix_list (pe_lst (pa_cons pe_str (pa_cons pe_str (pa_cons pe_str (pa_cons pe_str (pa_cons pe_str (pa_cons pe_str (pa_cons pe_str (pa_cons pe_str pa_nil))))))))) (pe_df DD hr (by decide) (pa_cons (pv 0) (pa_cons pe_int pa_nil))) (fun _ _ => rfl)))
  (pss_one (ps_ret (pe_ix ix_list (pe_lst (pa_cons (pv 2) (pa_cons (pv 3) (pa_cons pe_bl (pa_cons pe_bl (pa_cons pe_non (pa_cons (pv 4) (pa_cons (pe_lst (pa_cons (pv 3) pa_nil)) (pa_cons (pe_tup (pa_cons (pv 3) pa_nil)) (pa_cons (pe_lst (pa_cons (pv 4) pa_nil)) (pa_cons (pe_callTy call_str_int (by rfl) T.str (by decide +kernel) (pa_cons (pv 3) pa_nil)) (pa_cons (pe_disp (pps_cons pe_int (pv 3) pps_nil) (by rfl) (by rfl) (fun z => by cases z) (by decide)) pa_nil)))))))))))) (pv 1) (fun _ _ => rfl)))))))), ?_⟩
    walk_at "rd"
    refine ⟨p, c, ns, 11, rfl, pl, by decide, by decide, fun r1 H1 a0 a1 k1 p1 => ?_⟩
    walk_at "rd"
    refine ⟨p, c, ns, 5, rfl, p1, by decide, by decide, fun r2 H2 b0 b1 k2 p2 => ?_⟩
    walk_at "rd"
    refine ⟨p, c, ns, 7, rfl, p2, by decide, by decide, fun r3 H3 c0 c1 k3 p3 => ?_⟩
    walk_at "rd"
    refine ⟨by show 8 ≤ sizeLine; decide, fun q hq => ?_⟩
    have pq : PoolAt (upd H3 q (.lst [.str "even", .str "stock", .str "wish", .str "any", .str "Even", .str "", .str "anything", .str "stocks"])) p c ns := by
      obtain ⟨a, b, z, n, ha, hP, hC⟩ := p3
      exact ⟨a, b, z, n, ha, by rw [upd_ne (ne_of_none hP hq)]; exact hP, by rw [upd_ne (ne_of_none hC hq)]; exact hC⟩
    have nqp : q ≠ p := by
      obtain ⟨a, b, z, n, ha, hP, hC⟩ := p3
      exact fun e => by rw [e, hP] at hq; cases hq
    walk_at "rd"
    refine ⟨p, c, ns, 8, rfl, pq, by decide, by decide, fun r4 H4 d0 d1 k4 p4 => ?_⟩
    obtain ⟨wd, hw, mw⟩ := atI_lt (xs := [V.str "even", .str "stock", .str "wish", .str "any", .str "Even", .str "", .str "anything", .str "stocks"]) d0 d1
    obtain ⟨z, rfl⟩ : ∃ z, wd = .str z := by
      simp only [List.mem_cons, List.not_mem_nil, or_false] at mw
      rcases mw with rfl | rfl | rfl | rfl | rfl | rfl | rfl | rfl <;> exact ⟨_, rfl⟩
    refine r_ixL (SqL.of (k4 q _ nqp upd_same)) hw ?_
    have kk : Keep p H H4 := k1.trans (k2.trans (k3.trans ((Keep.new Keep.refl hq).trans k4)))
    walk_at "rd"
    refine ⟨by show 1 ≤ sizeLine; decide, fun q1 h1 => ?_⟩
    walk_at "rd"
    refine ⟨by show 1 ≤ sizeLine; decide, fun q2 h2 => ?_⟩
    walk_at "rd"
    refine ⟨by show 1 ≤ sizeLine; decide, fun q3 h3 => ?_⟩
    walk_at "rd"
    refine ⟨_, rfl, log_small (by omega), ?_⟩
    walk_at "rd"
    refine fun q4 h4 => ?_
    refine ⟨V.int (r3 - 3), rfl, upd_same, [(Sum.inl 0, V.int (r3 - 3))], rfl, by show 1 ≤ 15; decide, ?_⟩
    walk_at "rd"
    refine ⟨by show 11 ≤ sizeLine; decide, fun q5 h5 => ?_⟩
    walk_at "rd"
    obtain ⟨v, hv, mv⟩ := atI_lt (xs := [V.int (r2 - 5 * 10 ^ Int.toNat 29), .int (r3 - 3), .bl true, .bl false, .non, .str z, .ref q1, .ref q2, .ref q3, .str (toString (r3 - 3)), .ref q4]) a0 a1
    refine r_ixL (SqL.of upd_same) hv ?_
    have pool4 : ∀ {q : Addr} {o : HO} {H' : Hp}, PoolAt H' p c ns → H' q = none → PoolAt (upd H' q o) p c ns := fun {q o H'} h n => h.new n
    have e1 := p4.new (o := .lst [V.int (r3 - 3)]) h1
    have e2 := e1.new (o := .tup [V.int (r3 - 3)]) h2
    have e3 := e2.new (o := .lst [V.str z]) h3
    rw [upd_upd] at h5 ⊢
    have e4 := e3.new (o := .dK (mergeK [] [(Sum.inl 0, V.int (r3 - 3))])) h4
    have e5 := e4.new (o := .lst [V.int (r2 - 5 * 10 ^ Int.toNat 29), .int (r3 - 3), .bl true, .bl false, .non, .str z, .ref q1, .ref q2, .ref q3, .str (toString (r3 - 3)), .ref q4]) h5
    refine k v _ (kk.trans (Keep.new (Keep.new (Keep.new (Keep.new (Keep.new Keep.refl h1) h2) h3) h4) h5)) e5 ?_
    have n1 : q1 ≠ p := p4.apart h1
    have n2 : q2 ≠ p := e1.apart h2
    have n3 : q3 ≠ p := e2.apart h3
    have n4 : q4 ≠ p := e3.apart h4
    simp only [List.mem_cons, List.not_mem_nil, or_false] at mv
    have g1 : upd H4 q1 (.lst [V.int (r3 - 3)]) q1 = some (.lst [V.int (r3 - 3)]) := upd_same
    rcases mv with rfl | rfl | rfl | rfl | rfl | rfl | rfl | rfl | rfl | rfl | rfl
    · exact .int _
    · exact .int _
    · exact .bl _
    · exact .bl _
    · exact .non
    · exact .str _
    · exact .lst n1 (later (later (later (later upd_same h2) h3) h4) h5)
    · exact .tup n2 (later (later (later upd_same h3) h4) h5)
    · exact .lst n3 (later (later upd_same h4) h5)
    · exact .str _
    · exact .dct n4 (later upd_same h5)

/-- suits as it stands: by keyword, and by its default -/
structure Ds (P : Program) (w : World) (K : PySem.W.Frag) (mg : Str → Option Value) (base : Heap) (k : Nat) (sp : Sp) (f : Addr) (fd : FuncData) : Prop where
  at_ : mg "suits" = some (.ref f)
  kp : PySem.W.keepIn K (.ref f) = true
  ok : FnOk P w K mg base (L2.CX P w) k f fd ["amounts", "kind"] sp
  kb : KBn K fd ["amounts", "kind"] 1 ["kind"] (fun us ws => us ++ ws) (fun vs zs => vs ++ zs)
  dd : ∃ ds, Vals [V.str "even"] ds ∧ Binds K fd ["amounts", "kind"] ds
/-- _law_refused(amounts, value) -/
def spRefused (Am : Hp → Addr → Int → Prop) : Sp := fun vs H Q _ => ∃ (a p : Addr) (n : Int) (v : V), vs = [.ref a, v] ∧ Am H a n ∧ IvH p H v ∧ (known v = true → Q (.str "") H) ∧ (known v = false → ∀ H', Same H H' → Q (.str "kind") H')
abbrev slRefused : Stmt := top 25
theorem sclRefused : FnScope ["_law_amounts", "_law_value_here", "e"] ["_law_amounts", "_law_value_here"] (defScope slRefused) := ⟨rfl, rfl, rfl, by decide +kernel, rfl, by decide +kernel, by decide +kernel⟩
theorem ok_refused {Am : Hp → Addr → Int → Prop} {k n : Nat} {f fs CB : Addr} {fd fds : FuncData} {spE : Sp} (F : Fun K "_law_refused" "_law_refused" slRefused f fd) (DS : Ds P w K mg base k (spSuits Am CB) fs fds) (EB : De P w K mg base "InvalidBound" n spE CB)
    (free : PySem.W.findIn K (.ref CB) "name" = some none) : FnOk P w K mg base CX0 (k + 1) f fd ["_law_amounts", "_law_value_here"] (spRefused Am) := by
  obtain ⟨fI, EB⟩ := EB
  refine F.ok sclRefused (fun vs H Q E h => ?_) (fun cdv A outer s H vs Q E hr h => ?_)
  · obtain ⟨a, p, n, v, rfl, _⟩ := h
    rfl
  · obtain ⟨a, p, n, v, rfl, ha, hv, k1, k2⟩ := h
    refine ⟨_, (pss_cons (ps_try_as (i := 2) (Wout := fun _ _ _ _ => False) (tb := fun W => tDrop (tKwS 1 1 (spSuits Am CB) (fun vs zs => vs ++ zs) (WE W) (tCons (tVar 0) tNil) (tCons (tVar 1) tNil))) (ts := fun a cls d => tRet (tXf a cls d CB "name" (tVar 2)))
      rfl rfl sclRefused.nd rfl rfl ⟨rfl, by decide, Or.inl EB.at_⟩ takes0
      (fun W pn xe tk _ => pss_one (ps_expr (pe_kwS DS.ok hr DS.at_ DS.kp DS.kb (fun σ => passAt tk σ) (pa_cons (pv 0) pa_nil) (pk_cons (pv 1) pk_nil))))
      (fun a oe cls d pn hz hf => pss_one (ps_ret (pe_xf EB.xf free hz hf (pv 2)))))
      (pss_one (ps_ret pe_str))), ?_⟩
    refine r_seq ?_
    refine r_drop ?_
    refine r_kwS ?_
    walk_at "rd"
    refine ⟨rfl, rfl, a, p, n, v, rfl, ha, hv, fun h => ?_, fun h d H' s e1 e2 => ?_⟩
    · walk_at "rd"
      exact k1 h
    · refine ⟨true, EB.xm, fun _ a0 _ => ?_, fun q => Bool.noConfusion q⟩
      refine r_ret ?_
      refine ⟨_, rfl, rfl, rfl, d, _, _, rfl, e2, look1 _ _, ?_⟩
      exact k2 h _ s
end
end Pk
set_option Elab.async false
set_option linter.all false
set_option maxRecDepth 100000
set_option maxHeartbeats 4000000
namespace Pk
open PySem L2
local macro_rules | `(tactic| walk_at "rd") => `(tactic| repeat (first
  | with_reducible refine r_seq ?_ | with_reducible refine r_nxt ?_ | with_reducible refine r_asg ?_ | with_reducible refine r_to ?_ | with_reducible refine r_ret ?_ | with_reducible refine r_for ?_ | with_reducible refine r_lc ?_ | with_reducible refine r_rng1 ?_ | with_reducible refine r_list ?_ | with_reducible refine r_tupI ?_ | with_reducible refine r_drop ?_ | with_reducible refine r_ifs ?_
  | with_reducible refine r_op ?_ | with_reducible refine r_c ?_ | with_reducible refine r_var rfl ?_ | with_reducible refine r_I0 ?_ | with_reducible refine r_un ?_ | with_reducible refine r_U ?_ | with_reducible refine r_make ?_ | with_reducible refine r_sub ?_
  | with_reducible refine r_nil ?_ | with_reducible refine r_cons ?_ | with_reducible refine r_cb ?_ | with_reducible refine r_sl ?_ | with_reducible refine r_noP ?_ | with_reducible refine r_part ?_ | with_reducible refine r_isI ?_ | with_reducible refine r_lst ?_ | with_reducible refine r_tup ?_ | with_reducible refine r_call ?_
  | with_reducible refine r_test ?_ | with_reducible refine r_B ?_ | with_reducible refine r_and ?_ | with_reducible refine r_or ?_ | with_reducible refine r_not ?_ | with_reducible refine r_andV ?_ | with_reducible refine r_orV ?_ | with_reducible refine r_notV ?_ | with_reducible refine r_bl ?_ | with_reducible refine r_yes ?_ | with_reducible refine r_int ?_ | with_reducible refine r_is0 ?_ | with_reducible refine r_is1 ?_ | with_reducible refine iteT ?_ | with_reducible refine iteF ?_ | with_reducible refine ite_nF ?_ | with_reducible refine ite_nT ?_
  | with_reducible refine r_mod (by decide) ?_ | with_reducible refine r_div (by decide) (by decide) ?_ | with_reducible refine r_mulR (by decide) (by decide) ?_ | with_reducible refine r_mulL (by decide) (by decide) ?_ | with_reducible refine r_pow (by decide) (by decide) (by decide) ?_))

section
variable {K : PySem.W.Frag} {p q : Addr} {H : Hp} {Q : VK} {v : V}
/-- a number, a truth, none, a string are the same as themselves -/
theorem r_sameB (b : Bool) {n : Nat} {E : XK} (h : Q (.bl true) H) : spSame K n [.bl b, .bl b] H Q E := ⟨_, _, .bool b, rfl, .bl b, .bl b, .bl b, h⟩
theorem in_kinds {x : V} {xs : List V} (hs : SqL K H p xs) (fx : flatV x = true) (fs : xs.all flatV = true) (h : Q (.bl (inV x xs)) H) : rIn K false x (.ref p) H Q := ⟨p, xs, rfl, .inl hs, fx, fs, h⟩
end
/-- Amounts(stocks, wishes) -/
def spAmInit (C : Addr) (Am : Hp → Addr → Int → Prop) : Sp := fun vs H Q _ => ∃ (x dx a b : Addr) (ms ns : List Int), vs = [.ref x, .ref a, .ref b] ∧ H x = some (.ins C dx []) ∧ H dx = some (.own x) ∧ dx ≠ x ∧
  H a = some (.lst (ms.map V.int)) ∧ H b = some (.lst (ns.map V.int)) ∧ 0 < ms.length ∧ ms.length ≤ 8 ∧ 0 < ns.length ∧ ns.length ≤ 8 ∧ (∀ m, m ∈ ms → 0 ≤ m) ∧ (∀ n, n ∈ ns → 0 ≤ n) ∧
  ∀ H' : Hp, (∀ c o, c ≠ x → c ≠ dx → H c = some o → H' c = some o) → Am H' x (ms.sum - ns.sum) → Q .non H'
structure LD (P : Program) (w : World) (K : PySem.W.Frag) (mg : Str → Option Value) (base : Heap) (Am : Hp → Addr → Int → Prop) (aK CA CB fs : Addr) (fds : FuncData) : Prop where
  lPool : Df P w K mg base CX0 "_law_pool" 1 ["_law_script"] (spPool K)
  lValue : Df P w K mg base CX0 "_law_value" 4 ["_law_pool_here"] spValue
  lDraw : Df P w K mg base CX0 "_law_draw" 2 ["_law_pool_here", "_law_size"] spDraw
  lNumber : Df P w K mg base CX0 "_law_number" 3 ["_law_pool_here", "_law_parts"] spNum
  lSame : Df P w K mg base CX0 "_law_same" 2 ["_law_actual", "_law_due"] (spSame K 1)
  lRefused : Df P w K mg base CX0 "_law_refused" 11 ["_law_amounts", "_law_value_here"] (spRefused Am)
  isInteger : Df P w K mg base CX0 "is_integer" 1 ["value"] spIsInt
  isBetween : Df P w K mg base CX0 "is_between" 2 ["value", "low", "high"] spBetween
  isKind : Df P w K mg base CX0 "is_kind" 1 ["value"] spIsKind
  ds : Ds P w K mg base 10 (spSuits Am CB) fs fds
  ka : Dk P w K mg base (L2.CX P w) "Amounts" 10 ["self", "stocks", "wishes"] (spAmInit CA Am) CA
  kin : mg "KINDS" = some (.ref aK)
  tup : ∀ H, SqT K H aK kinds
  new : ∀ {H : Hp} {a q : Addr} {n : Int} {o : HO}, Am H a n → H q = none → Am (upd H q o) a n
def spLaw (K : PySem.W.Frag) : Sp := fun vs H Q _ => ∃ (l : Addr) (ns : List Int), vs = [.ref l] ∧ SqL K H l (ns.map V.int) ∧ ns.length ≤ 63 ∧ ∀ H' : Hp, Q (.bl true) H'
abbrev slaw : Stmt := top 26
theorem sclaw : FnScope ["_law_script", "_law_pool_here", "_law_value_here", "_law_low", "_law_high", "_law_whole", "_law_inside", "_law_kinds", "_law_known", "_law_stocks", "_law_wishes", "_law_over", "_law_amounts", "_law_due", "_law_k"] ["_law_script"] (defScope slaw) := ⟨rfl, rfl, rfl, by decide +kernel, rfl, by decide +kernel, by decide +kernel⟩
abbrev nmLaw : List Str := ["_law_script", "_law_pool_here", "_law_value_here", "_law_low", "_law_high", "_law_whole", "_law_inside", "_law_kinds", "_law_known", "_law_stocks", "_law_wishes", "_law_over", "_law_amounts", "_law_due", "_law_k"]
abbrev xLaw (P : Program) (w : World) (K : PySem.W.Frag) (mg : Str → Option Value) (base : Heap) (f : Addr) (cdv : Value) (A : Around) (outer : List Env) (s : Shared) (H0 : Hp) (E : XK) : Cx := (cxOf CX0 P w K mg base nmLaw "law" (defScope slaw) f cdv A outer s H0 E).nox
end Pk
set_option Elab.async false
set_option linter.all false
set_option maxRecDepth 100000
set_option maxHeartbeats 4000000
namespace Pk
open PySem L2
local macro_rules | `(tactic| walk_at "rd") => `(tactic| repeat (first
  | with_reducible refine r_seq ?_ | with_reducible refine r_nxt ?_ | with_reducible refine r_asg ?_ | with_reducible refine r_to ?_ | with_reducible refine r_ret ?_ | with_reducible refine r_for ?_ | with_reducible refine r_lc ?_ | with_reducible refine r_rng1 ?_ | with_reducible refine r_list ?_ | with_reducible refine r_tupI ?_ | with_reducible refine r_drop ?_ | with_reducible refine r_ifs ?_
  | with_reducible refine r_op ?_ | with_reducible refine r_c ?_ | with_reducible refine r_var rfl ?_ | with_reducible refine r_var (by assumption) ?_ | with_reducible refine r_I0 ?_ | with_reducible refine r_un ?_ | with_reducible refine r_U ?_ | with_reducible refine r_make ?_ | with_reducible refine r_sub ?_
  | with_reducible refine r_nil ?_ | with_reducible refine r_cons ?_ | with_reducible refine r_cb ?_ | with_reducible refine r_sl ?_ | with_reducible refine r_noP ?_ | with_reducible refine r_part ?_ | with_reducible refine r_isI ?_ | with_reducible refine r_lst ?_ | with_reducible refine r_tup ?_ | with_reducible refine r_call ?_ | with_reducible refine r_callS ?_
  | with_reducible refine r_test ?_ | with_reducible refine r_B ?_ | with_reducible refine r_and ?_ | with_reducible refine r_or ?_ | with_reducible refine r_not ?_ | with_reducible refine r_andV ?_ | with_reducible refine r_orV ?_ | with_reducible refine r_notV ?_ | with_reducible refine r_bl ?_ | with_reducible refine r_yes ?_ | with_reducible refine r_int ?_ | with_reducible refine r_is0 ?_ | with_reducible refine r_is1 ?_ | with_reducible refine iteT ?_ | with_reducible refine iteF ?_ | with_reducible refine ite_nF ?_ | with_reducible refine ite_nT ?_
  | with_reducible refine r_mod (by decide) ?_ | with_reducible refine r_div (by decide) (by decide) ?_ | with_reducible refine r_mulR (by decide) (by decide) ?_ | with_reducible refine r_mulL (by decide) (by decide) ?_ | with_reducible refine r_pow (by decide) (by decide) (by decide) ?_))
theorem iv_str {p : Addr} {H : Hp} (z : Str) : IvH p H (.str z) := .str z
theorem suit0 (n : Int) : suited (.str "even") n = decide (V.int n = V.int 0) := by
  rw [suited, if_pos rfl]
  exact decide_eq_decide.mpr ⟨fun h => by rw [h], fun h => V.int.inj h⟩
theorem suit1 (n : Int) : suited (.str "stock") n = decide (0 ≤ n) := by
  rw [suited, if_neg (by decide), if_pos rfl]
theorem suit2 (n : Int) : suited (.str "wish") n = decide (n ≤ 0) := by
  rw [suited, if_neg (by decide), if_neg (by decide), if_pos rfl]
theorem suit3 (n : Int) : suited (.str "any") n = true := by
  rw [suited, if_neg (by decide), if_neg (by decide), if_neg (by decide)]
section
variable {P : Program} {w : World} {K : PySem.W.Frag} {mg : Str → Option Value} {base : Heap} {Am : Hp → Addr → Int → Prop} {aK CA CB fs f : Addr} {fds : FuncData} {cdv : Value} {A : Around} {outer : List Env} {s : Shared} {H0 : Hp} {E : XK}
theorem tailD (D : LD P w K mg base Am aK CA CB fs fds) (T : Bt mg) (hr : Room 39 (xLaw P w K mg base f cdv A outer s H0 E).A) : ∃ u, PSs (xLaw P w K mg base f cdv A outer s H0 E) ((defBody slaw).drop 21) u ∧
    ∀ {En : Ends} {H : Hp} {p x : Addr} {v : V} {n : Int} {σ : L2.St}, σ[2]? = some (some v) → σ[8]? = some (some (.bl (known v))) → σ[11]? = some (some (.int n)) → σ[12]? = some (some (.ref x)) → IvH p H v → Am H x n → (∀ H', En.rt (.bl true) H') → u En σ H := by
  obtain ⟨ds, dv, db⟩ := D.ds.dd
  refine ⟨_, (pss_cons (ps_if (pt_not (pt_val (pe_df D.lSame hr (by decide) (pa_cons (pe_call D.ds.ok (hr.mono (by decide)) rfl D.ds.at_ D.ds.kp db dv passL (pa_cons (pv 12) pa_nil)) (pa_cons (pe_cmpR op_eq (pv 11) pe_int (nomark _)) pa_nil))))) (pss_one (ps_ret pe_bl)) pss_nil)
    (pss_one (ps_ret (pe_or (pv 8) (pe_one (pe_cmpR op_eq (pe_df D.lRefused hr (by decide) (pa_cons (pv 12) (pa_cons (pv 2) pa_nil))) pe_str (nomark _))))))), ?_⟩
  intro En H p x v n σ e2 e8 e11 e12 hv ha hq
  walk_at "rd"
  refine ⟨x, p, n, _, rfl, ha, .str _, fun _ => ?_, fun h => by cases (show known (.str "even") = false from h)⟩
  rw [suit0 n]
  walk_at "rd"
  refine r_eq rfl ?_
  walk_at "rd"
  refine r_sameB _ ?_
  walk_at "rd"
  by_cases hk : known v = true
  · rw [hk]
    rw [if_pos rfl]
    exact hq _
  · have hk : known v = false := by simpa using hk
    rw [hk, if_neg (by decide)]
    walk_at "rd"
    refine ⟨x, p, n, v, rfl, ha, hv, (fun h => absurd h (by rw [hk]; decide)), fun _ H' _ => ?_⟩
    walk_at "rd"
    refine r_eqT rfl ?_
    exact hq _
theorem kinds_at (n : Int) {i : Nat} (hi : i < 4) : ∃ (z : Str) (b : Bool), atI kinds (i : Int) = some (.str z) ∧ atI [V.bl (decide (V.int n = V.int 0)), .bl (decide (0 ≤ n)), .bl (decide (n ≤ 0)), .bl true] (i : Int) = some (.bl b) ∧ known (.str z) = true ∧ suited (.str z) n = b := by
  rcases (show (i = 0 ∨ i = 1) ∨ (i = 2 ∨ i = 3) by omega) with (rfl | rfl) | (rfl | rfl)
  · exact ⟨_, _, rfl, rfl, by decide, suit0 n⟩
  · exact ⟨_, _, rfl, rfl, by decide, suit1 n⟩
  · exact ⟨_, _, rfl, rfl, by decide, suit2 n⟩
  · exact ⟨_, _, rfl, rfl, by decide, suit3 n⟩
theorem tailC (D : LD P w K mg base Am aK CA CB fs fds) (T : Bt mg) (hr : Room 39 (xLaw P w K mg base f cdv A outer s H0 E).A) : ∃ u, PSs (xLaw P w K mg base f cdv A outer s H0 E) ((defBody slaw).drop 19) u ∧
    ∀ {En : Ends} {H : Hp} {p x a7 : Addr} {v : V} {n : Int} {y0 y1 y3 y4 y5 y6 y9 y10 y13 y14 : Option V}, IvH p H v → H a7 = some (.lst kinds) → Am H x n → (∀ H', En.rt (.bl true) H') →
      u En [y0, y1, some v, y3, y4, y5, y6, some (.ref a7), some (.bl (known v)), y9, y10, some (.int n), some (.ref x), y13, y14] H := by
  obtain ⟨u, hu, ru⟩ := tailD (f := f) (cdv := cdv) (A := A) (outer := outer) (s := s) (H0 := H0) (E := E) D T hr
  refine ⟨_, (pss_cons (ps_set (i := 13) sclaw.nd rfl (Or.inl rfl) (pe_lst (pa_cons (pe_cmpR op_eq (pv 11) pe_int (nomark _)) (pa_cons (pe_cmpR op_ge (pv 11) pe_int (nomark _)) (pa_cons (pe_cmpR op_le (pv 11) pe_int (nomark _)) (pa_cons pe_bl pa_nil))))))
    (pss_cons (ps_for PassesOwn.never rfl (pi_range1 rfl T.range (pa_cons pe_int pa_nil)) (pg_name (i := 14) sclaw.nd rfl (Or.inl rfl)) (pss_one (ps_if (PW.pt (pw_or (pt_not (pt_val (pe_df D.lSame hr (by decide) (pa_cons (pe_callN D.ds.ok (hr.mono (by decide)) rfl D.ds.at_ D.ds.kp D.ds.kb passL (pa_cons (pv 12) pa_nil) (pk_cons (pe_ix ix_list (pv 7) (pv 14) (fun _ _ => rfl)) pk_nil)) (pa_cons (pe_ix ix_list (pv 13) (pv 14) (fun _ _ => rfl)) pa_nil)))))
      (pw_or1 (pt_not (pt_val (pe_df D.lSame hr (by decide) (pa_cons (pe_df D.isKind hr (by decide) (pa_cons (pe_ix ix_list (pv 7) (pv 14) (fun _ _ => rfl)) pa_nil)) (pa_cons pe_bl pa_nil)))))))) (pss_one (ps_ret pe_bl)) pss_nil)))
    hu)), ?_⟩
  intro En H p x a7 v n y0 y1 y3 y4 y5 y6 y9 y10 y13 y14 hv h7 ha hq
  walk_at "rd"
  refine r_eq rfl ?_
  walk_at "rd"
  refine ⟨by show 4 ≤ sizeLine; decide, fun q h13 => ?_⟩
  walk_at "rd"
  refine ⟨4, rfl, by decide, by decide, for_range (lo := 0) (n := 4) (fun i σ H' => ∃ (v14 : Option V), σ = [y0, y1, some v, y3, y4, y5, y6, some (.ref a7), some (.bl (known v)), y9, y10, some (.int n), some (.ref x), some (.ref q), v14] ∧ H' = upd H q (HO.lst [V.bl (decide (V.int n = V.int 0)), .bl (decide (0 ≤ n)), .bl (decide (n ≤ 0)), .bl true])) ⟨y14, rfl, rfl⟩ ?_ ?_⟩
  · rintro i σ H' hi ⟨v14, rfl, rfl⟩
    obtain ⟨z, b, hz, hb, kz, sz⟩ := kinds_at n hi
    have hS : SqL K (upd H q (HO.lst [V.bl (decide (V.int n = V.int 0)), .bl (decide (0 ≤ n)), .bl (decide (n ≤ 0)), .bl true])) a7 kinds := SqL.of (later h7 h13)
    have ei : ((0 : Int) + (i : Int)) = (i : Int) := Int.zero_add _
    walk_at "rd"
    rw [ei]
    have hT : SqL K (upd H q (HO.lst [V.bl (decide (V.int n = V.int 0)), .bl (decide (0 ≤ n)), .bl (decide (n ≤ 0)), .bl true])) q [V.bl (decide (V.int n = V.int 0)), .bl (decide (0 ≤ n)), .bl (decide (n ≤ 0)), .bl true] := SqL.of upd_same
    refine r_callN ?_
    walk_at "rd"
    refine r_ixL hS hz ?_
    walk_at "rd"
    refine ⟨rfl, rfl, x, p, n, _, rfl, D.new ha h13, .str z, fun _ => ?_, fun h => absurd h (by rw [kz]; decide)⟩
    rw [sz]
    walk_at "rd"
    refine r_ixL hT hb ?_
    walk_at "rd"
    refine r_sameB _ ?_
    walk_at "rd"
    refine r_ixL hS hz ?_
    walk_at "rd"
    refine ⟨p, _, rfl, .str z, ?_⟩
    rw [kz]
    walk_at "rd"
    refine r_sameB _ ?_
    walk_at "rd"
    exact ⟨_, rfl, rfl⟩
  · rintro σ H' ⟨v14, rfl, rfl⟩
    walk_at "rd"
    exact ru rfl rfl rfl rfl (hv.keep (Keep.new Keep.refl h13)) (D.new ha h13) hq
end
end Pk
set_option Elab.async false
set_option linter.all false
set_option maxRecDepth 100000
set_option maxHeartbeats 4000000
namespace Pk
open PySem L2
local macro_rules | `(tactic| walk_at "rd") => `(tactic| repeat (first
  | with_reducible refine r_seq ?_ | with_reducible refine r_nxt ?_ | with_reducible refine r_asg ?_ | with_reducible refine r_to ?_ | with_reducible refine r_ret ?_ | with_reducible refine r_for ?_ | with_reducible refine r_lc ?_ | with_reducible refine r_rng1 ?_ | with_reducible refine r_list ?_ | with_reducible refine r_tupI ?_ | with_reducible refine r_drop ?_ | with_reducible refine r_ifs ?_
  | with_reducible refine r_op ?_ | with_reducible refine r_c ?_ | with_reducible refine r_var rfl ?_ | with_reducible refine r_var (by assumption) ?_ | with_reducible refine r_I0 ?_ | with_reducible refine r_un ?_ | with_reducible refine r_U ?_ | with_reducible refine r_make ?_ | with_reducible refine r_sub ?_
  | with_reducible refine r_nil ?_ | with_reducible refine r_cons ?_ | with_reducible refine r_cb ?_ | with_reducible refine r_sl ?_ | with_reducible refine r_noP ?_ | with_reducible refine r_part ?_ | with_reducible refine r_isI ?_ | with_reducible refine r_lst ?_ | with_reducible refine r_tup ?_ | with_reducible refine r_call ?_ | with_reducible refine r_callS ?_
  | with_reducible refine r_test ?_ | with_reducible refine r_B ?_ | with_reducible refine r_and ?_ | with_reducible refine r_or ?_ | with_reducible refine r_not ?_ | with_reducible refine r_andV ?_ | with_reducible refine r_orV ?_ | with_reducible refine r_notV ?_ | with_reducible refine r_bl ?_ | with_reducible refine r_yes ?_ | with_reducible refine r_int ?_ | with_reducible refine r_is0 ?_ | with_reducible refine r_is1 ?_ | with_reducible refine iteT ?_ | with_reducible refine iteF ?_ | with_reducible refine ite_nF ?_ | with_reducible refine ite_nT ?_
  | with_reducible refine r_mod (by decide) ?_ | with_reducible refine r_div (by decide) (by decide) ?_ | with_reducible refine r_mulR (by decide) (by decide) ?_ | with_reducible refine r_mulL (by decide) (by decide) ?_ | with_reducible refine r_pow (by decide) (by decide) (by decide) ?_))
theorem Keep.over {p q : Addr} {H H1 : Hp} {o : HO} (a : Keep p H H1) (hq : H q = none) : Keep p H (upd H1 q o) := fun c v n h => by
  rw [upd_ne (ne_of_none h hq)]; exact a c v n h
theorem five (v : V) {r : Int} (h0 : 0 ≤ r) (h1 : r < 5) (h : atI [V.int 0, .int 1, .int (-1), .int (10 ^ Int.toNat 20), .int (-10 ^ Int.toNat 20)] r = some v) : ∃ n : Int, v = .int n := by
  obtain ⟨u, hu, mu⟩ := atI_lt (xs := [V.int 0, .int 1, .int (-1), .int (10 ^ Int.toNat 20), .int (-10 ^ Int.toNat 20)]) h0 h1
  rw [h] at hu
  obtain rfl := Option.some.inj hu
  simp only [List.mem_cons, List.not_mem_nil, or_false] at mu
  rcases mu with rfl | rfl | rfl | rfl | rfl <;> exact ⟨_, rfl⟩
theorem head_add {ms : List Int} {n : Int} (h : 0 < ms.length) : ∃ m r, ms = m :: r := by
  cases ms with
  | nil => exact absurd h (Nat.lt_irrefl 0)
  | cons m r => exact ⟨m, r, rfl⟩
theorem at0 (m : Int) (rs : List Int) : atI ((m :: rs).map V.int) 0 = some (V.int m) := atI_nat (j := 0) rfl
theorem ix0 (m : Int) (rs : List Int) : ixN ((m :: rs).map V.int).length 0 = some 0 := ixN_nat (j := 0) (by simp)
theorem sum_zeros (j : Nat) (S : Int) : (List.replicate j (0 : Int) ++ [S]).sum = S := by
  induction j with
  | zero => simp
  | succ j ih => rw [List.replicate_succ, List.cons_append, List.sum_cons, ih, Int.zero_add]
theorem r_max {K : PySem.W.Frag} {H : Hp} {Q : VK} {l : Addr} {ns : List Int} (hl : SqL K H l (ns.map V.int)) (h0 : 0 < ns.length) (h : ∀ m, m ∈ ns → (∀ y, y ∈ ns → y ≤ m) → Q (.int m) H) : rMax K [.ref l] H Q := ⟨l, ns, rfl, hl, h0, h⟩
section
variable {P : Program} {w : World} {K : PySem.W.Frag} {mg : Str → Option Value} {base : Heap} {Am : Hp → Addr → Int → Prop} {aK CA CB fs f : Addr} {fds : FuncData} {cdv : Value} {A : Around} {outer : List Env} {s : Shared} {H0 : Hp} {E : XK}
/-- from the second list's last on -/
theorem tailB3 (D : LD P w K mg base Am aK CA CB fs fds) (T : Bt mg) (hr : Room 39 (xLaw P w K mg base f cdv A outer s H0 E).A) : ∃ u, PSs (xLaw P w K mg base f cdv A outer s H0 E) ((defBody slaw).drop 17) u ∧
    ∀ {En : Ends} {H1 H : Hp} {p a7 a9 a10 : Addr} {ms : List Int} {S n : Int} {j : Nat} {v : V} {y0 y3 y4 y5 y6 y12 y13 y14 : Option V}, IvH p H1 v → H1 a7 = some (.lst kinds) → a7 ≠ p → H1 a9 = none → H1 a10 = none → Keep p H1 H → a9 ≠ a10 → a9 ≠ p → a10 ≠ p →
      H a9 = some (.lst (ms.map V.int)) → H a10 = some (.lst ((List.replicate j (0 : Int) ++ [S]).map V.int)) → (∀ m, m ∈ ms → 0 ≤ m) → 0 ≤ S → 0 < ms.length → ms.length ≤ 8 → j < 8 → (0 < n → ms.sum = S + n) → (n ≤ 0 → ms.sum = S) → (∀ H', En.rt (.bl true) H') →
      u En [y0, some (.ref p), some v, y3, y4, y5, y6, some (.ref a7), some (.bl (known v)), some (.ref a9), some (.ref a10), some (.int n), y12, y13, y14] H := by
  obtain ⟨u, hu, ru⟩ := tailC (f := f) (cdv := cdv) (A := A) (outer := outer) (s := s) (H0 := H0) (E := E) D T hr
  refine ⟨_, (pss_cons (ps_asg (pe_op op_add (pe_ix ix_list (pv 10) (pe_un un_neg pe_int) (fun _ _ => rfl)) (pe_callB (cr_max rfl) (by rfl) T.max (by decide +kernel) (pa_cons (pe_lst (pa_cons pe_int (pa_cons (pe_un un_neg (pv 11)) pa_nil))) pa_nil))) (pg_sub (pv 10) (pe_un un_neg pe_int) set_list))
    (pss_cons (ps_set (i := 12) sclaw.nd rfl (Or.inl rfl) (pe_dkL D.ka hr (by decide) (pa_cons (pv 9) (pa_cons (pv 10) pa_nil))))
    hu)), ?_⟩
  intro En H1 H p a7 a9 a10 ms S n j v y0 y3 y4 y5 y6 y12 y13 y14 hv h7 n7 z9 z10 kk n910 n9 n10 h9 h10 h0 hS hl0 hl8 hj e1 e2 hq
  have h10' : H a10 = some (.lst ((List.replicate j (0 : Int)).map V.int ++ [V.int S])) := by
    rw [h10, List.map_append]; rfl
  have hix : ixN ((List.replicate j (0 : Int)).map V.int ++ [V.int S]).length (-1) = some ((List.replicate j (0 : Int)).map V.int).length := ixN_last _ _
  have hat : atI ((List.replicate j (0 : Int)).map V.int ++ [V.int S]) (-1) = some (V.int S) := by
    rw [atI, hix]
    simp
  walk_at "rd"
  refine r_ixL (SqL.of h10') hat ?_
  walk_at "rd"
  refine ⟨by show 2 ≤ sizeLine; decide, fun q hq2 => ?_⟩
  walk_at "rd"
  refine r_max (ns := [0, -n]) (SqL.of upd_same) (by show 0 < 2; decide) (fun m hm hm2 => ?_)
  have l10 := later (u := .lst [V.int 0, .int (-n)]) h10' hq2
  have l9 := later (u := .lst [V.int 0, .int (-n)]) h9 hq2
  walk_at "rd"
  refine r_setL l10 hix ?_
  rw [set_last]
  walk_at "rd"
  intro x dx hx hdx ndx
  have hm0 : 0 ≤ m := hm2 0 (by simp)
  have hmn : -n ≤ m := hm2 (-n) (by simp)
  have hmm : m = 0 ∨ m = -n := by simpa using hm
  have u9 : upd (upd H q (HO.lst [V.int 0, V.int (-n)])) a10 (HO.lst (List.map V.int (List.replicate j 0) ++ [V.int (S + m)])) a9 = some (.lst (ms.map V.int)) := by
    rw [upd_ne n910]; exact l9
  have u10 : upd (upd H q (HO.lst [V.int 0, V.int (-n)])) a10 (HO.lst (List.map V.int (List.replicate j 0) ++ [V.int (S + m)])) a10 = some (.lst ((List.replicate j (0 : Int) ++ [S + m]).map V.int)) := by
    rw [upd_same, List.map_append]; rfl
  have K3 : Keep p H1 (upd (upd H q (HO.lst [V.int 0, V.int (-n)])) a10 (HO.lst (List.map V.int (List.replicate j 0) ++ [V.int (S + m)]))) := (kk.new hq2).over z10
  generalize upd (upd H q (HO.lst [V.int 0, V.int (-n)])) a10 (HO.lst (List.map V.int (List.replicate j 0) ++ [V.int (S + m)])) = H3 at *
  have hx3 : upd H3 dx (.own x) x = none := by rw [upd_ne ndx.symm]; exact hx
  refine ⟨x, dx, a9, a10, ms, List.replicate j 0 ++ [S + m], rfl, upd_same, later upd_same hx3, ndx, later (later u9 hdx) hx3, later (later u10 hdx) hx3, hl0, hl8, by simp, ?_, h0, ?_, fun H4 hk ha => ⟨rfl, ?_⟩⟩
  · rw [List.length_append, List.length_replicate]; exact hj
  · intro y hy
    rcases List.mem_append.mp hy with hy | hy
    · exact Int.le_of_eq (List.mem_replicate.mp hy).2.symm
    · rw [List.mem_singleton.mp hy]; omega
  · rw [sum_zeros] at ha
    have en : ms.sum - (S + m) = n := by
      rcases Int.lt_or_le 0 n with h | h
      · have := e1 h
        omega
      · have := e2 h
        omega
    rw [en] at ha
    have K4 : Keep p H1 H4 := fun c o nc h => by
      have e3 := K3 _ _ nc h
      have cx : c ≠ x := fun z => by rw [z, hx] at e3; cases e3
      have cd : c ≠ dx := fun z => by rw [z, hdx] at e3; cases e3
      exact hk _ _ cx cd (later (later e3 hdx) hx3)
    exact ru (hv.keep K4) (K4 _ _ n7 h7) ha hq
/-- from the excess on -/
theorem sum_pos : ∀ {ms : List Int}, (∀ m, m ∈ ms → 0 ≤ m) → 0 ≤ ms.sum
  | [], _ => Int.le_refl 0
  | m :: r, h => by
    have a := h m (by simp)
    have b := sum_pos (ms := r) fun y z => h y (by simp [z])
    rw [List.sum_cons]; omega
theorem tailB2 (D : LD P w K mg base Am aK CA CB fs fds) (T : Bt mg) (hr : Room 39 (xLaw P w K mg base f cdv A outer s H0 E).A) : ∃ u, PSs (xLaw P w K mg base f cdv A outer s H0 E) ((defBody slaw).drop 15) u ∧
    ∀ {En : Ends} {H1 H : Hp} {p c a7 a9 a10 : Addr} {ns ms : List Int} {j : Nat} {v : V} {y0 y3 y4 y5 y6 y11 y12 y13 y14 : Option V}, PoolAt H p c ns → IvH p H1 v → H1 a7 = some (.lst kinds) → a7 ≠ p → H1 a9 = none → H1 a10 = none → Keep p H1 H → a9 ≠ a10 → a9 ≠ p → a10 ≠ p →
      H a9 = some (.lst (ms.map V.int)) → H a10 = some (.lst ((List.replicate j (0 : Int) ++ [ms.sum]).map V.int)) → (∀ m, m ∈ ms → 0 ≤ m) → 0 < ms.length → ms.length ≤ 8 → j < 8 → (∀ H', En.rt (.bl true) H') →
      u En [y0, some (.ref p), some v, y3, y4, y5, y6, some (.ref a7), some (.bl (known v)), some (.ref a9), some (.ref a10), y11, y12, y13, y14] H := by
  obtain ⟨u, hu, ru⟩ := tailB3 (f := f) (cdv := cdv) (A := A) (outer := outer) (s := s) (H0 := H0) (E := E) D T hr
  refine ⟨_, (pss_cons (ps_set (i := 11) sclaw.nd rfl (Or.inl rfl) (pe_ix ix_list (pe_lst (pa_cons pe_int (pa_cons pe_int (pa_cons (pe_un un_neg pe_int) (pa_cons (pe_op op_pow pe_int pe_int) (pa_cons (pe_un un_neg (pe_op op_pow pe_int pe_int)) pa_nil)))))) (pe_df D.lDraw hr (by decide) (pa_cons (pv 1) (pa_cons pe_int pa_nil))) (fun _ _ => rfl)))
    (pss_cons (ps_if (pt_cmpR op_gt (pv 11) pe_int (nomark _)) (pss_one (ps_asg (pe_op op_add (pe_ix ix_list (pv 9) pe_int (fun _ _ => rfl)) (pv 11)) (pg_sub (pv 9) pe_int set_list))) pss_nil)
    hu)), ?_⟩
  intro En H1 H p c a7 a9 a10 ns ms j v y0 y3 y4 y5 y6 y11 y12 y13 y14 pl hv h7 n7 z9 z10 kk n910 n9 n10 h9 h10 h0 hl0 hl8 hj hq
  walk_at "rd"
  refine ⟨by show 5 ≤ sizeLine; decide, fun q hq1 => ?_⟩
  walk_at "rd"
  refine ⟨p, c, ns, 5, rfl, pl.new hq1, by decide, by decide, fun r H2 r0 r1 k2 p2 => ?_⟩
  have nq : q ≠ p := pl.apart hq1
  obtain ⟨vn, hvn, _⟩ := atI_lt (xs := [V.int 0, .int 1, .int (-1), .int (10 ^ Int.toNat 20), .int (-10 ^ Int.toNat 20)]) r0 r1
  obtain ⟨n, rfl⟩ := five vn r0 r1 hvn
  refine r_ixL (SqL.of (k2 _ _ nq upd_same)) hvn ?_
  have kk2 : Keep p H1 H2 := (Keep.new kk hq1).trans k2
  have g9 : H2 a9 = some (.lst (ms.map V.int)) := k2 _ _ n9 (later h9 hq1)
  have g10 : H2 a10 = some (.lst ((List.replicate j (0 : Int) ++ [ms.sum]).map V.int)) := k2 _ _ n10 (later h10 hq1)
  have s0 := sum_pos h0
  walk_at "rd"
  refine ite_dec (fun hn => ?_) (fun hn => ?_)
  · obtain ⟨m, rs, rfl⟩ := head_add (n := 0) hl0
    walk_at "rd"
    refine r_ixL (SqL.of g9) (at0 _ _) ?_
    walk_at "rd"
    refine r_setL g9 (ix0 _ _) ?_
    refine ru (ms := (m + n) :: rs) hv h7 n7 z9 z10 (kk2.over z9) n910 n9 n10 (by rw [upd_same]; rfl) (by rw [upd_ne n910.symm]; exact g10) ?_ s0 hl0 hl8 hj (fun _ => ?_) (fun h => absurd hn (by omega)) hq
    · intro y hy
      rcases List.mem_cons.mp hy with rfl | hy
      · have := h0 m (by simp)
        omega
      · exact h0 y (by simp [hy])
    · rw [List.sum_cons, List.sum_cons]; omega
  · walk_at "rd"
    exact ru hv h7 n7 z9 z10 kk2 n910 n9 n10 g9 g10 h0 s0 hl0 hl8 hj (fun h => absurd h hn) (fun _ => rfl) hq
end
end Pk
set_option Elab.async false
set_option linter.all false
set_option maxRecDepth 100000
set_option maxHeartbeats 4000000
namespace Pk
open PySem L2
local macro_rules | `(tactic| walk_at "rd") => `(tactic| repeat (first
  | with_reducible refine r_seq ?_ | with_reducible refine r_nxt ?_ | with_reducible refine r_asg ?_ | with_reducible refine r_to ?_ | with_reducible refine r_ret ?_ | with_reducible refine r_for ?_ | with_reducible refine r_lc ?_ | with_reducible refine r_rng1 ?_ | with_reducible refine r_list ?_ | with_reducible refine r_tupI ?_ | with_reducible refine r_drop ?_ | with_reducible refine r_ifs ?_
  | with_reducible refine r_op ?_ | with_reducible refine r_c ?_ | with_reducible refine r_var rfl ?_ | with_reducible refine r_var (by assumption) ?_ | with_reducible refine r_I0 ?_ | with_reducible refine r_un ?_ | with_reducible refine r_U ?_ | with_reducible refine r_make ?_ | with_reducible refine r_sub ?_
  | with_reducible refine r_nil ?_ | with_reducible refine r_cons ?_ | with_reducible refine r_cb ?_ | with_reducible refine r_sl ?_ | with_reducible refine r_noP ?_ | with_reducible refine r_part ?_ | with_reducible refine r_isI ?_ | with_reducible refine r_lst ?_ | with_reducible refine r_tup ?_ | with_reducible refine r_call ?_ | with_reducible refine r_callS ?_
  | with_reducible refine r_test ?_ | with_reducible refine r_B ?_ | with_reducible refine r_and ?_ | with_reducible refine r_or ?_ | with_reducible refine r_not ?_ | with_reducible refine r_andV ?_ | with_reducible refine r_orV ?_ | with_reducible refine r_notV ?_ | with_reducible refine r_bl ?_ | with_reducible refine r_yes ?_ | with_reducible refine r_int ?_ | with_reducible refine r_is0 ?_ | with_reducible refine r_is1 ?_ | with_reducible refine iteT ?_ | with_reducible refine iteF ?_ | with_reducible refine ite_nF ?_ | with_reducible refine ite_nT ?_
  | with_reducible refine r_mod (by decide) ?_ | with_reducible refine r_div (by decide) (by decide) ?_ | with_reducible refine r_mulR (by decide) (by decide) ?_ | with_reducible refine r_mulL (by decide) (by decide) ?_ | with_reducible refine r_pow (by decide) (by decide) (by decide) ?_))
theorem Keep.free {p q : Addr} {H H1 : Hp} (a : Keep p H H1) (n : q ≠ p) (h : H1 q = none) : H q = none := by
  cases e : H q with
  | none => rfl
  | some o => exact absurd (h.symm.trans (a _ _ n e)) (by simp)
section
variable {P : Program} {w : World} {K : PySem.W.Frag} {mg : Str → Option Value} {base : Heap} {Am : Hp → Addr → Int → Prop} {aK CA CB fs f : Addr} {fds : FuncData} {cdv : Value} {A : Around} {outer : List Env} {s : Shared} {H0 : Hp} {E : XK}
theorem tailB1 (D : LD P w K mg base Am aK CA CB fs fds) (T : Bt mg) (hr : Room 39 (xLaw P w K mg base f cdv A outer s H0 E).A) : ∃ u, PSs (xLaw P w K mg base f cdv A outer s H0 E) ((defBody slaw).drop 13) u ∧
    ∀ {En : Ends} {H : Hp} {p c a7 : Addr} {ns : List Int} {v : V} {y0 y3 y4 y5 y6 y9 y10 y11 y12 y13 y14 : Option V}, PoolAt H p c ns → IvH p H v → H a7 = some (.lst kinds) → a7 ≠ p → (∀ H', En.rt (.bl true) H') →
      u En [y0, some (.ref p), some v, y3, y4, y5, y6, some (.ref a7), some (.bl (known v)), y9, y10, y11, y12, y13, y14] H := by
  obtain ⟨u, hu, ru⟩ := tailB2 (f := f) (cdv := cdv) (A := A) (outer := outer) (s := s) (H0 := H0) (E := E) D T hr
  refine ⟨_, (pss_cons (ps_setLc (i := 9) (own := [("_law_k", 14)]) (g := gName 14) rfl sclaw.nd rfl rfl (sw_true rfl rfl rfl (by decide +kernel)) (pi_range1 rfl T.range (pa_cons (pe_op op_add pe_int (pe_df D.lDraw hr (by decide) (pa_cons (pv 1) (pa_cons pe_int pa_nil)))) pa_nil)) (blkOk_by (own := [("_law_k", 14)]) (N := nmLaw) (sc := defScope slaw) (by decide +kernel)) (fun _ _ _ _ _ => pg_name (i := 14) sclaw.nd rfl (Or.inl rfl)) (fun _ _ _ _ _ => pts_nil) (fun _ _ _ _ _ => (pe_df D.lNumber hr (by decide) (pa_cons (pv 1) (pa_cons pe_int pa_nil)))))
  (pss_cons (ps_set (i := 10) sclaw.nd rfl (Or.inl rfl) (pe_op op_cat (pe_lc (own := [("_law_k", 14)]) (g := gName 14) rfl sclaw.nd (pi_range1 rfl T.range (pa_cons (pe_df D.lDraw hr (by decide) (pa_cons (pv 1) (pa_cons pe_int pa_nil))) pa_nil)) (blkOk_by (own := [("_law_k", 14)]) (N := nmLaw) (sc := defScope slaw) (by decide +kernel)) (fun _ _ _ _ _ => pg_name (i := 14) sclaw.nd rfl (Or.inl rfl)) (fun _ _ _ _ _ => pts_nil) (fun _ _ _ _ _ => pe_int)) (pe_lst (pa_cons (pe_callB (cr_sum rfl) (by rfl) T.sum (by decide +kernel) (pa_cons (pv 9) pa_nil)) pa_nil))))
    hu)), ?_⟩
  intro En H p c a7 ns v y0 y3 y4 y5 y6 y9 y10 y11 y12 y13 y14 pl hv h7 n7 hq
  walk_at "rd"
  refine ⟨p, c, ns, 3, rfl, pl, by decide, by decide, fun r H2 r0 r1 k2 p2 => ?_⟩
  walk_at "rd"
  refine ⟨1 + r, rfl, by omega, by omega, fun L hL => ?_⟩
  have nL : L ≠ p := p2.apart hL
  refine lc_range (lo := 0) (n := (1 + r).toNat) (fun i H' => ∃ ms : List Int, H' L = some (.lst (ms.map V.int)) ∧ ms.length = i ∧ (∀ m, m ∈ ms → 0 ≤ m) ∧ Keep p H H' ∧ PoolAt H' p c ns) ⟨[], upd_same, rfl, by simp, k2.new hL, p2.new hL⟩ (fun i H' hi h => ?_) (fun H' h => ?_)
  · obtain ⟨ms, h1, h2, h3, h4, h5⟩ := h
    walk_at "rd"
    refine ⟨rfl, ?_⟩
    walk_at "rd"
    refine ⟨p, c, ns, 4, rfl, h5, by decide, by decide, fun m H3 m0 m1 k3 p3 => ?_⟩
    have e1 := k3 _ _ nL h1
    refine ⟨_, e1, ?_, ms ++ [m], ?_, ?_, ?_, ?_, ?_⟩
    · rw [List.length_map, h2]
      exact Nat.lt_of_lt_of_le hi (Nat.le_trans (m := 4) (by omega) (by decide))
    · rw [upd_same, List.map_append]; rfl
    · rw [List.length_append, h2]; rfl
    · intro y hy
      rcases List.mem_append.mp hy with hy | hy
      · exact h3 y hy
      · rw [List.mem_singleton.mp hy]; exact m0
    · exact (h4.trans k3).over (k2.free nL hL)
    · obtain ⟨a, b, z, n, ha, hP, hC⟩ := p3
      exact ⟨a, b, z, n, ha, by rw [upd_ne nL.symm]; exact hP, by rw [upd_ne (p2.apartC hL).symm]; exact hC⟩
  · obtain ⟨ms, h1, h2, h3, h4, h5⟩ := h
    have q9 : H L = none := k2.free nL hL
    walk_at "rd"
    refine ⟨p, c, ns, 3, rfl, h5, by decide, by decide, fun r' H3 r0' r1' k3 p3 => ?_⟩
    have e1 := k3 _ _ nL h1
    walk_at "rd"
    refine ⟨r', rfl, by omega, by omega, fun M hM => ?_⟩
    have nM : M ≠ p := p3.apart hM
    have nLM : L ≠ M := ne_of_none e1 hM
    have kM : Keep p H H3 := h4.trans k3
    have q10 : H M = none := kM.free nM hM
    refine lc_range (lo := 0) (n := r'.toNat) (fun i H' => H' M = some (.lst (List.replicate i (V.int 0))) ∧ H' L = some (.lst (ms.map V.int)) ∧ Keep p H H' ∧ PoolAt H' p c ns) ⟨upd_same, later e1 hM, kM.new hM, p3.new hM⟩ (fun i H' hi h => ?_) (fun H' h => ?_)
    · obtain ⟨g1, g2, g3, g4⟩ := h
      walk_at "rd"
      refine ⟨rfl, ?_⟩
      walk_at "rd"
      refine ⟨_, g1, ?_, ?_, ?_, g3.over q10, ?_⟩
      · rw [List.length_replicate]
        exact Nat.lt_of_lt_of_le hi (Nat.le_trans (m := 4) (by omega) (by decide))
      · rw [upd_same, List.replicate_succ']
      · rw [upd_ne nLM]; exact g2
      · obtain ⟨a, b, z, n, ha, hP, hC⟩ := g4
        exact ⟨a, b, z, n, ha, by rw [upd_ne nM.symm]; exact hP, by rw [upd_ne (p3.apartC hM).symm]; exact hC⟩
    · obtain ⟨g1, g2, g3, g4⟩ := h
      walk_at "rd"
      refine r_sum (SqL.of g2) ?_
      walk_at "rd"
      refine ⟨by show 1 ≤ sizeLine; decide, fun q hq1 => ?_⟩
      refine r_cat (later g1 hq1) upd_same ?_ (fun a10 h10 => ?_)
      · rw [List.length_replicate]
        exact Nat.le_trans (m := 4) (by show r'.toNat + 1 ≤ 4; omega) (by decide)
      · walk_at "rd"
        have k9 : Keep p H (upd H' q (HO.lst [V.int ms.sum])) := g3.new hq1
        have p9 := g4.new (o := HO.lst [V.int ms.sum]) hq1
        refine ru (p9.new h10) hv h7 n7 q9 (k9.free (p9.apart h10) h10) (k9.new h10) (ne_of_none (later g2 hq1) h10) nL (p9.apart h10) (later (later g2 hq1) h10) (j := r'.toNat) ?_ h3 ?_ ?_ ?_ hq
        · rw [upd_same, List.map_append, List.map_replicate]; rfl
        · rw [h2]; omega
        · rw [h2]; omega
        · omega
end
end Pk
set_option Elab.async false
set_option linter.all false
set_option maxRecDepth 100000
set_option maxHeartbeats 4000000
namespace Pk
open PySem L2
local macro_rules | `(tactic| walk_at "rd") => `(tactic| repeat (first
  | with_reducible refine r_seq ?_ | with_reducible refine r_nxt ?_ | with_reducible refine r_asg ?_ | with_reducible refine r_to ?_ | with_reducible refine r_ret ?_ | with_reducible refine r_for ?_ | with_reducible refine r_lc ?_ | with_reducible refine r_rng1 ?_ | with_reducible refine r_list ?_ | with_reducible refine r_tupI ?_ | with_reducible refine r_drop ?_ | with_reducible refine r_ifs ?_
  | with_reducible refine r_op ?_ | with_reducible refine r_c ?_ | with_reducible refine r_var rfl ?_ | with_reducible refine r_var (by assumption) ?_ | with_reducible refine r_I0 ?_ | with_reducible refine r_un ?_ | with_reducible refine r_U ?_ | with_reducible refine r_make ?_ | with_reducible refine r_sub ?_
  | with_reducible refine r_nil ?_ | with_reducible refine r_cons ?_ | with_reducible refine r_cb ?_ | with_reducible refine r_sl ?_ | with_reducible refine r_noP ?_ | with_reducible refine r_part ?_ | with_reducible refine r_isI ?_ | with_reducible refine r_lst ?_ | with_reducible refine r_tup ?_ | with_reducible refine r_call ?_ | with_reducible refine r_callS ?_
  | with_reducible refine r_test ?_ | with_reducible refine r_B ?_ | with_reducible refine r_and ?_ | with_reducible refine r_or ?_ | with_reducible refine r_not ?_ | with_reducible refine r_andV ?_ | with_reducible refine r_orV ?_ | with_reducible refine r_notV ?_ | with_reducible refine r_bl ?_ | with_reducible refine r_yes ?_ | with_reducible refine r_int ?_ | with_reducible refine r_is0 ?_ | with_reducible refine r_is1 ?_ | with_reducible refine iteT ?_ | with_reducible refine iteF ?_ | with_reducible refine ite_nF ?_ | with_reducible refine ite_nT ?_
  | with_reducible refine r_mod (by decide) ?_ | with_reducible refine r_div (by decide) (by decide) ?_ | with_reducible refine r_mulR (by decide) (by decide) ?_ | with_reducible refine r_mulL (by decide) (by decide) ?_ | with_reducible refine r_pow (by decide) (by decide) (by decide) ?_))
theorem whole_f {v : V} {lo hi : Int} (h : whole v = false) : inside v lo hi = false := by
  cases v with
  | int i => cases h
  | bl b => rfl
  | non => rfl
  | str z => rfl
  | byt b => rfl
  | flt b => rfl
  | ref a => rfl
  | ty n => rfl
theorem str_of {v : V} (h : isS v = true) : ∃ z, v = .str z := by
  cases v with
  | str z => exact ⟨z, rfl⟩
  | int i => cases h
  | bl b => cases h
  | non => cases h
  | byt b => cases h
  | flt b => cases h
  | ref a => cases h
  | ty n => cases h
section
variable {P : Program} {w : World} {K : PySem.W.Frag} {mg : Str → Option Value} {base : Heap} {Am : Hp → Addr → Int → Prop} {aK CA CB fs f : Addr} {fds : FuncData} {cdv : Value} {A : Around} {outer : List Env} {s : Shared} {H0 : Hp} {E : XK}
theorem tailA3 (D : LD P w K mg base Am aK CA CB fs fds) (T : Bt mg) (hr : Room 39 (xLaw P w K mg base f cdv A outer s H0 E).A) : ∃ u, PSs (xLaw P w K mg base f cdv A outer s H0 E) ((defBody slaw).drop 12) u ∧
    ∀ {En : Ends} {H : Hp} {p c a7 : Addr} {ns : List Int} {v : V} {k : Bool} {y0 y3 y4 y5 y6 y9 y10 y11 y12 y13 y14 : Option V}, PoolAt H p c ns → IvH p H v → k = known v → H a7 = some (.lst kinds) → a7 ≠ p → (∀ H', En.rt (.bl true) H') →
      u En [y0, some (.ref p), some v, y3, y4, y5, y6, some (.ref a7), some (.bl k), y9, y10, y11, y12, y13, y14] H := by
  obtain ⟨u, hu, ru⟩ := tailB1 (f := f) (cdv := cdv) (A := A) (outer := outer) (s := s) (H0 := H0) (E := E) D T hr
  refine ⟨_, (pss_cons (ps_if (pt_not (pt_val (pe_df D.lSame hr (by decide) (pa_cons (pe_df D.isKind hr (by decide) (pa_cons (pv 2) pa_nil)) (pa_cons (pv 8) pa_nil))))) (pss_one (ps_ret pe_bl)) pss_nil)
    hu), ?_⟩
  intro En H p c a7 ns v k y0 y3 y4 y5 y6 y9 y10 y11 y12 y13 y14 pl hv hk h7 n7 hq
  subst hk
  walk_at "rd"
  refine ⟨p, v, rfl, hv, ?_⟩
  walk_at "rd"
  refine r_sameB _ ?_
  walk_at "rd"
  exact ru pl hv h7 n7 hq
theorem tailA2 (D : LD P w K mg base Am aK CA CB fs fds) (T : Bt mg) (hr : Room 39 (xLaw P w K mg base f cdv A outer s H0 E).A) : ∃ u, PSs (xLaw P w K mg base f cdv A outer s H0 E) ((defBody slaw).drop 8) u ∧
    ∀ {En : Ends} {H : Hp} {p c : Addr} {ns : List Int} {v : V} {lo hi : Int} {k : Bool} {y0 y5 y7 y8 y9 y10 y11 y12 y13 y14 : Option V}, PoolAt H p c ns → IvH p H v → k = inside v lo hi → (∀ H', En.rt (.bl true) H') →
      u En [y0, some (.ref p), some v, some (.int lo), some (.int hi), y5, some (.bl k), y7, y8, y9, y10, y11, y12, y13, y14] H := by
  obtain ⟨u, hu, ru⟩ := tailA3 (f := f) (cdv := cdv) (A := A) (outer := outer) (s := s) (H0 := H0) (E := E) D T hr
  refine ⟨_, (pss_cons (ps_if (pt_not (pt_val (pe_df D.lSame hr (by decide) (pa_cons (pe_df D.isBetween hr (by decide) (pa_cons (pv 2) (pa_cons (pv 3) (pa_cons (pv 4) pa_nil)))) (pa_cons (pv 6) pa_nil))))) (pss_one (ps_ret pe_bl)) pss_nil)
  (pss_cons (ps_set (i := 7) sclaw.nd rfl (Or.inl rfl) (pe_lst (pa_cons pe_str (pa_cons pe_str (pa_cons pe_str (pa_cons pe_str pa_nil))))))
  (pss_cons (ps_if (pt_not (pt_val (pe_df D.lSame hr (by decide) (pa_cons (pe_glob (v := .ref aK) (by rfl) D.kin rfl) (pa_cons (pe_tup (pa_cons pe_str (pa_cons pe_str (pa_cons pe_str (pa_cons pe_str pa_nil))))) pa_nil))))) (pss_one (ps_ret pe_bl)) pss_nil)
  (pss_cons (ps_set (i := 8) sclaw.nd rfl (Or.inl rfl) (pe_and (pe_callB call_isi (by rfl) T.isinstance (by decide +kernel) (pa_cons (pv 2) (pa_cons (pe_bltn (v := .ty "str") (by rfl) T.str (by decide +kernel) rfl) pa_nil))) (pe_one (pe_cmpR op_in_seq (pv 2) (pv 7) (by rfl)))))
    hu)))), ?_⟩
  intro En H p c ns v lo hi k y0 y5 y7 y8 y9 y10 y11 y12 y13 y14 pl hv hk hq
  subst hk
  walk_at "rd"
  refine ⟨p, v, lo, hi, rfl, hv, ?_⟩
  walk_at "rd"
  refine r_sameB _ ?_
  walk_at "rd"
  refine ⟨by show 4 ≤ sizeLine; decide, fun a7 h7 => ?_⟩
  walk_at "rd"
  refine ⟨by show 4 ≤ sizeLine; decide, fun q hq1 => ?_⟩
  walk_at "rd"
  have all : ∀ H' : Hp, DpAll K H' kinds [.str "even", .str "stock", .str "wish", .str "any"] := fun H' => .cons (.str _) (.cons (.str _) (.cons (.str _) (.cons (.str _) .nil)))
  refine ⟨.ref aK, .ref q, .tuple [.str "even", .str "stock", .str "wish", .str "any"], rfl, .tup (D.tup _) (all _), .tup (SqT.of upd_same) (all _), .tup (fun d hd => ?_) (by decide), ?_⟩
  · simp only [List.mem_cons, List.not_mem_nil, or_false] at hd
    rcases hd with rfl | rfl | rfl | rfl <;> exact .str _
  walk_at "rd"
  have p7 := (pl.new (o := .lst kinds) h7).new (o := .tup kinds) hq1
  have v7 : IvH p (upd (upd H a7 (.lst kinds)) q (.tup kinds)) v := hv.keep (Keep.new (Keep.new Keep.refl h7) hq1)
  have n7 := pl.apart h7
  have g7 : upd (upd H a7 (.lst kinds)) q (.tup kinds) a7 = some (.lst kinds) := later upd_same hq1
  refine r_isiS v7 ?_
  walk_at "rd"
  by_cases hs : isS v = true
  · rw [if_pos hs]
    obtain ⟨z, rfl⟩ := str_of hs
    walk_at "rd"
    refine in_kinds (SqL.of g7) rfl rfl ?_
    walk_at "rd"
    exact ru p7 v7 (by rw [known, hs]; rfl) g7 n7 hq
  · rw [if_neg hs]
    walk_at "rd"
    exact ru p7 v7 (by rw [known, Bool.eq_false_iff.mpr hs]; rfl) g7 n7 hq
end
end Pk
set_option Elab.async false
set_option linter.all false
set_option maxRecDepth 100000
set_option maxHeartbeats 4000000
namespace Pk
open PySem L2
local macro_rules | `(tactic| walk_at "rd") => `(tactic| repeat (first
  | with_reducible refine r_seq ?_ | with_reducible refine r_nxt ?_ | with_reducible refine r_asg ?_ | with_reducible refine r_to ?_ | with_reducible refine r_ret ?_ | with_reducible refine r_for ?_ | with_reducible refine r_lc ?_ | with_reducible refine r_rng1 ?_ | with_reducible refine r_list ?_ | with_reducible refine r_tupI ?_ | with_reducible refine r_drop ?_ | with_reducible refine r_ifs ?_
  | with_reducible refine r_op ?_ | with_reducible refine r_c ?_ | with_reducible refine r_var rfl ?_ | with_reducible refine r_var (by assumption) ?_ | with_reducible refine r_I0 ?_ | with_reducible refine r_un ?_ | with_reducible refine r_U ?_ | with_reducible refine r_make ?_ | with_reducible refine r_sub ?_
  | with_reducible refine r_nil ?_ | with_reducible refine r_cons ?_ | with_reducible refine r_cb ?_ | with_reducible refine r_sl ?_ | with_reducible refine r_noP ?_ | with_reducible refine r_part ?_ | with_reducible refine r_isI ?_ | with_reducible refine r_lst ?_ | with_reducible refine r_tup ?_ | with_reducible refine r_call ?_ | with_reducible refine r_callS ?_
  | with_reducible refine r_test ?_ | with_reducible refine r_B ?_ | with_reducible refine r_and ?_ | with_reducible refine r_or ?_ | with_reducible refine r_not ?_ | with_reducible refine r_andV ?_ | with_reducible refine r_orV ?_ | with_reducible refine r_notV ?_ | with_reducible refine r_bl ?_ | with_reducible refine r_yes ?_ | with_reducible refine r_int ?_ | with_reducible refine r_is0 ?_ | with_reducible refine r_is1 ?_ | with_reducible refine iteT ?_ | with_reducible refine iteF ?_ | with_reducible refine ite_nF ?_ | with_reducible refine ite_nT ?_
  | with_reducible refine r_mod (by decide) ?_ | with_reducible refine r_div (by decide) (by decide) ?_ | with_reducible refine r_mulR (by decide) (by decide) ?_ | with_reducible refine r_mulL (by decide) (by decide) ?_ | with_reducible refine r_pow (by decide) (by decide) (by decide) ?_))
section
variable {P : Program} {w : World} {K : PySem.W.Frag} {mg : Str → Option Value} {base : Heap} {Am : Hp → Addr → Int → Prop} {aK CA CB fs f : Addr} {fds fd : FuncData} {cdv : Value} {A : Around} {outer : List Env} {s : Shared} {H0 : Hp} {E : XK}
theorem tailA1 (D : LD P w K mg base Am aK CA CB fs fds) (T : Bt mg) (hr : Room 39 (xLaw P w K mg base f cdv A outer s H0 E).A) : ∃ u, PSs (xLaw P w K mg base f cdv A outer s H0 E) ((defBody slaw).drop 5) u ∧
    ∀ {En : Ends} {H : Hp} {p c : Addr} {ns : List Int} {v : V} {lo hi : Int} {k : Bool} {y0 y6 y7 y8 y9 y10 y11 y12 y13 y14 : Option V}, PoolAt H p c ns → IvH p H v → k = whole v → (∀ H', En.rt (.bl true) H') →
      u En [y0, some (.ref p), some v, some (.int lo), some (.int hi), some (.bl k), y6, y7, y8, y9, y10, y11, y12, y13, y14] H := by
  obtain ⟨u, hu, ru⟩ := tailA2 (f := f) (cdv := cdv) (A := A) (outer := outer) (s := s) (H0 := H0) (E := E) D T hr
  refine ⟨_, (pss_cons (ps_if (pt_not (pt_val (pe_df D.lSame hr (by decide) (pa_cons (pe_df D.isInteger hr (by decide) (pa_cons (pv 2) pa_nil)) (pa_cons (pv 5) pa_nil))))) (pss_one (ps_ret pe_bl)) pss_nil)
  (pss_cons (ps_set (i := 6) sclaw.nd rfl (Or.inl rfl) pe_bl)
  (pss_cons (ps_if (pt_val (pv 5)) (pss_cons (ps_set (i := 6) sclaw.nd rfl (Or.inl rfl) (pe_and (pe_cmpR op_le (pv 3) (pv 2) (nomark _)) (pe_one (pe_cmpR op_le (pv 2) (pv 4) (nomark _)))))
  (pss_cons (ps_if (pt_not (pt_val (pe_df D.lSame hr (by decide) (pa_cons (pe_df D.isBetween hr (by decide) (pa_cons (pv 2) (pa_cons (pv 2) (pa_cons (pv 2) pa_nil)))) (pa_cons pe_bl pa_nil))))) (pss_one (ps_ret pe_bl)) pss_nil)
  (pss_one (ps_if (PW.pt (pw_or (pt_val (pe_df D.isBetween hr (by decide) (pa_cons (pv 2) (pa_cons (pe_op op_add (pv 2) pe_int) (pa_cons (pe_op op_add (pv 2) pe_int) pa_nil))))) (pw_or1 (pt_val (pe_df D.isBetween hr (by decide) (pa_cons (pv 2) (pa_cons (pe_op op_sub (pv 2) pe_int) (pa_cons (pe_op op_sub (pv 2) pe_int) pa_nil)))))))) (pss_one (ps_ret pe_bl)) pss_nil)))) pss_nil)
    hu))), ?_⟩
  intro En H p c ns v lo hi k y0 y6 y7 y8 y9 y10 y11 y12 y13 y14 pl hv hk hq
  subst hk
  walk_at "rd"
  refine ⟨p, v, rfl, hv, ?_⟩
  walk_at "rd"
  refine r_sameB _ ?_
  walk_at "rd"
  by_cases hw : whole v = true
  · rw [if_pos hw]
    obtain ⟨i, rfl⟩ := whole_int hw
    walk_at "rd"
    refine ite_dec (fun h1 => ?_) (fun h1 => ?_)
    all_goals
      walk_at "rd"
      refine ⟨p, _, i, i, rfl, hv, ?_⟩
      rw [show inside (.int i) i i = true by simp [inside]]
      walk_at "rd"
      refine r_sameB _ ?_
      walk_at "rd"
      refine ⟨p, _, i + 1, i + 2, rfl, hv, ?_⟩
      rw [show inside (.int i) (i + 1) (i + 2) = false by simp [inside]; omega]
      walk_at "rd"
      refine ⟨p, _, i - 2, i - 1, rfl, hv, ?_⟩
      rw [show inside (.int i) (i - 2) (i - 1) = false by simp [inside]; omega]
      walk_at "rd"
      exact ru pl hv (by simp [inside, h1]) hq
  · rw [if_neg hw]
    walk_at "rd"
    exact ru pl hv (whole_f (Bool.eq_false_iff.mpr hw)).symm hq
theorem ok_law (F : Fun K "law" "law" slaw f fd) (D : LD P w K mg base Am aK CA CB fs fds) (T : Bt mg) : FnOk P w K mg base CX0 40 f fd ["_law_script"] (spLaw K) := by
  refine F.ok sclaw (fun vs H Q E h => ?_) (fun cdv A outer s H vs Q E hr h => ?_)
  · obtain ⟨l, ns, rfl, _⟩ := h
    rfl
  · obtain ⟨l, ns, rfl, hS, hlen, k⟩ := h
    obtain ⟨u, hu, ru⟩ := tailA1 (f := f) (cdv := cdv) (A := A) (outer := outer) (s := s) (H0 := H) (E := E) D T hr
    refine ⟨_, (pss_cons (ps_set (i := 1) sclaw.nd rfl (Or.inr rfl) (pe_df D.lPool hr (by decide) (pa_cons (pv 0) pa_nil)))
  (pss_cons (ps_set (i := 2) sclaw.nd rfl (Or.inl rfl) (pe_df D.lValue hr (by decide) (pa_cons (pv 1) pa_nil)))
  (pss_cons (ps_set (i := 3) sclaw.nd rfl (Or.inl rfl) (pe_op op_sub (pe_df D.lDraw hr (by decide) (pa_cons (pv 1) (pa_cons pe_int pa_nil))) pe_int))
  (pss_cons (ps_set (i := 4) sclaw.nd rfl (Or.inl rfl) (pe_op op_sub (pe_op op_add (pv 3) (pe_df D.lDraw hr (by decide) (pa_cons (pv 1) (pa_cons pe_int pa_nil)))) pe_int))
  (pss_cons (ps_set (i := 5) sclaw.nd rfl (Or.inl rfl) (pe_and (pe_callB call_isi (by rfl) T.isinstance (by decide +kernel) (pa_cons (pv 2) (pa_cons (pe_bltn (v := .ty "int") (by rfl) T.int (by decide +kernel) rfl) pa_nil))) (pe_one (pe_not (pe_callB call_isi (by rfl) T.isinstance (by decide +kernel) (pa_cons (pv 2) (pa_cons (pe_bltn (v := .ty "bool") (by rfl) T.bool (by decide +kernel) rfl) pa_nil)))))))
    hu))))), ?_⟩
    walk_at "rd"
    refine ⟨l, ns, rfl, hS, hlen, fun p c H1 _ _ _ pl => ?_⟩
    walk_at "rd"
    refine ⟨p, c, ns, rfl, pl, fun v H2 k2 p2 hv => ?_⟩
    walk_at "rd"
    refine ⟨p, c, ns, 7, rfl, p2, by decide, by decide, fun r H3 r0 r1 k3 p3 => ?_⟩
    walk_at "rd"
    refine ⟨p, c, ns, 4, rfl, p3, by decide, by decide, fun r' H4 _ _ k4 p4 => ?_⟩
    have hv4 := hv.keep (k3.trans k4)
    walk_at "rd"
    refine r_isiI hv4 ?_
    walk_at "rd"
    by_cases hi : isI v = true
    · rw [if_pos hi]
      walk_at "rd"
      refine r_isiB hv4 ?_
      walk_at "rd"
      exact ru p4 hv4 (by rw [whole, hi]; rfl) k
    · rw [if_neg hi]
      walk_at "rd"
      exact ru p4 hv4 (by rw [whole, Bool.eq_false_iff.mpr hi]; rfl) k
end
end Pk
set_option Elab.async false
set_option linter.all false
set_option maxRecDepth 100000
set_option maxHeartbeats 4000000
namespace Pk
open PySem L2
local macro_rules | `(tactic| walk_at "rd") => `(tactic| repeat (first
  | with_reducible refine r_seq ?_ | with_reducible refine r_nxt ?_ | with_reducible refine r_asg ?_ | with_reducible refine r_to ?_ | with_reducible refine r_ret ?_ | with_reducible refine r_for ?_ | with_reducible refine r_lc ?_ | with_reducible refine r_rng1 ?_ | with_reducible refine r_list ?_ | with_reducible refine r_tupI ?_ | with_reducible refine r_drop ?_ | with_reducible refine r_ifs ?_
  | with_reducible refine r_op ?_ | with_reducible refine r_c ?_ | with_reducible refine r_var rfl ?_ | with_reducible refine r_var (by assumption) ?_ | with_reducible refine r_I0 ?_ | with_reducible refine r_un ?_ | with_reducible refine r_U ?_ | with_reducible refine r_make ?_ | with_reducible refine r_sub ?_
  | with_reducible refine r_nil ?_ | with_reducible refine r_cons ?_ | with_reducible refine r_cb ?_ | with_reducible refine r_sl ?_ | with_reducible refine r_noP ?_ | with_reducible refine r_part ?_ | with_reducible refine r_isI ?_ | with_reducible refine r_lst ?_ | with_reducible refine r_tup ?_ | with_reducible refine r_call ?_ | with_reducible refine r_callS ?_
  | with_reducible refine r_test ?_ | with_reducible refine r_B ?_ | with_reducible refine r_and ?_ | with_reducible refine r_or ?_ | with_reducible refine r_not ?_ | with_reducible refine r_andV ?_ | with_reducible refine r_orV ?_ | with_reducible refine r_notV ?_ | with_reducible refine r_bl ?_ | with_reducible refine r_yes ?_ | with_reducible refine r_int ?_ | with_reducible refine r_is0 ?_ | with_reducible refine r_is1 ?_ | with_reducible refine iteT ?_ | with_reducible refine iteF ?_ | with_reducible refine ite_nF ?_ | with_reducible refine ite_nT ?_
  | with_reducible refine r_mod (by decide) ?_ | with_reducible refine r_div (by decide) (by decide) ?_ | with_reducible refine r_mulR (by decide) (by decide) ?_ | with_reducible refine r_mulL (by decide) (by decide) ?_ | with_reducible refine r_pow (by decide) (by decide) (by decide) ?_))
section
variable {P : Program} {w : World} {K : PySem.W.Frag} {mg : Str → Option Value} {base : Heap} {Am : Hp → Addr → Int → Prop} {aK CA CB fs f : Addr} {fds fd : FuncData}
abbrev slIsInt : Stmt := top 13
theorem sclIsInt : FnScope ["value"] ["value"] (defScope slIsInt) := ⟨rfl, rfl, rfl, by decide +kernel, rfl, by decide +kernel, by decide +kernel⟩
theorem ok_isInt (F : Fun K "is_integer" "is_integer" slIsInt f fd) (T : Bt mg) : FnOk P w K mg base CX0 1 f fd ["value"] spIsInt := by
  refine F.ok sclIsInt (fun vs H Q E h => ?_) (fun cdv A outer s H vs Q E hr h => ?_)
  · obtain ⟨p, v, rfl, _⟩ := h
    rfl
  · obtain ⟨p, v, rfl, hv, k⟩ := h
    refine ⟨_, (pss_one (ps_ret (pe_and (pe_callB call_isi (by rfl) T.isinstance (by decide +kernel) (pa_cons (pv 0) (pa_cons (pe_bltn (v := .ty "int") (by rfl) T.int (by decide +kernel) rfl) pa_nil))) (pe_one (pe_not (pe_callB call_isi (by rfl) T.isinstance (by decide +kernel) (pa_cons (pv 0) (pa_cons (pe_bltn (v := .ty "bool") (by rfl) T.bool (by decide +kernel) rfl) pa_nil)))))))), ?_⟩
    walk_at "rd"
    refine r_isiI hv ?_
    walk_at "rd"
    by_cases hi : isI v = true
    · rw [if_pos hi]
      walk_at "rd"
      refine r_isiB hv ?_
      walk_at "rd"
      rw [whole, hi] at k
      exact k
    · rw [if_neg hi]
      rw [whole, Bool.eq_false_iff.mpr hi] at k
      exact k
abbrev slBetween : Stmt := top 14
theorem sclBetween : FnScope ["value", "low", "high"] ["value", "low", "high"] (defScope slBetween) := ⟨rfl, rfl, rfl, by decide +kernel, rfl, by decide +kernel, by decide +kernel⟩
theorem ok_between (F : Fun K "is_between" "is_between" slBetween f fd) (D : Df P w K mg base CX0 "is_integer" 1 ["value"] spIsInt) : FnOk P w K mg base CX0 2 f fd ["value", "low", "high"] spBetween := by
  refine F.ok sclBetween (fun vs H Q E h => ?_) (fun cdv A outer s H vs Q E hr h => ?_)
  · obtain ⟨p, v, lo, hi, rfl, _⟩ := h
    rfl
  · obtain ⟨p, v, lo, hi, rfl, hv, k⟩ := h
    refine ⟨_, (pss_one (ps_ret (pe_and (pe_df D hr (by decide) (pa_cons (pv 0) pa_nil)) (pe_one (pe_chain op_le op_le (pv 1) (pv 0) (pv 2)))))), ?_⟩
    walk_at "rd"
    refine ⟨p, v, rfl, hv, ?_⟩
    walk_at "rd"
    by_cases hw : whole v = true
    · rw [if_pos hw]
      obtain ⟨i, rfl⟩ := whole_int hw
      show tChain _ _ _ _ _ _ _ _
      refine r_var rfl ?_
      refine r_var rfl ?_
      refine r_I0 ?_
      refine ⟨_, rfl, ?_⟩
      refine ite_dec (fun h1 => ?_) (fun h1 => ?_)
      · refine r_var rfl ?_
        refine r_I0 ?_
        rw [inside, decide_eq_true h1] at k
        exact k
      · rw [inside, decide_eq_false h1] at k
        exact k
    · rw [if_neg hw]
      rw [whole_f (Bool.eq_false_iff.mpr hw)] at k
      exact k
abbrev slIsKind : Stmt := top 8
theorem sclIsKind : FnScope ["value"] ["value"] (defScope slIsKind) := ⟨rfl, rfl, rfl, by decide +kernel, rfl, by decide +kernel, by decide +kernel⟩
theorem ok_isKind (F : Fun K "is_kind" "is_kind" slIsKind f fd) (T : Bt mg) (kin : mg "KINDS" = some (.ref aK)) (tup : ∀ H, SqT K H aK kinds) : FnOk P w K mg base CX0 1 f fd ["value"] spIsKind := by
  refine F.ok sclIsKind (fun vs H Q E h => ?_) (fun cdv A outer s H vs Q E hr h => ?_)
  · obtain ⟨p, v, rfl, _⟩ := h
    rfl
  · obtain ⟨p, v, rfl, hv, k⟩ := h
    refine ⟨_, (pss_one (ps_ret (pe_and (pe_callB call_isi (by rfl) T.isinstance (by decide +kernel) (pa_cons (pv 0) (pa_cons (pe_bltn (v := .ty "str") (by rfl) T.str (by decide +kernel) rfl) pa_nil))) (pe_one (pe_cmpR op_in_seq (pv 0) (pe_glob (v := .ref aK) (by rfl) kin rfl) (by rfl)))))), ?_⟩
    walk_at "rd"
    refine r_isiS hv ?_
    walk_at "rd"
    by_cases hs : isS v = true
    · rw [if_pos hs]
      obtain ⟨z, rfl⟩ := str_of hs
      walk_at "rd"
      refine ⟨aK, kinds, rfl, .inr (tup _), rfl, rfl, ?_⟩
      rw [known, hs] at k
      exact k
    · rw [if_neg hs]
      rw [known, Bool.eq_false_iff.mpr hs] at k
      exact k
/-- amounts.over() -/
def spOver (Am : Hp → Addr → Int → Prop) : Sp := fun vs H Q _ => ∃ (a : Addr) (n : Int), vs = [.ref a] ∧ Am H a n ∧ Q (.int n) H
/-- check_kind(kind) -/
def spCheckKind (CB : Addr) : Sp := fun vs H Q E => ∃ (p : Addr) (v : V), vs = [v] ∧ IvH p H v ∧ (known v = true → Q .non H) ∧
  (known v = false → ∀ (d : Addr) (H' : Hp), Same H H' → H d = none → H' d = some (.xd [("name", .str "kind")]) → E (.ref CB) (some d) H')
abbrev slCheckKind : Stmt := top 9
theorem sclCheckKind : FnScope ["kind"] ["kind"] (defScope slCheckKind) := ⟨rfl, rfl, rfl, by decide +kernel, rfl, by decide +kernel, by decide +kernel⟩
theorem ok_checkKind (F : Fun K "check_kind" "check_kind" slCheckKind f fd) (DK : Df P w K mg base CX0 "is_kind" 1 ["value"] spIsKind) (EB : De P w K mg base "InvalidBound" 3 (spErr1 K 1 CB "name") CB) :
    FnOk P w K mg base (L2.CX P w) 5 f fd ["kind"] (spCheckKind CB) := by
  refine F.okX sclCheckKind (fun vs H Q E h => ?_) (fun cdv A outer s H vs Q E hr h => ?_)
  · obtain ⟨p, v, rfl, _⟩ := h
    rfl
  · obtain ⟨p, v, rfl, hv, k1, k2⟩ := h
    refine ⟨_, (pss_one (ps_if (pt_not (pt_val (pe_df DK hr (by decide) (pa_cons (pv 0) pa_nil)))) (pss_one (ps_rse rfl (takes_of rfl rfl rfl rfl) EB hr (by decide) (pa_cons pe_str pa_nil))) pss_nil)), ?_⟩
    walk_at "rd"
    refine ⟨p, v, rfl, hv, ?_⟩
    walk_at "rd"
    by_cases hk : known v = true
    · rw [hk]
      walk_at "rd"
      exact k1 hk
    · have hk : known v = false := Bool.eq_false_iff.mpr hk
      rw [hk]
      have k := k2 hk
      walk_at "rd"
      refine r_mkErr ?_
      walk_at "rd"
      refine r_err1 (σ := []) (.str _) (.str _) fun dd v' H' s1 h1 h2 o1 => ?_
      cases o1
      exact k dd H' s1 h1 h2
abbrev slSuits : Stmt := top 10
theorem sclSuits : FnScope ["amounts", "kind", "excess"] ["amounts", "kind"] (defScope slSuits) := ⟨rfl, rfl, rfl, by decide +kernel, rfl, by decide +kernel, by decide +kernel⟩
abbrev FnS (K : PySem.W.Frag) (x : Str) (st : Stmt) (kws : List (Str × V)) (f : Addr) (fd : FuncData) : Prop := FunD K x x (defArgs st) (defBody st) (defScope st) [] kws f fd
theorem ok_suits {fo : Addr} {fdo : FuncData} (F : FnS K "suits" slSuits [("kind", .str "even")] f fd) (DC : Df P w K mg base (L2.CX P w) "check_kind" 5 ["kind"] (spCheckKind CB))
    (hc : Cls K CA) (hm : Meth K CA "over" fo) (ho : FnOk P w K mg base CX0 1 fo fdo ["self"] (spOver Am)) (hb : Binds K fdo ["self"] []) (hA : ∀ {H a n}, Am H a n → ∃ dx fs, H a = some (.ins CA dx fs) ∧ fs.lookup ("over" : Str) = none) :
    FnOk P w K mg base (L2.CX P w) 10 f fd ["amounts", "kind"] (spSuits Am CB) := by
  refine F.ok sclSuits (fun vs H Q E h => ?_) (fun cdv A outer s H vs Q E hr h => ?_)
  · obtain ⟨a, p, n, v, rfl, _⟩ := h
    rfl
  · obtain ⟨a, p, n, v, rfl, ha, hv, k1, k2⟩ := h
    refine ⟨_, (pss_cons (ps_expr (pe_dfS (takes_of rfl rfl rfl rfl) DC hr (by decide) (pa_cons (pv 1) pa_nil)))
  (pss_cons (ps_set (i := 2) sclSuits.nd rfl (Or.inl rfl) (pe_meth0 (pv 0) hc hm ho (hr.mono (by decide)) hb .nil pass0))
  (pss_cons (ps_if (pt_cmpR op_eq (pv 1) pe_str (nomark _)) (pss_one (ps_ret (pe_cmpR op_eq (pv 2) pe_int (nomark _)))) pss_nil)
  (pss_cons (ps_if (pt_cmpR op_eq (pv 1) pe_str (nomark _)) (pss_one (ps_ret (pe_cmpR op_ge (pv 2) pe_int (nomark _)))) pss_nil)
  (pss_cons (ps_if (pt_cmpR op_eq (pv 1) pe_str (nomark _)) (pss_one (ps_ret (pe_cmpR op_le (pv 2) pe_int (nomark _)))) pss_nil)
  (pss_one (ps_ret pe_bl))))))), ?_⟩
    walk_at "rd"
    refine ⟨p, v, rfl, hv, fun hk => ?_, fun hk d H' s1 h1 h2 => k2 hk d H' s1 h1 h2⟩
    obtain ⟨dx, fs, e1, e2⟩ := hA ha
    have hs : isS v = true := by
      rw [known, Bool.and_eq_true] at hk; exact hk.1
    obtain ⟨z, rfl⟩ := str_of hs
    have k := k1 hk
    walk_at "rd"
    show tMeth _ _ _ _ _ _ _ _ _ _
    refine r_var rfl ?_
    refine ⟨a, dx, fs, rfl, e1, e2, ?_⟩
    walk_at "rd"
    refine ⟨a, n, rfl, ha, ?_⟩
    walk_at "rd"
    refine r_eq rfl ?_
    rw [suited] at k
    walk_at "rd"
    refine ite_dec (fun h => ?_) (fun h => ?_)
    · rw [if_pos h] at k
      walk_at "rd"
      refine r_eq rfl ?_
      rw [show decide (V.int n = V.int 0) = decide (n = 0) from decide_eq_decide.mpr ⟨fun h => V.int.inj h, fun h => by rw [h]⟩]
      exact k
    rw [if_neg h] at k
    walk_at "rd"
    refine r_eq rfl ?_
    walk_at "rd"
    refine ite_dec (fun h => ?_) (fun h => ?_)
    · rw [if_pos h] at k
      walk_at "rd"
      exact k
    rw [if_neg h] at k
    walk_at "rd"
    refine r_eq rfl ?_
    walk_at "rd"
    refine ite_dec (fun h => ?_) (fun h => ?_)
    · rw [if_pos h] at k
      walk_at "rd"
      exact k
    rw [if_neg h] at k
    walk_at "rd"
    exact k
end
/-! ### the error InvalidBound -/
section
variable {P : Program} {w : World} {K : PySem.W.Frag} {mg : Str → Option Value} {base : Heap} {C fI cc fc : Addr} {fdc : FuncData}
/-- the def within a class's text -/
def inCls (i j : Nat) : Stmt := match top i with
  | .ClassDef (body := b) .. => b.getD j (.Pass ⟨0, 0, 0, 0⟩)
  | _ => .Pass ⟨0, 0, 0, 0⟩
abbrev slIB : Stmt := inCls 5 0
abbrev nfIB (cc c : Addr) : NdefX.NF := { name := "__init__", qual := "InvalidBound.__init__", params := defArgs slIB, body := defBody slIB, scope := defScope slIB, cl := [(("__class__" : Str), cc)], c := c }
example : (defBody slIB).length = 2 := by decide +kernel
theorem ok_IB {c : Addr} {n : Nat} (T : ErrC K C) (J : InitFn P K C fI cc (nfIB cc c)) (B : Bt mg) (G : FnOk P w K mg base CX0 (n + 1) fc fdc ["value"] (spCopy K n)) (mc : mg "own_copy" = some (.ref fc)) (kc : PySem.W.keepIn K (.ref fc) = true)
    (bc : Binds K fdc ["value"] []) (free : PySem.W.findIn K (.ref C) "name" = some none) : ErrOk P w K mg base (n + 2) C fI (spErr1 K n C "name") := by
  exact err_one (F := nfIB cc c) T J B.super G mc kc bc (NdefX.nscope_by (by show NdefX.nscB _ _ _ (defScope slIB) = true; decide +kernel)) rfl rfl rfl free (fun _ _ _ _ _ us hl => match us, hl with | [_, _], _ => rfl) (fun env => rfl) (by decide) (by decide)
end
end Pk
set_option Elab.async false
set_option linter.all false
set_option maxRecDepth 100000
set_option maxHeartbeats 4000000
namespace Pk
open PySem L2
local macro_rules | `(tactic| walk_at "rd") => `(tactic| repeat (first
  | with_reducible refine r_seq ?_ | with_reducible refine r_nxt ?_ | with_reducible refine r_asg ?_ | with_reducible refine r_to ?_ | with_reducible refine r_ret ?_ | with_reducible refine r_for ?_ | with_reducible refine r_lc ?_ | with_reducible refine r_rng1 ?_ | with_reducible refine r_list ?_ | with_reducible refine r_tupI ?_ | with_reducible refine r_drop ?_ | with_reducible refine r_ifs ?_
  | with_reducible refine r_op ?_ | with_reducible refine r_c ?_ | with_reducible refine r_var rfl ?_ | with_reducible refine r_var (by assumption) ?_ | with_reducible refine r_I0 ?_ | with_reducible refine r_un ?_ | with_reducible refine r_U ?_ | with_reducible refine r_make ?_ | with_reducible refine r_sub ?_
  | with_reducible refine r_nil ?_ | with_reducible refine r_cons ?_ | with_reducible refine r_cb ?_ | with_reducible refine r_sl ?_ | with_reducible refine r_noP ?_ | with_reducible refine r_part ?_ | with_reducible refine r_isI ?_ | with_reducible refine r_lst ?_ | with_reducible refine r_tup ?_ | with_reducible refine r_call ?_ | with_reducible refine r_callS ?_ | with_reducible refine r_sFldU ?_ | with_reducible refine r_chain ?_ | with_reducible refine r_enum ?_ | with_reducible refine r_gtup ?_ | with_reducible refine r_methU ?_
  | with_reducible refine r_test ?_ | with_reducible refine r_B ?_ | with_reducible refine r_and ?_ | with_reducible refine r_or ?_ | with_reducible refine r_not ?_ | with_reducible refine r_andV ?_ | with_reducible refine r_orV ?_ | with_reducible refine r_notV ?_ | with_reducible refine r_bl ?_ | with_reducible refine r_yes ?_ | with_reducible refine r_int ?_ | with_reducible refine r_is0 ?_ | with_reducible refine r_is1 ?_ | with_reducible refine iteT ?_ | with_reducible refine iteF ?_ | with_reducible refine ite_nF ?_ | with_reducible refine ite_nT ?_
  | with_reducible refine r_mod (by decide) ?_ | with_reducible refine r_div (by decide) (by decide) ?_ | with_reducible refine r_mulR (by decide) (by decide) ?_ | with_reducible refine r_mulL (by decide) (by decide) ?_ | with_reducible refine r_pow (by decide) (by decide) (by decide) ?_))
/-! ### class Amounts, where what is handed in is good -/
/-- the amounts at x: their dict at dx, their two lists at p and q -/
structure AmX (C : Addr) (H : Hp) (x dx p q : Addr) (ms ns : List Int) : Prop where
  o : H x = some (.ins C dx [("held", .ref p), ("wished", .ref q)])
  h : H p = some (.lst (ms.map V.int))
  w : H q = some (.lst (ns.map V.int))
/-- good amounts of some lines -/
def Gd (ms : List Int) : Prop := 0 < ms.length ∧ ms.length ≤ 8 ∧ ∀ m, m ∈ ms → 0 ≤ m
structure AmC (K : PySem.W.Frag) (C : Addr) : Prop where
  cls : Cls K C
  h : NoAttr K C "held"
  w : NoAttr K C "wished"
def spChk : Sp := fun vs H Q _ => ∃ (z : Str) (a : Addr) (ms : List Int), vs = [.str z, .ref a] ∧ H a = some (.lst (ms.map V.int)) ∧ Gd ms ∧ ∀ H' : Hp, Same H H' → Q .non H'
def spAmI (C : Addr) : Sp := fun vs H Q _ => ∃ (x dx a b : Addr) (ms ns : List Int), vs = [.ref x, .ref a, .ref b] ∧ H x = some (.ins C dx []) ∧ H dx = some (.own x) ∧ dx ≠ x ∧
  H a = some (.lst (ms.map V.int)) ∧ H b = some (.lst (ns.map V.int)) ∧ Gd ms ∧ Gd ns ∧
  ∀ (H' : Hp) (p q : Addr), H p = none → H q = none → p ≠ q → AmX C H' x dx p q ms ns → (∀ c o, c ≠ x → H c = some o → H' c = some o) → Q .non H'
abbrev slChk : Stmt := top 16
abbrev slAmI : Stmt := inCls 17 0
section
variable {P : Program} {w : World} {K : PySem.W.Frag} {mg : Str → Option Value} {base : Heap} {C f : Addr} {fd : FuncData}
theorem sclChk : FnScope ["word", "numbers", "at", "number"] ["word", "numbers"] (defScope slChk) := ⟨rfl, rfl, rfl, by decide +kernel, rfl, by decide +kernel, by decide +kernel⟩
theorem ok_chk (F : Fun K "check_line_amounts" "check_line_amounts" slChk f fd) (T : Bt mg) {tk : Tok} (hM : mg "MOST_LINES" = some (.int 8 tk)) (DI : Df P w K mg base CX0 "is_integer" 1 ["value"] spIsInt) :
    FnOk P w K mg base CX0 2 f fd ["word", "numbers"] spChk := by
  refine F.ok sclChk (fun vs H Q E h => ?_) (fun cdv A outer s H vs Q E hr h => ?_)
  · obtain ⟨z, a, ms, rfl, _⟩ := h
    rfl
  · obtain ⟨z, a, ms, rfl, ha, ⟨m0, m8, mp⟩, k⟩ := h
    refine ⟨_, (pss_cons (ps_if (PW.pt (pw_or (pt_not (pt_val (pe_callB call_isi (by rfl) T.isinstance (by decide +kernel) (pa_cons (pv 1) (pa_cons (pe_bltn (v := .ty "list") (by rfl) T.list (by decide +kernel) rfl) pa_nil)))))
        (pw_or1 (pt_not (pt_chain op_le op_le pe_int (pe_callB cl_len (by rfl) T.len PySem.boot_len (pa_cons (pv 1) pa_nil)) (pe_glob (v := .int 8) (by rfl) hM ⟨tk, rfl⟩)))))) pss_never pss_nil)
      (pss_one (ps_for PassesOwn.never rfl (pi_enum (by rfl) T.enumerate (pa_cons (pv 1) pa_nil)) (pg_tup rfl (pgs_cons (pg_name (i := 2) sclChk.nd rfl (Or.inl rfl)) (pgs_cons (pg_name (i := 3) sclChk.nd rfl (Or.inl rfl)) pgs_nil)))
        (pss_one (ps_if (PW.pt (pw_or (pt_not (pt_val (pe_df DI hr (by decide) (pa_cons (pv 3) pa_nil)))) (pw_or1 (pt_cmpR op_lt (pv 3) pe_int (nomark _))))) pss_never pss_nil))))), ?_⟩
    walk_at "rd"
    refine r_isi (.base (.lst ha)) (by decide +kernel : kitB "list" "list" = some true) ?_
    walk_at "rd"
    refine r_lenL (SqL.of ha) ?_
    walk_at "rd"
    refine ifT (decide_eq_true (by rw [List.length_map]; omega)) ?_
    walk_at "rd"
    refine ifF (by rw [decide_eq_true (by rw [List.length_map]; omega)]; rfl) ?_
    walk_at "rd"
    refine ⟨a, _, rfl, SqL.of ha, for_it walk_enum (fun i σ H' => ∃ u v, σ = [some (.str z), some (.ref a), u, v] ∧ Same H H') ⟨none, none, rfl, Same.refl H⟩ (fun i σ H' _ ⟨_, _, _, s⟩ => s.seq (SqL.of ha)) ?_ ?_⟩
    · rintro i x σ H1 H2 hi ⟨u, v, rfl, s1⟩ ⟨t, i', y, rfl, ht, rfl, e1, e2⟩
      obtain ⟨m, hm, rfl⟩ := int_at e2
      have st : Same H (upd H1 t (.tup [i', .int m])) := Same.up s1 ht
      refine r_gtup ⟨t, _, rfl, SqT.of upd_same, rfl, _, _, rfl, ?_⟩
      walk_at "rd"
      refine ⟨_, _, rfl, ?_⟩
      walk_at "rd"
      refine ⟨rfl, ?_⟩
      walk_at "rd"
      refine ⟨a, .int m, rfl, .int m, ?_⟩
      walk_at "rd"
      refine ifF (by simp [whole, isI, isB]) ?_
      walk_at "rd"
      refine ifF (decide_eq_false (by have := mp m hm; omega)) ?_
      walk_at "rd"
      exact ⟨_, _, rfl, st⟩
    · rintro σ H1 ⟨u, v, rfl, s1⟩
      exact k H1 s1
theorem sclAmI : FnScope ["self", "stocks", "wishes"] ["self", "stocks", "wishes"] (defScope slAmI) := ⟨rfl, rfl, rfl, by decide +kernel, rfl, by decide +kernel, by decide +kernel⟩
theorem ok_amI (F : Fun K "__init__" "Amounts.__init__" slAmI f fd) (T : Bt mg) (A : AmC K C) (DC : Df P w K mg base CX0 "check_line_amounts" 2 ["word", "numbers"] spChk) :
    FnOk P w K mg base (L2.CX P w) 3 f fd ["self", "stocks", "wishes"] (spAmI C) := by
  refine F.okX sclAmI (fun vs H Q E h => ?_) (fun cdv A' outer s H vs Q E hr h => ?_)
  · obtain ⟨x, dx, a, b, ms, ns, rfl, _⟩ := h
    rfl
  · obtain ⟨x, dx, a, b, ms, ns, rfl, hx, hdx, ne, ha, hb, gm, gn, k⟩ := h
    refine ⟨_, (pss_cons (ps_expr (pe_df DC hr (by decide) (pa_cons pe_str (pa_cons (pv 1) pa_nil))))
      (pss_cons (ps_expr (pe_df DC hr (by decide) (pa_cons pe_str (pa_cons (pv 2) pa_nil))))
      (pss_cons (ps_fld (pv 0) (pe_callTy cl_lst (by rfl) T.list (by decide +kernel) (pa_cons (pv 1) pa_nil)) rfl)
      (pss_one (ps_fld (pv 0) (pe_callTy cl_lst (by rfl) T.list (by decide +kernel) (pa_cons (pv 2) pa_nil)) rfl))))), ?_⟩
    walk_at "rd"
    refine ⟨_, a, ms, rfl, ha, gm, fun H1 s1 => ?_⟩
    walk_at "rd"
    refine ⟨_, b, ns, rfl, s1 _ _ hb, gn, fun H2 s2 => ?_⟩
    have s12 : Same H H2 := s1.trans s2
    walk_at "rd"
    refine r_lstOf (SqL.of (s12 _ _ ha)) fun q1 n1 => ?_
    have x1 : x ≠ q1 := fun z => by
      have e := s12 _ _ hx
      rw [z, n1] at e
      cases e
    have a1 : b ≠ q1 := fun z => by
      have e := s12 _ _ hb
      rw [z, n1] at e
      cases e
    have a2 : b ≠ x := fun z => by
      have e := hb
      rw [z, hx] at e
      cases e
    walk_at "rd"
    refine r_sFld0 (C := C) (dx := dx) (fs := []) (by rw [upd_ne x1]; exact s12 _ _ hx) A.cls A.h (by decide) ?_
    walk_at "rd"
    refine r_lstOf (SqL.of (by rw [upd_ne a2, upd_ne a1]; exact s12 _ _ hb)) fun q2 n2 => ?_
    have x2 : x ≠ q2 := fun z => by
      rw [← z, upd_same] at n2
      cases n2
    have q12 : q1 ≠ q2 := fun z => by
      rw [← z, upd_ne (Ne.symm x1), upd_same] at n2
      cases n2
    rw [upd_ne (Ne.symm x2), upd_ne (Ne.symm q12)] at n2
    walk_at "rd"
    refine r_sFld0 (C := C) (dx := dx) (by rw [upd_ne x2, upd_same]) A.cls A.w (by show 1 < 1000; decide) ?_
    rw [two_put (by decide +kernel) (by decide +kernel)]
    refine k _ q1 q2 (s12.free n1) (s12.free n2) q12 ⟨upd_same, ?_, ?_⟩ fun c o hc e => ?_
    · rw [upd_ne (Ne.symm x1), upd_ne q12, upd_ne (Ne.symm x1), upd_same]
    · rw [upd_ne (Ne.symm x2), upd_same]
    · have e2 := s12 _ _ e
      have c1 : c ≠ q1 := fun z => by rw [z, n1] at e2; cases e2
      have c2 : c ≠ q2 := fun z => by rw [z, n2] at e2; cases e2
      rw [upd_ne hc, upd_ne c2, upd_ne hc, upd_ne c1]
      exact e2
/-- over() -/
def spAmOver (C : Addr) : Sp := fun vs H Q _ => ∃ (x dx p q : Addr) (ms ns : List Int), vs = [.ref x] ∧ AmX C H x dx p q ms ns ∧ Q (.int (ms.sum - ns.sum)) H
abbrev slOver : Stmt := inCls 17 9
theorem sclOver : FnScope ["self"] ["self"] (defScope slOver) := ⟨rfl, rfl, rfl, by decide +kernel, rfl, by decide +kernel, by decide +kernel⟩
theorem ok_over (F : Fun K "over" "Amounts.over" slOver f fd) (T : Bt mg) (A : AmC K C) : FnOk P w K mg base CX0 1 f fd ["self"] (spAmOver C) := by
  refine F.ok sclOver (fun vs H Q E h => ?_) (fun cdv A' outer s H vs Q E hr h => ?_)
  · obtain ⟨x, dx, p, q, ms, ns, rfl, _⟩ := h
    rfl
  · obtain ⟨x, dx, p, q, ms, ns, rfl, a, k⟩ := h
    refine ⟨_, (pss_one (ps_ret (pe_op op_sub (pe_callB (cr_sum rfl) (by rfl) T.sum (by decide +kernel) (pa_cons (pe_fld (pv 0) rfl) pa_nil)) (pe_callB (cr_sum rfl) (by rfl) T.sum (by decide +kernel) (pa_cons (pe_fld (pv 0) rfl) pa_nil))))), ?_⟩
    walk_at "rd"
    refine r_fldV rfl a.o A.cls A.h two_fst ?_
    walk_at "rd"
    refine r_sum (SqL.of a.h) ?_
    walk_at "rd"
    refine r_fldV rfl a.o A.cls A.w (two_snd (by decide +kernel)) ?_
    walk_at "rd"
    refine r_sum (SqL.of a.w) ?_
    walk_at "rd"
    exact k
end
end Pk
set_option Elab.async false
set_option linter.all false
set_option maxRecDepth 100000
set_option maxHeartbeats 4000000
namespace Pk
open PySem L2
local macro_rules | `(tactic| walk_at "rd") => `(tactic| repeat (first
  | with_reducible refine r_seq ?_ | with_reducible refine r_nxt ?_ | with_reducible refine r_asg ?_ | with_reducible refine r_to ?_ | with_reducible refine r_ret ?_ | with_reducible refine r_for ?_ | with_reducible refine r_lc ?_ | with_reducible refine r_rng1 ?_ | with_reducible refine r_list ?_ | with_reducible refine r_tupI ?_ | with_reducible refine r_drop ?_ | with_reducible refine r_ifs ?_
  | with_reducible refine r_op ?_ | with_reducible refine r_c ?_ | with_reducible refine r_var rfl ?_ | with_reducible refine r_var (by assumption) ?_ | with_reducible refine r_I0 ?_ | with_reducible refine r_un ?_ | with_reducible refine r_U ?_ | with_reducible refine r_make ?_ | with_reducible refine r_sub ?_
  | with_reducible refine r_nil ?_ | with_reducible refine r_cons ?_ | with_reducible refine r_cb ?_ | with_reducible refine r_sl ?_ | with_reducible refine r_noP ?_ | with_reducible refine r_part ?_ | with_reducible refine r_isI ?_ | with_reducible refine r_lst ?_ | with_reducible refine r_tup ?_ | with_reducible refine r_call ?_ | with_reducible refine r_callS ?_
  | with_reducible refine r_test ?_ | with_reducible refine r_B ?_ | with_reducible refine r_and ?_ | with_reducible refine r_or ?_ | with_reducible refine r_not ?_ | with_reducible refine r_andV ?_ | with_reducible refine r_orV ?_ | with_reducible refine r_notV ?_ | with_reducible refine r_bl ?_ | with_reducible refine r_yes ?_ | with_reducible refine r_int ?_ | with_reducible refine r_is0 ?_ | with_reducible refine r_is1 ?_ | with_reducible refine iteT ?_ | with_reducible refine iteF ?_ | with_reducible refine ite_nF ?_ | with_reducible refine ite_nT ?_
  | with_reducible refine r_mod (by decide) ?_ | with_reducible refine r_div (by decide) (by decide) ?_ | with_reducible refine r_mulR (by decide) (by decide) ?_ | with_reducible refine r_mulL (by decide) (by decide) ?_ | with_reducible refine r_pow (by decide) (by decide) (by decide) ?_))
open PySem.W
theorem vals_app {vs zs : List V} {us ws : List Value} (r : Vals vs us) (z : Vals zs ws) : Vals (vs ++ zs) (us ++ ws) := by
  induction r with
  | nil => exact z
  | cons a _ ih => exact .cons a ih
/-- amounts by their excess -/
def AmN (C : Addr) : Hp → Addr → Int → Prop := fun H x n => ∃ dx p q ms ns, AmX C H x dx p q ms ns ∧ n = ms.sum - ns.sum
theorem AmX.same {C : Addr} {H H' : Hp} {x dx p q : Addr} {ms ns : List Int} (a : AmX C H x dx p q ms ns) (s : Same H H') : AmX C H' x dx p q ms ns := ⟨s _ _ a.o, s _ _ a.h, s _ _ a.w⟩
theorem all_mk {l : PySem.W.OpenLaw} {w : World} {K : PySem.W.Frag} {h : Heap} {mg : Str → Option Value} {fa : Addr} (X : K.In h) (G : h.Ns mainGlobals mg) (hfa : mg "law" = some (.ref fa)) {CB fI cc c CA aK : Addr}
    (bt : BtIn K) (top : (l.prog.main.scope.names.lookup ("super" : Str)).isSome = false)
    (dOwn : DefAt K "own_copy" sCopy) (eB : ErrAt1 l.prog K "InvalidBound" "InvalidBound.__init__" slIB CB fI cc c) (free : PySem.W.findIn K (.ref CB) "name" = some none)
    (aKin : PySem.W.nsIn K mainGlobals "KINDS" = some (some (.ref aK))) (kin : ∀ H, SqT K H aK kinds)
    (dKind : DefAt K "is_kind" slIsKind) (dSuits : DefAtK K "suits" "kind" "even" slSuits) (dInt : DefAt K "is_integer" slIsInt) (dBet : DefAt K "is_between" slBetween)
    (dPool : DefAt K "_law_pool" slPool) (dMix : DefAt K "_law_mixed" slMixed) (dDraw : DefAt K "_law_draw" slDraw) (dNum : DefAt K "_law_number" slNumber) (dSame : DefAt K "_law_same" slSame) (dVal : DefAt K "_law_value" slValue) (dRef : DefAt K "_law_refused" slRefused) (dLaw : DefAt K "law" slaw)
    (dCk : DefAt K "check_kind" slCheckKind) (dChk : DefAt K "check_line_amounts" slChk) {tk : Tok} (aMost : PySem.W.nsIn K mainGlobals "MOST_LINES" = some (some (.int 8 tk)))
    (aA : PySem.W.nsIn K mainGlobals "Amounts" = some (some (.ref CA))) (mI : MethAt K CA "__init__" "Amounts.__init__" slAmI) (mO : MethAt K CA "over" "Amounts.over" slOver)
    (pg : PySem.W.plainGet K CA Str.empty = true) (hd : PySem.W.hasDictIn K CA = true) (po : PySem.W.plainOver K CA = true) (sa : PySem.W.findIn K (.ref CA) "__setattr__" = some (some (.builtin "object.__setattr__"))) (mk : PySem.W.makesIn K CA = true) (kc : PySem.W.keepIn K (.ref CA) = true)
    (nH : PySem.W.findIn K (.ref CA) "held" = some none) (nW : PySem.W.findIn K (.ref CA) "wished" = some none) :
    ∃ fd : FuncData, (∀ (s : Shared) (u : Value), BindsTo s fd ⟨[u], []⟩ [("_law_script", u)]) ∧ ∀ base : Heap, K.In base → base.Ns mainGlobals mg → FnOk l.prog w K mg base CX0 40 fa fd ["_law_script"] (spLaw K) := by
  have T := bt.bt X G
  obtain ⟨f1, fd1, F1, m1⟩ := dOwn.fn X G
  obtain ⟨f2, fd2, F2, m2⟩ := dKind.fn X G
  obtain ⟨f3, fd3, F3, m3⟩ := dSuits.fn X G
  obtain ⟨f4, fd4, F4, m4⟩ := dInt.fn X G
  obtain ⟨f5, fd5, F5, m5⟩ := dBet.fn X G
  obtain ⟨f6, fd6, F6, m6⟩ := dPool.fn X G
  obtain ⟨f7, fd7, F7, m7⟩ := dMix.fn X G
  obtain ⟨f8, fd8, F8, m8⟩ := dDraw.fn X G
  obtain ⟨f9, fd9, F9, m9⟩ := dNum.fn X G
  obtain ⟨f10, fd10, F10, m10⟩ := dSame.fn X G
  obtain ⟨f11, fd11, F11, m11⟩ := dVal.fn X G
  obtain ⟨f12, fd12, F12, m12⟩ := dRef.fn X G
  obtain ⟨f13, fd13, F13, m13⟩ := dLaw.fn X G
  obtain ⟨f14, fd14, F14, m14⟩ := dCk.fn X G
  obtain ⟨f15, fd15, F15, m15⟩ := dChk.fn X G
  obtain ⟨fi, fdi, Fi, mi⟩ := mI.fn
  obtain ⟨fo, fdo, Fo, mo⟩ := mO.fn
  have hc : Cls K CA := ⟨pg, hd, po, sa⟩
  have AC : AmC K CA := ⟨hc, nH, nW⟩
  have e := hfa.symm.trans m13
  cases e
  have b13 : ∀ (s : Shared) (u : Value), BindsTo s fd13 ⟨[u], []⟩ [("_law_script", u)] := fun s u => by
    obtain ⟨oc, od, kV, doc, pm, an, cdv, ct, osl, rfl, lk, hcd⟩ := F13.ex
    exact .of_eq rfl
  refine ⟨fd13, b13, fun base _ _ => ?_⟩
  have B1 : Binds K fd1 ["value"] [] := F1.binds fun _ _ _ _ _ _ us hl => match us, hl with | [_], _ => rfl
  have mk1 : ∀ {fd x st f ps sp n}, Fun K x x st f fd → mg x = some (.ref f) → Binds K fd ps [] → FnOk l.prog w K mg base CX0 n f fd ps sp → Df l.prog w K mg base CX0 x n ps sp := fun F m b o => ⟨_, _, m, F.kp, b, o⟩
  have D2 := mk1 F2 m2 (ps := ["value"]) (F2.binds fun _ _ _ _ _ _ us hl => match us, hl with | [_], _ => rfl) (ok_isKind F2 T (PySem.W.mg_of X G aKin) kin)
  have D4 := mk1 F4 m4 (ps := ["value"]) (F4.binds fun _ _ _ _ _ _ us hl => match us, hl with | [_], _ => rfl) (ok_isInt F4 T)
  have D5 := mk1 F5 m5 (ps := ["value", "low", "high"]) (F5.binds fun _ _ _ _ _ _ us hl => match us, hl with | [_, _, _], _ => rfl) (ok_between F5 D4)
  have D6 := mk1 F6 m6 (ps := ["_law_script"]) (F6.binds fun _ _ _ _ _ _ us hl => match us, hl with | [_], _ => rfl) (ok_pool F6 T)
  have D7 := mk1 F7 m7 (ps := ["_law_pool_here", "_law_cell"]) (F7.binds fun _ _ _ _ _ _ us hl => match us, hl with | [_, _], _ => rfl) (ok_mixed F7 T)
  have D8 := mk1 F8 m8 (ps := ["_law_pool_here", "_law_size"]) (F8.binds fun _ _ _ _ _ _ us hl => match us, hl with | [_, _], _ => rfl) (ok_draw F8 T D7)
  have D9 := mk1 F9 m9 (ps := ["_law_pool_here", "_law_parts"]) (F9.binds fun _ _ _ _ _ _ us hl => match us, hl with | [_, _], _ => rfl) (ok_number F9 T D8)
  have D10 := mk1 F10 m10 (ps := ["_law_actual", "_law_due"]) (F10.binds fun _ _ _ _ _ _ us hl => match us, hl with | [_, _], _ => rfl) (ok_same F10 T m10 1)
  have D11 := mk1 F11 m11 (ps := ["_law_pool_here"]) (F11.binds fun _ _ _ _ _ _ us hl => match us, hl with | [_], _ => rfl) (ok_value F11 T D8 D9)
  have G1 := ok_copy (P := l.prog) (w := w) (base := base) F1 T m1 1
  have E1 : De l.prog w K mg base "InvalidBound" 3 (spErr1 K 1 CB "name") CB := eB.de X G (ok_IB eB.errC (eB.init top ⟨_, rfl⟩) T G1 m1 F1.kp B1 free)
  have B14 : Binds K fd14 ["kind"] [] := F14.binds fun _ _ _ _ _ _ us hl => match us, hl with | [_], _ => rfl
  have D14 : Df l.prog w K mg base (L2.CX l.prog w) "check_kind" 5 ["kind"] (spCheckKind CB) := ⟨_, _, m14, F14.kp, B14, ok_checkKind F14 D2 E1⟩
  have D15 := mk1 F15 m15 (ps := ["word", "numbers"]) (F15.binds fun _ _ _ _ _ _ us hl => match us, hl with | [_, _], _ => rfl) (ok_chk F15 T (PySem.W.mg_of X G aMost) D4)
  have bo : Binds K fdo ["self"] [] := Fo.binds fun _ _ _ _ _ _ us hl => match us, hl with | [_], _ => rfl
  have bi : Binds K fdi ["self", "stocks", "wishes"] [] := Fi.binds fun _ _ _ _ _ _ us hl => match us, hl with | [_, _, _], _ => rfl
  have OO : FnOk l.prog w K mg base CX0 1 fo fdo ["self"] (spOver (AmN CA)) := (ok_over Fo T AC).imp fun vs H Q E h => by
    obtain ⟨a, n, rfl, ⟨dx, p, q, ms, ns, h1, rfl⟩, k⟩ := h
    exact ⟨a, dx, p, q, ms, ns, rfl, h1, k⟩
  have OI : FnOk l.prog w K mg base (L2.CX l.prog w) 10 fi fdi ["self", "stocks", "wishes"] (spAmInit CA (AmN CA)) := ((ok_amI Fi T AC D15).mono (by decide)).imp fun vs H Q E h => by
    obtain ⟨x, dx, a, b, ms, ns, rfl, hx, hdx, ne, ha, hb, m0, m8, n0, n8, mp, np, k⟩ := h
    exact ⟨x, dx, a, b, ms, ns, rfl, hx, hdx, ne, ha, hb, ⟨m0, m8, mp⟩, ⟨n0, n8, np⟩, fun H' p q _ _ _ z s => k H' (fun c o h1 _ e => s c o h1 e) ⟨dx, p, q, ms, ns, z, rfl⟩⟩
  have am : Dk l.prog w K mg base (L2.CX l.prog w) "Amounts" 10 ["self", "stocks", "wishes"] (spAmInit CA (AmN CA)) CA := ⟨fi, fdi, PySem.W.mg_of X G aA, ⟨mk, mi.at_, mi.fn, kc⟩, bi, OI⟩
  have hA : ∀ {H a n}, AmN CA H a n → ∃ dx fs, H a = some (.ins CA dx fs) ∧ fs.lookup ("over" : Str) = none := fun {H a n} ⟨dx, p, q, ms, ns, h1, _⟩ => ⟨dx, _, h1.o, two_no (by decide +kernel) (by decide +kernel)⟩
  have S3 := ok_suits (base := base) F3 D14 hc mo OO bo hA
  obtain ⟨mv, kb⟩ := F3.kbinds0 (ps := ["amounts", "kind"]) 1 ["kind"] [] (fun us _ ws => us ++ ws) (by simp) (fun q hq => by cases hq) (fun r _ z => vals_app r z) (fun _ _ _ _ _ _ us _ ws l1 _ l2 => match us, ws, l1, l2 with | [_], [_], _, _ => rfl)
  have dd : ∃ ds, Vals [V.str "even"] ds ∧ Binds K fd3 ["amounts", "kind"] ds := F3.binds0 (ps := ["amounts", "kind"]) 1 (by simp) rfl (fun _ _ _ _ _ _ us ks l1 l2 => match us, ks, l1, l2 with | [_], [_], _, _ => ⟨_, _, _, _, _, _, rfl, rfl, rfl⟩)
  have DS : Ds l.prog w K mg base 10 (spSuits (AmN CA) CB) f3 fd3 := ⟨m3, F3.kp, S3, kb, dd⟩
  have D12 := mk1 F12 m12 (ps := ["_law_amounts", "_law_value_here"]) (F12.binds fun _ _ _ _ _ _ us hl => match us, hl with | [_, _], _ => rfl) (ok_refused F12 DS E1 free)
  exact ok_law F13 (Am := AmN CA) ⟨D6, D11, D8, D9, D10, D12, D4, D5, D2, DS, am, PySem.W.mg_of X G aKin, kin, fun {H a q n o} ⟨dx, p, r, ms, ns, h1, e⟩ hq => ⟨dx, p, r, ms, ns, h1.same (Same.up (Same.refl H) hq), e⟩⟩ T
end Pk
set_option Elab.async false
set_option linter.all false
set_option maxRecDepth 100000
namespace Pk
open PySem L2
theorem walk {l : PySem.W.OpenLaw} {q : Program} {loose : List Str} {XP : (Str → Option Value) → Heap → Prop} {YP : World → Heap → Prop} {d : DefRec} {K : Params → PySem.W.Frag} (hn : l.most = some 63) (hdf : d.params.defaults = [])
    (hY : ∀ (w : World) (h : Heap), YP w h → (K w.params).In h)
    (F : ∀ (w : World) (mg : Str → Option Value) (fa : Addr) (h : Heap), (K w.params).In h → h.Ns mainGlobals mg → mg d.name = some (.ref fa) →
      ∃ fd : FuncData, (∀ (s : Shared) (u : Value), BindsTo s fd ⟨[u], []⟩ [("_law_script", u)]) ∧ ∀ base : Heap, (K w.params).In base → base.Ns mainGlobals mg → FnOk l.prog w (K w.params) mg base CX0 40 fa fd ["_law_script"] (spLaw (K w.params))) :
    PySem.W.WalkO q loose XP YP l.row.toRowW d [] (fun f vs => PySem.call f vs) :=
  L2.walk_of (n := 63) (k := 40) (x := "_law_script") (CX := fun _ => CX0) (sp := fun w => spLaw (K w.params)) hn (by decide) hdf ⟨rfl, by decide, by decide⟩ hY F (fun _ _ a ns hl _ hS => ⟨a, ns, rfl, hS, hl, fun _ => rfl⟩) fun _ _ _ _ _ z => z
theorem kin_of {K : PySem.W.Frag} {a : Addr} {od : Option Addr} {its : Array Value} {n : Nat} {sl : Array (Option Value)} {xs : List V} (l : K.lookup a = some ⟨.type "tuple", od, .seq its n, sl⟩) (z : its.size ≤ 1000) (v : Vals xs its.toList) : ∀ H, SqT K H a xs :=
  fun H => .inr ⟨_, its, n, l, rfl, rfl, Nat.le_trans z (by decide), v⟩
end Pk
local macro_rules | `(tactic| walk_at "pk_def") => `(tactic| (refine' Pk.DefAt.of ?a ?l ?c ?k; (case a => k_is); (case l => k_is); (case c => k_is); (case k => k_is)))
local macro_rules | `(tactic| walk_at "pk_defK") => `(tactic| (refine' Pk.DefAtK.of ?a ?l ?c ?k ?n; (case a => k_is); (case l => k_is); (case c => k_is); (case k => k_is); (case n => k_is)))
local macro_rules | `(tactic| walk_at "pk_meth") => `(tactic| (refine' Pk.MethAt.of ?a ?l ?c ?k ?i; (case a => k_is); (case l => k_is); (case c => k_is); (case k => k_is); (case i => k_is)))
open PySem PySem.W PyProof.Rows Pk in
set_option maxRecDepth 100000 in
set_option maxHeartbeats 0 in
theorem PySem.Challenge.cw_pairorder_k01_integers_and_kinds_holds : PySem.Challenge.rw_pairorder_k01_integers_and_kinds.Holds := by
  w_on; o_law; k_head; (case hw => w_witness2)
  k_fill
  refine Pk.walk (l := PySem.Challenge.rw_pairorder_k01_integers_and_kinds) rfl rfl (fun w h Y => PySem.W.kIn_of Y) ?F
  case F =>
    intro w mg fa h KX G hmg
    refine' Pk.all_mk KX G hmg ?bt ?top ?dOwn ?eB ?free ?aKin ?kin ?dKind ?dSuits ?dInt ?dBet ?dPool ?dMix ?dDraw ?dNum ?dSame ?dVal ?dRef ?dLaw ?dCk ?dChk ?aMost ?aA ?mI ?mO ?pg ?hd ?po ?sa ?mk ?kc ?nH ?nW
    case dCk => walk_at "pk_def"
    case dChk => walk_at "pk_def"
    case aMost => k_is
    case aA => k_is
    case mI => walk_at "pk_meth"
    case mO => walk_at "pk_meth"
    case pg => k_is
    case hd => k_is
    case po => k_is
    case sa => k_is
    case mk => k_is
    case kc => k_is
    case nH => k_is
    case nW => k_is
    case dOwn => walk_at "pk_def"
    case dKind => walk_at "pk_def"
    case dInt => walk_at "pk_def"
    case dBet => walk_at "pk_def"
    case dPool => walk_at "pk_def"
    case dMix => walk_at "pk_def"
    case dDraw => walk_at "pk_def"
    case dNum => walk_at "pk_def"
    case dSame => walk_at "pk_def"
    case dVal => walk_at "pk_def"
    case dRef => walk_at "pk_def"
    case dLaw => walk_at "pk_def"
    case dSuits => walk_at "pk_defK"
    case bt =>
      intro x hx
      simp only [List.mem_cons, List.not_mem_nil, or_false] at hx
      rcases hx with rfl | rfl | rfl | rfl | rfl | rfl | rfl | rfl | rfl | rfl | rfl | rfl | rfl | rfl | rfl | rfl | rfl | rfl <;> k_is
    case top => rfl
    case eB =>
      refine' ErrAt1.of ?at_ ?cls ?sa ?exB ?exA ?ty ?kp ?ini ?fnt ?fn ?code ?cell ?file ?file2 ?file3 ?opq ?sup ?below ?ga ?gg ?hd ?isC ?own
      case at_ => k_is
      case cls => k_is
      case sa => k_is
      case exB => k_is
      case exA => k_is
      case ty => k_is
      case kp => k_is
      case ini => k_is
      case fnt => k_is
      case fn => k_is
      case code => k_is
      case cell => k_is
      case file => k_is
      case file2 => rfl
      case file3 => rfl
      case opq => k_is
      case sup => first | k_is | ks_is
      case below => k_is
      case ga => k_is
      case gg => k_is
      case hd => k_is
      case isC => k_is
      case own => k_is
    case free => k_is
    case aKin => k_is
    case kin =>
      refine' Pk.kin_of ?l ?z ?v
      case l => k_is
      case z => decide
      case v => exact .cons ⟨_, rfl⟩ (.cons ⟨_, rfl⟩ (.cons ⟨_, rfl⟩ (.cons ⟨_, rfl⟩ .nil)))
