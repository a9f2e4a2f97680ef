import PyProof.Rows.All
import Wide.All
import OpenK.AllK
import Wide.FinOn
import HandS.ForMost
import HandS.Exc
import HandS.TryOnly
import HandS.WordsExc
import HandS.IsInst
import HandS.ExcInit
import HandS.ExcSuper
import HandS.ExcField
import HandS.Nested
import KE.KExcSuper
import HandS.Defaults
import HandS.CallSlots
import HandS.MakeKwOnly
import KE.DataCmp
import KE.Datum
import HandS.OwnEq
import HandS.SlotsOwn
import HandS.More
import HandS.Walk
import HandS.Wide
import HandS.Deep
import HandS.Codes
import HandS.ClsMeth
import HandS.CallLocal
import PySem.Challenge.RW_pairorder_k06_amounts_made
set_option Elab.async false
set_option linter.all false
set_option maxRecDepth 100000
/-! What the laws of this program share: the reading's steps, the heap but for one object, the pool of draws. -/
namespace Pk
open PySem L2

/-! ### steps of a reading -/
section
variable {K : PySem.W.Frag} {σ : L2.St} {H : Hp} {Q : VK} {D : Ends} {ta tb te to ti : TE} {t u : TS} {tt tu : TT} {tr : TA} {i j : Nat} {v w : V} {a b : Int}
theorem r_seq (h : t { D with nx := u D } σ H) : tSeq t u D σ H := h
theorem r_nxt (h : D.nx σ H) : tNext D σ H := h
theorem r_asg {g : TG} (h : te σ H fun x H1 => g x σ H1 D.nx) : tAsg te g D σ H := h
theorem r_to {P : L2.St → Hp → Prop} (h : P (σ.set i (some v)) H) : gName i v σ H P := h
theorem r_for {wi : TI} {g : TG} (h : wi σ H fun J H1 => ∃ W : Nat → Nat → L2.St → Hp → Prop, (∃ m, W 0 m σ H1) ∧ ∀ i m σ H, W i m σ H →
    (J.stop i H ∧ D.nx σ H) ∨ (J.go i H ∧ ∃ N : L2.St → Hp → Prop, (∀ σ' H', N σ' H' → ∃ m', m' < m ∧ W (i + 1) m' σ' H') ∧ ∀ x H', J.yld i H x H' → g x σ H' fun σ2 H2 => t { D with nx := N, ct := N, bk := D.nx } σ2 H2)) : tFor wi g t D σ H := h
theorem r_lc {wi : TI} {g : TG} {vs : List Nat} (h : wi σ H fun J H1 => ∀ D, H1 D = none → ∃ W : Nat → Nat → Hp → Prop, (∃ m, W 0 m (upd H1 D (.lst []))) ∧ ∀ i m H, W i m H →
    (J.stop i H ∧ Q (.ref D) H) ∨ (J.go i H ∧ ∃ Nx : Hp → Prop, (∀ H', Nx H' → ∃ m', m' < m ∧ W (i + 1) m' H') ∧ ∀ x H', J.yld i H x H' → g x (wipe σ vs) H' fun σ2 H2 => wipe σ2 vs = wipe σ vs ∧ tt σ2 H2 fun b H3 =>
      if b = true then te σ2 H3 fun y H4 => ∃ acc, H4 D = some (.lst acc) ∧ acc.length < sizeLine ∧ Nx (upd H4 D (.lst (acc ++ [y]))) else Nx H3)) : tLc wi g tt te vs σ H Q := h
theorem r_tupI {R : It → Hp → Prop} (h : te σ H fun x H1 => ∃ l, x = .ref l ∧ (∃ xs, SqT K H1 l xs) ∧ R (Itt K l) H1) : iTup K te σ H R := h
theorem r_yes {P : Bool → Hp → Prop} (h : P true H) : tYes σ H P := h
theorem r_B {P : Bool → Hp → Prop} (h : te σ H fun x H1 => ∃ c, x = .bl c ∧ P c H1) : tB te σ H P := h
theorem r_rng1 {R : It → Hp → Prop} (h : tr σ H fun vs H1 => ∃ j : Int, vs = [.int j] ∧ -(2 ^ 62) ≤ j ∧ j < 2 ^ 62 ∧ R (Itr 0 j.toNat) H1) : iRng1 tr σ H R := h
theorem r_list {R : It → Hp → Prop} (h : te σ H fun x H1 => ∃ l, x = .ref l ∧ (∃ xs, SqL K H1 l xs) ∧ R (Itl K l) H1) : iList K te σ H R := h
theorem r_ret (h : te σ H D.rt) : tRet te D σ H := h
theorem r_drop (h : te σ H fun _ H1 => D.nx σ H1) : tDrop te D σ H := h
theorem r_ifs (h : tt σ H fun c H1 => if c = true then t D σ H1 else u D σ H1) : tIfS tt t u D σ H := h
theorem r_var (e : σ[i]? = some (some v)) (h : Q v H) : tVar i σ H Q := ⟨v, e, h⟩
theorem r_c (h : Q v H) : tC v σ H Q := h
theorem r_op {r : R2} (h : ta σ H fun x H1 => tb σ H1 fun y H2 => r x y H2 Q) : tOp r ta tb σ H Q := h
theorem r_un {r : V → Hp → VK → Prop} (h : ta σ H fun x H1 => r x H1 Q) : tUn r ta σ H Q := h
theorem r_U {g : Int → V} (h : Q (g a) H) : rU g (.int a) H Q := ⟨a, rfl, h⟩
theorem r_make {C : Addr} {sp : Sp} {dvs : List V} {E : XK} (h : tr σ H fun vs H1 => ∀ x dx, H1 x = none → H1 dx = none → dx ≠ x → sp (.ref x :: (vs ++ dvs)) (upd (upd H1 dx (.own x)) x (.ins C dx [])) (fun v H2 => v = .non ∧ Q (.ref x) H2) E) : tMake C sp dvs E tr σ H Q := h
theorem r_cat {l m : Addr} {xs zs : List V} (hl : H l = some (.lst xs)) (hm : H m = some (.lst zs)) (hz : xs.length + zs.length ≤ sizeLine) (h : ∀ p, H p = none → Q (.ref p) (upd H p (.lst (xs ++ zs)))) : rCat (.ref l) (.ref m) H Q := ⟨l, m, xs, zs, rfl, rfl, hl, hm, hz, h⟩
theorem r_sum {l : Addr} {ns : List Int} (hl : SqL K H l (ns.map V.int)) (h : Q (.int ns.sum) H) : rSum K [.ref l] H Q := ⟨l, ns, rfl, hl, h⟩
theorem r_I0 {g : Int → Int → V} (h : Q (g a b) H) : rI0 g (.int a) (.int b) H Q := ⟨a, b, rfl, rfl, h⟩
theorem r_I {C : Int → Int → Prop} {g : Int → Int → V} (c : C a b) (h : Q (g a b) H) : rI C g (.int a) (.int b) H Q := ⟨a, b, rfl, rfl, c, h⟩
theorem r_mod (c : 0 < b) (h : Q (.int (a % b)) H) : rI (fun _ j => 0 < j) (fun i j => .int (i % j)) (.int a) (.int b) H Q := r_I c h
theorem r_div (c : 0 < b) (d : b < 1073741824) (h : Q (.int (a / b)) H) : rI CDiv (fun i j => .int (i / j)) (.int a) (.int b) H Q := r_I ⟨c, d⟩ h
theorem r_mulL (c : -(2 ^ 64) < a) (d : a < 2 ^ 64) (h : Q (.int (a * b)) H) : rI CMul (fun i j => .int (i * j)) (.int a) (.int b) H Q := r_I (.inl ⟨c, d⟩) h
theorem r_mulR (c : -(2 ^ 64) < b) (d : b < 2 ^ 64) (h : Q (.int (a * b)) H) : rI CMul (fun i j => .int (i * j)) (.int a) (.int b) H Q := r_I (.inr ⟨c, d⟩) h
theorem r_pow (c : 0 ≤ b) (d : b ≤ 1000000) (e : a.natAbs < 2 ^ 64) (h : Q (.int (a ^ b.toNat)) H) : rI CPow (fun i j => .int (i ^ j.toNat)) (.int a) (.int b) H Q := r_I ⟨c, d, e⟩ h
theorem r_ixL {p : Addr} {xs : List V} (hs : SqL K H p xs) (he : atI xs a = some v) (h : Q v H) : rIxL K (.ref p) (.int a) H Q := ⟨p, xs, a, v, rfl, rfl, hs, he, h⟩
theorem r_ixT {p : Addr} {xs : List V} (hs : SqT K H p xs) (he : atI xs a = some v) (h : Q v H) : rIxT K (.ref p) (.int a) H Q := ⟨p, xs, a, v, rfl, rfl, hs, he, h⟩
theorem r_sub {s : TSet} {P : L2.St → Hp → Prop} (h : to σ H fun o H1 => ti σ H1 fun k H2 => s o k v H2 fun H3 => P σ H3) : gSub to ti s v σ H P := h
theorem r_setL {p : Addr} {xs : List V} {P : Hp → Prop} (hp : H p = some (.lst xs)) (hj : ixN xs.length a = some j) (h : P (upd H p (.lst (xs.set j v)))) : rSetL (.ref p) (.int a) v H P := ⟨p, xs, a, j, rfl, rfl, hp, hj, h⟩
theorem r_nil {R : List V → Hp → Prop} (h : R [] H) : tNil σ H R := h
theorem r_cons {R : List V → Hp → Prop} (h : ta σ H fun x H1 => tr σ H1 fun xs H2 => R (x :: xs) H2) : tCons ta tr σ H R := h
theorem r_cb {r : List V → Hp → VK → Prop} (h : tr σ H fun vs H1 => r vs H1 Q) : tCB r tr σ H Q := h
theorem r_call {sp : Sp} {dvs : List V} {E : XK} (h : tr σ H fun vs H1 => sp (vs ++ dvs) H1 Q E) : tCall sp dvs E tr σ H Q := h
theorem r_sl {r : V → Option Int → Option Int → Hp → VK → Prop} {tl th : TO} (h : te σ H fun x H1 => tl σ H1 fun l H2 => th σ H2 fun u H3 => r x l u H3 Q) : tSl r te tl th σ H Q := h
theorem r_noP {P : Option Int → Hp → Prop} (h : P none H) : tNoPart σ H P := h
theorem r_part {P : Option Int → Hp → Prop} (h : te σ H fun x H1 => ∃ i, x = .int i ∧ P (some i) H1) : tPart te σ H P := h
theorem r_isI {P : Int → Prop} (h : P a) : ∃ i, V.int a = .int i ∧ P i := ⟨a, rfl, h⟩
theorem r_lst (h : tr σ H fun xs H1 => xs.length ≤ sizeLine ∧ ∀ p, H1 p = none → Q (.ref p) (upd H1 p (.lst xs))) : tLst tr σ H Q := h
theorem r_tup (h : tr σ H fun xs H1 => xs.length ≤ sizeLine ∧ ∀ p, H1 p = none → Q (.ref p) (upd H1 p (.tup xs))) : tTup tr σ H Q := h
theorem r_test {P : Bool → Hp → Prop} (h : te σ H fun x H' => ∃ k, x = .bl k ∧ P k H') : tTest te σ H P := h
theorem r_and {P : Bool → Hp → Prop} (h : tt σ H fun c H1 => if c = true then tu σ H1 P else P false H1) : tAnd tt tu σ H P := h
theorem r_or {P : Bool → Hp → Prop} (h : tt σ H fun c H1 => if c = true then P true H1 else tu σ H1 P) : tOr tt tu σ H P := h
theorem r_not {P : Bool → Hp → Prop} (h : tt σ H fun c H1 => P (!c) H1) : tNot tt σ H P := h
theorem r_bl {P : Bool → Prop} {k : Bool} (h : P k) : ∃ c, V.bl k = .bl c ∧ P c := ⟨k, rfl, h⟩
theorem r_eq (hs : scal v w = true) (h : Q (.bl (decide (v = w))) H) : rEq v w H Q := ⟨hs, h⟩
theorem r_eqT (hs : scal v v = true) (h : Q (.bl true) H) : rEq v v H Q := ⟨hs, by rw [decide_eq_true (rfl : v = v)]; exact h⟩
theorem r_andV (h : ta σ H fun x H1 => ∃ c, x = .bl c ∧ if c = true then tb σ H1 Q else Q (.bl false) H1) : tAndV ta tb σ H Q := h
theorem r_orV (h : ta σ H fun x H1 => ∃ c, x = .bl c ∧ if c = true then Q (.bl true) H1 else tb σ H1 Q) : tOrV ta tb σ H Q := h
theorem r_notV (h : ta σ H fun x H1 => ∃ c, x = .bl c ∧ Q (.bl (!c)) H1) : tNotV ta σ H Q := h
theorem r_ne (hs : scal v w = true) (h : Q (.bl (!decide (v = w))) H) : rNe v w H Q := ⟨hs, h⟩
theorem ite_nF {A B : Prop} (h : A) : if (!false) = true then A else B := by rw [show (!false) = true from rfl, if_pos rfl]; exact h
theorem ite_nT {A B : Prop} (h : B) : if (!true) = true then A else B := by rw [show (!true) = false from rfl, if_neg Bool.false_ne_true]; exact h
theorem ite_no {c : Prop} [Decidable c] {A B : Prop} (h1 : c → A) (h2 : ¬ c → B) : if (!decide c) = true then B else A := by
  by_cases h : c
  · rw [decide_eq_true h]; exact h1 h
  · rw [decide_eq_false h]; exact h2 h
theorem ite_dec {c : Prop} [Decidable c] {A B : Prop} (h1 : c → A) (h2 : ¬ c → B) : if decide c = true then A else B := by
  by_cases h : c
  · rw [decide_eq_true h, if_pos rfl]; exact h1 h
  · rw [decide_eq_false h, if_neg Bool.false_ne_true]; exact h2 h
end

/-! ### built-ins by readings with a name -/
def rIs0 : R2 := fun x y H Q => y = .non ∧ Q (.bl (decide (x = .non))) H
def rIs1 : R2 := fun x y H Q => y = .non ∧ Q (.bl (!decide (x = .non))) H
theorem op_is0 {X : Cx} : OpR X (compareOp .Is) rIs0 := op_isN
theorem op_is1 {X : Cx} : OpR X (compareOp .IsNot) rIs1 := op_notN
theorem r_is0 {x : V} {H : Hp} {Q : VK} (h : Q (.bl (decide (x = .non))) H) : rIs0 x .non H Q := ⟨rfl, h⟩
theorem r_is1 {x : V} {H : Hp} {Q : VK} (h : Q (.bl (!decide (x = .non))) H) : rIs1 x .non H Q := ⟨rfl, h⟩
def rInt : List V → Hp → VK → Prop := fun xs H Q => ∃ n, xs = [.int n] ∧ Q (.int n) H
def rIntB : List V → Hp → VK → Prop := fun xs H Q => ∃ b, xs = [.bl b] ∧ Q (.int (if b then 1 else 0)) H
def rLen (K : PySem.W.Frag) : List V → Hp → VK → Prop := fun xs H Q => ∃ l ys, xs = [.ref l] ∧ (SqL K H l ys ∨ SqT K H l ys) ∧ Q (.int ys.length) H
theorem cl_int {X : Cx} : CallR X (.type "int") rInt := fun pins s σ H xs us Q I r h => by
  obtain ⟨n, e, q⟩ := h
  exact call_int1 pins s σ H xs us Q I r (.inl ⟨n, e, q⟩)
theorem cl_intB {X : Cx} : CallR X (.type "int") rIntB := fun pins s σ H xs us Q I r h => by
  obtain ⟨b, e, q⟩ := h
  exact call_int1 pins s σ H xs us Q I r (.inr ⟨b, e, q⟩)
def rTupOf (K : PySem.W.Frag) : List V → Hp → VK → Prop := fun xs H Q => ∃ l ys, xs = [.ref l] ∧ SqL K H l ys ∧ ∀ q, H q = none → Q (.ref q) (upd H q (.tup ys))
def rLstOf (K : PySem.W.Frag) : List V → Hp → VK → Prop := fun xs H Q => ∃ l ys, xs = [.ref l] ∧ (SqL K H l ys ∨ SqT K H l ys) ∧ ∀ q, H q = none → Q (.ref q) (upd H q (.lst ys))
theorem cl_tup {X : Cx} : CallR X (.type "tuple") (rTupOf X.K) := fun pins s σ H xs us Q I r h => by
  obtain ⟨l, ys, e, hs, q⟩ := h
  exact call_tuple_of pins s σ H xs us Q I r ⟨l, ys, e, .inl ⟨hs, q⟩⟩
theorem cl_lst {X : Cx} : CallR X (.type "list") (rLstOf X.K) := fun pins s σ H xs us Q I r h => call_list_of pins s σ H xs us Q I r h
theorem cl_len {X : Cx} : CallR X (.builtin "len") (rLen X.K) := fun pins s σ H xs us Q I r h => call_len_seq pins s σ H xs us Q I r h
section
variable {K : PySem.W.Frag} {H : Hp} {Q : VK} {l : Addr} {ys : List V}
theorem r_int {n : Int} (h : Q (.int n) H) : rInt [.int n] H Q := ⟨n, rfl, h⟩
theorem r_intB {b : Bool} (h : Q (.int (if b then 1 else 0)) H) : rIntB [.bl b] H Q := ⟨b, rfl, h⟩
theorem r_tupOf (hs : SqL K H l ys) (h : ∀ q, H q = none → Q (.ref q) (upd H q (.tup ys))) : rTupOf K [.ref l] H Q := ⟨l, ys, rfl, hs, h⟩
theorem r_lstOf (hs : SqL K H l ys) (h : ∀ q, H q = none → Q (.ref q) (upd H q (.lst ys))) : rLstOf K [.ref l] H Q := ⟨l, ys, rfl, .inl hs, h⟩
theorem r_lenL (hs : SqL K H l ys) (h : Q (.int ys.length) H) : rLen K [.ref l] H Q := ⟨l, ys, rfl, .inl hs, h⟩
theorem r_lenT (hs : SqT K H l ys) (h : Q (.int ys.length) H) : rLen K [.ref l] H Q := ⟨l, ys, rfl, .inr hs, h⟩
end

/-! ### the heap but for one object -/
/-- all that was tracked, the object at p aside, is as it was -/
def Keep (p : Addr) (H H' : Hp) : Prop := ∀ b o, b ≠ p → H b = some o → H' b = some o
section
variable {p q : Addr} {H H' H1 H2 : Hp} {o u : HO}
theorem Keep.refl : Keep p H H := fun _ _ _ h => h
theorem Keep.trans (a : Keep p H H1) (b : Keep p H1 H2) : Keep p H H2 := fun c o n h => b c o n (a c o n h)
theorem Keep.own (a : Keep p H H1) : Keep p H (upd H1 p o) := fun c v n h => by rw [upd_ne n]; exact a c v n h
theorem Keep.new (a : Keep p H H1) (hq : H1 q = none) : Keep p H (upd H1 q o) := fun c v n h => by
  have e := a c v n h
  rw [upd_ne (ne_of_none e hq)]; exact e
theorem Keep.same (s : Same H H1) : Keep p H H1 := fun c v _ h => s c v h
theorem Keep.seq {K : PySem.W.Frag} (a : Keep p H H1) {l : Addr} {xs : List V} (n : l ≠ p) (h : SqL K H l xs) : SqL K H1 l xs := by
  rcases h with (h | ⟨v, h⟩) | h
  · exact .inl (.inl (a l _ n h))
  · exact .inl (.inr ⟨v, a l _ n h⟩)
  · exact .inr h
theorem Same.up (s : Same H H1) (hq : H1 q = none) : Same H (upd H1 q o) := fun c v h => by
  have e := s c v h
  rw [upd_ne (ne_of_none e hq)]; exact e
end

/-! ### the pool of draws: at p a list of the cells' list (at c) and four ints -/
def PoolAt (H : Hp) (p c : Addr) (ns : List Int) : Prop :=
  ∃ a b s n : Int, 0 ≤ a ∧ H p = some (.lst [.ref c, .int a, .int b, .int s, .int n]) ∧ H c = some (.lst (ns.map V.int))
theorem PoolAt.ne {H : Hp} {p c : Addr} {ns : List Int} (h : PoolAt H p c ns) : c ≠ p := by
  obtain ⟨a, b, s, n, _, h1, h2⟩ := h
  intro e
  rw [e, h1] at h2
  cases ns with
  | nil => cases h2
  | cons x r =>
    have z := HO.lst.inj (Option.some.inj h2)
    rw [List.map_cons] at z
    cases (List.cons.inj z).1
/-- a store into one of its places -/
theorem PoolAt.put {H : Hp} {p c : Addr} {ns : List Int} {a b s n : Int} (ha : 0 ≤ a) (hc : H c = some (.lst (ns.map V.int))) (ne : c ≠ p) :
    PoolAt (upd H p (.lst [.ref c, .int a, .int b, .int s, .int n])) p c ns := ⟨a, b, s, n, ha, upd_same, by rw [upd_ne ne]; exact hc⟩

theorem later {H : Hp} {a q : Addr} {o u : HO} (h : H a = some o) (hq : H q = none) : upd H q u a = some o := by
  rw [upd_ne (ne_of_none h hq)]; exact h
theorem PoolAt.new {H : Hp} {p c q : Addr} {ns : List Int} {o : HO} (h : PoolAt H p c ns) (hq : H q = none) : PoolAt (upd H q o) p c ns := by
  obtain ⟨a, b, z, n, ha, hP, hC⟩ := h
  exact ⟨a, b, z, n, ha, later hP hq, later hC hq⟩
theorem PoolAt.apart {H : Hp} {p c q : Addr} {ns : List Int} (h : PoolAt H p c ns) (hq : H q = none) : q ≠ p := by
  obtain ⟨a, b, z, n, ha, hP, hC⟩ := h
  exact fun e => by rw [e, hP] at hq; cases hq
theorem PoolAt.apartC {H : Hp} {p c q : Addr} {ns : List Int} (h : PoolAt H p c ns) (hq : H q = none) : q ≠ c := by
  obtain ⟨a, b, z, n, ha, hP, hC⟩ := h
  exact fun e => by rw [e, hC] at hq; cases hq
theorem log_small {i : Int} (h : -8 < i ∧ i < 8) : i.natAbs.log2 < 1920 := by
  have e : i.natAbs < 8 := by omega
  exact Nat.lt_of_le_of_lt (Nat.log2_le_self _) (by omega)
/-- _law_mixed(pool, cell) -/
def spMix : Sp := fun vs H Q _ => ∃ (p c : Addr) (ns : List Int) (x : Int), vs = [.ref p, .int x] ∧ PoolAt H p c ns ∧
  ∀ (r : Int) (H' : Hp), 0 ≤ r → Keep p H H' → PoolAt H' p c ns → Q (.int r) H'
/-- _law_draw(pool, size) -/
def spDraw : Sp := fun vs H Q _ => ∃ (p c : Addr) (ns : List Int) (z : Int), vs = [.ref p, .int z] ∧ PoolAt H p c ns ∧ 0 < z ∧ z < 1073741824 ∧
  ∀ (r : Int) (H' : Hp), 0 ≤ r → r < z → Keep p H H' → PoolAt H' p c ns → Q (.int r) H'
/-- _law_number(pool, parts) -/
def spNum : Sp := fun vs H Q _ => ∃ (p c : Addr) (ns : List Int) (k : Int), vs = [.ref p, .int k] ∧ PoolAt H p c ns ∧ 0 ≤ k ∧ k ≤ 1000 ∧
  ∀ (r : Int) (H' : Hp), 0 ≤ r → r < 1000000 ^ k.toNat → Keep p H H' → PoolAt H' p c ns → Q (.int r) H'
/-- _law_pool(script) -/
def spPool (K : PySem.W.Frag) : Sp := fun vs H Q _ => ∃ (l : Addr) (ns : List Int), vs = [.ref l] ∧ SqL K H l (ns.map V.int) ∧ ns.length ≤ 63 ∧
  ∀ (p c : Addr) (H' : Hp), H p = none → H c = none → Same H H' → PoolAt H' p c ns → Q (.ref p) H'
theorem take_snoc {α : Type} : ∀ {l : List α} {i : Nat} {x : α}, l[i]? = some x → l.take (i + 1) = l.take i ++ [x]
  | [], i, x, h => by simp at h
  | a :: l, 0, x, h => by
    have e : a = x := Option.some.inj h
    rw [e]; rfl
  | a :: l, i + 1, x, h => by
    have ih := take_snoc (l := l) (i := i) (x := x) h
    rw [List.take_succ_cons, ih]; rfl
theorem ixN_last {α : Type} (xs : List α) (v : α) : ixN (xs ++ [v]).length (-1) = some xs.length := by
  have hl : (xs ++ [v]).length = xs.length + 1 := by simp
  unfold ixN
  rw [hl, if_neg (by decide), if_pos (by omega)]
  congr 1
  omega
theorem ixN_nat {n j : Nat} (h : j < n) : ixN n (j : Int) = some j := by
  unfold ixN
  rw [if_pos (by omega), if_pos (by omega)]
  simp
theorem set_last {α : Type} (xs : List α) (v u : α) : (xs ++ [v]).set xs.length u = xs ++ [u] := by simp
theorem cut_all {xs : List V} {n : Nat} (h : xs.length ≤ n) : cutV xs none (some (n : Int)) = xs := by
  have e1 : HT.sIx xs.length 0 none = 0 := rfl
  have e2 : HT.sIx xs.length xs.length (some (n : Int)) = xs.length := by
    rw [HT.sIx_nat]
    exact Nat.min_eq_right h
  unfold cutV
  rw [e1, e2, Nat.sub_zero, List.drop_zero, List.take_length]
end Pk
set_option Elab.async false
set_option linter.all false
set_option maxRecDepth 100000
set_option maxHeartbeats 1000000
/-! Error classes two steps below ArithmeticError, made by an __init__ that calls super().__init__ first and then stores fields. -/
namespace Pk
open PySem L2 PySem.Spec PyProof.Rows
abbrev arT : List Value := [.type "ArithmeticError", .type "Exception", .type "BaseException", .type "object"]
theorem arT_has {C pe : Addr} {z : String} (h : arT.contains (.type z) = true) : (Value.ref C :: .ref pe :: arT).contains (.type z) = true := by
  rw [List.contains_cons, List.contains_cons, h, Bool.or_true, Bool.or_true]
theorem arT_same {pe : Addr} (z : String) : (Value.ref pe :: arT).contains (.type z) = arT.contains (.type z) := by
  rw [List.contains_cons]
  simp
section
open PySem.W PySem.Calls Builtin Builtin.ObjectAttr
variable {prog : Program} {w : World} {A : Around} {R : Result → Shared → Prop} {hp : Heap} {g : Array GenState} {dn : Drawn} {tk : Nat} {os : OsState} {K : W.Frag} {nm : Str} {nt : Tok} {v : Value} {x C pe : Addr} {cd : ClassData}
/-- object.__setattr__ of such an error, up to the store in its own dict -/
theorem sa_head {ox : Obj} {od : Option Obj} (kin : K.In hp) (inst : W.InstAt hp x ox C od) (hcd : W.clsIn K C = some cd) (mro : cd.mro = .ref C :: .ref pe :: arT) (free : W.findIn K (.ref C) nm = some none)
    (go : wpAny (model prog w) A.in1 (storeInOwnDict (.ref x) (.ref C) (.str nm nt) nm v false) (fun fn st => match fn with
        | .done r => R (.ok r) st
        | .again c => c.quiet = true ∧ codeAny (model prog w) A c R st) (fun er st => R (.error er) st) ⟨hp, g, dn, tk, os⟩) :
    codeAny (model prog w) A (.call (.builtin "object.__setattr__") ⟨[.ref x, .str nm nt, v], []⟩) R ⟨hp, g, dn, tk, os⟩ := by
  have so := PySem.F.store_object
  have isO : W.mroIn K C (.type "object") = some true := by
    unfold W.mroIn
    rw [hcd, Option.bind_some, mro, if_neg (show ¬ (List.isEmpty (Value.ref C :: .ref pe :: arT) = true) from Bool.false_ne_true), arT_has (by decide +kernel)]
  have below : W.Looks (model prog w) hp (isInstance (.ref x) (.type "object")) true := inst.type.andThen (W.looks_mroIn kin isO)
  have line : W.Looks (model prog w) hp (mroOf (.ref C)) cd.mro := (W.looks_clsIn kin hcd).andThen .now
  have loop : refuseLoop (.ref x) "__setattr__" cd.mro = pure () := by
    rw [mro, refuseLoop_ref, refuseLoop_ref]
    exact PySem.F.store_ArithmeticError.passes _
  have no3 : W.Looks (model prog w) hp (storeTaker? none) none := .now
  refine codeAny_call_builtin so.slot.plain so.entry (@W.check_slot (model prog w) _ _ ⟨hp, g, dn, tk, os⟩ "object.__setattr__" "object" "__setattr__" (.ref x) [.str nm nt, v] [] _ so.kind so.split below (so.args (.ref x) (.str nm nt) v) ?_)
  rw [W.osa_eq, refuse_eq]
  refine wpAny_bind (wpAny_bind (inst.type.at (wpAny_bind (line.at ?_)))); rw [loop]
  exact wpAny_pure (wpAny_bind (inst.type.at (wpAny_bind ((W.looks_findIn kin free).at (wpAny_bind (no3.at go))))))
/-- the first field: the dict is made -/
theorem sa_first {fv : Array Value} (kin : K.In hp) (hx : hp.get? x = some { cls := .ref C, data := .fields fv }) (hcd : W.clsIn K C = some cd) (mro : cd.mro = .ref C :: .ref pe :: arT) (hasD : cd.hasDict = true) (free : W.findIn K (.ref C) nm = some none)
    (done : ∀ h2 t2 dx, (∀ b o, b ≠ x → hp.get? b = some o → h2.get? b = some o) → hp.objs.size ≤ dx → dx ≠ x → h2.get? x = some { cls := .ref C, dict := some dx, data := .fields fv } →
      h2.Ns1 dx (fun y => if y = nm then some v else none) → R (.ok (.ret .none)) ⟨h2, g, dn, t2, os⟩) :
    codeAny (model prog w) A (.call (.builtin "object.__setattr__") ⟨[.ref x, .str nm nt, v], []⟩) R ⟨hp, g, dn, tk, os⟩ := by
  have away : x ≠ hp.objs.size := Nat.ne_of_lt (Heap.lt_size hx)
  refine sa_head kin (ox := { cls := .ref C, data := .fields fv }) (od := none) ⟨hx, rfl, rfl, trivial⟩ hcd mro free ?_
  have look : W.Looks (model prog w) hp (classData C) cd := W.looks_clsIn kin hcd
  obtain ⟨c1, c2, c3, c4, c5, hd, c7, c8, c9, c10, c11⟩ := cd
  dsimp only at hasD
  subst hasD
  unfold storeInOwnDict ownDictForStores
  repeat (first | with_reducible refine HandSPX.store_in_new ?_ ?_ | with_reducible refine wpAny_loadPart_at hx ?_ | with_reducible refine look.at ?_ | wp_step)
  · exact ⟨_, #[], _, (Heap.get?_update_ne _ _ _ _ away.symm).trans (Heap.get?_push_at rfl rfl), rfl, fun e he => absurd he (by simp), fun _ => rfl⟩
  · intro h2 t2 ns sb
    have pushed : (hp.push { cls := .type "dict", data := .dict #[] }).get? x = some { cls := .ref C, data := .fields fv } := Heap.get?_push_of_some _ hx
    exact done h2 t2 hp.objs.size (fun b o hb ho => (sb.2 b (Nat.ne_of_lt (Heap.lt_size ho))).trans ((Heap.get?_update_ne _ _ _ _ hb).trans (Heap.get?_push_of_some _ ho))) (Nat.le_refl _) away.symm ((sb.2 x away).trans (Heap.get?_update_self _ pushed rfl)) ns
/-- a further field -/
theorem sa_more {fv : Array Value} {dx : Addr} {m0 : Str → Option Value} {nl : List Str} (kin : K.In hp) (hx : hp.get? x = some { cls := .ref C, dict := some dx, data := .fields fv }) (ns : hp.Ns1 dx m0) (wi : Within m0 nl) (few : nl.length ≤ 1000)
    (hcd : W.clsIn K C = some cd) (mro : cd.mro = .ref C :: .ref pe :: arT) (hasD : cd.hasDict = true) (free : W.findIn K (.ref C) nm = some none)
    (done : ∀ h2 t2, (∀ b o, b ≠ dx → hp.get? b = some o → h2.get? b = some o) → h2.Ns1 dx (fun y => if y = nm then some v else m0 y) → R (.ok (.ret .none)) ⟨h2, g, dn, t2, os⟩) :
    codeAny (model prog w) A (.call (.builtin "object.__setattr__") ⟨[.ref x, .str nm nt, v], []⟩) R ⟨hp, g, dn, tk, os⟩ := by
  obtain ⟨oD, _, _, hoD, _, _⟩ := ns.count wi
  refine sa_head kin (ox := { cls := .ref C, dict := some dx, data := .fields fv }) (od := some oD) ⟨hx, rfl, rfl, hoD⟩ hcd mro free ?_
  have look : W.Looks (model prog w) hp (classData C) cd := W.looks_clsIn kin hcd
  obtain ⟨c1, c2, c3, c4, c5, hd, c7, c8, c9, c10, c11⟩ := cd
  dsimp only at hasD
  subst hasD
  unfold storeInOwnDict ownDictForStores
  repeat (first | with_reducible refine PySem.ESX.store_in_old ns wi few ?_ | with_reducible refine wpAny_loadPart_at hx ?_ | with_reducible refine look.at ?_ | wp_step)
  exact fun h2 t2 n2 sb => done h2 t2 (fun b o hb ho => (sb.2 b hb).trans ho) n2
end

/-- what the written part says of an error class at C -/
structure ErrC (K : PySem.W.Frag) (C : Addr) : Prop where
  cls : ∃ pe nm q N bs sn sub ab col dd k0 k1 k2 k3 k5, K.lookup C = some (excClassObj nm q C N bs (.ref pe :: arT) true sn sub ab col dd k0 k1 k2 k3 k5 "ArithmeticError.__new__")
  sa : PySem.W.findIn K (.ref C) "__setattr__" = some (some (.builtin "object.__setattr__"))
  exB : PySem.W.subIn K (.ref C) (.type "BaseException") = some true
  exA : PySem.W.subIn K (.ref C) (.type "ArithmeticError") = some true
  ty : PySem.W.typeIn K (.ref C) = some (.type "type")
  kp : PySem.W.keepIn K (.ref C) = true
section
variable {X : Cx} {pins : List (Addr × Obj)} {σ : L2.St} {H : Hp} {s : Shared} {a C dx : Addr} {f : Str} {y : V} {u : Value} {fs : List (Str × V)} {Q : Unit → Shared → Prop} {E : Value → Shared → Prop} {A : Around}
theorem ErrC.data {K : PySem.W.Frag} (T : ErrC K C) : ∃ pe cd, PySem.W.clsIn K C = some cd ∧ cd.mro = .ref C :: .ref pe :: arT ∧ cd.hasDict = true := by
  obtain ⟨pe, nm, q, N, bs, sn, sub, ab, col, dd, k0, k1, k2, k3, k5, hC⟩ := T.cls
  exact ⟨pe, { name := nm, bases := bs, mro := .ref C :: .ref pe :: arT, ns := N, qualname := q, hasDict := true, slotNames := sn, subclasses := sub, abstract := ab, collection := col, hasDel := false }, by unfold PySem.W.clsIn; rw [hC] <;> rfl, rfl, rfl⟩
theorem not_at {H : Hp} {b c : Addr} {o : HO} (h : H b = some o) (n : H c = none) : c ≠ b := fun z => by
  rw [z, h] at n
  cases n
/-- self.f = y where the error has no dict as yet -/
theorem err_first (T : ErrC X.K C) (I : Inv X pins σ H s) (e : H a = some (exo a C none)) (free : PySem.W.findIn X.K (.ref C) f = some none) (ry : RelV y u)
    (go : ∀ dx st, H dx = none → dx ≠ a → Inv X pins σ (upd (upd H dx (exd dx [(f, y)])) a (exo a C (some dx))) st → Q () st) : wpAny (model X.prog X.w) A (setAttr (.ref a) f u) Q E s := by
  obtain ⟨pe, cd, hcl, hm, hh⟩ := T.data
  obtain ⟨t1, ho⟩ := exo_at I.hok e
  obtain ⟨hp, g, d, t, os⟩ := s
  refine PySem.W.set_plain I.kIn (od := none) (ox := { cls := .ref C, dict := none, data := .fields #[.ref t1, .none, .none, .none, .bool false, .none] }) ⟨ho, rfl, rfl, trivial⟩ T.sa (sa_first I.kIn ho hcl hm hh free fun h2 t2 dx k lt ne hx hn => ?_)
  have hnd : H dx = none := I.hok.fresh lt
  have old : ∀ {b : Addr} {o : Obj}, hp.get? b = some o → b ≠ dx := fun {b o} q => Nat.ne_of_lt (Nat.lt_of_lt_of_le (Heap.lt_size q) lt)
  have stay : ∀ {b : Addr} {o : HO}, H b = some o → exo a C none ≠ o → upd (upd H dx (exd dx [(f, y)])) a (exo a C (some dx)) b = some o := fun {b o} q ne => by
    rw [upd_ne (at_ne e q ne), upd_ne (ne_of_none q hnd)]; exact q
  have U : Un X.fs [] H (upd (upd H dx (exd dx [(f, y)])) a (exo a C (some dx))) hp h2 := {
    keep := fun b o q n _ _ => k b o (not_at e n) q
    slot := fun b o q n _ _ => ⟨o.slots, k b o (not_at e n) q⟩
    free := fun b o q n _ => by rw [upd_ne (not_at e n), upd_ne (old q)]; exact n
    there := fun b o q _ => by
      by_cases hb : b = a
      · exact ⟨_, hb ▸ hx⟩
      · exact ⟨o, k b o hb q⟩
    tups := fun b xs q => stay q exo_tup
    frzs := fun b o v q => stay q exo_frz
    tbls := fun b ps q => ⟨#[], by rw [stay q exo_tbl]; simp⟩ }
  refine go dx _ hnd ne (I.un (t' := t2) U fun b o q => ?_)
  by_cases hb : b = a
  · subst hb; rw [upd_same] at q; cases q; exact exo_ok hx
  · rw [upd_ne hb] at q
    by_cases hd : b = dx
    · subst hd; rw [upd_same] at q; cases q
      exact exd_ok hn (relO_put (fs := []) ry fun _ => True.intro)
    · rw [upd_ne hd] at q
      refine (I.hok b o q).stay (fun c v hc z => k c v ?_ z) (fun c hc => stay hc exo_own) fun c xs hc => stay hc exo_tup
      rcases hc with hc | hc
      · exact hc ▸ hb
      · exact at_ne e hc exo_own
/-- self.f = y, a further field -/
theorem err_more (T : ErrC X.K C) (I : Inv X pins σ H s) (e : H a = some (exo a C (some dx))) (ed : H dx = some (exd dx fs)) (few : fs.length ≤ 900) (free : PySem.W.findIn X.K (.ref C) f = some none) (ry : RelV y u)
    (go : ∀ st, Inv X pins σ (upd H dx (exd dx ((f, y) :: fs))) st → Q () st) : wpAny (model X.prog X.w) A (setAttr (.ref a) f u) Q E s := by
  obtain ⟨pe, cd, hcl, hm, hh⟩ := T.data
  obtain ⟨t1, ho⟩ := exo_at I.hok e
  obtain ⟨mA, hns, rel⟩ := exd_at I.hok ed
  have hw := within_of rel
  obtain ⟨hp, g, d, t, os⟩ := s
  obtain ⟨oD, _, _, hoD, _, _⟩ := hns.count hw
  refine PySem.W.set_plain I.kIn (od := some oD) (ox := { cls := .ref C, dict := some dx, data := .fields #[.ref t1, .none, .none, .none, .bool false, .none] }) ⟨ho, rfl, rfl, hoD⟩ T.sa (sa_more I.kIn ho hns hw (by rw [List.length_map]; omega) hcl hm hh free fun h2 t2 k hn => ?_)
  have there : ∃ o, h2.get? dx = some o := ⟨_, hn.choose_spec.choose_spec.choose_spec.1⟩
  exact go _ (I.write (t' := t2) (x := dx) (e := dx) (o := exd dx ((f, y) :: fs)) (by rw [ed]; exact True.intro) (.inl rfl) k there (exd_ok hn (relO_put ry rel)))
end
/-- self.f = e in the __init__ of such an error -/
def tErrSet (K : PySem.W.Frag) (f : Str) (to te : TE) : TS := fun D σ H => te σ H fun y H1 => to σ H1 fun x H2 => ∃ a C : Addr, x = .ref a ∧ ErrC K C ∧ PySem.W.findIn K (.ref C) f = some none ∧
  ((H2 a = some (exo a C none) ∧ ∀ dx, H2 dx = none → dx ≠ a → D.nx σ (upd (upd H2 dx (exd dx [(f, y)])) a (exo a C (some dx)))) ∨
   (∃ (dx : Addr) (fs : List (Str × V)), H2 a = some (exo a C (some dx)) ∧ H2 dx = some (exd dx fs) ∧ fs.length ≤ 900 ∧ D.nx σ (upd H2 dx (exd dx ((f, y) :: fs)))))
theorem ps_errSet {X : Cx} {o e : Expr} {to te : TE} {f : Str} {p' pos : Pos} (ho : PE X o to) (he : PE X e te) (hs : swapsWith e (some (.Attribute o f p')) pos.line X.env = pure false := by rfl) : PS X (.Assign [.Attribute o f p'] e pos) (tErrSet X.K f to te) := by
  refine ⟨fun pins s σ H D I h => plainObj_wpAny_Assign_Attribute (thn (he.run pins s σ H _ I h) fun v s1 ⟨y, H1, I1, r1, q1⟩ => thn (ho.run pins s1 σ H1 _ I1 q1) fun u s2 ⟨x, H2, I2, r2, a, C, ex, T, free, q⟩ => ?_) hs⟩
  subst ex
  obtain rfl : u = Value.ref a := r2
  rcases q with ⟨ea, q⟩ | ⟨dx, fs, ea, ed, few, q⟩
  · exact err_first T I2 ea free r1 fun dx st n ne J => ⟨σ, _, J, q dx n ne⟩
  · exact err_more T I2 ea ed few free r1 fun st J => ⟨σ, _, J, q⟩
end Pk
set_option Elab.async false
set_option linter.all false
set_option maxRecDepth 100000
set_option maxHeartbeats 1000000
namespace Pk
open PySem L2 PySem.Spec PyProof.Rows
/-- the __init__ at fI of the error class at C: F its words, cc the cell of the class -/
structure InitFn (P : Program) (K : PySem.W.Frag) (C fI cc : Addr) (F : NdefX.NF) : Prop where
  fn : ∃ (oc : Value) (od : Option Addr) (kV doc pm : Value) (an : Option Addr) (ct : Value) (osl : Array (Option Value)), K.lookup fI = some ⟨oc, od, .func (PySem.W.fnX F.name F.qual F.params F.body F.scope F.cl .none kV doc pm an (.ref F.c) ct), osl⟩
  code : PySem.W.codeIn K (.ref F.c) F.qual = true
  cl : F.cl = [(("__class__" : Str), cc)]
  cell : ∃ (a : Value) (b : Option Addr) (c : Array (Option Value)), K.lookup cc = some ⟨a, b, .cell (some (.ref C)), c⟩
  file : ∃ (a : Value) (b : Option Addr) (vs : Array Value) (c : Array (Option Value)) (f : Str) (t : Tok), K.lookup F.c = some ⟨a, b, .fields vs, c⟩ ∧ vs[2]? = some (.str f t) ∧ ((P.main.file : Str) == f) = true
  top : (P.main.scope.names.lookup ("super" : Str)).isSome = false
  opq : PySem.W.nsIn K cStatics "thirdparty.any" = some none
  self : ∃ q, (F.params.posonlyargs ++ F.params.args).head? = some { arg := "self", annotation := none, pos := q }
  sup : PySem.W.ks_superIn K C C "__init__" = some (some (.builtin "ArithmeticError.__init__"))
  below : PySem.W.mroIn K C (.ref C) = some true
section
open PySem.W PySem.Calls
variable {P : Program} {w : World} {K : PySem.W.Frag} {mg : Str → Option Value} {base : Heap} {CX : CXT} {C fI cc : Addr} {F : NdefX.NF} {N ps : List Str} {A : Around} {outer : List Env} {s : Shared} {H : Hp} {Q : VK} {E : XK} {k : Nat}
/-- super().__init__(text): the error's own arguments are laid anew, nothing else is changed -/
theorem sup_init {X : Cx} {pins : List (Addr × Obj)} {σ : L2.St} {H : Hp} {s : Shared} {x u : Addr} {us : List Value} {Qv : Value → Shared → Prop} (T : ErrC X.K C) (I : Inv X pins σ H s) (ex : H x = some (exo x C none)) (hu : s.heap.get? u = some (kxs_mw "ArithmeticError.__init__" x)) (hz : us.length ≤ sizeLine)
    (go : ∀ st, Inv X pins σ H st → Qv .none st) : wpAny (model X.prog X.w) X.A (call (.ref u) us) Qv X.xe s := by
  obtain ⟨pe, nm, q, NN, bs, sn, sub, ab, col, dd, k0, k1, k2, k3, k5, hC⟩ := T.cls
  obtain ⟨t1, ho⟩ := exo_at I.hok ex
  have hC' := I.kIn _ _ hC
  have hE := PySem.F.excBase_ArithmeticError
  have fin : ∀ h2, (∀ b o, b ≠ x → s.heap.get? b = some o → h2.get? b = some o) → h2.get? x = some (excObj C s.heap.objs.size none .none) → Qv .none { s with heap := h2 } := fun h2 keep hx => by
    have J := I.write (t' := s.toks) (x := x) (e := x) (o := exo x C none) (by rw [ex]; exact True.intro) (.inl rfl) keep ⟨_, hx⟩ (exo_ok hx)
    have e2 : upd H x (exo x C none) = H := by
      funext b
      by_cases hb : b = x
      · rw [hb, upd_same, ex]
      · rw [upd_ne hb]
    rw [e2] at J
    exact go _ J
  obtain ⟨hp, g, d, tk, os⟩ := s
  refine wpAny_call (codeAny_of_tree ?_)
  show wpAny _ X.A.in1 (callAny (.ref u) ⟨us, []⟩) _ _ _
  simp only [callAny]
  refine wpAny_bind (wpAny_load hu ?_)
  simp only [kxs_mw, show (Value.type "method-wrapper" == Value.type "method" || Value.type "method-wrapper" == Value.type "builtin_function_or_method" || Value.type "method-wrapper" == Value.type "method-wrapper") = true from by decide, if_true]
  refine KFB.if_so (by decide) (wpAny_bind (check_bound_init hE.toExcCallFacts hC' ho rfl (wpAny_bind (wpAny_pure (wpAny_pure ⟨plainId_quiet hE.init.plain _, codeAny_builtin hE.initEntry ?_⟩)))))
  exact exc_init_tree (cls := .ref C) (t0 := t1) (dv := none) (c2 := .none) (c3 := .none) (b4 := .bool false) ho hz fun h2 keep hx _ => fin h2 keep hx

/-- THE RULE of such an __init__: behind its first row the rest of its body runs as a def's body does, the class in its cell -/
theorem init_run {msg : Str} {kd : Nat} {p0 p1 p2 p3 p4 p5 : Pos} {rest : List Stmt} {us : List Value} {vs : List V} {x : Addr} (T : ErrC K C) (J : InitFn P K C fI cc F) (ms : mg "super" = none) (S : NdefX.NScope N ps ["__class__"] F.scope)
    (hB : F.body = .Expr (.Call (.Attribute (.Call (.Name "super" p0) [] [] p1) "__init__" p2) [.Constant (.str msg) kd p3] [] p4) p5 :: rest) (hsg : F.scope.names.lookup ("super" : Str) = some .globalImplicit)
    (hsl : F.scope.names.lookup ("self" : Str) = some .local) (hr : Room (k + 1) A) (e0 : Env0 P w K mg base A outer s H)
    (hb : ∀ (kV doc pm ct : Value) (an : Option Addr), BindsTo s (PySem.W.fnX F.name F.qual F.params F.body F.scope F.cl .none kV doc pm an (.ref F.c) ct) ⟨us, []⟩ (ps.zip us)) (r : Vals vs us) (hl : vs.length = ps.length)
    (hs0 : ps[0]? = some ("self" : Str)) (hv0 : vs[0]? = some (.ref x)) (ex : H x = some (exo x C none))
    {pl : Sem Bool} (he : ∀ env : Env, eval (.Call (.Attribute (.Call (.Name "super" p0) [] [] p1) "__init__" p2) [.Constant (.str msg) kd p3] [] p4) env = (do
      let ov ← attributeBase (.Call (.Name "super" p0) [] [] p1) "__init__" env (eval (.Call (.Name "super" p0) [] [] p1) env)
      standAt p2.atName
      let (f, first) ← holding [ov] (getMethod ov "__init__" pl)
      callWith p4 f first (backTo p4 (starEach [.Constant (.str msg) kd p3] env)) []))
    (hq : Room k (A.deeper (NdefX.envF F fI s.heap.objs.size)) → ∃ t, PSs (NdefX.ncx CX P w K mg base N F fI A outer s H E) rest t ∧ t { nx := fun _ H' => Q .non H', rt := Q } (NdefX.startF N vs [some (.ref C)]) H) :
    codeAny (model P w) A (.call (.ref fI) ⟨us, []⟩) (CR CX outer P w H s Q E) s := by
  obtain ⟨oc, od, kV, doc, pm, an, ct, osl, lk⟩ := J.fn
  obtain ⟨ca, cb, ccs, hcell⟩ := J.cell
  obtain ⟨fa, fb, fvs, fc, ff, ft, hcode, hvs, hfile⟩ := J.file
  obtain ⟨aq, hself⟩ := J.self
  obtain ⟨pe, cd, hcd, hmro, hhd⟩ := T.data
  have kin0 : K.In s.heap := e0.mod.kin.keeps fun b o e => (e0.bs b o e).1
  have lim : s.heap.NoLimit := e0.mod.nolimit.keeps fun b o e => (e0.bs b o e).1
  have cells : NdefX.CellsAt F.cl ["__class__"] [some (.ref C)] s.heap H := by
    have there : s.heap.IsCell cc (some (.ref C)) := ⟨_, kin0 _ _ hcell, rfl⟩
    have one : ∀ (y : Str) (c : Addr), F.cl.lookup y = some c → y = "__class__" ∧ c = cc := fun y c e => by
      rw [J.cl] at e
      have m := PySem.mem_of_lookup e
      simp only [List.mem_singleton, Prod.mk.injEq] at m
      exact m
    refine ⟨rfl, fun y c e => ?_, fun y z c e1 e2 => (one y c e1).1.trans (one z c e2).1.symm, fun i y e => ?_⟩
    · obtain ⟨_, rfl⟩ := one y c e
      exact ⟨(e0.bs _ _ (e0.mod.kin _ _ hcell)).2, _, there⟩
    · have ey : y = "__class__" := by
        match i, e with
        | 0, e => exact (Option.some.inj e).symm
        | i + 1, e => simp at e
      subst ey
      refine ⟨cc, by rw [J.cl]; simp [List.lookup], fun v e => ?_⟩
      match i, e with
      | 0, e => exact ⟨.ref C, by have z := Option.some.inj (Option.some.inj e); subst z; rfl, there⟩
      | i + 1, e => simp at e
  have ndP : ps.Nodup := by
    have q := S.nd.sublist (List.take_sublist (ps.length + [("__class__" : Str)].length) N)
    rw [S.pre] at q
    exact (List.nodup_append.mp q).1
  have hu0 : us[0]? = some (.ref x) := by
    obtain ⟨u, hu, ru⟩ := r.get hv0
    rw [hu]
    exact congrArg some ru
  refine ks_codeAny_call_defAt (fd := PySem.W.fnX F.name F.qual F.params F.body F.scope F.cl .none kV doc pm an (.ref F.c) ct) (body := F.body) (binds := ps.zip us) hr.depth (kin0 _ _ lk) rfl lim (PySem.W.codeRec_of kin0 J.code) rfl (hb kV doc pm ct an) S.nocell
    (fun ⟨n, v⟩ hy => S.par n (List.of_mem_zip hy).1) (fun h₁ hns hk₁ => ?_) S.co S.gen S.kind
  have I : Inv (NdefX.ncx CX P w K mg base N F fI A outer s H E) [] (NdefX.startF N vs [some (.ref C)]) H { s with heap := h₁, toks := s.toks + (ps.zip us).length } := NdefX.inv_startN S hr.hd e0 hl r cells hns hk₁
  obtain ⟨t, ht, hgo⟩ := hq (hr.deeper _)
  show PySem.wpAt _ (A.deeper (NdefX.envF F fI s.heap.objs.size)) (.func F.body (NdefX.envF F fI s.heap.objs.size)) (execs F.body (NdefX.envF F fI s.heap.objs.size)) _ _ _
  rw [hB]
  have hx1 : ∃ t1, h₁.get? x = some (excObj C t1 none .none) := exo_at I.hok ex
  obtain ⟨t1, hx1⟩ := hx1
  have kin1 : K.In h₁ := I.kIn
  obtain ⟨oD, hD1, hD2⟩ : ∃ oD, h₁.get? C = some oD ∧ oD.data = .cls cd := by
    have q := hcd
    unfold PySem.W.clsIn at q
    split at q
    · rename_i c' d' cd' sl' ho
      cases q
      exact ⟨_, kin1 _ _ ho, rfl⟩
    · cases q
  have fin : ∀ st, Inv (NdefX.ncx CX P w K mg base N F fI A outer s H E) [] (NdefX.startF N vs [some (.ref C)]) H st →
      wpAny (model P w) (A.deeper (NdefX.envF F fI s.heap.objs.size)) (execs rest (NdefX.envF F fI s.heap.objs.size)) (fun f s' => CR CX outer P w H s Q E (.ok (.ret (match f with | .ret v => v | _ => .none))) s')
        (fun e s' => wpAny (model P w) (A.deeper (NdefX.envF F fI s.heap.objs.size)) (leaving (NdefX.envF F fI s.heap.objs.size) e) (fun _ s'' => CR CX outer P w H s Q E (.error e) s'') (fun e' s'' => CR CX outer P w H s Q E (.error e') s'') s') st := fun st I2 => by
    refine wpAny_mono (ht.run [] st _ H _ I2 hgo) (fun fl s' hs => ?_) fun e s' hs => hs
    have close : ∀ {σ' : L2.St} {H' : Hp} {v : V} {u : Value}, Inv (NdefX.ncx CX P w K mg base N F fI A outer s H E) [] σ' H' s' → L2.RelV v u → Q v H' → CE outer P w H s Q u s' := fun {σ' H' v u} Z rv q => ⟨v, H', Z.os, Z.bare, Z.base, Z.hok, rv, q⟩
    cases fl with
    | ret u =>
      obtain ⟨v, σ', H', Z, rv, q⟩ := hs
      exact close Z rv q
    | next =>
      obtain ⟨σ', H', Z, q⟩ := hs
      exact close (v := V.non) (u := Value.none) Z rfl q
    | brk => exact (hs.choose_spec.choose_spec.2 : False).elim
    | cont => exact (hs.choose_spec.choose_spec.2 : False).elim
  refine ks_wpAt_execs_cons (ks_wpAt_Expr_any (ks_wpAt_MethodCall (ks_wpAt_super_base (cc := F.c) (f := fI) (ar := { arg := "self", annotation := none, pos := aq }) hsg (S.frk _ (by simp)) (by decide) rfl (kin1 _ _ lk) rfl hself rfl (kin1 _ _ hcode) rfl hvs hfile J.top ?_) (he _)) I.quiet ?sw)
  case sw => rfl
  obtain ⟨mb, hm1, hm2⟩ := e0.mod.blt
  refine ks_loadName_global S.kind hsg (loadGlobal_builtin (env := NdefX.envF F fI s.heap.objs.size) (e0.mod.glob.keeps I.bk) ms (hm1.keeps I.bk) ((hm2 "super" (by decide)).trans (by decide +kernel)) ⟨rfl, ?_⟩)
  refine wpAny_loadName_free S.kind (S.frk _ (by simp)) (show F.cl.lookup ("__class__" : Str) = some cc by rw [J.cl]; simp [List.lookup]) ⟨_, kin1 _ _ hcell, rfl⟩ ?_
  refine wpAny_loadName_local S.kind hsl hns (NdefX.zip_look ndP hs0 hu0) (ks_wpAny_isType_cls hD1 hD2 ⟨rfl, ?_⟩)
  have nocls : ∀ c, (excObj C t1 none .none).data ≠ .cls c := fun c z => by cases z
  refine ks_wpAny_call_super hD1 hD2 hx1 rfl nocls (PySem.W.looks_mroIn kin1 J.below) (fun h2 eso k2 => ?_)
  have I2 := I.kept (t' := s.toks + (ps.zip us).length) k2
  have kin2 : K.In h2 := I2.kIn
  have inst : PySem.W.InstAt h2 x (excObj C t1 none .none) C none := ⟨k2 _ _ hx1, rfl, rfl, trivial⟩
  have along : PySem.W.alongIn K "__init__" ((cd.mro.dropWhile (· != .ref C)).drop 1) = some (some (.builtin "ArithmeticError.__init__")) := by
    have q := J.sup
    unfold PySem.W.ks_superIn at q
    rw [hcd] at q
    exact q
  refine kxs_getMethod kxs_ArithmeticError eso (PySem.W.looks_opaque kin2 J.opq) ((PySem.W.looks_clsIn kin2 hcd).andThen .now) rfl kin2 along (inst.type.andThen (PySem.W.looks_subIn kin2 T.exA)) (PySem.W.ks_ne kin2 inst hcd) (by decide) ?_
  refine kxs_callWith (i := "ArithmeticError.__init__") (x := x) rfl ?_
  have hu : (h2.push (kxs_mw "ArithmeticError.__init__" x)).get? h2.objs.size = some (kxs_mw "ArithmeticError.__init__" x) := Heap.get?_push_at rfl rfl
  have fr : H h2.objs.size = none := I2.hok.fresh (Nat.le_refl _)
  have I3 := I2.kept (t' := s.toks + (ps.zip us).length + 1) (h' := h2.push (kxs_mw "ArithmeticError.__init__" x)) fun b o e => Heap.get?_push_of_some _ e
  have I4 : Inv (NdefX.ncx CX P w K mg base N F fI A outer s H E) [(h2.objs.size, kxs_mw "ArithmeticError.__init__" x)] (NdefX.startF N vs [some (.ref C)]) H { s with heap := h2.push (kxs_mw "ArithmeticError.__init__" x), toks := s.toks + (ps.zip us).length + 1 } :=
    ⟨I3.ok, I3.os, I3.bare, I3.base, I3.loc, I3.cell, I3.free, I3.freeC, fun p hp => by
      have e : p = (h2.objs.size, kxs_mw "ArithmeticError.__init__" x) := by
        have q : p ∈ [] ++ [(h2.objs.size, kxs_mw "ArithmeticError.__init__" x)] := hp
        simpa using q
      subst e
      exact ⟨hu, fr, Nat.ne_of_gt I2.lt, I2.nofs (Nat.le_refl _), fun v z => by cases z⟩, I3.hok, I3.len⟩
  have arg : PA (NdefX.ncx CX P w K mg base N F fI A outer s H E) [.Constant (.str msg) kd p3] (tCons (tC (.str msg)) tNil) := pa_cons pe_str pa_nil
  refine evalArgs_plain (thn (arg.run p4 _ _ _ H (fun us2 H2 => us2 = [.str msg] ∧ H2 = H) I4 ⟨rfl, rfl⟩) fun us2 s3 h3 => ?_)
  obtain ⟨vs2, H3, I5, r5, rfl, rfl⟩ := h3
  have mu : s3.heap.get? h2.objs.size = some (kxs_mw "ArithmeticError.__init__" x) := (I5.pin (h2.objs.size, kxs_mw "ArithmeticError.__init__" x) (List.mem_append_right _ (List.mem_singleton.mpr rfl))).1
  have one : us2.length ≤ sizeLine := by
    have z := Paired.length r5
    rw [← z, sizeLine_eq]
    show 1 ≤ 16777216
    decide
  refine ⟨mu, sup_init (us := us2) T I5 ex mu one fun st I6 => ?_⟩
  refine wpAt_of_wpAny (fin st ⟨I6.ok, I6.os, I6.bare, I6.base, I6.loc, I6.cell, I6.free, I6.freeC, fun p hp => I6.pin p (List.mem_append_left _ ?_), I6.hok, I6.len⟩)
  have q : p ∈ [] ++ [] := hp
  simpa using q
end
end Pk
set_option Elab.async false
set_option linter.all false
set_option maxRecDepth 100000
set_option maxHeartbeats 1000000
/-! Data of lists and tuples of bounded depth; copies of it that share no list. -/
namespace Pk
open PySem L2
/-- nested at most n deep, no list or tuple longer than 1000 -/
inductive Deep : Nat → PyData → Prop
  | non {n : Nat} : Deep n .none
  | bl {n : Nat} (b : Bool) : Deep n (.bool b)
  | int {n : Nat} (i : Int) : Deep n (.int i)
  | str {n : Nat} (z : Str) : Deep n (.str z)
  | lst {n : Nat} {ds : List PyData} (h : ∀ d ∈ ds, Deep n d) (z : ds.length ≤ 1000) : Deep (n + 1) (.list ds)
  | tup {n : Nat} {ds : List PyData} (h : ∀ d ∈ ds, Deep n d) (z : ds.length ≤ 1000) : Deep (n + 1) (.tuple ds)
theorem Deep.mono {n m : Nat} {d : PyData} (h : Deep n d) (l : n ≤ m) : Deep m d := by
  induction h generalizing m with
  | non => exact .non
  | bl b => exact .bl b
  | int i => exact .int i
  | str z => exact .str z
  | lst h z ih =>
    obtain ⟨k, rfl⟩ : ∃ k, m = k + 1 := ⟨m - 1, by omega⟩
    exact .lst (fun d hd => ih d hd (by omega)) z
  | tup h z ih =>
    obtain ⟨k, rfl⟩ : ∃ k, m = k + 1 := ⟨m - 1, by omega⟩
    exact .tup (fun d hd => ih d hd (by omega)) z
/-- v is the data d in H, and every list and tuple of it is new: not tracked in H0 -/
inductive Own (H0 H : Hp) : V → PyData → Prop
  | non : Own H0 H .non .none
  | bl (b : Bool) : Own H0 H (.bl b) (.bool b)
  | int (i : Int) : Own H0 H (.int i) (.int i)
  | str (z : Str) : Own H0 H (.str z) (.str z)
  | lst {a : Addr} {xs : List V} {ds : List PyData} (n : H0 a = none) (h : H a = some (.lst xs)) (hl : xs.length = ds.length) (hs : ∀ (i : Nat) (v : V) (d : PyData), xs[i]? = some v → ds[i]? = some d → Own H0 H v d) : Own H0 H (.ref a) (.list ds)
  | tup {a : Addr} {xs : List V} {ds : List PyData} (n : H0 a = none) (h : H a = some (.tup xs)) (hl : xs.length = ds.length) (hs : ∀ (i : Nat) (v : V) (d : PyData), xs[i]? = some v → ds[i]? = some d → Own H0 H v d) : Own H0 H (.ref a) (.tuple ds)
theorem Own.mono {H0 H H0' H' : Hp} {v : V} {d : PyData} (o : Own H0 H v d) (f : ∀ a, H0 a = none → H a ≠ none → H0' a = none) (k : ∀ a u, H0 a = none → H a = some u → (∃ xs, u = .lst xs ∨ u = .tup xs) → H' a = some u) : Own H0' H' v d := by
  induction o with
  | non => exact .non
  | bl b => exact .bl b
  | int i => exact .int i
  | str z => exact .str z
  | lst n h hl _ ih => exact .lst (f _ n (by rw [h]; exact Option.some_ne_none _)) (k _ _ n h ⟨_, .inl rfl⟩) hl fun i v d e1 e2 => ih i v d e1 e2
  | tup n h hl _ ih => exact .tup (f _ n (by rw [h]; exact Option.some_ne_none _)) (k _ _ n h ⟨_, .inr rfl⟩) hl fun i v d e1 e2 => ih i v d e1 e2
theorem Own.later {H0 H H' : Hp} {v : V} {d : PyData} (o : Own H0 H v d) (s : Same H H') : Own H0 H' v d := o.mono (fun _ n _ => n) fun a u _ h _ => s a u h
/-- made later than H0, so also later than what H0 has grown from -/
theorem Own.back {H0 H1 H : Hp} {v : V} {d : PyData} (o : Own H1 H v d) (s : Same H0 H1) : Own H0 H v d := by
  induction o with
  | non => exact .non
  | bl b => exact .bl b
  | int i => exact .int i
  | str z => exact .str z
  | lst n h hl _ ih => exact .lst (s.free n) h hl ih
  | tup n h hl _ ih => exact .tup (s.free n) h hl ih
theorem dpAll_of {K : PySem.W.Frag} {H : Hp} : ∀ {xs : List V} {ds : List PyData}, xs.length = ds.length → (∀ (i : Nat) (v : V) (d : PyData), xs[i]? = some v → ds[i]? = some d → Dp K H v d) → DpAll K H xs ds
  | [], [], _, _ => .nil
  | [], _ :: _, h, _ => by cases h
  | _ :: _, [], h, _ => by cases h
  | x :: xs, d :: ds, h, k => .cons (k 0 x d rfl rfl) (dpAll_of (Nat.succ.inj h) fun i v e e1 e2 => k (i + 1) v e e1 e2)
theorem dpAll_len {K : PySem.W.Frag} {H : Hp} : ∀ {xs : List V} {ds : List PyData}, DpAll K H xs ds → xs.length = ds.length
  | _, _, .nil => rfl
  | _, _, .cons _ t => congrArg Nat.succ (dpAll_len t)
theorem dpAll_at {K : PySem.W.Frag} {H : Hp} : ∀ {xs : List V} {ds : List PyData} {i : Nat} {v : V}, DpAll K H xs ds → xs[i]? = some v → ∃ d, ds[i]? = some d ∧ Dp K H v d
  | _, _, _, _, .nil, e => by simp at e
  | _, _, 0, _, .cons h _, e => ⟨_, rfl, by have z := Option.some.inj e; subst z; exact h⟩
  | _, _, i + 1, _, .cons _ t, e => dpAll_at (i := i) t e
theorem Own.dp {K : PySem.W.Frag} {H0 H : Hp} {v : V} {d : PyData} (o : Own H0 H v d) : Dp K H v d := by
  induction o with
  | non => exact .non
  | bl b => exact .bl b
  | int i => exact .int i
  | str z => exact .str z
  | lst n h hl _ ih => exact .lst (SqL.of h) (dpAll_of hl ih)
  | tup n h hl _ ih => exact .tup (SqT.of h) (dpAll_of hl ih)
/-- lists, tuples and what is locked -/
def IsLT (u : HO) : Prop := (∃ xs, u = .lst xs) ∨ (∃ xs, u = .tup xs) ∨ ∃ o z, u = .frz o z
/-- these are as they were -/
def SameD (H H' : Hp) : Prop := ∀ a u, IsLT u → H a = some u → H' a = some u
theorem SameD.of {H H' : Hp} (s : Same H H') : SameD H H' := fun a u _ h => s a u h
theorem SameD.trans {H H1 H2 : Hp} (a : SameD H H1) (b : SameD H1 H2) : SameD H H2 := fun c u l h => b c u l (a c u l h)
theorem SameD.seqL {K : PySem.W.Frag} {H H' : Hp} (s : SameD H H') {a : Addr} {xs : List V} (h : SqL K H a xs) : SqL K H' a xs := by
  rcases h with (h | ⟨o, h⟩) | h
  · exact .inl (.inl (s _ _ (.inl ⟨_, rfl⟩) h))
  · exact .inl (.inr ⟨o, s _ _ (.inr (.inr ⟨_, _, rfl⟩)) h⟩)
  · exact .inr h
theorem SameD.seqT {K : PySem.W.Frag} {H H' : Hp} (s : SameD H H') {a : Addr} {xs : List V} (h : SqT K H a xs) : SqT K H' a xs := by
  rcases h with (h | ⟨o, h⟩) | h
  · exact .inl (.inl (s _ _ (.inr (.inl ⟨_, rfl⟩)) h))
  · exact .inl (.inr ⟨o, s _ _ (.inr (.inr ⟨_, _, rfl⟩)) h⟩)
  · exact .inr h
mutual
theorem Dp.laterD {K : PySem.W.Frag} {H H' : Hp} (s : SameD H H') : ∀ {v : V} {d : PyData}, Dp K H v d → Dp K H' v d
  | _, _, .non => .non
  | _, _, .bl b => .bl b
  | _, _, .int i => .int i
  | _, _, .str z => .str z
  | _, _, .lst h t => .lst (s.seqL h) (DpAll.laterD s t)
  | _, _, .tup h t => .tup (s.seqT h) (DpAll.laterD s t)
theorem DpAll.laterD {K : PySem.W.Frag} {H H' : Hp} (s : SameD H H') : ∀ {xs : List V} {ds : List PyData}, DpAll K H xs ds → DpAll K H' xs ds
  | _, _, .nil => .nil
  | _, _, .cons h t => .cons (Dp.laterD s h) (DpAll.laterD s t)
end
theorem Dp.later {K : PySem.W.Frag} {H H' : Hp} (s : Same H H') {v : V} {d : PyData} (h : Dp K H v d) : Dp K H' v d := Dp.laterD (.of s) h
theorem DpAll.later {K : PySem.W.Frag} {H H' : Hp} (s : Same H H') {xs : List V} {ds : List PyData} (h : DpAll K H xs ds) : DpAll K H' xs ds := DpAll.laterD (.of s) h
/-- the built-in class of a piece of data -/
def kindOf : PyData → String
  | .none => "NoneType" | .bool _ => "bool" | .int _ => "int" | .str _ => "str" | .list _ => "list" | .tuple _ => "tuple" | _ => "object"
theorem Dp.kind {K : PySem.W.Frag} {H : Hp} {v : V} {d : PyData} (h : Dp K H v d) : TyX K H v (.type (kindOf d)) := by
  cases h with
  | non => exact .base .non
  | bl b => exact .base (.bl b)
  | int i => exact .base (.int i)
  | str z => exact .base (.str z)
  | lst h _ =>
    rcases h with (h | ⟨o, h⟩) | ⟨o, its, n, h, c, _⟩
    · exact .base (.lst h)
    · exact .base (.frz h)
    · exact .kList h c
  | tup h _ =>
    rcases h with (h | ⟨o, h⟩) | ⟨o, its, n, h, c, _⟩
    · exact .base (.tup h)
    · exact .fTuple h
    · exact .kTuple h c
/-- isinstance(x, T), T a built-in class -/
theorem r_isi {K : PySem.W.Frag} {H : Hp} {Q : VK} {x : V} {a b : String} {r : Bool} (t : TyX K H x (.type a)) (e : kitB a b = some r) (h : Q (.bl r) H) : rIsi K [x, .ty b] H Q := ⟨x, .ty b, _, _, r, rfl, .ty b, t, kit_ty e, h⟩
/-- own_copy(value), for data at most n deep -/
def spCopy (K : PySem.W.Frag) (n : Nat) : Sp := fun vs H Q _ => ∃ (v : V) (d : PyData), vs = [v] ∧ Dp K H v d ∧ Deep n d ∧ ∀ (v' : V) (H' : Hp), Same H H' → Own H H' v' d → Q v' H'
/-- _law_same(a, b) of two values that are the same data -/
def spSame (K : PySem.W.Frag) (n : Nat) : Sp := fun vs H Q _ => ∃ (a b : V) (d : PyData), vs = [a, b] ∧ Dp K H a d ∧ Dp K H b d ∧ Deep n d ∧ Q (.bl true) H
theorem kit_list (d : PyData) : ∃ r, kitB (kindOf d) "list" = some r ∧ (r = true ↔ ∃ ds, d = .list ds) := by
  cases d with
  | none => exact ⟨false, (by decide +kernel : kitB "NoneType" "list" = some false), ⟨(fun z => by cases z), (fun z => by obtain ⟨_, z⟩ := z; cases z)⟩⟩
  | bool b => exact ⟨false, (by decide +kernel : kitB "bool" "list" = some false), ⟨(fun z => by cases z), (fun z => by obtain ⟨_, z⟩ := z; cases z)⟩⟩
  | int i => exact ⟨false, (by decide +kernel : kitB "int" "list" = some false), ⟨(fun z => by cases z), (fun z => by obtain ⟨_, z⟩ := z; cases z)⟩⟩
  | str z => exact ⟨false, (by decide +kernel : kitB "str" "list" = some false), ⟨(fun z => by cases z), (fun z => by obtain ⟨_, z⟩ := z; cases z)⟩⟩
  | list ds => exact ⟨true, (by decide +kernel : kitB "list" "list" = some true), ⟨fun _ => ⟨ds, rfl⟩, fun _ => rfl⟩⟩
  | tuple ds => exact ⟨false, (by decide +kernel : kitB "tuple" "list" = some false), ⟨(fun z => by cases z), (fun z => by obtain ⟨_, z⟩ := z; cases z)⟩⟩
  | dict kv => exact ⟨false, (by decide +kernel : kitB "object" "list" = some false), ⟨(fun z => by cases z), (fun z => by obtain ⟨_, z⟩ := z; cases z)⟩⟩
theorem kit_tuple (d : PyData) : ∃ r, kitB (kindOf d) "tuple" = some r ∧ (r = true ↔ ∃ ds, d = .tuple ds) := by
  cases d with
  | none => exact ⟨false, (by decide +kernel : kitB "NoneType" "tuple" = some false), ⟨(fun z => by cases z), (fun z => by obtain ⟨_, z⟩ := z; cases z)⟩⟩
  | bool b => exact ⟨false, (by decide +kernel : kitB "bool" "tuple" = some false), ⟨(fun z => by cases z), (fun z => by obtain ⟨_, z⟩ := z; cases z)⟩⟩
  | int i => exact ⟨false, (by decide +kernel : kitB "int" "tuple" = some false), ⟨(fun z => by cases z), (fun z => by obtain ⟨_, z⟩ := z; cases z)⟩⟩
  | str z => exact ⟨false, (by decide +kernel : kitB "str" "tuple" = some false), ⟨(fun z => by cases z), (fun z => by obtain ⟨_, z⟩ := z; cases z)⟩⟩
  | list ds => exact ⟨false, (by decide +kernel : kitB "list" "tuple" = some false), ⟨(fun z => by cases z), (fun z => by obtain ⟨_, z⟩ := z; cases z)⟩⟩
  | tuple ds => exact ⟨true, (by decide +kernel : kitB "tuple" "tuple" = some true), ⟨fun _ => ⟨ds, rfl⟩, fun _ => rfl⟩⟩
  | dict kv => exact ⟨false, (by decide +kernel : kitB "object" "tuple" = some false), ⟨(fun z => by cases z), (fun z => by obtain ⟨_, z⟩ := z; cases z)⟩⟩
theorem kit_dict {n : Nat} {d : PyData} (h : Deep n d) : kitB (kindOf d) "dict" = some false := by
  cases h with
  | non => exact (by decide +kernel : kitB "NoneType" "dict" = some false)
  | bl b => exact (by decide +kernel : kitB "bool" "dict" = some false)
  | int i => exact (by decide +kernel : kitB "int" "dict" = some false)
  | str z => exact (by decide +kernel : kitB "str" "dict" = some false)
  | lst h z => exact (by decide +kernel : kitB "list" "dict" = some false)
  | tup h z => exact (by decide +kernel : kitB "tuple" "dict" = some false)
end Pk
set_option Elab.async false
set_option linter.all false
set_option maxRecDepth 100000
set_option maxHeartbeats 1000000
namespace Pk
open PySem L2 PySem.Spec PyProof.Rows
/-- the __init__ at fI keeps sp, its first argument an error that is being made -/
structure ErrOk (P : Program) (w : World) (K : PySem.W.Frag) (mg : Str → Option Value) (base : Heap) (k : Nat) (C fI : Addr) (sp : Sp) : Prop where
  run : ∀ (A : Around) (outer : List Env) (s : Shared) (H : Hp) (us : List Value) (vs : List V) (x : Addr) (Q : VK), Room k A → Env0 P w K mg base A outer s H → Vals (.ref x :: vs) us → H x = some (exo x C none) → sp (.ref x :: vs) H Q (fun _ _ _ => False) →
    codeAny (model P w) A (.call (.ref fI) ⟨us, []⟩) (CR CX0 outer P w H s Q (fun _ _ _ => False)) s
/-- C(e, ..) -/
def tMkErr (C : Addr) (sp : Sp) (ta : TA) : L2.St → Hp → XK → Prop := fun σ H Q => ta σ H fun vs H1 => vs.length ≤ 1000 ∧ ∀ x, H1 x = none →
  sp (.ref x :: vs) (upd H1 x (exo x C none)) (fun v H2 => v = .non ∧ ∃ (d : Addr) (fs : List (Str × V)), H2 x = some (exo x C (some d)) ∧ H2 d = some (exd d fs) ∧ H1 d = none ∧ Q (.ref C) (some d) (upd (del H2 x) d (.xd fs))) (fun _ _ _ => False)
theorem pmk_err {X : Cx} {x : Str} {C fI : Addr} {k : Nat} {sp : Sp} {p pos : Pos} {e : Expr} {es : List Expr} {ta : TA} (T : ErrC X.K C) (iC : PySem.W.findIn X.K (.ref C) "__init__" = some (some (.ref fI))) (tI : PySem.W.typeIn X.K (.ref fI) = some (.type "function"))
    (G : ErrOk X.prog X.w X.K X.mg X.base k C fI sp) (hr : Room (k + 1) X.A) (hg : Gl X x) (hm : X.mg x = some (.ref C)) (ha : PA X (e :: es) ta)
    (hdb : (x == ("__debug__" : Str)) = false := by decide) (he : starEach (e :: es) X.env = (false, eval e X.env) :: starEach es X.env := by rfl) (hpl : (backTo pos (starEach es X.env)).any (·.1) = false := by rfl) : PMk X (.Call (.Name x p) (e :: es) [] pos) (tMkErr C sp ta) := by
  intro pins s σ H Q I h
  obtain ⟨pe, nm, q, N, bs, sn, sub, ab, col, dd, k0, k1, k2, k3, k5, hC⟩ := T.cls
  refine wpAny_Call_Name_kw (ld_glob I hg hm (PySem.W.callWith_K (h₀ := X.base) I.ok.mod.kin T.kp (thn (ha.run pos pins s σ H _ I h) fun us s1 ⟨vs, H1, I1, r1, hz, q1⟩ => ⟨I1.kIn, ?_⟩) he hpl) hdb)
  show wpAny _ _ (call (.ref C) us) _ _ _
  obtain ⟨hp, g, dr, tk, os⟩ := s1
  have up := Nat.le_succ hp.objs.size
  have hq := q1 (hp.objs.size + 1) (I1.hok.fresh up)
  have kk : ∀ b o, hp.get? b = some o → ((hp.push (PySem.W.kdv_tup us)).push (PySem.HandSPX.excO C hp.objs.size)).get? b = some o := fun b o z => Heap.get?_push_of_some _ (Heap.get?_push_of_some _ z)
  have made : ((hp.push (PySem.W.kdv_tup us)).push (PySem.HandSPX.excO C hp.objs.size)).get? (hp.objs.size + 1) = some (PySem.HandSPX.excO C hp.objs.size) := by heap_get
  have I2 := I1.laid (t' := tk) (a := hp.objs.size + 1) (o := exo (hp.objs.size + 1) C none) kk up (exo_ok made)
  have short : us.length ≤ sizeLine := by
    rw [← Paired.length r1, sizeLine_eq]; omega
  refine wpAny_call (PySem.HandSPX.call_own PySem.F.excBase_ArithmeticError arT_same (I1.kIn _ _ hC) (PySem.W.looks_findIn I1.kIn iC) (fun z => PySem.W.bind_fn I1.kIn z tI) short
    (codeAny_mono (G.run _ X.stack _ _ (Value.ref (hp.objs.size + 1) :: us) vs (hp.objs.size + 1) _ (hr.make C us []) (I2.env0.make C us []) (.cons rfl r1) upd_same hq) fun r st z => ?_))
  cases r with
  | error er => exact (show False from z).elim
  | ok fl =>
    cases fl with
    | ret u =>
      obtain ⟨v, H2, os2, bare2, un2, hok2, rv, ev, d, fs, ea, ed, hd1, q2⟩ := z
      subst ev
      obtain ⟨h2, g2, d2, t2, os'⟩ := st
      exact ⟨rv, mk_end (raises_own T.exB T.ty) I1 up kk un2 hok2 os2 bare2 ea ed hd1 q2⟩
    | next => exact False.elim z
    | brk => exact False.elim z
    | cont => exact False.elim z

theorem r_errSet {K : PySem.W.Frag} {f : Str} {to te : TE} {D : Ends} {σ : L2.St} {H : Hp} (h : te σ H fun y H1 => to σ H1 fun x H2 => ∃ a C : Addr, x = .ref a ∧ ErrC K C ∧ PySem.W.findIn K (.ref C) f = some none ∧
  ((H2 a = some (exo a C none) ∧ ∀ dx, H2 dx = none → dx ≠ a → D.nx σ (upd (upd H2 dx (exd dx [(f, y)])) a (exo a C (some dx)))) ∨
   (∃ (dx : Addr) (fs : List (Str × V)), H2 a = some (exo a C (some dx)) ∧ H2 dx = some (exd dx fs) ∧ fs.length ≤ 900 ∧ D.nx σ (upd H2 dx (exd dx ((f, y) :: fs)))))) : tErrSet K f to te D σ H := h
/-- an __init__ of one field, a copy of what it is passed -/
def spErr1 (K : PySem.W.Frag) (n : Nat) (C : Addr) (f : Str) : Sp := fun vs H Q _ => ∃ (x : Addr) (v : V) (d : PyData), vs = [.ref x, v] ∧ H x = some (exo x C none) ∧ Dp K H v d ∧ Deep n d ∧
  ∀ (dx : Addr) (v' : V) (H' : Hp), H' x = some (exo x C (some dx)) → H' dx = some (exd dx [(f, v')]) → H dx = none → dx ≠ x → Keep x H H' → Own H H' v' d → Q .non H'
/-- .. of two fields, in this sequence -/
def spErr2 (K : PySem.W.Frag) (n : Nat) (C : Addr) (f g : Str) : Sp := fun vs H Q _ => ∃ (x : Addr) (v u : V) (d e : PyData), vs = [.ref x, v, u] ∧ H x = some (exo x C none) ∧ Dp K H v d ∧ Deep n d ∧ Dp K H u e ∧ Deep n e ∧
  ∀ (dx : Addr) (v' u' : V) (H' : Hp), H' x = some (exo x C (some dx)) → H' dx = some (exd dx [(g, u'), (f, v')]) → H dx = none → dx ≠ x → Keep x H H' → Own H H' v' d → Own H H' u' e → Q .non H'
theorem exd_lt {dx : Addr} {fs : List (Str × V)} {u : HO} (h : ∃ xs, u = .lst xs ∨ u = .tup xs) : exd dx fs ≠ u := fun z => by
  obtain ⟨xs, e | e⟩ := h
  · rw [e] at z; cases (show HO.ext _ = HO.lst xs from z)
  · rw [e] at z; cases (show HO.ext _ = HO.tup xs from z)
/-- what is new stays so when the error, which is known, and its new dict are written -/
theorem Own.stored {H H1 : Hp} {v : V} {d : PyData} {x dx : Addr} {o u : HO} (w : Own H H1 v d) (hx : H x ≠ none) (hd : H1 dx = none) : Own H (upd (upd H1 dx o) x u) v d :=
  w.mono (fun _ n _ => n) fun a z n q _ => by
    have na : a ≠ x := fun e => hx (e ▸ n)
    rw [upd_ne na, upd_ne (ne_of_none q hd)]
    exact q
section
variable {P : Program} {w : World} {K : PySem.W.Frag} {mg : Str → Option Value} {base : Heap} {C fI cc fc : Addr} {fdc : FuncData} {F : NdefX.NF} {n : Nat} {f g : Str}
theorem err_one {msg : Str} {kd : Nat} {p0 p1 p2 p3 p4 p5 q0 q1 q2 q3 q4 q5 : Pos} (T : ErrC K C) (J : InitFn P K C fI cc F) (ms : mg "super" = none) (G : FnOk P w K mg base CX0 (n + 1) fc fdc ["value"] (spCopy K n)) (mc : mg "own_copy" = some (.ref fc)) (kc : PySem.W.keepIn K (.ref fc) = true)
    (bc : Binds K fdc ["value"] []) (S : NdefX.NScope ["self", f, "__class__"] ["self", f] ["__class__"] F.scope)
    (hB : F.body = .Expr (.Call (.Attribute (.Call (.Name "super" p0) [] [] p1) "__init__" p2) [.Constant (.str msg) kd p3] [] p4) p5 :: [.Assign [.Attribute (.Name "self" q0) f q1] (.Call (.Name "own_copy" q2) [.Name f q3] [] q4) q5])
    (hsg : F.scope.names.lookup ("super" : Str) = some .globalImplicit) (hog : F.scope.names.lookup ("own_copy" : Str) = some .globalImplicit) (free : PySem.W.findIn K (.ref C) f = some none)
    (hb : ∀ (kV doc pm ct : Value) (an : Option Addr) (us : List Value), us.length = 2 → bindArgs (PySem.W.fnX F.name F.qual F.params F.body F.scope F.cl .none kV doc pm an (.ref F.c) ct) ⟨us, []⟩ = pure ((["self", f] : List Str).zip us))
    {pl : Sem Bool} (he : ∀ env : Env, eval (.Call (.Attribute (.Call (.Name "super" p0) [] [] p1) "__init__" p2) [.Constant (.str msg) kd p3] [] p4) env = (do
      let ov ← attributeBase (.Call (.Name "super" p0) [] [] p1) "__init__" env (eval (.Call (.Name "super" p0) [] [] p1) env)
      standAt p2.atName
      let (f, first) ← holding [ov] (getMethod ov "__init__" pl)
      callWith p4 f first (backTo p4 (starEach [.Constant (.str msg) kd p3] env)) []))
    (fd : (f == ("__debug__" : Str)) = false) (fcd : (f == ("__classdict__" : Str)) = false) : ErrOk P w K mg base (n + 2) C fI (spErr1 K n C f) := by
  refine ⟨fun A outer s H us vs x Q hr e0 r ex hsp => ?_⟩
  obtain ⟨x', v, d, evs, _, hv, hd, k⟩ := hsp
  obtain ⟨rfl, rfl⟩ : x = x' ∧ vs = [v] := by
    have z := List.cons.inj evs
    exact ⟨V.ref.inj z.1, z.2⟩
  have lu : us.length = 2 := by rw [← r.length]; rfl
  refine init_run (k := n + 1) (rest := [.Assign [.Attribute (.Name "self" q0) f q1] (.Call (.Name "own_copy" q2) [.Name f q3] [] q4) q5]) (x := x) T J ms S hB hsg (S.par _ (by simp)) hr e0 (fun kV doc pm ct an => BindsTo.of_eq (hb kV doc pm ct an us lu)) r rfl rfl rfl ex he fun hr' => ?_
  refine ⟨_, pss_one (ps_errSet (pe_var (i := 0) rfl (.inl (S.par _ (by simp)))) (pe_call G hr' hog mc kc bc .nil pass0 (pa_cons (pe_var (i := 1) rfl (.inl (S.par _ (by simp))) fd fcd) pa_nil)) ?sw), ?_⟩
  case sw => rfl
  refine r_errSet ?_
  refine r_call ?_
  refine r_cons ?_
  refine r_var rfl ?_
  refine r_nil ?_
  refine ⟨v, d, rfl, hv, hd, fun v' H1 s1 o1 => ?_⟩
  refine r_var rfl ?_
  refine ⟨x, C, rfl, T, free, .inl ⟨s1 _ _ ex, fun dx hdx ne => ?_⟩⟩
  refine k dx v' _ upd_same (by rw [upd_ne ne, upd_same]) (s1.free hdx) ne (Keep.own (Keep.new (Keep.same s1) hdx)) (o1.stored (by rw [ex]; exact Option.some_ne_none _) hdx)

theorem exo_lt {x : Addr} {C : Addr} {d : Option Addr} {u : HO} (h : IsLT u) : exo x C d ≠ u := fun z => by
  rcases h with ⟨_, e⟩ | ⟨_, e⟩ | ⟨_, _, e⟩
  · rw [e] at z; exact exo_lt' z
  · exact exo_tup (z.trans e)
  · exact exo_frz (z.trans e)
where exo_lt' {x C : Addr} {d : Option Addr} {xs : List V} (z : exo x C d = .lst xs) : False := by cases (show HO.ext _ = HO.lst xs from z)
/-- behind the stores into the error at x lists and tuples are as they were -/
theorem sameD_err {H : Hp} {x C dx : Addr} {d : Option Addr} {o u : HO} (hx : H x = some (exo x C d)) (hd : H dx = none) : SameD H (upd (upd H dx o) x u) := fun a z l h => by
  rw [upd_ne (at_ne hx h (exo_lt l)), upd_ne (ne_of_none h hd)]
  exact h
theorem err_two {msg : Str} {kd : Nat} {p0 p1 p2 p3 p4 p5 q0 q1 q2 q3 q4 q5 z0 z1 z2 z3 z4 z5 : Pos} (T : ErrC K C) (J : InitFn P K C fI cc F) (ms : mg "super" = none) (G : FnOk P w K mg base CX0 (n + 1) fc fdc ["value"] (spCopy K n)) (mc : mg "own_copy" = some (.ref fc)) (kc : PySem.W.keepIn K (.ref fc) = true)
    (bc : Binds K fdc ["value"] []) (S : NdefX.NScope ["self", f, g, "__class__"] ["self", f, g] ["__class__"] F.scope)
    (hB : F.body = .Expr (.Call (.Attribute (.Call (.Name "super" p0) [] [] p1) "__init__" p2) [.Constant (.str msg) kd p3] [] p4) p5 ::
      [.Assign [.Attribute (.Name "self" q0) f q1] (.Call (.Name "own_copy" q2) [.Name f q3] [] q4) q5, .Assign [.Attribute (.Name "self" z0) g z1] (.Call (.Name "own_copy" z2) [.Name g z3] [] z4) z5])
    (hsg : F.scope.names.lookup ("super" : Str) = some .globalImplicit) (hog : F.scope.names.lookup ("own_copy" : Str) = some .globalImplicit) (free : PySem.W.findIn K (.ref C) f = some none) (freeg : PySem.W.findIn K (.ref C) g = some none)
    (hb : ∀ (kV doc pm ct : Value) (an : Option Addr) (us : List Value), us.length = 3 → bindArgs (PySem.W.fnX F.name F.qual F.params F.body F.scope F.cl .none kV doc pm an (.ref F.c) ct) ⟨us, []⟩ = pure ((["self", f, g] : List Str).zip us))
    {pl : Sem Bool} (he : ∀ env : Env, eval (.Call (.Attribute (.Call (.Name "super" p0) [] [] p1) "__init__" p2) [.Constant (.str msg) kd p3] [] p4) env = (do
      let ov ← attributeBase (.Call (.Name "super" p0) [] [] p1) "__init__" env (eval (.Call (.Name "super" p0) [] [] p1) env)
      standAt p2.atName
      let (f, first) ← holding [ov] (getMethod ov "__init__" pl)
      callWith p4 f first (backTo p4 (starEach [.Constant (.str msg) kd p3] env)) []))
    (fd : (f == ("__debug__" : Str)) = false) (fcd : (f == ("__classdict__" : Str)) = false) (gd : (g == ("__debug__" : Str)) = false) (gcd : (g == ("__classdict__" : Str)) = false) : ErrOk P w K mg base (n + 2) C fI (spErr2 K n C f g) := by
  refine ⟨fun A outer s H us vs x Q hr e0 r ex hsp => ?_⟩
  obtain ⟨x', v, u, d, e, evs, _, hv, hd, hu, hde, k⟩ := hsp
  obtain ⟨rfl, rfl⟩ : x = x' ∧ vs = [v, u] := by
    have z := List.cons.inj evs
    exact ⟨V.ref.inj z.1, z.2⟩
  have lu : us.length = 3 := by rw [← r.length]; rfl
  refine init_run (k := n + 1) (rest := [.Assign [.Attribute (.Name "self" q0) f q1] (.Call (.Name "own_copy" q2) [.Name f q3] [] q4) q5, .Assign [.Attribute (.Name "self" z0) g z1] (.Call (.Name "own_copy" z2) [.Name g z3] [] z4) z5]) (x := x) T J ms S hB hsg (S.par _ (by simp)) hr e0
    (fun kV doc pm ct an => BindsTo.of_eq (hb kV doc pm ct an us lu)) r rfl rfl rfl ex he fun hr' => ?_
  refine ⟨_, pss_cons (ps_errSet (pe_var (i := 0) rfl (.inl (S.par _ (by simp)))) (pe_call G hr' hog mc kc bc .nil pass0 (pa_cons (pe_var (i := 1) rfl (.inl (S.par _ (by simp))) fd fcd) pa_nil)) ?sw)
    (pss_one (ps_errSet (pe_var (i := 0) rfl (.inl (S.par _ (by simp)))) (pe_call G hr' hog mc kc bc .nil pass0 (pa_cons (pe_var (i := 2) rfl (.inl (S.par _ (by simp))) gd gcd) pa_nil)) ?sv)), ?_⟩
  case sw => rfl
  case sv => rfl
  refine r_seq ?_
  refine r_errSet ?_
  refine r_call ?_
  refine r_cons ?_
  refine r_var rfl ?_
  refine r_nil ?_
  refine ⟨v, d, rfl, hv, hd, fun v' H1 s1 o1 => ?_⟩
  refine r_var rfl ?_
  refine ⟨x, C, rfl, T, free, .inl ⟨s1 _ _ ex, fun dx hdx ne => ?_⟩⟩
  have o2 := o1.stored (o := exd dx [(f, v')]) (u := exo x C (some dx)) (by rw [ex]; exact Option.some_ne_none _) hdx
  have sd : SameD H (upd (upd H1 dx (exd dx [(f, v')])) x (exo x C (some dx))) := (SameD.of s1).trans (sameD_err (s1 _ _ ex) hdx)
  show tErrSet K g (tVar 0) (tCall (spCopy K n) [] E0 (tCons (tVar 2) tNil)) { nx := fun _ H2 => Q .non H2, rt := Q } _ _
  refine r_errSet ?_
  refine r_call ?_
  refine r_cons ?_
  refine r_var rfl ?_
  refine r_nil ?_
  refine ⟨u, e, rfl, Dp.laterD sd hu, hde, fun u' H2 s2 o3 => ?_⟩
  refine r_var rfl ?_
  have ed2 : H2 dx = some (exd dx [(f, v')]) := s2 _ _ (by rw [upd_ne ne, upd_same])
  refine ⟨x, C, rfl, T, freeg, .inr ⟨dx, [(f, v')], s2 _ _ upd_same, ed2, by show 1 ≤ 900; decide, ?_⟩⟩
  have hdx0 : H dx = none := s1.free hdx
  have kp : Keep x H H2 := (Keep.own (Keep.new (Keep.same s1) hdx)).trans (Keep.same s2)
  have ndx : ∀ {a : Addr} {z : HO}, (∃ xs, z = .lst xs ∨ z = .tup xs) → H2 a = some z → a ≠ dx := fun {a z} l h => at_ne ed2 h (exd_lt l)
  refine k dx v' u' _ (by rw [upd_ne (Ne.symm ne)]; exact s2 _ _ upd_same) upd_same hdx0 ne (fun b o nb hbo => ?_) ((o2.later s2).mono (fun _ n _ => n) fun a z n q l => by rw [upd_ne (ndx l q)]; exact q) ?_
  · rw [upd_ne (ne_of_none hbo hdx0)]
    exact kp b o nb hbo
  · refine o3.mono (fun a n _ => ?_) fun a z n q l => by rw [upd_ne (ndx l q)]; exact q
    have na : a ≠ x := fun z => by rw [z, upd_same] at n; cases n
    have nd : a ≠ dx := fun z => by rw [z, upd_ne ne, upd_same] at n; cases n
    rw [upd_ne na, upd_ne nd] at n
    exact s1.free n
/-- C(e) in the raiser's heap: a new dict with a copy -/
theorem r_err1 {σ : L2.St} {H : Hp} {Q : XK} {v : V} {d : PyData} (hv : Dp K H v d) (hd : Deep n d) (q : ∀ (dd : Addr) (v' : V) (H' : Hp), Same H H' → H dd = none → H' dd = some (.xd [(f, v')]) → Own H H' v' d → Q (.ref C) (some dd) H') :
    [v].length ≤ 1000 ∧ ∀ x, H x = none → spErr1 K n C f (.ref x :: [v]) (upd H x (exo x C none)) (fun v H2 => v = .non ∧ ∃ (d : Addr) (fs : List (Str × V)), H2 x = some (exo x C (some d)) ∧ H2 d = some (exd d fs) ∧ H d = none ∧ Q (.ref C) (some d) (upd (del H2 x) d (.xd fs))) (fun _ _ _ => False) := by
  refine ⟨by show 1 ≤ 1000; decide, fun x hx => ?_⟩
  have s0 : Same H (upd H x (exo x C none)) := Same.up (Same.refl H) hx
  refine ⟨x, v, d, rfl, upd_same, Dp.later s0 hv, hd, fun dx v' H' h1 h2 h3 ne h4 h5 => ⟨rfl, dx, _, h1, h2, ?_, ?_⟩⟩
  · rw [upd_ne ne] at h3; exact h3
  · rw [upd_ne ne] at h3
    refine q dx v' _ (fun b o e => ?_) h3 upd_same (h5.mono (fun a n _ => s0.free n) fun a z n e l => ?_)
    · have nb : b ≠ x := ne_of_none e hx
      rw [upd_ne (ne_of_none e h3), del_ne nb]
      exact h4 b o nb (s0 b o e)
    · have na : a ≠ x := fun z => by rw [z, upd_same] at n; cases n
      rw [upd_ne (at_ne h2 e (exd_lt l)), del_ne na]
      exact e
theorem r_err2 {σ : L2.St} {H : Hp} {Q : XK} {v u : V} {d e : PyData} (hv : Dp K H v d) (hd : Deep n d) (hu : Dp K H u e) (he : Deep n e)
    (q : ∀ (dd : Addr) (v' u' : V) (H' : Hp), Same H H' → H dd = none → H' dd = some (.xd [(g, u'), (f, v')]) → Own H H' v' d → Own H H' u' e → Q (.ref C) (some dd) H') :
    [v, u].length ≤ 1000 ∧ ∀ x, H x = none → spErr2 K n C f g (.ref x :: [v, u]) (upd H x (exo x C none)) (fun v H2 => v = .non ∧ ∃ (d : Addr) (fs : List (Str × V)), H2 x = some (exo x C (some d)) ∧ H2 d = some (exd d fs) ∧ H d = none ∧ Q (.ref C) (some d) (upd (del H2 x) d (.xd fs))) (fun _ _ _ => False) := by
  refine ⟨by show 2 ≤ 1000; decide, fun x hx => ?_⟩
  have s0 : Same H (upd H x (exo x C none)) := Same.up (Same.refl H) hx
  refine ⟨x, v, u, d, e, rfl, upd_same, Dp.later s0 hv, hd, Dp.later s0 hu, he, fun dx v' u' H' h1 h2 h3 ne h4 h5 h6 => ⟨rfl, dx, _, h1, h2, ?_, ?_⟩⟩
  · rw [upd_ne ne] at h3; exact h3
  · rw [upd_ne ne] at h3
    have keep : ∀ a z, upd H x (exo x C none) a = none → H' a = some z → (∃ xs, z = .lst xs ∨ z = .tup xs) → upd (del H' x) dx (.xd [(g, u'), (f, v')]) a = some z := fun a z n e l => by
      have na : a ≠ x := fun z => by rw [z, upd_same] at n; cases n
      rw [upd_ne (at_ne h2 e (exd_lt l)), del_ne na]
      exact e
    refine q dx v' u' _ (fun b o e => ?_) h3 upd_same (h5.mono (fun a n _ => s0.free n) keep) (h6.mono (fun a n _ => s0.free n) keep)
    have nb : b ≠ x := ne_of_none e hx
    rw [upd_ne (ne_of_none e h3), del_ne nb]
    exact h4 b o nb (s0 b o e)
end
end Pk
set_option Elab.async false
set_option linter.all false
set_option maxRecDepth 100000
set_option maxHeartbeats 1000000
namespace Pk
open PySem L2 PySem.Spec PyProof.Rows
/-- a def x of the text, at f, with its promise -/
structure Df1 (P : Program) (w : World) (K : PySem.W.Frag) (mg : Str → Option Value) (base : Heap) (CX : CXT) (x : Str) (k : Nat) (ps : List Str) (sp : Sp) (f : Addr) (fd : FuncData) : Prop where
  at_ : mg x = some (.ref f)
  kp : PySem.W.keepIn K (.ref f) = true
  bd : Binds K fd ps []
  ok : FnOk P w K mg base CX k f fd ps sp
/-- an error class x of the text, at C, with the promise of its __init__ -/
structure De1 (P : Program) (w : World) (K : PySem.W.Frag) (mg : Str → Option Value) (base : Heap) (x : Str) (k : Nat) (sp : Sp) (C fI : Addr) : Prop where
  at_ : mg x = some (.ref C)
  cls : ErrC K C
  ini : PySem.W.findIn K (.ref C) "__init__" = some (some (.ref fI))
  fn : PySem.W.typeIn K (.ref fI) = some (.type "function")
  ok : ErrOk P w K mg base k C fI sp
  xf : XfC K C
  xm : PySem.W.exmOne K (.ref C) (.ref C) = some true
abbrev Df (P : Program) (w : World) (K : PySem.W.Frag) (mg : Str → Option Value) (base : Heap) (CX : CXT) (x : Str) (k : Nat) (ps : List Str) (sp : Sp) : Prop := ∃ f fd, Df1 P w K mg base CX x k ps sp f fd
abbrev De (P : Program) (w : World) (K : PySem.W.Frag) (mg : Str → Option Value) (base : Heap) (x : Str) (k : Nat) (sp : Sp) (C : Addr) : Prop := ∃ fI, De1 P w K mg base x k sp C fI
section
variable {X : Cx} {CX : CXT} {x : Str} {k j : Nat} {ps : List Str} {sp : Sp} {e : Expr} {es : List Expr} {t : TA} {p pos : Pos} {W : WX} {C : Addr}
/-- a call of what raises nothing -/
theorem pe_df (D : Df X.prog X.w X.K X.mg X.base CX0 x k ps sp) (hr : Room j X.A) (l : k ≤ j) (ha : PA X (e :: es) t) (hg : Gl X x := by rfl) (hdb : (x == ("__debug__" : Str)) = false := by decide)
    (he : starEach (e :: es) X.env = (false, eval e X.env) :: starEach es X.env := by rfl) (hpl : (backTo pos (starEach es X.env)).any (·.1) = false := by rfl) : PE X (.Call (.Name x p) (e :: es) [] pos) (tCall sp [] E0 t) :=
  let ⟨_, _, D⟩ := D; pe_call D.ok (hr.mono l) hg D.at_ D.kp D.bd .nil pass0 ha hdb he hpl
/-- .. of what may raise, and does not here -/
theorem pe_dfL (D : Df X.prog X.w X.K X.mg X.base (L2.CX X.prog X.w) x k ps sp) (hr : Room j X.A) (l : k ≤ j) (ha : PA X (e :: es) t) (hg : Gl X x := by rfl) (hdb : (x == ("__debug__" : Str)) = false := by decide)
    (he : starEach (e :: es) X.env = (false, eval e X.env) :: starEach es X.env := by rfl) (hpl : (backTo pos (starEach es X.env)).any (·.1) = false := by rfl) : PE X (.Call (.Name x p) (e :: es) [] pos) (tCall sp [] E0 t) :=
  let ⟨_, _, D⟩ := D; pe_call D.ok (hr.mono l) hg D.at_ D.kp D.bd .nil passL ha hdb he hpl
/-- .. where what is raised is taken: within a try, or by a def that lets it out -/
theorem pe_dfS (tk : Takes X W) (D : Df X.prog X.w X.K X.mg X.base (L2.CX X.prog X.w) x k ps sp) (hr : Room j X.A) (l : k ≤ j) (ha : PA X (e :: es) t) (hg : Gl X x := by rfl) (hdb : (x == ("__debug__" : Str)) = false := by decide)
    (he : starEach (e :: es) X.env = (false, eval e X.env) :: starEach es X.env := by rfl) (hpl : (backTo pos (starEach es X.env)).any (·.1) = false := by rfl) : PE X (.Call (.Name x p) (e :: es) [] pos) (tCallS sp (WE W) t) :=
  let ⟨_, _, D⟩ := D; pe_callS D.ok (hr.mono l) hg D.at_ D.kp D.bd (fun σ => passAt tk σ) ha hdb he hpl
/-- raise x(e, ..) -/
theorem ps_rse {spos : Pos} (hc : X.calm = true) (tk : Takes X W) (D : De X.prog X.w X.K X.mg X.base x k sp C) (hr : Room j X.A) (l : k + 1 ≤ j) (ha : PA X (e :: es) t) (hg : Gl X x := by rfl) (hdb : (x == ("__debug__" : Str)) = false := by decide)
    (he : starEach (e :: es) X.env = (false, eval e X.env) :: starEach es X.env := by rfl) (hpl : (backTo pos (starEach es X.env)).any (·.1) = false := by rfl) :
    PS X (.Raise (some (.Call (.Name x p) (e :: es) [] pos)) none spos) (fun _ σ H => tMkErr C sp t σ H fun cls d H' => W cls d σ H') := let ⟨_, D⟩ := D; ps_raise hc tk (pmk_err D.cls D.ini D.fn D.ok (hr.mono l) hg D.at_ ha hdb he hpl)
end
section
variable {σ : L2.St} {H : Hp} {Q : VK} {ta tk : TA} {sp : Sp} {E : L2.St → XK} {D : Ends}
theorem r_callS (h : ta σ H fun vs H1 => sp vs H1 Q (E σ)) : tCallS sp E ta σ H Q := h
theorem r_callN {n m : Nat} {gV : List V → List V → List V} {E : XK} (h : ta σ H fun vs H1 => tk σ H1 fun zs H2 => vs.length = n ∧ zs.length = m ∧ sp (gV vs zs) H2 Q E) : tCallN n m sp gV E ta tk σ H Q := h
theorem r_mkErr {C : Addr} {R : XK} (h : ta σ H fun vs H1 => vs.length ≤ 1000 ∧ ∀ x, H1 x = none →
  sp (.ref x :: vs) (upd H1 x (exo x C none)) (fun v H2 => v = .non ∧ ∃ (d : Addr) (fs : List (Str × V)), H2 x = some (exo x C (some d)) ∧ H2 d = some (exd d fs) ∧ H1 d = none ∧ R (.ref C) (some d) (upd (del H2 x) d (.xd fs))) (fun _ _ _ => False)) : tMkErr C sp ta σ H R := h
theorem r_xf {a : Addr} {C dd : Addr} {f : Str} {te : TE} {fs : List (Str × V)} {v : V} (h : te σ H fun x H1 => x = .ref a ∧ Value.ref C = .ref C ∧ ∃ (d2 : Addr) (fs : List (Str × V)) (v : V), some dd = some d2 ∧ H1 d2 = some (.xd fs) ∧ fs.lookup f = some v ∧ Q v H1) : tXf a (.ref C) (some dd) C f te σ H Q := h
end
/-- f(e, .., k = v, ..) where what is raised is wished for at the caller's slots -/
def tKwS (n m : Nat) (sp : Sp) (gV : List V → List V → List V) (E : L2.St → XK) (t tk : TA) : TE := fun σ H Q => t σ H fun vs H1 => tk σ H1 fun zs H2 => vs.length = n ∧ zs.length = m ∧ sp (gV vs zs) H2 Q (E σ)
theorem r_kwS {σ : L2.St} {H : Hp} {Q : VK} {ta tk : TA} {sp : Sp} {n m : Nat} {gV : List V → List V → List V} {E : L2.St → XK} (h : ta σ H fun vs H1 => tk σ H1 fun zs H2 => vs.length = n ∧ zs.length = m ∧ sp (gV vs zs) H2 Q (E σ)) : tKwS n m sp gV E ta tk σ H Q := h
theorem pe_kwS {X : Cx} {CX : CXT} {k n : Nat} {f : Addr} {fd : FuncData} {ps ks : List Str} {sp : Sp} {E : L2.St → XK} {x : Str} {p pos : Pos} {e : Expr} {es : List Expr} {kws : List Keyword} {t tk : TA} {g : List Value → List Value → List Value} {gV : List V → List V → List V}
    (F : FnOk X.prog X.w X.K X.mg X.base CX k f fd ps sp) (hr : Room k X.A) (hm : X.mg x = some (.ref f)) (hk : PySem.W.keepIn X.K (.ref f) = true) (hb : KBn X.K fd ps n ks g gV) (hx : ∀ σ, PassesAt CX X σ (E σ)) (ha : PA X (e :: es) t) (hkw : PK X kws tk) (hg : Gl X x := by rfl)
    (hall : (backToKw pos (keywordEach kws X.env)).all (·.1.isSome) = true := by rfl) (hks : (backToKw pos (keywordEach kws X.env)).filterMap (·.1) = ks := by rfl) (hdb : (x == ("__debug__" : Str)) = false := by decide)
    (he : starEach (e :: es) X.env = (false, eval e X.env) :: starEach es X.env := by rfl) (hpl : ((backTo pos (starEach (e :: es) X.env)).any (·.1) || (backToKw pos (keywordEach kws X.env)).any (·.1.isNone)) = false := by rfl) :
    PE X (.Call (.Name x p) (e :: es) kws pos) (tKwS n ks.length sp gV E t tk) := by
  refine ⟨fun pins s σ H Q I h => wpAny_Call_Name_kw (ld_glob I hg hm (PySem.W.callWith_KW (h₀ := X.base) I.ok.mod.kin hk hall (thn (ha.run pos pins s σ H _ I h) fun us s1 ⟨vs, H1, I1, r, q⟩ => thn (hkw.run pos pins s1 σ H1 _ I1 q) fun ws s2 ⟨zs, H2, I2, rz, l1, l2, q2⟩ => ⟨I2.kIn, ?_⟩) hpl he) hdb)⟩
  rw [hks]
  refine wpAny_call (codeAny_mono (F.run X.A X.stack s2 H2 ⟨us, ks.zip ws⟩ (g us ws) (gV vs zs) Q (E σ) hr I2.env0 (hb.to s2 us ws I2.kIn (r.length.symm.trans l1) (rz.length.symm.trans l2)) (hb.rel r rz) q2) fun r s' hq => ?_)
  cases r with
  | error er => exact hx σ pins H2 s2 er s' I2 hq
  | ok fl =>
    cases fl with
    | ret u => exact I2.after hq
    | next => exact False.elim hq
    | brk => exact False.elim hq
    | cont => exact False.elim hq
/-- an own class x of the text, made by its __init__ -/
structure Dk1 (P : Program) (w : World) (K : PySem.W.Frag) (mg : Str → Option Value) (base : Heap) (CX : CXT) (x : Str) (k : Nat) (ps : List Str) (sp : Sp) (C fI : Addr) (fd : FuncData) : Prop where
  at_ : mg x = some (.ref C)
  mkc : Mk K C fI
  bd : Binds K fd ps []
  ok : FnOk P w K mg base CX k fI fd ps sp
abbrev Dk (P : Program) (w : World) (K : PySem.W.Frag) (mg : Str → Option Value) (base : Heap) (CX : CXT) (x : Str) (k : Nat) (ps : List Str) (sp : Sp) (C : Addr) : Prop := ∃ fI fd, Dk1 P w K mg base CX x k ps sp C fI fd
theorem pe_dkL {X : Cx} {x : Str} {k j : Nat} {ps : List Str} {sp : Sp} {e : Expr} {es : List Expr} {t : TA} {p pos : Pos} {C : Addr} (D : Dk X.prog X.w X.K X.mg X.base (L2.CX X.prog X.w) x k ps sp C) (hr : Room j X.A) (l : k + 1 ≤ j) (ha : PA X (e :: es) t) (hg : Gl X x := by rfl)
    (hdb : (x == ("__debug__" : Str)) = false := by decide) (he : starEach (e :: es) X.env = (false, eval e X.env) :: starEach es X.env := by rfl) (hpl : (backTo pos (starEach es X.env)).any (·.1) = false := by rfl) : PE X (.Call (.Name x p) (e :: es) [] pos) (tMake C sp [] E0 t) :=
  let ⟨_, _, D⟩ := D; pe_make D.mkc D.ok (hr.mono l) hg D.at_ D.bd .nil passL ha hdb he hpl
theorem look1 (f : Str) (v : V) : List.lookup f [(f, v)] = some v := by simp [List.lookup]
theorem look2 (f g : Str) (v u : V) (h : (f == g) = false) : List.lookup f [(g, u), (f, v)] = some v := by simp [List.lookup, h]
theorem look2' (f g : Str) (v u : V) : List.lookup g [(g, u), (f, v)] = some u := by simp [List.lookup]
/-- built-ins that the text does not name anew -/
structure Bt (mg : Str → Option Value) : Prop where
  int : mg "int" = none
  str : mg "str" = none
  bool : mg "bool" = none
  list : mg "list" = none
  tuple : mg "tuple" = none
  dict : mg "dict" = none
  len : mg "len" = none
  range : mg "range" = none
  isinstance : mg "isinstance" = none
  sum : mg "sum" = none
  max : mg "max" = none
  min : mg "min" = none
  sorted : mg "sorted" = none
  set : mg "set" = none
  super : mg "super" = none
  enumerate : mg "enumerate" = none
  zip : mg "zip" = none
  abs : mg "abs" = none
end Pk
set_option Elab.async false
set_option linter.all false
set_option maxRecDepth 100000
set_option maxHeartbeats 1000000
namespace Pk
open PySem L2 PySem.Spec PyProof.Rows PySem.W
/-- what the top holds of a def x -/
def DefAt (K : PySem.W.Frag) (x : Str) (st : Stmt) : Prop := ∃ (f : Addr) (oc : Value) (od : Option Addr) (kV dc pm : Value) (an : Option Addr) (cd ct : Value) (sl : Array (Option Value)),
  PySem.W.nsIn K mainGlobals x = some (some (.ref f)) ∧ K.lookup f = some ⟨oc, od, .func (PySem.W.fnOf x x (defArgs st) (defBody st) (defScope st) .none kV dc pm an cd ct), sl⟩ ∧ PySem.W.codeIn K cd x = true ∧ PySem.W.keepIn K (.ref f) = true
theorem DefAt.fn {K : PySem.W.Frag} {h : Heap} {mg : Str → Option Value} {x : Str} {st : Stmt} (X : K.In h) (G : h.Ns mainGlobals mg) (d : DefAt K x st) : ∃ f fd, Fun K x x st f fd ∧ mg x = some (.ref f) := by
  obtain ⟨f, oc, od, kV, dc, pm, an, cd, ct, sl, a, l, c, k⟩ := d
  exact ⟨f, _, fun_mk (st := st) l c k, PySem.W.mg_of X G a⟩
/-- .. of a method x of the class at C -/
def MethAt (K : PySem.W.Frag) (C : Addr) (x q : Str) (st : Stmt) : Prop := ∃ (f : Addr) (oc : Value) (od : Option Addr) (kV dc pm : Value) (an : Option Addr) (cd ct : Value) (sl : Array (Option Value)),
  PySem.W.findIn K (.ref C) x = some (some (.ref f)) ∧ K.lookup f = some ⟨oc, od, .func (PySem.W.fnOf x q (defArgs st) (defBody st) (defScope st) .none kV dc pm an cd ct), sl⟩ ∧ PySem.W.codeIn K cd q = true ∧ PySem.W.keepIn K (.ref f) = true ∧ PySem.W.isFn K (.ref f) = true
theorem MethAt.fn {K : PySem.W.Frag} {C : Addr} {x q : Str} {st : Stmt} (d : MethAt K C x q st) : ∃ f fd, Fun K x q st f fd ∧ Meth K C x f := by
  obtain ⟨f, oc, od, kV, dc, pm, an, cd, ct, sl, a, l, c, k, i⟩ := d
  exact ⟨f, _, fun_mk (st := st) l c k, ⟨a, i, k⟩⟩
/-- .. of a def x with one keyword-only default, a text -/
def DefAtK (K : PySem.W.Frag) (x k : Str) (z : Str) (st : Stmt) : Prop := ∃ (f D : Addr) (oc : Value) (od : Option Addr) (dc pm : Value) (an : Option Addr) (cd ct : Value) (sl : Array (Option Value)) (t : Tok),
  PySem.W.nsIn K mainGlobals x = some (some (.ref f)) ∧ K.lookup f = some ⟨oc, od, .func (PySem.W.fnOf x x (defArgs st) (defBody st) (defScope st) .none (.ref D) dc pm an cd ct), sl⟩ ∧ PySem.W.codeIn K cd x = true ∧ PySem.W.keepIn K (.ref f) = true ∧ PySem.W.nsIn K D k = some (some (.str z t))
theorem DefAtK.fn {K : PySem.W.Frag} {h : Heap} {mg : Str → Option Value} {x k z : Str} {st : Stmt} (X : K.In h) (G : h.Ns mainGlobals mg) (d : DefAtK K x k z st) : ∃ f fd, FunD K x x (defArgs st) (defBody st) (defScope st) [] [(k, .str z)] f fd ∧ mg x = some (.ref f) := by
  obtain ⟨f, D, oc, od, dc, pm, an, cd, ct, sl, t, a, l, c, kp, n⟩ := d
  refine ⟨f, _, ⟨⟨oc, od, .none, .ref D, dc, pm, an, cd, ct, sl, rfl, l, c, .inl ⟨rfl, rfl⟩, .inr ⟨D, rfl, fun q hq => ?_⟩⟩, kp⟩, PySem.W.mg_of X G a⟩
  rw [List.mem_singleton.mp hq]
  exact ⟨_, n, t, rfl⟩
/-- what the top holds of an error class x with an __init__ of its own (st) -/
structure ErrAt1 (P : Program) (K : PySem.W.Frag) (x q : Str) (st : Stmt) (C fI cc c : Addr) : Prop where
  at_ : PySem.W.nsIn K mainGlobals x = some (some (.ref C))
  cls : ∃ pe nm qn N bs sn sub ab col dd k0 k1 k2 k3 k5, K.lookup C = some (excClassObj nm qn C N bs (.ref pe :: arT) true sn sub ab col dd k0 k1 k2 k3 k5 "ArithmeticError.__new__")
  sa : PySem.W.findIn K (.ref C) "__setattr__" = some (some (.builtin "object.__setattr__"))
  exB : PySem.W.subIn K (.ref C) (.type "BaseException") = some true
  exA : PySem.W.subIn K (.ref C) (.type "ArithmeticError") = some true
  ty : PySem.W.typeIn K (.ref C) = some (.type "type")
  kp : PySem.W.keepIn K (.ref C) = true
  ini : PySem.W.findIn K (.ref C) "__init__" = some (some (.ref fI))
  fnt : PySem.W.typeIn K (.ref fI) = some (.type "function")
  fn : ∃ (oc : Value) (od : Option Addr) (kV doc pm : Value) (an : Option Addr) (ct : Value) (osl : Array (Option Value)), K.lookup fI = some ⟨oc, od, .func (PySem.W.fnX "__init__" q (defArgs st) (defBody st) (defScope st) [(("__class__" : Str), cc)] .none kV doc pm an (.ref c) ct), osl⟩
  code : PySem.W.codeIn K (.ref c) q = true
  cell : ∃ (a : Value) (b : Option Addr) (d : Array (Option Value)), K.lookup cc = some ⟨a, b, .cell (some (.ref C)), d⟩
  file : ∃ (a : Value) (b : Option Addr) (vs : Array Value) (d : Array (Option Value)) (f : Str) (t : Tok), K.lookup c = some ⟨a, b, .fields vs, d⟩ ∧ vs[2]? = some (.str f t) ∧ ((P.main.file : Str) == f) = true
  opq : PySem.W.nsIn K cStatics "thirdparty.any" = some none
  sup : PySem.W.ks_superIn K C C "__init__" = some (some (.builtin "ArithmeticError.__init__"))
  below : PySem.W.mroIn K C (.ref C) = some true
  ga : PySem.W.findIn K (.ref C) "__getattribute__" = some (some (.builtin "BaseException.__getattribute__"))
  gg : PySem.W.findIn K (.ref C) "__getattr__" = some none
  hd : PySem.W.hasDictIn K C = true
  isC : PySem.W.isClsIn K C = true
  own : PySem.W.subIn K (.ref C) (.ref C) = some true
theorem err_self {K : PySem.W.Frag} {S : Addr} (h1 : PySem.W.subIn K (.ref S) (.type "BaseException") = some true) (h2 : PySem.W.isClsIn K S = true) (h3 : PySem.W.typeIn K (.ref S) = some (.type "type")) (h4 : PySem.W.subIn K (.ref S) (.ref S) = some true) : PySem.W.exmOne K (.ref S) (.ref S) = some true := by
  have h5 : (PySem.W.clsIn K S).isSome = true := h2
  unfold PySem.W.exmOne PySem.W.kitCls
  simp only [h1, h3, h4, h5]
  rfl
section
variable {P : Program} {w : World} {K : PySem.W.Frag} {h : Heap} {mg : Str → Option Value} {base : Heap} {x q : Str} {st : Stmt} {C fI cc c : Addr}
theorem ErrAt1.errC (e : ErrAt1 P K x q st C fI cc c) : ErrC K C := ⟨e.cls, e.sa, e.exB, e.exA, e.ty, e.kp⟩
theorem ErrAt1.init (e : ErrAt1 P K x q st C fI cc c) (top : (P.main.scope.names.lookup ("super" : Str)).isSome = false) (self : ∃ q, ((defArgs st).posonlyargs ++ (defArgs st).args).head? = some { arg := "self", annotation := none, pos := q }) :
    InitFn P K C fI cc { name := "__init__", qual := q, params := defArgs st, body := defBody st, scope := defScope st, cl := [(("__class__" : Str), cc)], c := c } :=
  ⟨e.fn, e.code, rfl, e.cell, e.file, top, e.opq, self, e.sup, e.below⟩
theorem ErrAt1.de {k : Nat} {sp : Sp} (e : ErrAt1 P K x q st C fI cc c) (X : K.In h) (G : h.Ns mainGlobals mg) (o : ErrOk P w K mg base k C fI sp) : De P w K mg base x k sp C :=
  ⟨fI, PySem.W.mg_of X G e.at_, e.errC, e.ini, e.fnt, o, ⟨e.ga, e.gg, e.exB, e.hd⟩, err_self e.exB e.isC e.ty e.own⟩
end
def BtIn (K : PySem.W.Frag) : Prop := ∀ x, x ∈ (["int", "str", "bool", "list", "tuple", "dict", "len", "range", "isinstance", "sum", "max", "min", "sorted", "set", "super", "enumerate", "zip", "abs"] : List Str) → PySem.W.nsIn K mainGlobals x = some none
theorem BtIn.bt {K : PySem.W.Frag} {h : Heap} {mg : Str → Option Value} (X : K.In h) (G : h.Ns mainGlobals mg) (b : BtIn K) : Bt mg := by
  have g : ∀ x, x ∈ (["int", "str", "bool", "list", "tuple", "dict", "len", "range", "isinstance", "sum", "max", "min", "sorted", "set", "super", "enumerate", "zip", "abs"] : List Str) → mg x = none := fun x hx => PySem.W.mg_none_of X G (b x hx)
  constructor <;> exact g _ (by decide)
theorem DefAt.of {K : PySem.W.Frag} {x : Str} {st : Stmt} {f : Addr} {oc : Value} {od : Option Addr} {kV dc pm : Value} {an : Option Addr} {cd ct : Value} {sl : Array (Option Value)} (a : PySem.W.nsIn K mainGlobals x = some (some (.ref f)))
    (l : K.lookup f = some ⟨oc, od, .func (PySem.W.fnOf x x (defArgs st) (defBody st) (defScope st) .none kV dc pm an cd ct), sl⟩) (c : PySem.W.codeIn K cd x = true) (k : PySem.W.keepIn K (.ref f) = true) : DefAt K x st := ⟨_, _, _, _, _, _, _, _, _, _, a, l, c, k⟩
theorem DefAtK.of {K : PySem.W.Frag} {x y z : Str} {st : Stmt} {f D : Addr} {oc : Value} {od : Option Addr} {dc pm : Value} {an : Option Addr} {cd ct : Value} {sl : Array (Option Value)} {t : Tok} (a : PySem.W.nsIn K mainGlobals x = some (some (.ref f)))
    (l : K.lookup f = some ⟨oc, od, .func (PySem.W.fnOf x x (defArgs st) (defBody st) (defScope st) .none (.ref D) dc pm an cd ct), sl⟩) (c : PySem.W.codeIn K cd x = true) (k : PySem.W.keepIn K (.ref f) = true) (n : PySem.W.nsIn K D y = some (some (.str z t))) : DefAtK K x y z st := ⟨_, _, _, _, _, _, _, _, _, _, _, a, l, c, k, n⟩
theorem MethAt.of {K : PySem.W.Frag} {C : Addr} {x q : Str} {st : Stmt} {f : Addr} {oc : Value} {od : Option Addr} {kV dc pm : Value} {an : Option Addr} {cd ct : Value} {sl : Array (Option Value)} (a : PySem.W.findIn K (.ref C) x = some (some (.ref f)))
    (l : K.lookup f = some ⟨oc, od, .func (PySem.W.fnOf x q (defArgs st) (defBody st) (defScope st) .none kV dc pm an cd ct), sl⟩) (c : PySem.W.codeIn K cd q = true) (k : PySem.W.keepIn K (.ref f) = true) (i : PySem.W.isFn K (.ref f) = true) : MethAt K C x q st := ⟨_, _, _, _, _, _, _, _, _, _, a, l, c, k, i⟩
theorem ErrAt1.of {P : Program} {K : PySem.W.Frag} {x q : Str} {st : Stmt} {C fI cc c pe : Addr} {nm qn : Str} {N : Addr} {bs sn sub ab col dd k0 k1 k2 k3 k5} {oc1 : Value} {od1 : Option Addr} {kV dc pm : Value} {an : Option Addr} {ct : Value} {sl1 sl2 sl3 : Array (Option Value)} {v2 v3 : Value} {o2 o3 : Option Addr} {vs : Array Value} {fl : Str} {t : Tok}
    (at_ : PySem.W.nsIn K mainGlobals x = some (some (.ref C))) (cls : K.lookup C = some (excClassObj nm qn C N bs (.ref pe :: arT) true sn sub ab col dd k0 k1 k2 k3 k5 "ArithmeticError.__new__"))
    (sa : PySem.W.findIn K (.ref C) "__setattr__" = some (some (.builtin "object.__setattr__"))) (exB : PySem.W.subIn K (.ref C) (.type "BaseException") = some true) (exA : PySem.W.subIn K (.ref C) (.type "ArithmeticError") = some true) (ty : PySem.W.typeIn K (.ref C) = some (.type "type")) (kp : PySem.W.keepIn K (.ref C) = true)
    (ini : PySem.W.findIn K (.ref C) "__init__" = some (some (.ref fI))) (fnt : PySem.W.typeIn K (.ref fI) = some (.type "function")) (fn : K.lookup fI = some ⟨oc1, od1, .func (PySem.W.fnX "__init__" q (defArgs st) (defBody st) (defScope st) [(("__class__" : Str), cc)] .none kV dc pm an (.ref c) ct), sl1⟩)
    (code : PySem.W.codeIn K (.ref c) q = true) (cell : K.lookup cc = some ⟨v2, o2, .cell (some (.ref C)), sl2⟩) (file : K.lookup c = some ⟨v3, o3, .fields vs, sl3⟩) (file2 : vs[2]? = some (.str fl t)) (file3 : ((P.main.file : Str) == fl) = true) (opq : PySem.W.nsIn K cStatics "thirdparty.any" = some none)
    (sup : PySem.W.ks_superIn K C C "__init__" = some (some (.builtin "ArithmeticError.__init__"))) (below : PySem.W.mroIn K C (.ref C) = some true) (ga : PySem.W.findIn K (.ref C) "__getattribute__" = some (some (.builtin "BaseException.__getattribute__"))) (gg : PySem.W.findIn K (.ref C) "__getattr__" = some none)
    (hd : PySem.W.hasDictIn K C = true) (isC : PySem.W.isClsIn K C = true) (own : PySem.W.subIn K (.ref C) (.ref C) = some true) : ErrAt1 P K x q st C fI cc c :=
  ⟨at_, ⟨_, _, _, _, _, _, _, _, _, _, _, _, _, _, _, cls⟩, sa, exB, exA, ty, kp, ini, fnt, ⟨_, _, _, _, _, _, _, _, fn⟩, code, ⟨_, _, _, cell⟩, ⟨_, _, _, _, _, _, file, file2, file3⟩, opq, sup, below, ga, gg, hd, isC, own⟩
end Pk
set_option Elab.async false
set_option linter.all false
set_option maxRecDepth 100000
set_option maxHeartbeats 1000000
namespace Pk
open PySem L2 PySem.Spec PyProof.Rows
/-! ### <, <=, >, >= and in, over data -/
section
variable {X : Cx}
/-- two data that may be compared, of no great depth -/
def Cmpr (K : PySem.W.Frag) (H : Hp) (x y : V) (d e : PyData) : Prop := Dp K H x d ∧ Dp K H y e ∧ PySem.W.alike d e = true ∧ d ≠ .none ∧ d.depth ≤ 32
def rCmpD (K : PySem.W.Frag) (g : PyData → PyData → Bool) : R2 := fun x y H Q => ∃ d e, Cmpr K H x y d e ∧ Q (.bl (g d e)) H
theorem op_ltD (hu : X.A.units + 64 < cLine) : OpR X (compareOp .Lt) (rCmpD X.K fun d e => PySem.W.dataLt d e) := by
  intro pins s σ H x y v u Q I rx ry h
  obtain ⟨d, e, ⟨hd, he, al, nn, dl⟩, q⟩ := h
  obtain ⟨as, r1⟩ := Dp.reads I d x v hd rx
  obtain ⟨bs, r2⟩ := Dp.reads I e y u he ry
  exact PySem.W.lt_data r1 r2 al nn (by omega) ⟨.bl _, H, I, rfl, q⟩
theorem op_gtD (hu : X.A.units + 64 < cLine) : OpR X (compareOp .Gt) (rCmpD X.K fun d e => PySem.W.dataLt e d) := by
  intro pins s σ H x y v u Q I rx ry h
  obtain ⟨d, e, ⟨hd, he, al, nn, dl⟩, q⟩ := h
  obtain ⟨as, r1⟩ := Dp.reads I d x v hd rx
  obtain ⟨bs, r2⟩ := Dp.reads I e y u he ry
  exact PySem.W.gt_data r1 r2 al nn (by omega) ⟨.bl _, H, I, rfl, q⟩
theorem op_leD (hu : X.A.units + 64 < cLine) : OpR X (compareOp .LtE) (rCmpD X.K fun d e => !PySem.W.dataLt e d) := by
  intro pins s σ H x y v u Q I rx ry h
  obtain ⟨d, e, ⟨hd, he, al, nn, dl⟩, q⟩ := h
  obtain ⟨as, r1⟩ := Dp.reads I d x v hd rx
  obtain ⟨bs, r2⟩ := Dp.reads I e y u he ry
  exact PySem.W.le_data r1 r2 al nn (by omega) ⟨.bl _, H, I, rfl, q⟩
theorem op_geD (hu : X.A.units + 64 < cLine) : OpR X (compareOp .GtE) (rCmpD X.K fun d e => !PySem.W.dataLt d e) := by
  intro pins s σ H x y v u Q I rx ry h
  obtain ⟨d, e, ⟨hd, he, al, nn, dl⟩, q⟩ := h
  obtain ⟨as, r1⟩ := Dp.reads I d x v hd rx
  obtain ⟨bs, r2⟩ := Dp.reads I e y u he ry
  exact PySem.W.ge_data r1 r2 al nn (by omega) ⟨.bl _, H, I, rfl, q⟩
end
/-! ### lists of pairs of ints -/
abbrev Pr := Int × Int
def prD (z : Pr) : PyData := .tuple [.int z.1, .int z.2]
def prsD (zs : List Pr) : PyData := .list (zs.map prD)
/-- one pair goes ahead of another -/
def prLt (x y : Pr) : Bool := decide (x.1 < y.1) || (decide (x.1 = y.1) && decide (x.2 < y.2))
def lexB : List Pr → List Pr → Bool
  | [], [] => false
  | [], _ :: _ => true
  | _ :: _, [] => false
  | x :: xs, y :: ys => if x = y then lexB xs ys else prLt x y
theorem pr_alike (x y : Pr) : PySem.W.alike (prD x) (prD y) = true := rfl
theorem prs_alike : ∀ xs ys : List Pr, PySem.W.alikeAll (xs.map prD) (ys.map prD) = true
  | [], _ => by cases ‹List Pr› <;> rfl
  | _ :: _, [] => rfl
  | x :: xs, y :: ys => by
    show (PySem.W.alike (prD x) (prD y) && PySem.W.alikeAll (xs.map prD) (ys.map prD)) = true
    rw [pr_alike, prs_alike xs ys]
    rfl
theorem pr_eqv (x y : Pr) : PyData.eqv (prD x) (prD y) = decide (x = y) := PySem.W.Datum.eqv (α := Int × Int) x y
theorem prs_eqv (xs ys : List Pr) : PyData.eqv (prsD xs) (prsD ys) = decide (xs = ys) := PySem.W.Datum.eqv (α := List (Int × Int)) xs ys
theorem pr_lt (x y : Pr) (n : x ≠ y) : PySem.W.dataLt (prD x) (prD y) = prLt x y := by
  obtain ⟨a, b⟩ := x
  obtain ⟨c, d⟩ := y
  show PySem.W.dataLt (.tuple [.int a, .int b]) (.tuple [.int c, .int d]) = _
  rw [PySem.W.dataLt_tuple]
  by_cases e : a = c
  · subst e
    rw [PySem.W.dataLt_all_yes rfl (by simp [PyData.eqv])]
    have e2 : b ≠ d := fun z => n (by rw [z])
    rw [PySem.W.dataLt_all_no rfl (by simp [PyData.eqv, e2]), PySem.W.dataLt_int]
    simp [prLt]
  · rw [PySem.W.dataLt_all_no rfl (by simp [PyData.eqv, e]), PySem.W.dataLt_int]
    simp [prLt, e]
theorem prs_lt : ∀ xs ys : List Pr, PyProof.Rows.lexLt PyProof.Rows.itemOrd (PySem.W.keyToksAll (xs.map prD)) (PySem.W.keyToksAll (ys.map prD)) = lexB xs ys
  | [], [] => by decide +kernel
  | [], y :: ys => (PyProof.Rows.lex_diff (O := PyProof.Rows.itemOrd) (x := .inl 0) (y := .inl 1) (by decide)).trans rfl
  | x :: xs, [] => (PyProof.Rows.lex_diff (O := PyProof.Rows.itemOrd) (x := .inl 1) (y := .inl 0) (by decide)).trans rfl
  | x :: xs, y :: ys => by
    rw [List.map_cons, List.map_cons, lexB]
    by_cases e : x = y
    · rw [if_pos e, PySem.W.dataLt_all_yes (pr_alike x y) (by rw [pr_eqv, decide_eq_true e]), prs_lt xs ys]
    · rw [if_neg e, PySem.W.dataLt_all_no (pr_alike x y) (by rw [pr_eqv, decide_eq_false e]), pr_lt x y e]
theorem prsLt (xs ys : List Pr) : PySem.W.dataLt (prsD xs) (prsD ys) = lexB xs ys := by
  rw [prsD, prsD, PySem.W.dataLt_list]
  exact prs_lt xs ys
end Pk
set_option Elab.async false
set_option linter.all false
set_option maxRecDepth 100000
set_option maxHeartbeats 1000000
namespace Pk
open PySem L2 PySem.Spec PyProof.Rows
/-! ### operators of an own class, by its own methods -/
section
variable {X : Cx} {CX : CXT} {pins : List (Addr × Obj)} {σ : L2.St} {H : Hp} {s : Shared} {k : Nat} {f C : Addr} {fd : FuncData} {ps : List Str} {sp : Sp} {E : L2.St → XK} {Q : VK} {us : List Value} {vs : List V} {A' : Around}
/-- the run of a method in a room around -/
theorem own_run (F : FnOk X.prog X.w X.K X.mg X.base CX k f fd ps sp) (hr : Room k A') (e0 : Env0 X.prog X.w X.K X.mg X.base A' X.stack s H) (hb : Binds X.K fd ps []) (hx : PassesAt CX X σ (E σ)) (I : Inv X pins σ H s) (r : Vals vs us) (h : sp vs H Q (E σ)) :
    wpAny (model X.prog X.w) A' (call (.ref f) us) (EP X pins σ Q) X.xe s := by
  have n : us.length = ps.length := r.length ▸ F.len _ _ _ _ h
  have b := hb s us I.kIn (by simpa using n)
  rw [List.append_nil] at b
  refine wpAny_call (codeAny_mono (F.run A' X.stack s H ⟨us, []⟩ us vs Q (E σ) hr e0 b r h) ?_)
  intro z s' hz
  rcases z with e | fl
  · exact hx pins H s e s' I hz
  · cases fl with
    | ret u => exact I.after hz
    | next => exact hz.elim
    | brk => exact hz.elim
    | cont => exact hz.elim
/-- the instance that stands at a -/
theorem own_at {a dx : Addr} {fs : List (Str × V)} (I : Inv X pins σ H s) (ha : H a = some (.ins C dx fs)) : ∃ ox od, PySem.W.InstAt s.heap a ox C (some od) := by
  obtain ⟨mA, J, _⟩ := ins_get I.hok ha
  obtain ⟨od, J, _⟩ := J.look
  exact ⟨_, od, J⟩
/-- e1 ⊕ e2, at the slots -/
def tOp2 (r : (L2.St → XK) → L2.St → V → V → Hp → VK → Prop) (E : L2.St → XK) (ta tb : TE) : TE := fun σ H Q => ta σ H fun x H1 => tb σ H1 fun y H2 => r E σ x y H2 Q
/-- the method's promise, of the instance x of C and y -/
def rOwn2 (C : Addr) (sp : Sp) : (L2.St → XK) → L2.St → V → V → Hp → VK → Prop := fun E σ x y H Q => ∃ a dx fs, x = .ref a ∧ H a = some (.ins C dx fs) ∧ sp [x, y] H Q (E σ)
/-- .. and the two are of the one class, or y is of a class that C is no base of -/
def OtherT (K : PySem.W.Frag) (C : Addr) (H : Hp) (y : V) : Prop := (∃ b dy gs, y = .ref b ∧ H b = some (.ins C dy gs)) ∨ (∃ T : String, TyX K H y (.type T) ∧ PySem.W.subIn K (.type T) (.ref C) = some false)
theorem ty_looks {y : V} {u t : Value} {M : Model} (I : Inv X pins σ H s) (ry : RelV y u) (ty : TyX X.K H y t) : PySem.W.Looks M s.heap (typeOf u) t := by
  obtain ⟨P, kx, hp, _⟩ := kit_of I ry ty
  exact kx.ty M s.heap I.kIn hp
theorem other_looks {y : V} {u : Value} {M : Model} (I : Inv X pins σ H s) (ry : RelV y u) (o : OtherT X.K C H y) (one : ∀ b dy gs, y = .ref b → H b = some (.ins C dy gs) → True) : ∃ tb, PySem.W.Looks M s.heap (typeOf u) tb ∧ PySem.W.notFirst X.K C tb = true := by
  rcases o with ⟨b, dy, gs, rfl, hb⟩ | ⟨T, ty, hs⟩
  · cases ry
    obtain ⟨ox, od, J⟩ := own_at I hb
    exact ⟨.ref C, J.type, by simp [PySem.W.notFirst]⟩
  · exact ⟨.type T, ty_looks I ry ty, by simp [PySem.W.notFirst, hs]⟩
/-- what an own method of two places must be -/
structure Two (X : Cx) (CX : CXT) (k : Nat) (C : Addr) (m : Str) (sp : Sp) : Prop where
  ex : ∃ (f : Addr) (fd : FuncData) (ps : List Str), Meth X.K C m f ∧ FnOk X.prog X.w X.K X.mg X.base CX k f fd ps sp ∧ Binds X.K fd ps []
/-- x == y, x < y, .. by the own method -/
def rOwnC (K : PySem.W.Frag) (C : Addr) (sp : Sp) : (L2.St → XK) → L2.St → V → V → Hp → VK → Prop := fun E σ x y H Q => ∃ a dx fs, x = .ref a ∧ H a = some (.ins C dx fs) ∧ OtherT K C H y ∧ sp [x, y] H Q (E σ)
theorem pe_cmpOwn {op : CmpOp} {a b : Expr} {ta tb : TE} {pos : Pos} (hop : ∀ a b, compareOp op a b = richCompare op a b) (F : Two X CX k C (cmpInfo op).2.1 sp) (hr : Room k X.A) (hx : ∀ σ, PassesAt CX X σ (E σ)) (ha : PE X a ta) (hb : PE X b tb) (hm : behindInMarks op b = false) :
    PE X (.Compare a [op] [b] pos) (tOp2 (rOwnC X.K C sp) E ta tb) := by
  obtain ⟨f, fd, ps, M, F, B⟩ := F.ex
  refine ⟨fun pins s σ H Q I h => ?_⟩
  refine wpAny_Compare1 (binT ha hb I h fun v u s2 x y H2 I2 rx ry q => ?_) hm
  obtain ⟨a, dx, fs, rfl, e, o, q⟩ := q
  cases rx
  obtain ⟨ox, od, J⟩ := own_at I2 e
  obtain ⟨tb, L, nf⟩ := other_looks (M := model X.prog X.w) I2 ry o fun _ _ _ _ _ => trivial
  obtain ⟨m, hF⟩ := I2.fr
  rw [hop]
  refine PySem.W.cmp_K (op := op) hr.units0 hF I2.ok.mod.kin J L nf M.at_ M.fn ?_
  refine wpAny_mono (own_run (us := [.ref a, u]) (vs := [.ref a, y]) F hr I2.env0 B (hx σ) I2 (.cons rfl (.cons ry .nil)) q) (fun w s' z => ?_) fun _ _ z => z
  obtain ⟨z, H3, I3, rz, qz⟩ := z
  exact SlX.cmpback rz ⟨z, H3, I3, rz, qz⟩
/-- y in x by the own __contains__ -/
def rOwnIn (C : Addr) (sp : Sp) (neg : Bool) : (L2.St → XK) → L2.St → V → V → Hp → VK → Prop := fun E σ y x H Q => ∃ a dx fs, x = .ref a ∧ H a = some (.ins C dx fs) ∧ sp [x, y] H (fun z H' => ∃ c, z = .bl c ∧ Q (.bl (if neg then !c else c)) H') (E σ)
theorem pe_inOwn {a b : Expr} {ta tb : TE} {pos : Pos} (F : Two X CX k C "__contains__" sp) (hr : Room k X.A) (hx : ∀ σ, PassesAt CX X σ (E σ)) (ha : PE X a ta) (hb : PE X b tb) (hm : behindInMarks .In b = false) :
    PE X (.Compare a [.In] [b] pos) (tOp2 (rOwnIn C sp false) E ta tb) := by
  obtain ⟨f, fd, ps, M, F, B⟩ := F.ex
  refine ⟨fun pins s σ H Q I h => ?_⟩
  refine wpAny_Compare1 (binT ha hb I h fun v u s2 y x H2 I2 ry rx q => ?_) hm
  obtain ⟨a, dx, fs, rfl, e, q⟩ := q
  cases rx
  obtain ⟨ox, od, J⟩ := own_at I2 e
  obtain ⟨m, hF⟩ := I2.fr
  refine PySem.W.in_K hF I2.ok.mod.kin J M.at_ M.fn ?_
  refine wpAny_mono (own_run (us := [.ref a, v]) (vs := [.ref a, y]) F hr I2.env0 B (hx σ) I2 (.cons rfl (.cons ry .nil)) q) (fun w s' z => ?_) fun _ _ z => z
  obtain ⟨z, H3, I3, rz, c, rfl, qz⟩ := z
  cases (show w = Value.bool c from rz)
  exact wpAny_pure ⟨.bl c, H3, I3, rfl, qz⟩
/-- len(x) by the own __len__ -/
def rOwnLen (C : Addr) (sp : Sp) : (L2.St → XK) → L2.St → List V → Hp → VK → Prop := fun E σ xs H Q => ∃ a dx fs, xs = [.ref a] ∧ H a = some (.ins C dx fs) ∧ sp xs H (fun z H' => ∃ n : Nat, z = .int n ∧ n < 2 ^ 63 ∧ Q (.int n) H') (E σ)
theorem call_lenOwn {D : XK} (F : Two X CX k C "__len__" sp) (hr : Room (k + 1) X.A) (hx : Passes CX X D) : CallR X (.builtin "len") (rOwnLen C sp (fun _ => D) []) := by
  obtain ⟨f, fd, ps, M, F, B⟩ := F.ex
  intro pins s σ H xs us Q I r q
  obtain ⟨a, dx, fs, rfl, e, q⟩ := q
  cases r with
  | cons r1 r2 =>
    cases r2
    cases r1
    obtain ⟨ox, od, J⟩ := own_at I e
    obtain ⟨m, hF⟩ := I.fr
    refine PySem.W.len_K hF I.ok.mod.kin J M.at_ M.fn ?_
    refine wpAny_mono (own_run (us := [.ref a]) (vs := [.ref a]) (E := fun _ => D) F hr.in1 I.env0.in1 B (fun pins H s e s' I z => hx pins σ H s e s' I z) I (.cons rfl .nil) q) (fun w s' z => ?_) fun _ _ z => z
    obtain ⟨z, H3, I3, rz, n, rfl, hn, qz⟩ := z
    obtain ⟨t, rfl⟩ := (show ∃ t, w = Value.int n t from rz)
    refine ⟨⟨by omega, by omega⟩, ?_⟩
    exact ⟨.int n, H3, I3.tok _, ⟨_, rfl⟩, qz⟩
/-- x[y] by the own __getitem__ -/
theorem pe_ixOwn {a b : Expr} {ta tb : TE} {pos : Pos} (F : Two X CX k C "__getitem__" sp) (fi : ∀ f, PySem.W.findIn X.K (.ref C) "__getitem__" = some (some (.ref f)) → PySem.W.fnIn X.K f = true) (hr : Room (k + 1) X.A) (hx : ∀ σ, PassesAt CX X σ (E σ)) (ha : PE X a ta) (hb : PE X b tb)
    (hs : ∀ x i, subscripted b true (.ref x) i = runValue (.builtin "lifetime.subscript" ⟨[.ref x, i], []⟩)) :
    PE X (.Subscript a b pos) (tOp2 (rOwn2 C sp) E ta tb) := by
  obtain ⟨f, fd, ps, M, F, B⟩ := F.ex
  refine ⟨fun pins s σ H Q I h => ?_⟩
  refine Subscript_ (binT ha hb I h fun v u s2 x y H2 I2 rx ry q => ?_)
  obtain ⟨c, dx, fs, rfl, e, q⟩ := q
  cases rx
  obtain ⟨ox, od, J⟩ := own_at I2 e
  obtain ⟨m, hF⟩ := I2.fr
  refine PySem.W.sub_K hF I2.ok.mod.kin J M.at_ (fi f M.at_) M.fn ?_ (hs _ _)
  exact own_run (us := [.ref c, u]) (vs := [.ref c, y]) F hr.in1 I2.env0.in1 B (hx σ) I2 (.cons rfl (.cons ry .nil)) q
end
section
open PySem.W PySem.Calls
variable {prog : Program} {w : World} {A : Around} {E : Value → Shared → Prop} {s : Shared} {K : Frag} {x f C : Addr} {ox : Obj} {od : Option Obj}
/-- x ⊕ b by the own method: b is of the one class, or of a built-in one -/
theorem bin_by_own {op : Operator} {b tb : Value} {Q : Value → Shared → Prop} (X : K.In s.heap) (I : InstAt s.heap x ox C od) (hb : Looks (model prog w) s.heap (typeOf b) tb) (hc : selfFirst K C = true)
    (hs : findIn K (.ref C) (PySem.dunder op.info.2) = some (some (.ref f))) (hf : isFn K (.ref f) = true) (hr : ∃ rc, findIn K (.ref C) (dunderR op.info.2) = some rc ∧ (rc = none ∨ ∃ g : Addr, rc = some (.ref g)))
    (ht : tb = .ref C ∨ ∃ (T : String) (fo ro : Option Value), tb = .type T ∧ findIn K (.type T) (PySem.dunder op.info.2) = some fo ∧ findIn K (.type T) (dunderR op.info.2) = some ro ∧ subIn K (.type T) (.ref C) = some false)
    (h : wpAny (model prog w) A (call (.ref f) [.ref x, b]) (PySem.W.CmpBack Q) E s) : wpAny (model prog w) A (binaryOp op (.ref x) b) Q E s := by
  obtain ⟨cd, rest, hcd, hm⟩ := ksp_first hc
  obtain ⟨rc, hr, hp⟩ := hr
  rcases hi : op.info with ⟨sym, nm'⟩
  rw [hi] at hs hr ht
  dsimp only at hs hr ht
  have one := ksp_try X I hs hf h
  obtain ⟨hh, g, d, tt, os⟩ := s
  have a1 : Looks (model prog w) hh (typeOf (.ref x)) (.ref C) := I.type
  have a2 : Looks (model prog w) hh (typeOf b) tb := hb
  have a3 : Looks (model prog w) hh (fillsNumberSlot (.ref C) nm') true := fills_K X hcd hm hs
  have a6 : Looks (model prog w) hh (numberSlotInPython (.ref C) nm') true := ksp_inPy X hs hr hp
  simp only [binaryOp, hi]
  refine wpAny_holding (wpAny_bind ?_)
  unfold binaryOp1
  refine wpAny_bind (a1.at (wpAny_bind (a2.at (wpAny_bind (a3.at ?_)))))
  rcases ht with rfl | ⟨T, fo, ro, rfl, h1, h2, hsub⟩
  · simp only [beq_self_eq_true, if_true]
    ksp_lk
    refine wpAny_mono one (fun r s' hr' => ?_) fun _ _ e => e
    obtain ⟨v, rfl, hq⟩ := hr'
    ksp_lk
    exact hq
  · have a4 := ksp_fillsT (M := model prog w) X h1 h2
    have a5 : Looks (model prog w) hh (isSubtype (.type T) (.ref C)) false := looks_subIn X hsub
    have a7 : Looks (model prog w) hh (numberSlotInPython (.type T) nm') false := Looks.of_pure rfl
    have a8 : Looks (model prog w) hh (typeLookup (.type T) (dunderR nm')) ro := looks_findIn X h2
    generalize ((fo.isSome && !isSeqSlot fo) || (ro.isSome && !isSeqSlot ro)) = right at a4
    have ne : (Value.ref C == Value.type T) = false := Bool.eq_false_iff.mpr fun q => by cases beq_iff_eq.mp q
    simp only [ne, Bool.false_eq_true, if_false]
    cases right with
    | false =>
      ksp_lk
      refine wpAny_mono one (fun r s' hr' => ?_) fun _ _ e => e
      obtain ⟨v, rfl, hq⟩ := hr'
      ksp_lk
      exact hq
    | true =>
      ksp_lk
      refine wpAny_mono one (fun r s' hr' => ?_) fun _ _ e => e
      obtain ⟨v, rfl, hq⟩ := hr'
      ksp_lk
      exact hq
end
section
variable {X : Cx} {CX : CXT} {k : Nat} {C : Addr} {sp : Sp} {E : L2.St → XK}
/-- what the other one may be in x ⊕ y -/
def OtherB (K : PySem.W.Frag) (C : Addr) (H : Hp) (nm : String) (y : V) : Prop := (∃ b dy gs, y = .ref b ∧ H b = some (.ins C dy gs)) ∨
  (∃ (T : String) (fo ro : Option Value), TyX K H y (.type T) ∧ PySem.W.findIn K (.type T) (PySem.dunder nm) = some fo ∧ PySem.W.findIn K (.type T) (dunderR nm) = some ro ∧ PySem.W.subIn K (.type T) (.ref C) = some false)
def rOwnB (K : PySem.W.Frag) (C : Addr) (nm : String) (sp : Sp) : (L2.St → XK) → L2.St → V → V → Hp → VK → Prop := fun E σ x y H Q => ∃ a dx fs, x = .ref a ∧ H a = some (.ins C dx fs) ∧ OtherB K C H nm y ∧ sp [x, y] H Q (E σ)
/-- x ⊕ y by the own method -/
theorem pe_binOwn {op : Operator} {a b : Expr} {ta tb : TE} {pos : Pos} (F : Two X CX k C (PySem.dunder op.info.2) sp) (hc : PySem.W.selfFirst X.K C = true) (hrc : ∃ rc, PySem.W.findIn X.K (.ref C) (dunderR op.info.2) = some rc ∧ (rc = none ∨ ∃ g : Addr, rc = some (.ref g)))
    (hr : Room k X.A) (hx : ∀ σ, PassesAt CX X σ (E σ)) (ha : PE X a ta) (hb : PE X b tb) : PE X (.BinOp a op b pos) (tOp2 (rOwnB X.K C op.info.2 sp) E ta tb) := by
  obtain ⟨f, fd, ps, M, F, B⟩ := F.ex
  refine ⟨fun pins s σ H Q I h => ?_⟩
  refine wpAny_BinOp (binT ha hb I h fun v u s2 x y H2 I2 rx ry q => ?_)
  obtain ⟨a, dx, fs, rfl, e, o, q⟩ := q
  cases rx
  obtain ⟨ox, od, J⟩ := own_at I2 e
  have run := wpAny_mono (own_run (us := [.ref a, u]) (vs := [.ref a, y]) F hr I2.env0 B (hx σ) I2 (.cons rfl (.cons ry .nil)) q) (Q' := PySem.W.CmpBack (EP X pins σ Q)) (fun w s' z => by
    obtain ⟨z, H3, I3, rz, qz⟩ := z
    exact SlX.cmpback rz ⟨z, H3, I3, rz, qz⟩) fun _ _ z => z
  rcases o with ⟨b, dy, gs, rfl, eb⟩ | ⟨T, fo, ro, ty, h1, h2, h3⟩
  · cases ry
    obtain ⟨oy, oe, J'⟩ := own_at I2 eb
    exact bin_by_own I2.kIn J J'.type hc M.at_ M.fn hrc (.inl rfl) run
  · exact bin_by_own I2.kIn J (ty_looks I2 ry ty) hc M.at_ M.fn hrc (.inr ⟨T, fo, ro, rfl, h1, h2, h3⟩) run
/-- what raises nothing here -/
theorem passN (hx : Passes CX X E0) : ∀ σ, PassesAt CX X σ ((fun _ => E0 : L2.St → XK) σ) := fun σ pins H s e s' I c => hx pins σ H s e s' I c
end
section
open PySem.W PySem.Calls
variable {prog : Program} {w : World} {A : Around} {E : Value → Shared → Prop} {s : Shared} {K : Frag} {x f C : Addr} {ox : Obj} {od : Option Obj} {b tb : Value}
/-- what object's != does where an own == stands -/
theorem ne_body (hu : A.units < cLine) (X : K.In s.heap) (I : InstAt s.heap x ox C od) (he : findIn K (.ref C) "__eq__" = some (some (.ref f))) (hf : isFn K (.ref f) = true) {Q : Fin → Shared → Prop}
    (h : wpAny (model prog w) A (call (.ref f) [.ref x, b]) (fun v s' => ∃ c, v = .bool c ∧ Q (.done (.ret (.bool (!c)))) s') E s) : wpAny (model prog w) A (Builtin.«object.__ne__» ⟨[.ref x, b], []⟩) Q E s := by
  unfold Builtin.«object.__ne__»
  repeat (first
    | with_reducible refine wpAny_cRoomFor hu ?_
    | (refine wpAny_bind (m := callSpecialIfBound? (.ref x) (Str.ofString "__eq__") [b]) (ifBound_K X I he hf (wpAny_mono h (fun r s' hr => by
          obtain ⟨c, rfl, hq⟩ := hr
          repeat (first | exact hq | exact wpAny_pure hq | exact wpAny_truthy_bool hq | (refine wpAny_bind (m := truthy (.bool _)) (wpAny_truthy_bool ?_)) | wp_step)) fun _ _ e => e)))
    | wp_step)
/-- x != b by the own == -/
theorem ne_by_eq (hu : A.in1.units < cLine) (hu0 : A.units < cLine) (X : K.In s.heap) (I : InstAt s.heap x ox C od) (hb : Looks (model prog w) s.heap (typeOf b) tb) (hn : notFirst K C tb = true) (hm : mroIn K C (.type "object") = some true)
    (hs : findIn K (.ref C) "__ne__" = some (some (.builtin "object.__ne__"))) (he : findIn K (.ref C) "__eq__" = some (some (.ref f))) (hf : isFn K (.ref f) = true) {Q : Value → Shared → Prop}
    (h : wpAny (model prog w) A.in1 (call (.ref f) [.ref x, b]) (fun v s' => ∃ c, v = .bool c ∧ Q (.bool (!c)) s') E s) : wpAny (model prog w) A (richCompare .NotEq (.ref x) b) Q E s := by
  have inner : ∀ {R : Value → Shared → Prop}, (∀ c s', Q (.bool c) s' → R (.bool c) s') → wpAny (model prog w) A (call (.builtin "object.__ne__") [.ref x, b]) R E s := fun {R} hR =>
    wpAny_call (codeAny_call_builtin F.cmp_object.ne.plain F.cmpEntry_ne (check_slot F.cmpKind_ne F.cmpSplit_ne (I.type.andThen (looks_mroIn X hm)) (F.cmpArgs_ne _ _)
      (ne_body hu X I he hf (wpAny_mono h (fun v s' z => by
        obtain ⟨c, e, q⟩ := z
        exact ⟨c, e, hR _ _ q⟩) fun _ _ e => e))))
  have one : wpAny (model prog w) A (tryCompare (.ref x) "__ne__" b) (fun r s' => ∃ v, r = some v ∧ Q v s') E s := by
    unfold tryCompare
    simp only [callSpecialIfBound?, bindSpecialIfBound?]
    refine wpAny_bind (wpAny_holding (wpAny_bind (wpAny_bind (wpAny_bind (I.type.here ((looks_findIn X hs).here ?_))))))
    refine wpAny_bind (wpAny_askSetting (wpAny_ite ?_))
    have fin := inner (R := fun v s' => wpAny (model prog w) A (pure (some v)) (fun r s'' => wpAny (model prog w) A (match r with | some .notImplemented | none => pure none | some v => pure (some v)) (fun r s' => ∃ v, r = some v ∧ Q v s') E s'') E s') (fun c s' q => wpAny_pure (wpAny_pure ⟨_, rfl, q⟩))
    split
    · exact wpAny_bind (wpAny_of_eq (F.cmp_object.ne.bind _) (wpAny_pure (by exact wpAny_bind fin)))
    · exact wpAny_tryCatch (wpAny_bind (wpAny_of_eq (F.cmp_object.ne.bind _) (wpAny_pure (by exact wpAny_bind fin))))
  unfold richCompare
  simp only [oneThing_ref]
  refine wpAny_holding (wpAny_bind (wpAny_cRoomFor hu0 ?_))
  refine wpAny_bind (I.type.here (wpAny_bind (hb.here ?_)))
  split
  · rename_i q
    have e : subIn K tb (.ref C) = some false := by
      rcases Bool.or_eq_true_iff.mp hn with e | e
      · rw [beq_iff_eq.mp e] at q; simp at q
      · exact beq_iff_eq.mp e
    refine wpAny_bind ((looks_subIn X e).here ?_)
    simp only [Bool.false_eq_true, if_false]
    refine wpAny_bind (wpAny_mono one (fun r s' z => ?_) fun _ _ e => e)
    obtain ⟨v, rfl, hq⟩ := z
    exact wpAny_pure hq
  · refine wpAny_bind (wpAny_pure ?_)
    simp only [Bool.false_eq_true, if_false]
    refine wpAny_bind (wpAny_mono one (fun r s' z => ?_) fun _ _ e => e)
    obtain ⟨v, rfl, hq⟩ := z
    exact wpAny_pure hq
end
section
variable {X : Cx} {CX : CXT} {k : Nat} {C : Addr} {sp : Sp} {E : L2.St → XK}
/-- x != y, where the class has an == of its own and no != -/
def rOwnNe (K : PySem.W.Frag) (C : Addr) (sp : Sp) : (L2.St → XK) → L2.St → V → V → Hp → VK → Prop := fun E σ x y H Q => ∃ a dx fs, x = .ref a ∧ H a = some (.ins C dx fs) ∧ OtherT K C H y ∧ sp [x, y] H (fun z H' => ∃ c, z = .bl c ∧ Q (.bl (!c)) H') (E σ)
theorem pe_neOwn {a b : Expr} {ta tb : TE} {pos : Pos} (F : Two X CX k C "__eq__" sp) (hs : PySem.W.findIn X.K (.ref C) "__ne__" = some (some (.builtin "object.__ne__"))) (ho : PySem.W.mroIn X.K C (.type "object") = some true) (hr : Room (k + 1) X.A) (hx : ∀ σ, PassesAt CX X σ (E σ)) (ha : PE X a ta) (hb : PE X b tb) (hm : behindInMarks .NotEq b = false) :
    PE X (.Compare a [.NotEq] [b] pos) (tOp2 (rOwnNe X.K C sp) E ta tb) := by
  obtain ⟨f, fd, ps, M, F, B⟩ := F.ex
  refine ⟨fun pins s σ H Q I h => ?_⟩
  refine wpAny_Compare1 (binT ha hb I h fun v u s2 x y H2 I2 rx ry q => ?_) hm
  obtain ⟨a, dx, fs, rfl, e, o, q⟩ := q
  cases rx
  obtain ⟨ox, od, J⟩ := own_at I2 e
  obtain ⟨tb, L, nf⟩ := other_looks (M := model X.prog X.w) I2 ry o fun _ _ _ _ _ => trivial
  show wpAny _ _ (richCompare .NotEq _ _) _ _ _
  refine ne_by_eq hr.in1.units0 hr.units0 I2.kIn J L nf ho hs M.at_ M.fn ?_
  refine wpAny_mono (own_run (us := [.ref a, u]) (vs := [.ref a, y]) F hr.in1 I2.env0.in1 B (hx σ) I2 (.cons rfl (.cons ry .nil)) q) (fun w s' z => ?_) fun _ _ z => z
  obtain ⟨z, H3, I3, rz, c, rfl, qz⟩ := z
  cases (show w = Value.bool c from rz)
  exact ⟨c, rfl, .bl (!c), H3, I3, rfl, qz⟩
end
/-! readings, step by step -/
section
variable {K : PySem.W.Frag} {C a dx : Addr} {fs : List (Str × V)} {sp : Sp} {E : L2.St → XK} {σ : L2.St} {y : V} {H : Hp} {Q : VK} {nm : String}
theorem r_op2 {r : (L2.St → XK) → L2.St → V → V → Hp → VK → Prop} {ta tb : TE} (h : ta σ H fun x H1 => tb σ H1 fun y H2 => r E σ x y H2 Q) : tOp2 r E ta tb σ H Q := h
theorem r_own2 (e : H a = some (.ins C dx fs)) (h : sp [.ref a, y] H Q (E σ)) : rOwn2 C sp E σ (.ref a) y H Q := ⟨a, dx, fs, rfl, e, h⟩
theorem r_ownC (e : H a = some (.ins C dx fs)) (o : OtherT K C H y) (h : sp [.ref a, y] H Q (E σ)) : rOwnC K C sp E σ (.ref a) y H Q := ⟨a, dx, fs, rfl, e, o, h⟩
theorem r_ownB (e : H a = some (.ins C dx fs)) (o : OtherB K C H nm y) (h : sp [.ref a, y] H Q (E σ)) : rOwnB K C nm sp E σ (.ref a) y H Q := ⟨a, dx, fs, rfl, e, o, h⟩
theorem r_ownNe (e : H a = some (.ins C dx fs)) (o : OtherT K C H y) (h : sp [.ref a, y] H (fun z H' => ∃ c, z = .bl c ∧ Q (.bl (!c)) H') (E σ)) : rOwnNe K C sp E σ (.ref a) y H Q := ⟨a, dx, fs, rfl, e, o, h⟩
theorem r_ownIn (e : H a = some (.ins C dx fs)) (h : sp [.ref a, y] H (fun z H' => ∃ c, z = .bl c ∧ Q (.bl c) H') (E σ)) : rOwnIn C sp false E σ y (.ref a) H Q := ⟨a, dx, fs, rfl, e, h⟩
theorem r_ownLen (e : H a = some (.ins C dx fs)) (h : sp [.ref a] H (fun z H' => ∃ n : Nat, z = .int n ∧ n < 2 ^ 63 ∧ Q (.int n) H') (E σ)) : rOwnLen C sp E σ [.ref a] H Q := ⟨a, dx, fs, rfl, e, h⟩
end
end Pk
set_option Elab.async false
set_option linter.all false
set_option maxRecDepth 100000
set_option maxHeartbeats 200000
namespace Pk
open PySem L2 PySem.Spec PyProof.Rows
section
open PySem.W PySem.Calls
variable {prog : Program} {w : World} {A : Around} {E : Value → Shared → Prop} {s : Shared} {K : Frag} {x f C : Addr} {ox : Obj} {od : Option Obj} {i : Int} {t : Tok}
/-- int's product with an instance: declined -/
theorem mul_no {c : Value} {dd : Option Addr} {sl : Array (Option Value)} {Q : Value → Shared → Prop} (hx : s.heap.get? x = some ⟨c, dd, .plain, sl⟩) (h : Q .notImplemented s) : wpAny (model prog w) A (call (.builtin "int.__mul__") [.int i t, .ref x]) Q E s := by
  refine wpAny_call (codeAny_call_builtin F.slot_int_mul.plain F.entry_int_mul (F.slot_int_mul.check _ _ _ _ _ _ _ _ (typeIs_int s i t) (F.args_int_mul_2 _ _) ?_))
  obtain ⟨hp, g, d, tk, os⟩ := s
  unfold Builtin.«int.__mul__» Builtin.Int.intBinary
  repeat (first
    | exact h
    | with_reducible refine wpAny_load hx ?_
    | wp_step)
theorem try_mul_int {nm : Str} {c : Value} {dd : Option Addr} {sl : Array (Option Value)} {Q : Option Value → Shared → Prop} (L : Slot "int" nm "int.__mul__") (hx : s.heap.get? x = some ⟨c, dd, .plain, sl⟩) (h : Q none s) : wpAny (model prog w) A (tryMethod (.int i t) nm (.ref x)) Q E s :=
  wpAny_tryMethod_declines (typeIs_int s i t) L (mul_no hx ⟨rfl, h⟩)
/-- a ⊕ x by x's own reflected method, a of a built-in class that has none of its own, or declines -/
theorem bin_back {op : Operator} {a : Value} {T : String} {lb : Bool} {g0 : Addr} {Q : Value → Shared → Prop} (X : K.In s.heap) (I : InstAt s.heap x ox C od) (hta : typeOf a = pure (.type T)) (hl : fillsNumberSlot (.type T) op.info.2 = pure lb) (hc : selfFirst K C = true)
    (hs : findIn K (.ref C) (PySem.dunder op.info.2) = some (some (.ref g0))) (hr : findIn K (.ref C) (dunderR op.info.2) = some (some (.ref f))) (hf : isFn K (.ref f) = true) (hsub : subIn K (.ref C) (.type T) = some false)
    (no : lb = true → ∀ {R : Option Value → Shared → Prop}, R none s → wpAny (model prog w) A (tryMethod a (PySem.dunder op.info.2) (.ref x)) R E s)
    (h : wpAny (model prog w) A (call (.ref f) [.ref x, a]) (PySem.W.CmpBack Q) E s) : wpAny (model prog w) A (binaryOp op a (.ref x)) Q E s := by
  obtain ⟨cd, rest, hcd, hm⟩ := ksp_first hc
  rcases hi : op.info with ⟨sym, nm'⟩
  rw [hi] at hs hr hl no
  dsimp only at hs hr hl no
  have one := ksp_try X I hr hf h
  obtain ⟨hh, g, d, tt, os⟩ := s
  have a1 : Looks (model prog w) hh (typeOf (.ref x)) (.ref C) := I.type
  have a2 : Looks (model prog w) hh (typeOf a) (.type T) := Looks.of_pure hta
  have a3 : Looks (model prog w) hh (fillsNumberSlot (.ref C) nm') true := fills_K X hcd hm hs
  have a4 : Looks (model prog w) hh (fillsNumberSlot (.type T) nm') lb := Looks.of_pure hl
  have a5 : Looks (model prog w) hh (isSubtype (.ref C) (.type T)) false := looks_subIn X hsub
  have a7 : Looks (model prog w) hh (numberSlotInPython (.type T) nm') false := Looks.of_pure rfl
  have ne : (Value.type T == Value.ref C) = false := Bool.eq_false_iff.mpr fun q => by cases beq_iff_eq.mp q
  simp only [binaryOp, hi]
  refine wpAny_holding (wpAny_bind ?_)
  unfold binaryOp1
  refine wpAny_bind (a2.at (wpAny_bind (a1.at (wpAny_bind (a4.at ?_)))))
  simp only [ne, Bool.false_eq_true, if_false]
  cases lb with
  | false =>
    ksp_lk
    refine wpAny_mono one (fun r s' hr' => ?_) fun _ _ e => e
    obtain ⟨v, rfl, hq⟩ := hr'
    ksp_lk
    exact hq
  | true =>
    ksp_lk
    refine no rfl ?_
    ksp_lk
    refine wpAny_mono one (fun r s' hr' => ?_) fun _ _ e => e
    obtain ⟨v, rfl, hq⟩ := hr'
    ksp_lk
    exact hq
end
theorem slot_mul_lit : Slot "int" ("__mul__" : Str) "int.__mul__" := by
  have e : PySem.dunder "mul" = ("__mul__" : Str) := by decide +kernel
  rw [← e]
  exact PySem.F.slot_int_mul
section
variable {X : Cx} {CX : CXT} {k : Nat} {C g0 : Addr} {sp : Sp} {E : L2.St → XK}
/-- i * x by the own __rmul__, i an int -/
def rMulBack (C : Addr) (sp : Sp) : (L2.St → XK) → L2.St → V → V → Hp → VK → Prop := fun E σ y x H Q => ∃ a dx fs i, x = .ref a ∧ y = .int i ∧ H a = some (.ins C dx fs) ∧ sp [x, y] H Q (E σ)
theorem pe_mulBack {op : Operator} {a b : Expr} {ta tb : TE} {pos : Pos} (hop : op = .Mult) (F : Two X CX k C "__rmul__" sp) (hc : PySem.W.selfFirst X.K C = true) (hs : PySem.W.findIn X.K (.ref C) "__mul__" = some (some (.ref g0))) (hsub : PySem.W.subIn X.K (.ref C) (.type "int") = some false)
    (hr : Room k X.A) (hx : ∀ σ, PassesAt CX X σ (E σ)) (ha : PE X a ta) (hb : PE X b tb) : PE X (.BinOp a op b pos) (tOp2 (rMulBack C sp) E ta tb) := by
  obtain ⟨f, fd, ps, M, F, B⟩ := F.ex
  refine ⟨fun pins s σ H Q I h => ?_⟩
  refine wpAny_BinOp (binT ha hb I h fun v u s2 y x H2 I2 ry rx q => ?_)
  obtain ⟨a, dx, fs, i, rfl, rfl, e, q⟩ := q
  cases rx
  obtain ⟨t, rfl⟩ := (show ∃ t, v = Value.int i t from ry)
  obtain ⟨mA, J0, _⟩ := ins_get I2.hok e
  obtain ⟨od, J, _⟩ := J0.look
  have run := wpAny_mono (own_run (us := [.ref a, .int i t]) (vs := [.ref a, .int i]) F hr I2.env0 B (hx σ) I2 (.cons rfl (.cons ⟨t, rfl⟩ .nil)) q) (Q' := PySem.W.CmpBack (EP X pins σ Q)) (fun w s' z => by
    obtain ⟨z, H3, I3, rz, qz⟩ := z
    exact SlX.cmpback rz ⟨z, H3, I3, rz, qz⟩) fun _ _ z => z
  have e0 : op.info.2 = "mul" := by rw [hop]; rfl
  have e1 : PySem.dunder op.info.2 = ("__mul__" : Str) := by rw [e0]; decide +kernel
  have e2 : dunderR op.info.2 = ("__rmul__" : Str) := by rw [e0]; decide +kernel
  have k1 : PySem.W.findIn X.K (.ref C) (PySem.dunder op.info.2) = some (some (.ref g0)) := by rw [e1]; exact hs
  have k2 : PySem.W.findIn X.K (.ref C) (dunderR op.info.2) = some (some (.ref f)) := by rw [e2]; exact M.at_
  have k3 : fillsNumberSlot (.type "int") op.info.2 = pure true := by rw [e0]; exact PySem.F.fills_int_mul
  have k5 : Slot "int" (PySem.dunder op.info.2) "int.__mul__" := by rw [e1]; exact slot_mul_lit
  have kT : typeOf (.int i t) = pure (.type "int") := rfl
  exact bin_back I2.kIn J kT k3 hc k1 k2 M.fn hsub (fun _ {R} hR => try_mul_int k5 J0.obj hR) run
theorem r_mulBack {σ : L2.St} {H : Hp} {Q : VK} {a dx : Addr} {fs : List (Str × V)} {i : Int} (e : H a = some (.ins C dx fs)) (h : sp [.ref a, .int i] H Q (E σ)) : rMulBack C sp E σ (.int i) (.ref a) H Q := ⟨a, dx, fs, i, rfl, rfl, e, h⟩
end
section
open PySem.W PySem.Calls
variable {prog : Program} {w : World} {A : Around} {E : Value → Shared → Prop} {s : Shared} {x : Addr} {b : Bool}
/-- a bool's product with an instance: declined -/
theorem mul_noB {c : Value} {dd : Option Addr} {sl : Array (Option Value)} {Q : Value → Shared → Prop} (hx : s.heap.get? x = some ⟨c, dd, .plain, sl⟩) (h : Q .notImplemented s) : wpAny (model prog w) A (call (.builtin "int.__mul__") [.bool b, .ref x]) Q E s := by
  refine wpAny_call (codeAny_call_builtin PySem.F.slot_int_mul.plain PySem.F.entry_int_mul (PySem.F.slot_bool_mul.check _ _ _ _ _ _ _ _ (PySem.typeIs_bool s b) (PySem.F.args_int_mul_2 _ _) ?_))
  obtain ⟨hp, g, d, tk, os⟩ := s
  unfold Builtin.«int.__mul__» Builtin.Int.intBinary
  repeat (first
    | exact h
    | with_reducible refine wpAny_load hx ?_
    | wp_step)
theorem try_mul_bool {nm : Str} {c : Value} {dd : Option Addr} {sl : Array (Option Value)} {Q : Option Value → Shared → Prop} (L : Slot "bool" nm "int.__mul__") (hx : s.heap.get? x = some ⟨c, dd, .plain, sl⟩) (h : Q none s) : wpAny (model prog w) A (tryMethod (.bool b) nm (.ref x)) Q E s :=
  wpAny_tryMethod_declines (PySem.typeIs_bool s b) L (mul_noB hx ⟨rfl, h⟩)
theorem slot_mul_litB : Slot "bool" ("__mul__" : Str) "int.__mul__" := by
  have e : PySem.dunder "mul" = ("__mul__" : Str) := by decide +kernel
  rw [← e]
  exact PySem.F.slot_bool_mul
end
section
variable {X : Cx} {CX : CXT} {k : Nat} {C g0 : Addr} {sp : Sp} {E : L2.St → XK}
/-- y * x by the own __rmul__, y a number, a truth, a text or none -/
def Plain1 (y : V) : Prop := (∃ i, y = .int i) ∨ (∃ b, y = .bl b) ∨ (∃ z, y = .str z) ∨ y = .non
def rMulAny (C : Addr) (sp : Sp) : (L2.St → XK) → L2.St → V → V → Hp → VK → Prop := fun E σ y x H Q => ∃ a dx fs, x = .ref a ∧ Plain1 y ∧ H a = some (.ins C dx fs) ∧ sp [x, y] H Q (E σ)
theorem none_mul : fillsNumberSlot (.type "NoneType") "mul" = pure false := by
  unfold fillsNumberSlot
  have a : typeLookup (.type "NoneType") (PySem.dunder "mul") = pure none := by rw [typeLookup_type, builtinLookup_eq_fast]; kernel_rfl
  have b : typeLookup (.type "NoneType") (dunderR "mul") = pure none := by rw [typeLookup_type, builtinLookup_eq_fast]; kernel_rfl
  simp only [a, b, pure_bind]
  rfl
theorem pe_mulAny {op : Operator} {a b : Expr} {ta tb : TE} {pos : Pos} (hop : op = .Mult) (F : Two X CX k C "__rmul__" sp) (hc : PySem.W.selfFirst X.K C = true) (hs : PySem.W.findIn X.K (.ref C) "__mul__" = some (some (.ref g0)))
    (hi : PySem.W.subIn X.K (.ref C) (.type "int") = some false) (hbo : PySem.W.subIn X.K (.ref C) (.type "bool") = some false) (hst : PySem.W.subIn X.K (.ref C) (.type "str") = some false) (hno : PySem.W.subIn X.K (.ref C) (.type "NoneType") = some false)
    (hr : Room k X.A) (hx : ∀ σ, PassesAt CX X σ (E σ)) (ha : PE X a ta) (hb : PE X b tb) : PE X (.BinOp a op b pos) (tOp2 (rMulAny C sp) E ta tb) := by
  obtain ⟨f, fd, ps, M, F, B⟩ := F.ex
  refine ⟨fun pins s σ H Q I h => ?_⟩
  refine wpAny_BinOp (binT ha hb I h fun v u s2 y x H2 I2 ry rx q => ?_)
  obtain ⟨a, dx, fs, rfl, py, e, q⟩ := q
  cases rx
  obtain ⟨mA, J0, _⟩ := ins_get I2.hok e
  obtain ⟨od, J, _⟩ := J0.look
  have run := wpAny_mono (own_run (us := [.ref a, v]) (vs := [.ref a, y]) F hr I2.env0 B (hx σ) I2 (.cons rfl (.cons ry .nil)) q) (Q' := PySem.W.CmpBack (EP X pins σ Q)) (fun w s' z => by
    obtain ⟨z, H3, I3, rz, qz⟩ := z
    exact SlX.cmpback rz ⟨z, H3, I3, rz, qz⟩) fun _ _ z => z
  have e0 : op.info.2 = "mul" := by rw [hop]; rfl
  have e1 : PySem.dunder op.info.2 = ("__mul__" : Str) := by rw [e0]; decide +kernel
  have e2 : dunderR op.info.2 = ("__rmul__" : Str) := by rw [e0]; decide +kernel
  have k1 : PySem.W.findIn X.K (.ref C) (PySem.dunder op.info.2) = some (some (.ref g0)) := by rw [e1]; exact hs
  have k2 : PySem.W.findIn X.K (.ref C) (dunderR op.info.2) = some (some (.ref f)) := by rw [e2]; exact M.at_
  rcases py with ⟨i, rfl⟩ | ⟨i, rfl⟩ | ⟨i, rfl⟩ | rfl
  · obtain ⟨t, rfl⟩ := (show ∃ t, v = Value.int i t from ry)
    have k3 : fillsNumberSlot (.type "int") op.info.2 = pure true := by rw [e0]; exact PySem.F.fills_int_mul
    have k5 : Slot "int" (PySem.dunder op.info.2) "int.__mul__" := by rw [e1]; exact slot_mul_lit
    have kT : typeOf (.int i t) = pure (.type "int") := rfl
    exact bin_back I2.kIn J kT k3 hc k1 k2 M.fn hi (fun _ {R} hR => try_mul_int k5 J0.obj hR) run
  · cases (show v = Value.bool i from ry)
    have k3 : fillsNumberSlot (.type "bool") op.info.2 = pure true := by rw [e0]; exact PySem.F.fills_bool_mul
    have k5 : Slot "bool" (PySem.dunder op.info.2) "int.__mul__" := by rw [e1]; exact slot_mul_litB
    have kT : typeOf (.bool i) = pure (.type "bool") := rfl
    exact bin_back I2.kIn J kT k3 hc k1 k2 M.fn hbo (fun _ {R} hR => try_mul_bool k5 J0.obj hR) run
  · obtain ⟨t, rfl⟩ := (show ∃ t, v = Value.str i t from ry)
    have k3 : fillsNumberSlot (.type "str") op.info.2 = pure false := by rw [e0]; exact noFill_str_mul
    have kT : typeOf (.str i t) = pure (.type "str") := rfl
    exact bin_back I2.kIn J kT k3 hc k1 k2 M.fn hst (fun z => Bool.noConfusion z) run
  · cases (show v = Value.none from ry)
    have k3 : fillsNumberSlot (.type "NoneType") op.info.2 = pure false := by rw [e0]; exact none_mul
    have kT : typeOf .none = pure (.type "NoneType") := rfl
    exact bin_back I2.kIn J kT k3 hc k1 k2 M.fn hno (fun z => Bool.noConfusion z) run
theorem r_mulAny {σ : L2.St} {H : Hp} {Q : VK} {a dx : Addr} {fs : List (Str × V)} {y : V} (e : H a = some (.ins C dx fs)) (py : Plain1 y) (h : sp [.ref a, y] H Q (E σ)) : rMulAny C sp E σ y (.ref a) H Q := ⟨a, dx, fs, rfl, py, e, h⟩
end
end Pk
set_option Elab.async false
set_option linter.all false
set_option maxRecDepth 100000
set_option maxHeartbeats 1000000
namespace Pk
open PySem L2
section
variable {K : PySem.W.Frag} {σ : L2.St} {H : Hp} {Q : VK} {D : Ends} {a C dx : Addr} {fs : List (Str × V)} {f g : Str} {v u : V} {i : Nat} {ta tv : TE}
/-- an attribute is read -/
theorem r_fldU (h : ta σ H fun x H1 => ∃ a C dx fs v, x = .ref a ∧ H1 a = some (.ins C dx fs) ∧ Cls K C ∧ NoAttr K C f ∧ fs.lookup f = some v ∧ Q v H1) : tFld K ta f σ H Q := h
theorem r_fld0 (o : H a = some (.ins C dx fs)) (c : Cls K C) (n : NoAttr K C f) (l : fs.lookup f = some v) (h : Q v H) : ∃ b C dx fs v, V.ref a = .ref b ∧ H b = some (.ins C dx fs) ∧ Cls K C ∧ NoAttr K C f ∧ fs.lookup f = some v ∧ Q v H := ⟨a, C, dx, fs, v, rfl, o, c, n, l, h⟩
theorem r_fldV (e : σ[i]? = some (some (.ref a))) (o : H a = some (.ins C dx fs)) (c : Cls K C) (n : NoAttr K C f) (l : fs.lookup f = some v) (h : Q v H) : tFld K (tVar i) f σ H Q := ⟨.ref a, e, a, C, dx, fs, v, rfl, o, c, n, l, h⟩
/-- .. is set -/
theorem r_sFldU (h : tv σ H fun y H1 => ta σ H1 fun x H2 => ∃ a C dx fs, x = .ref a ∧ H2 a = some (.ins C dx fs) ∧ Cls K C ∧ NoAttr K C f ∧ fs.length < 1000 ∧ D.nx σ (upd H2 a (.ins C dx (putF f y fs)))) : sFld K ta tv f D σ H := h
theorem r_sFld0 {P : Hp → Prop} {y : V} (o : H a = some (.ins C dx fs)) (c : Cls K C) (n : NoAttr K C f) (l : fs.length < 1000) (h : P (upd H a (.ins C dx (putF f y fs)))) :
    ∃ b C dx fs, V.ref a = .ref b ∧ H b = some (.ins C dx fs) ∧ Cls K C ∧ NoAttr K C f ∧ fs.length < 1000 ∧ P (upd H b (.ins C dx (putF f y fs))) := ⟨a, C, dx, fs, rfl, o, c, n, l, h⟩
/-- a method of an own class is called -/
theorem r_methU {m : Str} {sp : Sp} {dvs : List V} {E : XK} {t : TA} (h : ta σ H fun x H1 => ∃ a dx fs, x = .ref a ∧ H1 a = some (.ins C dx fs) ∧ fs.lookup m = none ∧ t σ H1 fun vs H2 => sp (x :: (vs ++ dvs)) H2 Q E) : tMeth C m sp dvs E ta t σ H Q := h
/-- a < b < c -/
theorem r_chain {r r' : R2} {tc : TE} (h : ta σ H fun x H1 => tv σ H1 fun y H2 => r x y H2 fun z H3 => ∃ k, z = .bl k ∧ (if k = true then tc σ H3 fun w H4 => r' y w H4 Q else Q (.bl false) H3)) : tChain r r' ta tv tc σ H Q := h
theorem ifT {c : Bool} {A B : Prop} (hc : c = true) (h : A) : if c = true then A else B := by rw [if_pos hc]; exact h
theorem ifF {c : Bool} {A B : Prop} (hc : c = false) (h : B) : if c = true then A else B := by rw [hc, if_neg Bool.false_ne_true]; exact h
/-- enumerate(list) in a for -/
theorem r_enum {ta : TA} {R : It → Hp → Prop} (h : ta σ H fun vs H1 => ∃ a xs, vs = [.ref a] ∧ SqL K H1 a xs ∧ R (Ite K a) H1) : iEnum K ta σ H R := h
theorem r_zip {ta : TA} {R : It → Hp → Prop} (h : ta σ H fun vs H1 => ∃ a b xs ys, vs = [.ref a, .ref b] ∧ SqL K H1 a xs ∧ SqL K H1 b ys ∧ R (Itz K a b) H1) : iZip K ta σ H R := h
theorem r_gtup {n : Nat} {t : TGs} {R : L2.St → Hp → Prop} (h : ∃ a xs, v = .ref a ∧ SqT K H a xs ∧ xs.length = n ∧ t xs σ H R) : gTup K n t v σ H R := h
theorem int_at {ms : List Int} {i : Nat} {y : V} (h : (ms.map V.int)[i]? = some y) : ∃ m, m ∈ ms ∧ y = .int m := by
  rw [List.getElem?_map] at h
  cases e : ms[i]? with
  | none => rw [e] at h; cases h
  | some m => rw [e] at h; exact ⟨m, List.mem_of_getElem? e, (Option.some.inj h).symm⟩
theorem int_get {ms : List Int} {i : Nat} {y : V} (h : (ms.map V.int)[i]? = some y) : y = .int (ms.getD i 0) := by
  rw [List.getElem?_map] at h
  cases e : ms[i]? with
  | none => rw [e] at h; cases h
  | some m => rw [e] at h; rw [List.getD_eq_getElem?_getD, e]; exact (Option.some.inj h).symm
/-- two attributes -/
theorem two_put (hfg : (f == g) = false) (e : ¬ f = g) : putF g u (putF f v []) = [(f, v), (g, u)] := by
  show putF g u [(f, v)] = _
  rw [show putF g u [(f, v)] = (f, v) :: putF g u [] from if_neg e]
  rfl
theorem two_fst : List.lookup f [(f, v), (g, u)] = some v := by simp [List.lookup]
theorem two_snd (hfg : (g == f) = false) : List.lookup g [(f, v), (g, u)] = some u := by simp [List.lookup, hfg]
theorem two_no {m : Str} (h1 : (m == f) = false) (h2 : (m == g) = false) : List.lookup m [(f, v), (g, u)] = none := by simp [List.lookup, h1, h2]
theorem ite_and {c d : Bool} {A B : Prop} (h : if (c && d) = true then A else B) : if c = true then (if d = true then A else B) else B := by
  cases c <;> cases d <;> simpa using h
end
/-- what isinstance asks of an own class -/
structure OwnC (K : PySem.W.Frag) (C : Addr) : Prop where
  cl : Cls K C
  ha : PySem.W.findIn K (.ref C) "__class__" = some (some (.builtin "object.__class__"))
  hn : PySem.W.specialIn K (.builtin "object.__class__") "__get__" = some (some (.builtin "getset_descriptor.__get__"))
  htk : PySem.W.takesIn K (.builtin "object.__class__") = some true
  hm : PySem.W.mroIn K C (.type "object") = some true
  isC : PySem.W.isClsIn K C = true
  ty : PySem.W.typeIn K (.ref C) = some (.type "type")
  sub : ∀ T : String, T ∈ (["NoneType", "int", "bool", "str", "list", "tuple", "dict"] : List String) → PySem.W.subIn K (.type T) (.ref C) = some false
theorem OwnC.of {K : PySem.W.Frag} {C : Addr} (pg : PySem.W.plainGet K C Str.empty = true) (hd : PySem.W.hasDictIn K C = true) (po : PySem.W.plainOver K C = true) (sa : PySem.W.findIn K (.ref C) "__setattr__" = some (some (.builtin "object.__setattr__")))
    (ha : PySem.W.findIn K (.ref C) "__class__" = some (some (.builtin "object.__class__"))) (hn : PySem.W.specialIn K (.builtin "object.__class__") "__get__" = some (some (.builtin "getset_descriptor.__get__"))) (htk : PySem.W.takesIn K (.builtin "object.__class__") = some true)
    (hm : PySem.W.mroIn K C (.type "object") = some true) (isC : PySem.W.isClsIn K C = true) (ty : PySem.W.typeIn K (.ref C) = some (.type "type")) (s1 : PySem.W.subIn K (.type "NoneType") (.ref C) = some false) (s2 : PySem.W.subIn K (.type "int") (.ref C) = some false)
    (s3 : PySem.W.subIn K (.type "bool") (.ref C) = some false) (s4 : PySem.W.subIn K (.type "str") (.ref C) = some false) (s5 : PySem.W.subIn K (.type "list") (.ref C) = some false) (s6 : PySem.W.subIn K (.type "tuple") (.ref C) = some false) (s7 : PySem.W.subIn K (.type "dict") (.ref C) = some false) : OwnC K C :=
  ⟨⟨pg, hd, po, sa⟩, ha, hn, htk, hm, isC, ty, fun T h => by
    simp only [List.mem_cons, List.not_mem_nil, or_false] at h
    rcases h with rfl | rfl | rfl | rfl | rfl | rfl | rfl
    · exact s1
    · exact s2
    · exact s3
    · exact s4
    · exact s5
    · exact s6
    · exact s7⟩
section
variable {K : PySem.W.Frag} {C a dx : Addr} {fs : List (Str × V)} {H : Hp} {Q : VK} {x : V} {T : String}
theorem OwnC.tyx (c : OwnC K C) (e : H a = some (.ins C dx fs)) : TyX K H (.ref a) (.ref C) := .base (.ins e c.cl c.ha c.hn c.htk c.hm)
/-- isinstance(x, the own class) -/
theorem r_isiSelf (c : OwnC K C) (e : H a = some (.ins C dx fs)) (h : Q (.bl true) H) : rIsi K [.ref a, .ref C] H Q :=
  ⟨.ref a, .ref C, _, _, true, rfl, .own C, c.tyx e, by unfold PySem.W.kitOne; rw [if_pos (by simp)], h⟩
theorem OwnC.kit (c : OwnC K C) (h : T ∈ (["NoneType", "int", "bool", "str", "list", "tuple", "dict"] : List String)) : PySem.W.kitOne K (.type T) (.ref C) = some false := by
  unfold PySem.W.kitOne PySem.W.kitCls
  have h1 : (PySem.W.clsIn K C).isSome = true := c.isC
  simp only [h1, c.ty, c.sub T h]
  rfl
theorem r_isiNo (c : OwnC K C) (t : TyX K H x (.type T)) (m : T ∈ (["NoneType", "int", "bool", "str", "list", "tuple", "dict"] : List String)) (h : Q (.bl false) H) : rIsi K [x, .ref C] H Q :=
  ⟨x, .ref C, _, _, false, rfl, .own C, t, c.kit m, h⟩
end
/-! ### lists of ints are compared -/
section
variable {K : PySem.W.Frag} {H : Hp} {Q : VK} {a b : Addr} {ms ns : List Int}
theorem ints_all (ns : List Int) : DpAll K H (ns.map V.int) (ns.map PyData.int) := by
  induction ns with
  | nil => exact .nil
  | cons n r ih => exact .cons (.int n) ih
theorem Dp.ints (h : SqL K H a (ns.map V.int)) : Dp K H (.ref a) (.list (ns.map PyData.int)) := .lst h (ints_all ns)
theorem eqv_ints : PyData.eqv (.list (ms.map PyData.int)) (.list (ns.map PyData.int)) = decide (ms = ns) := by
  have h := PySem.W.eqvAll_map ms ns
  rw [PyData.eqv]
  exact h
theorem r_eqL (h1 : SqL K H a (ms.map V.int)) (h2 : SqL K H b (ns.map V.int)) (h : Q (.bl (decide (ms = ns))) H) : rEqD K (.ref a) (.ref b) H Q :=
  ⟨_, _, Dp.ints h1, Dp.ints h2, PySem.W.ke_shaped_ints ms, PySem.W.ke_shaped_ints ns, by rw [eqv_ints]; exact h⟩
theorem r_neL (h1 : SqL K H a (ms.map V.int)) (h2 : SqL K H b (ns.map V.int)) (h : Q (.bl (!decide (ms = ns))) H) : rNeD K (.ref a) (.ref b) H Q :=
  ⟨_, _, Dp.ints h1, Dp.ints h2, PySem.W.ke_shaped_ints ms, PySem.W.ke_shaped_ints ns, by rw [eqv_ints]; exact h⟩
end
/-! ### a comprehension: the list at D, by its turns -/
def Out (H1 : Hp) (D : Addr) (out : Nat → V) (i : Nat) (H' : Hp) : Prop := Same H1 H' ∧ H' D = some (.lst ((List.range i).map out))
theorem Out.start {H1 : Hp} {D : Addr} {out : Nat → V} (hD : H1 D = none) : Out H1 D out 0 (upd H1 D (.lst [])) := ⟨Same.up (Same.refl H1) hD, upd_same⟩
theorem Out.more {H1 H H4 : Hp} {D : Addr} {out : Nat → V} {i : Nat} (hD : H1 D = none) (o : Out H1 D out i H) (s : Same H H4) (hi : i < sizeLine) :
    ∃ acc, H4 D = some (.lst acc) ∧ acc.length < sizeLine ∧ Out H1 D out (i + 1) (upd H4 D (.lst (acc ++ [out i]))) := by
  refine ⟨_, s _ _ o.2, by simpa using hi, fun c u e => ?_, ?_⟩
  · have n : c ≠ D := fun z => by rw [z, hD] at e; cases e
    rw [upd_ne n]
    exact s _ _ (o.1 _ _ e)
  · rw [upd_same, List.range_succ, List.map_append]
    rfl
/-! ### x ⊕ y by the own method, the other one no number of ours -/
structure BinC (K : PySem.W.Frag) (C : Addr) (nm : String) (Ts : List String) : Prop where
  sf : PySem.W.selfFirst K C = true
  rc : ∃ rc, PySem.W.findIn K (.ref C) (PySem.dunderR nm) = some rc ∧ (rc = none ∨ ∃ g : Addr, rc = some (.ref g))
  oth : ∀ T : String, T ∈ Ts → ∃ fo ro : Option Value, PySem.W.findIn K (.type T) (PySem.dunder nm) = some fo ∧ PySem.W.findIn K (.type T) (PySem.dunderR nm) = some ro
theorem BinC.other {K : PySem.W.Frag} {C : Addr} {nm T : String} {Ts : List String} {H : Hp} {y : V} (b : BinC K C nm Ts) (O : OwnC K C) (t : TyX K H y (.type T)) (m : T ∈ Ts) (m2 : T ∈ (["NoneType", "int", "bool", "str", "list", "tuple", "dict"] : List String)) : OtherB K C H nm y := by
  obtain ⟨fo, ro, h1, h2⟩ := b.oth T m
  exact .inr ⟨T, fo, ro, t, h1, h2, O.sub T m2⟩
theorem Plain1.ty {K : PySem.W.Frag} {H : Hp} {y : V} (h : Plain1 y) : ∃ T : String, TyX K H y (.type T) ∧ T ∈ (["NoneType", "int", "bool", "str"] : List String) := by
  rcases h with ⟨i, rfl⟩ | ⟨b, rfl⟩ | ⟨z, rfl⟩ | rfl
  · exact ⟨"int", .base (.int i), by simp⟩
  · exact ⟨"bool", .base (.bl b), by simp⟩
  · exact ⟨"str", .base (.str z), by simp⟩
  · exact ⟨"NoneType", .base .non, by simp⟩
end Pk
set_option Elab.async false
set_option linter.all false
set_option maxRecDepth 100000
set_option maxHeartbeats 1000000
namespace Pk
open PySem L2 PySem.Spec PyProof.Rows
theorem pr_depth (z : Pr) : (prD z).depth ≤ 1 := by
  obtain ⟨a, b⟩ := z
  simp [prD, PyData.depth, PyData.depthAll]
theorem prs_depthAll : ∀ zs : List Pr, PyData.depthAll (zs.map prD) ≤ 1
  | [] => by simp [PyData.depthAll]
  | z :: zs => by
    have h1 := prs_depthAll zs
    have h2 := pr_depth z
    simp only [List.map_cons, PyData.depthAll]
    omega
theorem prs_depth (zs : List Pr) : (prsD zs).depth ≤ 2 := by
  have h := prs_depthAll zs
  simp only [prsD, PyData.depth]
  omega
theorem pr_lay (z : Pr) : (prD z).canLay0 = true := by
  obtain ⟨a, b⟩ := z
  simp [prD, PyData.canLay0, PyData.canLayAll0]
theorem prs_layAll : ∀ zs : List Pr, PyData.canLayAll0 (zs.map prD) = true
  | [] => by simp [PyData.canLayAll0]
  | z :: zs => by simp [PyData.canLayAll0, prs_layAll zs, pr_lay z]
theorem pr_shaped (z : Pr) : SeqAt.shaped (prD z) = true := by
  have h := pr_depth z
  simp only [SeqAt.shaped, pr_lay z, Bool.true_and]
  exact decide_eq_true (by omega)
theorem prs_shaped (zs : List Pr) : SeqAt.shaped (prsD zs) = true := by
  have h := prs_depth zs
  have e : (prsD zs).canLay0 = true := by simp only [prsD, PyData.canLay0]; exact prs_layAll zs
  simp only [SeqAt.shaped, e, Bool.true_and]
  exact decide_eq_true (by omega)
theorem pr_plain (z : Pr) : (prD z).plain = true := PySem.W.Datum.plain (α := Int × Int) z
theorem prs_plainAll (zs : List Pr) : PyData.plainAll (zs.map prD) = true := PySem.W.plainAll_map (α := Int × Int) zs
/-- x in a list of pairs -/
def rInP (K : PySem.W.Frag) : R2 := fun x y H Q => ∃ z zs, Dp K H x (prD z) ∧ Dp K H y (prsD zs) ∧ Q (.bl (decide (z ∈ zs))) H
theorem op_inP {X : Cx} (hu : X.A.units + 64 < cLine) : OpR X (compareOp .In) (rInP X.K) := by
  intro pins s σ H x y v u Q I rx ry h
  obtain ⟨z, zs, hd, he, q⟩ := h
  obtain ⟨as, r1⟩ := Dp.reads I _ x v hd rx
  obtain ⟨bs, r2⟩ := Dp.reads I _ y u he ry
  have h1 := prs_depthAll zs
  refine SeqAt.in_list_data r2 r1 (prs_plainAll zs) (pr_plain z) (by omega) ⟨.bl _, H, I, rfl, ?_⟩
  have e := PySem.W.any_datum (α := Int × Int) zs z
  rw [show ((zs.map prD).any fun y => PyData.eqv y (prD z)) = decide (z ∈ zs) from e.trans (decide_eq_decide.mpr Iff.rfl)]
  exact q
/-! ### pairs on the heap -/
/-- the pair z, none of the pool's -/
def PrAt (p : Addr) (H : Hp) (v : V) (z : Pr) : Prop := ∃ t, v = .ref t ∧ t ≠ p ∧ H t = some (.tup [.int z.1, .int z.2])
inductive PrsAt (p : Addr) (H : Hp) : List V → List Pr → Prop
  | nil : PrsAt p H [] []
  | cons {v : V} {z : Pr} {vs : List V} {zs : List Pr} (h : PrAt p H v z) (r : PrsAt p H vs zs) : PrsAt p H (v :: vs) (z :: zs)
section
variable {p : Addr} {H H' : Hp} {v : V} {z : Pr} {vs us : List V} {zs ys : List Pr} {K : PySem.W.Frag} {i : Nat}
theorem PrAt.keep (h : PrAt p H v z) (k : Keep p H H') : PrAt p H' v z := by
  obtain ⟨t, e, n, h⟩ := h
  exact ⟨t, e, n, k _ _ n h⟩
theorem PrsAt.keep (h : PrsAt p H vs zs) (k : Keep p H H') : PrsAt p H' vs zs := by
  induction h with
  | nil => exact .nil
  | cons h _ ih => exact .cons (h.keep k) ih
theorem PrsAt.mono (h : PrsAt p H vs zs) (k : ∀ t xs, H t = some (.tup xs) → H' t = some (.tup xs)) : PrsAt p H' vs zs := by
  induction h with
  | nil => exact .nil
  | cons h _ ih =>
    obtain ⟨t, e, n, h⟩ := h
    exact .cons ⟨t, e, n, k _ _ h⟩ ih
theorem PrsAt.mono2 (h : PrsAt p H vs zs) (k : ∀ t xs, t ≠ p → H t = some (.tup xs) → H' t = some (.tup xs)) : PrsAt p H' vs zs := by
  induction h with
  | nil => exact .nil
  | cons h _ ih =>
    obtain ⟨t, e, n, h⟩ := h
    exact .cons ⟨t, e, n, k _ _ n h⟩ ih
theorem r_rng3 {σ : L2.St} {ta : TA} {R : It → Hp → Prop} (h : ta σ H fun vs H1 => ∃ (i j c : Int) (n : Nat), vs = [.int i, .int j, .int c] ∧ RgC i j c n ∧ R (Itc i c n) H1) : iRng3 ta σ H R := h
theorem PrsAt.length (h : PrsAt p H vs zs) : vs.length = zs.length := by
  induction h with
  | nil => rfl
  | cons _ _ ih => rw [List.length_cons, List.length_cons, ih]
theorem PrAt.dp (h : PrAt p H v z) : Dp K H v (prD z) := by
  obtain ⟨t, rfl, n, h⟩ := h
  exact .tup (SqT.of h) (.cons (.int _) (.cons (.int _) .nil))
theorem PrsAt.dp (h : PrsAt p H vs zs) : DpAll K H vs (zs.map prD) := by
  induction h with
  | nil => exact .nil
  | cons h _ ih => exact .cons h.dp ih
theorem PrsAt.at (h : PrsAt p H vs zs) : ∀ {i : Nat} {v : V}, vs[i]? = some v → ∃ z, zs[i]? = some z ∧ PrAt p H v z := by
  induction h with
  | nil => intro i v e; simp at e
  | cons h _ ih =>
    intro i v e
    cases i with
    | zero => exact ⟨_, rfl, by cases (Option.some.inj e); exact h⟩
    | succ i => exact ih (by simpa using e)
theorem PrsAt.get (h : PrsAt p H vs zs) : ∀ {i : Nat} {z : Pr}, zs[i]? = some z → ∃ v, vs[i]? = some v ∧ PrAt p H v z := by
  induction h with
  | nil => intro i v e; simp at e
  | cons h _ ih =>
    intro i v e
    cases i with
    | zero => exact ⟨_, rfl, by cases (Option.some.inj e); exact h⟩
    | succ i => exact ih (by simpa using e)
theorem PrsAt.take (h : PrsAt p H vs zs) : ∀ n, PrsAt p H (vs.take n) (zs.take n) := by
  induction h with
  | nil => intro n; cases n <;> exact .nil
  | cons h _ ih =>
    intro n
    cases n with
    | zero => exact .nil
    | succ n => exact .cons h (ih n)
theorem PrsAt.drop (h : PrsAt p H vs zs) : ∀ n, PrsAt p H (vs.drop n) (zs.drop n) := by
  induction h with
  | nil => intro n; cases n <;> exact .nil
  | cons h r ih =>
    intro n
    cases n with
    | zero => exact .cons h r
    | succ n => exact ih n
theorem PrsAt.app (h : PrsAt p H vs zs) (g : PrsAt p H us ys) : PrsAt p H (vs ++ us) (zs ++ ys) := by
  induction h with
  | nil => exact g
  | cons h _ ih => exact .cons h ih
theorem PrsAt.set (h : PrsAt p H vs zs) (g : PrAt p H v z) : ∀ i, PrsAt p H (vs.set i v) (zs.set i z) := by
  induction h with
  | nil => intro i; exact .nil
  | cons h r ih =>
    intro i
    cases i with
    | zero => exact .cons g r
    | succ i => exact .cons h (ih i)
end
/-- a list of pairs, none of the pool's -/
structure PL (p : Addr) (H : Hp) (a : Addr) (zs : List Pr) : Prop where
  ne : a ≠ p
  ex : ∃ vs, H a = some (.lst vs) ∧ PrsAt p H vs zs
section
variable {p a : Addr} {H H' : Hp} {zs : List Pr} {K : PySem.W.Frag}
theorem PL.keep (h : PL p H a zs) (k : Keep p H H') : PL p H' a zs := by
  obtain ⟨n, vs, e, r⟩ := h
  exact ⟨n, vs, k _ _ n e, r.keep k⟩
theorem PL.same (h : PL p H a zs) (k : Same H H') : PL p H' a zs := h.keep (Keep.same k)
theorem PL.dp (h : PL p H a zs) : Dp K H (.ref a) (prsD zs) := by
  obtain ⟨n, vs, e, r⟩ := h
  exact .lst (SqL.of e) r.dp
end
/-! ### the order of lists of pairs -/
theorem prLt_tri (x y : Pr) (n : x ≠ y) : prLt x y = !prLt y x := by
  obtain ⟨a, b⟩ := x
  obtain ⟨c, d⟩ := y
  simp only [prLt]
  by_cases h1 : a < c
  · have : ¬ c < a := by omega
    have : ¬ c = a := by omega
    simp [h1, *]
  · by_cases h2 : a = c
    · subst h2
      have : b ≠ d := fun z => n (by rw [z])
      by_cases h3 : b < d
      · have : ¬ d < b := by omega
        simp [h3, this]
      · have : d < b := by omega
        simp [h3, this]
    · have : c < a := by omega
      simp [h1, h2, this]
theorem prLt_trans {x y z : Pr} (h : prLt x y = true) (g : prLt y z = true) : prLt x z = true := by
  simp only [prLt, Bool.or_eq_true, Bool.and_eq_true, decide_eq_true_eq] at *
  omega
theorem prLt_irr (x : Pr) : prLt x x = false := by simp [prLt]
theorem lexB_self : ∀ xs : List Pr, lexB xs xs = false
  | [] => rfl
  | x :: xs => by rw [lexB, if_pos rfl, lexB_self xs]
theorem lexB_tri : ∀ xs ys : List Pr, xs ≠ ys → lexB xs ys = !lexB ys xs
  | [], [], n => absurd rfl n
  | [], _ :: _, _ => rfl
  | _ :: _, [], _ => rfl
  | x :: xs, y :: ys, n => by
    rw [lexB, lexB]
    by_cases e : x = y
    · subst e
      rw [if_pos rfl, if_pos rfl]
      exact lexB_tri xs ys fun z => n (by rw [z])
    · rw [if_neg e, if_neg (Ne.symm e)]
      exact prLt_tri x y e
theorem lexB_trans : ∀ xs ys zs : List Pr, lexB xs ys = true → lexB ys zs = true → lexB xs zs = true
  | [], [], _, h, _ => by cases h
  | [], _ :: _, [], _, g => by cases g
  | [], _ :: _, _ :: _, _, _ => rfl
  | _ :: _, [], _, h, _ => by cases h
  | _ :: _, _ :: _, [], _, g => by cases g
  | x :: xs, y :: ys, z :: zs, h, g => by
    rw [lexB] at h g ⊢
    by_cases e : x = y
    · subst e
      rw [if_pos rfl] at h
      by_cases e2 : x = z
      · subst e2
        rw [if_pos rfl] at g ⊢
        exact lexB_trans xs ys zs h g
      · rw [if_neg e2] at g ⊢
        exact g
    · rw [if_neg e] at h
      by_cases e2 : y = z
      · subst e2
        rw [if_neg e]
        exact h
      · rw [if_neg e2] at g
        have t := prLt_trans h g
        have : x ≠ z := fun q => by rw [q, prLt_irr] at t; cases t
        rw [if_neg this]
        exact t
end Pk
set_option Elab.async false
set_option linter.all false
set_option maxRecDepth 100000
set_option maxHeartbeats 1000000
namespace Pk
open PySem L2 PySem.Spec PyProof.Rows
/-! ### what kind of data -/
def isID : PyData → Bool | .int _ => true | _ => false
def isIB : PyData → Bool | .int _ => true | .bool _ => true | _ => false
def isBD : PyData → Bool | .bool _ => true | _ => false
def isTD : PyData → Bool | .tuple _ => true | _ => false
def isLD : PyData → Bool | .list _ => true | _ => false
theorem kit_i (d : PyData) : kitB (kindOf d) "int" = some (isIB d) := by
  cases d with
  | none => exact (by decide +kernel : kitB "NoneType" "int" = some false)
  | bool b => exact (by decide +kernel : kitB "bool" "int" = some true)
  | int i => exact (by decide +kernel : kitB "int" "int" = some true)
  | str z => exact (by decide +kernel : kitB "str" "int" = some false)
  | list ds => exact (by decide +kernel : kitB "list" "int" = some false)
  | tuple ds => exact (by decide +kernel : kitB "tuple" "int" = some false)
  | dict kv => exact (by decide +kernel : kitB "object" "int" = some false)
theorem kit_b (d : PyData) : kitB (kindOf d) "bool" = some (isBD d) := by
  cases d with
  | none => exact (by decide +kernel : kitB "NoneType" "bool" = some false)
  | bool b => exact (by decide +kernel : kitB "bool" "bool" = some true)
  | int i => exact (by decide +kernel : kitB "int" "bool" = some false)
  | str z => exact (by decide +kernel : kitB "str" "bool" = some false)
  | list ds => exact (by decide +kernel : kitB "list" "bool" = some false)
  | tuple ds => exact (by decide +kernel : kitB "tuple" "bool" = some false)
  | dict kv => exact (by decide +kernel : kitB "object" "bool" = some false)
theorem kit_t (d : PyData) : kitB (kindOf d) "tuple" = some (isTD d) := by
  cases d with
  | none => exact (by decide +kernel : kitB "NoneType" "tuple" = some false)
  | bool b => exact (by decide +kernel : kitB "bool" "tuple" = some false)
  | int i => exact (by decide +kernel : kitB "int" "tuple" = some false)
  | str z => exact (by decide +kernel : kitB "str" "tuple" = some false)
  | list ds => exact (by decide +kernel : kitB "list" "tuple" = some false)
  | tuple ds => exact (by decide +kernel : kitB "tuple" "tuple" = some true)
  | dict kv => exact (by decide +kernel : kitB "object" "tuple" = some false)
theorem kit_l (d : PyData) : kitB (kindOf d) "list" = some (isLD d) := by
  cases d with
  | none => exact (by decide +kernel : kitB "NoneType" "list" = some false)
  | bool b => exact (by decide +kernel : kitB "bool" "list" = some false)
  | int i => exact (by decide +kernel : kitB "int" "list" = some false)
  | str z => exact (by decide +kernel : kitB "str" "list" = some false)
  | list ds => exact (by decide +kernel : kitB "list" "list" = some true)
  | tuple ds => exact (by decide +kernel : kitB "tuple" "list" = some false)
  | dict kv => exact (by decide +kernel : kitB "object" "list" = some false)
section
variable {K : PySem.W.Frag} {H : Hp} {Q : VK} {v : V} {d : PyData} {ds : List PyData}
theorem r_isDI (h : Dp K H v d) (q : Q (.bl (isIB d)) H) : rIsi K [v, .ty "int"] H Q := r_isi (Dp.kind h) (kit_i d) q
theorem r_isDB (h : Dp K H v d) (q : Q (.bl (isBD d)) H) : rIsi K [v, .ty "bool"] H Q := r_isi (Dp.kind h) (kit_b d) q
theorem r_isDT (h : Dp K H v d) (q : Q (.bl (isTD d)) H) : rIsi K [v, .ty "tuple"] H Q := r_isi (Dp.kind h) (kit_t d) q
theorem r_isDL (h : Dp K H v d) (q : Q (.bl (isLD d)) H) : rIsi K [v, .ty "list"] H Q := r_isi (Dp.kind h) (kit_l d) q
theorem Dp.tupAt (h : Dp K H v (.tuple ds)) : ∃ t vs, v = .ref t ∧ SqT K H t vs ∧ DpAll K H vs ds := by
  cases h with
  | tup h1 h2 => exact ⟨_, _, rfl, h1, h2⟩
theorem Dp.lstAt (h : Dp K H v (.list ds)) : ∃ t vs, v = .ref t ∧ SqL K H t vs ∧ DpAll K H vs ds := by
  cases h with
  | lst h1 h2 => exact ⟨_, _, rfl, h1, h2⟩
theorem DpAll.len : ∀ {vs : List V} {ds : List PyData}, DpAll K H vs ds → vs.length = ds.length
  | _, _, .nil => rfl
  | _, _, .cons _ t => by rw [List.length_cons, List.length_cons, DpAll.len t]
theorem DpAll.at : ∀ {vs : List V} {ds : List PyData}, DpAll K H vs ds → ∀ {i : Nat} {v : V}, vs[i]? = some v → ∃ d, ds[i]? = some d ∧ Dp K H v d
  | _, _, .nil, i, v, e => by simp at e
  | _, _, .cons h t, 0, v, e => ⟨_, rfl, by cases (Option.some.inj e); exact h⟩
  | _, _, .cons h t, i + 1, v, e => DpAll.at t (by simpa using e)
theorem DpAll.get : ∀ {vs : List V} {ds : List PyData}, DpAll K H vs ds → ∀ {i : Nat} {d : PyData}, ds[i]? = some d → ∃ v, vs[i]? = some v ∧ Dp K H v d
  | _, _, .nil, i, v, e => by simp at e
  | _, _, .cons h t, 0, v, e => ⟨_, rfl, by cases (Option.some.inj e); exact h⟩
  | _, _, .cons h t, i + 1, v, e => DpAll.get t (by simpa using e)
theorem DpAll.take : ∀ {vs : List V} {ds : List PyData}, DpAll K H vs ds → ∀ n, DpAll K H (vs.take n) (ds.take n)
  | _, _, .nil, n => by cases n <;> exact .nil
  | _, _, .cons h t, 0 => .nil
  | _, _, .cons h t, n + 1 => .cons h (DpAll.take t n)
theorem DpAll.drop : ∀ {vs : List V} {ds : List PyData}, DpAll K H vs ds → ∀ n, DpAll K H (vs.drop n) (ds.drop n)
  | _, _, .nil, n => by cases n <;> exact .nil
  | _, _, .cons h t, 0 => .cons h t
  | _, _, .cons h t, n + 1 => DpAll.drop t n
theorem DpAll.app : ∀ {vs us : List V} {ds es : List PyData}, DpAll K H vs ds → DpAll K H us es → DpAll K H (vs ++ us) (ds ++ es)
  | _, _, _, _, .nil, g => g
  | _, _, _, _, .cons h t, g => .cons h (DpAll.app t g)
end
/-! ### in a list, over data; a list of data that can be compared -/
structure Small (ds : List PyData) : Prop where
  plain : PyData.plainAll ds = true
  deep : PyData.depthAll ds ≤ 8
def rInD (K : PySem.W.Frag) (neg : Bool) : R2 := fun x y H Q => ∃ d ds, Dp K H x d ∧ Dp K H y (.list ds) ∧ d.plain = true ∧ Small ds ∧ Q (.bl (if neg then !(ds.any fun e => PyData.eqv e d) else ds.any fun e => PyData.eqv e d)) H
theorem op_inD {X : Cx} (hu : X.A.units + 64 < cLine) : OpR X (compareOp .In) (rInD X.K false) := by
  intro pins s σ H x y v u Q I rx ry h
  obtain ⟨d, ds, hd, he, pd, sm, q⟩ := h
  obtain ⟨as, r1⟩ := Dp.reads I _ x v hd rx
  obtain ⟨bs, r2⟩ := Dp.reads I _ y u he ry
  have h1 := sm.deep
  exact SeqAt.in_list_data r2 r1 sm.plain pd (by omega) ⟨.bl _, H, I, rfl, q⟩
end Pk
set_option Elab.async false
set_option linter.all false
set_option maxRecDepth 100000
set_option maxHeartbeats 1000000
namespace Pk
open PySem L2 PySem.Spec PyProof.Rows
/-! ### an object is made where what is raised is wished for at the caller's slots -/
def tMakeS (C : Addr) (sp : Sp) (E : L2.St → XK) (t : TA) : TE := fun σ H Q => t σ H fun zs H1 => ∀ y dy, H1 y = none → H1 dy = none → dy ≠ y →
  sp (.ref y :: zs) (upd (upd H1 dy (.own y)) y (.ins C dy [])) (fun r H2 => r = .non ∧ Q (.ref y) H2) (E σ)
theorem r_makeS {C : Addr} {sp : Sp} {E : L2.St → XK} {t : TA} {σ : L2.St} {H : Hp} {Q : VK} (h : t σ H fun zs H1 => ∀ y dy, H1 y = none → H1 dy = none → dy ≠ y → sp (.ref y :: zs) (upd (upd H1 dy (.own y)) y (.ins C dy [])) (fun r H2 => r = .non ∧ Q (.ref y) H2) (E σ)) : tMakeS C sp E t σ H Q := h
section
variable {X : Cx} {CX : CXT} {k : Nat} {f C : Addr} {fd : FuncData} {ps : List Str} {sp : Sp} {E : L2.St → XK}
theorem made_at {pins : List (Addr × Obj)} {τ : L2.St} {G : Hp} {sh : Shared} {R : VK} {as : List Value} {zs : List V} (mk : Mk X.K C f) (ok : FnOk X.prog X.w X.K X.mg X.base CX k f fd ps sp) (room : Room (k + 1) X.A) (bd : Binds X.K fd ps []) (px : PassesAt CX X τ (E τ)) (J : Inv X pins τ G sh) (rl : Vals zs as)
    (want : ∀ y dy, G y = none → G dy = none → dy ≠ y → sp (.ref y :: zs) (upd (upd G dy (.own y)) y (.ins C dy [])) (fun r H2 => r = .non ∧ R (.ref y) H2) (E τ)) : wpAny (model X.prog X.w) X.A (call (.ref C) as) (EP X pins τ R) X.xe sh := by
  have w1 := want (sh.heap.objs.size + 1) sh.heap.objs.size (J.hok.fresh (Nat.le_succ _)) (J.hok.fresh (Nat.le_refl _)) (Nat.ne_of_lt (Nat.lt_succ_self _))
  have J2 := Inv.made (C := C) J
  have rl2 : Vals (V.ref (sh.heap.objs.size + 1) :: zs) (Value.ref (sh.heap.objs.size + 1) :: as) := .cons rfl rl
  have len : (Value.ref (sh.heap.objs.size + 1) :: as ++ []).length = ps.length := by
    rw [List.append_nil]
    exact rl2.length.symm.trans (ok.len _ _ _ _ w1)
  have b2 := bd _ (Value.ref (sh.heap.objs.size + 1) :: as) J2.kIn len
  rw [List.append_nil] at b2
  refine wpAny_call (make_map (f := f) J.kIn mk.makes mk.init (beq_iff_eq.mp mk.fn) (codeAny_mono (ok.run _ X.stack _ _ ⟨Value.ref (sh.heap.objs.size + 1) :: as, []⟩
    (Value.ref (sh.heap.objs.size + 1) :: as) _ _ (E τ) (room.make C as []) (J2.env0.make C as []) b2 rl2 w1) fun fin t ht => ?_))
  rcases fin with er | fl
  · exact px pins _ _ er t J2 ht
  · cases fl with
    | ret u =>
      obtain ⟨r, G', J3, rr, er, q3⟩ := J2.after ht
      subst er
      exact ⟨rr, ⟨V.ref (sh.heap.objs.size + 1), G', J3, rfl, q3⟩⟩
    | next => exact ht.elim
    | brk => exact ht.elim
    | cont => exact ht.elim
end
theorem pe_dkS {X : Cx} {W : WX} {x : Str} {k j : Nat} {ps : List Str} {sp : Sp} {e : Expr} {es : List Expr} {t : TA} {p pos : Pos} {C : Addr} (tk : Takes X W) (D : Dk X.prog X.w X.K X.mg X.base (L2.CX X.prog X.w) x k ps sp C) (hr : Room j X.A) (l : k + 1 ≤ j) (ha : PA X (e :: es) t) (hg : Gl X x := by rfl)
    (hdb : (x == ("__debug__" : Str)) = false := by decide) (he : starEach (e :: es) X.env = (false, eval e X.env) :: starEach es X.env := by rfl) (hpl : (backTo pos (starEach es X.env)).any (·.1) = false := by rfl) : PE X (.Call (.Name x p) (e :: es) [] pos) (tMakeS C sp (WE W) t) := by
  obtain ⟨_, _, D⟩ := D
  refine ⟨fun pins s σ H Q J h => ?_⟩
  refine wpAny_Call_Name_kw (ld_glob J hg D.at_ ?_ hdb)
  refine PySem.W.callWith_K (h₀ := X.base) J.ok.mod.kin D.mkc.kp (thn (ha.run pos pins s σ H _ J h) fun us s1 ⟨vs, H1, J1, r, q⟩ => ⟨J1.kIn, ?_⟩) he hpl
  exact made_at D.mkc D.ok (hr.mono l) D.bd (passAt tk σ) J1 r q
end Pk
set_option Elab.async false
set_option linter.all false
set_option maxRecDepth 100000
set_option maxHeartbeats 1000000
namespace Pk
open PySem L2 PySem.Spec PyProof.Rows
/-! ### loops, whatever stands in them -/
theorem lc_any {J : It} {n : Nat} {G : Hp → Prop} {Y : Nat → Hp → V → Hp → Prop} (w : Walk J n G Y) {B : (Hp → Prop) → V → Hp → Prop} {H0 : Hp} {Qd : Hp → Prop} (Pv : Nat → Hp → Prop) (h0 : Pv 0 H0) (hG : ∀ i H, i ≤ n → Pv i H → G H)
    (hs : ∀ i x H H', i < n → Pv i H → Y i H x H' → B (Pv (i + 1)) x H') (hd : ∀ H, Pv n H → Qd H) : ∃ W : Nat → Nat → Hp → Prop, (∃ m, W 0 m H0) ∧ ∀ i m H, W i m H →
      (J.stop i H ∧ Qd H) ∨ (J.go i H ∧ ∃ Nx : Hp → Prop, (∀ H', Nx H' → ∃ m', m' < m ∧ W (i + 1) m' H') ∧ ∀ x H', J.yld i H x H' → B Nx x H') := by
  refine ⟨fun i m H => m = n - i ∧ i ≤ n ∧ Pv i H, ⟨n, (Nat.sub_zero n).symm, Nat.zero_le _, h0⟩, fun i m H hw => ?_⟩
  obtain ⟨rfl, hi, p⟩ := hw
  rcases Nat.lt_or_ge i n with lt | ge
  · refine .inr ⟨w.goes i H lt (hG i H hi p), Pv (i + 1), fun H' p' => ⟨n - (i + 1), by omega, rfl, lt, p'⟩, fun x H' y => ?_⟩
    exact hs i x H H' lt p (w.yields i H x H' lt (hG i H hi p) y)
  · obtain rfl : i = n := Nat.le_antisymm hi ge
    exact .inl ⟨w.stops H (hG _ H hi p), hd H p⟩
theorem r_lc2 {wi wi1 : TI} {g g1 : TG} {tt tt1 : TT} {te : TE} {vs vs1 : List Nat} {σ : L2.St} {H : Hp} {Q : VK} (h : wi σ H fun J H1 => ∀ D, H1 D = none → ∃ W : Nat → Nat → Hp → Prop, (∃ m, W 0 m (upd H1 D (.lst []))) ∧ ∀ i m H, W i m H →
  (J.stop i H ∧ Q (.ref D) H) ∨ (J.go i H ∧ ∃ Nx : Hp → Prop, (∀ H', Nx H' → ∃ m', m' < m ∧ W (i + 1) m' H') ∧ ∀ x H', J.yld i H x H' → g x (wipe σ vs) H' fun σ2 H2 => wipe σ2 vs = wipe σ vs ∧ tt σ2 H2 fun b H3 =>
    if b = true then wi1 σ2 H3 fun J1 H4 => ∃ W1 : Nat → Nat → Hp → Prop, (∃ m, W1 0 m H4) ∧ ∀ j k H, W1 j k H →
      (J1.stop j H ∧ Nx H) ∨ (J1.go j H ∧ ∃ Nx1 : Hp → Prop, (∀ H', Nx1 H' → ∃ k', k' < k ∧ W1 (j + 1) k' H') ∧ ∀ x H', J1.yld j H x H' → g1 x (wipe σ2 vs1) H' fun σ3 H5 => wipe σ3 vs1 = wipe σ2 vs1 ∧ tt1 σ3 H5 fun b H6 =>
        if b = true then te σ3 H6 fun y H7 => ∃ acc, H7 D = some (.lst acc) ∧ acc.length < sizeLine ∧ Nx1 (upd H7 D (.lst (acc ++ [y]))) else Nx1 H6)
    else Nx H3)) : tLc2 wi g tt wi1 g1 tt1 te vs vs1 σ H Q := h
/-! ### a part of the heap -/
/-- all of G was not tracked in H -/
def Fresh (H G : Hp) : Prop := ∀ a o, G a = some o → H a = none
theorem Fresh.off {H G : Hp} {b : Addr} {o : HO} (f : Fresh H G) (h : H b = some o) : G b = none := by
  cases e : G b with
  | none => rfl
  | some u => rw [f b u e] at h; cases h
theorem Fresh.back {H0 H G : Hp} (f : Fresh H G) (s : Same H0 H) : Fresh H0 G := fun a o e => s.free (f a o e)
theorem Same.part {G H H' : Hp} {b : Addr} (s : Same G H) (n : G b = none) (k : Keep b H H') : Same G H' := fun a o e => k a o (fun z => by rw [z, n] at e; cases e) (s a o e)
theorem Same.upOff {G H : Hp} {b : Addr} {o : HO} (s : Same G H) (n : G b = none) : Same G (upd H b o) := fun a u e => by
  rw [upd_ne (fun z => by rw [z, n] at e; cases e)]
  exact s a u e
/-! ### tables -/
abbrev Rw := List (List (Option Int))
def pV : Option Int → V
  | .none => .non
  | .some i => .int i
def pD : Option Int → PyData
  | .none => .none
  | .some i => .int i
theorem pV_some (z : Option Int) : (!decide (pV z = .non)) = z.isSome := by cases z <;> rfl
theorem pV_non (z : Option Int) : decide (pV z = .non) = z.isNone := by cases z <;> rfl
def rowD (r : List (Option Int)) : PyData := .list (r.map pD)
def rowsD (R : Rw) : PyData := .list (R.map rowD)
def wd (R : Rw) : Nat := (R.headD []).length
def prc (R : Rw) (i j : Nat) : Option Int := (R.getD i []).getD j none
/-- the pairs, in ascending order -/
def cells (R : Rw) : List Pr := (List.range R.length).flatMap fun i => ((List.range (wd R)).filter fun j => (prc R i j).isSome).map fun (j : Nat) => (((i : Nat) : Int), (j : Int))
structure Gt (R : Rw) : Prop where
  h0 : 0 < R.length
  h8 : R.length ≤ 8
  w0 : 0 < wd R
  w8 : wd R ≤ 8
  sq : ∀ r, r ∈ R → r.length = wd R
instance : PySem.W.Datum (Option Int) where
  toD := pD
  plain z := by cases z <;> rfl
  eqv a b := by cases a <;> cases b <;> simp [pD, PyData.eqv, PySem.W.beq_decide]
  depth := 0
  depth_le z := by cases z <;> simp [pD, PyData.depth]
theorem rows_eqv (R S : Rw) : PyData.eqv (rowsD R) (rowsD S) = decide (R = S) := PySem.W.Datum.eqv (α := List (List (Option Int))) R S
theorem row_depthAll : ∀ r : List (Option Int), PyData.depthAll (r.map pD) = 0
  | [] => by simp [PyData.depthAll]
  | z :: r => by cases z <;> simp [PyData.depthAll, PyData.depth, pD, row_depthAll r]
theorem row_depth (r : List (Option Int)) : (rowD r).depth = 1 := by simp [rowD, PyData.depth, row_depthAll r]
theorem rows_depthAll : ∀ R : Rw, PyData.depthAll (R.map rowD) ≤ 1
  | [] => by simp [PyData.depthAll]
  | r :: R => by
    have h1 := rows_depthAll R
    simp only [List.map_cons, PyData.depthAll, row_depth]
    omega
theorem rows_depth (R : Rw) : (rowsD R).depth ≤ 2 := by
  have h := rows_depthAll R
  simp only [rowsD, PyData.depth]
  omega
theorem row_layAll : ∀ r : List (Option Int), PyData.canLayAll0 (r.map pD) = true
  | [] => by simp [PyData.canLayAll0]
  | z :: r => by cases z <;> simp [PyData.canLayAll0, PyData.canLay0, pD, row_layAll r]
theorem row_lay (r : List (Option Int)) : (rowD r).canLay0 = true := by simp [rowD, PyData.canLay0, row_layAll r]
theorem rows_layAll : ∀ R : Rw, PyData.canLayAll0 (R.map rowD) = true
  | [] => by simp [PyData.canLayAll0]
  | r :: R => by simp [PyData.canLayAll0, rows_layAll R, row_lay r]
theorem rows_shaped (R : Rw) : SeqAt.shaped (rowsD R) = true := by
  have h := rows_depth R
  have e : (rowsD R).canLay0 = true := by simp only [rowsD, PyData.canLay0]; exact rows_layAll R
  simp only [SeqAt.shaped, e, Bool.true_and]
  exact decide_eq_true (by omega)
theorem rows_plain (R : Rw) : (rowsD R).plain = true := PySem.W.Datum.plain (α := List (List (Option Int))) R
theorem pV_dp {K : PySem.W.Frag} {H : Hp} (z : Option Int) : Dp K H (pV z) (pD z) := by
  cases z
  · exact .non
  · exact .int _
theorem row_dp {K : PySem.W.Frag} {H : Hp} (r : List (Option Int)) : DpAll K H (r.map pV) (r.map pD) := by
  induction r with
  | nil => exact .nil
  | cons z r ih => exact .cons (pV_dp z) ih
theorem deep_pD (z : Option Int) {n : Nat} : Deep n (pD z) := by
  cases z
  · exact .non
  · exact .int _
theorem deep_row {r : List (Option Int)} (h : r.length ≤ 1000) : Deep 1 (rowD r) := .lst (fun d hd => by
  obtain ⟨z, _, rfl⟩ := List.mem_map.mp hd
  exact deep_pD z) (by rw [List.length_map]; exact h)
theorem Gt.len {R : Rw} (g : Gt R) {i : Nat} (h : i < R.length) : R[i].length = wd R := g.sq _ (List.getElem_mem h)
theorem Gt.getD {R : Rw} (g : Gt R) {i : Nat} (h : i < R.length) : R.getD i [] = R[i] := by
  rw [List.getD_eq_getElem?_getD, List.getElem?_eq_getElem h]
  rfl
theorem deep_rows {R : Rw} (g : Gt R) : Deep 2 (rowsD R) := .lst (fun d hd => by
  obtain ⟨r, hr, rfl⟩ := List.mem_map.mp hd
  have h1 := g.sq r hr
  have h2 := g.w8
  exact deep_row (by omega)) (by rw [List.length_map]; have := g.h8; omega)
/-- a list of rows, each a list of its own -/
structure RL (G : Hp) (e : Addr) (es : List V) (R : Rw) : Prop where
  at_ : G e = some (.lst es)
  len : es.length = R.length
  row : ∀ i v, es[i]? = some v → ∃ a, v = .ref a ∧ G a = some (.lst ((R.getD i []).map pV))
theorem RL.same {G H : Hp} {e : Addr} {es : List V} {R : Rw} (l : RL G e es R) (s : Same G H) : RL H e es R := ⟨s _ _ l.at_, l.len, fun i v h => by
  obtain ⟨a, e1, e2⟩ := l.row i v h
  exact ⟨a, e1, s _ _ e2⟩⟩
theorem RL.get {G : Hp} {e : Addr} {es : List V} {R : Rw} (l : RL G e es R) {i : Nat} (h : i < R.length) : ∃ a, es[i]? = some (.ref a) ∧ G a = some (.lst ((R.getD i []).map pV)) := by
  have hi : i < es.length := by rw [l.len]; exact h
  obtain ⟨a, e1, e2⟩ := l.row i _ (List.getElem?_eq_getElem hi)
  exact ⟨a, by rw [List.getElem?_eq_getElem hi, e1], e2⟩
theorem RL.all {K : PySem.W.Frag} {G : Hp} {e : Addr} {es : List V} {R : Rw} (l : RL G e es R) : DpAll K G es (R.map rowD) := by
  refine dpAll_of (by rw [List.length_map]; exact l.len) fun i v d hv hd => ?_
  obtain ⟨a, rfl, h⟩ := l.row i v hv
  rw [List.getElem?_map] at hd
  cases q : R[i]? with
  | none => rw [q] at hd; cases hd
  | some r =>
    rw [q] at hd
    cases (Option.some.inj hd)
    rw [List.getD_eq_getElem?_getD, q] at h
    exact .lst (SqL.of h) (row_dp r)
theorem RL.dp {K : PySem.W.Frag} {G : Hp} {e : Addr} {es : List V} {R : Rw} (l : RL G e es R) : Dp K G (.ref e) (rowsD R) := .lst (SqL.of l.at_) l.all
/-- the table at x, whose parts are all in G -/
structure TbX (C : Addr) (G : Hp) (x : Addr) (R : Rw) : Prop where
  g : Gt R
  ex : ∃ dx e u es, G x = some (.ins C dx [("entries", .ref e), ("used", .ref u)]) ∧ RL G e es R ∧ PL x G u (cells R)
theorem pr_at {R : Rw} {i j : Nat} (hi : i < R.length) (hj : j < wd R) : (R.getD i []).length = R[i].length := by
  rw [List.getD_eq_getElem?_getD, List.getElem?_eq_getElem hi]
  rfl
theorem prc_get {R : Rw} (g : Gt R) {i j : Nat} (hi : i < R.length) (hj : j < wd R) : ((R.getD i []).map pV)[j]? = some (pV (prc R i j)) := by
  have l : j < (R.getD i []).length := by rw [g.getD hi, g.len hi]; exact hj
  rw [List.getElem?_map, List.getElem?_eq_getElem l, prc, List.getD_eq_getElem?_getD (l := R.getD i []), List.getElem?_eq_getElem l]
  rfl
/-! ### over data -/
def priceD : PyData → Bool
  | .none => true
  | .int _ => true
  | _ => false
theorem price_inv {d : PyData} (h : priceD d = true) : ∃ z, d = pD z := by
  cases d with
  | none => exact ⟨none, rfl⟩
  | int i => exact ⟨some i, rfl⟩
  | _ => cases h
/-- a list of 1 to 8 prices, as many as the other list has entries -/
def rowOk : PyData → PyData → Bool
  | .list ds, .list es => decide (1 ≤ ds.length) && decide (ds.length ≤ 8) && decide (ds.length = es.length) && ds.all priceD
  | _, _ => false
def firstRow (ds : List PyData) : Option Nat := (List.range ds.length).find? fun i => !rowOk (ds.getD i .none) (ds.getD 0 .none)
/-- what is told of a value as rows: none where it is good -/
def badT : PyData → Option Int
  | .list ds => if ds.length = 0 ∨ 8 < ds.length then some (-1) else (firstRow ds).map Int.ofNat
  | _ => some (-1)
theorem badT_no {d : PyData} (h : isLD d = false) : badT d = some (-1) := by
  cases d with
  | list ds => cases h
  | _ => rfl
theorem firstRow_some {ds : List PyData} {i : Nat} (hi : i < ds.length) (h : ∀ j, j < i → rowOk (ds.getD j .none) (ds.getD 0 .none) = true) (b : rowOk (ds.getD i .none) (ds.getD 0 .none) = false) : firstRow ds = some i := by
  unfold firstRow
  rw [List.find?_range_eq_some]
  exact ⟨by rw [b]; rfl, by simpa using hi, fun j hj => by rw [h j hj]; rfl⟩
theorem firstRow_none {ds : List PyData} (h : ∀ j, j < ds.length → rowOk (ds.getD j .none) (ds.getD 0 .none) = true) : firstRow ds = none := by
  unfold firstRow
  rw [List.find?_eq_none]
  intro j hj
  rw [h j (by simpa using hj)]
  decide
theorem firstRow_all {ds : List PyData} (h : firstRow ds = none) {j : Nat} (hj : j < ds.length) : rowOk (ds.getD j .none) (ds.getD 0 .none) = true := by
  unfold firstRow at h
  rw [List.find?_eq_none] at h
  have := h j (by simpa using hj)
  simpa using this
theorem all_prices {r : List (Option Int)} : (r.map pD).all priceD = true := by
  rw [List.all_map, List.all_eq_true]
  intro z _
  cases z <;> rfl
theorem prices_inv {ds : List PyData} (h : ds.all priceD = true) : ∃ r : List (Option Int), ds = r.map pD := by
  induction ds with
  | nil => exact ⟨[], rfl⟩
  | cons d ds ih =>
    rw [List.all_cons, Bool.and_eq_true] at h
    obtain ⟨z, rfl⟩ := price_inv h.1
    obtain ⟨r, rfl⟩ := ih h.2
    exact ⟨z :: r, rfl⟩
theorem row_okD {R : Rw} (g : Gt R) {i : Nat} (hi : i < R.length) : rowOk ((R.map rowD).getD i .none) ((R.map rowD).getD 0 .none) = true := by
  have e : ∀ k (hk : k < R.length), (R.map rowD).getD k .none = rowD R[k] := fun k hk => by
    rw [List.getD_eq_getElem?_getD, List.getElem?_map, List.getElem?_eq_getElem hk]
    rfl
  rw [e i hi, e 0 g.h0]
  have l1 := g.len hi
  have l2 := g.len g.h0
  have h1 := g.w0
  have h2 := g.w8
  simp only [rowD, rowOk, List.length_map, l1, l2, all_prices, Bool.and_eq_true, decide_eq_true_eq, and_true]
  omega
theorem badT_good {R : Rw} (g : Gt R) : badT (rowsD R) = none := by
  have h0 := g.h0
  have h8 := g.h8
  show (if (R.map rowD).length = 0 ∨ 8 < (R.map rowD).length then some (-1) else (firstRow (R.map rowD)).map Int.ofNat) = none
  rw [if_neg (by rw [List.length_map]; omega), firstRow_none (fun j hj => row_okD g (by simpa using hj))]
  rfl
/-- what is good is a table's rows -/
theorem badT_inv {d : PyData} (h : badT d = none) : ∃ R, d = rowsD R ∧ Gt R := by
  cases d with
  | list ds =>
    by_cases c : ds.length = 0 ∨ 8 < ds.length
    · have : badT (.list ds) = some (-1) := if_pos c
      rw [this] at h
      cases h
    · have hb : badT (.list ds) = (firstRow ds).map Int.ofNat := if_neg c
      rw [hb] at h
      have hf : firstRow ds = none := by
        cases e : firstRow ds with
        | none => rfl
        | some k => rw [e] at h; cases h
      have all := fun {j} (hj : j < ds.length) => firstRow_all hf hj
      have rows : ∀ d, d ∈ ds → ∃ r : List (Option Int), d = rowD r ∧ 1 ≤ r.length ∧ r.length ≤ 8 ∧ ∀ es, ds.getD 0 .none = .list es → r.length = es.length := by
        intro d hd
        obtain ⟨j, hj, rfl⟩ := List.getElem_of_mem hd
        have a := all hj
        rw [List.getD_eq_getElem?_getD (l := ds) (i := j), List.getElem?_eq_getElem hj] at a
        simp only [Option.getD_some] at a
        cases e1 : ds[j] with
        | list xs =>
          cases e2 : ds.getD 0 .none with
          | list es =>
            rw [e1, e2] at a
            simp only [rowOk, Bool.and_eq_true, decide_eq_true_eq] at a
            obtain ⟨⟨⟨a1, a2⟩, a3⟩, a4⟩ := a
            obtain ⟨r, rfl⟩ := prices_inv a4
            rw [List.length_map] at a1 a2 a3
            exact ⟨r, rfl, a1, a2, fun fs q => by cases q; exact a3⟩
          | _ => rw [e1, e2] at a; cases a
        | _ => rw [e1] at a; cases a
      have ex : ∃ R : Rw, ds = R.map rowD := by
        have : ∀ es : List PyData, (∀ d, d ∈ es → ∃ r : List (Option Int), d = rowD r) → ∃ R : Rw, es = R.map rowD := by
          intro es
          induction es with
          | nil => intro _; exact ⟨[], rfl⟩
          | cons d es ih =>
            intro k
            obtain ⟨r, rfl⟩ := k d List.mem_cons_self
            obtain ⟨R, rfl⟩ := ih fun e he => k e (List.mem_cons_of_mem _ he)
            exact ⟨r :: R, rfl⟩
        exact this ds fun d hd => by
          obtain ⟨r, e, _⟩ := rows d hd
          exact ⟨r, e⟩
      obtain ⟨R, rfl⟩ := ex
      rw [List.length_map] at c
      refine ⟨R, rfl, ?_⟩
      have hR : 0 < R.length := by omega
      have e0 : (R.map rowD).getD 0 .none = rowD R[0] := by
        rw [List.getD_eq_getElem?_getD, List.getElem?_map, List.getElem?_eq_getElem hR]
        rfl
      have w : wd R = R[0].length := by
        cases R with
        | nil => cases hR
        | cons r R => rfl
      have one : ∀ r, r ∈ R → 1 ≤ r.length ∧ r.length ≤ 8 ∧ r.length = wd R := by
        intro r hr
        obtain ⟨r', e, b1, b2, b3⟩ := rows (rowD r) (List.mem_map.mpr ⟨r, hr, rfl⟩)
        have l : r.length = r'.length := by
          have := PyData.list.inj e
          have := congrArg List.length this
          simpa using this
        have := b3 _ e0
        rw [List.length_map] at this
        exact ⟨by omega, by omega, by omega⟩
      have o := one _ (List.getElem_mem hR)
      exact ⟨hR, by omega, by omega, by omega, fun r hr => (one r hr).2.2⟩
  | _ => cases h
/-- a tuple of two ints -/
def twoD : PyData → Bool
  | .tuple [.int _, .int _] => true
  | _ => false
theorem twoD_inv {d : PyData} (h : twoD d = true) : ∃ a b, d = .tuple [.int a, .int b] := by
  unfold twoD at h
  split at h
  · exact ⟨_, _, rfl⟩
  · cases h
/-- a cell of the table -/
def cellD (R : Rw) : PyData → Bool
  | .tuple [.int a, .int b] => decide (0 ≤ a) && decide (a < R.length) && decide (0 ≤ b) && decide (b < wd R)
  | _ => false
theorem cellD_no {R : Rw} {d : PyData} (h : twoD d = false) : cellD R d = false := by
  unfold cellD
  split
  · rename_i a b
    exact absurd (show twoD (.tuple [.int a, .int b]) = true from rfl) (by rw [h]; decide)
  · rfl
theorem cellD_inv {R : Rw} {d : PyData} (h : cellD R d = true) : ∃ i j : Nat, d = prD ((i : Int), (j : Int)) ∧ i < R.length ∧ j < wd R := by
  unfold cellD at h
  split at h
  · rename_i a b
    simp only [Bool.and_eq_true, decide_eq_true_eq] at h
    obtain ⟨⟨⟨h1, h2⟩, h3⟩, h4⟩ := h
    refine ⟨a.toNat, b.toNat, ?_, by omega, by omega⟩
    rw [show ((a.toNat : Nat) : Int) = a by omega, show ((b.toNat : Nat) : Int) = b by omega]
    rfl
  · cases h
/-- its price, where it is a cell -/
def cellP (R : Rw) : PyData → Option Int
  | .tuple [.int a, .int b] => prc R a.toNat b.toNat
  | _ => none
theorem mem_cells {R : Rw} {i j : Nat} : ((i : Int), (j : Int)) ∈ cells R ↔ i < R.length ∧ j < wd R ∧ (prc R i j).isSome = true := by
  simp only [cells, List.mem_flatMap, List.mem_range, List.mem_map, List.mem_filter, Prod.mk.injEq]
  constructor
  · rintro ⟨a, ha, b, ⟨hb, hp⟩, e1, e2⟩
    have : a = i := by omega
    have : b = j := by omega
    subst_vars
    exact ⟨ha, hb, hp⟩
  · rintro ⟨ha, hb, hp⟩
    exact ⟨i, ha, j, ⟨hb, hp⟩, rfl, rfl⟩
end Pk
set_option Elab.async false
set_option linter.all false
set_option maxRecDepth 100000
set_option maxHeartbeats 1000000
namespace Pk
open PySem L2 PySem.Spec PyProof.Rows
/-! ### a cut behind a statement -/
theorem r_cut {t u : TS} {D : Ends} {σ : L2.St} {H : Hp} (Mid : L2.St → Hp → Prop) (h1 : t { D with nx := Mid } σ H) (h2 : ∀ σ' H', Mid σ' H' → u D σ' H') : C8.tCut t u D σ H := ⟨Mid, h1, h2⟩
/-! ### the pool, further -/
theorem PoolAt.sameS {H H' : Hp} {p c : Addr} {ns : List Int} (h : PoolAt H p c ns) (s : Same H H') : PoolAt H' p c ns := by
  obtain ⟨a, b, z, n, h0, hP, hC⟩ := h
  exact ⟨a, b, z, n, h0, s _ _ hP, s _ _ hC⟩
theorem PoolAt.off {H : Hp} {p c D : Addr} {ns : List Int} {o : HO} (h : PoolAt H p c ns) (n1 : D ≠ p) (n2 : D ≠ c) : PoolAt (upd H D o) p c ns := by
  obtain ⟨a, b, z, n, h0, hP, hC⟩ := h
  exact ⟨a, b, z, n, h0, by rw [upd_ne (Ne.symm n1)]; exact hP, by rw [upd_ne (Ne.symm n2)]; exact hC⟩
theorem PoolAt.ex {H : Hp} {p c : Addr} {ns : List Int} (h : PoolAt H p c ns) : ∃ o, H p = some o := by
  obtain ⟨a, b, z, n, h0, hP, hC⟩ := h
  exact ⟨_, hP⟩
theorem PoolAt.exC {H : Hp} {p c : Addr} {ns : List Int} (h : PoolAt H p c ns) : ∃ o, H c = some o := by
  obtain ⟨a, b, z, n, h0, hP, hC⟩ := h
  exact ⟨_, hC⟩
theorem Keep.free {p a : Addr} {H H' : Hp} (k : Keep p H H') (n : H' a = none) (np : a ≠ p) : H a = none := by
  cases e : H a with
  | none => rfl
  | some o => rw [k a o np e] at n; cases n
theorem Keep.put {p D : Addr} {H H' : Hp} {o : HO} (k : Keep p H H') (n : H D = none) : Keep p H (upd H' D o) := fun b u nb e => by
  rw [upd_ne (fun z => by rw [z, n] at e; cases e)]
  exact k b u nb e
/-! ### prices that are drawn -/
def Sb (i : Int) : Prop := i.natAbs < 2 ^ 100
def Sz (i : Int) : Prop := i.natAbs < 2 ^ 204
theorem Sb.mul {a b : Int} (h : Sb a) (g : Sb b) : (a * b).natAbs < 2 ^ 200 := by
  rw [Int.natAbs_mul]
  have := Nat.mul_lt_mul'' h g
  exact Nat.lt_of_lt_of_le this (by decide)
theorem Sb.wide {a b : Int} (h : Sb a) (g : Sb b) : CMulW a b := wide_mul h g (by decide) (by decide) (by decide)
def Bd (R : Rw) : Prop := ∀ r, r ∈ R → ∀ i : Int, some i ∈ r → Sz i
/-- tops: pairs of prices -/
structure TL (p D : Addr) (tv : List V) (H : Hp) : Prop where
  ne : D ≠ p
  at_ : H D = some (.lst tv)
  all : ∀ (j : Nat) (v : V), tv[j]? = some v → ∃ (t : Addr) (b y : Int), v = .ref t ∧ t ≠ p ∧ H t = some (.tup [.int b, .int y]) ∧ Sb b ∧ Sb y
theorem TL.keep {p D : Addr} {tv : List V} {H H' : Hp} (l : TL p D tv H) (k : Keep p H H') : TL p D tv H' := ⟨l.ne, k _ _ l.ne l.at_, fun j v e => by
  obtain ⟨t, b, y, e1, n, h, h1, h2⟩ := l.all j v e
  exact ⟨t, b, y, e1, n, k _ _ n h, h1, h2⟩⟩
theorem TL.put {p D L : Addr} {tv ws : List V} {H : Hp} {o : HO} (l : TL p D tv H) (hL : H L = some (.lst ws)) (n : D ≠ L) : TL p D tv (upd H L o) := ⟨l.ne, by rw [upd_ne n]; exact l.at_, fun j v e => by
  obtain ⟨t, b, y, e1, m, h, h1, h2⟩ := l.all j v e
  exact ⟨t, b, y, e1, m, by rw [upd_ne (fun z => by rw [z, hL] at h; cases h)]; exact h, h1, h2⟩⟩
/-- no list stands twice -/
def Dist (es : List V) : Prop := ∀ (i j : Nat) (a : Addr), es[i]? = some (V.ref a) → es[j]? = some (V.ref a) → i = j
theorem Dist.nil : Dist [] := fun i j a e _ => by simp at e
theorem Dist.more {es : List V} {b : Addr} (h : Dist es) (m : ∀ (j : Nat) (v : V), es[j]? = some v → v ≠ .ref b) : Dist (es ++ [.ref b]) := fun i j a e1 e2 => by
  have side : ∀ {k : Nat}, (es ++ [V.ref b])[k]? = some (.ref a) → (k < es.length ∧ es[k]? = some (.ref a)) ∨ (k = es.length ∧ a = b) := fun {k} e => by
    by_cases c : k < es.length
    · rw [List.getElem?_append_left c] at e
      exact .inl ⟨c, e⟩
    · rw [List.getElem?_append_right (by omega)] at e
      have : k - es.length = 0 := by
        have := (List.getElem?_eq_some_iff.mp e).1
        simp at this
        omega
      rw [this] at e
      cases (Option.some.inj e)
      exact .inr ⟨by omega, rfl⟩
  rcases side e1 with ⟨c1, f1⟩ | ⟨c1, f1⟩ <;> rcases side e2 with ⟨c2, f2⟩ | ⟨c2, f2⟩
  · exact h i j a f1 f2
  · exact absurd (by rw [f2]) (m i _ f1)
  · exact absurd (by rw [f1]) (m j _ f2)
  · omega
/-- the rows made so far -/
structure RK (p : Addr) (H0 H : Hp) (L : Addr) (es : List V) (R : Rw) : Prop where
  ne : L ≠ p
  nw : H0 L = none
  at_ : H L = some (.lst es)
  len : es.length = R.length
  row : ∀ (j : Nat) (v : V), es[j]? = some v → ∃ a, v = .ref a ∧ a ≠ p ∧ a ≠ L ∧ H0 a = none ∧ H a = some (.lst ((R.getD j []).map pV))
  dist : Dist es
theorem RK.keep {p L : Addr} {H0 H H' : Hp} {es : List V} {R : Rw} (l : RK p H0 H L es R) (k : Keep p H H') : RK p H0 H' L es R := ⟨l.ne, l.nw, k _ _ l.ne l.at_, l.len, fun j v e => by
  obtain ⟨a, e1, n1, n2, n3, h⟩ := l.row j v e
  exact ⟨a, e1, n1, n2, n3, k _ _ n1 h⟩, l.dist⟩
theorem RK.put {p L b : Addr} {H0 H : Hp} {es : List V} {R : Rw} {o : HO} (l : RK p H0 H L es R) (n : L ≠ b) (m : ∀ (j : Nat) (v : V), es[j]? = some v → v ≠ .ref b) : RK p H0 (upd H b o) L es R := ⟨l.ne, l.nw, by rw [upd_ne n]; exact l.at_, l.len, fun j v e => by
  obtain ⟨a, e1, n1, n2, n3, h⟩ := l.row j v e
  exact ⟨a, e1, n1, n2, n3, by rw [upd_ne (fun z => m j v e (by rw [e1, z]))]; exact h⟩, l.dist⟩
theorem RK.more {p L b : Addr} {H0 H : Hp} {es : List V} {R : Rw} {r : List (Option Int)} (l : RK p H0 H L es R) (h1 : b ≠ p) (h2 : b ≠ L) (h3 : H0 b = none) (h4 : H b = some (.lst (r.map pV))) (m : ∀ (j : Nat) (v : V), es[j]? = some v → v ≠ .ref b) : RK p H0 (upd H L (.lst (es ++ [.ref b]))) L (es ++ [.ref b]) (R ++ [r]) := by
  refine ⟨l.ne, l.nw, upd_same, by rw [List.length_append, List.length_append, l.len]; rfl, fun j v e => ?_, l.dist.more m⟩
  by_cases ji : j < es.length
  · rw [List.getElem?_append_left ji] at e
    obtain ⟨a, e1, n1, n2, n3, h⟩ := l.row j v e
    refine ⟨a, e1, n1, n2, n3, ?_⟩
    rw [upd_ne n2, h, List.getD_eq_getElem?_getD, List.getD_eq_getElem?_getD, List.getElem?_append_left (by rw [← l.len]; exact ji)]
  · rw [List.getElem?_append_right (by omega)] at e
    have : j = es.length := by
      have := (List.getElem?_eq_some_iff.mp e).1
      simp at this
      omega
    subst this
    rw [Nat.sub_self] at e
    cases (Option.some.inj e)
    refine ⟨b, rfl, h1, h2, h3, ?_⟩
    rw [upd_ne h2, h4, l.len, List.getD_eq_getElem?_getD, List.getElem?_append_right (Nat.le_refl _), Nat.sub_self]
    rfl
/-- a list of rows, new since H, the pool aside -/
structure NewK (p : Addr) (H H' : Hp) (r : Addr) (es : List V) (R : Rw) : Prop where
  ne : r ≠ p
  nw : H r = none
  rl : RL H' r es R
  rows : ∀ (i : Nat) (c : Addr), es[i]? = some (V.ref c) → H c = none ∧ c ≠ r ∧ c ≠ p
  dist : Dist es
theorem RK.new {p L : Addr} {H0 H : Hp} {es : List V} {R : Rw} (l : RK p H0 H L es R) : NewK p H0 H L es R := ⟨l.ne, l.nw, ⟨l.at_, l.len, fun i v e => by
  obtain ⟨a, e1, n1, n2, n3, h⟩ := l.row i v e
  exact ⟨a, e1, h⟩⟩, fun i c e => by
  obtain ⟨a, e1, n1, n2, n3, h⟩ := l.row i _ e
  cases e1
  exact ⟨n3, n2, n1⟩, l.dist⟩
theorem RL.keepK {p : Addr} {G H : Hp} {e : Addr} {es : List V} {R : Rw} (l : RL G e es R) (k : Keep p G H) (n : e ≠ p) (m : ∀ (i : Nat) (a : Addr), es[i]? = some (V.ref a) → a ≠ p) : RL H e es R := ⟨k _ _ n l.at_, l.len, fun i v h => by
  obtain ⟨a, e1, e2⟩ := l.row i v h
  exact ⟨a, e1, k _ _ (m i a (by rw [h, e1])) e2⟩⟩
abbrev hpOf {H H' : Hp} (_ : Same H H') : Hp := H'
/-- rows that may be read, tracked or written -/
structure RS (K : PySem.W.Frag) (G : Hp) (e : Addr) (es : List V) (R : Rw) : Prop where
  at_ : SqL K G e es
  len : es.length = R.length
  row : ∀ (i : Nat) (v : V), es[i]? = some v → ∃ a, v = .ref a ∧ SqL K G a ((R.getD i []).map pV)
theorem RL.rs {K : PySem.W.Frag} {G : Hp} {e : Addr} {es : List V} {R : Rw} (l : RL G e es R) : RS K G e es R := ⟨SqL.of l.at_, l.len, fun i v h => by
  obtain ⟨a, e1, e2⟩ := l.row i v h
  exact ⟨a, e1, SqL.of e2⟩⟩
theorem RS.get {K : PySem.W.Frag} {G : Hp} {e : Addr} {es : List V} {R : Rw} (l : RS K G e es R) {i : Nat} (h : i < R.length) : ∃ a, es[i]? = some (.ref a) ∧ SqL K G a ((R.getD i []).map pV) := by
  have hi : i < es.length := by rw [l.len]; exact h
  obtain ⟨a, e1, e2⟩ := l.row i _ (List.getElem?_eq_getElem hi)
  exact ⟨a, by rw [List.getElem?_eq_getElem hi, e1], e2⟩
theorem RS.same {K : PySem.W.Frag} {G H : Hp} {e : Addr} {es : List V} {R : Rw} (l : RS K G e es R) (s : Same G H) : RS K H e es R := ⟨s.seq l.at_, l.len, fun i v h => by
  obtain ⟨a, e1, e2⟩ := l.row i v h
  exact ⟨a, e1, s.seq e2⟩⟩
theorem RS.all {K : PySem.W.Frag} {G : Hp} {e : Addr} {es : List V} {R : Rw} (l : RS K G e es R) : DpAll K G es (R.map rowD) := by
  refine dpAll_of (by rw [List.length_map]; exact l.len) fun i v d hv hd => ?_
  obtain ⟨a, rfl, h⟩ := l.row i v hv
  rw [List.getElem?_map] at hd
  cases q : R[i]? with
  | none => rw [q] at hd; cases hd
  | some r =>
    rw [q] at hd
    cases (Option.some.inj hd)
    rw [List.getD_eq_getElem?_getD, q] at h
    exact .lst h (row_dp r)
theorem RS.dp {K : PySem.W.Frag} {G : Hp} {e : Addr} {es : List V} {R : Rw} (l : RS K G e es R) : Dp K G (.ref e) (rowsD R) := .lst l.at_ l.all
theorem dp_pV {K : PySem.W.Frag} {H : Hp} {v : V} {z : Option Int} (h : Dp K H v (pD z)) : v = pV z := by
  cases z with
  | none => cases h; rfl
  | some i => cases h; rfl
theorem dp_pVs {K : PySem.W.Frag} {H : Hp} : ∀ {vs : List V} {r : List (Option Int)}, DpAll K H vs (r.map pD) → vs = r.map pV
  | [], [], _ => rfl
  | _ :: _, [], h => by cases h
  | [], _ :: _, h => by cases h
  | v :: vs, z :: r, h => by
    cases h with
    | cons h1 h2 => rw [dp_pV h1, dp_pVs h2]; rfl
theorem RS.of {K : PySem.W.Frag} {G : Hp} {v : V} {R : Rw} (h : Dp K G v (rowsD R)) : ∃ e es, v = .ref e ∧ RS K G e es R := by
  obtain ⟨e, es, rfl, he, ha⟩ := Dp.lstAt h
  refine ⟨e, es, rfl, he, by have := DpAll.len ha; rwa [List.length_map] at this, fun i v hv => ?_⟩
  obtain ⟨d, hd, pd⟩ := DpAll.at ha hv
  rw [List.getElem?_map] at hd
  cases q : R[i]? with
  | none => rw [q] at hd; cases hd
  | some r =>
    rw [q] at hd
    cases (Option.some.inj hd)
    obtain ⟨a, vs, rfl, h1, h2⟩ := Dp.lstAt pd
    rw [dp_pVs h2] at h1
    exact ⟨a, rfl, by rw [List.getD_eq_getElem?_getD, q]; exact h1⟩
/-! ### small data that can be laid and compared -/
structure Ni (n : Nat) (d : PyData) : Prop where
  lay : d.canLay0 = true
  deep : d.depth ≤ n
  plain : d.plain = true
theorem Ni.mono {n m : Nat} {d : PyData} (h : Ni n d) (l : n ≤ m) : Ni m d := ⟨h.lay, Nat.le_trans h.deep l, h.plain⟩
theorem ni_all {n : Nat} : ∀ {ds : List PyData}, (∀ d, d ∈ ds → Ni n d) → PyData.canLayAll0 ds = true ∧ PyData.depthAll ds ≤ n ∧ PyData.plainAll ds = true
  | [], _ => ⟨by simp [PyData.canLayAll0], by simp [PyData.depthAll], rfl⟩
  | d :: ds, h => by
    obtain ⟨a, b, c⟩ := ni_all (ds := ds) fun e he => h e (List.mem_cons_of_mem _ he)
    have k := h d List.mem_cons_self
    refine ⟨by simp [PyData.canLayAll0, k.lay, a], ?_, by simp [PyData.plainAll, k.plain, c]⟩
    rw [PyData.depthAll]
    exact Nat.max_le.mpr ⟨k.deep, b⟩
theorem Ni.list {n : Nat} {ds : List PyData} (h : ∀ d, d ∈ ds → Ni n d) : Ni (n + 1) (.list ds) := by
  obtain ⟨a, b, c⟩ := ni_all h
  exact ⟨by simp only [PyData.canLay0]; exact a, by simp only [PyData.depth]; omega, by simp only [PyData.plain]; exact c⟩
theorem Ni.tuple {n : Nat} {ds : List PyData} (h : ∀ d, d ∈ ds → Ni n d) : Ni (n + 1) (.tuple ds) := by
  obtain ⟨a, b, c⟩ := ni_all h
  exact ⟨by simp only [PyData.canLay0]; exact a, by simp only [PyData.depth]; omega, by simp only [PyData.plain]; exact c⟩
theorem Ni.int {n : Nat} (i : Int) : Ni n (.int i) := ⟨by simp [PyData.canLay0], by simp [PyData.depth], rfl⟩
theorem Ni.non {n : Nat} : Ni n .none := ⟨by simp [PyData.canLay0], by simp [PyData.depth], rfl⟩
theorem Ni.bl {n : Nat} (b : Bool) : Ni n (.bool b) := ⟨by simp [PyData.canLay0], by simp [PyData.depth], rfl⟩
theorem Ni.pD {n : Nat} (z : Option Int) : Ni n (pD z) := by
  cases z
  · exact .non
  · exact .int _
theorem Ni.row {n : Nat} (r : List (Option Int)) : Ni (n + 1) (rowD r) := Ni.list fun d hd => by
  obtain ⟨z, _, rfl⟩ := List.mem_map.mp hd
  exact .pD z
theorem Ni.rows {n : Nat} (R : Rw) : Ni (n + 2) (rowsD R) := Ni.list fun d hd => by
  obtain ⟨r, _, rfl⟩ := List.mem_map.mp hd
  exact .row r
theorem Ni.shaped {n : Nat} {d : PyData} (h : Ni n d) (l : n ≤ 30) : SeqAt.shaped d = true := by
  have := h.deep
  simp only [SeqAt.shaped, h.lay, Bool.true_and]
  exact decide_eq_true (by omega)
theorem eqv_plain {d : PyData} (h : d.plain = true) : PyData.eqv d d = true := PySem.SeqAt.eqv_refl_plain d h
def spPrc : Sp := fun vs H Q _ => ∃ (p c : Addr) (ns : List Int) (z : Int), vs = [.ref p, .int z] ∧ PoolAt H p c ns ∧ ∀ (r : Int) (H' : Hp), Sb r → Keep p H H' → PoolAt H' p c ns → Q (.int r) H'
def spEnt : Sp := fun vs H Q _ => ∃ st q a b x y : Int, vs = [.int st, .int q, .int a, .int b, .int x, .int y] ∧ Sb q ∧ Sb a ∧ Sb b ∧ Sb x ∧ Sb y ∧ ∀ r : Int, Sz r → Q (.int r) H
/-- _law_rows(pool, most) -/
def spLRws : Sp := fun vs H Q _ => ∃ (p c : Addr) (ns : List Int) (m : Int), vs = [.ref p, .int m] ∧ PoolAt H p c ns ∧ 0 < m ∧ m ≤ 8 ∧
  ∀ (r : Addr) (es : List V) (R : Rw) (H' : Hp), Keep p H H' → PoolAt H' p c ns → NewK p H H' r es R → Gt R → Bd R → (R.length : Int) ≤ m → (wd R : Int) ≤ m → Q (.ref r) H'
/-- _law_copy(rows) -/
def spLCpy (K : PySem.W.Frag) : Sp := fun vs H Q _ => ∃ (a : Addr) (es : List V) (R : Rw), vs = [.ref a] ∧ RS K H a es R ∧ R.length ≤ 8 ∧ ∀ (r : Addr) (fs : List V) (H' : Hp), Same H H' → H r = none → RL H' r fs R → (∀ (i : Nat) (c : Addr), fs[i]? = some (V.ref c) → H c = none ∧ c ≠ r) → Q (.ref r) H'
/-- _law_pairs(rows) -/
def spLPrs (K : PySem.W.Frag) : Sp := fun vs H Q _ => ∃ (a : Addr) (es : List V) (R : Rw), vs = [.ref a] ∧ RS K H a es R ∧ Gt R ∧ ∀ (r : Addr) (us : List V) (H' : Hp), Same H H' → H r = none → H' r = some (.lst us) → PrsAt r H' us (cells R) → Q (.ref r) H'
end Pk
set_option Elab.async false
set_option linter.all false
set_option maxRecDepth 100000
set_option maxHeartbeats 1000000
namespace Pk
open PySem L2 PySem.Spec PyProof.Rows
/-! ### an own comparison as a test -/
section
variable {X : Cx} {CX : CXT} {k : Nat} {C : Addr} {sp : Sp} {E : L2.St → XK} {a b : Expr} {ta tb : TE} {pos : Pos}
theorem core_cmpOwn {op : CmpOp} (hop : ∀ a b, compareOp op a b = richCompare op a b) (F : Two X CX k C (cmpInfo op).2.1 sp) (hr : Room k X.A) (hx : ∀ σ, PassesAt CX X σ (E σ))
    {pins : List (Addr × Obj)} {σ : L2.St} {H2 : Hp} {s2 : Shared} {x y : V} {v u : Value} {Q : VK} (I2 : Inv X pins σ H2 s2) (rx : RelV x v) (ry : RelV y u) (q : rOwnC X.K C sp E σ x y H2 Q) :
    wpAny (model X.prog X.w) X.A (compareOp op v u) (EP X pins σ Q) X.xe s2 := by
  obtain ⟨f, fd, ps, M, F, B⟩ := F.ex
  obtain ⟨a, dx, fs, rfl, e, o, q⟩ := q
  cases rx
  obtain ⟨ox, od, J⟩ := own_at I2 e
  obtain ⟨tb, L, nf⟩ := other_looks (M := model X.prog X.w) I2 ry o fun _ _ _ _ _ => trivial
  obtain ⟨m, hF⟩ := I2.fr
  rw [hop]
  refine PySem.W.cmp_K (op := op) hr.units0 hF I2.ok.mod.kin J L nf M.at_ M.fn ?_
  refine wpAny_mono (own_run (us := [.ref a, u]) (vs := [.ref a, y]) F hr I2.env0 B (hx σ) I2 (.cons rfl (.cons ry .nil)) q) (fun w s' z => ?_) fun _ _ z => z
  obtain ⟨z, H3, I3, rz, qz⟩ := z
  exact SlX.cmpback rz ⟨z, H3, I3, rz, qz⟩
theorem pt_cmpOwn {op : CmpOp} (hop : ∀ a b, compareOp op a b = richCompare op a b) (F : Two X CX k C (cmpInfo op).2.1 sp) (hr : Room k X.A) (hx : ∀ σ, PassesAt CX X σ (E σ)) (ha : PE X a ta) (hb : PE X b tb) (hm : behindInMarks op b = false) :
    PT X (.Compare a [op] [b] pos) (tTest (tOp2 (rOwnC X.K C sp) E ta tb)) := by
  refine ⟨fun pins s σ H Q I h => ?_⟩
  refine wpAny_isTrue_Compare1 (binT ha hb I h fun v u s2 x y H2 I2 rx ry q => ?_) hm
  refine thn (core_cmpOwn hop F hr hx I2 rx ry q) fun c s3 ⟨z, H3, I3, r3, k, e, q3⟩ => ?_
  subst e
  cases r3
  exact wpAny_truthy_bool ⟨H3, I3, q3⟩
theorem core_neOwn (F : Two X CX k C "__eq__" sp) (hs : PySem.W.findIn X.K (.ref C) "__ne__" = some (some (.builtin "object.__ne__"))) (ho : PySem.W.mroIn X.K C (.type "object") = some true) (hr : Room (k + 1) X.A) (hx : ∀ σ, PassesAt CX X σ (E σ))
    {pins : List (Addr × Obj)} {σ : L2.St} {H2 : Hp} {s2 : Shared} {x y : V} {v u : Value} {Q : VK} (I2 : Inv X pins σ H2 s2) (rx : RelV x v) (ry : RelV y u) (q : rOwnNe X.K C sp E σ x y H2 Q) :
    wpAny (model X.prog X.w) X.A (compareOp .NotEq v u) (EP X pins σ Q) X.xe s2 := by
  obtain ⟨f, fd, ps, M, F, B⟩ := F.ex
  obtain ⟨a, dx, fs, rfl, e, o, q⟩ := q
  cases rx
  obtain ⟨ox, od, J⟩ := own_at I2 e
  obtain ⟨tb, L, nf⟩ := other_looks (M := model X.prog X.w) I2 ry o fun _ _ _ _ _ => trivial
  show wpAny _ _ (richCompare .NotEq _ _) _ _ _
  refine ne_by_eq hr.in1.units0 hr.units0 I2.kIn J L nf ho hs M.at_ M.fn ?_
  refine wpAny_mono (own_run (us := [.ref a, u]) (vs := [.ref a, y]) F hr.in1 I2.env0.in1 B (hx σ) I2 (.cons rfl (.cons ry .nil)) q) (fun w s' z => ?_) fun _ _ z => z
  obtain ⟨z, H3, I3, rz, c, rfl, qz⟩ := z
  cases (show w = Value.bool c from rz)
  exact ⟨c, rfl, .bl (!c), H3, I3, rfl, qz⟩
theorem pt_neOwn (F : Two X CX k C "__eq__" sp) (hs : PySem.W.findIn X.K (.ref C) "__ne__" = some (some (.builtin "object.__ne__"))) (ho : PySem.W.mroIn X.K C (.type "object") = some true) (hr : Room (k + 1) X.A) (hx : ∀ σ, PassesAt CX X σ (E σ)) (ha : PE X a ta) (hb : PE X b tb) (hm : behindInMarks .NotEq b = false) :
    PT X (.Compare a [.NotEq] [b] pos) (tTest (tOp2 (rOwnNe X.K C sp) E ta tb)) := by
  refine ⟨fun pins s σ H Q I h => ?_⟩
  refine wpAny_isTrue_Compare1 (binT ha hb I h fun v u s2 x y H2 I2 rx ry q => ?_) hm
  refine thn (core_neOwn F hs ho hr hx I2 rx ry q) fun c s3 ⟨z, H3, I3, r3, k, e, q3⟩ => ?_
  subst e
  cases r3
  exact wpAny_truthy_bool ⟨H3, I3, q3⟩
end
end Pk
set_option Elab.async false
set_option linter.all false
set_option maxRecDepth 100000
set_option maxHeartbeats 1000000
namespace Pk
open PySem L2 PySem.Spec PyProof.Rows ClX
/-! ### a class method is called; a local name that holds the class is called -/
def tCM (C : Addr) (sp : Sp) (E : L2.St → XK) (ta : TE) (t : TA) : TE := fun σ H Q => ta σ H fun y G => y = .ref C ∧ t σ G fun zs G2 => sp (.ref C :: zs) G2 Q (E σ)
def tMkV (i : Nat) (C : Addr) (sp : Sp) (E : L2.St → XK) (t : TA) : TE := fun σ H Q => σ[i]? = some (some (.ref C)) ∧ tMakeS C sp E t σ H Q
section
variable {σ : L2.St} {H : Hp} {Q : VK} {C : Addr} {sp : Sp} {E : L2.St → XK} {ta : TE} {t : TA} {i : Nat}
theorem r_cm (h : ta σ H fun y G => y = .ref C ∧ t σ G fun zs G2 => sp (.ref C :: zs) G2 Q (E σ)) : tCM C sp E ta t σ H Q := h
theorem r_mkV (e : σ[i]? = some (some (.ref C))) (h : tMakeS C sp E t σ H Q) : tMkV i C sp E t σ H Q := ⟨e, h⟩
end
section
variable {X : Cx} {CX : CXT} {k : Nat} {C g : Addr} {fd : FuncData} {ps : List Str} {sp : Sp} {E : L2.St → XK} {mc : Value} {m x : Str} {pr : Addr} {o e : Expr} {es : List Expr} {pos apos p : Pos} {ta : TE} {t : TA} {pl : Sem Bool} {i : Nat}
theorem pe_cm (ho : PE X o ta) (rd : CRead X.K C mc) (cm : CMet X.K C mc m pr g) (ok : FnOk X.prog X.w X.K X.mg X.base CX k g fd ps sp) (room : Room k X.A) (bd : Binds X.K fd ps []) (px : ∀ σ, PassesAt CX X σ (E σ)) (ha : PA X (e :: es) t)
    (st : starEach (e :: es) X.env = (false, eval e X.env) :: starEach es X.env := by rfl) (np : (backTo pos (starEach es X.env)).any (·.1) = false := by rfl)
    (tx : eval (.Call (.Attribute o m apos) (e :: es) [] pos) X.env = (do
      let ov ← eval o X.env
      standAt apos.atName
      let (f, first) ← holding [ov] (getMethod ov m pl)
      callWith pos f first (backTo pos (starEach (e :: es) X.env)) (backToKw pos (keywordEach [] X.env))) := by rfl) : PE X (.Call (.Attribute o m apos) (e :: es) [] pos) (tCM C sp E ta t) := by
  refine ⟨fun pins s τ G R J want => ?_⟩
  refine PySem.W.methodCall_KW (pl := pl) (thn (ho.run pins s τ G _ J want) fun u s1 ⟨y, G1, J1, ry, ey, q⟩ => ?_) tx
  subst ey
  obtain rfl : u = Value.ref C := ry
  refine getmethcm_ok J1 rd cm fun s2 J2 => ?_
  refine callwith_cm J2 (base_none J1 (Nat.le_refl _)) cm.fi (thn (ha.run pos _ s2 τ G1 _ J2 q) fun us s3 ⟨zs, G2, J3, rz, q2⟩ => ⟨⟨pin_at J3, J3.kIn⟩, ?_⟩) st np
  have rl : Vals (.ref C :: zs) (Value.ref C :: us) := .cons rfl rz
  have len : (Value.ref C :: us ++ []).length = ps.length := by
    rw [List.append_nil]
    exact rl.length.symm.trans (ok.len _ _ _ _ q2)
  have b2 := bd s3 (.ref C :: us) J3.kIn len
  rw [List.append_nil] at b2
  have run : wpAny (model X.prog X.w) X.A (call (.ref s1.heap.objs.size) us) (EP X ((s1.heap.objs.size, PySem.W.methodObj (.ref g) (.ref C)) :: pins) τ R) X.xe s3 :=
    wpAny_call (PySem.W.method_call (pin_at J3) (codeAny_mono (ok.run X.A X.stack s3 G2 ⟨.ref C :: us, []⟩ (.ref C :: us) (.ref C :: zs) R (E τ) room J3.env0 b2 rl q2) fun fin t ht => by
      rcases fin with er | fl
      · exact px τ _ _ _ er t J3 ht
      · cases fl with
        | ret u => exact J3.after ht
        | next => exact ht.elim
        | brk => exact ht.elim
        | cont => exact ht.elim))
  exact thn run fun _ _ z => unpinE z
theorem pe_mkV (mk : Mk X.K C g) (ok : FnOk X.prog X.w X.K X.mg X.base CX k g fd ps sp) (room : Room (k + 1) X.A) (hN : X.N[i]? = some x) (hv : Vis X.env.scope x) (bd : Binds X.K fd ps []) (px : ∀ σ, PassesAt CX X σ (E σ)) (ha : PA X (e :: es) t)
    (nd : (x == ("__debug__" : Str)) = false := by decide) (nc : (x == ("__classdict__" : Str)) = false := by decide)
    (st : starEach (e :: es) X.env = (false, eval e X.env) :: starEach es X.env := by rfl) (np : (backTo pos (starEach es X.env)).any (·.1) = false := by rfl) : PE X (.Call (.Name x p) (e :: es) [] pos) (tMkV i C sp E t) := by
  refine ⟨fun pins s τ G R J want => ?_⟩
  obtain ⟨hs, ht⟩ := want
  refine wpAny_Call_Name_kw (thn ((pe_var (pos := p) hN hv nd nc).run pins s τ G (fun y G1 => y = .ref C ∧ G1 = G) J ⟨.ref C, hs, rfl, rfl⟩) fun u s1 ⟨y, G1, J1, ry, q1⟩ => ?_)
  obtain ⟨rfl, rfl⟩ := q1
  cases ry
  refine PySem.W.callWith_K (h₀ := X.base) J1.ok.mod.kin mk.kp (thn (ha.run pos pins s1 τ _ _ J1 ht) fun us s2 ⟨zs, G2, J2, rz, q⟩ => ⟨J2.kIn, ?_⟩) st np
  exact made_at mk ok room bd (px τ) J2 rz q
end
end Pk
set_option Elab.async false
set_option linter.all false
set_option maxRecDepth 100000
set_option maxHeartbeats 1000000
namespace Pk
open PySem L2
local macro_rules | `(tactic| walk_at "rd") => `(tactic| repeat (first
  | with_reducible refine r_seq ?_ | with_reducible refine r_nxt ?_ | with_reducible refine r_asg ?_ | with_reducible refine r_to ?_ | with_reducible refine r_ret ?_ | with_reducible refine r_for ?_ | with_reducible refine r_lc ?_ | with_reducible refine r_rng1 ?_ | with_reducible refine r_list ?_ | with_reducible refine r_tupI ?_ | with_reducible refine r_drop ?_ | with_reducible refine r_ifs ?_
  | with_reducible refine r_op ?_ | with_reducible refine r_c ?_ | with_reducible refine r_var rfl ?_ | with_reducible refine r_I0 ?_ | with_reducible refine r_un ?_ | with_reducible refine r_U ?_ | with_reducible refine r_make ?_ | with_reducible refine r_sub ?_
  | with_reducible refine r_nil ?_ | with_reducible refine r_cons ?_ | with_reducible refine r_cb ?_ | with_reducible refine r_sl ?_ | with_reducible refine r_noP ?_ | with_reducible refine r_part ?_ | with_reducible refine r_isI ?_ | with_reducible refine r_lst ?_ | with_reducible refine r_tup ?_ | with_reducible refine r_call ?_
  | with_reducible refine r_test ?_ | with_reducible refine r_B ?_ | with_reducible refine r_and ?_ | with_reducible refine r_or ?_ | with_reducible refine r_not ?_ | with_reducible refine r_andV ?_ | with_reducible refine r_orV ?_ | with_reducible refine r_notV ?_ | with_reducible refine r_bl ?_ | with_reducible refine r_yes ?_ | with_reducible refine r_int ?_ | with_reducible refine r_is0 ?_ | with_reducible refine r_is1 ?_ | with_reducible refine iteT ?_ | with_reducible refine iteF ?_ | with_reducible refine ite_nF ?_ | with_reducible refine ite_nT ?_
  | with_reducible refine r_mod (by decide) ?_ | with_reducible refine r_div (by decide) (by decide) ?_ | with_reducible refine r_mulR (by decide) (by decide) ?_ | with_reducible refine r_mulL (by decide) (by decide) ?_ | with_reducible refine r_pow (by decide) (by decide) (by decide) ?_))
def top (i : Nat) : Stmt := PySem.Challenge.pw_pairorder_k06_amounts_made.main.body.getD i (.Pass ⟨0, 0, 0, 0⟩)
abbrev slMixed : Stmt := top 26
abbrev slDraw : Stmt := top 27
abbrev slNumber : Stmt := top 28
abbrev slPool : Stmt := top 25
section
variable {P : Program} {w : World} {K : PySem.W.Frag} {mg : Str → Option Value} {base : Heap}
theorem sclMixed : FnScope ["_law_pool_here", "_law_cell", "_law_number_here"] ["_law_pool_here", "_law_cell"] (defScope slMixed) := ⟨rfl, rfl, rfl, by decide +kernel, rfl, by decide +kernel, by decide +kernel⟩
theorem ok_mixed {f : Addr} {fd : FuncData} (F : Fun K "_law_mixed" "_law_mixed" slMixed f fd) (T : Bt mg) : FnOk P w K mg base CX0 1 f fd ["_law_pool_here", "_law_cell"] spMix := by
  refine F.ok sclMixed (fun vs H Q E h => ?_) (fun cdv A outer s H vs Q E hr h => ?_)
  · obtain ⟨p, c, ns, x, rfl, _⟩ := h
    rfl
  · obtain ⟨p, c, ns, x, rfl, hp, k⟩ := h
    refine ⟨_, pss_cons (ps_asg (pe_op op_add (pe_ix ix_list (pv 0) pe_int (fun _ _ => rfl)) pe_int) (pg_sub (pv 0) pe_int set_list))
      (pss_cons (ps_set (i := 2) sclMixed.nd rfl (Or.inl rfl) (pe_op op_add (pe_op op_add (pe_ix ix_list (pv 0) pe_int (fun _ _ => rfl)) (pe_op op_mod (pe_callTy cl_int (by rfl) T.int (by decide +kernel) (pa_cons (pv 1) pa_nil)) pe_int)) (pe_op op_mul pe_int (pe_ix ix_list (pv 0) pe_int (fun _ _ => rfl)))))
      (pss_cons (ps_set (i := 2) sclMixed.nd rfl (Or.inl rfl) (pe_op op_mod (pe_callTy cl_int (by rfl) T.int (by decide +kernel) (pa_cons (pe_op op_mul (pv 2) pe_int) pa_nil)) pe_int))
      (pss_cons (ps_set (i := 2) sclMixed.nd rfl (Or.inl rfl) (pe_op op_mod (pe_callTy cl_int (by rfl) T.int (by decide +kernel) (pa_cons (pe_op op_mul (pv 2) (pe_op op_add (pe_op op_fdiv (pv 2) pe_int) pe_int)) pa_nil)) pe_int))
      (pss_cons (ps_asg (pv 2) (pg_sub (pv 0) pe_int set_list))
      (pss_cons (ps_set (i := 2) sclMixed.nd rfl (Or.inl rfl) (pe_op op_mod (pe_callTy cl_int (by rfl) T.int (by decide +kernel) (pa_cons (pe_op op_mul (pv 2) (pe_op op_add (pe_op op_fdiv (pv 2) pe_int) pe_int)) pa_nil)) pe_int))
      (pss_one (ps_ret (pe_op op_fdiv (pv 2) pe_int)))))))), ?_⟩
    obtain ⟨a, b, z, n, ha, hP, hC⟩ := hp
    have ne : c ≠ p := PoolAt.ne ⟨a, b, z, n, ha, hP, hC⟩
    have lt : ∀ y : Int, -(2 ^ 64) < y % 2147483647 ∧ y % 2147483647 < 2 ^ 64 := fun y => by omega
    walk_at "rd"
    refine r_ixL (SqL.of hP) rfl ?_
    walk_at "rd"
    refine r_setL hP rfl ?_
    walk_at "rd"
    refine r_ixL (SqL.of upd_same) rfl ?_
    walk_at "rd"
    refine r_ixL (SqL.of upd_same) rfl ?_
    walk_at "rd"
    refine r_mulL (lt _).1 (lt _).2 ?_
    walk_at "rd"
    refine r_setL upd_same rfl ?_
    walk_at "rd"
    refine r_mulL (lt _).1 (lt _).2 ?_
    walk_at "rd"
    rw [upd_upd]
    refine k _ _ ?_ (Keep.refl.own) (PoolAt.put ha hC ne)
    generalize (z + x % 2147483647 + 7919 * (n + 1)) * 48271 % 2147483647 = y
    omega
theorem sclDraw : FnScope ["_law_pool_here", "_law_size", "_law_cell", "_law_number_here"] ["_law_pool_here", "_law_size"] (defScope slDraw) := ⟨rfl, rfl, rfl, by decide +kernel, rfl, by decide +kernel, by decide +kernel⟩
theorem ok_draw {f : Addr} {fd : FuncData} (F : Fun K "_law_draw" "_law_draw" slDraw f fd) (T : Bt mg) (D : Df P w K mg base CX0 "_law_mixed" 1 ["_law_pool_here", "_law_cell"] spMix) :
    FnOk P w K mg base CX0 2 f fd ["_law_pool_here", "_law_size"] spDraw := by
  refine F.ok sclDraw (fun vs H Q E h => ?_) (fun cdv A outer s H vs Q E hr h => ?_)
  · obtain ⟨p, c, ns, x, rfl, _⟩ := h
    rfl
  · obtain ⟨p, c, ns, x, rfl, pl, x0, x1, k⟩ := h
    obtain ⟨u, hu, ru⟩ : ∃ u : TS, PSs (cxOf CX0 P w K mg base ["_law_pool_here", "_law_size", "_law_cell", "_law_number_here"] "_law_draw" (defScope slDraw) f cdv A outer s H E).nox ((defBody slDraw).drop 1) u ∧
        ∀ (v1 v2 : Option V) (H1 : Hp), Keep p H H1 → PoolAt H1 p c ns → u { nx := fun _ H' => Q .non H', rt := Q } [some (.ref p), some (.int x), v1, v2] H1 := by
      refine ⟨_, (pss_cons (ps_if (pt_cmpR op_gt (pe_ix ix_list (pv 0) pe_int (fun _ _ => rfl)) pe_int (nomark _))
        (pss_cons (ps_set (i := 3) sclDraw.nd rfl (Or.inl rfl) (pe_callTy cl_int (by rfl) T.int (by decide +kernel) (pa_cons (pe_ix ix_list (pv 0) pe_int (fun _ _ => rfl)) pa_nil)))
        (pss_cons (ps_asg (pe_op op_fdiv (pv 3) (pv 1)) (pg_sub (pv 0) pe_int set_list))
        (pss_one (ps_ret (pe_op op_mod (pe_callTy cl_int (by rfl) T.int (by decide +kernel) (pa_cons (pv 3) pa_nil)) (pv 1)))))) pss_nil)
        (pss_one (ps_ret (pe_op op_mod (pe_callTy cl_int (by rfl) T.int (by decide +kernel) (pa_cons (pe_df D hr (by decide) (pa_cons (pv 0) (pa_cons pe_int pa_nil))) pa_nil)) (pv 1))))), ?_⟩
      rintro v1 v2 H1 kp ⟨a, b, z, n, ha, hP, hC⟩
      have ne : c ≠ p := PoolAt.ne ⟨a, b, z, n, ha, hP, hC⟩
      walk_at "rd"
      refine r_ixL (SqL.of hP) rfl ?_
      walk_at "rd"
      refine ite_dec (fun h1 => ?_) (fun h1 => ?_)
      · walk_at "rd"
        refine r_ixL (SqL.of hP) rfl ?_
        walk_at "rd"
        refine r_div x0 x1 ?_
        walk_at "rd"
        refine r_setL hP rfl ?_
        walk_at "rd"
        refine r_mod x0 ?_
        exact k _ _ (Int.emod_nonneg _ (by omega)) (Int.emod_lt_of_pos _ x0) kp.own (PoolAt.put ha hC ne)
      · walk_at "rd"
        refine ⟨p, c, ns, 0, rfl, ⟨a, b, z, n, ha, hP, hC⟩, fun r H2 r0 k2 p2 => ?_⟩
        walk_at "rd"
        refine r_mod x0 ?_
        exact k _ _ (Int.emod_nonneg _ (by omega)) (Int.emod_lt_of_pos _ x0) (kp.trans k2) p2
    refine ⟨_, pss_cons (ps_if (PW.pt (pw_and (pt_cmpR op_le (pe_ix ix_list (pv 0) pe_int (fun _ _ => rfl)) pe_int (nomark _)) (pw_and1 (pt_cmpR op_lt (pe_ix ix_list (pv 0) pe_int (fun _ _ => rfl)) (pe_callB cl_len (by rfl) T.len PySem.boot_len (pa_cons (pe_ix ix_list (pv 0) pe_int (fun _ _ => rfl)) pa_nil)) (nomark _)))))
        (pss_cons (ps_set (i := 2) sclDraw.nd rfl (Or.inl rfl) (pe_callTy cl_int (by rfl) T.int (by decide +kernel) (pa_cons (pe_ix ix_list (pe_ix ix_list (pv 0) pe_int (fun _ _ => rfl)) (pe_ix ix_list (pv 0) pe_int (fun _ _ => rfl)) (fun _ _ => rfl)) pa_nil)))
        (pss_cons (ps_asg (pe_op op_add (pe_ix ix_list (pv 0) pe_int (fun _ _ => rfl)) pe_int) (pg_sub (pv 0) pe_int set_list))
        (pss_cons (ps_if (pt_cmpR op_lt (pv 2) (pe_op op_pow pe_int pe_int) (nomark _))
            (pss_one (ps_ret (pe_op op_mod (pe_callTy cl_int (by rfl) T.int (by decide +kernel) (pa_cons (pe_df D hr (by decide) (pa_cons (pv 0) (pa_cons (pv 2) pa_nil))) pa_nil)) (pv 1)))) pss_nil)
        (pss_one (ps_asg (pv 2) (pg_sub (pv 0) pe_int set_list)))))) pss_nil) hu, ?_⟩
    obtain ⟨a, b, z, n, ha, hP, hC⟩ := id pl
    have ne : c ≠ p := PoolAt.ne pl
    walk_at "rd"
    refine r_ixL (SqL.of hP) rfl ?_
    walk_at "rd"
    refine ite_dec (fun h1 => ?_) (fun h1 => ?_)
    · walk_at "rd"
      refine r_ixL (SqL.of hP) rfl ?_
      walk_at "rd"
      refine r_ixL (SqL.of hP) rfl ?_
      walk_at "rd"
      refine r_lenL (SqL.of hC) ?_
      walk_at "rd"
      refine ite_dec (fun h2 => ?_) (fun h2 => ?_)
      · rw [List.length_map] at h2
        obtain ⟨y, hy⟩ : ∃ y, ns[a.toNat]? = some y := ⟨_, List.getElem?_eq_getElem (by omega)⟩
        walk_at "rd"
        refine r_ixL (SqL.of hP) rfl ?_
        walk_at "rd"
        refine r_ixL (SqL.of hP) rfl ?_
        refine r_ixL (v := .int y) (SqL.of hC) (by have e := atI_nat (xs := ns.map V.int) (j := a.toNat) (v := .int y) (by rw [List.getElem?_map, hy]; rfl); rw [Int.toNat_of_nonneg ha] at e; exact e) ?_
        walk_at "rd"
        refine r_ixL (SqL.of hP) rfl ?_
        walk_at "rd"
        refine r_setL hP rfl ?_
        walk_at "rd"
        have P1 : PoolAt (upd H p (.lst [.ref c, .int (a + 1), .int b, .int z, .int n])) p c ns := PoolAt.put (by omega) hC ne
        refine ite_dec (fun h3 => ?_) (fun h3 => ?_)
        · walk_at "rd"
          refine ⟨p, c, ns, y, rfl, P1, fun r H2 r0 k2 p2 => ?_⟩
          walk_at "rd"
          refine r_mod x0 ?_
          exact k _ _ (Int.emod_nonneg _ (by omega)) (Int.emod_lt_of_pos _ x0) (Keep.refl.own.trans k2) p2
        · walk_at "rd"
          refine r_setL upd_same rfl ?_
          refine ru _ _ _ (Keep.refl.own.own) ?_
          rw [upd_upd]
          exact PoolAt.put (by omega) hC ne
      · walk_at "rd"
        exact ru _ _ _ Keep.refl pl
    · walk_at "rd"
      exact ru _ _ _ Keep.refl pl
theorem sclNumber : FnScope ["_law_pool_here", "_law_parts", "_law_number_here", "_law_k"] ["_law_pool_here", "_law_parts"] (defScope slNumber) := ⟨rfl, rfl, rfl, by decide +kernel, rfl, by decide +kernel, by decide +kernel⟩
theorem ok_number {f : Addr} {fd : FuncData} (F : Fun K "_law_number" "_law_number" slNumber f fd) (T : Bt mg) (D : Df P w K mg base CX0 "_law_draw" 2 ["_law_pool_here", "_law_size"] spDraw) :
    FnOk P w K mg base CX0 3 f fd ["_law_pool_here", "_law_parts"] spNum := by
  refine F.ok sclNumber (fun vs H Q E h => ?_) (fun cdv A outer s H vs Q E hr h => ?_)
  · obtain ⟨p, c, ns, x, rfl, _⟩ := h
    rfl
  · obtain ⟨p, c, ns, x, rfl, pl, x0, x1, k⟩ := h
    refine ⟨_, pss_cons (ps_set (i := 2) sclNumber.nd rfl (Or.inl rfl) pe_int)
      (pss_cons (ps_for PassesOwn.never rfl (pi_range1 rfl T.range (pa_cons (pv 1) pa_nil)) (pg_name (i := 3) sclNumber.nd rfl (Or.inl rfl))
        (pss_one (ps_set (i := 2) sclNumber.nd rfl (Or.inl rfl) (pe_op op_add (pe_op op_mul (pv 2) (pe_op op_pow pe_int pe_int)) (pe_df D hr (by decide) (pa_cons (pv 0) (pa_cons (pe_op op_pow pe_int pe_int) pa_nil)))))))
      (pss_one (ps_ret (pv 2)))), ?_⟩
    walk_at "rd"
    refine ⟨x, rfl, by omega, by omega, for_range (lo := 0) (n := x.toNat) (fun i σ H' => ∃ (m : Int) (v : Option V), σ = [some (.ref p), some (.int x), some (.int m), v] ∧ 0 ≤ m ∧ m < 1000000 ^ i ∧ Keep p H H' ∧ PoolAt H' p c ns)
      ⟨0, none, rfl, Int.le_refl 0, by decide, Keep.refl, pl⟩ ?_ ?_⟩
    · rintro i σ H' hi ⟨m, v, rfl, m0, m1, kp, pl'⟩
      walk_at "rd"
      refine ⟨p, c, ns, _, rfl, pl', by decide, by decide, fun r H2 r0 r1 k2 p2 => ?_⟩
      walk_at "rd"
      have e6 : ((10 : Int) ^ Int.toNat 6) = 1000000 := by decide
      rw [e6] at r1 ⊢
      refine ⟨_, _, rfl, by omega, ?_, kp.trans k2, p2⟩
      rw [Int.pow_succ]
      omega
    · rintro σ H' ⟨m, v, rfl, m0, m1, kp, pl'⟩
      walk_at "rd"
      exact k _ _ m0 m1 kp pl'
theorem sclPool : FnScope ["_law_script", "_law_cell"] ["_law_script"] (defScope slPool) := ⟨rfl, rfl, rfl, by decide +kernel, rfl, by decide +kernel, by decide +kernel⟩
theorem ok_pool {f : Addr} {fd : FuncData} (F : Fun K "_law_pool" "_law_pool" slPool f fd) (T : Bt mg) : FnOk P w K mg base CX0 1 f fd ["_law_script"] (spPool K) := by
  refine F.ok sclPool (fun vs H Q E h => ?_) (fun cdv A outer s H vs Q E hr h => ?_)
  · obtain ⟨l, ns, rfl, _⟩ := h
    rfl
  · obtain ⟨l, ns, rfl, hS, hlen, k⟩ := h
    refine ⟨_, (pss_one (ps_ret (pe_lst (pa_cons (pe_lc (own := [("_law_cell", 1)]) (g := gName 1) rfl sclPool.nd (pi_list (pe_slice sl_list (pv 0) po_none (po_some pe_int))) (blkOk_by (own := [("_law_cell", 1)]) (N := ["_law_script", "_law_cell"]) (sc := defScope slPool) (by decide +kernel)) (fun _ _ _ _ _ => pg_name (i := 1) sclPool.nd rfl (Or.inl rfl)) (fun _ _ _ _ _ => pts_nil) (fun _ _ _ _ _ => (pe_callTy cl_int (by rfl) T.int (by decide +kernel) (pa_cons (pv 1) pa_nil)))) (pa_cons pe_int (pa_cons pe_int (pa_cons pe_int (pa_cons pe_int pa_nil)))))))), ?_⟩
    have cut : cutV (ns.map V.int) none (some 63) = ns.map V.int := cut_all (by rw [List.length_map]; exact hlen)
    walk_at "rd"
    refine ⟨l, ns.map V.int, rfl, hS, fun q hq => ⟨q, rfl, ⟨_, SqL.of upd_same⟩, fun D hD => ?_⟩⟩
    rw [cut] at hD ⊢
    have nqD : q ≠ D := fun z => by rw [← z, upd_same] at hD; cases hD
    refine lc_list (K := K) (a := q) (xs := ns.map V.int) (fun i H' => H' D = some (.lst ((ns.take i).map V.int)) ∧ H' q = some (.lst (ns.map V.int)) ∧ Same H H') ⟨upd_same, ?_, ?_⟩ (fun i H' _ h => SqL.of h.2.1) (fun i x H' hi h => ?_) (fun H' h => ?_)
    · rw [upd_ne nqD, upd_same]
    · exact Same.up (Same.up (Same.refl H) hq) hD
    · obtain ⟨h1, h2, h3⟩ := h
      rw [List.getElem?_map] at hi
      obtain ⟨y, hy, rfl⟩ := Option.map_eq_some_iff.mp hi
      walk_at "rd"
      refine ⟨rfl, ?_⟩
      walk_at "rd"
      refine ⟨_, h1, ?_, upd_same.trans ?_, ?_, ?_⟩
      · rw [List.length_map, List.length_take]
        exact Nat.lt_of_le_of_lt (Nat.min_le_right _ _) (Nat.lt_of_le_of_lt hlen (by decide))
      · rw [take_snoc hy, List.map_append]; rfl
      · rw [upd_ne nqD]; exact h2
      · have hDn : H D = none := by
          rw [upd_ne (fun z => nqD z.symm)] at hD; exact hD
        exact fun b o e => by rw [upd_ne (ne_of_none e hDn)]; exact h3 b o e
    · obtain ⟨h1, h2, h3⟩ := h
      rw [List.length_map, List.take_length] at h1
      walk_at "rd"
      refine ⟨by show 5 ≤ sizeLine; decide, fun p hp => ?_⟩
      have hDn : H D = none := by
        rw [upd_ne (fun z => nqD z.symm)] at hD; exact hD
      have npD : D ≠ p := ne_of_none h1 hp
      exact k p D _ (h3.free hp) hDn (Same.up h3 hp) ⟨0, 0, 1, 0, Int.le_refl 0, upd_same, by rw [upd_ne npD]; exact h1⟩
end
abbrev slSame : Stmt := top 29
section
variable {P : Program} {w : World} {K : PySem.W.Frag} {mg : Str → Option Value} {base : Heap}
theorem sclSame : FnScope ["_law_actual", "_law_due_here", "_law_k"] ["_law_actual", "_law_due_here"] (defScope slSame) := ⟨rfl, rfl, rfl, by decide +kernel, rfl, by decide +kernel, by decide +kernel⟩
theorem ok_same {f : Addr} {fd : FuncData} (F : Fun K "_law_same" "_law_same" slSame f fd) (T : Bt mg) (me : mg "_law_same" = some (.ref f)) : ∀ n : Nat, FnOk P w K mg base CX0 (n + 1) f fd ["_law_actual", "_law_due_here"] (spSame K n)
  | n => by
    have G : ∀ m, n = m + 1 → FnOk P w K mg base CX0 (m + 1) f fd ["_law_actual", "_law_due_here"] (spSame K m) := fun m e => by
      subst e
      exact ok_same F T me m
    have b : Binds K fd ["_law_actual", "_law_due_here"] [] := F.binds fun _ _ _ _ _ _ us hl => match us, hl with | [_, _], _ => rfl
    refine F.ok sclSame (fun vs H Q E h => ?_) (fun cdv A outer s H vs Q E hr h => ?_)
    · obtain ⟨v, d, d', rfl, _⟩ := h
      rfl
    · obtain ⟨x, y, d, rfl, hx, hy, hd, k⟩ := h
      obtain ⟨u, hu, ru⟩ : ∃ u : TS, PSs (cxOf CX0 P w K mg base ["_law_actual", "_law_due_here", "_law_k"] "_law_same" (defScope slSame) f cdv A outer s H E).nox ((defBody slSame).drop 5) u ∧
          (∀ (p q : Addr) (xs ys : List V) (ds : List PyData), x = .ref p → y = .ref q → ((SqL K H p xs ∧ SqL K H q ys ∧ d = .list ds) ∨ (SqT K H p xs ∧ SqT K H q ys ∧ d = .tuple ds)) → DpAll K H xs ds → DpAll K H ys ds →
            u { nx := fun _ H' => Q .non H', rt := Q } [some x, some y, none] H) := by
        cases hd with
        | non => exact ⟨_, pss_never, fun p q xs ys ds e _ h => by cases hx; cases e⟩
        | bl b => exact ⟨_, pss_never, fun p q xs ys ds e _ h => by cases hx; cases e⟩
        | int i => exact ⟨_, pss_never, fun p q xs ys ds e _ h => by cases hx; cases e⟩
        | str z => exact ⟨_, pss_never, fun p q xs ys ds e _ h => by cases hx; cases e⟩
        | @lst n ds hds hz =>
          refine ⟨_, pss_cons (ps_if (pt_cmpR op_ne (pe_callB cl_len (by rfl) T.len PySem.boot_len (pa_cons (pv 0) pa_nil)) (pe_callB cl_len (by rfl) T.len PySem.boot_len (pa_cons (pv 1) pa_nil)) (nomark _)) (pss_one (ps_ret pe_bl)) pss_nil)
            (pss_cons (ps_for PassesOwn.never rfl (pi_range1 rfl T.range (pa_cons (pe_callB cl_len (by rfl) T.len PySem.boot_len (pa_cons (pv 1) pa_nil)) pa_nil)) (pg_name (i := 2) sclSame.nd rfl (Or.inl rfl))
              (pss_one (ps_if (pt_not (pt_val (pe_call (G _ rfl) hr rfl me F.kp b .nil pass0 (pa_cons (pe_ix ix_list (pv 0) (pv 2) (fun _ _ => rfl)) (pa_cons (pe_ix ix_list (pv 1) (pv 2) (fun _ _ => rfl)) pa_nil))))) (pss_one (ps_ret pe_bl)) pss_nil)))
            (pss_one (ps_ret pe_bl))), ?_⟩
          intro p q xs ys ds' e1 e2 h hA hB
          rcases h with ⟨hX, hY, e⟩ | ⟨_, _, e⟩
          · have ed := PyData.list.inj e
            subst ed e1 e2
            have l1 := dpAll_len hA
            have l2 := dpAll_len hB
            walk_at "rd"
            refine r_lenL hX ?_
            walk_at "rd"
            refine r_lenL hY ?_
            refine r_ne rfl ?_
            walk_at "rd"
            refine ite_no (fun _ => ?_) (fun h => absurd (by rw [l1, l2]) h)
            walk_at "rd"
            refine r_lenL hY ?_
            walk_at "rd"
            refine ⟨_, rfl, by omega, by omega, for_range (lo := 0) (n := _) (fun i σ H' => H' = H ∧ ∃ v : Option V, σ = [some (.ref p), some (.ref q), v]) ⟨rfl, none, rfl⟩ ?_ ?_⟩
            · rintro i σ H' hi ⟨rfl, v, rfl⟩
              have hi' : i < ys.length := by omega
              obtain ⟨dx, hdx, hdX⟩ := dpAll_at (i := i) hA (List.getElem?_eq_getElem (by omega))
              obtain ⟨dy, hdy, hdY⟩ := dpAll_at (i := i) hB (List.getElem?_eq_getElem hi')
              have ee : dx = dy := Option.some.inj (hdx.symm.trans hdy)
              subst ee
              have e0 : (0 : Int) + (i : Int) = (i : Int) := Int.zero_add _
              walk_at "rd"
              rw [e0]
              refine r_ixL hX (atI_nat (List.getElem?_eq_getElem (by omega))) ?_
              walk_at "rd"
              refine r_ixL hY (atI_nat (List.getElem?_eq_getElem hi')) ?_
              walk_at "rd"
              refine ⟨_, _, dx, rfl, hdX, hdY, hds _ (List.mem_of_getElem? hdx), ?_⟩
              walk_at "rd"
              exact ⟨rfl, _, rfl⟩
            · rintro σ H' ⟨rfl, v, rfl⟩
              walk_at "rd"
              exact k
          · cases e
        | @tup n ds hds hz =>
          refine ⟨_, pss_cons (ps_if (pt_cmpR op_ne (pe_callB cl_len (by rfl) T.len PySem.boot_len (pa_cons (pv 0) pa_nil)) (pe_callB cl_len (by rfl) T.len PySem.boot_len (pa_cons (pv 1) pa_nil)) (nomark _)) (pss_one (ps_ret pe_bl)) pss_nil)
            (pss_cons (ps_for PassesOwn.never rfl (pi_range1 rfl T.range (pa_cons (pe_callB cl_len (by rfl) T.len PySem.boot_len (pa_cons (pv 1) pa_nil)) pa_nil)) (pg_name (i := 2) sclSame.nd rfl (Or.inl rfl))
              (pss_one (ps_if (pt_not (pt_val (pe_call (G _ rfl) hr rfl me F.kp b .nil pass0 (pa_cons (pe_ix ix_tup (pv 0) (pv 2) (fun _ _ => rfl)) (pa_cons (pe_ix ix_tup (pv 1) (pv 2) (fun _ _ => rfl)) pa_nil))))) (pss_one (ps_ret pe_bl)) pss_nil)))
            (pss_one (ps_ret pe_bl))), ?_⟩
          intro p q xs ys ds' e1 e2 h hA hB
          rcases h with ⟨_, _, e⟩ | ⟨hX, hY, e⟩
          · cases e
          · have ed := PyData.tuple.inj e
            subst ed e1 e2
            have l1 := dpAll_len hA
            have l2 := dpAll_len hB
            walk_at "rd"
            refine r_lenT hX ?_
            walk_at "rd"
            refine r_lenT hY ?_
            refine r_ne rfl ?_
            walk_at "rd"
            refine ite_no (fun _ => ?_) (fun h => absurd (by rw [l1, l2]) h)
            walk_at "rd"
            refine r_lenT hY ?_
            walk_at "rd"
            refine ⟨_, rfl, by omega, by omega, for_range (lo := 0) (n := _) (fun i σ H' => H' = H ∧ ∃ v : Option V, σ = [some (.ref p), some (.ref q), v]) ⟨rfl, none, rfl⟩ ?_ ?_⟩
            · rintro i σ H' hi ⟨rfl, v, rfl⟩
              have hi' : i < ys.length := by omega
              obtain ⟨dx, hdx, hdX⟩ := dpAll_at (i := i) hA (List.getElem?_eq_getElem (by omega))
              obtain ⟨dy, hdy, hdY⟩ := dpAll_at (i := i) hB (List.getElem?_eq_getElem hi')
              have ee : dx = dy := Option.some.inj (hdx.symm.trans hdy)
              subst ee
              have e0 : (0 : Int) + (i : Int) = (i : Int) := Int.zero_add _
              walk_at "rd"
              rw [e0]
              refine r_ixT hX (atI_nat (List.getElem?_eq_getElem (by omega))) ?_
              walk_at "rd"
              refine r_ixT hY (atI_nat (List.getElem?_eq_getElem hi')) ?_
              walk_at "rd"
              refine ⟨_, _, dx, rfl, hdX, hdY, hds _ (List.mem_of_getElem? hdx), ?_⟩
              walk_at "rd"
              exact ⟨rfl, _, rfl⟩
            · rintro σ H' ⟨rfl, v, rfl⟩
              walk_at "rd"
              exact k
      refine ⟨_, pss_cons (ps_if (pt_cmpR op_is0 (pv 1) pe_non (nomark _)) (pss_one (ps_ret (pe_cmpR op_is0 (pv 0) pe_non (nomark _)))) pss_nil)
        (pss_cons (ps_if (pt_val (pe_callB call_isi (by rfl) T.isinstance (by decide +kernel) (pa_cons (pv 1) (pa_cons (pe_bltn (v := .ty "bool") (by rfl) T.bool (by decide +kernel) rfl) pa_nil))))
          (pss_one (ps_ret (pe_and (pe_callB call_isi (by rfl) T.isinstance (by decide +kernel) (pa_cons (pv 0) (pa_cons (pe_bltn (v := .ty "bool") (by rfl) T.bool (by decide +kernel) rfl) pa_nil))) (pe_one (pe_cmpR op_eq (pv 0) (pv 1) (nomark _)))))) pss_nil)
        (pss_cons (ps_if (pt_val (pe_callB call_isi (by rfl) T.isinstance (by decide +kernel) (pa_cons (pv 1) (pa_cons (pe_bltn (v := .ty "int") (by rfl) T.int (by decide +kernel) rfl) pa_nil))))
          (pss_one (ps_ret (pe_and (pe_callB call_isi (by rfl) T.isinstance (by decide +kernel) (pa_cons (pv 0) (pa_cons (pe_bltn (v := .ty "int") (by rfl) T.int (by decide +kernel) rfl) pa_nil))) (pe_and (pe_not (pe_callB call_isi (by rfl) T.isinstance (by decide +kernel) (pa_cons (pv 0) (pa_cons (pe_bltn (v := .ty "bool") (by rfl) T.bool (by decide +kernel) rfl) pa_nil)))) (pe_one (pe_cmpR op_eq (pv 0) (pv 1) (nomark _))))))) pss_nil)
        (pss_cons (ps_if (pt_val (pe_callB call_isi (by rfl) T.isinstance (by decide +kernel) (pa_cons (pv 1) (pa_cons (pe_bltn (v := .ty "str") (by rfl) T.str (by decide +kernel) rfl) pa_nil))))
          (pss_one (ps_ret (pe_and (pe_callB call_isi (by rfl) T.isinstance (by decide +kernel) (pa_cons (pv 0) (pa_cons (pe_bltn (v := .ty "str") (by rfl) T.str (by decide +kernel) rfl) pa_nil))) (pe_one (pe_cmpR op_eq (pv 0) (pv 1) (nomark _)))))) pss_nil)
        (pss_cons (ps_if (pt_val (pe_callB call_isi (by rfl) T.isinstance (by decide +kernel) (pa_cons (pv 1) (pa_cons (pe_bltn (v := .ty "list") (by rfl) T.list (by decide +kernel) rfl) pa_nil))))
          (pss_one (ps_if (pt_not (pt_val (pe_callB call_isi (by rfl) T.isinstance (by decide +kernel) (pa_cons (pv 0) (pa_cons (pe_bltn (v := .ty "list") (by rfl) T.list (by decide +kernel) rfl) pa_nil))))) (pss_one (ps_ret pe_bl)) pss_nil))
          (pss_one (ps_if (pt_not (pt_val (pe_callB call_isi (by rfl) T.isinstance (by decide +kernel) (pa_cons (pv 0) (pa_cons (pe_bltn (v := .ty "tuple") (by rfl) T.tuple (by decide +kernel) rfl) pa_nil))))) (pss_one (ps_ret pe_bl)) pss_nil)))
        hu)))), ?_⟩
      cases hd with
      | non =>
        cases hx; cases hy
        walk_at "rd"
        refine ite_dec (fun _ => ?_) (fun h => absurd rfl h)
        walk_at "rd"
        exact k
      | bl b =>
        cases hx; cases hy
        walk_at "rd"
        refine ite_dec (fun h => by cases h) (fun _ => ?_)
        walk_at "rd"
        refine r_isi (.base (.bl b)) (by decide +kernel : kitB "bool" "bool" = some true) ?_
        walk_at "rd"
        refine r_isi (.base (.bl b)) (by decide +kernel : kitB "bool" "bool" = some true) ?_
        walk_at "rd"
        exact r_eqT (by rfl) k
      | int i =>
        cases hx; cases hy
        walk_at "rd"
        refine ite_dec (fun h => by cases h) (fun _ => ?_)
        walk_at "rd"
        refine r_isi (.base (.int i)) (by decide +kernel : kitB "int" "bool" = some false) ?_
        walk_at "rd"
        refine r_isi (.base (.int i)) (by decide +kernel : kitB "int" "int" = some true) ?_
        walk_at "rd"
        refine r_isi (.base (.int i)) (by decide +kernel : kitB "int" "int" = some true) ?_
        walk_at "rd"
        refine r_isi (.base (.int i)) (by decide +kernel : kitB "int" "bool" = some false) ?_
        walk_at "rd"
        exact r_eqT (by rfl) k
      | str z =>
        cases hx; cases hy
        walk_at "rd"
        refine ite_dec (fun h => by cases h) (fun _ => ?_)
        walk_at "rd"
        refine r_isi (.base (.str z)) (by decide +kernel : kitB "str" "bool" = some false) ?_
        walk_at "rd"
        refine r_isi (.base (.str z)) (by decide +kernel : kitB "str" "int" = some false) ?_
        walk_at "rd"
        refine r_isi (.base (.str z)) (by decide +kernel : kitB "str" "str" = some true) ?_
        walk_at "rd"
        refine r_isi (.base (.str z)) (by decide +kernel : kitB "str" "str" = some true) ?_
        walk_at "rd"
        exact r_eqT (by rfl) k
      | @lst n ds hds hz =>
        have tx : TyX K H x (.type "list") := Dp.kind hx
        have ty : TyX K H y (.type "list") := Dp.kind hy
        cases hx with
        | @lst p xs _ hX hA =>
          cases hy with
          | @lst q ys _ hY hB =>
            walk_at "rd"
            refine ite_dec (fun h => by cases h) (fun _ => ?_)
            walk_at "rd"
            refine r_isi ty (by decide +kernel : kitB "list" "bool" = some false) ?_
            walk_at "rd"
            refine r_isi ty (by decide +kernel : kitB "list" "int" = some false) ?_
            walk_at "rd"
            refine r_isi ty (by decide +kernel : kitB "list" "str" = some false) ?_
            walk_at "rd"
            refine r_isi ty (by decide +kernel : kitB "list" "list" = some true) ?_
            walk_at "rd"
            refine r_isi tx (by decide +kernel : kitB "list" "list" = some true) ?_
            walk_at "rd"
            exact ru p q xs ys ds rfl rfl (.inl ⟨hX, hY, rfl⟩) hA hB
      | @tup n ds hds hz =>
        have tx : TyX K H x (.type "tuple") := Dp.kind hx
        have ty : TyX K H y (.type "tuple") := Dp.kind hy
        cases hx with
        | @tup p xs _ hX hA =>
          cases hy with
          | @tup q ys _ hY hB =>
            walk_at "rd"
            refine ite_dec (fun h => by cases h) (fun _ => ?_)
            walk_at "rd"
            refine r_isi ty (by decide +kernel : kitB "tuple" "bool" = some false) ?_
            walk_at "rd"
            refine r_isi ty (by decide +kernel : kitB "tuple" "int" = some false) ?_
            walk_at "rd"
            refine r_isi ty (by decide +kernel : kitB "tuple" "str" = some false) ?_
            walk_at "rd"
            refine r_isi ty (by decide +kernel : kitB "tuple" "list" = some false) ?_
            walk_at "rd"
            refine r_isi tx (by decide +kernel : kitB "tuple" "tuple" = some true) ?_
            walk_at "rd"
            exact ru p q xs ys ds rfl rfl (.inr ⟨hX, hY, rfl⟩) hA hB
end
abbrev sCopy : Stmt := top 2
section
variable {P : Program} {w : World} {K : PySem.W.Frag} {mg : Str → Option Value} {base : Heap}
/-- the copies made so far stand in the list at D -/
def Copied (H : Hp) (D : Addr) (ds : List PyData) (i : Nat) (H' : Hp) : Prop :=
  ∃ ys, H' D = some (.lst ys) ∧ ys.length = i ∧ Same H H' ∧ ∀ (j : Nat) (v : V) (d : PyData), ys[j]? = some v → ds[j]? = some d → Own (upd H D (.lst [])) H' v d
theorem Copied.start {H : Hp} {D : Addr} {ds : List PyData} (hD : H D = none) : Copied H D ds 0 (upd H D (.lst [])) :=
  ⟨[], upd_same, rfl, fun b o e => by rw [upd_ne (ne_of_none e hD)]; exact e, fun j v d e => by simp at e⟩
theorem Copied.more {H H1 H2 : Hp} {D : Addr} {ds : List PyData} {i : Nat} {v : V} {d : PyData} (hD : H D = none) (c : Copied H D ds i H1) (s : Same H1 H2) (o : Own H1 H2 v d) (hd : ds[i]? = some d) :
    ∃ acc, H2 D = some (.lst acc) ∧ acc.length = i ∧ Copied H D ds (i + 1) (upd H2 D (.lst (acc ++ [v]))) := by
  obtain ⟨ys, h1, h2, h3, h4⟩ := c
  have nD : ∀ {a : Addr}, upd H D (.lst []) a = none → a ≠ D := fun {a} n z => by rw [z, upd_same] at n; cases n
  refine ⟨ys, s _ _ h1, h2, ys ++ [v], upd_same, by rw [List.length_append, h2]; rfl, fun b o e => ?_, fun j u e e1 e2 => ?_⟩
  · have n : b ≠ D := ne_of_none e hD
    rw [upd_ne n]
    exact s _ _ (h3 _ _ e)
  · by_cases hj : j < ys.length
    · rw [List.getElem?_append_left hj] at e1
      exact ((h4 j u e e1 e2).later s).mono (fun a n _ => n) fun a z n q _ => by rw [upd_ne (nD n)]; exact q
    · have ej : j = i := by
        have z := (List.getElem?_eq_some_iff.mp e1).1
        rw [List.length_append, List.length_singleton] at z
        omega
      subst ej
      rw [List.getElem?_append_right (by omega), h2, Nat.sub_self] at e1
      have eu : v = u := Option.some.inj e1
      have ee : d = e := Option.some.inj (hd.symm.trans e2)
      subst eu ee
      refine o.mono (fun a n _ => ?_) fun a z n q _ => ?_
      · have na : a ≠ D := fun z => by rw [z, h1] at n; cases n
        rw [upd_ne na]
        exact h3.free n
      · have na : a ≠ D := fun z => by rw [z, h1] at n; cases n
        rw [upd_ne na]
        exact q
theorem Copied.done {H H' : Hp} {D : Addr} {ds : List PyData} (hD : H D = none) (c : Copied H D ds ds.length H') : ∃ ys, H' D = some (.lst ys) ∧ ys.length = ds.length ∧ Same H H' ∧ ∀ (j : Nat) (v : V) (d : PyData), ys[j]? = some v → ds[j]? = some d → Own H H' v d := by
  obtain ⟨ys, h1, h2, h3, h4⟩ := c
  refine ⟨ys, h1, h2, h3, fun j v d e1 e2 => (h4 j v d e1 e2).mono (fun a n _ => ?_) fun a u _ q _ => q⟩
  have na : a ≠ D := fun z => by rw [z, upd_same] at n; cases n
  rw [upd_ne na] at n
  exact n

theorem scCopy : FnScope ["value", "entry"] ["value"] (defScope sCopy) := ⟨rfl, rfl, rfl, by decide +kernel, rfl, by decide +kernel, by decide +kernel⟩
theorem ok_copy {f : Addr} {fd : FuncData} (F : Fun K "own_copy" "own_copy" sCopy f fd) (T : Bt mg) (me : mg "own_copy" = some (.ref f)) : ∀ n : Nat, FnOk P w K mg base CX0 (n + 1) f fd ["value"] (spCopy K n)
  | 0 => by
    refine F.ok scCopy (fun vs H Q E h => ?_) (fun cdv A outer s H vs Q E hr h => ?_)
    · obtain ⟨v, d, rfl, _⟩ := h
      rfl
    · obtain ⟨v, d, rfl, hv, hd, k⟩ := h
      refine ⟨_, pss_cons (ps_if (pt_val (pe_callB call_isi (by rfl) T.isinstance (by decide +kernel) (pa_cons (pv 0) (pa_cons (pe_bltn (v := .ty "list") (by rfl) T.list (by decide +kernel) rfl) pa_nil)))) pss_never pss_nil)
        (pss_cons (ps_if (pt_val (pe_callB call_isi (by rfl) T.isinstance (by decide +kernel) (pa_cons (pv 0) (pa_cons (pe_bltn (v := .ty "tuple") (by rfl) T.tuple (by decide +kernel) rfl) pa_nil)))) pss_never pss_nil)
        (pss_cons (ps_if (pt_val (pe_callB call_isi (by rfl) T.isinstance (by decide +kernel) (pa_cons (pv 0) (pa_cons (pe_bltn (v := .ty "dict") (by rfl) T.dict (by decide +kernel) rfl) pa_nil)))) pss_never pss_nil)
        (pss_one (ps_ret (pv 0))))), ?_⟩
      obtain ⟨r1, e1, f1⟩ := kit_list d
      obtain ⟨r2, e2, f2⟩ := kit_tuple d
      have n1 : r1 = false := by
        cases r1 with
        | false => rfl
        | true => obtain ⟨ds, rfl⟩ := f1.mp rfl; cases hd
      have n2 : r2 = false := by
        cases r2 with
        | false => rfl
        | true => obtain ⟨ds, rfl⟩ := f2.mp rfl; cases hd
      subst n1 n2
      walk_at "rd"
      refine r_isi (Dp.kind hv) e1 ?_
      walk_at "rd"
      refine r_isi (Dp.kind hv) e2 ?_
      walk_at "rd"
      refine r_isi (Dp.kind hv) (kit_dict hd) ?_
      walk_at "rd"
      refine k v H (Same.refl H) ?_
      cases hd with
      | non => cases hv; exact .non
      | bl b => cases hv; exact .bl b
      | int i => cases hv; exact .int i
      | str z => cases hv; exact .str z
  | n + 1 => by
    have G := ok_copy F T me n
    have b : Binds K fd ["value"] [] := F.binds fun _ _ _ _ _ _ us hl => match us, hl with | [_], _ => rfl
    refine F.ok scCopy (fun vs H Q E h => ?_) (fun cdv A outer s H vs Q E hr h => ?_)
    · obtain ⟨v, d, rfl, _⟩ := h
      rfl
    · obtain ⟨v, d, rfl, hv, hd, k⟩ := h
      refine ⟨_, pss_cons (ps_if (pt_val (pe_callB call_isi (by rfl) T.isinstance (by decide +kernel) (pa_cons (pv 0) (pa_cons (pe_bltn (v := .ty "list") (by rfl) T.list (by decide +kernel) rfl) pa_nil))))
          (pss_one (ps_ret (pe_lc (own := [("entry", 1)]) (g := gName 1) rfl scCopy.nd (pi_list (pv 0)) (blkOk_by (own := [("entry", 1)]) (N := ["value", "entry"]) (sc := defScope sCopy) (by decide +kernel)) (fun _ _ _ _ _ => pg_name (i := 1) scCopy.nd rfl (Or.inl rfl)) (fun _ _ _ _ _ => pts_nil)
            (fun _ _ _ _ _ => pe_call G hr rfl me F.kp b .nil pass0 (pa_cons (pv 1) pa_nil))))) pss_nil)
        (pss_cons (ps_if (pt_val (pe_callB call_isi (by rfl) T.isinstance (by decide +kernel) (pa_cons (pv 0) (pa_cons (pe_bltn (v := .ty "tuple") (by rfl) T.tuple (by decide +kernel) rfl) pa_nil))))
          (pss_one (ps_ret (pe_callTy cl_tup (by rfl) T.tuple (by decide +kernel) (pa_cons (pe_lc (own := [("entry", 1)]) (g := gName 1) rfl scCopy.nd (pi_tup (pv 0)) (blkOk_by (own := [("entry", 1)]) (N := ["value", "entry"]) (sc := defScope sCopy) (by decide +kernel)) (fun _ _ _ _ _ => pg_name (i := 1) scCopy.nd rfl (Or.inl rfl)) (fun _ _ _ _ _ => pts_nil)
            (fun _ _ _ _ _ => pe_call G hr rfl me F.kp b .nil pass0 (pa_cons (pv 1) pa_nil))) pa_nil)))) pss_nil)
        (pss_cons (ps_if (pt_val (pe_callB call_isi (by rfl) T.isinstance (by decide +kernel) (pa_cons (pv 0) (pa_cons (pe_bltn (v := .ty "dict") (by rfl) T.dict (by decide +kernel) rfl) pa_nil)))) pss_never pss_nil)
        (pss_one (ps_ret (pv 0))))), ?_⟩
      obtain ⟨r1, e1, f1⟩ := kit_list d
      obtain ⟨r2, e2, f2⟩ := kit_tuple d
      walk_at "rd"
      refine r_isi (Dp.kind hv) e1 ?_
      walk_at "rd"
      cases r1 with
      | true =>
        obtain ⟨ds, rfl⟩ := f1.mp rfl
        cases hd with
        | lst hds hz =>
          cases hv with
          | @lst a xs _ hS hA =>
            have ln := dpAll_len hA
            walk_at "rd"
            refine ⟨a, rfl, ⟨_, hS⟩, fun D hD => lc_list (K := K) (a := a) (xs := xs) (Copied H D ds) (Copied.start hD) (fun i H' _ c => c.choose_spec.2.2.1.seq hS) (fun i x H' hi c => ?_) (fun H' c => ?_)⟩
            · obtain ⟨d, hd, hx⟩ := dpAll_at hA hi
              have s1 : Same H H' := c.choose_spec.2.2.1
              walk_at "rd"
              refine ⟨rfl, ?_⟩
              walk_at "rd"
              refine ⟨x, d, rfl, Dp.later s1 hx, hds d (List.mem_of_getElem? hd), fun v' H2 s2 o => ?_⟩
              obtain ⟨acc, h1, h2, h3⟩ := c.more hD s2 o hd
              refine ⟨acc, h1, Nat.lt_of_lt_of_le ?_ (show 1001 ≤ sizeLine by decide), h3⟩
              have := (List.getElem?_eq_some_iff.mp hd).1
              omega
            · rw [ln] at c
              obtain ⟨ys, h1, h2, h3, h4⟩ := Copied.done hD c
              exact k _ _ h3 (.lst hD h1 h2 h4)
      | false =>
        walk_at "rd"
        refine r_isi (Dp.kind hv) e2 ?_
        walk_at "rd"
        cases r2 with
        | true =>
          obtain ⟨ds, rfl⟩ := f2.mp rfl
          cases hd with
          | tup hds hz =>
            cases hv with
            | @tup a xs _ hS hA =>
              have ln := dpAll_len hA
              walk_at "rd"
              refine ⟨a, rfl, ⟨_, hS⟩, fun D hD => lc_tup (K := K) (a := a) (xs := xs) (Copied H D ds) (Copied.start hD) (fun i H' _ c => ?_) (fun i x H' hi c => ?_) (fun H' c => ?_)⟩
              · have s1 : Same H H' := c.choose_spec.2.2.1
                rcases hS with (h | ⟨o, h⟩) | h
                · exact .inl (.inl (s1 _ _ h))
                · exact .inl (.inr ⟨o, s1 _ _ h⟩)
                · exact .inr h
              · obtain ⟨d, hd, hx⟩ := dpAll_at hA hi
                have s1 : Same H H' := c.choose_spec.2.2.1
                walk_at "rd"
                refine ⟨rfl, ?_⟩
                walk_at "rd"
                refine ⟨x, d, rfl, Dp.later s1 hx, hds d (List.mem_of_getElem? hd), fun v' H2 s2 o => ?_⟩
                obtain ⟨acc, h1, h2, h3⟩ := c.more hD s2 o hd
                refine ⟨acc, h1, Nat.lt_of_lt_of_le ?_ (show 1001 ≤ sizeLine by decide), h3⟩
                have := (List.getElem?_eq_some_iff.mp hd).1
                omega
              · rw [ln] at c
                obtain ⟨ys, h1, h2, h3, h4⟩ := Copied.done hD c
                walk_at "rd"
                refine r_tupOf (SqL.of h1) fun q hq => ?_
                have s2 : Same H (upd H' q (.tup ys)) := Same.up h3 hq
                exact k _ _ s2 (.tup (h3.free hq) upd_same h2 fun j v d e1 e2 => (h4 j v d e1 e2).later (Same.up (Same.refl H') hq))
        | false =>
          walk_at "rd"
          refine r_isi (Dp.kind hv) (kit_dict hd) ?_
          walk_at "rd"
          refine k v H (Same.refl H) ?_
          cases hd with
          | non => cases hv; exact .non
          | bl b => cases hv; exact .bl b
          | int i => cases hv; exact .int i
          | str z => cases hv; exact .str z
          | lst h z => exact absurd (f1.mpr ⟨_, rfl⟩) Bool.false_ne_true
          | tup h z => exact absurd (f2.mpr ⟨_, rfl⟩) Bool.false_ne_true
end
end Pk
set_option Elab.async false
set_option linter.all false
set_option maxRecDepth 100000
set_option maxHeartbeats 4000000
namespace Pk
open PySem L2
local macro_rules | `(tactic| walk_at "rd") => `(tactic| repeat (first
  | with_reducible refine r_seq ?_ | with_reducible refine r_nxt ?_ | with_reducible refine r_asg ?_ | with_reducible refine r_to ?_ | with_reducible refine r_ret ?_ | with_reducible refine r_for ?_ | with_reducible refine r_lc ?_ | with_reducible refine r_lc2 ?_ | with_reducible refine r_rng1 ?_ | with_reducible refine r_list ?_ | with_reducible refine r_tupI ?_ | with_reducible refine r_drop ?_ | with_reducible refine r_ifs ?_
  | with_reducible refine r_op ?_ | with_reducible refine r_c ?_ | with_reducible refine r_var rfl ?_ | with_reducible refine r_var (by assumption) ?_ | with_reducible refine r_I0 ?_ | with_reducible refine r_un ?_ | with_reducible refine r_U ?_ | with_reducible refine r_make ?_ | with_reducible refine r_makeS ?_ | with_reducible refine r_ifE ?_ | with_reducible refine r_cm ?_ | with_reducible refine r_mkV rfl ?_ | with_reducible refine r_sub ?_
  | with_reducible refine r_nil ?_ | with_reducible refine r_cons ?_ | with_reducible refine r_cb ?_ | with_reducible refine r_sl ?_ | with_reducible refine r_noP ?_ | with_reducible refine r_part ?_ | with_reducible refine r_isI ?_ | with_reducible refine r_lst ?_ | with_reducible refine r_tup ?_ | with_reducible refine r_call ?_ | with_reducible refine r_callS ?_ | with_reducible refine r_sFldU ?_ | with_reducible refine r_chain ?_ | with_reducible refine r_enum ?_ | with_reducible refine r_zip ?_ | with_reducible refine r_rng3 ?_ | with_reducible refine r_gtup ?_ | with_reducible refine r_methU ?_
  | with_reducible refine r_test ?_ | with_reducible refine r_B ?_ | with_reducible refine r_and ?_ | with_reducible refine r_or ?_ | with_reducible refine r_not ?_ | with_reducible refine r_andV ?_ | with_reducible refine r_orV ?_ | with_reducible refine r_notV ?_ | with_reducible refine r_bl ?_ | with_reducible refine r_yes ?_ | with_reducible refine r_int ?_ | with_reducible refine r_is0 ?_ | with_reducible refine r_is1 ?_ | with_reducible refine iteT ?_ | with_reducible refine iteF ?_ | with_reducible refine ite_nF ?_ | with_reducible refine ite_nT ?_
  | with_reducible refine r_mod (by decide) ?_ | with_reducible refine r_div (by decide) (by decide) ?_ | with_reducible refine r_mulR (by decide) (by decide) ?_ | with_reducible refine r_mulL (by decide) (by decide) ?_ | with_reducible refine r_pow (by decide) (by decide) (by decide) ?_))
/-! ### is_integer, is_between, is_two -/
theorem one_fst {f : Str} {v : V} : List.lookup f [(f, v)] = some v := by simp [List.lookup]
theorem one_no {m f : Str} {v : V} (h : (m == f) = false) : List.lookup m [(f, v)] = none := by simp [List.lookup, h]
theorem cut_take {vs : List V} {i : Nat} (h : i ≤ vs.length) : cutV vs none (some (i : Int)) = vs.take i := by
  have e : min (i : Int).toNat vs.length = i := by simp; omega
  have n : ¬ (i : Int) < 0 := by omega
  simp only [cutV, HT.sIx, if_neg n, e, List.drop_zero, Nat.sub_zero]
theorem cut_drop {vs : List V} {i : Nat} (h : i ≤ vs.length) : cutV vs (some (i : Int)) none = vs.drop i := by
  have e : min (i : Int).toNat vs.length = i := by simp; omega
  have n : ¬ (i : Int) < 0 := by omega
  simp only [cutV, HT.sIx, if_neg n, e]
  exact List.take_of_length_le (by rw [List.length_drop]; omega)
theorem two_eq {x y : PyData} (h : isID x = true) : twoD (.tuple [x, y]) = isID y := by
  cases x <;> cases h
  cases y <;> rfl
theorem two_noD {x y : PyData} (h : isID x = false) : twoD (.tuple [x, y]) = false := by
  cases x <;> first | rfl | cases h
theorem len2 {ds : List PyData} (h : ds.length = 2) : ∃ d1 d2, ds = [d1, d2] := by
  match ds, h with
  | [a, b], _ => exact ⟨a, b, rfl⟩
theorem all2 {K : PySem.W.Frag} {H : Hp} {vs : List V} {x y : PyData} (h : DpAll K H vs [x, y]) : ∃ v u, vs = [v, u] ∧ Dp K H v x ∧ Dp K H u y := by
  cases h with
  | cons h1 r => cases r with
    | cons h2 r2 => cases r2; exact ⟨_, _, rfl, h1, h2⟩
def betD (lo hi : Int) : PyData → Bool
  | .int i => decide (lo ≤ i) && decide (i ≤ hi)
  | _ => false
def spIntD (K : PySem.W.Frag) : Sp := fun vs H Q _ => ∃ (v : V) (d : PyData), vs = [v] ∧ Dp K H v d ∧ Q (.bl (isID d)) H
def spTwoD (K : PySem.W.Frag) : Sp := fun vs H Q _ => ∃ (v : V) (d : PyData), vs = [v] ∧ Dp K H v d ∧ Q (.bl (twoD d)) H
def spBetD (K : PySem.W.Frag) : Sp := fun vs H Q _ => ∃ (v : V) (d : PyData) (lo hi : Int), vs = [v, .int lo, .int hi] ∧ Dp K H v d ∧ Q (.bl (betD lo hi d)) H
/-- the def within a class's text -/
def inCls (i j : Nat) : Stmt := match top i with
  | .ClassDef (body := b) .. => b.getD j (.Pass ⟨0, 0, 0, 0⟩)
  | _ => .Pass ⟨0, 0, 0, 0⟩
abbrev slIsInt : Stmt := top 10
abbrev slTwo : Stmt := top 12
section
variable {P : Program} {w : World} {K : PySem.W.Frag} {mg : Str → Option Value} {base : Heap} {C CE f : Addr} {fd : FuncData}
theorem sclIsInt : FnScope ["value"] ["value"] (defScope slIsInt) := ⟨rfl, rfl, rfl, by decide +kernel, rfl, by decide +kernel, by decide +kernel⟩
theorem ok_isInt (F : Fun K "is_integer" "is_integer" slIsInt f fd) (T : Bt mg) : FnOk P w K mg base CX0 1 f fd ["value"] (spIntD K) := by
  refine F.ok sclIsInt (fun vs H Q E h => ?_) (fun cdv A outer s H vs Q E hr h => ?_)
  · obtain ⟨v, d, rfl, _⟩ := h
    rfl
  · obtain ⟨v, d, rfl, hd, k⟩ := h
    refine ⟨_, (pss_one (ps_ret (pe_and (pe_callB call_isi (by rfl) T.isinstance (by decide +kernel) (pa_cons (pv 0) (pa_cons (pe_bltn (v := .ty "int") (by rfl) T.int (by decide +kernel) rfl) pa_nil))) (pe_one (pe_not (pe_callB call_isi (by rfl) T.isinstance (by decide +kernel) (pa_cons (pv 0) (pa_cons (pe_bltn (v := .ty "bool") (by rfl) T.bool (by decide +kernel) rfl) pa_nil)))))))), ?_⟩
    walk_at "rd"
    refine r_isDI hd ?_
    walk_at "rd"
    by_cases e : isIB d = true
    · refine ifT e ?_
      walk_at "rd"
      refine r_isDB hd ?_
      walk_at "rd"
      rw [show isID d = !isBD d from by cases d <;> first | rfl | cases e] at k
      exact k
    · refine ifF (Bool.eq_false_iff.mpr e) ?_
      rw [show isID d = false from by cases d <;> first | exact absurd rfl e | rfl] at k
      exact k
theorem sclTwo : FnScope ["value"] ["value"] (defScope slTwo) := ⟨rfl, rfl, rfl, by decide +kernel, rfl, by decide +kernel, by decide +kernel⟩
theorem ok_two (F : Fun K "is_two" "is_two" slTwo f fd) (T : Bt mg) (DI : Df P w K mg base CX0 "is_integer" 1 ["value"] (spIntD K)) : FnOk P w K mg base CX0 2 f fd ["value"] (spTwoD K) := by
  refine F.ok sclTwo (fun vs H Q E h => ?_) (fun cdv A outer s H vs Q E hr h => ?_)
  · obtain ⟨v, d, rfl, _⟩ := h
    rfl
  · obtain ⟨v, d, rfl, hd, k⟩ := h
    refine ⟨_, (pss_one (ps_ret (pe_and (pe_callB call_isi (by rfl) T.isinstance (by decide +kernel) (pa_cons (pv 0) (pa_cons (pe_bltn (v := .ty "tuple") (by rfl) T.tuple (by decide +kernel) rfl) pa_nil))) (pe_and (pe_cmpR op_eq (pe_callB cl_len (by rfl) T.len PySem.boot_len (pa_cons (pv 0) pa_nil)) pe_int (nomark _)) (pe_and (pe_df DI hr (by decide) (pa_cons (pe_ix ix_tup (pv 0) pe_int (fun _ _ => rfl)) pa_nil)) (pe_one (pe_df DI hr (by decide) (pa_cons (pe_ix ix_tup (pv 0) pe_int (fun _ _ => rfl)) pa_nil)))))))), ?_⟩
    walk_at "rd"
    refine r_isDT hd ?_
    walk_at "rd"
    by_cases e : isTD d = true
    · refine ifT e ?_
      obtain ⟨ds, rfl⟩ : ∃ ds, d = .tuple ds := by cases d <;> first | exact ⟨_, rfl⟩ | cases e
      obtain ⟨t, vs, rfl, ht, hv⟩ := Dp.tupAt hd
      have vl := DpAll.len hv
      walk_at "rd"
      refine r_lenT ht ?_
      walk_at "rd"
      refine r_eq rfl ?_
      walk_at "rd"
      rw [show decide (V.int (vs.length : Int) = V.int 2) = decide (ds.length = 2) from decide_eq_decide.mpr ⟨fun h => by have := V.int.inj h; omega, fun h => by rw [vl, h]; rfl⟩]
      by_cases e2 : ds.length = 2
      · refine ifT (decide_eq_true e2) ?_
        obtain ⟨d1, d2, rfl⟩ : ∃ d1 d2, ds = [d1, d2] := len2 e2
        obtain ⟨v1, v2, rfl, h1, h2⟩ := all2 hv
        walk_at "rd"
        refine r_ixT ht (atI_nat (j := 0) rfl) ?_
        walk_at "rd"
        refine ⟨_, d1, rfl, h1, ?_⟩
        walk_at "rd"
        by_cases e3 : isID d1 = true
        · refine ifT e3 ?_
          walk_at "rd"
          refine r_ixT ht (atI_nat (j := 1) rfl) ?_
          walk_at "rd"
          refine ⟨_, d2, rfl, h2, ?_⟩
          rw [two_eq e3] at k
          exact k
        · refine ifF (Bool.eq_false_iff.mpr e3) ?_
          rw [two_noD (Bool.eq_false_iff.mpr e3)] at k
          exact k
      · refine ifF (decide_eq_false e2) ?_
        have : twoD (.tuple ds) = false := by
          cases q : twoD (.tuple ds) with
          | false => rfl
          | true =>
            obtain ⟨a, b, z⟩ := twoD_inv q
            cases z
            exact absurd rfl e2
        rw [this] at k
        exact k
    · refine ifF (Bool.eq_false_iff.mpr e) ?_
      rw [show twoD d = false from by cases d <;> first | exact absurd rfl e | rfl] at k
      exact k
theorem Dp.intV {H : Hp} {v : V} {i : Int} (h : Dp K H v (.int i)) : v = .int i := by
  cases h
  rfl
end
abbrev slBet : Stmt := top 11
section
variable {P : Program} {w : World} {K : PySem.W.Frag} {mg : Str → Option Value} {base : Heap} {C CE f : Addr} {fd : FuncData}
theorem sclBet : FnScope ["value", "low", "high"] ["value", "low", "high"] (defScope slBet) := ⟨rfl, rfl, rfl, by decide +kernel, rfl, by decide +kernel, by decide +kernel⟩
theorem ok_bet (F : Fun K "is_between" "is_between" slBet f fd) (DI : Df P w K mg base CX0 "is_integer" 1 ["value"] (spIntD K)) : FnOk P w K mg base CX0 2 f fd ["value", "low", "high"] (spBetD K) := by
  refine F.ok sclBet (fun vs H Q E h => ?_) (fun cdv A outer s H vs Q E hr h => ?_)
  · obtain ⟨v, d, lo, hi, rfl, _⟩ := h
    rfl
  · obtain ⟨v, d, lo, hi, rfl, hd, k⟩ := h
    refine ⟨_, (pss_one (ps_ret (pe_and (pe_df DI hr (by decide) (pa_cons (pv 0) pa_nil)) (pe_one (pe_chain op_le op_le (pv 1) (pv 0) (pv 2)))))), ?_⟩
    walk_at "rd"
    refine ⟨v, d, rfl, hd, ?_⟩
    walk_at "rd"
    by_cases e : isID d = true
    · refine ifT e ?_
      obtain ⟨i, rfl⟩ : ∃ i, d = .int i := by
        cases d with
        | int i => exact ⟨i, rfl⟩
        | _ => cases e
      obtain rfl := Dp.intV hd
      walk_at "rd"
      by_cases c : lo ≤ i
      · refine ifT (decide_eq_true c) ?_
        rw [betD, decide_eq_true c, Bool.true_and] at k
        walk_at "rd"
        exact k
      · refine ifF (decide_eq_false c) ?_
        rw [betD, decide_eq_false c, Bool.false_and] at k
        exact k
    · refine ifF (Bool.eq_false_iff.mpr e) ?_
      rw [show betD lo hi d = false from by cases d <;> first | rfl | exact absurd rfl e] at k
      exact k
end
/-! ### a table is made -/
theorem pV_of {K : PySem.W.Frag} {H : Hp} {v : V} {z : Option Int} (h : Dp K H v (pD z)) : v = pV z := by
  cases z with
  | none => cases h; rfl
  | some i => cases h; rfl
theorem pVs_of {K : PySem.W.Frag} {H : Hp} : ∀ {vs : List V} {r : List (Option Int)}, DpAll K H vs (r.map pD) → vs = r.map pV
  | [], [], _ => rfl
  | _ :: _, [], h => by cases h
  | [], _ :: _, h => by cases h
  | v :: vs, z :: r, h => by
    cases h with
    | cons h1 h2 => rw [pV_of h1, pVs_of h2]; rfl
def isND : PyData → Bool
  | .none => true
  | _ => false
theorem non_iff {K : PySem.W.Frag} {H : Hp} {v : V} {d : PyData} (h : Dp K H v d) : decide (v = .non) = isND d := by
  cases h <;> rfl
def spPrice (K : PySem.W.Frag) : Sp := fun vs H Q _ => ∃ (v : V) (d : PyData), vs = [v] ∧ Dp K H v d ∧ Q (.bl (priceD d)) H
def spRow (K : PySem.W.Frag) : Sp := fun vs H Q _ => ∃ (v u : V) (d e : PyData), vs = [v, u] ∧ Dp K H v d ∧ Dp K H u e ∧ (isLD d = true → isLD e = true) ∧ ∀ H' : Hp, Same H H' → Q (.bl (rowOk d e)) H'
def spChkR (K : PySem.W.Frag) (CE : Addr) : Sp := fun vs H Q E => ∃ (v : V) (d : PyData), vs = [v] ∧ Dp K H v d ∧ (badT d = none → ∀ H' : Hp, Same H H' → Q .non H') ∧
  (∀ k, badT d = some k → ∀ (dd : Addr) (H' : Hp), Same H H' → H dd = none → H' dd = some (.xd [("at", .int k)]) → E (.ref CE) (some dd) H')
/-- Table.__init__ -/
def spTbI (K : PySem.W.Frag) (C CE : Addr) : Sp := fun vs H Q E => ∃ (x dx : Addr) (v : V) (d : PyData), vs = [.ref x, v] ∧ H x = some (.ins C dx []) ∧ H dx = some (.own x) ∧ dx ≠ x ∧ Dp K H v d ∧
  (∀ R, d = rowsD R → Gt R → ∀ (H' G : Hp), TbX C G x R → Same G H' → (∀ a o, G a = some o → a = x ∨ H a = none) → (∀ a o, a ≠ x → H a = some o → H' a = some o) → Q .non H') ∧
  (∀ k, badT d = some k → ∀ (dd : Addr) (H' : Hp), Same H H' → H dd = none → H' dd = some (.xd [("at", .int k)]) → E (.ref CE) (some dd) H')
abbrev slPrice : Stmt := top 17
abbrev slRow : Stmt := top 18
abbrev slChkR : Stmt := top 19
abbrev slTbI : Stmt := inCls 23 0
structure TbC (K : PySem.W.Frag) (C : Addr) : Prop where
  O : OwnC K C
  e : NoAttr K C "entries"
  u : NoAttr K C "used"
section
variable {P : Program} {w : World} {K : PySem.W.Frag} {mg : Str → Option Value} {base : Heap} {C CE f : Addr} {fd : FuncData}
theorem sclPrice : FnScope ["value"] ["value"] (defScope slPrice) := ⟨rfl, rfl, rfl, by decide +kernel, rfl, by decide +kernel, by decide +kernel⟩
theorem ok_price (F : Fun K "is_price" "is_price" slPrice f fd) (DI : Df P w K mg base CX0 "is_integer" 1 ["value"] (spIntD K)) : FnOk P w K mg base CX0 2 f fd ["value"] (spPrice K) := by
  refine F.ok sclPrice (fun vs H Q E h => ?_) (fun cdv A outer s H vs Q E hr h => ?_)
  · obtain ⟨v, d, rfl, _⟩ := h
    rfl
  · obtain ⟨v, d, rfl, hd, k⟩ := h
    refine ⟨_, (pss_one (ps_ret (pe_or (pe_cmpR op_is0 (pv 0) pe_non (nomark _)) (pe_one (pe_df DI hr (by decide) (pa_cons (pv 0) pa_nil)))))), ?_⟩
    walk_at "rd"
    rw [non_iff hd]
    by_cases e : isND d = true
    · refine ifT e ?_
      rw [show priceD d = true from by cases d <;> first | rfl | cases e] at k
      exact k
    · refine ifF (Bool.eq_false_iff.mpr e) ?_
      walk_at "rd"
      refine ⟨v, d, rfl, hd, ?_⟩
      rw [show priceD d = isID d from by cases d <;> first | rfl | exact absurd rfl e] at k
      exact k
theorem sclRow : FnScope ["value", "first", "entry"] ["value", "first"] (defScope slRow) := ⟨rfl, rfl, rfl, by decide +kernel, rfl, by decide +kernel, by decide +kernel⟩
theorem ok_row (F : Fun K "is_row" "is_row" slRow f fd) (T : Bt mg) (tall : mg "all" = none) {tk : Tok} (hM : mg "MOST_LINES" = some (.int 8 tk)) (DP : Df P w K mg base CX0 "is_price" 2 ["value"] (spPrice K)) : FnOk P w K mg base CX0 3 f fd ["value", "first"] (spRow K) := by
  refine F.ok sclRow (fun vs H Q E h => ?_) (fun cdv A outer s H vs Q E hr h => ?_)
  · obtain ⟨v, u, d, e, rfl, _⟩ := h
    rfl
  · obtain ⟨v, u, d, e, rfl, hd, he, hl, k⟩ := h
    refine ⟨_, (pss_cons (ps_if (PW.pt (pw_or (pt_not (pt_val (pe_callB call_isi (by rfl) T.isinstance (by decide +kernel) (pa_cons (pv 0) (pa_cons (pe_bltn (v := .ty "list") (by rfl) T.list (by decide +kernel) rfl) pa_nil))))) (pw_or (pt_not (pt_chain op_le op_le pe_int (pe_callB cl_len (by rfl) T.len PySem.boot_len (pa_cons (pv 0) pa_nil)) (pe_glob (v := .int 8) (by rfl) hM ⟨tk, rfl⟩))) (pw_or1 (pt_cmpR op_ne (pe_callB cl_len (by rfl) T.len PySem.boot_len (pa_cons (pv 0) pa_nil)) (pe_callB cl_len (by rfl) T.len PySem.boot_len (pa_cons (pv 1) pa_nil)) (nomark _)))))) (pss_one (ps_ret pe_bl)) pss_nil)
  (pss_one (ps_ret (pe_callB (cr_all rfl) (by rfl) tall (by decide +kernel) (pa_cons (pe_lc (own := [("entry", 2)]) (g := gName 2) rfl sclRow.nd (pi_list (pv 0)) (blkOk_by (own := [("entry", 2)]) (N := ["value", "first", "entry"]) (sc := defScope slRow) (by decide +kernel)) (fun _ _ _ _ _ => pg_name (i := 2) sclRow.nd rfl (Or.inl rfl)) (fun _ _ _ _ _ => pts_nil) (fun _ _ _ _ _ => (pe_df DP hr (by decide) (pa_cons (pv 2) pa_nil)))) pa_nil))))), ?_⟩
    have no : rowOk d e = false → Q (.bl false) H := fun z => by
      have := k H (Same.refl H)
      rw [z] at this
      exact this
    walk_at "rd"
    refine r_isDL hd ?_
    walk_at "rd"
    by_cases c0 : isLD d = true
    · refine ifF (by rw [c0]; rfl) ?_
      obtain ⟨ds, rfl⟩ : ∃ ds, d = .list ds := by
        cases d with
        | list ds => exact ⟨ds, rfl⟩
        | _ => cases c0
      obtain ⟨es, rfl⟩ : ∃ es, e = .list es := by
        have := hl c0
        cases e with
        | list ds => exact ⟨ds, rfl⟩
        | _ => cases this
      obtain ⟨a, vs, rfl, ha, hv⟩ := Dp.lstAt hd
      obtain ⟨b, us, rfl, hb, hu⟩ := Dp.lstAt he
      have vl := DpAll.len hv
      have ul := DpAll.len hu
      walk_at "rd"
      refine r_lenL ha ?_
      walk_at "rd"
      by_cases c1 : 1 ≤ ds.length
      · refine ifT (decide_eq_true (by omega)) ?_
        walk_at "rd"
        by_cases c2 : ds.length ≤ 8
        · refine ifF (by rw [decide_eq_true (by omega)]; rfl) ?_
          walk_at "rd"
          refine r_lenL ha ?_
          walk_at "rd"
          refine r_lenL hb ?_
          walk_at "rd"
          refine r_ne rfl ?_
          walk_at "rd"
          by_cases c3 : ds.length = es.length
          · refine ifF (by rw [decide_eq_true (by rw [vl, ul, c3])]; rfl) ?_
            walk_at "rd"
            refine ⟨a, rfl, ⟨_, ha⟩, fun D nD => lc_it walk_list (Out H D fun i => V.bl (priceD (ds.getD i .none))) (Out.start nD) (fun i H1 _ o => o.1.seq ha) ?_ ?_⟩
            · rintro i y H1 H2 hi o ⟨rfl, e1⟩
              obtain ⟨dy, hdy, py⟩ := DpAll.at hv e1
              walk_at "rd"
              refine ⟨rfl, ?_⟩
              walk_at "rd"
              refine ⟨y, dy, rfl, Dp.later o.1 py, ?_⟩
              have ey : V.bl (priceD dy) = (fun i => V.bl (priceD (ds.getD i .none))) i := by
                show _ = V.bl (priceD (ds.getD i .none))
                rw [List.getD_eq_getElem?_getD, hdy]
                rfl
              rw [ey]
              exact o.more nD (Same.refl _) (Nat.lt_of_lt_of_le (show i < 9 by omega) (by decide))
            · rintro H1 ⟨s1, hD⟩
              walk_at "rd"
              refine ⟨D, ds.map priceD, rfl, SqL.of (hD.trans ?_), ?_⟩
              · congr 2
                apply List.ext_getElem
                · simp [vl]
                · intro n h1 h2
                  have hn : n < ds.length := by simpa using h2
                  simp [List.getElem?_eq_getElem hn]
              · rw [show ((ds.map priceD).all id) = rowOk (.list ds) (.list es) from by
                  simp only [rowOk, List.all_map]
                  rw [decide_eq_true c1, decide_eq_true c2, decide_eq_true c3]
                  rfl]
                exact k H1 s1
          · refine ifT (by rw [decide_eq_false (fun z => c3 (by have := V.int.inj z; omega))]; rfl) ?_
            walk_at "rd"
            exact no (by simp [rowOk, c3])
        · refine ifT (by rw [decide_eq_false (by omega)]; rfl) ?_
          walk_at "rd"
          exact no (by simp [rowOk, c2])
      · refine ifF (decide_eq_false (by omega)) ?_
        walk_at "rd"
        exact no (by simp [rowOk, c1])
    · refine ifT (by rw [Bool.eq_false_iff.mpr c0]; rfl) ?_
      walk_at "rd"
      exact no (by
        cases d with
        | list ds => exact absurd rfl c0
        | _ => rfl)
theorem sclChkR : FnScope ["rows", "i", "row"] ["rows"] (defScope slChkR) := ⟨rfl, rfl, rfl, by decide +kernel, rfl, by decide +kernel, by decide +kernel⟩
theorem ok_chkR (F : Fun K "check_rows" "check_rows" slChkR f fd) (T : Bt mg) {tk : Tok} (hM : mg "MOST_LINES" = some (.int 8 tk)) (DR : Df P w K mg base CX0 "is_row" 3 ["value", "first"] (spRow K)) (ET : De P w K mg base "InvalidTable" 3 (spErr1 K 1 CE "at") CE) :
    FnOk P w K mg base (L2.CX P w) 6 f fd ["rows"] (spChkR K CE) := by
  refine F.okX sclChkR (fun vs H Q E h => ?_) (fun cdv A outer s H vs Q E hr h => ?_)
  · obtain ⟨v, d, rfl, _⟩ := h
    rfl
  · obtain ⟨v, d, rfl, hd, k1, k2⟩ := h
    refine ⟨_, (pss_cons (ps_if (PW.pt (pw_or (pt_not (pt_val (pe_callB call_isi (by rfl) T.isinstance (by decide +kernel) (pa_cons (pv 0) (pa_cons (pe_bltn (v := .ty "list") (by rfl) T.list (by decide +kernel) rfl) pa_nil))))) (pw_or1 (pt_not (pt_chain op_le op_le pe_int (pe_callB cl_len (by rfl) T.len PySem.boot_len (pa_cons (pv 0) pa_nil)) (pe_glob (v := .int 8) (by rfl) hM ⟨tk, rfl⟩)))))) (pss_one (ps_rse rfl (takes_of rfl rfl rfl rfl) ET hr (by decide) (pa_cons (pe_un un_neg pe_int) pa_nil))) pss_nil)
  (pss_one (ps_for (passes_of rfl) rfl (pi_enum (by rfl) T.enumerate (pa_cons (pv 0) pa_nil)) (pg_tup (by rfl) (pgs_cons (pg_name (i := 1) sclChkR.nd rfl (Or.inl rfl)) (pgs_cons (pg_name (i := 2) sclChkR.nd rfl (Or.inl rfl)) pgs_nil))) (pss_one (ps_if (pt_not (pt_val (pe_df DR hr (by decide) (pa_cons (pv 2) (pa_cons (pe_ix ix_list (pv 0) pe_int (fun _ _ => rfl)) pa_nil))))) (pss_one (ps_rse rfl (takes_of rfl rfl rfl rfl) ET hr (by decide) (pa_cons (pv 1) pa_nil))) pss_nil))))), ?_⟩
    have raise1 : badT d = some (-1) → tMkErr CE (spErr1 K 1 CE "at") (tCons (tUn (rU fun i => .int (-i)) (tC (.int 1))) tNil) [some v, none, none] H (fun cls d H' => E cls d H') := fun b => by
      refine r_mkErr ?_
      walk_at "rd"
      refine r_err1 (σ := []) (.int _) (.int _) fun dd v' H' s1 h1 h2 o1 => ?_
      cases o1
      exact k2 (-1) b dd H' s1 h1 h2
    walk_at "rd"
    refine r_isDL hd ?_
    walk_at "rd"
    by_cases e : isLD d = true
    · refine ifF (by rw [e]; rfl) ?_
      obtain ⟨ds, rfl⟩ : ∃ ds, d = .list ds := by
        cases d with
        | list ds => exact ⟨ds, rfl⟩
        | _ => cases e
      obtain ⟨a, vs, rfl, ha, hv⟩ := Dp.lstAt hd
      have vl := DpAll.len hv
      walk_at "rd"
      refine r_lenL ha ?_
      walk_at "rd"
      by_cases c1 : 1 ≤ ds.length
      · refine ifT (decide_eq_true (by omega)) ?_
        walk_at "rd"
        by_cases c2 : ds.length ≤ 8
        · refine ifF (by rw [decide_eq_true (by omega)]; rfl) ?_
          have bd : badT (.list ds) = (firstRow ds).map Int.ofNat := if_neg (by omega)
          have e0 := List.getElem?_eq_getElem (l := vs) (i := 0) (by omega)
          obtain ⟨d0, hd0, p0⟩ := DpAll.at hv e0
          have g0 : ds.getD 0 .none = d0 := by rw [List.getD_eq_getElem?_getD, hd0]; rfl
          walk_at "rd"
          refine ⟨a, _, rfl, ha, for_it walk_enum (fun i σ H' => ∃ u v, σ = [some (.ref a), u, v] ∧ Same H H' ∧ ∀ j, j < i → rowOk (ds.getD j .none) (ds.getD 0 .none) = true) ⟨none, none, rfl, Same.refl H, fun j hj => by cases hj⟩ (fun i σ H' _ ⟨_, _, _, s, _⟩ => s.seq ha) ?_ ?_⟩
          · rintro i x σ H1 H2 hi ⟨u, v, rfl, s1, prev⟩ ⟨t, i', y, rfl, ht, rfl, e1, e2⟩
            obtain ⟨dy, hdy, py⟩ := DpAll.at hv e2
            cases (Option.some.inj e1)
            have gd : ds.getD i .none = dy := by rw [List.getD_eq_getElem?_getD, hdy]; rfl
            have st : Same H (upd H1 t (.tup [.int (i : Int), y])) := Same.up s1 ht
            refine r_gtup ⟨t, _, rfl, SqT.of upd_same, rfl, _, _, rfl, ?_⟩
            walk_at "rd"
            refine ⟨_, _, rfl, ?_⟩
            walk_at "rd"
            refine ⟨rfl, ?_⟩
            walk_at "rd"
            refine r_ixL (st.seq ha) (atI_nat (j := 0) e0) ?_
            walk_at "rd"
            refine ⟨y, _, dy, d0, rfl, Dp.later st py, Dp.later st p0, fun z => ?_, fun H3 s3 => ?_⟩
            · by_cases i0 : i = 0
              · subst i0
                rw [gd] at g0
                rw [← g0]
                exact z
              · have a0 := prev 0 (by omega)
                rw [g0] at a0
                cases d0 with
                | list es => rfl
                | _ => cases a0
            · walk_at "rd"
              by_cases o : rowOk dy d0 = true
              · refine ifF (by rw [o]; rfl) ?_
                walk_at "rd"
                refine ⟨_, _, rfl, st.trans s3, fun j hj => ?_⟩
                by_cases ji : j < i
                · exact prev j ji
                · have : j = i := by omega
                  rw [this, gd, g0]
                  exact o
              · refine ifT (by rw [Bool.eq_false_iff.mpr o]; rfl) ?_
                walk_at "rd"
                refine r_mkErr ?_
                walk_at "rd"
                refine r_err1 (σ := []) (.int _) (.int _) fun dd v' H' s4 h1 h2 o1 => ?_
                cases o1
                exact k2 (i : Int) (by rw [bd, firstRow_some (by omega) prev (by rw [gd, g0]; exact Bool.eq_false_iff.mpr o)]; rfl) dd H' ((st.trans s3).trans s4) ((st.trans s3).free h1) h2
          · rintro σ H1 ⟨u, v, rfl, s1, prev⟩
            exact k1 (by rw [bd, firstRow_none (fun j hj => prev j (by omega))]; rfl) H1 s1
        · refine ifT (by rw [decide_eq_false (by omega)]; rfl) ?_
          exact raise1 (if_pos (by omega))
      · refine ifF (decide_eq_false (by omega)) ?_
        walk_at "rd"
        exact raise1 (if_pos (by omega))
    · refine ifT (by rw [Bool.eq_false_iff.mpr e]; rfl) ?_
      exact raise1 (badT_no (Bool.eq_false_iff.mpr e))
end
end Pk
set_option Elab.async false
set_option linter.all false
set_option maxRecDepth 100000
set_option maxHeartbeats 4000000
namespace Pk
open PySem L2
local macro_rules | `(tactic| walk_at "rd") => `(tactic| repeat (first
  | with_reducible refine r_seq ?_ | with_reducible refine r_nxt ?_ | with_reducible refine r_asg ?_ | with_reducible refine r_to ?_ | with_reducible refine r_ret ?_ | with_reducible refine r_for ?_ | with_reducible refine r_lc ?_ | with_reducible refine r_lc2 ?_ | with_reducible refine r_rng1 ?_ | with_reducible refine r_list ?_ | with_reducible refine r_tupI ?_ | with_reducible refine r_drop ?_ | with_reducible refine r_ifs ?_
  | with_reducible refine r_op ?_ | with_reducible refine r_c ?_ | with_reducible refine r_var rfl ?_ | with_reducible refine r_var (by assumption) ?_ | with_reducible refine r_I0 ?_ | with_reducible refine r_un ?_ | with_reducible refine r_U ?_ | with_reducible refine r_make ?_ | with_reducible refine r_makeS ?_ | with_reducible refine r_ifE ?_ | with_reducible refine r_cm ?_ | with_reducible refine r_mkV rfl ?_ | with_reducible refine r_sub ?_
  | with_reducible refine r_nil ?_ | with_reducible refine r_cons ?_ | with_reducible refine r_cb ?_ | with_reducible refine r_sl ?_ | with_reducible refine r_noP ?_ | with_reducible refine r_part ?_ | with_reducible refine r_isI ?_ | with_reducible refine r_lst ?_ | with_reducible refine r_tup ?_ | with_reducible refine r_call ?_ | with_reducible refine r_callS ?_ | with_reducible refine r_sFldU ?_ | with_reducible refine r_chain ?_ | with_reducible refine r_enum ?_ | with_reducible refine r_zip ?_ | with_reducible refine r_rng3 ?_ | with_reducible refine r_gtup ?_ | with_reducible refine r_methU ?_
  | with_reducible refine r_test ?_ | with_reducible refine r_B ?_ | with_reducible refine r_and ?_ | with_reducible refine r_or ?_ | with_reducible refine r_not ?_ | with_reducible refine r_andV ?_ | with_reducible refine r_orV ?_ | with_reducible refine r_notV ?_ | with_reducible refine r_bl ?_ | with_reducible refine r_yes ?_ | with_reducible refine r_int ?_ | with_reducible refine r_is0 ?_ | with_reducible refine r_is1 ?_ | with_reducible refine iteT ?_ | with_reducible refine iteF ?_ | with_reducible refine ite_nF ?_ | with_reducible refine ite_nT ?_
  | with_reducible refine r_mod (by decide) ?_ | with_reducible refine r_div (by decide) (by decide) ?_ | with_reducible refine r_mulR (by decide) (by decide) ?_ | with_reducible refine r_mulL (by decide) (by decide) ?_ | with_reducible refine r_pow (by decide) (by decide) (by decide) ?_))
/-! ### Table.__init__ -/
theorem SameD.ofKeep {x C dx : Addr} {fs : List (Str × V)} {H H' : Hp} (k : Keep x H H') (hx : H x = some (.ins C dx fs)) : SameD H H' := fun a u l h => k a u (fun z => by
  rw [z, hx] at h
  cases (Option.some.inj h)
  rcases l with ⟨_, l⟩ | ⟨_, l⟩ | ⟨_, _, l⟩ <;> cases l) h
/-- what is new since H, and x -/
def part (x : Addr) (H H' : Hp) : Hp := fun a => if a = x then H' a else match H a with
  | .none => H' a
  | .some _ => .none
theorem part_sub {x : Addr} {H H' : Hp} : Same (part x H H') H' := fun a o e => by
  unfold part at e
  split at e
  · exact e
  · split at e
    · exact e
    · cases e
theorem part_new {x a : Addr} {H H' : Hp} (n : H a = none) : part x H H' a = H' a := by
  unfold part
  rw [n]
  simp
theorem part_x {x : Addr} {H H' : Hp} : part x H H' x = H' x := by simp [part]
theorem part_off {x : Addr} {H H' : Hp} : ∀ a o, part x H H' a = some o → a = x ∨ H a = none := fun a o e => by
  unfold part at e
  split at e
  · rename_i h; exact .inl h
  · split at e
    · rename_i h; exact .inr h
    · cases e
theorem PrsAt.part {x : Addr} {H H3 H' : Hp} {us : List V} {zs : List Pr} (h : PrsAt x H3 us zs) (fr : ∀ v, v ∈ us → ∀ t, v = .ref t → H t = none) (k : Keep x H3 H') : PrsAt x (Pk.part x H H') us zs := by
  induction h with
  | nil => exact .nil
  | cons h _ ih =>
    obtain ⟨t, rfl, n, h⟩ := h
    refine .cons ⟨t, rfl, n, ?_⟩ (ih fun v hv => fr v (List.mem_cons_of_mem _ hv))
    rw [part_new (fr _ List.mem_cons_self t rfl)]
    exact k _ _ n h
def crow (R : Rw) (i j : Nat) : List Pr := ((List.range j).filter fun j => (prc R i j).isSome).map fun (j : Nat) => (((i : Nat) : Int), (j : Int))
def cpre (R : Rw) (i : Nat) : List Pr := (List.range i).flatMap fun i => crow R i (wd R)
theorem crow_more (R : Rw) (i j : Nat) : crow R i (j + 1) = crow R i j ++ (if (prc R i j).isSome = true then [((i : Int), (j : Int))] else []) := by
  unfold crow
  rw [List.range_succ, List.filter_append, List.map_append]
  congr 1
  cases h : (prc R i j).isSome <;> simp [h]
theorem cpre_more (R : Rw) (i : Nat) : cpre R (i + 1) = cpre R i ++ crow R i (wd R) := by
  unfold cpre
  rw [List.range_succ, List.flatMap_append]
  simp
theorem crow_len (R : Rw) (i : Nat) : ∀ j, (crow R i j).length ≤ j
  | 0 => by simp [crow]
  | j + 1 => by
    have := crow_len R i j
    rw [crow_more, List.length_append]
    split <;> simp <;> omega
theorem cpre_len (R : Rw) : ∀ i, (cpre R i).length ≤ i * wd R
  | 0 => by simp [cpre]
  | i + 1 => by
    have h1 := cpre_len R i
    have h2 := crow_len R i (wd R)
    rw [cpre_more, List.length_append, Nat.succ_mul]
    omega
section
variable {P : Program} {w : World} {K : PySem.W.Frag} {mg : Str → Option Value} {base : Heap} {C CE f : Addr} {fd : FuncData}
theorem sclTbI : FnScope ["self", "rows", "row", "price", "j", "i"] ["self", "rows"] (defScope slTbI) := ⟨rfl, rfl, rfl, by decide +kernel, rfl, by decide +kernel, by decide +kernel⟩
theorem ok_tbI (F : Fun K "__init__" "Table.__init__" slTbI f fd) (T : Bt mg) (A : TbC K C) (DC : Df P w K mg base (L2.CX P w) "check_rows" 6 ["rows"] (spChkR K CE)) : FnOk P w K mg base (L2.CX P w) 8 f fd ["self", "rows"] (spTbI K C CE) := by
  refine F.okX sclTbI (fun vs H Q E h => ?_) (fun cdv A' outer s H vs Q E hr h => ?_)
  · obtain ⟨x, dx, v, d, rfl, _⟩ := h
    rfl
  · obtain ⟨x, dx, v, d, rfl, hx, hdx, ne, hd, kgood, kbad⟩ := h
    refine ⟨_, (pss_cons (ps_expr (pe_dfS (takes_of rfl rfl rfl rfl) DC hr (by decide) (pa_cons (pv 1) pa_nil)))
  (pss_cons (ps_fld (pv 0) (pe_lc (own := [("row", 2)]) (g := gName 2) rfl sclTbI.nd (pi_list (pv 1)) (blkOk_by (own := [("row", 2)]) (N := ["self", "rows", "row", "price", "j", "i"]) (sc := defScope slTbI) (by decide +kernel)) (fun _ _ _ _ _ => pg_name (i := 2) sclTbI.nd rfl (Or.inl rfl)) (fun _ _ _ _ _ => pts_nil) (fun _ _ _ _ _ => (pe_callTy (T := "list") (r := rLstOf K) cl_lst (by rfl) T.list (by decide +kernel) (pa_cons (pv 2) pa_nil)))) rfl)
  (pss_one (ps_fld (pv 0) (pe_lc2 (own := [("i", 5), ("row", 2), ("j", 4), ("price", 3)]) (vs1 := [4, 3]) (g := gTup K 2 (gCons (gName 5) (gCons (gName 2) gNil))) (tt := tYes) (wi1 := iEnum K (tCons (tVar 2) tNil)) (g1 := gTup K 2 (gCons (gName 4) (gCons (gName 3) gNil))) (tt1 := tTest (tOp rIs1 (tVar 3) (tC .non))) (te := tTup (tCons (tVar 5) (tCons (tVar 4) tNil))) rfl sclTbI.nd (pi_enum (by rfl) T.enumerate (pa_cons (pv 1) pa_nil)) (blkOk_by (own := [("i", 5), ("row", 2), ("j", 4), ("price", 3)]) (N := ["self", "rows", "row", "price", "j", "i"]) (sc := defScope slTbI) (by decide +kernel)) (by decide)
    (fun _ _ _ _ _ => pg_tup (by rfl) (pgs_cons (pg_name (i := 5) sclTbI.nd rfl (Or.inl rfl)) (pgs_cons (pg_name (i := 2) sclTbI.nd rfl (Or.inl rfl)) pgs_nil))) (fun _ _ _ _ _ => pts_nil) (fun _ _ _ _ _ => pi_enum (by rfl) T.enumerate (pa_cons (pv 2) pa_nil)) (fun _ _ _ _ _ => pg_tup (by rfl) (pgs_cons (pg_name (i := 4) sclTbI.nd rfl (Or.inl rfl)) (pgs_cons (pg_name (i := 3) sclTbI.nd rfl (Or.inl rfl)) pgs_nil)))
    (fun _ _ _ _ _ => pts_one (pt_cmpR op_is1 (pv 3) pe_non (nomark _))) (fun _ _ _ _ _ => (pe_tup (pa_cons (pv 5) (pa_cons (pv 4) pa_nil))))) rfl)))), ?_⟩
    walk_at "rd"
    refine ⟨v, d, rfl, hd, fun b H1 s1 => ?_, fun k e dd H' s1 h1 h2 => kbad k e dd H' s1 h1 h2⟩
    obtain ⟨R, rfl, g⟩ := badT_inv b
    obtain ⟨a, vs, rfl, ha, hv⟩ := Dp.lstAt hd
    have vl : vs.length = R.length := by have := DpAll.len hv; rwa [List.length_map] at this
    have g8 := g.h8
    have w8 := g.w8
    walk_at "rd"
    refine ⟨a, rfl, ⟨_, s1.seq ha⟩, fun D nD => lc_it walk_list (fun i H' => Same H1 H' ∧ ∃ es, H' D = some (.lst es) ∧ es.length = i ∧ ∀ j v, es[j]? = some v → ∃ c, v = .ref c ∧ c ≠ D ∧ H1 c = none ∧ H' c = some (.lst ((R.getD j []).map pV))) ⟨Same.up (Same.refl H1) nD, [], upd_same, rfl, fun j v e => by simp at e⟩ (fun i H2 _ z => z.1.seq (s1.seq ha)) ?_ ?_⟩
    · rintro i y H2 H3 hi ⟨s2, es, hD, el, er⟩ ⟨rfl, e1⟩
      obtain ⟨dy, hdy, py⟩ := DpAll.at hv e1
      have hi' : i < R.length := by omega
      rw [List.getElem?_map, List.getElem?_eq_getElem hi'] at hdy
      cases (Option.some.inj hdy)
      obtain ⟨b, ws, rfl, hb, hw⟩ := Dp.lstAt py
      obtain rfl := pVs_of hw
      walk_at "rd"
      refine ⟨rfl, ?_⟩
      walk_at "rd"
      refine r_lstOf ((s1.trans s2).seq hb) fun c nc => ?_
      have sc := Same.up (o := .lst (R[i].map pV)) (Same.refl H3) nc
      have cD : c ≠ D := fun z => by rw [z, hD] at nc; cases nc
      refine ⟨es, sc _ _ hD, by rw [el]; exact Nat.lt_of_lt_of_le (show i < 9 by omega) (by decide), fun b o e => ?_, es ++ [.ref c], upd_same, by rw [List.length_append, el]; rfl, fun j v e => ?_⟩
      · have n : b ≠ D := fun z => by rw [z, nD] at e; cases e
        rw [upd_ne n]
        exact sc _ _ (s2 _ _ e)
      · by_cases ji : j < es.length
        · rw [List.getElem?_append_left ji] at e
          obtain ⟨c', rfl, n1, n2, n3⟩ := er j v e
          exact ⟨c', rfl, n1, n2, by rw [upd_ne n1]; exact sc _ _ n3⟩
        · rw [List.getElem?_append_right (by omega)] at e
          have : j = i := by
            have := (List.getElem?_eq_some_iff.mp e).1
            simp at this
            omega
          subst this
          rw [el, Nat.sub_self] at e
          cases (Option.some.inj e)
          exact ⟨c, rfl, cD, s2.free nc, by rw [upd_ne cD, upd_same, g.getD hi']⟩
    · rintro H2 ⟨s2, es, hD, el, er⟩
      have hx2 := s2 _ _ (s1 _ _ hx)
      have xD : x ≠ D := fun z => by rw [← z, s1 _ _ hx] at nD; cases nD
      walk_at "rd"
      refine r_sFld0 (C := C) (dx := dx) (fs := []) hx2 A.O.cl A.e (by decide) ?_
      have kx : Keep x H2 (upd H2 x (.ins C dx (putF "entries" (.ref D) []))) := Keep.refl.own
      have sd : SameD H (upd H2 x (.ins C dx (putF "entries" (.ref D) []))) := (SameD.of (s1.trans s2)).trans (SameD.ofKeep kx hx2)
      obtain ⟨Hx, eHx⟩ : ∃ Hx, Hx = upd H2 x (.ins C dx (putF "entries" (.ref D) [])) := ⟨_, rfl⟩
      rw [← eHx] at kx sd ⊢
      have hxx : Hx x = some (.ins C dx [("entries", .ref D)]) := by rw [eHx, upd_same]; rfl
      have fx : ∀ b, Hx b = none → H b = none := fun b e => by
        by_cases z : b = x
        · rw [z, hxx] at e; cases e
        · cases q : H b with
          | none => rfl
          | some o => rw [kx b o z ((s1.trans s2) _ _ q)] at e; cases e
      have hvx := DpAll.laterD sd hv
      walk_at "rd"
      refine ⟨a, vs, rfl, sd.seqL ha, fun D2 nD2 => lc_any walk_enum (fun i H' => Same Hx H' ∧ ∃ us, H' D2 = some (.lst us) ∧ PrsAt x H' us (cpre R i) ∧ ∀ v, v ∈ us → ∀ t, v = .ref t → Hx t = none ∧ t ≠ D2) ⟨Same.up (Same.refl Hx) nD2, [], upd_same, .nil, fun v hv => by cases hv⟩ (fun i H' _ z => z.1.seq (sd.seqL ha)) ?_ ?_⟩
      · rintro i y H3 H4 hi ⟨s3, us, hD2, hu, fr⟩ ⟨t, i', y', rfl, ht, rfl, e1, e2⟩
        cases (Option.some.inj e1)
        obtain ⟨dy, hdy, py⟩ := DpAll.at hvx e2
        have hi' : i < R.length := by omega
        rw [List.getElem?_map, List.getElem?_eq_getElem hi'] at hdy
        cases (Option.some.inj hdy)
        obtain ⟨b, ws, rfl, hb, hw⟩ := Dp.lstAt py
        obtain rfl := pVs_of hw
        have s4 : Same Hx (upd H3 t (.tup [.int (i : Int), .ref b])) := Same.up s3 ht
        have tD2 : t ≠ D2 := fun z => by rw [z, hD2] at ht; cases ht
        have wl : (R[i].map pV).length = wd R := by rw [List.length_map, g.len hi']
        refine r_gtup ⟨t, _, rfl, SqT.of upd_same, rfl, _, _, rfl, ?_⟩
        walk_at "rd"
        refine ⟨_, _, rfl, ?_⟩
        walk_at "rd"
        refine ⟨rfl, rfl, ?_⟩
        walk_at "rd"
        refine ⟨b, _, rfl, s4.seq hb, lc_any walk_enum (fun j H' => Same Hx H' ∧ ∃ us, H' D2 = some (.lst us) ∧ PrsAt x H' us (cpre R i ++ crow R i j) ∧ ∀ v, v ∈ us → ∀ t, v = .ref t → Hx t = none ∧ t ≠ D2) ⟨s4, us, later hD2 ht, by rw [show crow R i 0 = [] from rfl, List.append_nil]; exact hu.keep (Keep.same (Same.up (Same.refl H3) ht)), fr⟩ (fun j H' _ z => z.1.seq hb) ?_ ?_⟩
        · rintro j y2 H5 H6 hj ⟨s5, us5, hD5, hu5, fr5⟩ ⟨t2, j', z', rfl, ht2, rfl, f1, f2⟩
          cases (Option.some.inj f1)
          have hj' : j < wd R := by omega
          have ez := prc_get g hi' hj'
          rw [g.getD hi', show (R[i].map pV)[j]? = some z' from f2] at ez
          cases (Option.some.inj ez)
          have s6 : Same H5 (upd H5 t2 (.tup [.int (j : Int), pV (prc R i j)])) := Same.up (Same.refl H5) ht2
          refine r_gtup ⟨t2, _, rfl, SqT.of upd_same, rfl, _, _, rfl, ?_⟩
          walk_at "rd"
          refine ⟨_, _, rfl, ?_⟩
          walk_at "rd"
          refine ⟨rfl, rfl, ?_⟩
          walk_at "rd"
          cases q : prc R i j with
          | none =>
            refine ifF rfl ⟨s5.trans ?_, us5, ?_, ?_, fr5⟩
            · rw [q] at s6; exact s6
            · rw [q] at s6; exact s6 _ _ hD5
            · rw [crow_more, q, if_neg (by simp), List.append_nil]
              rw [q] at s6
              exact hu5.keep (Keep.same s6)
          | some m =>
            rw [q] at s6
            refine ifT rfl ?_
            walk_at "rd"
            refine ⟨by show 2 ≤ sizeLine; decide, fun r nr => ?_⟩
            have sr := Same.up (o := .tup [.int (i : Int), .int (j : Int)]) s6 nr
            have r5 : H5 r = none := s6.free nr
            have rx : Hx r = none := s5.free r5
            have rD2 : r ≠ D2 := fun z => by rw [z, hD5] at r5; cases r5
            have xr : r ≠ x := fun z => by rw [z, hxx] at rx; cases rx
            have ul := hu5.length
            have l1 := cpre_len R i
            have l2 := crow_len R i j
            have l3 : i * wd R ≤ 7 * 8 := Nat.mul_le_mul (by omega) w8
            refine ⟨us5, sr _ _ hD5, by rw [ul, List.length_append]; exact Nat.lt_of_lt_of_le (show _ < 65 by omega) (by decide), fun c o e => ?_, us5 ++ [.ref r], upd_same, ?_, fun v hv t' et => ?_⟩
            · have n : c ≠ D2 := fun z => by rw [z, nD2] at e; cases e
              rw [upd_ne n]
              exact sr _ _ (s5 _ _ e)
            · rw [crow_more, q, if_pos (show (some m).isSome = true from rfl), ← List.append_assoc]
              have kD : ∀ c xs, (upd (upd H5 t2 (.tup [.int (j : Int), pV (some m)])) r (.tup [.int (i : Int), .int (j : Int)])) c = some (.tup xs) → (upd (upd (upd H5 t2 (.tup [.int (j : Int), pV (some m)])) r (.tup [.int (i : Int), .int (j : Int)])) D2 (.lst (us5 ++ [.ref r]))) c = some (.tup xs) := fun c xs e => by
                have n : c ≠ D2 := fun z => by rw [z, sr _ _ hD5] at e; cases e
                rw [upd_ne n]
                exact e
              exact ((hu5.keep (Keep.same sr)).mono kD).app (.cons ⟨r, rfl, xr, kD _ _ upd_same⟩ .nil)
            · rcases List.mem_append.mp hv with h | h
              · exact fr5 v h t' et
              · rw [List.mem_singleton] at h
                rw [h] at et
                cases et
                exact ⟨rx, rD2⟩
        · rintro H5 ⟨s5, us5, hD5, hu5, fr5⟩
          rw [wl] at hu5
          exact ⟨s5, us5, hD5, by rw [cpre_more]; exact hu5, fr5⟩
      · rintro H3 ⟨s3, us, hD2, hu, fr⟩
        rw [vl] at hu
        have hx3 := s3 _ _ hxx
        walk_at "rd"
        refine r_sFld0 (C := C) (dx := dx) hx3 A.O.cl A.u (by show 1 < 1000; decide) ?_
        rw [show putF "used" (V.ref D2) [("entries", V.ref D)] = ([("entries", V.ref D), ("used", V.ref D2)] : List (Str × V)) from two_put (f := "entries") (g := "used") (v := .ref D) (u := .ref D2) (by decide +kernel) (by decide +kernel)]
        have x2 : x ≠ D2 := fun z => by rw [← z, hxx] at nD2; cases nD2
        have kf : Keep x H (upd H3 x (.ins C dx [("entries", .ref D), ("used", .ref D2)])) := (((Keep.same (s1.trans s2)).trans kx).trans (Keep.same s3)).own
        have k2 : Keep x H2 (upd H3 x (.ins C dx [("entries", .ref D), ("used", .ref D2)])) := (kx.trans (Keep.same s3)).own
        have nDH : H D = none := s1.free nD
        refine kgood R rfl g _ (part x H (upd H3 x (.ins C dx [("entries", .ref D), ("used", .ref D2)]))) ⟨g, dx, D, D2, es, by rw [part_x, upd_same], ⟨?_, by rw [el, vl], fun i v e => ?_⟩, ⟨Ne.symm x2, us, ?_, hu.part (fun v hv t e => fx t (fr v hv t e).1) Keep.refl.own⟩⟩ part_sub part_off (fun c o n e => kf c o n e)
        · rw [part_new nDH]
          exact k2 _ _ (Ne.symm xD) hD
        · obtain ⟨c, rfl, n1, n2, n3⟩ := er i v e
          have cx : c ≠ x := fun z => by rw [z, s1 _ _ hx] at n2; cases n2
          exact ⟨c, rfl, by rw [part_new (s1.free n2)]; exact k2 _ _ cx n3⟩
        · rw [part_new (fx _ nD2), upd_ne (Ne.symm x2)]
          exact hD2
end
theorem r_ifE {t : TT} {ta tb : TE} {σ : L2.St} {H : Hp} {Q : VK} (h : t σ H fun c H1 => if c = true then ta σ H1 Q else tb σ H1 Q) : tIf t ta tb σ H Q := h
theorem r_bm {K : PySem.W.Frag} {T : String} {r : V → List V → Hp → VK → Prop} {to : TE} {t : TA} {σ : L2.St} {H : Hp} {Q : VK} (h : to σ H fun x H1 => tyV K T x H1 ∧ t σ H1 fun xs H2 => r x xs H2 Q) : tBM K T r to t σ H Q := h
theorem rows_inj {R S : Rw} (h : rowsD R = rowsD S) : R = S := by
  have e := rows_eqv R S
  rw [h, eqv_plain (rows_plain S)] at e
  exact of_decide_eq_true e.symm
/-- a good table is made -/
theorem mk_tb {K : PySem.W.Frag} {C CE : Addr} {H1 : Hp} {x dx : Addr} {v : V} {R : Rw} {Q : VK} {E : XK} (nx : H1 x = none) (nd : H1 dx = none) (ne : dx ≠ x) (hv : Dp K H1 v (rowsD R)) (g : Gt R)
    (k : ∀ (H' G : Hp), Same H1 H' → TbX C G x R → Same G H' → Fresh H1 G → Q (.ref x) H') : spTbI K C CE [.ref x, v] (upd (upd H1 dx (.own x)) x (.ins C dx [])) (fun v H2 => v = .non ∧ Q (.ref x) H2) E := by
  have sy : Same H1 (upd (upd H1 dx (.own x)) x (.ins C dx [])) := fun d o e => by
    have n1 : d ≠ x := fun z => by rw [z, nx] at e; cases e
    have n2 : d ≠ dx := fun z => by rw [z, nd] at e; cases e
    rw [upd_ne n1, upd_ne n2]
    exact e
  refine ⟨x, dx, v, rowsD R, rfl, upd_same, by rw [upd_ne ne, upd_same], ne, Dp.later sy hv, fun R' eR g' H' G t sG fG kp => ⟨rfl, ?_⟩, fun k1 e1 => by rw [badT_good g] at e1; cases e1⟩
  obtain rfl := rows_inj eR
  refine k H' G (fun d o e => kp _ _ (fun z => by rw [z, nx] at e; cases e) (sy _ _ e)) t sG fun a o e => ?_
  rcases fG a o e with z | z
  · rw [z]; exact nx
  · exact sy.free z
def spTStk (C : Addr) : Sp := fun vs H Q _ => ∃ (x : Addr) (G : Hp) (R : Rw), vs = [.ref x] ∧ TbX C G x R ∧ Same G H ∧ Q (.int (R.length : Int)) H
abbrev slTStk : Stmt := inCls 23 12
section
variable {P : Program} {w : World} {K : PySem.W.Frag} {mg : Str → Option Value} {base : Heap} {C CE CP f : Addr} {fd : FuncData}
theorem sclTStk : FnScope ["self"] ["self"] (defScope slTStk) := ⟨rfl, rfl, rfl, by decide +kernel, rfl, by decide +kernel, by decide +kernel⟩
theorem ok_tStk (F : Fun K "stocks" "Table.stocks" slTStk f fd) (T : Bt mg) (A : TbC K C) : FnOk P w K mg base CX0 1 f fd ["self"] (spTStk C) := by
  refine F.ok sclTStk (fun vs H Q E h => ?_) (fun cdv A' outer s H vs Q E hr h => ?_)
  · obtain ⟨x, G, R, rfl, _⟩ := h
    rfl
  · obtain ⟨x, G, R, rfl, ⟨g, dx, e, u, es, ho, hl, hp⟩, sG, k⟩ := h
    refine ⟨_, (pss_one (ps_ret (pe_callB cl_len (by rfl) T.len PySem.boot_len (pa_cons (pe_fld (pv 0) rfl) pa_nil)))), ?_⟩
    walk_at "rd"
    refine r_fldV rfl (sG _ _ ho) A.O.cl A.e two_fst ?_
    walk_at "rd"
    refine r_lenL (SqL.of (sG _ _ hl.at_)) ?_
    rw [hl.len]
    exact k
end
def spTWsh (C : Addr) : Sp := fun vs H Q _ => ∃ (x : Addr) (G : Hp) (R : Rw), vs = [.ref x] ∧ TbX C G x R ∧ Same G H ∧ Q (.int (wd R : Int)) H
abbrev slTWsh : Stmt := inCls 23 13
section
variable {P : Program} {w : World} {K : PySem.W.Frag} {mg : Str → Option Value} {base : Heap} {C CE CP f : Addr} {fd : FuncData}
theorem wd_row {R : Rw} (g : Gt R) {i : Nat} (h : i < R.length) : ((R.getD i []).map pV).length = wd R := by rw [List.length_map, g.getD h, g.len h]
theorem sclTWsh : FnScope ["self"] ["self"] (defScope slTWsh) := ⟨rfl, rfl, rfl, by decide +kernel, rfl, by decide +kernel, by decide +kernel⟩
theorem ok_tWsh (F : Fun K "wishes" "Table.wishes" slTWsh f fd) (T : Bt mg) (A : TbC K C) : FnOk P w K mg base CX0 1 f fd ["self"] (spTWsh C) := by
  refine F.ok sclTWsh (fun vs H Q E h => ?_) (fun cdv A' outer s H vs Q E hr h => ?_)
  · obtain ⟨x, G, R, rfl, _⟩ := h
    rfl
  · obtain ⟨x, G, R, rfl, ⟨g, dx, e, u, es, ho, hl, hp⟩, sG, k⟩ := h
    refine ⟨_, (pss_one (ps_ret (pe_callB cl_len (by rfl) T.len PySem.boot_len (pa_cons (pe_ix ix_list (pe_fld (pv 0) rfl) pe_int (fun _ _ => rfl)) pa_nil)))), ?_⟩
    obtain ⟨a, ea, ha⟩ := hl.get g.h0
    walk_at "rd"
    refine r_fldV rfl (sG _ _ ho) A.O.cl A.e two_fst ?_
    walk_at "rd"
    refine r_ixL (SqL.of (sG _ _ hl.at_)) (atI_nat (j := 0) ea) ?_
    walk_at "rd"
    refine r_lenL (SqL.of (sG _ _ ha)) ?_
    rw [wd_row g g.h0]
    exact k
end
end Pk
set_option Elab.async false
set_option linter.all false
set_option maxRecDepth 100000
set_option maxHeartbeats 4000000
namespace Pk
open PySem L2
local macro_rules | `(tactic| walk_at "rd") => `(tactic| repeat (first
  | with_reducible refine r_seq ?_ | with_reducible refine r_nxt ?_ | with_reducible refine r_asg ?_ | with_reducible refine r_to ?_ | with_reducible refine r_ret ?_ | with_reducible refine r_for ?_ | with_reducible refine r_lc ?_ | with_reducible refine r_lc2 ?_ | with_reducible refine r_rng1 ?_ | with_reducible refine r_list ?_ | with_reducible refine r_tupI ?_ | with_reducible refine r_drop ?_ | with_reducible refine r_ifs ?_
  | with_reducible refine r_op ?_ | with_reducible refine r_c ?_ | with_reducible refine r_var rfl ?_ | with_reducible refine r_var (by assumption) ?_ | with_reducible refine r_I0 ?_ | with_reducible refine r_un ?_ | with_reducible refine r_U ?_ | with_reducible refine r_make ?_ | with_reducible refine r_makeS ?_ | with_reducible refine r_ifE ?_ | with_reducible refine r_cm ?_ | with_reducible refine r_mkV rfl ?_ | with_reducible refine r_sub ?_
  | with_reducible refine r_nil ?_ | with_reducible refine r_cons ?_ | with_reducible refine r_cb ?_ | with_reducible refine r_sl ?_ | with_reducible refine r_noP ?_ | with_reducible refine r_part ?_ | with_reducible refine r_isI ?_ | with_reducible refine r_lst ?_ | with_reducible refine r_tup ?_ | with_reducible refine r_call ?_ | with_reducible refine r_callS ?_ | with_reducible refine r_sFldU ?_ | with_reducible refine r_chain ?_ | with_reducible refine r_enum ?_ | with_reducible refine r_zip ?_ | with_reducible refine r_rng3 ?_ | with_reducible refine r_gtup ?_ | with_reducible refine r_methU ?_
  | with_reducible refine r_test ?_ | with_reducible refine r_B ?_ | with_reducible refine r_and ?_ | with_reducible refine r_or ?_ | with_reducible refine r_not ?_ | with_reducible refine r_andV ?_ | with_reducible refine r_orV ?_ | with_reducible refine r_notV ?_ | with_reducible refine r_bl ?_ | with_reducible refine r_yes ?_ | with_reducible refine r_int ?_ | with_reducible refine r_is0 ?_ | with_reducible refine r_is1 ?_ | with_reducible refine iteT ?_ | with_reducible refine iteF ?_ | with_reducible refine ite_nF ?_ | with_reducible refine ite_nT ?_
  | with_reducible refine r_mod (by decide) ?_ | with_reducible refine r_div (by decide) (by decide) ?_ | with_reducible refine r_mulR (by decide) (by decide) ?_ | with_reducible refine r_mulL (by decide) (by decide) ?_ | with_reducible refine r_pow (by decide) (by decide) (by decide) ?_))
/-! ### class Amounts, whatever is handed in -/
/-- the amounts at x: their dict at dx, their two lists at p and q -/
structure AmX (C : Addr) (H : Hp) (x dx p q : Addr) (ms ns : List Int) : Prop where
  o : H x = some (.ins C dx [("held", .ref p), ("wished", .ref q)])
  h : H p = some (.lst (ms.map V.int))
  w : H q = some (.lst (ns.map V.int))
theorem AmX.same {C : Addr} {H H' : Hp} {x dx p q : Addr} {ms ns : List Int} (a : AmX C H x dx p q ms ns) (s : Same H H') : AmX C H' x dx p q ms ns := ⟨s _ _ a.o, s _ _ a.h, s _ _ a.w⟩
/-- good amounts of some lines -/
def Gd (ms : List Int) : Prop := 0 < ms.length ∧ ms.length ≤ 8 ∧ ∀ m, m ∈ ms → 0 ≤ m
structure AmC (K : PySem.W.Frag) (C : Addr) : Prop where
  cls : Cls K C
  h : NoAttr K C "held"
  w : NoAttr K C "wished"
def natD : PyData → Bool
  | .int i => decide (0 ≤ i)
  | _ => false
def firstBad : List PyData → Option Nat
  | [] => none
  | d :: ds => if natD d = true then (firstBad ds).map (· + 1) else some 0
def intsD (ms : List Int) : PyData := .list (ms.map .int)
def badL : PyData → Option Int
  | .list ds => if ds.length = 0 ∨ 8 < ds.length then some (-1) else (firstBad ds).map Int.ofNat
  | _ => some (-1)
theorem badL_no {d : PyData} (h : isLD d = false) : badL d = some (-1) := by cases d <;> first | rfl | cases h
theorem firstBad_some : ∀ {ds : List PyData} {i : Nat}, i < ds.length → (∀ j, j < i → natD (ds.getD j .none) = true) → natD (ds.getD i .none) = false → firstBad ds = some i
  | [], i, h, _, _ => by simp at h
  | d :: ds, 0, _, _, b => by
    have b : natD d = false := b
    simp [firstBad, b]
  | d :: ds, i + 1, h, p, b => by
    have p0 : natD d = true := p 0 (by omega)
    rw [firstBad, if_pos p0, firstBad_some (i := i) (by simpa using h) (fun j hj => p (j + 1) (by omega)) b]
    rfl
theorem firstBad_none : ∀ {ds : List PyData}, (∀ j, j < ds.length → natD (ds.getD j .none) = true) → firstBad ds = none
  | [], _ => rfl
  | d :: ds, p => by
    have p0 : natD d = true := p 0 (by simp)
    rw [firstBad, if_pos p0, firstBad_none fun j hj => p (j + 1) (by simpa using hj)]
    rfl
theorem firstBad_inv : ∀ {ds : List PyData}, firstBad ds = none → ∃ ms : List Int, ds = ms.map .int ∧ ∀ m, m ∈ ms → 0 ≤ m
  | [], _ => ⟨[], rfl, fun m h => by cases h⟩
  | d :: ds, h => by
    rw [firstBad] at h
    by_cases c : natD d = true
    · rw [if_pos c] at h
      have h' : firstBad ds = none := by
        cases q : firstBad ds with
        | none => rfl
        | some k => rw [q] at h; cases h
      obtain ⟨ms, rfl, hm⟩ := firstBad_inv h'
      cases d with
      | int i => exact ⟨i :: ms, rfl, fun m hm' => by
          rcases List.mem_cons.mp hm' with rfl | h2
          · exact of_decide_eq_true c
          · exact hm m h2⟩
      | _ => cases c
    · rw [if_neg c] at h
      cases h
theorem badL_inv {d : PyData} (h : badL d = none) : ∃ ms, d = intsD ms ∧ Gd ms := by
  cases d with
  | list ds =>
    by_cases c : ds.length = 0 ∨ 8 < ds.length
    · rw [show badL (.list ds) = some (-1) from if_pos c] at h; cases h
    · rw [show badL (.list ds) = (firstBad ds).map Int.ofNat from if_neg c] at h
      have h' : firstBad ds = none := by
        cases q : firstBad ds with
        | none => rfl
        | some k => rw [q] at h; cases h
      obtain ⟨ms, rfl, hm⟩ := firstBad_inv h'
      rw [List.length_map] at c
      exact ⟨ms, rfl, by omega, by omega, hm⟩
  | _ => cases h
theorem badL_good {ms : List Int} (g : Gd ms) : badL (intsD ms) = none := by
  have c : ¬ ((ms.map PyData.int).length = 0 ∨ 8 < (ms.map PyData.int).length) := by
    have h1 := g.1
    have h2 := g.2.1
    rw [List.length_map]; omega
  rw [intsD, show badL (.list (ms.map .int)) = (firstBad (ms.map .int)).map Int.ofNat from if_neg c, firstBad_none fun j hj => ?_]
  · rfl
  · rw [List.getD_eq_getElem?_getD, List.getElem?_eq_getElem hj, List.getElem_map]
    rw [List.length_map] at hj
    exact decide_eq_true (g.2.2 _ (List.getElem_mem hj))
theorem ints_dp {K : PySem.W.Frag} {H : Hp} : ∀ {vs : List V} {ms : List Int}, DpAll K H vs (ms.map .int) → vs = ms.map V.int
  | [], [], _ => rfl
  | _ :: _, [], h => by cases h
  | [], _ :: _, h => by cases h
  | v :: vs, m :: ms, h => by
    cases h with
    | cons h1 h2 => rw [Dp.intV h1, ints_dp h2]; rfl
theorem dp_ints {K : PySem.W.Frag} {H : Hp} : ∀ ms : List Int, DpAll K H (ms.map V.int) (ms.map .int)
  | [] => .nil
  | m :: ms => .cons (.int m) (dp_ints ms)
theorem ints_inj : ∀ {ms ns : List Int}, ms.map PyData.int = ns.map PyData.int → ms = ns
  | [], [], _ => rfl
  | [], _ :: _, h => by cases h
  | _ :: _, [], h => by cases h
  | m :: ms, n :: ns, h => by
    simp only [List.map_cons, List.cons.injEq] at h
    rw [PyData.int.inj h.1, ints_inj h.2]
def badA (d e : PyData) : Option (Str × Int) := match badL d with
  | some k => some ("stocks", k)
  | none => (badL e).map fun k => ("wishes", k)
def spChkA (K : PySem.W.Frag) (CE : Addr) : Sp := fun vs H Q E => ∃ (z : Str) (v : V) (d : PyData), vs = [.str z, v] ∧ Dp K H v d ∧ (badL d = none → ∀ H' : Hp, Same H H' → Q .non H') ∧
  (∀ k, badL d = some k → ∀ (dd : Addr) (H' : Hp), Same H H' → H dd = none → H' dd = some (.xd [("at", .int k), ("word", .str z)]) → E (.ref CE) (some dd) H')
def spAmG (K : PySem.W.Frag) (C CE : Addr) : Sp := fun vs H Q E => ∃ (x dx : Addr) (v u : V) (d e : PyData), vs = [.ref x, v, u] ∧ H x = some (.ins C dx []) ∧ H dx = some (.own x) ∧ dx ≠ x ∧ Dp K H v d ∧ Dp K H u e ∧
  (∀ ms ns, d = intsD ms → e = intsD ns → Gd ms → Gd ns → ∀ (H' : Hp) (p q : Addr), H p = none → H q = none → p ≠ q → AmX C H' x dx p q ms ns → (∀ c o, c ≠ x → H c = some o → H' c = some o) → Q .non H') ∧
  (∀ z k, badA d e = some (z, k) → ∀ (dd : Addr) (H' : Hp), Same H H' → H dd = none → H' dd = some (.xd [("at", .int k), ("word", .str z)]) → E (.ref CE) (some dd) H')
def spAmOver (C : Addr) : Sp := fun vs H Q _ => ∃ (x dx p q : Addr) (ms ns : List Int), vs = [.ref x] ∧ AmX C H x dx p q ms ns ∧ Q (.int (ms.sum - ns.sum)) H
def spGet (C : Addr) (g : List Int → List Int → List Int) : Sp := fun vs H Q _ => ∃ (x dx p q : Addr) (ms ns : List Int), vs = [.ref x] ∧ AmX C H x dx p q ms ns ∧ ∀ r, H r = none → Q (.ref r) (upd H r (.lst ((g ms ns).map V.int)))
def spAmEq (C : Addr) : Sp := fun vs H Q _ => ∃ (x dx p q y dy r s : Addr) (ms ns ms' ns' : List Int), vs = [.ref x, .ref y] ∧ AmX C H x dx p q ms ns ∧ AmX C H y dy r s ms' ns' ∧ Q (.bl (decide (ms = ms') && decide (ns = ns'))) H
abbrev slChk : Stmt := top 14
abbrev slAmI : Stmt := inCls 15 0
abbrev slEq : Stmt := inCls 15 2
abbrev slStocks : Stmt := inCls 15 7
abbrev slWishes : Stmt := inCls 15 8
abbrev slOver : Stmt := inCls 15 9
section
variable {P : Program} {w : World} {K : PySem.W.Frag} {mg : Str → Option Value} {base : Heap} {C CE f : Addr} {fd : FuncData}
theorem sclChk : FnScope ["word", "numbers", "at", "number"] ["word", "numbers"] (defScope slChk) := ⟨rfl, rfl, rfl, by decide +kernel, rfl, by decide +kernel, by decide +kernel⟩
theorem ok_chkA (F : Fun K "check_line_amounts" "check_line_amounts" slChk f fd) (T : Bt mg) {tk : Tok} (hM : mg "MOST_LINES" = some (.int 8 tk)) (DI : Df P w K mg base CX0 "is_integer" 1 ["value"] (spIntD K)) (EA : De P w K mg base "InvalidAmounts" 3 (spErr2 K 1 CE "word" "at") CE) :
    FnOk P w K mg base (L2.CX P w) 6 f fd ["word", "numbers"] (spChkA K CE) := by
  refine F.okX sclChk (fun vs H Q E h => ?_) (fun cdv A outer s H vs Q E hr h => ?_)
  · obtain ⟨z, v, d, rfl, _⟩ := h
    rfl
  · obtain ⟨z, v, d, rfl, hd, k1, k2⟩ := h
    refine ⟨_, (pss_cons (ps_if (PW.pt (pw_or (pt_not (pt_val (pe_callB call_isi (by rfl) T.isinstance (by decide +kernel) (pa_cons (pv 1) (pa_cons (pe_bltn (v := .ty "list") (by rfl) T.list (by decide +kernel) rfl) pa_nil)))))
        (pw_or1 (pt_not (pt_chain op_le op_le pe_int (pe_callB cl_len (by rfl) T.len PySem.boot_len (pa_cons (pv 1) pa_nil)) (pe_glob (v := .int 8) (by rfl) hM ⟨tk, rfl⟩)))))) (pss_one (ps_rse rfl (takes_of rfl rfl rfl rfl) EA hr (by decide) (pa_cons (pv 0) (pa_cons (pe_un un_neg pe_int) pa_nil)))) pss_nil)
      (pss_one (ps_for (passes_of rfl) rfl (pi_enum (by rfl) T.enumerate (pa_cons (pv 1) pa_nil)) (pg_tup (by rfl) (pgs_cons (pg_name (i := 2) sclChk.nd rfl (Or.inl rfl)) (pgs_cons (pg_name (i := 3) sclChk.nd rfl (Or.inl rfl)) pgs_nil)))
        (pss_one (ps_if (PW.pt (pw_or (pt_not (pt_val (pe_df DI hr (by decide) (pa_cons (pv 3) pa_nil)))) (pw_or1 (pt_cmpR op_lt (pv 3) pe_int (nomark _))))) (pss_one (ps_rse rfl (takes_of rfl rfl rfl rfl) EA hr (by decide) (pa_cons (pv 0) (pa_cons (pv 2) pa_nil)))) pss_nil))))), ?_⟩
    have raise1 : badL d = some (-1) → tMkErr CE (spErr2 K 1 CE "word" "at") (tCons (tVar 0) (tCons (tUn (rU fun i => .int (-i)) (tC (.int 1))) tNil)) [some (.str z), some v, none, none] H (fun cls d H' => E cls d H') := fun b => by
      refine r_mkErr ?_
      walk_at "rd"
      refine r_err2 (σ := []) (.str _) (.str _) (.int _) (.int _) fun dd u1 v1 H' s1 h1 h2 o1 o2 => ?_
      cases o1
      cases o2
      exact k2 (-1) b dd H' s1 h1 h2
    walk_at "rd"
    refine r_isDL hd ?_
    walk_at "rd"
    by_cases e : isLD d = true
    · refine ifF (by rw [e]; rfl) ?_
      obtain ⟨ds, rfl⟩ : ∃ ds, d = .list ds := by
        cases d with
        | list ds => exact ⟨ds, rfl⟩
        | _ => cases e
      obtain ⟨a, vs, rfl, ha, hv⟩ := Dp.lstAt hd
      have vl := DpAll.len hv
      walk_at "rd"
      refine r_lenL ha ?_
      walk_at "rd"
      by_cases c1 : 1 ≤ ds.length
      · refine ifT (decide_eq_true (by omega)) ?_
        walk_at "rd"
        by_cases c2 : ds.length ≤ 8
        · refine ifF (by rw [decide_eq_true (by omega)]; rfl) ?_
          have bd : badL (.list ds) = (firstBad ds).map Int.ofNat := if_neg (by omega)
          walk_at "rd"
          refine ⟨a, _, rfl, ha, for_it walk_enum (fun i σ H' => ∃ u v, σ = [some (.str z), some (.ref a), u, v] ∧ Same H H' ∧ ∀ j, j < i → natD (ds.getD j .none) = true) ⟨none, none, rfl, Same.refl H, fun j hj => by cases hj⟩ (fun i σ H' _ ⟨_, _, _, s, _⟩ => s.seq ha) ?_ ?_⟩
          · rintro i x σ H1 H2 hi ⟨u, v, rfl, s1, prev⟩ ⟨t, i', y, rfl, ht, rfl, e1, e2⟩
            obtain ⟨dy, hdy, py⟩ := DpAll.at hv e2
            cases (Option.some.inj e1)
            have gd : ds.getD i .none = dy := by rw [List.getD_eq_getElem?_getD, hdy]; rfl
            have st : Same H (upd H1 t (.tup [.int (i : Int), y])) := Same.up s1 ht
            have raise : natD dy = false → tMkErr CE (spErr2 K 1 CE "word" "at") (tCons (tVar 0) (tCons (tVar 2) tNil)) [some (.str z), some (.ref a), some (.int (i : Int)), some y] (upd H1 t (.tup [.int (i : Int), y])) (fun cls d H' => E cls d H') := fun o => by
              refine r_mkErr ?_
              walk_at "rd"
              refine r_err2 (σ := []) (.str _) (.str _) (.int _) (.int _) fun dd u1 v1 H' s4 h1 h2 o1 o2 => ?_
              cases o1
              cases o2
              exact k2 (i : Int) (by rw [bd, firstBad_some (by omega) prev (by rw [gd]; exact o)]; rfl) dd H' (st.trans s4) (st.free h1) h2
            have next : natD dy = true → ∃ u v, [some (.str z), some (.ref a), some (.int (i : Int)), some y] = [some (.str z), some (.ref a), u, v] ∧ Same H (upd H1 t (.tup [.int (i : Int), y])) ∧ ∀ j, j < i + 1 → natD (ds.getD j .none) = true := fun o => ⟨_, _, rfl, st, fun j hj => by
              by_cases ji : j < i
              · exact prev j ji
              · have : j = i := by omega
                rw [this, gd]
                exact o⟩
            refine r_gtup ⟨t, _, rfl, SqT.of upd_same, rfl, _, _, rfl, ?_⟩
            walk_at "rd"
            refine ⟨_, _, rfl, ?_⟩
            walk_at "rd"
            refine ⟨rfl, ?_⟩
            walk_at "rd"
            refine ⟨y, dy, rfl, Dp.later st py, ?_⟩
            walk_at "rd"
            by_cases o : isID dy = true
            · refine ifF (by rw [o]; rfl) ?_
              obtain ⟨m, rfl⟩ : ∃ m, dy = .int m := by
                cases dy with
                | int m => exact ⟨m, rfl⟩
                | _ => cases o
              obtain rfl := Dp.intV py
              walk_at "rd"
              by_cases lt : m < 0
              · refine ifT (decide_eq_true lt) ?_
                walk_at "rd"
                exact raise (decide_eq_false (by omega))
              · refine ifF (decide_eq_false lt) ?_
                walk_at "rd"
                exact next (decide_eq_true (by omega))
            · refine ifT (by rw [Bool.eq_false_iff.mpr o]; rfl) ?_
              walk_at "rd"
              exact raise (by cases dy <;> first | rfl | exact absurd rfl o)
          · rintro σ H1 ⟨u, v, rfl, s1, prev⟩
            exact k1 (by rw [bd, firstBad_none (fun j hj => prev j (by omega))]; rfl) H1 s1
        · refine ifT (by rw [decide_eq_false (by omega)]; rfl) ?_
          exact raise1 (if_pos (by omega))
      · refine ifF (decide_eq_false (by omega)) ?_
        walk_at "rd"
        exact raise1 (if_pos (by omega))
    · refine ifT (by rw [Bool.eq_false_iff.mpr e]; rfl) ?_
      exact raise1 (badL_no (Bool.eq_false_iff.mpr e))
theorem sclAmI : FnScope ["self", "stocks", "wishes"] ["self", "stocks", "wishes"] (defScope slAmI) := ⟨rfl, rfl, rfl, by decide +kernel, rfl, by decide +kernel, by decide +kernel⟩
theorem ok_amG (F : Fun K "__init__" "Amounts.__init__" slAmI f fd) (T : Bt mg) (A : AmC K C) (DC : Df P w K mg base (L2.CX P w) "check_line_amounts" 6 ["word", "numbers"] (spChkA K CE)) :
    FnOk P w K mg base (L2.CX P w) 8 f fd ["self", "stocks", "wishes"] (spAmG K C CE) := by
  refine F.okX sclAmI (fun vs H Q E h => ?_) (fun cdv A' outer s H vs Q E hr h => ?_)
  · obtain ⟨x, dx, v, u, d, e, rfl, _⟩ := h
    rfl
  · obtain ⟨x, dx, v, u, d, e, rfl, hx, hdx, ne, hd, he, k, kbad⟩ := h
    refine ⟨_, (pss_cons (ps_expr (pe_dfS (takes_of rfl rfl rfl rfl) DC hr (by decide) (pa_cons pe_str (pa_cons (pv 1) pa_nil))))
      (pss_cons (ps_expr (pe_dfS (takes_of rfl rfl rfl rfl) DC hr (by decide) (pa_cons pe_str (pa_cons (pv 2) pa_nil))))
      (pss_cons (ps_fld (pv 0) (pe_callTy cl_lst (by rfl) T.list (by decide +kernel) (pa_cons (pv 1) pa_nil)) rfl)
      (pss_one (ps_fld (pv 0) (pe_callTy cl_lst (by rfl) T.list (by decide +kernel) (pa_cons (pv 2) pa_nil)) rfl))))), ?_⟩
    walk_at "rd"
    refine ⟨_, v, d, rfl, hd, fun bd H1 s1 => ?_, fun k1 e1 dd H' s1 h1 h2 => kbad "stocks" k1 (by rw [badA, e1]) dd H' s1 h1 h2⟩
    walk_at "rd"
    refine ⟨_, u, e, rfl, Dp.later s1 he, fun be H2 s2 => ?_, fun k1 e1 dd H' s2 h1 h2 => kbad "wishes" k1 (by rw [badA, bd, e1]; rfl) dd H' (s1.trans s2) (s1.free h1) h2⟩
    obtain ⟨ms, rfl, gm⟩ := badL_inv bd
    obtain ⟨ns, rfl, gn⟩ := badL_inv be
    obtain ⟨a, vs, rfl, ha, hv⟩ := Dp.lstAt hd
    obtain rfl := ints_dp hv
    obtain ⟨b, us, rfl, hb, hu⟩ := Dp.lstAt he
    obtain rfl := ints_dp hu
    have s12 : Same H H2 := s1.trans s2
    walk_at "rd"
    refine r_lstOf (s12.seq ha) fun q1 n1 => ?_
    have x1 : x ≠ q1 := fun z => by
      have e := s12 _ _ hx
      rw [z, n1] at e
      cases e
    walk_at "rd"
    refine r_sFld0 (C := C) (dx := dx) (fs := []) (by rw [upd_ne x1]; exact s12 _ _ hx) A.cls A.h (by decide) ?_
    walk_at "rd"
    have sq := Same.up (o := .lst (ms.map V.int)) (Same.refl H2) n1
    have hb2 : SqL K (upd (upd H2 q1 (.lst (ms.map V.int))) x (.ins C dx [("held", .ref q1)])) b (ns.map V.int) :=
      (SameD.ofKeep (Keep.refl.own) (sq _ _ (s12 _ _ hx))).seqL (sq.seq (s12.seq hb))
    refine r_lstOf hb2 fun q2 n2 => ?_
    have x2 : x ≠ q2 := fun z => by
      rw [← z, upd_same] at n2
      cases n2
    have q12 : q1 ≠ q2 := fun z => by
      rw [← z, upd_ne (Ne.symm x1), upd_same] at n2
      cases n2
    rw [upd_ne (Ne.symm x2), upd_ne (Ne.symm q12)] at n2
    walk_at "rd"
    refine r_sFld0 (C := C) (dx := dx) (by rw [upd_ne x2, upd_same]) A.cls A.w (by show 1 < 1000; decide) ?_
    rw [two_put (by decide +kernel) (by decide +kernel)]
    refine k ms ns rfl rfl gm gn _ q1 q2 (s12.free n1) (s12.free n2) q12 ⟨upd_same, ?_, ?_⟩ fun c o hc e => ?_
    · rw [upd_ne (Ne.symm x1), upd_ne q12, upd_ne (Ne.symm x1), upd_same]
    · rw [upd_ne (Ne.symm x2), upd_same]
    · have e2 := s12 _ _ e
      have c1 : c ≠ q1 := fun z => by rw [z, n1] at e2; cases e2
      have c2 : c ≠ q2 := fun z => by rw [z, n2] at e2; cases e2
      rw [upd_ne hc, upd_ne c2, upd_ne hc, upd_ne c1]
      exact e2
/-- good amounts are made -/
theorem mk_amG {H1 : Hp} {x dx : Addr} {v u : V} {ms ns : List Int} {Q : Hp → Prop} {E : XK} (nx : H1 x = none) (nd : H1 dx = none) (ne : dx ≠ x) (hv : Dp K H1 v (intsD ms)) (hu : Dp K H1 u (intsD ns)) (gm : Gd ms) (gn : Gd ns)
    (k : ∀ (H' : Hp) (p q : Addr), H1 p = none → H1 q = none → p ≠ q → AmX C H' x dx p q ms ns → Same H1 H' → Q H') : spAmG K C CE [.ref x, v, u] (upd (upd H1 dx (.own x)) x (.ins C dx [])) (fun v H2 => v = .non ∧ Q H2) E := by
  have sy : Same H1 (upd (upd H1 dx (.own x)) x (.ins C dx [])) := fun d o e => by
    have n1 : d ≠ x := fun z => by rw [z, nx] at e; cases e
    have n2 : d ≠ dx := fun z => by rw [z, nd] at e; cases e
    rw [upd_ne n1, upd_ne n2]
    exact e
  refine ⟨x, dx, v, u, _, _, rfl, upd_same, by rw [upd_ne ne, upd_same], ne, Dp.later sy hv, Dp.later sy hu, fun ms' ns' e1 e2 _ _ H' p q np nq pq am kp => ⟨rfl, ?_⟩, fun z k1 e1 => ?_⟩
  · have i1 : ms = ms' := by
      have e := PyData.list.inj e1
      exact ints_inj e
    have i2 : ns = ns' := by
      have e := PyData.list.inj e2
      exact ints_inj e
    subst i1
    subst i2
    exact k H' p q (sy.free np) (sy.free nq) pq am fun d o e => kp _ _ (fun z => by rw [z, nx] at e; cases e) (sy _ _ e)
  · rw [badA, badL_good gm, badL_good gn] at e1
    cases e1
theorem sclOver : FnScope ["self"] ["self"] (defScope slOver) := ⟨rfl, rfl, rfl, by decide +kernel, rfl, by decide +kernel, by decide +kernel⟩
theorem sclStocks : FnScope ["self"] ["self"] (defScope slStocks) := ⟨rfl, rfl, rfl, by decide +kernel, rfl, by decide +kernel, by decide +kernel⟩
theorem sclWishes : FnScope ["self"] ["self"] (defScope slWishes) := ⟨rfl, rfl, rfl, by decide +kernel, rfl, by decide +kernel, by decide +kernel⟩
theorem ok_over (F : Fun K "over" "Amounts.over" slOver f fd) (T : Bt mg) (A : AmC K C) : FnOk P w K mg base CX0 1 f fd ["self"] (spAmOver C) := by
  refine F.ok sclOver (fun vs H Q E h => ?_) (fun cdv A' outer s H vs Q E hr h => ?_)
  · obtain ⟨x, dx, p, q, ms, ns, rfl, _⟩ := h
    rfl
  · obtain ⟨x, dx, p, q, ms, ns, rfl, a, k⟩ := h
    refine ⟨_, (pss_one (ps_ret (pe_op op_sub (pe_callB (cr_sum rfl) (by rfl) T.sum (by decide +kernel) (pa_cons (pe_fld (pv 0) rfl) pa_nil)) (pe_callB (cr_sum rfl) (by rfl) T.sum (by decide +kernel) (pa_cons (pe_fld (pv 0) rfl) pa_nil))))), ?_⟩
    walk_at "rd"
    refine r_fldV rfl a.o A.cls A.h two_fst ?_
    walk_at "rd"
    refine r_sum (SqL.of a.h) ?_
    walk_at "rd"
    refine r_fldV rfl a.o A.cls A.w (two_snd (by decide +kernel)) ?_
    walk_at "rd"
    refine r_sum (SqL.of a.w) ?_
    walk_at "rd"
    exact k
theorem ok_stocks (F : Fun K "stocks" "Amounts.stocks" slStocks f fd) (T : Bt mg) (A : AmC K C) : FnOk P w K mg base CX0 1 f fd ["self"] (spGet C fun ms _ => ms) := by
  refine F.ok sclStocks (fun vs H Q E h => ?_) (fun cdv A' outer s H vs Q E hr h => ?_)
  · obtain ⟨x, dx, p, q, ms, ns, rfl, _⟩ := h
    rfl
  · obtain ⟨x, dx, p, q, ms, ns, rfl, a, k⟩ := h
    refine ⟨_, (pss_one (ps_ret (pe_callTy cl_lst (by rfl) T.list (by decide +kernel) (pa_cons (pe_fld (pv 0) rfl) pa_nil)))), ?_⟩
    walk_at "rd"
    refine r_fldV rfl a.o A.cls A.h two_fst ?_
    walk_at "rd"
    exact r_lstOf (SqL.of a.h) k
theorem ok_wishes (F : Fun K "wishes" "Amounts.wishes" slWishes f fd) (T : Bt mg) (A : AmC K C) : FnOk P w K mg base CX0 1 f fd ["self"] (spGet C fun _ ns => ns) := by
  refine F.ok sclWishes (fun vs H Q E h => ?_) (fun cdv A' outer s H vs Q E hr h => ?_)
  · obtain ⟨x, dx, p, q, ms, ns, rfl, _⟩ := h
    rfl
  · obtain ⟨x, dx, p, q, ms, ns, rfl, a, k⟩ := h
    refine ⟨_, (pss_one (ps_ret (pe_callTy cl_lst (by rfl) T.list (by decide +kernel) (pa_cons (pe_fld (pv 0) rfl) pa_nil)))), ?_⟩
    walk_at "rd"
    refine r_fldV rfl a.o A.cls A.w (two_snd (by decide +kernel)) ?_
    walk_at "rd"
    exact r_lstOf (SqL.of a.w) k
theorem sclEq : FnScope ["self", "other"] ["self", "other"] (defScope slEq) := ⟨rfl, rfl, rfl, by decide +kernel, rfl, by decide +kernel, by decide +kernel⟩
theorem ok_amEq (F : Fun K "__eq__" "Amounts.__eq__" slEq f fd) (T : Bt mg) (A : AmC K C) (O : OwnC K C) (gA : mg "Amounts" = some (.ref C)) : FnOk P w K mg base CX0 1 f fd ["self", "other"] (spAmEq C) := by
  refine F.ok sclEq (fun vs H Q E h => ?_) (fun cdv A' outer s H vs Q E hr h => ?_)
  · obtain ⟨x, dx, p, q, y, dy, r, s, ms, ns, ms', ns', rfl, _⟩ := h
    rfl
  · obtain ⟨x, dx, p, q, y, dy, r, s, ms, ns, ms', ns', rfl, o, o', k⟩ := h
    refine ⟨_, (pss_one (ps_ret (pe_and (pe_callB call_isi (by rfl) T.isinstance (by decide +kernel) (pa_cons (pv 1) (pa_cons (pe_glob (v := .ref C) (by rfl) gA rfl) pa_nil)))
      (pe_and (pe_cmpR (op_eqD hr.units) (pe_fld (pv 0) rfl) (pe_fld (pv 1) rfl) (nomark _)) (pe_one (pe_cmpR (op_eqD hr.units) (pe_fld (pv 0) rfl) (pe_fld (pv 1) rfl) (nomark _))))))), ?_⟩
    walk_at "rd"
    refine r_isiSelf O o'.o ?_
    walk_at "rd"
    refine r_fldV rfl o.o A.cls A.h two_fst ?_
    refine r_fldV rfl o'.o A.cls A.h two_fst ?_
    refine r_eqL (SqL.of o.h) (SqL.of o'.h) ?_
    walk_at "rd"
    by_cases e : ms = ms'
    · refine ifT (decide_eq_true e) ?_
      rw [decide_eq_true e, Bool.true_and] at k
      walk_at "rd"
      refine r_fldV rfl o.o A.cls A.w (two_snd (by decide +kernel)) ?_
      refine r_fldV rfl o'.o A.cls A.w (two_snd (by decide +kernel)) ?_
      exact r_eqL (SqL.of o.w) (SqL.of o'.w) k
    · refine ifF (decide_eq_false e) ?_
      rw [decide_eq_false e, Bool.false_and] at k
      exact k
end
end Pk
set_option Elab.async false
set_option linter.all false
set_option maxRecDepth 100000
set_option maxHeartbeats 4000000
namespace Pk
open PySem L2
local macro_rules | `(tactic| walk_at "rd") => `(tactic| repeat (first
  | with_reducible refine r_seq ?_ | with_reducible refine r_nxt ?_ | with_reducible refine r_asg ?_ | with_reducible refine r_to ?_ | with_reducible refine r_ret ?_ | with_reducible refine r_for ?_ | with_reducible refine r_lc ?_ | with_reducible refine r_lc2 ?_ | with_reducible refine r_rng1 ?_ | with_reducible refine r_list ?_ | with_reducible refine r_tupI ?_ | with_reducible refine r_drop ?_ | with_reducible refine r_ifs ?_
  | with_reducible refine r_op ?_ | with_reducible refine r_c ?_ | with_reducible refine r_var rfl ?_ | with_reducible refine r_var (by assumption) ?_ | with_reducible refine r_I0 ?_ | with_reducible refine r_un ?_ | with_reducible refine r_U ?_ | with_reducible refine r_make ?_ | with_reducible refine r_makeS ?_ | with_reducible refine r_ifE ?_ | with_reducible refine r_cm ?_ | with_reducible refine r_mkV rfl ?_ | with_reducible refine r_sub ?_
  | with_reducible refine r_nil ?_ | with_reducible refine r_cons ?_ | with_reducible refine r_cb ?_ | with_reducible refine r_sl ?_ | with_reducible refine r_noP ?_ | with_reducible refine r_part ?_ | with_reducible refine r_isI ?_ | with_reducible refine r_lst ?_ | with_reducible refine r_tup ?_ | with_reducible refine r_call ?_ | with_reducible refine r_callS ?_ | with_reducible refine r_sFldU ?_ | with_reducible refine r_chain ?_ | with_reducible refine r_enum ?_ | with_reducible refine r_zip ?_ | with_reducible refine r_rng3 ?_ | with_reducible refine r_gtup ?_ | with_reducible refine r_methU ?_
  | with_reducible refine r_test ?_ | with_reducible refine r_B ?_ | with_reducible refine r_and ?_ | with_reducible refine r_or ?_ | with_reducible refine r_not ?_ | with_reducible refine r_andV ?_ | with_reducible refine r_orV ?_ | with_reducible refine r_notV ?_ | with_reducible refine r_bl ?_ | with_reducible refine r_yes ?_ | with_reducible refine r_int ?_ | with_reducible refine r_is0 ?_ | with_reducible refine r_is1 ?_ | with_reducible refine iteT ?_ | with_reducible refine iteF ?_ | with_reducible refine ite_nF ?_ | with_reducible refine ite_nT ?_
  | with_reducible refine r_mod (by decide) ?_ | with_reducible refine r_div (by decide) (by decide) ?_ | with_reducible refine r_mulR (by decide) (by decide) ?_ | with_reducible refine r_mulL (by decide) (by decide) ?_ | with_reducible refine r_pow (by decide) (by decide) (by decide) ?_))
/-! ### Amounts.zeros, fits_size; Table.filled -/
def zerB (d e : PyData) : Option Str := if betD 1 8 d = true then (if betD 1 8 e = true then none else some "wish_count") else some "stock_count"
theorem betD_inv {lo hi : Int} {d : PyData} (h : betD lo hi d = true) : ∃ i : Int, d = .int i ∧ lo ≤ i ∧ i ≤ hi := by
  cases d with
  | int i =>
    have h2 : (decide (lo ≤ i) && decide (i ≤ hi)) = true := h
    rw [Bool.and_eq_true, decide_eq_true_eq, decide_eq_true_eq] at h2
    exact ⟨i, rfl, h2.1, h2.2⟩
  | _ => cases h
theorem Gd.zeros {i : Int} (h : 1 ≤ i) (h8 : i ≤ 8) : Gd (List.replicate i.toNat 0) := ⟨by rw [List.length_replicate]; omega, by rw [List.length_replicate]; omega, fun m hm => by rw [List.eq_of_mem_replicate hm]; exact Int.le_refl _⟩
theorem rep_flat {α : Type} (n : Nat) (a : α) : (List.replicate n [a]).flatten = List.replicate n a := by
  induction n with
  | zero => rfl
  | succ n ih => rw [List.replicate_succ, List.flatten_cons, ih, List.replicate_succ]; rfl
def spFit (C CT : Addr) : Sp := fun vs H Q _ => ∃ (x dx p q t : Addr) (ms ns : List Int) (G : Hp) (R : Rw), vs = [.ref x, .ref t] ∧ AmX C H x dx p q ms ns ∧ TbX CT G t R ∧ Same G H ∧ Q (.bl (decide (ms.length = R.length) && decide (ns.length = wd R))) H
def spZer (K : PySem.W.Frag) (C CB : Addr) : Sp := fun vs H Q E => ∃ (v u : V) (d e : PyData), vs = [.ref C, v, u] ∧ Dp K H v d ∧ Dp K H u e ∧
  (∀ i j : Int, d = .int i → e = .int j → 1 ≤ i → i ≤ 8 → 1 ≤ j → j ≤ 8 → ∀ (x dx p q : Addr) (H' : Hp), AmX C H' x dx p q (List.replicate i.toNat 0) (List.replicate j.toNat 0) → Same H H' → Q (.ref x) H') ∧
  (∀ z, zerB d e = some z → ∀ (dd : Addr) (H' : Hp), Same H H' → H dd = none → H' dd = some (.xd [("name", .str z)]) → E (.ref CB) (some dd) H')
def spChP (K : PySem.W.Frag) (CB : Addr) : Sp := fun vs H Q E => ∃ (v : V) (d : PyData), vs = [v] ∧ Dp K H v d ∧ (priceD d = true → Q .non H) ∧
  (priceD d = false → ∀ (dd : Addr) (H' : Hp), Same H H' → H dd = none → H' dd = some (.xd [("name", .str "price")]) → E (.ref CB) (some dd) H')
def filB (d e f : PyData) : Option Str := match zerB d e with
  | some z => some z
  | none => if priceD f = true then none else some "price"
theorem priceD_inv {d : PyData} (h : priceD d = true) : ∃ z, d = pD z := by
  cases d with
  | none => exact ⟨none, rfl⟩
  | int i => exact ⟨some i, rfl⟩
  | _ => cases h
def spFil (K : PySem.W.Frag) (C CB : Addr) : Sp := fun vs H Q E => ∃ (v u r : V) (d e f : PyData), vs = [.ref C, v, u, r] ∧ Dp K H v d ∧ Dp K H u e ∧ Dp K H r f ∧
  (∀ (i j : Int) (z : Option Int), d = .int i → e = .int j → f = pD z → 1 ≤ i → i ≤ 8 → 1 ≤ j → j ≤ 8 → ∀ (x : Addr) (H' G : Hp), Same H H' → TbX C G x (List.replicate i.toNat (List.replicate j.toNat z)) → Same G H' → Fresh H G → Q (.ref x) H') ∧
  (∀ z, filB d e f = some z → ∀ (dd : Addr) (H' : Hp), Same H H' → H dd = none → H' dd = some (.xd [("name", .str z)]) → E (.ref CB) (some dd) H')
theorem Gt.full {i j : Int} (z : Option Int) (h1 : 1 ≤ i) (h2 : i ≤ 8) (h3 : 1 ≤ j) (h4 : j ≤ 8) : Gt (List.replicate i.toNat (List.replicate j.toNat z)) ∧ (List.replicate i.toNat (List.replicate j.toNat z)).length = i.toNat ∧ wd (List.replicate i.toNat (List.replicate j.toNat z)) = j.toNat := by
  obtain ⟨n, rfl⟩ : ∃ n : Nat, i = ((n + 1 : Nat) : Int) := ⟨(i - 1).toNat, by omega⟩
  have w : wd (List.replicate ((n + 1 : Nat) : Int).toNat (List.replicate j.toNat z)) = j.toNat := by
    rw [Int.toNat_natCast, List.replicate_succ]
    exact List.length_replicate
  have l : (List.replicate ((n + 1 : Nat) : Int).toNat (List.replicate j.toNat z)).length = ((n + 1 : Nat) : Int).toNat := List.length_replicate
  exact ⟨⟨by rw [l]; omega, by rw [l]; omega, by rw [w]; omega, by rw [w]; omega, fun r m => by rw [w, List.eq_of_mem_replicate m, List.length_replicate]⟩, l, w⟩
abbrev slFit : Stmt := inCls 15 10
abbrev slZer : Stmt := inCls 15 1
abbrev slChP : Stmt := top 20
abbrev slFil : Stmt := inCls 23 1
section
variable {P : Program} {w : World} {K : PySem.W.Frag} {mg : Str → Option Value} {base : Heap} {C CE CB CT f : Addr} {fd : FuncData}
theorem mk_tb2 {H1 : Hp} {x dx : Addr} {v : V} {R : Rw} {Q : Hp → Prop} {E : XK} (nx : H1 x = none) (nd : H1 dx = none) (ne : dx ≠ x) (hv : Dp K H1 v (rowsD R)) (g : Gt R)
    (k : ∀ (H' G : Hp), Same H1 H' → TbX C G x R → Same G H' → Fresh H1 G → Q H') : spTbI K C CE [.ref x, v] (upd (upd H1 dx (.own x)) x (.ins C dx [])) (fun v H2 => v = .non ∧ Q H2) E := mk_tb (Q := fun _ H => Q H) nx nd ne hv g k
theorem sclFit : FnScope ["self", "table"] ["self", "table"] (defScope slFit) := ⟨rfl, rfl, rfl, by decide +kernel, rfl, by decide +kernel, by decide +kernel⟩
theorem ok_fit {fS fW : Addr} {fdS fdW : FuncData} (F : Fun K "fits_size" "Amounts.fits_size" slFit f fd) (T : Bt mg) (A : AmC K C) (B : TbC K CT) (mS : Meth K CT "stocks" fS) (oS : FnOk P w K mg base CX0 1 fS fdS ["self"] (spTStk CT)) (bS : Binds K fdS ["self"] [])
    (mW : Meth K CT "wishes" fW) (oW : FnOk P w K mg base CX0 1 fW fdW ["self"] (spTWsh CT)) (bW : Binds K fdW ["self"] []) : FnOk P w K mg base CX0 2 f fd ["self", "table"] (spFit C CT) := by
  refine F.ok sclFit (fun vs H Q E h => ?_) (fun cdv A' outer s H vs Q E hr h => ?_)
  · obtain ⟨x, dx, p, q, t, ms, ns, G, R, rfl, _⟩ := h
    rfl
  · obtain ⟨x, dx, p, q, t, ms, ns, G, R, rfl, a, tb, sG, k⟩ := h
    have hr1 := hr.mono (show 1 ≤ 1 by decide)
    obtain ⟨g, dt, e, u, es, ho, hl, hp⟩ := id tb
    refine ⟨_, (pss_one (ps_ret (pe_and (pe_cmpR op_eq (pe_callB cl_len (by rfl) T.len PySem.boot_len (pa_cons (pe_fld (pv 0) rfl) pa_nil)) (pe_meth0 (pv 1) B.O.cl mS oS hr1 bS .nil pass0) (nomark _))
      (pe_one (pe_cmpR op_eq (pe_callB cl_len (by rfl) T.len PySem.boot_len (pa_cons (pe_fld (pv 0) rfl) pa_nil)) (pe_meth0 (pv 1) B.O.cl mW oW hr1 bW .nil pass0) (nomark _)))))), ?_⟩
    have de : ∀ (m n : Nat), decide (V.int (m : Int) = V.int (n : Int)) = decide (m = n) := fun m n => decide_eq_decide.mpr ⟨fun h => Int.ofNat.inj (V.int.inj h), fun h => by rw [h]⟩
    walk_at "rd"
    refine r_fldV rfl a.o A.cls A.h two_fst ?_
    walk_at "rd"
    refine r_lenL (SqL.of a.h) ?_
    rw [List.length_map]
    walk_at "rd"
    refine ⟨t, dt, _, rfl, sG _ _ ho, two_no (by decide +kernel) (by decide +kernel), ?_⟩
    walk_at "rd"
    refine ⟨t, G, R, rfl, tb, sG, ?_⟩
    refine r_eq rfl ?_
    rw [de]
    walk_at "rd"
    by_cases e1 : ms.length = R.length
    · refine ifT (decide_eq_true e1) ?_
      rw [decide_eq_true e1, Bool.true_and] at k
      walk_at "rd"
      refine r_fldV rfl a.o A.cls A.w (two_snd (by decide +kernel)) ?_
      walk_at "rd"
      refine r_lenL (SqL.of a.w) ?_
      rw [List.length_map]
      walk_at "rd"
      refine ⟨t, dt, _, rfl, sG _ _ ho, two_no (by decide +kernel) (by decide +kernel), ?_⟩
      walk_at "rd"
      refine ⟨t, G, R, rfl, tb, sG, ?_⟩
      refine r_eq rfl ?_
      rw [de]
      exact k
    · refine ifF (decide_eq_false e1) ?_
      rw [decide_eq_false e1, Bool.false_and] at k
      exact k
theorem sclZer : FnScope ["cls", "stock_count", "wish_count"] ["cls", "stock_count", "wish_count"] (defScope slZer) := ⟨rfl, rfl, rfl, by decide +kernel, rfl, by decide +kernel, by decide +kernel⟩
theorem ok_zer (F : Fun K "zeros" "Amounts.zeros" slZer f fd) (T : Bt mg) {tk : Tok} (hM : mg "MOST_LINES" = some (.int 8 tk)) (DB : Df P w K mg base CX0 "is_between" 2 ["value", "low", "high"] (spBetD K)) (EB : De P w K mg base "InvalidBound" 3 (spErr1 K 1 CB "name") CB) (DA : Dk P w K mg base (L2.CX P w) "Amounts" 8 ["self", "stocks", "wishes"] (spAmG K C CE) C) :
    FnOk P w K mg base (L2.CX P w) 10 f fd ["cls", "stock_count", "wish_count"] (spZer K C CB) := by
  obtain ⟨fI, fdI, DA⟩ := DA
  refine F.okX sclZer (fun vs H Q E h => ?_) (fun cdv A outer s H vs Q E hr h => ?_)
  · obtain ⟨v, u, d, e, rfl, _⟩ := h
    rfl
  · obtain ⟨v, u, d, e, rfl, hd, he, k1, k2⟩ := h
    refine ⟨_, (pss_cons (ps_if (pt_not (pt_val (pe_df DB hr (by decide) (pa_cons (pv 1) (pa_cons pe_int (pa_cons (pe_glob (v := .int 8) (by rfl) hM ⟨tk, rfl⟩) pa_nil)))))) (pss_one (ps_rse rfl (takes_of rfl rfl rfl rfl) EB hr (by decide) (pa_cons pe_str pa_nil))) pss_nil)
  (pss_cons (ps_if (pt_not (pt_val (pe_df DB hr (by decide) (pa_cons (pv 2) (pa_cons pe_int (pa_cons (pe_glob (v := .int 8) (by rfl) hM ⟨tk, rfl⟩) pa_nil)))))) (pss_one (ps_rse rfl (takes_of rfl rfl rfl rfl) EB hr (by decide) (pa_cons pe_str pa_nil))) pss_nil)
  (pss_one (ps_ret (pe_mkV (i := 0) DA.mkc DA.ok (hr.mono (by decide)) rfl (Or.inl rfl) DA.bd (fun σ => passAt (takes_of rfl rfl rfl rfl) σ) (pa_cons (pe_op op_rep (pe_lst (pa_cons pe_int pa_nil)) (pv 1)) (pa_cons (pe_op op_rep (pe_lst (pa_cons pe_int pa_nil)) (pv 2)) pa_nil))))))), ?_⟩
    have raise : ∀ (z : Str) (σ : L2.St), zerB d e = some z → tMkErr CB (spErr1 K 1 CB "name") (tCons (tC (.str z)) tNil) σ H (fun cls d H' => E cls d H') := fun z σ b => by
      refine r_mkErr ?_
      walk_at "rd"
      refine r_err1 (σ := []) (.str _) (.str _) fun dd v' H' s1 h1 h2 o1 => ?_
      cases o1
      exact k2 z b dd H' s1 h1 h2
    walk_at "rd"
    refine ⟨v, d, 1, 8, rfl, hd, ?_⟩
    walk_at "rd"
    by_cases b1 : betD 1 8 d = true
    · refine ifF (by rw [b1]; rfl) ?_
      walk_at "rd"
      refine ⟨u, e, 1, 8, rfl, he, ?_⟩
      walk_at "rd"
      by_cases b2 : betD 1 8 e = true
      · refine ifF (by rw [b2]; rfl) ?_
        obtain ⟨i, rfl, i1, i8⟩ := betD_inv b1
        obtain ⟨j, rfl, j1, j8⟩ := betD_inv b2
        obtain rfl := Dp.intV hd
        obtain rfl := Dp.intV he
        walk_at "rd"
        refine ⟨by show 1 ≤ sizeLine; decide, fun l1 n1 => ?_⟩
        walk_at "rd"
        refine ⟨l1, i, [.int 0], rfl, rfl, upd_same, by omega, by omega, Nat.le_trans (show [V.int 0].length * i.toNat ≤ 8 by simp; omega) (by decide), fun q1 m1 => ?_⟩
        rw [rep_flat]
        walk_at "rd"
        refine ⟨by show 1 ≤ sizeLine; decide, fun l2 n2 => ?_⟩
        walk_at "rd"
        refine ⟨l2, j, [.int 0], rfl, rfl, upd_same, by omega, by omega, Nat.le_trans (show [V.int 0].length * j.toNat ≤ 8 by simp; omega) (by decide), fun q2 m2 => ?_⟩
        rw [rep_flat]
        walk_at "rd"
        intro x dx nx nd ne
        have s1 := Same.up (o := .lst (List.replicate i.toNat (V.int 0))) (Same.up (o := .lst [V.int 0]) (Same.refl H) n1) m1
        have s2 := Same.up (o := .lst [V.int 0]) (Same.refl _) n2
        have s3 := Same.up (o := .lst (List.replicate j.toNat (V.int 0))) s2 m2
        have rm : ∀ n : Nat, List.replicate n (V.int 0) = (List.replicate n (0 : Int)).map V.int := fun n => (List.map_replicate).symm
        refine mk_amG nx nd ne (u := .ref q2) (ms := List.replicate i.toNat 0) (ns := List.replicate j.toNat 0) (.lst (SqL.of (s3 _ _ (by rw [upd_same, rm]))) (dp_ints _)) (.lst (SqL.of (by rw [upd_same, rm])) (dp_ints _)) (.zeros i1 i8) (.zeros j1 j8) fun H' p q np nq pq am sH => ?_
        exact k1 i j rfl rfl i1 i8 j1 j8 x dx p q H' am ((s1.trans s3).trans sH)
      · refine ifT (by rw [Bool.eq_false_iff.mpr b2]; rfl) ?_
        walk_at "rd"
        exact raise "wish_count" _ (by rw [zerB, if_pos b1, if_neg b2])
    · refine ifT (by rw [Bool.eq_false_iff.mpr b1]; rfl) ?_
      walk_at "rd"
      exact raise "stock_count" _ (by rw [zerB, if_neg b1])
theorem sclChP : FnScope ["price"] ["price"] (defScope slChP) := ⟨rfl, rfl, rfl, by decide +kernel, rfl, by decide +kernel, by decide +kernel⟩
theorem ok_chP (F : Fun K "check_price" "check_price" slChP f fd) (DP : Df P w K mg base CX0 "is_price" 2 ["value"] (spPrice K)) (EB : De P w K mg base "InvalidBound" 3 (spErr1 K 1 CB "name") CB) : FnOk P w K mg base (L2.CX P w) 5 f fd ["price"] (spChP K CB) := by
  refine F.okX sclChP (fun vs H Q E h => ?_) (fun cdv A outer s H vs Q E hr h => ?_)
  · obtain ⟨v, d, rfl, _⟩ := h
    rfl
  · obtain ⟨v, d, rfl, hd, k1, k2⟩ := h
    refine ⟨_, (pss_one (ps_if (pt_not (pt_val (pe_df DP hr (by decide) (pa_cons (pv 0) pa_nil)))) (pss_one (ps_rse rfl (takes_of rfl rfl rfl rfl) EB hr (by decide) (pa_cons pe_str pa_nil))) pss_nil)), ?_⟩
    walk_at "rd"
    refine ⟨v, d, rfl, hd, ?_⟩
    walk_at "rd"
    by_cases b : priceD d = true
    · refine ifF (by rw [b]; rfl) ?_
      exact k1 b
    · refine ifT (by rw [Bool.eq_false_iff.mpr b]; rfl) ?_
      walk_at "rd"
      refine r_mkErr ?_
      walk_at "rd"
      refine r_err1 (σ := []) (.str _) (.str _) fun dd v' H' s1 h1 h2 o1 => ?_
      cases o1
      exact k2 (Bool.eq_false_iff.mpr b) dd H' s1 h1 h2
theorem sclFil : FnScope ["cls", "stock_count", "wish_count", "price", "i"] ["cls", "stock_count", "wish_count", "price"] (defScope slFil) := ⟨rfl, rfl, rfl, by decide +kernel, rfl, by decide +kernel, by decide +kernel⟩
theorem ok_fil (F : Fun K "filled" "Table.filled" slFil f fd) (T : Bt mg) {tk : Tok} (hM : mg "MOST_LINES" = some (.int 8 tk)) (DB : Df P w K mg base CX0 "is_between" 2 ["value", "low", "high"] (spBetD K)) (DP : Df P w K mg base (L2.CX P w) "check_price" 5 ["price"] (spChP K CB)) (EB : De P w K mg base "InvalidBound" 3 (spErr1 K 1 CB "name") CB) (DT : Dk P w K mg base (L2.CX P w) "Table" 8 ["self", "rows"] (spTbI K C CE) C) :
    FnOk P w K mg base (L2.CX P w) 10 f fd ["cls", "stock_count", "wish_count", "price"] (spFil K C CB) := by
  obtain ⟨fI, fdI, DT⟩ := DT
  refine F.okX sclFil (fun vs H Q E h => ?_) (fun cdv A outer s H vs Q E hr h => ?_)
  · obtain ⟨v, u, r, d, e, f0, rfl, _⟩ := h
    rfl
  · obtain ⟨v, u, r, d, e, f0, rfl, hd, he, hf, k1, k2⟩ := h
    refine ⟨_, (pss_cons (ps_if (pt_not (pt_val (pe_df DB hr (by decide) (pa_cons (pv 1) (pa_cons pe_int (pa_cons (pe_glob (v := .int 8) (by rfl) hM ⟨tk, rfl⟩) pa_nil)))))) (pss_one (ps_rse rfl (takes_of rfl rfl rfl rfl) EB hr (by decide) (pa_cons pe_str pa_nil))) pss_nil)
  (pss_cons (ps_if (pt_not (pt_val (pe_df DB hr (by decide) (pa_cons (pv 2) (pa_cons pe_int (pa_cons (pe_glob (v := .int 8) (by rfl) hM ⟨tk, rfl⟩) pa_nil)))))) (pss_one (ps_rse rfl (takes_of rfl rfl rfl rfl) EB hr (by decide) (pa_cons pe_str pa_nil))) pss_nil)
  (pss_cons (ps_expr (pe_dfS (takes_of rfl rfl rfl rfl) DP hr (by decide) (pa_cons (pv 3) pa_nil)))
  (pss_one (ps_ret (pe_mkV (i := 0) DT.mkc DT.ok (hr.mono (by decide)) rfl (Or.inl rfl) DT.bd (fun σ => passAt (takes_of rfl rfl rfl rfl) σ) (pa_cons (pe_lc (own := [("i", 4)]) (g := gName 4) rfl sclFil.nd (pi_range1 rfl T.range (pa_cons (pv 1) pa_nil)) (blkOk_by (own := [("i", 4)]) (N := ["cls", "stock_count", "wish_count", "price", "i"]) (sc := defScope slFil) (by decide +kernel)) (fun _ _ _ _ _ => pg_name (i := 4) sclFil.nd rfl (Or.inl rfl)) (fun _ _ _ _ _ => pts_nil) (fun _ _ _ _ _ => (pe_op op_rep (pe_lst (pa_cons (pv 3) pa_nil)) (pv 2)))) pa_nil))))))), ?_⟩
    have raise : ∀ (z : Str) (σ : L2.St), filB d e f0 = some z → tMkErr CB (spErr1 K 1 CB "name") (tCons (tC (.str z)) tNil) σ H (fun cls d H' => E cls d H') := fun z σ b => by
      refine r_mkErr ?_
      walk_at "rd"
      refine r_err1 (σ := []) (.str _) (.str _) fun dd v' H' s1 h1 h2 o1 => ?_
      cases o1
      exact k2 z b dd H' s1 h1 h2
    walk_at "rd"
    refine ⟨v, d, 1, 8, rfl, hd, ?_⟩
    walk_at "rd"
    by_cases b1 : betD 1 8 d = true
    · refine ifF (by rw [b1]; rfl) ?_
      walk_at "rd"
      refine ⟨u, e, 1, 8, rfl, he, ?_⟩
      walk_at "rd"
      by_cases b2 : betD 1 8 e = true
      · refine ifF (by rw [b2]; rfl) ?_
        walk_at "rd"
        have zb : zerB d e = none := by rw [zerB, if_pos b1, if_pos b2]
        refine ⟨r, f0, rfl, hf, fun pf => ?_, fun pf dd H' s1 h1 h2 => k2 "price" (by rw [filB, zb, if_neg (by rw [pf]; decide)]) dd H' s1 h1 h2⟩
        obtain ⟨i, rfl, i1, i8⟩ := betD_inv b1
        obtain ⟨j, rfl, j1, j8⟩ := betD_inv b2
        obtain ⟨z, rfl⟩ := priceD_inv pf
        obtain rfl := Dp.intV hd
        obtain rfl := Dp.intV he
        obtain rfl := dp_pV hf
        obtain ⟨gt, gl, gw⟩ := Gt.full z i1 i8 j1 j8
        walk_at "rd"
        refine ⟨_, rfl, by omega, by omega, fun D1 nD1 => lc_it walk_range (fun k H' => Same H H' ∧ ∃ fs, H' D1 = some (.lst fs) ∧ fs.length = k ∧ ∀ v, v ∈ fs → ∃ b : Addr, v = .ref b ∧ b ≠ D1 ∧ H' b = some (.lst ((List.replicate j.toNat z).map pV))) ⟨Same.up (Same.refl H) nD1, [], upd_same, rfl, fun v hv => by cases hv⟩ (fun _ _ _ _ => trivial) ?_ ?_⟩
        · rintro k y H2 H3 hk ⟨s2, fs, hD, fl, fr⟩ ⟨rfl, rfl⟩
          have hk : k < i.toNat := hk
          walk_at "rd"
          refine ⟨rfl, ?_⟩
          walk_at "rd"
          refine ⟨by show 1 ≤ sizeLine; decide, fun l2 n2 => ?_⟩
          walk_at "rd"
          refine ⟨l2, j, [pV z], rfl, rfl, upd_same, by omega, by omega, Nat.le_trans (show [pV z].length * j.toNat ≤ 8 by simp; omega) (by decide), fun q2 m2 => ?_⟩
          rw [rep_flat]
          have sq := Same.up (o := .lst (List.replicate j.toNat (pV z))) (Same.up (o := .lst [pV z]) (Same.refl H3) n2) m2
          have qD : q2 ≠ D1 := fun z' => by
            have e := (Same.up (o := .lst [pV z]) (Same.refl H3) n2) _ _ hD
            rw [← z', m2] at e; cases e
          refine ⟨fs, sq _ _ hD, by rw [fl]; exact Nat.lt_of_lt_of_le (show k < 8 by omega) (by decide), fun b o e => ?_, fs ++ [.ref q2], upd_same, by rw [List.length_append, fl]; rfl, fun v hv => ?_⟩
          · have n : b ≠ D1 := fun z => by rw [z, nD1] at e; cases e
            rw [upd_ne n]
            exact sq _ _ (s2 _ _ e)
          · rcases List.mem_append.mp hv with hv | hv
            · obtain ⟨b, e1, n1, h1⟩ := fr v hv
              exact ⟨b, e1, n1, by rw [upd_ne n1]; exact sq _ _ h1⟩
            · rw [List.mem_singleton] at hv
              exact ⟨q2, hv, qD, by rw [upd_ne qD, upd_same, List.map_replicate]⟩
        · rintro H2 ⟨s2, fs, hD, fl, fr⟩
          have fl : fs.length = i.toNat := fl
          walk_at "rd"
          intro x dx nx nd ne
          have rl : RL H2 D1 fs (List.replicate i.toNat (List.replicate j.toNat z)) := ⟨hD, by rw [fl, gl], fun k v hv => by
            obtain ⟨b, e1, n1, h1⟩ := fr v (List.mem_of_getElem? hv)
            have hk : k < i.toNat := by rw [← fl]; exact (List.getElem?_eq_some_iff.mp hv).1
            refine ⟨b, e1, ?_⟩
            rw [h1, List.getD_eq_getElem?_getD, List.getElem?_replicate, if_pos hk]
            rfl⟩
          refine mk_tb2 nx nd ne rl.dp gt fun H' G s3 t3 sG3 fG3 => ?_
          exact k1 i j z rfl rfl rfl i1 i8 j1 j8 x H' G (s2.trans s3) t3 sG3 (fG3.back s2)
      · refine ifT (by rw [Bool.eq_false_iff.mpr b2]; rfl) ?_
        walk_at "rd"
        exact raise "wish_count" _ (by rw [filB, zerB, if_pos b1, if_neg b2])
    · refine ifT (by rw [Bool.eq_false_iff.mpr b1]; rfl) ?_
      walk_at "rd"
      exact raise "stock_count" _ (by rw [filB, zerB, if_neg b1])
end
end Pk
set_option Elab.async false
set_option linter.all false
set_option maxRecDepth 100000
set_option maxHeartbeats 4000000
namespace Pk
open PySem L2
local macro_rules | `(tactic| walk_at "rd") => `(tactic| repeat (first
  | with_reducible refine r_seq ?_ | with_reducible refine r_nxt ?_ | with_reducible refine r_asg ?_ | with_reducible refine r_to ?_ | with_reducible refine r_ret ?_ | with_reducible refine r_for ?_ | with_reducible refine r_lc ?_ | with_reducible refine r_lc2 ?_ | with_reducible refine r_rng1 ?_ | with_reducible refine r_list ?_ | with_reducible refine r_tupI ?_ | with_reducible refine r_drop ?_ | with_reducible refine r_ifs ?_
  | with_reducible refine r_op ?_ | with_reducible refine r_c ?_ | with_reducible refine r_var rfl ?_ | with_reducible refine r_var (by assumption) ?_ | with_reducible refine r_I0 ?_ | with_reducible refine r_un ?_ | with_reducible refine r_U ?_ | with_reducible refine r_make ?_ | with_reducible refine r_makeS ?_ | with_reducible refine r_ifE ?_ | with_reducible refine r_cm ?_ | with_reducible refine r_mkV rfl ?_ | with_reducible refine r_sub ?_
  | with_reducible refine r_nil ?_ | with_reducible refine r_cons ?_ | with_reducible refine r_cb ?_ | with_reducible refine r_sl ?_ | with_reducible refine r_noP ?_ | with_reducible refine r_part ?_ | with_reducible refine r_isI ?_ | with_reducible refine r_lst ?_ | with_reducible refine r_tup ?_ | with_reducible refine r_call ?_ | with_reducible refine r_callS ?_ | with_reducible refine r_sFldU ?_ | with_reducible refine r_chain ?_ | with_reducible refine r_enum ?_ | with_reducible refine r_zip ?_ | with_reducible refine r_rng3 ?_ | with_reducible refine r_gtup ?_ | with_reducible refine r_methU ?_
  | with_reducible refine r_test ?_ | with_reducible refine r_B ?_ | with_reducible refine r_and ?_ | with_reducible refine r_or ?_ | with_reducible refine r_not ?_ | with_reducible refine r_andV ?_ | with_reducible refine r_orV ?_ | with_reducible refine r_notV ?_ | with_reducible refine r_bl ?_ | with_reducible refine r_yes ?_ | with_reducible refine r_int ?_ | with_reducible refine r_is0 ?_ | with_reducible refine r_is1 ?_ | with_reducible refine iteT ?_ | with_reducible refine iteF ?_ | with_reducible refine ite_nF ?_ | with_reducible refine ite_nT ?_
  | with_reducible refine r_mod (by decide) ?_ | with_reducible refine r_div (by decide) (by decide) ?_ | with_reducible refine r_mulR (by decide) (by decide) ?_ | with_reducible refine r_mulL (by decide) (by decide) ?_ | with_reducible refine r_pow (by decide) (by decide) (by decide) ?_))
/-! ### the law's own answers -/
def dueV (z : Str) : Option Int → List V
  | none => [.str "told", .str "", .int 0]
  | some k => [.str "refused", .str z, .int k]
def spDueL (K : PySem.W.Frag) : Sp := fun vs H Q _ => ∃ (z : Str) (v : V) (d : PyData), vs = [.str z, v] ∧ Dp K H v d ∧ ∀ (t : Addr) (H' : Hp), Same H H' → H' t = some (.tup (dueV z (badL d))) → Q (.ref t) H'
def spToldA (K : PySem.W.Frag) (C : Addr) : Sp := fun vs H Q _ => ∃ (x dx p q a b : Addr) (ms ns : List Int), vs = [.ref x, .ref a, .ref b] ∧ AmX C H x dx p q ms ns ∧ SqL K H a (ms.map V.int) ∧ SqL K H b (ns.map V.int) ∧ ms.length ≤ 1000 ∧ ns.length ≤ 1000 ∧ ∀ H' : Hp, Same H H' → Q (.bl true) H'
def zerD (d e : PyData) : PyData := match zerB d e with
  | some z => .tuple [.str "refused", .str z, .int 0]
  | none => match d, e with
    | .int i, .int j => .tuple [.str "told", intsD (List.replicate i.toNat 0), intsD (List.replicate j.toNat 0)]
    | _, _ => .none
theorem zerD_bad {d e : PyData} {z : Str} (h : zerB d e = some z) : zerD d e = .tuple [.str "refused", .str z, .int 0] := by
  unfold zerD
  rw [h]
theorem zerD_good {i j : Int} (i1 : 1 ≤ i) (i8 : i ≤ 8) (j1 : 1 ≤ j) (j8 : j ≤ 8) : zerD (.int i) (.int j) = .tuple [.str "told", intsD (List.replicate i.toNat 0), intsD (List.replicate j.toNat 0)] := by
  have z : zerB (.int i) (.int j) = none := by
    rw [zerB, if_pos (show betD 1 8 (.int i) = true by simp [betD, i1, i8]), if_pos (show betD 1 8 (.int j) = true by simp [betD, j1, j8])]
  unfold zerD
  rw [z]
def spZerL (K : PySem.W.Frag) : Sp := fun vs H Q _ => ∃ (v u : V) (d e : PyData), vs = [v, u] ∧ Dp K H v d ∧ Dp K H u e ∧ ∀ (r : V) (H' : Hp), Same H H' → Dp K H' r (zerD d e) → Q r H'
theorem deep_ints {n : Nat} {ms : List Int} (h : ms.length ≤ 1000) : Deep (n + 1) (intsD ms) := .lst (fun d hd => by
  obtain ⟨i, _, rfl⟩ := List.mem_map.mp hd
  exact .int i) (by rw [List.length_map]; exact h)
abbrev slDue : Stmt := top 31
abbrev slTold : Stmt := top 32
abbrev slZeL : Stmt := top 33
abbrev slZeD : Stmt := top 34
/-- Amounts, as the law uses them -/
structure AmN (P : Program) (w : World) (K : PySem.W.Frag) (mg : Str → Option Value) (base : Heap) (C CE CB CT : Addr) : Prop where
  A : AmC K C
  O : OwnC K C
  eq : ∃ f fd, Meth K C "__eq__" f ∧ FnOk P w K mg base CX0 1 f fd ["self", "other"] (spAmEq C) ∧ Binds K fd ["self", "other"] []
  stocks : ∃ f fd, Meth K C "stocks" f ∧ FnOk P w K mg base CX0 1 f fd ["self"] (spGet C fun ms _ => ms) ∧ Binds K fd ["self"] []
  wishes : ∃ f fd, Meth K C "wishes" f ∧ FnOk P w K mg base CX0 1 f fd ["self"] (spGet C fun _ ns => ns) ∧ Binds K fd ["self"] []
  over : ∃ f fd, Meth K C "over" f ∧ FnOk P w K mg base CX0 1 f fd ["self"] (spAmOver C) ∧ Binds K fd ["self"] []
  fit : ∃ f fd, Meth K C "fits_size" f ∧ FnOk P w K mg base CX0 2 f fd ["self", "table"] (spFit C CT) ∧ Binds K fd ["self", "table"] []
  made : Dk P w K mg base (L2.CX P w) "Amounts" 8 ["self", "stocks", "wishes"] (spAmG K C CE) C
structure ClM (P : Program) (w : World) (K : PySem.W.Frag) (mg : Str → Option Value) (base : Heap) (x m : Str) (n : Nat) (ps : List Str) (sp : Sp) (C : Addr) : Prop where
  ex : ∃ (g pr : Addr) (fd : FuncData) (mc : Value), mg x = some (.ref C) ∧ ClX.CRead K C mc ∧ ClX.CMet K C mc m pr g ∧ FnOk P w K mg base (L2.CX P w) n g fd ps sp ∧ Binds K fd ps []
section
variable {P : Program} {w : World} {K : PySem.W.Frag} {mg : Str → Option Value} {base : Heap} {C CE CB CT f : Addr} {fd : FuncData}
theorem sclDue : FnScope ["_law_word", "_law_entries", "_law_k"] ["_law_word", "_law_entries"] (defScope slDue) := ⟨rfl, rfl, rfl, by decide +kernel, rfl, by decide +kernel, by decide +kernel⟩
theorem ok_dueL (F : Fun K "_law_due" "_law_due" slDue f fd) (T : Bt mg) : FnOk P w K mg base CX0 1 f fd ["_law_word", "_law_entries"] (spDueL K) := by
  refine F.ok sclDue (fun vs H Q E h => ?_) (fun cdv A' outer s H vs Q E hr h => ?_)
  · obtain ⟨z, v, d, rfl, _⟩ := h
    rfl
  · obtain ⟨z, v, d, rfl, hd, k⟩ := h
    refine ⟨_, (pss_cons (ps_if (PW.pt (pw_or (pt_not (pt_val (pe_callB call_isi (by rfl) T.isinstance (by decide +kernel) (pa_cons (pv 1) (pa_cons (pe_bltn (v := .ty "list") (by rfl) T.list (by decide +kernel) rfl) pa_nil))))) (pw_or (pt_cmpR op_eq (pe_callB cl_len (by rfl) T.len (by decide +kernel) (pa_cons (pv 1) pa_nil)) pe_int (nomark _)) (pw_or1 (pt_cmpR op_gt (pe_callB cl_len (by rfl) T.len (by decide +kernel) (pa_cons (pv 1) pa_nil)) pe_int (nomark _)))))) (pss_one (ps_ret (pe_tup (pa_cons pe_str (pa_cons (pv 0) (pa_cons (pe_un un_neg pe_int) pa_nil)))))) pss_nil)
  (pss_cons (ps_for PassesOwn.never rfl (pi_range1 rfl T.range (pa_cons (pe_callB cl_len (by rfl) T.len (by decide +kernel) (pa_cons (pv 1) pa_nil)) pa_nil)) (pg_name (i := 2) sclDue.nd rfl (Or.inl rfl)) (pss_one (ps_if (PW.pt (pw_or (pt_not (pt_val (pe_callB call_isi (by rfl) T.isinstance (by decide +kernel) (pa_cons (pe_ix ix_list (pv 1) (pv 2) (fun _ _ => rfl)) (pa_cons (pe_bltn (v := .ty "int") (by rfl) T.int (by decide +kernel) rfl) pa_nil))))) (pw_or (pt_val (pe_callB call_isi (by rfl) T.isinstance (by decide +kernel) (pa_cons (pe_ix ix_list (pv 1) (pv 2) (fun _ _ => rfl)) (pa_cons (pe_bltn (v := .ty "bool") (by rfl) T.bool (by decide +kernel) rfl) pa_nil)))) (pw_or1 (pt_cmpR op_lt (pe_ix ix_list (pv 1) (pv 2) (fun _ _ => rfl)) pe_int (nomark _)))))) (pss_one (ps_ret (pe_tup (pa_cons pe_str (pa_cons (pv 0) (pa_cons (pv 2) pa_nil)))))) pss_nil)))
  (pss_one (ps_ret (pe_tup (pa_cons pe_str (pa_cons pe_str (pa_cons pe_int pa_nil)))))))), ?_⟩
    have no : badL d = some (-1) → ([V.str "refused", V.str z, V.int (-1)] : List V).length ≤ sizeLine ∧ ∀ q, H q = none → Q (.ref q) (upd H q (.tup [V.str "refused", V.str z, V.int (-1)])) := fun b => ⟨by show 3 ≤ sizeLine; decide, fun q hq => k _ _ (Same.up (Same.refl H) hq) (by rw [b]; exact upd_same)⟩
    walk_at "rd"
    refine r_isDL hd ?_
    walk_at "rd"
    by_cases e : isLD d = true
    · refine ifF (by rw [e]; rfl) ?_
      obtain ⟨ds, rfl⟩ : ∃ ds, d = .list ds := by
        cases d with
        | list ds => exact ⟨ds, rfl⟩
        | _ => cases e
      obtain ⟨a, vs, rfl, ha, hv⟩ := Dp.lstAt hd
      have vl := DpAll.len hv
      walk_at "rd"
      refine r_lenL ha ?_
      walk_at "rd"
      refine r_eq rfl ?_
      walk_at "rd"
      by_cases c0 : ds.length = 0
      · refine ifT (decide_eq_true (by rw [vl, c0]; rfl)) ?_
        walk_at "rd"
        exact no (if_pos (.inl c0))
      · refine ifF (decide_eq_false fun z => c0 (by have := V.int.inj z; omega)) ?_
        walk_at "rd"
        refine r_lenL ha ?_
        walk_at "rd"
        by_cases c8 : 8 < ds.length
        · refine ifT (decide_eq_true (by omega)) ?_
          walk_at "rd"
          exact no (if_pos (.inr c8))
        · refine ifF (decide_eq_false (by omega)) ?_
          have bd : badL (.list ds) = (firstBad ds).map Int.ofNat := if_neg (by omega)
          walk_at "rd"
          refine r_lenL ha ?_
          walk_at "rd"
          refine ⟨_, rfl, by omega, by rw [vl]; omega, for_it walk_range (fun i σ H' => ∃ u, σ = [some (.str z), some (.ref a), u] ∧ H = H' ∧ ∀ j, j < i → natD (ds.getD j .none) = true) ⟨none, rfl, rfl, fun j hj => by cases hj⟩ (fun _ _ _ _ _ => trivial) ?_ ?_⟩
          · rintro i x σ H1 H2 hi ⟨u, rfl, hH, prev⟩ ⟨rfl, rfl⟩
            subst hH
            show gName 2 (V.int (0 + (i : Int))) _ _ _
            rw [Int.zero_add]
            have hi' : i < vs.length := by simpa using hi
            obtain ⟨dy, hdy, py⟩ := DpAll.at hv (List.getElem?_eq_getElem hi')
            have gd : ds.getD i .none = dy := by rw [List.getD_eq_getElem?_getD, hdy]; rfl
            have at_ : atI vs (i : Int) = some vs[i] := atI_nat (List.getElem?_eq_getElem hi')
            have stop : natD dy = false → ([V.str "refused", V.str z, V.int (i : Int)] : List V).length ≤ sizeLine ∧ ∀ q, H q = none → Q (.ref q) (upd H q (.tup [V.str "refused", V.str z, V.int (i : Int)])) := fun o => ⟨by show 3 ≤ sizeLine; decide, fun q hq => k _ _ (Same.up (Same.refl H) hq) (by
              rw [bd, firstBad_some (by omega) prev (by rw [gd]; exact o)]
              exact upd_same)⟩
            walk_at "rd"
            refine r_ixL ha at_ ?_
            walk_at "rd"
            refine r_isDI py ?_
            walk_at "rd"
            by_cases b1 : isIB dy = true
            · refine ifF (by rw [b1]; rfl) ?_
              walk_at "rd"
              refine r_ixL ha at_ ?_
              walk_at "rd"
              refine r_isDB py ?_
              walk_at "rd"
              by_cases b2 : isBD dy = true
              · refine ifT b2 ?_
                walk_at "rd"
                exact stop (by cases dy <;> first | rfl | cases b2)
              · refine ifF (Bool.eq_false_iff.mpr b2) ?_
                walk_at "rd"
                refine r_ixL ha at_ ?_
                obtain ⟨m, rfl⟩ : ∃ m, dy = .int m := by
                  cases dy with
                  | int m => exact ⟨m, rfl⟩
                  | bool b => exact absurd rfl b2
                  | _ => cases b1
                rw [Dp.intV py]
                walk_at "rd"
                by_cases lt : m < 0
                · refine ifT (decide_eq_true lt) ?_
                  walk_at "rd"
                  exact stop (decide_eq_false (by omega))
                · refine ifF (decide_eq_false lt) ?_
                  walk_at "rd"
                  refine ⟨_, rfl, rfl, fun j hj => ?_⟩
                  by_cases ji : j < i
                  · exact prev j ji
                  · have : j = i := by omega
                    rw [this, gd]
                    exact decide_eq_true (by omega)
            · refine ifT (by rw [Bool.eq_false_iff.mpr b1]; rfl) ?_
              walk_at "rd"
              exact stop (by cases dy <;> first | rfl | exact absurd rfl b1)
          · rintro σ H1 ⟨u, rfl, rfl, prev⟩
            walk_at "rd"
            exact ⟨by show 3 ≤ sizeLine; decide, fun q hq => k _ _ (Same.up (Same.refl H) hq) (by
              rw [bd, firstBad_none (fun j hj => prev j (by simpa [vl] using hj))]
              exact upd_same)⟩
    · refine ifT (by rw [Bool.eq_false_iff.mpr e]; rfl) ?_
      walk_at "rd"
      exact no (badL_no (Bool.eq_false_iff.mpr e))
theorem sclTold : FnScope ["_law_amounts", "_law_stocks", "_law_wishes"] ["_law_amounts", "_law_stocks", "_law_wishes"] (defScope slTold) := ⟨rfl, rfl, rfl, by decide +kernel, rfl, by decide +kernel, by decide +kernel⟩
theorem ok_toldA (F : Fun K "_law_told" "_law_told" slTold f fd) (T : Bt mg) (M : AmN P w K mg base C CE CB CT) (DS : Df P w K mg base CX0 "_law_same" 3 ["_law_actual", "_law_due_here"] (spSame K 2)) : FnOk P w K mg base CX0 4 f fd ["_law_amounts", "_law_stocks", "_law_wishes"] (spToldA K C) := by
  obtain ⟨fS, fdS, mS, oS, bS⟩ := M.stocks
  obtain ⟨fW, fdW, mW, oW, bW⟩ := M.wishes
  obtain ⟨fO, fdO, mO, oO, bO⟩ := M.over
  refine F.ok sclTold (fun vs H Q E h => ?_) (fun cdv A' outer s H vs Q E hr h => ?_)
  · obtain ⟨x, dx, p, q, a, b, ms, ns, rfl, _⟩ := h
    rfl
  · obtain ⟨x, dx, p, q, a, b, ms, ns, rfl, am, ha, hb, l1, l2, k⟩ := h
    have hr1 := hr.mono (show 1 ≤ 3 by decide)
    refine ⟨_, (pss_cons (ps_if (PW.pt (pw_or (pt_not (pt_val (pe_df DS hr (by decide) (pa_cons (pe_meth0 (pv 0) M.A.cls mS oS hr1 bS .nil pass0) (pa_cons (pv 1) pa_nil))))) (pw_or1 (pt_not (pt_val (pe_df DS hr (by decide) (pa_cons (pe_meth0 (pv 0) M.A.cls mW oW hr1 bW .nil pass0) (pa_cons (pv 2) pa_nil)))))))) (pss_one (ps_ret pe_bl)) pss_nil)
  (pss_one (ps_ret (pe_df DS hr (by decide) (pa_cons (pe_meth0 (pv 0) M.A.cls mO oO hr1 bO .nil pass0) (pa_cons (pe_op op_sub (pe_callB (cr_sum rfl) (by rfl) T.sum (by decide +kernel) (pa_cons (pv 1) pa_nil)) (pe_callB (cr_sum rfl) (by rfl) T.sum (by decide +kernel) (pa_cons (pv 2) pa_nil))) pa_nil)))))), ?_⟩
    walk_at "rd"
    refine ⟨x, dx, _, rfl, am.o, two_no (by decide +kernel) (by decide +kernel), ?_⟩
    walk_at "rd"
    refine ⟨x, dx, p, q, ms, ns, rfl, am, fun r nr => ?_⟩
    have s1 := Same.up (o := .lst (ms.map V.int)) (Same.refl H) nr
    have am1 := am.same s1
    walk_at "rd"
    refine ⟨_, _, intsD ms, rfl, .lst (SqL.of upd_same) (dp_ints _), .lst (s1.seq ha) (dp_ints _), deep_ints l1, ?_⟩
    walk_at "rd"
    refine ⟨x, dx, _, rfl, am1.o, two_no (by decide +kernel) (by decide +kernel), ?_⟩
    walk_at "rd"
    refine ⟨x, dx, p, q, ms, ns, rfl, am1, fun r2 nr2 => ?_⟩
    have s2 := Same.up (o := .lst (ns.map V.int)) s1 nr2
    have am2 := am.same s2
    walk_at "rd"
    refine ⟨_, _, intsD ns, rfl, .lst (SqL.of upd_same) (dp_ints _), .lst (s2.seq hb) (dp_ints _), deep_ints l2, ?_⟩
    walk_at "rd"
    refine ⟨x, dx, _, rfl, am2.o, two_no (by decide +kernel) (by decide +kernel), ?_⟩
    walk_at "rd"
    refine ⟨x, dx, p, q, ms, ns, rfl, am2, ?_⟩
    walk_at "rd"
    refine r_sum (s2.seq ha) ?_
    walk_at "rd"
    refine r_sum (s2.seq hb) ?_
    walk_at "rd"
    exact ⟨_, _, .int (ms.sum - ns.sum), rfl, .int _, .int _, .int _, k _ s2⟩
theorem sclZeL : FnScope ["_law_one", "_law_two", "_law_amounts", "e"] ["_law_one", "_law_two"] (defScope slZeL) := ⟨rfl, rfl, rfl, by decide +kernel, rfl, by decide +kernel, by decide +kernel⟩
theorem ok_zeL (F : Fun K "_law_zeros" "_law_zeros" slZeL f fd) (M : AmN P w K mg base C CE CB CT) (Z : ClM P w K mg base "Amounts" "zeros" 10 ["cls", "stock_count", "wish_count"] (spZer K C CB) C) (EB : De P w K mg base "InvalidBound" 3 (spErr1 K 1 CB "name") CB) (fn : PySem.W.findIn K (.ref CB) "name" = some none) : FnOk P w K mg base CX0 12 f fd ["_law_one", "_law_two"] (spZerL K) := by
  obtain ⟨fI, EB⟩ := EB
  obtain ⟨fS, fdS, mS, oS, bS⟩ := M.stocks
  obtain ⟨fW, fdW, mW, oW, bW⟩ := M.wishes
  obtain ⟨gZ, pr, fdZ, mc, atA, rdA, cmA, okZ, bZ⟩ := Z.ex
  refine F.ok sclZeL (fun vs H Q E h => ?_) (fun cdv A' outer s H vs Q E hr h => ?_)
  · obtain ⟨v, u, d, e, rfl, _⟩ := h
    rfl
  · obtain ⟨v, u, d, e, rfl, hd, he, k⟩ := h
    have hr1 := hr.mono (show 1 ≤ 11 by decide)
    have hr10 := hr.mono (show 10 ≤ 11 by decide)
    refine ⟨_, (pss_one (ps_try_as (i := 3) (Wout := fun _ _ _ _ => False)
      (tb := fun W => tSeq (tAsg (tCM C (spZer K C CB) (WE W) (tC (.ref C)) (tCons (tVar 0) (tCons (tVar 1) tNil))) (gName 2)) (tRet (tTup (tCons (tC (.str "told")) (tCons (tMeth C "stocks" (spGet C fun ms _ => ms) [] E0 (tVar 2) tNil) (tCons (tMeth C "wishes" (spGet C fun _ ns => ns) [] E0 (tVar 2) tNil) tNil))))))
      (ts := fun a cls d => tRet (tTup (tCons (tC (.str "refused")) (tCons (tXf a cls d CB "name" (tVar 3)) (tCons (tC (.int 0)) tNil)))))
      rfl rfl sclZeL.nd rfl rfl ⟨rfl, by decide, Or.inl EB.at_⟩ takes0
      (fun W pn xe tk _ => (pss_cons (ps_set (i := 2) sclZeL.nd rfl (Or.inl rfl) (pe_cm (pe_glob (v := .ref C) (by rfl) atA rfl) rdA cmA okZ hr10 bZ (fun σ => passAt tk σ) (pa_cons (pv 0) (pa_cons (pv 1) pa_nil))))
        (pss_one (ps_ret (pe_tup (pa_cons pe_str (pa_cons (pe_meth0 (pv 2) M.A.cls mS oS hr1 bS .nil pass0) (pa_cons (pe_meth0 (pv 2) M.A.cls mW oW hr1 bW .nil pass0) pa_nil))))))))
      (fun a oe cls d pn hz hf => (pss_one (ps_ret (pe_tup (pa_cons pe_str (pa_cons (pe_xf EB.xf fn hz hf (pv 3)) (pa_cons pe_int pa_nil))))))))), ?_⟩
    walk_at "rd"
    refine ⟨rfl, ?_⟩
    walk_at "rd"
    refine ⟨v, u, d, e, rfl, hd, he, fun i j ei ej i1 i8 j1 j8 x dx p q H' am sH => ?_, fun z hz dd H' s1 h1 h2 => ?_⟩
    · walk_at "rd"
      refine ⟨x, dx, _, rfl, am.o, two_no (by decide +kernel) (by decide +kernel), ?_⟩
      walk_at "rd"
      refine ⟨x, dx, p, q, _, _, rfl, am, fun r nr => ?_⟩
      have s1 := Same.up (o := .lst ((List.replicate i.toNat (0 : Int)).map V.int)) (Same.refl H') nr
      have am1 := am.same s1
      walk_at "rd"
      refine ⟨x, dx, _, rfl, am1.o, two_no (by decide +kernel) (by decide +kernel), ?_⟩
      walk_at "rd"
      refine ⟨x, dx, p, q, _, _, rfl, am1, fun r2 nr2 => ?_⟩
      have s2 := Same.up (o := .lst ((List.replicate j.toNat (0 : Int)).map V.int)) (Same.refl _) nr2
      walk_at "rd"
      refine ⟨by show 3 ≤ sizeLine; decide, fun t nt => ?_⟩
      have s3 := Same.up (o := .tup [V.str "told", V.ref r, V.ref r2]) (Same.refl _) nt
      refine k _ _ (sH.trans (s1.trans (s2.trans s3))) ?_
      have zb : zerD d e = .tuple [.str "told", intsD (List.replicate i.toNat 0), intsD (List.replicate j.toNat 0)] := by
        rw [ei, ej]; exact zerD_good i1 i8 j1 j8
      rw [zb]
      exact .tup (SqT.of upd_same) (.cons (.str _) (.cons (.lst (SqL.of (s3 _ _ (s2 _ _ upd_same))) (dp_ints _)) (.cons (.lst (SqL.of (s3 _ _ upd_same)) (dp_ints _)) .nil)))
    · refine ⟨true, EB.xm, fun _ a0 _ => ?_, fun q => Bool.noConfusion q⟩
      refine r_ret ?_
      walk_at "rd"
      refine ⟨_, rfl, rfl, rfl, dd, _, _, rfl, h2, look1 _ _, ?_⟩
      walk_at "rd"
      refine ⟨by show 3 ≤ sizeLine; decide, fun t nt => k _ _ (Same.up s1 nt) ?_⟩
      rw [zerD_bad hz]
      exact .tup (SqT.of upd_same) (.cons (.str _) (.cons (.str _) (.cons (.int _) .nil)))
theorem sclZeD : FnScope ["_law_one", "_law_two", "_law_k"] ["_law_one", "_law_two"] (defScope slZeD) := ⟨rfl, rfl, rfl, by decide +kernel, rfl, by decide +kernel, by decide +kernel⟩
theorem zer_loop {H H1 : Hp} {D : Addr} {fs : List V} {k : Nat} (s : Same H H1) (nD : H D = none) (hD : H1 D = some (.lst (List.replicate k (V.int 0)))) : Same H (upd H1 D (.lst (List.replicate k (V.int 0) ++ [.int 0]))) ∧ (upd H1 D (.lst (List.replicate k (V.int 0) ++ [.int 0]))) D = some (.lst (List.replicate (k + 1) (V.int 0))) := ⟨fun b o e => by
  rw [upd_ne (fun z => by rw [z, nD] at e; cases e)]
  exact s b o e, by rw [upd_same, List.replicate_succ']⟩
theorem ok_zeD (F : Fun K "_law_zeros_due" "_law_zeros_due" slZeD f fd) (T : Bt mg) : FnOk P w K mg base CX0 1 f fd ["_law_one", "_law_two"] (spZerL K) := by
  refine F.ok sclZeD (fun vs H Q E h => ?_) (fun cdv A' outer s H vs Q E hr h => ?_)
  · obtain ⟨v, u, d, e, rfl, _⟩ := h
    rfl
  · obtain ⟨v, u, d, e, rfl, hd, he, k⟩ := h
    refine ⟨_, (pss_cons (ps_if (PW.pt (pw_or (pt_not (pt_val (pe_callB call_isi (by rfl) T.isinstance (by decide +kernel) (pa_cons (pv 0) (pa_cons (pe_bltn (v := .ty "int") (by rfl) T.int (by decide +kernel) rfl) pa_nil))))) (pw_or (pt_val (pe_callB call_isi (by rfl) T.isinstance (by decide +kernel) (pa_cons (pv 0) (pa_cons (pe_bltn (v := .ty "bool") (by rfl) T.bool (by decide +kernel) rfl) pa_nil)))) (pw_or (pt_cmpR op_lt (pv 0) pe_int (nomark _)) (pw_or1 (pt_cmpR op_gt (pv 0) pe_int (nomark _))))))) (pss_one (ps_ret (pe_tup (pa_cons pe_str (pa_cons pe_str (pa_cons pe_int pa_nil)))))) pss_nil)
  (pss_cons (ps_if (PW.pt (pw_or (pt_not (pt_val (pe_callB call_isi (by rfl) T.isinstance (by decide +kernel) (pa_cons (pv 1) (pa_cons (pe_bltn (v := .ty "int") (by rfl) T.int (by decide +kernel) rfl) pa_nil))))) (pw_or (pt_val (pe_callB call_isi (by rfl) T.isinstance (by decide +kernel) (pa_cons (pv 1) (pa_cons (pe_bltn (v := .ty "bool") (by rfl) T.bool (by decide +kernel) rfl) pa_nil)))) (pw_or (pt_cmpR op_lt (pv 1) pe_int (nomark _)) (pw_or1 (pt_cmpR op_gt (pv 1) pe_int (nomark _))))))) (pss_one (ps_ret (pe_tup (pa_cons pe_str (pa_cons pe_str (pa_cons pe_int pa_nil)))))) pss_nil)
  (pss_one (ps_ret (pe_tup (pa_cons pe_str (pa_cons (pe_lc (own := [("_law_k", 2)]) (g := gName 2) rfl sclZeD.nd (pi_range1 rfl T.range (pa_cons (pv 0) pa_nil)) (blkOk_by (own := [("_law_k", 2)]) (N := ["_law_one", "_law_two", "_law_k"]) (sc := defScope slZeD) (by decide +kernel)) (fun _ _ _ _ _ => pg_name (i := 2) sclZeD.nd rfl (Or.inl rfl)) (fun _ _ _ _ _ => pts_nil) (fun _ _ _ _ _ => pe_int)) (pa_cons (pe_lc (own := [("_law_k", 2)]) (g := gName 2) rfl sclZeD.nd (pi_range1 rfl T.range (pa_cons (pv 1) pa_nil)) (blkOk_by (own := [("_law_k", 2)]) (N := ["_law_one", "_law_two", "_law_k"]) (sc := defScope slZeD) (by decide +kernel)) (fun _ _ _ _ _ => pg_name (i := 2) sclZeD.nd rfl (Or.inl rfl)) (fun _ _ _ _ _ => pts_nil) (fun _ _ _ _ _ => pe_int)) pa_nil)))))))), ?_⟩
    have no : ∀ z : Str, zerB d e = some z → ([V.str "refused", V.str z, V.int 0] : List V).length ≤ sizeLine ∧ ∀ q, H q = none → Q (.ref q) (upd H q (.tup [V.str "refused", V.str z, V.int 0])) := fun z b => ⟨by show 3 ≤ sizeLine; decide, fun q hq => k _ _ (Same.up (Same.refl H) hq) (by
      rw [zerD_bad b]
      exact .tup (SqT.of upd_same) (.cons (.str _) (.cons (.str _) (.cons (.int _) .nil))))⟩
    have n1 : betD 1 8 d = false → ([V.str "refused", V.str "stock_count", V.int 0] : List V).length ≤ sizeLine ∧ ∀ q, H q = none → Q (.ref q) (upd H q (.tup [V.str "refused", V.str "stock_count", V.int 0])) := fun b => no "stock_count" (by rw [zerB, if_neg (by rw [b]; decide)])
    walk_at "rd"
    refine r_isDI hd ?_
    walk_at "rd"
    by_cases a1 : isIB d = true
    · refine ifF (by rw [a1]; rfl) ?_
      walk_at "rd"
      refine r_isDB hd ?_
      walk_at "rd"
      by_cases a2 : isBD d = true
      · refine ifT a2 ?_
        walk_at "rd"
        exact n1 (by cases d <;> first | rfl | cases a2)
      · refine ifF (Bool.eq_false_iff.mpr a2) ?_
        obtain ⟨i, rfl⟩ : ∃ i, d = .int i := by
          cases d with
          | int m => exact ⟨m, rfl⟩
          | bool b => exact absurd rfl a2
          | _ => cases a1
        obtain rfl := Dp.intV hd
        walk_at "rd"
        by_cases a3 : i < 1
        · refine ifT (decide_eq_true a3) ?_
          walk_at "rd"
          exact n1 (by simp [betD]; omega)
        · refine ifF (decide_eq_false a3) ?_
          walk_at "rd"
          by_cases a4 : 8 < i
          · refine ifT (decide_eq_true a4) ?_
            walk_at "rd"
            exact n1 (by simp [betD]; omega)
          · refine ifF (decide_eq_false a4) ?_
            have bi : betD 1 8 (.int i) = true := by simp [betD]; omega
            have n2 : betD 1 8 e = false → ([V.str "refused", V.str "wish_count", V.int 0] : List V).length ≤ sizeLine ∧ ∀ q, H q = none → Q (.ref q) (upd H q (.tup [V.str "refused", V.str "wish_count", V.int 0])) := fun b => no "wish_count" (by rw [zerB, if_pos bi, if_neg (by rw [b]; decide)])
            walk_at "rd"
            refine r_isDI he ?_
            walk_at "rd"
            by_cases c1 : isIB e = true
            · refine ifF (by rw [c1]; rfl) ?_
              walk_at "rd"
              refine r_isDB he ?_
              walk_at "rd"
              by_cases c2 : isBD e = true
              · refine ifT c2 ?_
                walk_at "rd"
                exact n2 (by cases e <;> first | rfl | cases c2)
              · refine ifF (Bool.eq_false_iff.mpr c2) ?_
                obtain ⟨j, rfl⟩ : ∃ j, e = .int j := by
                  cases e with
                  | int m => exact ⟨m, rfl⟩
                  | bool b => exact absurd rfl c2
                  | _ => cases c1
                obtain rfl := Dp.intV he
                walk_at "rd"
                by_cases c3 : j < 1
                · refine ifT (decide_eq_true c3) ?_
                  walk_at "rd"
                  exact n2 (by simp [betD]; omega)
                · refine ifF (decide_eq_false c3) ?_
                  walk_at "rd"
                  by_cases c4 : 8 < j
                  · refine ifT (decide_eq_true c4) ?_
                    walk_at "rd"
                    exact n2 (by simp [betD]; omega)
                  · refine ifF (decide_eq_false c4) ?_
                    have bj : betD 1 8 (.int j) = true := by simp [betD]; omega
                    walk_at "rd"
                    refine ⟨_, rfl, by omega, by omega, fun D nD => lc_it walk_range (fun k H' => Same H H' ∧ H' D = some (.lst (List.replicate k (V.int 0)))) ⟨Same.up (Same.refl H) nD, upd_same⟩ (fun _ _ _ _ => trivial) ?_ ?_⟩
                    · rintro k2 y H2 H3 hk ⟨s2, hD⟩ ⟨rfl, rfl⟩
                      have hk : k2 < i.toNat := hk
                      walk_at "rd"
                      refine ⟨rfl, ?_⟩
                      walk_at "rd"
                      exact ⟨_, hD, by rw [List.length_replicate]; exact Nat.lt_of_lt_of_le (show k2 < 8 by omega) (by decide), zer_loop (fs := []) s2 nD hD⟩
                    · rintro H2 ⟨s2, hD⟩
                      have hD : H2 D = some (.lst (List.replicate i.toNat (V.int 0))) := hD
                      walk_at "rd"
                      refine ⟨_, rfl, by omega, by omega, fun D2 nD2 => lc_it walk_range (fun k H' => Same H2 H' ∧ H' D2 = some (.lst (List.replicate k (V.int 0)))) ⟨Same.up (Same.refl H2) nD2, upd_same⟩ (fun _ _ _ _ => trivial) ?_ ?_⟩
                      · rintro k2 y H4 H3 hk ⟨s4, hD4⟩ ⟨rfl, rfl⟩
                        have hk : k2 < j.toNat := hk
                        walk_at "rd"
                        refine ⟨rfl, ?_⟩
                        walk_at "rd"
                        exact ⟨_, hD4, by rw [List.length_replicate]; exact Nat.lt_of_lt_of_le (show k2 < 8 by omega) (by decide), zer_loop (fs := []) s4 nD2 hD4⟩
                      · rintro H4 ⟨s4, hD4⟩
                        have hD4 : H4 D2 = some (.lst (List.replicate j.toNat (V.int 0))) := hD4
                        walk_at "rd"
                        refine ⟨by show 3 ≤ sizeLine; decide, fun t nt => k _ _ (Same.up (s2.trans s4) nt) ?_⟩
                        have s5 := Same.up (o := .tup [V.str "told", V.ref D, V.ref D2]) (Same.refl _) nt
                        have rm : ∀ n : Nat, List.replicate n (V.int 0) = (List.replicate n (0 : Int)).map V.int := fun n => (List.map_replicate).symm
                        rw [rm] at hD hD4
                        rw [zerD_good (by omega) (by omega) (by omega) (by omega)]
                        exact .tup (SqT.of upd_same) (.cons (.str _) (.cons (.lst (SqL.of (s5 _ _ (s4 _ _ hD))) (dp_ints _)) (.cons (.lst (SqL.of (s5 _ _ hD4)) (dp_ints _)) .nil)))
            · refine ifT (by rw [Bool.eq_false_iff.mpr c1]; rfl) ?_
              walk_at "rd"
              exact n2 (by cases e <;> first | rfl | exact absurd rfl c1)
    · refine ifT (by rw [Bool.eq_false_iff.mpr a1]; rfl) ?_
      walk_at "rd"
      exact n1 (by cases d <;> first | rfl | exact absurd rfl a1)
end
end Pk
set_option Elab.async false
set_option linter.all false
set_option maxRecDepth 100000
set_option maxHeartbeats 4000000
namespace Pk
open PySem L2
local macro_rules | `(tactic| walk_at "rd") => `(tactic| repeat (first
  | with_reducible refine r_seq ?_ | with_reducible refine r_nxt ?_ | with_reducible refine r_asg ?_ | with_reducible refine r_to ?_ | with_reducible refine r_ret ?_ | with_reducible refine r_for ?_ | with_reducible refine r_lc ?_ | with_reducible refine r_lc2 ?_ | with_reducible refine r_rng1 ?_ | with_reducible refine r_list ?_ | with_reducible refine r_tupI ?_ | with_reducible refine r_drop ?_ | with_reducible refine r_ifs ?_
  | with_reducible refine r_op ?_ | with_reducible refine r_c ?_ | with_reducible refine r_var rfl ?_ | with_reducible refine r_var (by assumption) ?_ | with_reducible refine r_I0 ?_ | with_reducible refine r_un ?_ | with_reducible refine r_U ?_ | with_reducible refine r_make ?_ | with_reducible refine r_makeS ?_ | with_reducible refine r_ifE ?_ | with_reducible refine r_cm ?_ | with_reducible refine r_mkV rfl ?_ | with_reducible refine r_sub ?_
  | with_reducible refine r_nil ?_ | with_reducible refine r_cons ?_ | with_reducible refine r_cb ?_ | with_reducible refine r_sl ?_ | with_reducible refine r_noP ?_ | with_reducible refine r_part ?_ | with_reducible refine r_isI ?_ | with_reducible refine r_lst ?_ | with_reducible refine r_tup ?_ | with_reducible refine r_call ?_ | with_reducible refine r_callS ?_ | with_reducible refine r_sFldU ?_ | with_reducible refine r_chain ?_ | with_reducible refine r_enum ?_ | with_reducible refine r_zip ?_ | with_reducible refine r_rng3 ?_ | with_reducible refine r_gtup ?_ | with_reducible refine r_methU ?_
  | with_reducible refine r_test ?_ | with_reducible refine r_B ?_ | with_reducible refine r_and ?_ | with_reducible refine r_or ?_ | with_reducible refine r_not ?_ | with_reducible refine r_andV ?_ | with_reducible refine r_orV ?_ | with_reducible refine r_notV ?_ | with_reducible refine r_bl ?_ | with_reducible refine r_yes ?_ | with_reducible refine r_int ?_ | with_reducible refine r_is0 ?_ | with_reducible refine r_is1 ?_ | with_reducible refine iteT ?_ | with_reducible refine iteF ?_ | with_reducible refine ite_nF ?_ | with_reducible refine ite_nT ?_
  | with_reducible refine r_mod (by decide) ?_ | with_reducible refine r_div (by decide) (by decide) ?_ | with_reducible refine r_mulR (by decide) (by decide) ?_ | with_reducible refine r_mulL (by decide) (by decide) ?_ | with_reducible refine r_pow (by decide) (by decide) (by decide) ?_))
/-! ### the lists of amounts that are drawn -/
/-- the heap but for what stands at p -/
def offp (p : Addr) (H : Hp) : Hp := fun a => if a = p then none else H a
theorem offp_sub {p : Addr} {H : Hp} : Same (offp p H) H := fun a o e => by
  unfold offp at e
  split at e
  · cases e
  · exact e
theorem offp_p {p : Addr} {H : Hp} : offp p H p = none := by simp [offp]
theorem offp_at {p a : Addr} {H : Hp} (n : a ≠ p) : offp p H a = H a := by simp [offp, n]
theorem offp_part {p : Addr} {G H : Hp} (s : Same G H) (n : G p = none) : Same G (offp p H) := fun a o e => by
  rw [offp_at (fun z => by rw [z, n] at e; cases e)]
  exact s a o e
theorem RL.offp {p : Addr} {H : Hp} {e : Addr} {es : List V} {R : Rw} (l : RL H e es R) (n : e ≠ p) (m : ∀ (i : Nat) (a : Addr), es[i]? = some (V.ref a) → a ≠ p) : RL (Pk.offp p H) e es R := ⟨by rw [offp_at n]; exact l.at_, l.len, fun i v h => by
  obtain ⟨a, e1, e2⟩ := l.row i v h
  exact ⟨a, e1, by rw [offp_at (m i a (by rw [h, e1]))]; exact e2⟩⟩
def spListL (K : PySem.W.Frag) : Sp := fun vs H Q _ => ∃ (p c : Addr) (ns : List Int), vs = [.ref p] ∧ PoolAt H p c ns ∧ ∀ (v : V) (d : PyData) (H' : Hp), Keep p H H' → PoolAt H' p c ns → Dp K (offp p H') v d → Ni 3 d → Q v H'
theorem DpAll.set {K : PySem.W.Frag} {H : Hp} {v : V} {d : PyData} : ∀ {vs : List V} {ds : List PyData}, DpAll K H vs ds → Dp K H v d → ∀ i, DpAll K H (vs.set i v) (ds.set i d)
  | _, _, .nil, _, _ => .nil
  | _, _, .cons h t, g, 0 => .cons g t
  | _, _, .cons h t, g, i + 1 => .cons h (DpAll.set t g i)
theorem ixN_neg1 {n : Nat} (h : 0 < n) : ixN n (-1) = some (n - 1) := by
  unfold ixN
  rw [if_neg (by decide), if_pos (by omega)]
  congr 1
  omega
theorem Ni.ints {n : Nat} (ms : List Int) : Ni (n + 1) (intsD ms) := Ni.list fun d hd => by
  obtain ⟨i, _, rfl⟩ := List.mem_map.mp hd
  exact .int i
theorem bad_at {x : Int} (i : Nat) (v : V) (e : [V.int (-1), V.bl true, V.bl false, V.str "1", V.non, V.int x][i]? = some v) : ∃ d, (∀ (K : PySem.W.Frag) (H : Hp), Dp K H v d) ∧ Ni 2 d := by
  match i, e with
  | 0, e => cases (Option.some.inj e); exact ⟨.int (-1), fun _ _ => .int _, .int _⟩
  | 1, e => cases (Option.some.inj e); exact ⟨.bool true, fun _ _ => .bl _, .bl _⟩
  | 2, e => cases (Option.some.inj e); exact ⟨.bool false, fun _ _ => .bl _, .bl _⟩
  | 3, e => cases (Option.some.inj e); exact ⟨.str "1", fun _ _ => .str _, ⟨by decide +kernel, by simp [PyData.depth], rfl⟩⟩
  | 4, e => cases (Option.some.inj e); exact ⟨.none, fun _ _ => .non, .non⟩
  | 5, e => cases (Option.some.inj e); exact ⟨.int x, fun _ _ => .int _, .int _⟩
  | i + 6, e => simp at e
abbrev slList : Stmt := top 30
section
variable {P : Program} {w : World} {K : PySem.W.Frag} {mg : Str → Option Value} {base : Heap} {f : Addr} {fd : FuncData}
theorem sclList : FnScope ["_law_pool_here", "_law_choice", "_law_many", "_law_entries", "_law_at", "_law_k"] ["_law_pool_here"] (defScope slList) := ⟨rfl, rfl, rfl, by decide +kernel, rfl, by decide +kernel, by decide +kernel⟩
theorem ok_list (F : Fun K "_law_list" "_law_list" slList f fd) (T : Bt mg) (DD : Df P w K mg base CX0 "_law_draw" 2 ["_law_pool_here", "_law_size"] spDraw) (DN : Df P w K mg base CX0 "_law_number" 3 ["_law_pool_here", "_law_parts"] spNum) : FnOk P w K mg base CX0 4 f fd ["_law_pool_here"] (spListL K) := by
  refine F.ok sclList (fun vs H Q E h => ?_) (fun cdv A outer s H vs Q E hr h => ?_)
  · obtain ⟨p, c, ns, rfl, _⟩ := h
    rfl
  · obtain ⟨p, c, ns, rfl, hp, k⟩ := h
    refine ⟨_, (pss_cons (ps_set (i := 1) sclList.nd rfl (Or.inl rfl) (pe_df DD hr (by decide) (pa_cons (pv 0) (pa_cons pe_int pa_nil))))
  (pss_cons (ps_set (i := 2) sclList.nd rfl (Or.inl rfl) (pe_op op_add pe_int (pe_df DD hr (by decide) (pa_cons (pv 0) (pa_cons pe_int pa_nil)))))
  (pss_cons (ps_setLc (i := 3) (own := [("_law_k", 5)]) (g := gName 5) rfl sclList.nd rfl rfl (sw_true rfl rfl rfl (by decide +kernel)) (pi_range1 rfl T.range (pa_cons (pv 2) pa_nil)) (blkOk_by (own := [("_law_k", 5)]) (N := ["_law_pool_here", "_law_choice", "_law_many", "_law_entries", "_law_at", "_law_k"]) (sc := defScope slList) (by decide +kernel)) (fun _ _ _ _ _ => pg_name (i := 5) sclList.nd rfl (Or.inl rfl)) (fun _ _ _ _ _ => pts_nil) (fun _ _ _ _ _ => (pe_df DN hr (by decide) (pa_cons (pv 0) (pa_cons (pe_df DD hr (by decide) (pa_cons (pv 0) (pa_cons pe_int pa_nil))) pa_nil)))))
  (pss_cons (ps_set (i := 4) sclList.nd rfl (Or.inl rfl) (pe_df DD hr (by decide) (pa_cons (pv 0) (pa_cons (pv 2) pa_nil))))
  (C8.pss_cut (ps_if (pt_cmpR op_eq (pv 1) pe_int (nomark _)) (pss_one (ps_asg (pe_ix ix_list (pe_lst (pa_cons (pe_un un_neg pe_int) (pa_cons pe_bl (pa_cons pe_bl (pa_cons pe_str (pa_cons pe_non (pa_cons (pe_un un_neg (pe_op op_pow pe_int pe_int)) pa_nil))))))) (pe_df DD hr (by decide) (pa_cons (pv 0) (pa_cons pe_int pa_nil))) (fun _ _ => rfl)) (pg_sub (pv 3) (pv 4) set_list))) pss_nil)
  (C8.pss_cut (ps_if (pt_cmpR op_eq (pv 1) pe_int (nomark _)) (pss_one (ps_set (i := 3) sclList.nd rfl (Or.inl rfl) (pe_lst (pa_cons pe_int (pa_cons pe_int (pa_cons pe_int (pa_cons pe_int (pa_cons pe_int (pa_cons pe_int (pa_cons pe_int (pa_cons pe_int (pa_cons pe_int pa_nil)))))))))))) pss_nil)
  (C8.pss_cut (ps_if (pt_cmpR op_eq (pv 1) pe_int (nomark _)) (pss_one (ps_set (i := 3) sclList.nd rfl (Or.inl rfl) (pe_ix ix_list (pe_lst (pa_cons (pe_lst pa_nil) (pa_cons (pe_callTy cl_tup (by rfl) T.tuple (by decide +kernel) (pa_cons (pv 3) pa_nil)) (pa_cons pe_non (pa_cons pe_int pa_nil))))) (pe_df DD hr (by decide) (pa_cons (pv 0) (pa_cons pe_int pa_nil))) (fun _ _ => rfl)))) pss_nil)
  (C8.pss_cut (ps_if (pt_cmpR op_eq (pv 1) pe_int (nomark _)) (pss_cons (ps_asg (pe_un un_neg pe_int) (pg_sub (pv 3) (pe_un un_neg pe_int) set_list))
  (pss_one (ps_asg pe_non (pg_sub (pv 3) (pv 4) set_list)))) pss_nil)
  (pss_one (ps_ret (pv 3))))))))))), ?_⟩
    walk_at "rd"
    refine ⟨p, c, ns, 9, rfl, hp, by decide, by decide, fun ch H1 c0 c1 k1 p1 => ?_⟩
    walk_at "rd"
    refine ⟨p, c, ns, 8, rfl, p1, by decide, by decide, fun m0 H2 m1 m2 k2 p2 => ?_⟩
    walk_at "rd"
    refine ⟨_, rfl, by omega, by omega, fun D nD => ?_⟩
    have pD : D ≠ p := p2.apart nD
    have cD : D ≠ c := fun z => by
      obtain ⟨o, e⟩ := p2.exC
      rw [z, e] at nD; cases nD
    have fD : H D = none := (Keep.trans k1 k2).free nD pD
    refine lc_it walk_range (fun i H' => Keep p H2 H' ∧ PoolAt H' p c ns ∧ ∃ ms : List Int, H' D = some (.lst (ms.map V.int)) ∧ ms.length = i) ⟨Keep.refl.put nD, p2.new nD, [], upd_same, rfl⟩ (fun _ _ _ _ => trivial) ?_ ?_
    · rintro i y H3 H4 hi ⟨k3, p3, ms, hD, ml⟩ ⟨rfl, rfl⟩
      have hi : i < (1 + m0).toNat := hi
      walk_at "rd"
      refine ⟨rfl, ?_⟩
      walk_at "rd"
      refine ⟨p, c, ns, 6, rfl, p3, by decide, by decide, fun q H5 q0 q1 k5 p5 => ?_⟩
      walk_at "rd"
      refine ⟨p, c, ns, q, rfl, p5, q0, by omega, fun n H6 n0 _ k6 p6 => ?_⟩
      refine ⟨_, k6 _ _ pD (k5 _ _ pD hD), by rw [List.length_map, ml]; exact Nat.lt_of_lt_of_le (show i < 9 by omega) (by decide), (Keep.trans k3 (Keep.trans k5 k6)).put nD, p6.off pD cD, ms ++ [n], ?_, by rw [List.length_append, ml]; rfl⟩
      rw [upd_same, List.map_append]
      rfl
    · rintro H3 ⟨k3, p3, ms, hD, ml⟩
      have ml : ms.length = (1 + m0).toNat := ml
      walk_at "rd"
      refine ⟨p, c, ns, 1 + m0, rfl, p3, by omega, by omega, fun a0 H4 a1 a2 k4 p4 => ?_⟩
      obtain ⟨at0, rfl⟩ : ∃ n : Nat, a0 = (n : Int) := ⟨a0.toNat, by omega⟩
      have hat : at0 < (ms.map V.int).length := by rw [List.length_map, ml]; omega
      have kH : Keep p H H4 := Keep.trans (Keep.trans k1 k2) (Keep.trans k3 k4)
      have h4 := k4 _ _ pD hD
      have no : ∀ k : Int, ch ≠ k → decide (V.int ch = V.int k) = false := fun k h => decide_eq_false fun z => h (V.int.inj z)
      have k8 : ∀ (v : V) (H' : Hp), Keep p H H' → PoolAt H' p c ns → ((∃ d, Dp K (offp p H') v d ∧ Ni 3 d ∧ 5 ≤ ch ∧ ch ≤ 8) ∨ (v = .ref D ∧ H4 = H' ∧ (ch < 5 ∨ 8 < ch))) → Q v H' := fun v H' kk pp hh => by
        rcases hh with ⟨d, hd, nd, _, _⟩ | ⟨rfl, rfl, _⟩
        · exact k v d H' kk pp hd nd
        · exact k _ (intsD ms) H4 kk pp (.lst (SqL.of (by rw [offp_at pD]; exact h4)) (dp_ints ms)) (Ni.ints ms)
      walk_at "rd"
      refine r_cut (fun σ H' => Keep p H H' ∧ PoolAt H' p c ns ∧ ∃ v, σ = [some (.ref p), some (.int ch), some (.int (1 + m0)), some v, some (.int (at0 : Int)), none] ∧ ((∃ d, Dp K (offp p H') v d ∧ Ni 3 d ∧ 5 ≤ ch ∧ ch ≤ 5) ∨ (v = .ref D ∧ H4 = H' ∧ (ch < 5 ∨ 5 < ch)))) ?_ ?_
      · walk_at "rd"
        refine r_eq rfl ?_
        walk_at "rd"
        refine ite_dec (fun e => ?_) (fun e => ?_)
        · have e := V.int.inj e
          walk_at "rd"
          refine ⟨by show 6 ≤ sizeLine; decide, fun L nL => ?_⟩
          walk_at "rd"
          refine ⟨p, c, ns, 6, rfl, p4.new nL, by decide, by decide, fun b0 H5 b1 b2 k5 p5 => ?_⟩
          obtain ⟨bi, rfl⟩ : ∃ n : Nat, b0 = (n : Int) := ⟨b0.toNat, by omega⟩
          obtain ⟨bv, ebv⟩ : ∃ v, [V.int (-1), V.bl true, V.bl false, V.str "1", V.non, V.int (-(10 ^ Int.toNat 20))][bi]? = some v := ⟨_, List.getElem?_eq_getElem (show bi < 6 by omega)⟩
          obtain ⟨bd, hb, nb⟩ := bad_at bi bv ebv
          refine r_ixL (SqL.of (k5 _ _ (p4.apart nL) upd_same)) (atI_nat ebv) ?_
          walk_at "rd"
          refine r_setL (k5 _ _ pD (later h4 nL)) (ixN_nat hat) ?_
          refine ⟨(Keep.trans (kH.new nL) k5).put fD, p5.off pD cD, _, rfl, .inl ⟨.list ((ms.map .int).set at0 bd), .lst (SqL.of (by rw [offp_at pD, upd_same])) (DpAll.set (dp_ints ms) (hb _ _) at0), Ni.list fun d hd => ?_, by omega, by omega⟩⟩
          rcases List.mem_or_eq_of_mem_set hd with h | h
          · obtain ⟨i, _, rfl⟩ := List.mem_map.mp h
            exact .int i
          · rw [h]; exact nb
        · have e : ch ≠ 5 := fun z => e (by rw [z])
          exact ⟨kH, p4, _, rfl, .inr ⟨rfl, rfl, by omega⟩⟩
      rintro σ HX ⟨kX, pX, v, rfl, hb⟩
      refine r_cut (fun σ H' => Keep p H H' ∧ PoolAt H' p c ns ∧ ∃ v, σ = [some (.ref p), some (.int ch), some (.int (1 + m0)), some v, some (.int (at0 : Int)), none] ∧ ((∃ d, Dp K (offp p H') v d ∧ Ni 3 d ∧ 5 ≤ ch ∧ ch ≤ 6) ∨ (v = .ref D ∧ H4 = H' ∧ (ch < 5 ∨ 6 < ch)))) ?_ ?_
      · rcases hb with ⟨d, dv, nd, l4, lk⟩ | ⟨rfl, rfl, lk⟩
        · walk_at "rd"
          refine r_eq rfl ?_
          refine ⟨_, rfl, ifF (no 6 (by omega)) ?_⟩
          exact ⟨kX, pX, _, rfl, .inl ⟨d, dv, nd, l4, by omega⟩⟩
        · walk_at "rd"
          refine r_eq rfl ?_
          walk_at "rd"
          refine ite_dec (fun e => ?_) (fun e => ?_)
          · have e := V.int.inj e
            walk_at "rd"
            refine ⟨by show 9 ≤ sizeLine; decide, fun L nL => ?_⟩
            walk_at "rd"
            exact ⟨kX.new nL, pX.new nL, _, rfl, .inl ⟨intsD [0, 1, 2, 3, 4, 5, 6, 7, 8], .lst (SqL.of (by rw [offp_at (pX.apart nL), upd_same]; rfl)) (dp_ints [0, 1, 2, 3, 4, 5, 6, 7, 8]), Ni.ints _, by omega, by omega⟩⟩
          · have e : ch ≠ 6 := fun z => e (by rw [z])
            exact ⟨kX, pX, _, rfl, .inr ⟨rfl, rfl, by omega⟩⟩
      rintro σ HX ⟨kX, pX, v, rfl, hb⟩
      refine r_cut (fun σ H' => Keep p H H' ∧ PoolAt H' p c ns ∧ ∃ v, σ = [some (.ref p), some (.int ch), some (.int (1 + m0)), some v, some (.int (at0 : Int)), none] ∧ ((∃ d, Dp K (offp p H') v d ∧ Ni 3 d ∧ 5 ≤ ch ∧ ch ≤ 7) ∨ (v = .ref D ∧ H4 = H' ∧ (ch < 5 ∨ 7 < ch)))) ?_ ?_
      · rcases hb with ⟨d, dv, nd, l4, lk⟩ | ⟨rfl, rfl, lk⟩
        · walk_at "rd"
          refine r_eq rfl ?_
          refine ⟨_, rfl, ifF (no 7 (by omega)) ?_⟩
          exact ⟨kX, pX, _, rfl, .inl ⟨d, dv, nd, l4, by omega⟩⟩
        · walk_at "rd"
          refine r_eq rfl ?_
          walk_at "rd"
          refine ite_dec (fun e => ?_) (fun e => ?_)
          · have e := V.int.inj e
            walk_at "rd"
            refine ⟨by show 0 ≤ sizeLine; decide, fun t1 n1 => ?_⟩
            walk_at "rd"
            refine r_tupOf (SqL.of (later h4 n1)) fun t2 n2 => ?_
            walk_at "rd"
            refine ⟨by show 4 ≤ sizeLine; decide, fun L nL => ?_⟩
            walk_at "rd"
            have p3 := PoolAt.new (o := .tup (ms.map V.int)) (PoolAt.new (o := .lst []) pX n1) n2
            have kk := Keep.new (o := .lst [V.ref t1, V.ref t2, V.non, V.int 4]) (Keep.new (o := .tup (ms.map V.int)) (Keep.new (o := .lst []) kX n1) n2) nL
            refine ⟨p, c, ns, 4, rfl, p3.new nL, by decide, by decide, fun b0 H5 b1 b2 k5 p5 => ?_⟩
            obtain ⟨bi, rfl⟩ : ∃ n : Nat, b0 = (n : Int) := ⟨b0.toNat, by omega⟩
            obtain ⟨bv, ebv⟩ : ∃ v, [V.ref t1, V.ref t2, V.non, V.int 4][bi]? = some v := ⟨_, List.getElem?_eq_getElem (show bi < 4 by omega)⟩
            refine r_ixL (SqL.of (k5 _ _ (p3.apart nL) upd_same)) (atI_nat ebv) ?_
            walk_at "rd"
            have t1p := pX.apart n1
            have t2p := (PoolAt.new (o := .lst []) pX n1).apart n2
            have ok : ∃ d, Dp K (offp p H5) bv d ∧ Ni 3 d := by
              match bi, ebv with
              | 0, e => cases (Option.some.inj e); exact ⟨.list [], .lst (SqL.of (by rw [offp_at t1p]; exact k5 _ _ t1p (later (later upd_same n2) nL))) .nil, Ni.list fun d hd => by cases hd⟩
              | 1, e => cases (Option.some.inj e); exact ⟨.tuple (ms.map .int), .tup (SqT.of (by rw [offp_at t2p]; exact k5 _ _ t2p (later upd_same nL))) (dp_ints ms), Ni.tuple fun d hd => by
                  obtain ⟨i, _, rfl⟩ := List.mem_map.mp hd
                  exact .int i⟩
              | 2, e => cases (Option.some.inj e); exact ⟨.none, .non, .non⟩
              | 3, e => cases (Option.some.inj e); exact ⟨.int 4, .int _, .int _⟩
              | bi + 4, e => simp at e
            obtain ⟨d, hd, nd⟩ := ok
            exact ⟨Keep.trans kk k5, p5, _, rfl, .inl ⟨d, hd, nd, by omega, by omega⟩⟩
          · have e : ch ≠ 7 := fun z => e (by rw [z])
            exact ⟨kX, pX, _, rfl, .inr ⟨rfl, rfl, by omega⟩⟩
      rintro σ HX ⟨kX, pX, v, rfl, hb⟩
      refine r_cut (fun σ H' => Keep p H H' ∧ PoolAt H' p c ns ∧ ∃ v, σ = [some (.ref p), some (.int ch), some (.int (1 + m0)), some v, some (.int (at0 : Int)), none] ∧ ((∃ d, Dp K (offp p H') v d ∧ Ni 3 d ∧ 5 ≤ ch ∧ ch ≤ 8) ∨ (v = .ref D ∧ H4 = H' ∧ (ch < 5 ∨ 8 < ch)))) ?_ ?_
      · rcases hb with ⟨d, dv, nd, l4, lk⟩ | ⟨rfl, rfl, lk⟩
        · walk_at "rd"
          refine r_eq rfl ?_
          refine ⟨_, rfl, ifF (no 8 (by omega)) ?_⟩
          exact ⟨kX, pX, _, rfl, .inl ⟨d, dv, nd, l4, by omega⟩⟩
        · walk_at "rd"
          refine r_eq rfl ?_
          walk_at "rd"
          refine ite_dec (fun e => ?_) (fun e => ?_)
          · have e := V.int.inj e
            walk_at "rd"
            refine r_setL h4 (ixN_neg1 (by omega)) ?_
            walk_at "rd"
            refine r_setL upd_same (ixN_nat (by rw [List.length_set]; exact hat)) ?_
            refine ⟨(Keep.put (Keep.put kX fD) fD), (pX.off pD cD).off pD cD, _, rfl, .inl ⟨.list (((ms.map .int).set ((ms.map V.int).length - 1) (.int (-1))).set at0 .none), .lst (SqL.of (by rw [offp_at pD, upd_same])) (DpAll.set (DpAll.set (dp_ints ms) (.int _) _) .non at0), Ni.list fun d hd => ?_, by omega, by omega⟩⟩
            rcases List.mem_or_eq_of_mem_set hd with h | h
            · rcases List.mem_or_eq_of_mem_set h with h | h
              · obtain ⟨i, _, rfl⟩ := List.mem_map.mp h
                exact .int i
              · rw [h]; exact .int _
            · rw [h]; exact .non
          · have e : ch ≠ 8 := fun z => e (by rw [z])
            exact ⟨kX, pX, _, rfl, .inr ⟨rfl, rfl, by omega⟩⟩
      rintro σ HX ⟨kX, pX, v, rfl, hb⟩
      walk_at "rd"
      exact k8 v HX kX pX hb
end
end Pk
set_option Elab.async false
set_option linter.all false
set_option maxRecDepth 100000
set_option maxHeartbeats 4000000
namespace Pk
open PySem L2
local macro_rules | `(tactic| walk_at "rd") => `(tactic| repeat (first
  | with_reducible refine r_seq ?_ | with_reducible refine r_nxt ?_ | with_reducible refine r_asg ?_ | with_reducible refine r_to ?_ | with_reducible refine r_ret ?_ | with_reducible refine r_for ?_ | with_reducible refine r_lc ?_ | with_reducible refine r_lc2 ?_ | with_reducible refine r_rng1 ?_ | with_reducible refine r_list ?_ | with_reducible refine r_tupI ?_ | with_reducible refine r_drop ?_ | with_reducible refine r_ifs ?_
  | with_reducible refine r_op ?_ | with_reducible refine r_c ?_ | with_reducible refine r_var rfl ?_ | with_reducible refine r_var (by assumption) ?_ | with_reducible refine r_I0 ?_ | with_reducible refine r_un ?_ | with_reducible refine r_U ?_ | with_reducible refine r_make ?_ | with_reducible refine r_makeS ?_ | with_reducible refine r_ifE ?_ | with_reducible refine r_cm ?_ | with_reducible refine r_mkV rfl ?_ | with_reducible refine r_sub ?_
  | with_reducible refine r_nil ?_ | with_reducible refine r_cons ?_ | with_reducible refine r_cb ?_ | with_reducible refine r_sl ?_ | with_reducible refine r_noP ?_ | with_reducible refine r_part ?_ | with_reducible refine r_isI ?_ | with_reducible refine r_lst ?_ | with_reducible refine r_tup ?_ | with_reducible refine r_call ?_ | with_reducible refine r_callS ?_ | with_reducible refine r_sFldU ?_ | with_reducible refine r_chain ?_ | with_reducible refine r_enum ?_ | with_reducible refine r_zip ?_ | with_reducible refine r_rng3 ?_ | with_reducible refine r_gtup ?_ | with_reducible refine r_methU ?_
  | with_reducible refine r_test ?_ | with_reducible refine r_B ?_ | with_reducible refine r_and ?_ | with_reducible refine r_or ?_ | with_reducible refine r_not ?_ | with_reducible refine r_andV ?_ | with_reducible refine r_orV ?_ | with_reducible refine r_notV ?_ | with_reducible refine r_bl ?_ | with_reducible refine r_yes ?_ | with_reducible refine r_int ?_ | with_reducible refine r_is0 ?_ | with_reducible refine r_is1 ?_ | with_reducible refine iteT ?_ | with_reducible refine iteF ?_ | with_reducible refine ite_nF ?_ | with_reducible refine ite_nT ?_
  | with_reducible refine r_mod (by decide) ?_ | with_reducible refine r_div (by decide) (by decide) ?_ | with_reducible refine r_mulR (by decide) (by decide) ?_ | with_reducible refine r_mulL (by decide) (by decide) ?_ | with_reducible refine r_pow (by decide) (by decide) (by decide) ?_))
def spLaw (K : PySem.W.Frag) : Sp := fun vs H Q _ => ∃ (l : Addr) (ns : List Int), vs = [.ref l] ∧ SqL K H l (ns.map V.int) ∧ ns.length ≤ 63 ∧ ∀ H' : Hp, Q (.bl true) H'
abbrev slaw : Stmt := top 35
abbrev nmLaw : List Str := ["_law_script", "_law_pool_here", "_law_stocks", "_law_wishes", "_law_due_here", "_law_passed", "_law_actual", "_law_amounts", "e", "_law_one", "_law_two", "_law_height", "_law_width", "_law_suited", "_law_first", "_law_told_here"]
theorem sclaw : FnScope nmLaw ["_law_script"] (defScope slaw) := ⟨rfl, rfl, rfl, by decide +kernel, rfl, by decide +kernel, by decide +kernel⟩
abbrev xLaw (P : Program) (w : World) (K : PySem.W.Frag) (mg : Str → Option Value) (base : Heap) (f : Addr) (cdv : Value) (A : Around) (outer : List Env) (s : Shared) (H0 : Hp) (E : XK) : Cx := (cxOf CX0 P w K mg base nmLaw "law" (defScope slaw) f cdv A outer s H0 E).nox
structure LD (P : Program) (w : World) (K : PySem.W.Frag) (mg : Str → Option Value) (base : Heap) (C CE CB CT : Addr) : Prop where
  lPool : Df P w K mg base CX0 "_law_pool" 1 ["_law_script"] (spPool K)
  lDraw : Df P w K mg base CX0 "_law_draw" 2 ["_law_pool_here", "_law_size"] spDraw
  lList : Df P w K mg base CX0 "_law_list" 4 ["_law_pool_here"] (spListL K)
  lDue : Df P w K mg base CX0 "_law_due" 1 ["_law_word", "_law_entries"] (spDueL K)
  lSame : Df P w K mg base CX0 "_law_same" 3 ["_law_actual", "_law_due_here"] (spSame K 2)
  lZer : Df P w K mg base CX0 "_law_zeros" 12 ["_law_one", "_law_two"] (spZerL K)
  lZeD : Df P w K mg base CX0 "_law_zeros_due" 1 ["_law_one", "_law_two"] (spZerL K)
  lTold : Df P w K mg base CX0 "_law_told" 4 ["_law_amounts", "_law_stocks", "_law_wishes"] (spToldA K C)
  M : AmN P w K mg base C CE CB CT
  fil : ClM P w K mg base "Table" "filled" 10 ["cls", "stock_count", "wish_count", "price"] (spFil K CT CB) CT
  eA : De P w K mg base "InvalidAmounts" 3 (spErr2 K 1 CE "word" "at") CE
  fw : PySem.W.findIn K (.ref CE) "word" = some none
  fa : PySem.W.findIn K (.ref CE) "at" = some none
/-- the good amounts, the lists they were made of and the lists that were passed -/
structure Gs (K : PySem.W.Frag) (C pl : Addr) (B : Hp) (x dx q1 q2 a b L c1 c2 : Addr) (ms ns : List Int) : Prop where
  am : AmX C B x dx q1 q2 ms ns
  sa : SqL K B a (ms.map V.int)
  sb : SqL K B b (ns.map V.int)
  gm : Gd ms
  gn : Gd ns
  bL : B L = some (.lst [.ref c1, .ref c2])
  bp : B pl = none
  b1 : B c1 = none
  b2 : B c2 = none
  ne : c1 ≠ c2
  n1 : c1 ≠ pl
  n2 : c2 ≠ pl
section
variable {P : Program} {w : World} {K : PySem.W.Frag} {mg : Str → Option Value} {base : Heap} {C CE CB CT : Addr} {f : Addr} {fd : FuncData} {cdv : Value} {A : Around} {outer : List Env} {s : Shared} {H0 : Hp} {E : XK}
theorem seg19 (hr : Room 39 (xLaw P w K mg base f cdv A outer s H0 E).A) (T : Bt mg) (D : LD P w K mg base C CE CB CT) : ∃ u : TS, PSs (xLaw P w K mg base f cdv A outer s H0 E) ((defBody slaw).drop 19) u ∧
    ∀ {pl x dx q1 q2 a b L c1 c2 : Addr} {B : Hp} {ms ns : List Int} (En : Ends) (H : Hp) (v0 v1 v4 v6 v8 v9 v10 v11 v12 v13 v14 v15 : Option V), Gs K C pl B x dx q1 q2 a b L c1 c2 ms ns → Same B H → H c1 = some (.lst (ms.map V.int)) → H c2 = some (.lst (ns.map V.int)) → (∀ H', En.rt (.bl true) H') →
      u En [v0, v1, some (.ref a), some (.ref b), v4, some (.ref L), v6, some (.ref x), v8, v9, v10, v11, v12, v13, v14, v15] H := by
  obtain ⟨fE, dE, mE, oE, bE⟩ := D.M.eq
  obtain ⟨fS, dS, mS, oS, bS⟩ := D.M.stocks
  obtain ⟨fW, dW, mW, oW, bW⟩ := D.M.wishes
  have hr1 := hr.mono (show 1 ≤ 39 by decide)
  refine ⟨_, (pss_cons (ps_set (i := 14) sclaw.nd rfl (Or.inl rfl) (pe_ix ix_list (pv 5) pe_int (fun _ _ => rfl)))
  (pss_cons (ps_asg (pe_op op_pow pe_int pe_int) (pg_sub (pv 14) pe_int set_list))
  (pss_cons (ps_expr (pe_bm PySem.F.plainAttrs_list PySem.F.slot_list_append PySem.F.type_list_append mt_append (pv 14) (pa_cons pe_int pa_nil)))
  (pss_cons (ps_expr (pe_bm PySem.F.plainAttrs_list PySem.F.slot_list_append PySem.F.type_list_append mt_append (pe_ix ix_list (pv 5) pe_int (fun _ _ => rfl)) (pa_cons pe_int pa_nil)))
  (pss_cons (ps_expr (pe_bm PySem.F.plainAttrs_list PySem.F.slot_list_append PySem.F.type_list_append mt_append (pe_meth0 (pv 7) D.M.A.cls mS oS hr1 bS .nil pass0) (pa_cons pe_int pa_nil)))
  (pss_cons (ps_set (i := 15) sclaw.nd rfl (Or.inl rfl) (pe_meth0 (pv 7) D.M.A.cls mW oW hr1 bW .nil pass0))
  (pss_cons (ps_asg (pe_op op_pow pe_int pe_int) (pg_sub (pv 15) pe_int set_list))
  (pss_one (ps_ret (pe_and (pe_df D.lTold hr (by decide) (pa_cons (pv 7) (pa_cons (pv 2) (pa_cons (pv 3) pa_nil)))) (pe_one (pe_cmpOwn (op := .Eq) (E := fun _ => E0) (fun _ _ => rfl) ⟨fE, dE, _, mE, oE, bE⟩ hr1 (passN pass0) (pv 7) (pe_dkL D.M.made hr (by decide) (pa_cons (pe_callTy cl_lst (by rfl) T.list (by decide +kernel) (pa_cons (pv 2) pa_nil)) (pa_cons (pe_callTy cl_lst (by rfl) T.list (by decide +kernel) (pa_cons (pv 3) pa_nil)) pa_nil))) (nomark _))))))))))))), ?_⟩
  intro pl x dx q1 q2 a b L c1 c2 B ms ns En H v0 v1 v4 v6 v8 v9 v10 v11 v12 v13 v14 v15 S sB h1 h2 k
  have ml : ∀ {l : List Int} (y : V), Gd l → (l.map V.int).length < sizeLine := fun y g => by rw [List.length_map]; exact Nat.lt_of_le_of_lt g.2.1 (by decide)
  walk_at "rd"
  refine r_ixL (SqL.of (sB _ _ S.bL)) (atI_nat (j := 0) rfl) ?_
  walk_at "rd"
  refine r_setL (j := 0) h1 (by show ixN _ ((0 : Nat) : Int) = _; exact ixN_nat (by rw [List.length_map]; exact S.gm.1)) ?_
  walk_at "rd"
  show tBM _ _ _ _ _ _ _ _
  refine r_var rfl ?_
  refine ⟨.inl ⟨rfl, _, SqL.of upd_same⟩, ?_⟩
  walk_at "rd"
  refine ⟨c1, _, _, rfl, rfl, upd_same, by rw [List.length_set]; exact ml .non S.gm, ?_⟩
  have s2 : Same B (upd (upd H c1 (.lst ((ms.map V.int).set 0 (V.int (10 ^ Int.toNat 9))))) c1 (.lst ((ms.map V.int).set 0 (V.int (10 ^ Int.toNat 9)) ++ [V.int 3]))) := Same.upOff (Same.upOff sB S.b1) S.b1
  walk_at "rd"
  refine r_bm ?_
  walk_at "rd"
  refine r_ixL (SqL.of (s2 _ _ S.bL)) (atI_nat (j := 1) rfl) ?_
  have h2' : (upd (upd H c1 (.lst ((ms.map V.int).set 0 (V.int (10 ^ Int.toNat 9))))) c1 (.lst ((ms.map V.int).set 0 (V.int (10 ^ Int.toNat 9)) ++ [V.int 3]))) c2 = some (.lst (ns.map V.int)) := by
    rw [upd_ne (Ne.symm S.ne), upd_ne (Ne.symm S.ne)]
    exact h2
  refine ⟨.inl ⟨rfl, _, SqL.of h2'⟩, ?_⟩
  walk_at "rd"
  refine ⟨c2, _, _, rfl, rfl, h2', ml .non S.gn, ?_⟩
  have s3 := Same.upOff (o := .lst (ns.map V.int ++ [V.int 4])) s2 S.b2
  walk_at "rd"
  refine r_bm ?_
  walk_at "rd"
  refine ⟨x, dx, _, rfl, (S.am.same s3).o, two_no (by decide +kernel) (by decide +kernel), ?_⟩
  walk_at "rd"
  refine ⟨x, dx, q1, q2, ms, ns, rfl, S.am.same s3, fun r nr => ?_⟩
  have s4 := Same.up (o := .lst (ms.map V.int)) s3 nr
  refine ⟨.inl ⟨rfl, _, SqL.of upd_same⟩, ?_⟩
  walk_at "rd"
  refine ⟨r, _, _, rfl, rfl, upd_same, ml .non S.gm, ?_⟩
  have s5 := Same.upOff (o := .lst (ms.map V.int ++ [V.int 5])) s4 (s3.free nr)
  walk_at "rd"
  refine ⟨x, dx, _, rfl, (S.am.same s5).o, two_no (by decide +kernel) (by decide +kernel), ?_⟩
  walk_at "rd"
  refine ⟨x, dx, q1, q2, ms, ns, rfl, S.am.same s5, fun r2 nr2 => ?_⟩
  have s6 := Same.up (o := .lst (ns.map V.int)) s5 nr2
  walk_at "rd"
  refine r_setL (j := 0) upd_same (by show ixN _ ((0 : Nat) : Int) = _; exact ixN_nat (by rw [List.length_map]; exact S.gn.1)) ?_
  have s7 := Same.upOff (o := .lst ((ns.map V.int).set 0 (V.int (10 ^ Int.toNat 8)))) s6 (s5.free nr2)
  walk_at "rd"
  refine ⟨x, dx, q1, q2, a, b, ms, ns, rfl, S.am.same s7, s7.seq S.sa, s7.seq S.sb, Nat.le_trans S.gm.2.1 (by decide), Nat.le_trans S.gn.2.1 (by decide), fun H8 s8 => ?_⟩
  have sB8 := s7.trans s8
  walk_at "rd"
  refine r_op2 ?_
  walk_at "rd"
  refine r_lstOf (sB8.seq S.sa) fun d1 nd1 => ?_
  have t1 := Same.up (o := .lst (ms.map V.int)) (Same.refl H8) nd1
  walk_at "rd"
  refine r_lstOf ((sB8.trans t1).seq S.sb) fun d2 nd2 => ?_
  have t2 := Same.up (o := .lst (ns.map V.int)) (Same.refl _) nd2
  walk_at "rd"
  intro y dy ny nd ne
  show spAmG K C CE [V.ref y, V.ref d1, V.ref d2] _ _ _
  refine mk_amG ny nd ne (.lst (SqL.of (t2 _ _ upd_same)) (dp_ints ms)) (.lst (SqL.of upd_same) (dp_ints ns)) S.gm S.gn fun H' p q np nq pq am2 sH => ?_
  have am1 := S.am.same (((sB8.trans t1).trans t2).trans sH)
  refine r_ownC am1.o (.inl ⟨y, dy, _, rfl, am2.o⟩) ⟨x, dx, q1, q2, y, dy, p, q, ms, ns, ms, ns, rfl, am1, am2, ?_⟩
  show En.rt (.bl (decide (ms = ms) && decide (ns = ns))) H'
  rw [decide_eq_true rfl, decide_eq_true rfl]
  exact k _
/-- what stands behind the making -/
def St13 (K : PySem.W.Frag) (C pl c : Addr) (sc : List Int) (v2 v3 v5 v7 : V) (H : Hp) : Prop := PoolAt H pl c sc ∧ (v7 = .non ∨ ∃ (x dx q1 q2 a b L c1 c2 : Addr) (B : Hp) (ms ns : List Int), v7 = .ref x ∧ v2 = .ref a ∧ v3 = .ref b ∧ v5 = .ref L ∧ Gs K C pl B x dx q1 q2 a b L c1 c2 ms ns ∧ Same B H ∧ H c1 = some (.lst (ms.map V.int)) ∧ H c2 = some (.lst (ns.map V.int)))
theorem St13.keep {pl c : Addr} {sc : List Int} {v2 v3 v5 v7 : V} {H H' : Hp} (S : St13 K C pl c sc v2 v3 v5 v7 H) (k : Keep pl H H') (p : PoolAt H' pl c sc) : St13 K C pl c sc v2 v3 v5 v7 H' := by
  obtain ⟨_, h | ⟨x, dx, q1, q2, a, b, L, c1, c2, B, ms, ns, e1, e2, e3, e4, G, sB, h1, h2⟩⟩ := S
  · exact ⟨p, .inl h⟩
  · exact ⟨p, .inr ⟨x, dx, q1, q2, a, b, L, c1, c2, B, ms, ns, e1, e2, e3, e4, G, Same.part sB G.bp k, k _ _ G.n1 h1, k _ _ G.n2 h2⟩⟩
theorem St13.same {pl c : Addr} {sc : List Int} {v2 v3 v5 v7 : V} {H H' : Hp} (S : St13 K C pl c sc v2 v3 v5 v7 H) (s : Same H H') : St13 K C pl c sc v2 v3 v5 v7 H' := S.keep (Keep.same s) (S.1.sameS s)
theorem seg13 (hr : Room 39 (xLaw P w K mg base f cdv A outer s H0 E).A) (T : Bt mg) (D : LD P w K mg base C CE CB CT) : ∃ u : TS, PSs (xLaw P w K mg base f cdv A outer s H0 E) ((defBody slaw).drop 13) u ∧
    ∀ {pl c : Addr} {sc : List Int} {v2 v3 v5 v7 : V} (En : Ends) (H : Hp) (v0 v4 v6 v8 v9 v10 v11 v12 v13 v14 v15 : Option V), St13 K C pl c sc v2 v3 v5 v7 H → (∀ H', En.rt (.bl true) H') →
      u En [v0, some (.ref pl), some v2, some v3, v4, some v5, v6, some v7, v8, v9, v10, v11, v12, v13, v14, v15] H := by
  obtain ⟨u19, d19, h19⟩ := seg19 (f := f) (cdv := cdv) (outer := outer) (s := s) (H0 := H0) (E := E) hr T D
  obtain ⟨fF, dF, mF, oF, bF⟩ := D.M.fit
  obtain ⟨gF, pr, fdF, mc, atT, rdT, cmT, okF, bdF⟩ := D.fil.ex
  have hr2 := hr.mono (show 2 ≤ 39 by decide)
  have hr10 := hr.mono (show 10 ≤ 39 by decide)
  refine ⟨_, (pss_cons (ps_if (pt_cmpR op_is0 (pv 7) pe_non (nomark _)) (pss_one (ps_ret pe_bl)) pss_nil)
  (pss_cons (ps_if (pt_not (pt_val (pe_df D.lTold hr (by decide) (pa_cons (pv 7) (pa_cons (pv 2) (pa_cons (pv 3) pa_nil)))))) (pss_one (ps_ret pe_bl)) pss_nil)
  (pss_cons (ps_set (i := 11) sclaw.nd rfl (Or.inl rfl) (pe_ix ix_list (pe_lst (pa_cons (pe_callB cl_len (by rfl) T.len (by decide +kernel) (pa_cons (pv 2) pa_nil)) (pa_cons (pe_op op_add pe_int (pe_df D.lDraw hr (by decide) (pa_cons (pv 1) (pa_cons pe_int pa_nil)))) pa_nil))) (pe_df D.lDraw hr (by decide) (pa_cons (pv 1) (pa_cons pe_int pa_nil))) (fun _ _ => rfl)))
  (pss_cons (ps_set (i := 12) sclaw.nd rfl (Or.inl rfl) (pe_ix ix_list (pe_lst (pa_cons (pe_callB cl_len (by rfl) T.len (by decide +kernel) (pa_cons (pv 3) pa_nil)) (pa_cons (pe_op op_add pe_int (pe_df D.lDraw hr (by decide) (pa_cons (pv 1) (pa_cons pe_int pa_nil)))) pa_nil))) (pe_df D.lDraw hr (by decide) (pa_cons (pv 1) (pa_cons pe_int pa_nil))) (fun _ _ => rfl)))
  (C8.pss_cut (ps_set (i := 13) sclaw.nd rfl (Or.inl rfl) (pe_and (pe_cmpR op_eq (pv 11) (pe_callB cl_len (by rfl) T.len (by decide +kernel) (pa_cons (pv 2) pa_nil)) (nomark _)) (pe_one (pe_cmpR op_eq (pv 12) (pe_callB cl_len (by rfl) T.len (by decide +kernel) (pa_cons (pv 3) pa_nil)) (nomark _)))))
  (pss_cons (ps_if (pt_not (pt_val (pe_df D.lSame hr (by decide) (pa_cons (pe_meth (pv 7) D.M.A.cls mF oF hr2 bF .nil pass0 (pa_cons (pe_cm (E := fun _ => E0) (pe_glob (v := .ref CT) (by rfl) atT rfl) rdT cmT okF hr10 bdF (passN passL) (pa_cons (pv 11) (pa_cons (pv 12) (pa_cons pe_int pa_nil)))) pa_nil)) (pa_cons (pv 13) pa_nil))))) (pss_one (ps_ret pe_bl)) pss_nil)
  d19)))))), ?_⟩
  intro pl c sc v2 v3 v5 v7 En H v0 v4 v6 v8 v9 v10 v11 v12 v13 v14 v15 S k
  have pick : ∀ {m i : Int} {j : Nat}, 1 ≤ m → m ≤ 8 → 0 ≤ i → i < 8 → j < 2 → ∃ h : Int, [V.int m, V.int (1 + i)][j]? = some (V.int h) ∧ 1 ≤ h ∧ h ≤ 8 := fun {m i j} a b c d e => by
    match j, e with
    | 0, _ => exact ⟨m, rfl, a, b⟩
    | 1, _ => exact ⟨1 + i, rfl, by omega, by omega⟩
    | j + 2, e => omega
  walk_at "rd"
  obtain ⟨p13, h | ⟨x, dx, q1, q2, a, b, L, c1, c2, B, ms, ns, rfl, rfl, rfl, rfl, G, sB, h1, h2⟩⟩ := S
  · refine ifT (by rw [h]; exact decide_eq_true rfl) ?_
    walk_at "rd"
    exact k _
  · refine ifF (decide_eq_false fun z => by cases z) ?_
    have gm8 := G.gm.2.1
    have gn8 := G.gn.2.1
    have gm0 := G.gm.1
    have gn0 := G.gn.1
    walk_at "rd"
    refine ⟨x, dx, q1, q2, a, b, ms, ns, rfl, G.am.same sB, sB.seq G.sa, sB.seq G.sb, by omega, by omega, fun H1 s1 => ?_⟩
    have sB1 := sB.trans s1
    have p1 := p13.sameS s1
    walk_at "rd"
    refine r_lenL (sB1.seq G.sa) ?_
    walk_at "rd"
    refine ⟨pl, c, sc, 8, rfl, p1, by decide, by decide, fun i0 H2 a0 a1 k2 p2 => ?_⟩
    walk_at "rd"
    refine ⟨by show 2 ≤ sizeLine; decide, fun t1 n1 => ?_⟩
    walk_at "rd"
    refine ⟨pl, c, sc, 2, rfl, p2.new n1, by decide, by decide, fun j0 H3 b0 b1 k3 p3 => ?_⟩
    obtain ⟨j, rfl⟩ : ∃ n : Nat, j0 = (n : Int) := ⟨j0.toNat, by omega⟩
    obtain ⟨h, eh, h1', h8'⟩ := pick (m := ((ms.map V.int).length : Int)) (i := i0) (j := j) (by rw [List.length_map]; omega) (by rw [List.length_map]; omega) a0 a1 (by omega)
    refine r_ixL (SqL.of (k3 _ _ (p2.apart n1) upd_same)) (atI_nat eh) ?_
    have sB3 := Same.part (Same.up (o := .lst [V.int ((ms.map V.int).length : Int), V.int (1 + i0)]) (Same.part sB1 G.bp k2) n1) G.bp k3
    walk_at "rd"
    refine r_lenL (sB3.seq G.sb) ?_
    walk_at "rd"
    refine ⟨pl, c, sc, 8, rfl, p3, by decide, by decide, fun i1 H4 c0 c1' k4 p4 => ?_⟩
    walk_at "rd"
    refine ⟨by show 2 ≤ sizeLine; decide, fun t2 n2 => ?_⟩
    walk_at "rd"
    refine ⟨pl, c, sc, 2, rfl, p4.new n2, by decide, by decide, fun j1 H5 d0 d1 k5 p5 => ?_⟩
    obtain ⟨j', rfl⟩ : ∃ n : Nat, j1 = (n : Int) := ⟨j1.toNat, by omega⟩
    obtain ⟨wv, ew, w1', w8'⟩ := pick (m := ((ns.map V.int).length : Int)) (i := i1) (j := j') (by rw [List.length_map]; omega) (by rw [List.length_map]; omega) c0 c1' (by omega)
    refine r_ixL (SqL.of (k5 _ _ (p4.apart n2) upd_same)) (atI_nat ew) ?_
    have sB5 := Same.part (Same.up (o := .lst [V.int ((ns.map V.int).length : Int), V.int (1 + i1)]) (Same.part sB3 G.bp k4) n2) G.bp k5
    have g1 : H5 c1 = some (.lst (ms.map V.int)) := k5 _ _ G.n1 (later (k4 _ _ G.n1 (k3 _ _ G.n1 (later (k2 _ _ G.n1 (s1 _ _ h1)) n1))) n2)
    have g2 : H5 c2 = some (.lst (ns.map V.int)) := k5 _ _ G.n2 (later (k4 _ _ G.n2 (k3 _ _ G.n2 (later (k2 _ _ G.n2 (s1 _ _ h2)) n1))) n2)
    walk_at "rd"
    refine r_cut (fun σ H' => H5 = H' ∧ σ = [v0, some (.ref pl), some (.ref a), some (.ref b), v4, some (.ref L), v6, some (.ref x), v8, v9, v10, some (.int h), some (.int wv), some (.bl (decide (h = (ms.length : Int)) && decide (wv = (ns.length : Int)))), v14, v15]) ?_ ?_
    · have de : ∀ (m n : Int), decide (V.int m = V.int n) = decide (m = n) := fun m n => decide_eq_decide.mpr ⟨fun h => V.int.inj h, fun h => by rw [h]⟩
      walk_at "rd"
      refine r_lenL (sB5.seq G.sa) ?_
      rw [List.length_map]
      walk_at "rd"
      refine r_eq rfl ?_
      rw [de]
      walk_at "rd"
      by_cases e1 : h = (ms.length : Int)
      · refine ifT (decide_eq_true e1) ?_
        walk_at "rd"
        refine r_lenL (sB5.seq G.sb) ?_
        rw [List.length_map]
        walk_at "rd"
        refine r_eq rfl ?_
        rw [de]
        walk_at "rd"
        rw [decide_eq_true e1, Bool.true_and]
        exact ⟨rfl, rfl⟩
      · refine ifF (decide_eq_false e1) ?_
        walk_at "rd"
        rw [decide_eq_false e1, Bool.false_and]
        exact ⟨rfl, rfl⟩
    · rintro σ H6 ⟨rfl, rfl⟩
      walk_at "rd"
      refine ⟨x, dx, _, rfl, (G.am.same sB5).o, two_no (by decide +kernel) (by decide +kernel), ?_⟩
      walk_at "rd"
      refine ⟨rfl, ?_⟩
      walk_at "rd"
      refine ⟨.int h, .int wv, .int 0, .int h, .int wv, .int 0, rfl, .int _, .int _, .int _, fun i2 j2 z ei ej ez _ _ _ _ y H7 Gy s7 tb sG fG => ?_, fun z hz => ?_⟩
      · cases ei
        cases ej
        obtain ⟨gt, gl, gw⟩ := Gt.full z h1' h8' w1' w8'
        walk_at "rd"
        refine ⟨x, dx, q1, q2, y, ms, ns, Gy, _, rfl, G.am.same (sB5.trans s7), tb, sG, ?_⟩
        have eb : (decide (ms.length = (List.replicate h.toNat (List.replicate wv.toNat z)).length) && decide (ns.length = wd (List.replicate h.toNat (List.replicate wv.toNat z)))) = (decide (h = (ms.length : Int)) && decide (wv = (ns.length : Int))) := by
          rw [gl, gw, decide_eq_decide.mpr (show ms.length = h.toNat ↔ h = (ms.length : Int) by omega), decide_eq_decide.mpr (show ns.length = wv.toNat ↔ wv = (ns.length : Int) by omega)]
        rw [eb]
        walk_at "rd"
        refine ⟨_, _, .bool _, rfl, .bl _, .bl _, .bl _, ?_⟩
        walk_at "rd"
        exact h19 En H7 _ _ _ _ _ _ _ _ _ _ _ _ G (sB5.trans s7) (s7 _ _ g1) (s7 _ _ g2) k
      · have zb : zerB (.int h) (.int wv) = none := by
          rw [zerB, if_pos (show betD 1 8 (.int h) = true by simp [betD, h1', h8']), if_pos (show betD 1 8 (.int wv) = true by simp [betD, w1', w8'])]
        unfold filB at hz
        rw [zb] at hz
        cases hz
theorem deep_zer (d e : PyData) : Deep 2 (zerD d e) := by
  cases z : zerB d e with
  | some y =>
    rw [zerD_bad z]
    exact .tup (fun e h => by
      simp only [List.mem_cons, List.not_mem_nil, or_false] at h
      rcases h with rfl | rfl | rfl
      · exact .str _
      · exact .str _
      · exact .int _) (by show 3 ≤ 1000; decide)
  | none =>
    have b1 : betD 1 8 d = true := by
      cases q : betD 1 8 d with
      | true => rfl
      | false => rw [zerB, if_neg (by rw [q]; decide)] at z; cases z
    have b2 : betD 1 8 e = true := by
      cases q : betD 1 8 e with
      | true => rfl
      | false => rw [zerB, if_pos b1, if_neg (by rw [q]; decide)] at z; cases z
    obtain ⟨i, rfl, i1, i8⟩ := betD_inv b1
    obtain ⟨j, rfl, j1, j8⟩ := betD_inv b2
    rw [zerD_good i1 i8 j1 j8]
    exact .tup (fun e h => by
      simp only [List.mem_cons, List.not_mem_nil, or_false] at h
      rcases h with rfl | rfl | rfl
      · exact .str _
      · exact deep_ints (by rw [List.length_replicate]; omega)
      · exact deep_ints (by rw [List.length_replicate]; omega)) (by show 3 ≤ 1000; decide)
theorem one_at {x y : Int} (i : Nat) (v : V) (e : [V.int x, V.int y, V.bl true, V.str "2"][i]? = some v) : ∃ d, ∀ (K : PySem.W.Frag) (H : Hp), Dp K H v d := by
  match i, e with
  | 0, e => cases (Option.some.inj e); exact ⟨.int x, fun _ _ => .int _⟩
  | 1, e => cases (Option.some.inj e); exact ⟨.int y, fun _ _ => .int _⟩
  | 2, e => cases (Option.some.inj e); exact ⟨.bool true, fun _ _ => .bl _⟩
  | 3, e => cases (Option.some.inj e); exact ⟨.str "2", fun _ _ => .str _⟩
  | i + 4, e => simp at e
theorem two_at {x y : Int} (i : Nat) (v : V) (e : [V.int x, V.int y, V.non, V.int (-1)][i]? = some v) : ∃ d, ∀ (K : PySem.W.Frag) (H : Hp), Dp K H v d := by
  match i, e with
  | 0, e => cases (Option.some.inj e); exact ⟨.int x, fun _ _ => .int _⟩
  | 1, e => cases (Option.some.inj e); exact ⟨.int y, fun _ _ => .int _⟩
  | 2, e => cases (Option.some.inj e); exact ⟨.none, fun _ _ => .non⟩
  | 3, e => cases (Option.some.inj e); exact ⟨.int (-1), fun _ _ => .int _⟩
  | i + 4, e => simp at e
theorem seg10 (hr : Room 39 (xLaw P w K mg base f cdv A outer s H0 E).A) (T : Bt mg) (D : LD P w K mg base C CE CB CT) : ∃ u : TS, PSs (xLaw P w K mg base f cdv A outer s H0 E) ((defBody slaw).drop 10) u ∧
    ∀ {pl c : Addr} {sc : List Int} {v2 v3 v5 v7 : V} (En : Ends) (H : Hp) (v0 v4 v6 v8 v9 v10 v11 v12 v13 v14 v15 : Option V), St13 K C pl c sc v2 v3 v5 v7 H → (∀ H', En.rt (.bl true) H') →
      u En [v0, some (.ref pl), some v2, some v3, v4, some v5, v6, some v7, v8, v9, v10, v11, v12, v13, v14, v15] H := by
  obtain ⟨u13, d13, h13⟩ := seg13 (f := f) (cdv := cdv) (outer := outer) (s := s) (H0 := H0) (E := E) hr T D
  refine ⟨_, (pss_cons (ps_set (i := 9) sclaw.nd rfl (Or.inl rfl) (pe_ix ix_list (pe_lst (pa_cons (pe_df D.lDraw hr (by decide) (pa_cons (pv 1) (pa_cons pe_int pa_nil))) (pa_cons (pe_op op_add pe_int (pe_df D.lDraw hr (by decide) (pa_cons (pv 1) (pa_cons pe_int pa_nil)))) (pa_cons pe_bl (pa_cons pe_str pa_nil))))) (pe_df D.lDraw hr (by decide) (pa_cons (pv 1) (pa_cons pe_int pa_nil))) (fun _ _ => rfl)))
  (pss_cons (ps_set (i := 10) sclaw.nd rfl (Or.inl rfl) (pe_ix ix_list (pe_lst (pa_cons (pe_df D.lDraw hr (by decide) (pa_cons (pv 1) (pa_cons pe_int pa_nil))) (pa_cons (pe_op op_add pe_int (pe_df D.lDraw hr (by decide) (pa_cons (pv 1) (pa_cons pe_int pa_nil)))) (pa_cons pe_non (pa_cons (pe_un un_neg pe_int) pa_nil))))) (pe_df D.lDraw hr (by decide) (pa_cons (pv 1) (pa_cons pe_int pa_nil))) (fun _ _ => rfl)))
  (pss_cons (ps_if (pt_not (pt_val (pe_df D.lSame hr (by decide) (pa_cons (pe_df D.lZer hr (by decide) (pa_cons (pv 9) (pa_cons (pv 10) pa_nil))) (pa_cons (pe_df D.lZeD hr (by decide) (pa_cons (pv 9) (pa_cons (pv 10) pa_nil))) pa_nil))))) (pss_one (ps_ret pe_bl)) pss_nil) d13))), ?_⟩
  intro pl c sc v2 v3 v5 v7 En H v0 v4 v6 v8 v9 v10 v11 v12 v13 v14 v15 S k
  walk_at "rd"
  refine ⟨pl, c, sc, 10, rfl, S.1, by decide, by decide, fun x1 H1 _ _ k1 p1 => ?_⟩
  walk_at "rd"
  refine ⟨pl, c, sc, 8, rfl, p1, by decide, by decide, fun y1 H2 _ _ k2 p2 => ?_⟩
  walk_at "rd"
  refine ⟨by show 4 ≤ sizeLine; decide, fun t1 n1 => ?_⟩
  walk_at "rd"
  refine ⟨pl, c, sc, 4, rfl, p2.new n1, by decide, by decide, fun j0 H3 b0 b1 k3 p3 => ?_⟩
  obtain ⟨j, rfl⟩ : ∃ n : Nat, j0 = (n : Int) := ⟨j0.toNat, by omega⟩
  obtain ⟨v, ev⟩ : ∃ v, [V.int x1, V.int (1 + y1), V.bl true, V.str "2"][j]? = some v := ⟨_, List.getElem?_eq_getElem (show j < 4 by omega)⟩
  obtain ⟨d, hd⟩ := one_at j v ev
  refine r_ixL (SqL.of (k3 _ _ (p2.apart n1) upd_same)) (atI_nat ev) ?_
  have S3 := (((S.keep k1 p1).keep k2 p2).same (Same.up (o := .lst [V.int x1, V.int (1 + y1), V.bl true, V.str "2"]) (Same.refl H2) n1)).keep k3 p3
  walk_at "rd"
  refine ⟨pl, c, sc, 10, rfl, p3, by decide, by decide, fun x2 H4 _ _ k4 p4 => ?_⟩
  walk_at "rd"
  refine ⟨pl, c, sc, 8, rfl, p4, by decide, by decide, fun y2 H5 _ _ k5 p5 => ?_⟩
  walk_at "rd"
  refine ⟨by show 4 ≤ sizeLine; decide, fun t2 n2 => ?_⟩
  walk_at "rd"
  refine ⟨pl, c, sc, 4, rfl, p5.new n2, by decide, by decide, fun j1 H6 b2 b3 k6 p6 => ?_⟩
  obtain ⟨j', rfl⟩ : ∃ n : Nat, j1 = (n : Int) := ⟨j1.toNat, by omega⟩
  obtain ⟨v', ev'⟩ : ∃ v, [V.int x2, V.int (1 + y2), V.non, V.int (-1)][j']? = some v := ⟨_, List.getElem?_eq_getElem (show j' < 4 by omega)⟩
  obtain ⟨e, he⟩ := two_at j' v' ev'
  refine r_ixL (SqL.of (k6 _ _ (p5.apart n2) upd_same)) (atI_nat ev') ?_
  have S6 := (((S3.keep k4 p4).keep k5 p5).same (Same.up (o := .lst [V.int x2, V.int (1 + y2), V.non, V.int (-1)]) (Same.refl H5) n2)).keep k6 p6
  walk_at "rd"
  refine ⟨v, v', d, e, rfl, hd _ _, he _ _, fun r1 H7 s7 z1 => ?_⟩
  walk_at "rd"
  refine ⟨v, v', d, e, rfl, hd _ _, he _ _, fun r2 H8 s8 z2 => ?_⟩
  walk_at "rd"
  refine ⟨_, _, zerD d e, rfl, Dp.later s8 z1, z2, deep_zer d e, ?_⟩
  walk_at "rd"
  exact h13 En H8 _ _ _ _ _ _ _ _ _ _ _ (S6.same (s7.trans s8)) k
end
end Pk
set_option Elab.async false
set_option linter.all false
set_option maxRecDepth 100000
set_option maxHeartbeats 4000000
namespace Pk
open PySem L2
local macro_rules | `(tactic| walk_at "rd") => `(tactic| repeat (first
  | with_reducible refine r_seq ?_ | with_reducible refine r_nxt ?_ | with_reducible refine r_asg ?_ | with_reducible refine r_to ?_ | with_reducible refine r_ret ?_ | with_reducible refine r_for ?_ | with_reducible refine r_lc ?_ | with_reducible refine r_lc2 ?_ | with_reducible refine r_rng1 ?_ | with_reducible refine r_list ?_ | with_reducible refine r_tupI ?_ | with_reducible refine r_drop ?_ | with_reducible refine r_ifs ?_
  | with_reducible refine r_op ?_ | with_reducible refine r_c ?_ | with_reducible refine r_var rfl ?_ | with_reducible refine r_var (by assumption) ?_ | with_reducible refine r_I0 ?_ | with_reducible refine r_un ?_ | with_reducible refine r_U ?_ | with_reducible refine r_make ?_ | with_reducible refine r_makeS ?_ | with_reducible refine r_ifE ?_ | with_reducible refine r_cm ?_ | with_reducible refine r_mkV rfl ?_ | with_reducible refine r_sub ?_
  | with_reducible refine r_nil ?_ | with_reducible refine r_cons ?_ | with_reducible refine r_cb ?_ | with_reducible refine r_sl ?_ | with_reducible refine r_noP ?_ | with_reducible refine r_part ?_ | with_reducible refine r_isI ?_ | with_reducible refine r_lst ?_ | with_reducible refine r_tup ?_ | with_reducible refine r_call ?_ | with_reducible refine r_callS ?_ | with_reducible refine r_sFldU ?_ | with_reducible refine r_chain ?_ | with_reducible refine r_enum ?_ | with_reducible refine r_zip ?_ | with_reducible refine r_rng3 ?_ | with_reducible refine r_gtup ?_ | with_reducible refine r_methU ?_
  | with_reducible refine r_test ?_ | with_reducible refine r_B ?_ | with_reducible refine r_and ?_ | with_reducible refine r_or ?_ | with_reducible refine r_not ?_ | with_reducible refine r_andV ?_ | with_reducible refine r_orV ?_ | with_reducible refine r_notV ?_ | with_reducible refine r_bl ?_ | with_reducible refine r_yes ?_ | with_reducible refine r_int ?_ | with_reducible refine r_is0 ?_ | with_reducible refine r_is1 ?_ | with_reducible refine iteT ?_ | with_reducible refine iteF ?_ | with_reducible refine ite_nF ?_ | with_reducible refine ite_nT ?_
  | with_reducible refine r_mod (by decide) ?_ | with_reducible refine r_div (by decide) (by decide) ?_ | with_reducible refine r_mulR (by decide) (by decide) ?_ | with_reducible refine r_mulL (by decide) (by decide) ?_ | with_reducible refine r_pow (by decide) (by decide) (by decide) ?_))
theorem lookA (f g : Str) (v u : V) : List.lookup f [(f, v), (g, u)] = some v := by simp [List.lookup]
def dueA (d e : PyData) : List V := match badA d e with
  | none => [.str "told", .str "", .int 0]
  | some (z, k) => [.str "refused", .str z, .int k]
def dueD (d e : PyData) : PyData := match badA d e with
  | none => .tuple [.str "told", .str "", .int 0]
  | some (z, k) => .tuple [.str "refused", .str z, .int k]
theorem due_dp {K : PySem.W.Frag} {H : Hp} {t : Addr} {d e : PyData} (h : H t = some (.tup (dueA d e))) : Dp K H (.ref t) (dueD d e) := by
  unfold dueA at h
  unfold dueD
  cases q : badA d e with
  | none => rw [q] at h; exact .tup (SqT.of h) (.cons (.str _) (.cons (.str _) (.cons (.int _) .nil)))
  | some zk => rw [q] at h; exact .tup (SqT.of h) (.cons (.str _) (.cons (.str _) (.cons (.int _) .nil)))
theorem due_deep (d e : PyData) : Deep 2 (dueD d e) := by
  unfold dueD
  cases q : badA d e with
  | none => exact .tup (fun e h => by
      simp only [List.mem_cons, List.not_mem_nil, or_false] at h
      rcases h with rfl | rfl | rfl
      · exact .str _
      · exact .str _
      · exact .int _) (by show 3 ≤ 1000; decide)
  | some zk => exact .tup (fun e h => by
      simp only [List.mem_cons, List.not_mem_nil, or_false] at h
      rcases h with rfl | rfl | rfl
      · exact .str _
      · exact .str _
      · exact .int _) (by show 3 ≤ 1000; decide)
/-- the heap but for what stands at three places -/
def off3 (p c d : Addr) (H : Hp) : Hp := fun a => if a = p ∨ a = c ∨ a = d then none else H a
theorem off3_sub {p c d : Addr} {H : Hp} : Same (off3 p c d H) H := fun a o e => by
  unfold off3 at e
  split at e
  · cases e
  · exact e
theorem off3_at {p c d a : Addr} {H : Hp} (n1 : a ≠ p) (n2 : a ≠ c) (n3 : a ≠ d) : off3 p c d H a = H a := if_neg (by
  rintro (h | h | h)
  · exact n1 h
  · exact n2 h
  · exact n3 h)
theorem off3_no {p c d a : Addr} {H : Hp} (n : a = p ∨ a = c ∨ a = d) : off3 p c d H a = none := if_pos n
theorem off3_part {p c d : Addr} {G H : Hp} (s : Same G H) (n1 : G p = none) (n2 : G c = none) (n3 : G d = none) : Same G (off3 p c d H) := fun a o e => by
  rw [off3_at (fun z => by rw [z, n1] at e; cases e) (fun z => by rw [z, n2] at e; cases e) (fun z => by rw [z, n3] at e; cases e)]
  exact s a o e
/-- what is passed for the value v -/
def El (K : PySem.W.Frag) (pl L : Addr) (G H : Hp) (v u : V) (d : PyData) : Prop := (isLD d = false ∧ u = v) ∨ ∃ (c : Addr) (es : List PyData) (xs : List V), d = .list es ∧ u = .ref c ∧ G c = none ∧ c ≠ pl ∧ c ≠ L ∧ H c = some (.lst xs) ∧ DpAll K G xs es
theorem El.same {K : PySem.W.Frag} {pl L : Addr} {G H H' : Hp} {v u : V} {d : PyData} (h : El K pl L G H v u d) (s : Same H H') : El K pl L G H' v u d := by
  rcases h with h | ⟨c, es, xs, h1, h2, h3, h4, h5, h6, h7⟩
  · exact .inl h
  · exact .inr ⟨c, es, xs, h1, h2, h3, h4, h5, s _ _ h6, h7⟩
theorem El.off {K : PySem.W.Frag} {pl L : Addr} {G H : Hp} {o : HO} {v u : V} {d : PyData} (h : El K pl L G H v u d) : El K pl L G (upd H L o) v u d := by
  rcases h with h | ⟨c, es, xs, h1, h2, h3, h4, h5, h6, h7⟩
  · exact .inl h
  · exact .inr ⟨c, es, xs, h1, h2, h3, h4, h5, by rw [upd_ne h5]; exact h6, h7⟩
theorem El.dp {K : PySem.W.Frag} {pl L : Addr} {G H : Hp} {v u : V} {d : PyData} (h : El K pl L G H v u d) (s : Same G H) (hv : Dp K G v d) : Dp K H u d := by
  rcases h with ⟨_, rfl⟩ | ⟨c, es, xs, rfl, rfl, h3, h4, h5, h6, h7⟩
  · exact Dp.later s hv
  · exact .lst (SqL.of h6) (DpAll.later s h7)
structure Pd (K : PySem.W.Frag) (pl L : Addr) (G H : Hp) (v2 v3 u1 u2 : V) (d e : PyData) : Prop where
  at_ : H L = some (.lst [u1, u2])
  nG : G L = none
  np : L ≠ pl
  e1 : El K pl L G H v2 u1 d
  e2 : El K pl L G H v3 u2 e
  ne : ∀ c1 c2 : Addr, isLD d = true → isLD e = true → u1 = .ref c1 → u2 = .ref c2 → c1 ≠ c2
theorem Pd.same {K : PySem.W.Frag} {pl L : Addr} {G H H' : Hp} {v2 v3 u1 u2 : V} {d e : PyData} (h : Pd K pl L G H v2 v3 u1 u2 d e) (s : Same H H') : Pd K pl L G H' v2 v3 u1 u2 d e := ⟨s _ _ h.at_, h.nG, h.np, h.e1.same s, h.e2.same s, h.ne⟩
/-- while the lists to be passed are made -/
def IvL (K : PySem.W.Frag) (p D1 : Addr) (G H6 : Hp) (v2 v3 : V) (d e : PyData) (i : Nat) (H' : Hp) : Prop := Same H6 H' ∧ ((i = 0 ∧ H' D1 = some (.lst [])) ∨ (i = 1 ∧ ∃ u1, H' D1 = some (.lst [u1]) ∧ El K p D1 G H' v2 u1 d) ∨ (i = 2 ∧ ∃ u1 u2, Pd K p D1 G H' v2 v3 u1 u2 d e))
/-- what is known of the two values -/
structure Vs (K : PySem.W.Frag) (pl : Addr) (G : Hp) (v2 v3 : V) (d e : PyData) : Prop where
  gp : G pl = none
  h2 : Dp K G v2 d
  h3 : Dp K G v3 e
  n2 : Ni 3 d
  n3 : Ni 3 e
section
variable {P : Program} {w : World} {K : PySem.W.Frag} {mg : Str → Option Value} {base : Heap} {C CE CB CT : Addr} {f : Addr} {fd : FuncData} {cdv : Value} {A : Around} {outer : List Env} {s : Shared} {H0 : Hp} {E : XK}
theorem seg9 (hr : Room 39 (xLaw P w K mg base f cdv A outer s H0 E).A) (T : Bt mg) (D : LD P w K mg base C CE CB CT) : ∃ u : TS, PSs (xLaw P w K mg base f cdv A outer s H0 E) ((defBody slaw).drop 9) u ∧
    ∀ {pl c L t1 : Addr} {t2 : V} {sc : List Int} {G : Hp} {v2 v3 v7 u1 u2 : V} {d e : PyData} (En : Ends) (H : Hp) (v0 v8 v9 v10 v11 v12 v13 v14 v15 : Option V), Vs K pl G v2 v3 d e → Same G H → Pd K pl L G H v2 v3 u1 u2 d e → Dp K H (.ref t1) (dueD d e) → Dp K H t2 (dueD d e) → St13 K C pl c sc v2 v3 (.ref L) v7 H → (∀ H', En.rt (.bl true) H') →
      u En [v0, some (.ref pl), some v2, some v3, some t2, some (.ref L), some (.ref t1), some v7, v8, v9, v10, v11, v12, v13, v14, v15] H := by
  obtain ⟨u10, d10, h10⟩ := seg10 (f := f) (cdv := cdv) (outer := outer) (s := s) (H0 := H0) (E := E) hr T D
  refine ⟨_, (pss_cons (ps_if (PW.pt (pw_or (pt_not (pt_val (pe_df D.lSame hr (by decide) (pa_cons (pv 6) (pa_cons (pv 4) pa_nil))))) (pw_or (pt_cmpR (op_neD hr.units) (pe_ix ix_list (pv 5) pe_int (fun _ _ => rfl)) (pv 2) (nomark _)) (pw_or1 (pt_cmpR (op_neD hr.units) (pe_ix ix_list (pv 5) pe_int (fun _ _ => rfl)) (pv 3) (nomark _)))))) (pss_one (ps_ret pe_bl)) pss_nil) d10), ?_⟩
  intro pl c L t1 t2 sc G v2 v3 v7 u1 u2 d e En H v0 v8 v9 v10 v11 v12 v13 v14 v15 Vv sG Pp h1 h2 S k
  walk_at "rd"
  refine ⟨_, _, dueD d e, rfl, h1, h2, due_deep d e, ?_⟩
  walk_at "rd"
  refine r_ixL (SqL.of Pp.at_) (atI_nat (j := 0) rfl) ?_
  walk_at "rd"
  refine ⟨d, d, Pp.e1.dp sG Vv.h2, Dp.later sG Vv.h2, Vv.n2.shaped (by decide), Vv.n2.shaped (by decide), ?_⟩
  rw [eqv_plain Vv.n2.plain]
  walk_at "rd"
  refine r_ixL (SqL.of Pp.at_) (atI_nat (j := 1) rfl) ?_
  walk_at "rd"
  refine ⟨e, e, Pp.e2.dp sG Vv.h3, Dp.later sG Vv.h3, Vv.n3.shaped (by decide), Vv.n3.shaped (by decide), ?_⟩
  rw [eqv_plain Vv.n3.plain]
  walk_at "rd"
  exact h10 En H _ _ _ _ _ _ _ _ _ _ _ S k
theorem seg6 (hr : Room 39 (xLaw P w K mg base f cdv A outer s H0 E).A) (T : Bt mg) (D : LD P w K mg base C CE CB CT) : ∃ u : TS, PSs (xLaw P w K mg base f cdv A outer s H0 E) ((defBody slaw).drop 6) u ∧
    ∀ {pl c L : Addr} {t2 : V} {sc : List Int} {G : Hp} {v2 v3 u1 u2 : V} {d e : PyData} (En : Ends) (H : Hp) (v0 v6 v7 v8 v9 v10 v11 v12 v13 v14 v15 : Option V), Vs K pl G v2 v3 d e → Same G H → Pd K pl L G H v2 v3 u1 u2 d e → Dp K H t2 (dueD d e) → PoolAt H pl c sc → (∀ H', En.rt (.bl true) H') →
      u En [v0, some (.ref pl), some v2, some v3, some t2, some (.ref L), v6, v7, v8, v9, v10, v11, v12, v13, v14, v15] H := by
  obtain ⟨u9, d9, h9⟩ := seg9 (f := f) (cdv := cdv) (outer := outer) (s := s) (H0 := H0) (E := E) hr T D
  obtain ⟨fI, EA⟩ := D.eA
  refine ⟨_, (pss_cons (ps_set (i := 6) sclaw.nd rfl (Or.inl rfl) (pe_tup (pa_cons pe_str (pa_cons pe_str (pa_cons pe_int pa_nil)))))
  (pss_cons (ps_set (i := 7) sclaw.nd rfl (Or.inl rfl) pe_non)
  (pss_cons (ps_try_as (i := 8) (Wout := fun _ _ _ _ => False)
    (tb := fun W => tAsg (tMakeS C (spAmG K C CE) (WE W) (tCons (tOp (rIxL K) (tVar 5) (tC (.int 0))) (tCons (tOp (rIxL K) (tVar 5) (tC (.int 1))) tNil))) (gName 7))
    (ts := fun a cls d => tAsg (tTup (tCons (tC (.str "refused")) (tCons (tXf a cls d CE "word" (tVar 8)) (tCons (tXf a cls d CE "at" (tVar 8)) tNil)))) (gName 6))
    rfl rfl sclaw.nd rfl rfl ⟨rfl, by decide, Or.inl EA.at_⟩ takes0
    (fun W pn xe tk _ => (pss_one (ps_set (i := 7) sclaw.nd rfl (Or.inl rfl) (pe_dkS tk D.M.made hr (by decide) (pa_cons (pe_ix ix_list (pv 5) pe_int (fun _ _ => rfl)) (pa_cons (pe_ix ix_list (pv 5) pe_int (fun _ _ => rfl)) pa_nil))))))
    (fun a oe cls d pn hz hf => (pss_one (ps_set (i := 6) sclaw.nd rfl (Or.inl rfl) (pe_tup (pa_cons pe_str (pa_cons (pe_xf EA.xf D.fw hz hf (pv 8)) (pa_cons (pe_xf EA.xf D.fa hz hf (pv 8)) pa_nil)))))))) d9))), ?_⟩
  intro pl c L t2 sc G v2 v3 u1 u2 d e En H v0 v6 v7 v8 v9 v10 v11 v12 v13 v14 v15 Vv sG Pp ht hp k
  walk_at "rd"
  refine ⟨by show 3 ≤ sizeLine; decide, fun t nt => ?_⟩
  have st := Same.up (o := .tup [V.str "told", V.str "", V.int 0]) (Same.refl H) nt
  walk_at "rd"
  refine r_ixL (SqL.of (st _ _ Pp.at_)) (atI_nat (j := 0) rfl) ?_
  walk_at "rd"
  refine r_ixL (SqL.of (st _ _ Pp.at_)) (atI_nat (j := 1) rfl) ?_
  walk_at "rd"
  have P1 := Pp.same st
  have sG1 := sG.trans st
  intro y dy ny nd ne
  have sy : Same (upd H t (.tup [V.str "told", V.str "", V.int 0])) (upd (upd (upd H t (.tup [V.str "told", V.str "", V.int 0])) dy (.own y)) y (.ins C dy [])) := fun c o e1 => by
    have n1 : c ≠ y := fun z => by rw [z, ny] at e1; cases e1
    have n2 : c ≠ dy := fun z => by rw [z, nd] at e1; cases e1
    rw [upd_ne n1, upd_ne n2]
    exact e1
  refine ⟨y, dy, u1, u2, d, e, rfl, upd_same, by rw [upd_ne ne, upd_same], ne, Dp.later sy (P1.e1.dp sG1 Vv.h2), Dp.later sy (P1.e2.dp sG1 Vv.h3), fun ms ns ed ee gm gn H5 p q np nq pq am kp => ⟨rfl, ?_⟩, fun z k1 e1 dd H' s1 h1 h2 => ?_⟩
  · subst ed
    subst ee
    have bA : badA (intsD ms) (intsD ns) = none := by rw [badA, badL_good gm, badL_good gn]; rfl
    have s5 : Same (upd H t (.tup [V.str "told", V.str "", V.int 0])) H5 := fun d o e => kp _ _ (fun z => by rw [z, ny] at e; cases e) (sy _ _ e)
    have sH := st.trans s5
    have sGH := sG.trans sH
    obtain ⟨a, xs, rfl, ha, hx⟩ := Dp.lstAt Vv.h2
    obtain rfl := ints_dp hx
    obtain ⟨b, zs, rfl, hb, hz⟩ := Dp.lstAt Vv.h3
    obtain rfl := ints_dp hz
    have P5 := Pp.same sH
    rcases P5.e1 with ⟨h, _⟩ | ⟨c1, es1, xs1, e1, rfl, f1, f2, f3, f4, f5⟩
    · cases h
    rcases P5.e2 with ⟨h, _⟩ | ⟨c2, es2, xs2, e2, rfl, g1, g2, g3, g4, g5⟩
    · cases h
    obtain rfl := PyData.list.inj e1
    obtain rfl := PyData.list.inj e2
    obtain rfl := ints_dp f5
    obtain rfl := ints_dp g5
    have nc := P5.ne c1 c2 rfl rfl rfl rfl
    have old : ∀ {z : Addr} {o : HO}, H z = some o → z ≠ y ∧ z ≠ p ∧ z ≠ q := fun {z o} e => by
      have e1 := st _ _ e
      have e2 := sy _ _ e1
      exact ⟨(fun h => by rw [h, ny] at e1; cases e1), (fun h => by rw [h, np] at e2; cases e2), (fun h => by rw [h, nq] at e2; cases e2)⟩
    obtain ⟨op, hop⟩ := hp.ex
    have oc1 : ∃ o, H c1 = some o := by
      rcases Pp.e1 with ⟨h, _⟩ | ⟨c', es', xs', _, e, _, _, _, h, _⟩
      · cases h
      · cases e; exact ⟨_, h⟩
    have oc2 : ∃ o, H c2 = some o := by
      rcases Pp.e2 with ⟨h, _⟩ | ⟨c', es', xs', _, e, _, _, _, h, _⟩
      · cases h
      · cases e; exact ⟨_, h⟩
    obtain ⟨o1, oc1⟩ := oc1
    obtain ⟨o2, oc2⟩ := oc2
    have at3 : ∀ {z : Addr} {o : HO}, z ≠ pl → z ≠ c1 → z ≠ c2 → H5 z = some o → off3 pl c1 c2 H5 z = some o := fun a b c e => by rw [off3_at a b c]; exact e
    have sB := off3_part (p := pl) (c := c1) (d := c2) sGH Vv.gp f1 g1
    walk_at "rd"
    refine h9 (c := c) (sc := sc) En H5 _ _ _ _ _ _ _ _ _ Vv sGH P5 (due_dp (by unfold dueA; rw [bA]; exact s5 _ _ upd_same)) (Dp.later sH ht) ⟨hp.sameS sH, .inr ⟨y, dy, p, q, a, b, L, c1, c2, off3 pl c1 c2 H5, ms, ns, rfl, rfl, rfl, rfl, ⟨⟨at3 (Ne.symm (old hop).1) (Ne.symm (old oc1).1) (Ne.symm (old oc2).1) am.o, at3 (Ne.symm (old hop).2.1) (Ne.symm (old oc1).2.1) (Ne.symm (old oc2).2.1) am.h, at3 (Ne.symm (old hop).2.2) (Ne.symm (old oc1).2.2) (Ne.symm (old oc2).2.2) am.w⟩, sB.seq ha, sB.seq hb, gm, gn, at3 P5.np (Ne.symm f3) (Ne.symm g3) P5.at_, off3_no (.inl rfl), off3_no (.inr (.inl rfl)), off3_no (.inr (.inr rfl)), nc, f2, g2⟩, off3_sub, f4, g4⟩⟩ k
  · refine ⟨true, EA.xm, fun _ a0 _ => ?_, fun q => Bool.noConfusion q⟩
    refine r_asg ?_
    walk_at "rd"
    refine ⟨_, rfl, rfl, rfl, dd, _, _, rfl, h2, look2 _ _ _ _ (by decide +kernel), ?_⟩
    walk_at "rd"
    refine ⟨_, rfl, rfl, rfl, dd, _, _, rfl, h2, lookA _ _ _ _, ?_⟩
    walk_at "rd"
    refine ⟨by show 3 ≤ sizeLine; decide, fun t3 nt3 => ?_⟩
    have s3 := Same.up (o := .tup [V.str "refused", V.str z, V.int k1]) (sy.trans s1) nt3
    have sH := st.trans s3
    walk_at "rd"
    exact h9 (c := c) (sc := sc) En _ _ _ _ _ _ _ _ _ _ Vv (sG.trans sH) (Pp.same sH) (due_dp (by unfold dueA; rw [e1]; exact upd_same)) (Dp.later sH ht) ⟨hp.sameS sH, .inl rfl⟩ k
theorem ok_law (F : Fun K "law" "law" slaw f fd) (D : LD P w K mg base C CE CB CT) (T : Bt mg) : FnOk P w K mg base CX0 40 f fd ["_law_script"] (spLaw K) := by
  refine F.ok sclaw (fun vs H Q E h => ?_) (fun cdv A outer s H vs Q E hr h => ?_)
  · obtain ⟨l, ns, rfl, _⟩ := h
    rfl
  · obtain ⟨l, sc, rfl, hl, h63, k⟩ := h
    obtain ⟨u6, d6, h6⟩ := seg6 (f := f) (cdv := cdv) (outer := outer) (s := s) (H0 := H) (E := E) hr T D
    refine ⟨_, (pss_cons (ps_set (i := 1) sclaw.nd rfl (Or.inl rfl) (pe_df D.lPool hr (by decide) (pa_cons (pv 0) pa_nil)))
  (pss_cons (ps_set (i := 2) sclaw.nd rfl (Or.inl rfl) (pe_df D.lList hr (by decide) (pa_cons (pv 1) pa_nil)))
  (pss_cons (ps_set (i := 3) sclaw.nd rfl (Or.inl rfl) (pe_df D.lList hr (by decide) (pa_cons (pv 1) pa_nil)))
  (pss_cons (ps_set (i := 4) sclaw.nd rfl (Or.inl rfl) (pe_df D.lDue hr (by decide) (pa_cons pe_str (pa_cons (pv 2) pa_nil))))
  (C8.pss_cut (ps_if (pt_cmpR op_eq (pe_ix ix_tup (pv 4) pe_int (fun _ _ => rfl)) pe_str (nomark _)) (pss_one (ps_set (i := 4) sclaw.nd rfl (Or.inl rfl) (pe_df D.lDue hr (by decide) (pa_cons pe_str (pa_cons (pv 3) pa_nil))))) pss_nil)
  (pss_cons (ps_setLc (i := 5) (own := [("_law_one", 9)]) (g := gName 9) rfl sclaw.nd rfl rfl (sw_true rfl rfl rfl (by decide +kernel)) (pi_list (pe_lst (pa_cons (pv 2) (pa_cons (pv 3) pa_nil)))) (blkOk_by (own := [("_law_one", 9)]) (N := nmLaw) (sc := defScope slaw) (by decide +kernel)) (fun _ _ _ _ _ => pg_name (i := 9) sclaw.nd rfl (Or.inl rfl)) (fun _ _ _ _ _ => pts_nil) (fun _ _ _ _ _ => (pe_ifExp (pt_val (pe_callB (r := rIsi K) call_isi (by rfl) T.isinstance (by decide +kernel) (pa_cons (pv 9) (pa_cons (pe_bltn (v := .ty "list") (by rfl) T.list (by decide +kernel) rfl) pa_nil)))) (pe_callTy (T := "list") (r := rLstOf K) cl_lst (by rfl) T.list (by decide +kernel) (pa_cons (pv 9) pa_nil)) (pv 9)))) d6)))))), ?_⟩
    walk_at "rd"
    refine ⟨l, sc, rfl, hl, h63, fun p c H1 hp hc s1 P1 => ?_⟩
    walk_at "rd"
    refine ⟨p, c, sc, rfl, P1, fun v2 d H2 k2 P2 D2 N2 => ?_⟩
    walk_at "rd"
    refine ⟨p, c, sc, rfl, P2, fun v3 e H3 k3 P3 D3 N3 => ?_⟩
    have sG : Same (offp p H2) (offp p H3) := offp_part (Same.part offp_sub offp_p k3) offp_p
    have Vv : Vs K p (offp p H3) v2 v3 d e := ⟨offp_p, Dp.later sG D2, D3, N2, N3⟩
    have g2 : Dp K H3 v2 d := Dp.later offp_sub Vv.h2
    have g3 : Dp K H3 v3 e := Dp.later offp_sub Vv.h3
    walk_at "rd"
    refine ⟨"stocks", v2, d, rfl, g2, fun t H4 s4 h4 => ?_⟩
    walk_at "rd"
    refine r_cut (fun σ H' => Same H4 H' ∧ ∃ t, σ = [some (.ref l), some (.ref p), some v2, some v3, some (.ref t), none, none, none, none, none, none, none, none, none, none, none] ∧ H' t = some (.tup (dueA d e))) ?_ ?_
    · walk_at "rd"
      cases bd : badL d with
      | none =>
        rw [bd] at h4
        refine r_ixT (SqT.of h4) (atI_nat (j := 0) rfl) ?_
        walk_at "rd"
        refine r_eq rfl ?_
        refine ⟨_, rfl, ifT (decide_eq_true rfl) ?_⟩
        walk_at "rd"
        refine ⟨"wishes", v3, e, rfl, Dp.later s4 g3, fun t2 H5 s5 h5 => ?_⟩
        walk_at "rd"
        refine ⟨s5, t2, rfl, ?_⟩
        rw [h5, dueA, badA, bd]
        cases badL e <;> rfl
      | some k1 =>
        rw [bd] at h4
        refine r_ixT (SqT.of h4) (atI_nat (j := 0) rfl) ?_
        walk_at "rd"
        refine r_eq rfl ?_
        refine ⟨_, rfl, ifF (decide_eq_false fun z => absurd (V.str.inj z) (by decide +kernel)) ?_⟩
        walk_at "rd"
        refine ⟨Same.refl _, t, rfl, ?_⟩
        rw [h4, dueA, badA, bd]
        rfl
    rintro σ H5 ⟨s5, t2, rfl, h5⟩
    have s35 := s4.trans s5
    have sG5 : Same (offp p H3) H5 := offp_sub.trans s35
    have P5 := P3.sameS s35
    obtain ⟨op, hop⟩ := P5.ex
    walk_at "rd"
    refine ⟨by show 2 ≤ sizeLine; decide, fun L0 n0 => ?_⟩
    have s0 := Same.up (o := .lst [v2, v3]) (Same.refl H5) n0
    have sG6 := sG5.trans s0
    obtain ⟨H6, eH6⟩ : ∃ H6, H6 = upd H5 L0 (.lst [v2, v3]) := ⟨_, rfl⟩
    have hL0 : H6 L0 = some (.lst [v2, v3]) := by rw [eH6]; exact upd_same
    rw [← eH6] at s0 sG6
    rw [← eH6]
    have hop6 := s0 _ _ hop
    refine ⟨L0, rfl, ⟨_, SqL.of hL0⟩, fun D1 n1 => lc_it walk_list (IvL K p D1 (offp p H3) H6 v2 v3 d e) ⟨Same.up (Same.refl H6) n1, .inl ⟨rfl, upd_same⟩⟩ (fun i H' _ z => SqL.of (z.1 _ _ hL0)) ?_ ?_⟩
    · rintro i y H7 H8 hi ⟨s7, inv⟩ ⟨rfl, e1⟩
      have D1p : D1 ≠ p := fun z => by rw [z, hop6] at n1; cases n1
      have one : ∀ (v : V) (dd : PyData) (Q2 : VK) , Dp K (offp p H3) v dd → (∃ o, H8 D1 = some o) → (∀ (u : V) (H9 : Hp), Same H8 H9 → El K p D1 (offp p H3) H9 v u dd → (∀ c1 : Addr, isLD dd = true → u = .ref c1 → H8 c1 = none) → Q2 u H9) →
          (if isLD dd = true then rLstOf K [v] H8 Q2 else Q2 v H8) := fun v dd Q2 hd hD kk => by
        by_cases el : isLD dd = true
        · rw [if_pos el]
          obtain ⟨es, rfl⟩ : ∃ es, dd = .list es := by
            cases dd with
            | list es => exact ⟨es, rfl⟩
            | _ => cases el
          obtain ⟨a, xs, rfl, ha, hx⟩ := Dp.lstAt hd
          refine r_lstOf ((sG6.trans s7).seq ha) fun c1 nc => ?_
          have sc := Same.up (o := .lst xs) (Same.refl H8) nc
          obtain ⟨oD, hD⟩ := hD
          exact kk _ _ sc (.inr ⟨c1, es, xs, rfl, rfl, (sG6.trans s7).free nc, (fun z => by rw [z, s7 _ _ hop6] at nc; cases nc), (fun z => by rw [z, hD] at nc; cases nc), upd_same, hx⟩) fun c2 _ e => by cases e; exact nc
        · rw [if_neg el]
          exact kk v H8 (Same.refl _) (.inl ⟨Bool.eq_false_iff.mpr el, rfl⟩) fun c1 h _ => absurd h el
      have keepD : ∀ {H9 : Hp} {o : HO}, Same H8 H9 → Same H6 (upd H9 D1 o) := fun {H9 o} s b u e => by
        rw [upd_ne (fun z => by rw [z, n1] at e; cases e)]
        exact s _ _ (s7 _ _ e)
      walk_at "rd"
      refine ⟨rfl, ?_⟩
      walk_at "rd"
      match i, e1, inv with
      | 0, e1, inv =>
        cases (Option.some.inj e1)
        rcases inv with ⟨_, hD⟩ | ⟨h, _⟩ | ⟨h, _⟩
        · have fin : ∀ (u : V) (H9 : Hp), Same H8 H9 → El K p D1 (offp p H3) H9 v2 u d → (∀ c1 : Addr, isLD d = true → u = .ref c1 → H8 c1 = none) → ∃ acc, H9 D1 = some (.lst acc) ∧ acc.length < sizeLine ∧ IvL K p D1 (offp p H3) H6 v2 v3 d e (0 + 1) (upd H9 D1 (.lst (acc ++ [u]))) := fun u H9 s9 E9 fr =>
            ⟨[], s9 _ _ hD, (by show 0 < sizeLine; decide), keepD s9, .inr (.inl ⟨rfl, u, upd_same, E9.off⟩)⟩
          have st := one v2 d _ Vv.h2 ⟨_, hD⟩ fin
          refine r_isDL (Dp.later (sG6.trans s7) Vv.h2) ?_
          refine ⟨_, rfl, ?_⟩
          by_cases el : isLD d = true
          · rw [if_pos el] at st ⊢
            walk_at "rd"
            exact st
          · rw [if_neg el] at st ⊢
            walk_at "rd"
            exact st
        · cases h
        · cases h
      | 1, e1, inv =>
        cases (Option.some.inj e1)
        rcases inv with ⟨h, _⟩ | ⟨_, u1, hD, E1⟩ | ⟨h, _⟩
        · cases h
        · have fin : ∀ (u : V) (H9 : Hp), Same H8 H9 → El K p D1 (offp p H3) H9 v3 u e → (∀ c1 : Addr, isLD e = true → u = .ref c1 → H8 c1 = none) → ∃ acc, H9 D1 = some (.lst acc) ∧ acc.length < sizeLine ∧ IvL K p D1 (offp p H3) H6 v2 v3 d e (1 + 1) (upd H9 D1 (.lst (acc ++ [u]))) := fun u H9 s9 E9 fr =>
            ⟨[u1], s9 _ _ hD, (by show 1 < sizeLine; decide), keepD s9, .inr (.inr ⟨rfl, u1, u, upd_same, sG6.free n1, D1p, (E1.same s9).off, E9.off, fun c1 c2 l1 l2 e1 e2 => by
              rcases E1 with ⟨h, _⟩ | ⟨c', es, xs, _, h2, _, _, _, h6, _⟩
              · rw [h] at l1; cases l1
              · rw [e1] at h2
                cases h2
                intro z
                have h := fr c2 l2 e2
                rw [← z, h6] at h
                cases h⟩)⟩
          have st := one v3 e _ Vv.h3 ⟨_, hD⟩ fin
          refine r_isDL (Dp.later (sG6.trans s7) Vv.h3) ?_
          refine ⟨_, rfl, ?_⟩
          by_cases el : isLD e = true
          · rw [if_pos el] at st ⊢
            walk_at "rd"
            exact st
          · rw [if_neg el] at st ⊢
            walk_at "rd"
            exact st
        · cases h
      | i + 2, e1, inv => simp at e1
    · rintro H7 ⟨s7, inv⟩
      rcases inv with ⟨h, _⟩ | ⟨h, _⟩ | ⟨_, u1, u2, Pp⟩
      · cases h
      · cases h
      · walk_at "rd"
        exact h6 _ H7 _ _ _ _ _ _ _ _ _ _ _ Vv (sG6.trans s7) Pp (due_dp (s7 _ _ (s0 _ _ h5))) (P5.sameS (s0.trans s7)) k
end
end Pk
set_option Elab.async false
set_option linter.all false
set_option maxRecDepth 100000
set_option maxHeartbeats 4000000
namespace Pk
open PySem L2
local macro_rules | `(tactic| walk_at "rd") => `(tactic| repeat (first
  | with_reducible refine r_seq ?_ | with_reducible refine r_nxt ?_ | with_reducible refine r_asg ?_ | with_reducible refine r_to ?_ | with_reducible refine r_ret ?_ | with_reducible refine r_for ?_ | with_reducible refine r_lc ?_ | with_reducible refine r_lc2 ?_ | with_reducible refine r_rng1 ?_ | with_reducible refine r_list ?_ | with_reducible refine r_tupI ?_ | with_reducible refine r_drop ?_ | with_reducible refine r_ifs ?_
  | with_reducible refine r_op ?_ | with_reducible refine r_c ?_ | with_reducible refine r_var rfl ?_ | with_reducible refine r_var (by assumption) ?_ | with_reducible refine r_I0 ?_ | with_reducible refine r_un ?_ | with_reducible refine r_U ?_ | with_reducible refine r_make ?_ | with_reducible refine r_makeS ?_ | with_reducible refine r_ifE ?_ | with_reducible refine r_cm ?_ | with_reducible refine r_mkV rfl ?_ | with_reducible refine r_sub ?_
  | with_reducible refine r_nil ?_ | with_reducible refine r_cons ?_ | with_reducible refine r_cb ?_ | with_reducible refine r_sl ?_ | with_reducible refine r_noP ?_ | with_reducible refine r_part ?_ | with_reducible refine r_isI ?_ | with_reducible refine r_lst ?_ | with_reducible refine r_tup ?_ | with_reducible refine r_call ?_ | with_reducible refine r_callS ?_ | with_reducible refine r_sFldU ?_ | with_reducible refine r_chain ?_ | with_reducible refine r_enum ?_ | with_reducible refine r_zip ?_ | with_reducible refine r_rng3 ?_ | with_reducible refine r_gtup ?_ | with_reducible refine r_methU ?_
  | with_reducible refine r_test ?_ | with_reducible refine r_B ?_ | with_reducible refine r_and ?_ | with_reducible refine r_or ?_ | with_reducible refine r_not ?_ | with_reducible refine r_andV ?_ | with_reducible refine r_orV ?_ | with_reducible refine r_notV ?_ | with_reducible refine r_bl ?_ | with_reducible refine r_yes ?_ | with_reducible refine r_int ?_ | with_reducible refine r_is0 ?_ | with_reducible refine r_is1 ?_ | with_reducible refine iteT ?_ | with_reducible refine iteF ?_ | with_reducible refine ite_nF ?_ | with_reducible refine ite_nT ?_
  | with_reducible refine r_mod (by decide) ?_ | with_reducible refine r_div (by decide) (by decide) ?_ | with_reducible refine r_mulR (by decide) (by decide) ?_ | with_reducible refine r_mulL (by decide) (by decide) ?_ | with_reducible refine r_pow (by decide) (by decide) (by decide) ?_))
/-! ### the errors -/
section
variable {P : Program} {w : World} {K : PySem.W.Frag} {mg : Str → Option Value} {base : Heap} {C fI cc fc : Addr} {fdc : FuncData}
abbrev slIB : Stmt := inCls 7 0
abbrev nfIB (cc c : Addr) : NdefX.NF := { name := "__init__", qual := "InvalidBound.__init__", params := defArgs slIB, body := defBody slIB, scope := defScope slIB, cl := [(("__class__" : Str), cc)], c := c }
theorem ok_IB {c : Addr} {n : Nat} (T : ErrC K C) (J : InitFn P K C fI cc (nfIB cc c)) (B : Bt mg) (G : FnOk P w K mg base CX0 (n + 1) fc fdc ["value"] (spCopy K n)) (mc : mg "own_copy" = some (.ref fc)) (kc : PySem.W.keepIn K (.ref fc) = true)
    (bc : Binds K fdc ["value"] []) (free : PySem.W.findIn K (.ref C) "name" = some none) : ErrOk P w K mg base (n + 2) C fI (spErr1 K n C "name") := by
  exact err_one (F := nfIB cc c) T J B.super G mc kc bc (NdefX.nscope_by (by show NdefX.nscB _ _ _ (defScope slIB) = true; decide +kernel)) rfl rfl rfl free (fun _ _ _ _ _ us hl => match us, hl with | [_, _], _ => rfl) (fun env => rfl) (by decide) (by decide)
abbrev slIA : Stmt := inCls 5 0
abbrev nfIA (cc c : Addr) : NdefX.NF := { name := "__init__", qual := "InvalidAmounts.__init__", params := defArgs slIA, body := defBody slIA, scope := defScope slIA, cl := [(("__class__" : Str), cc)], c := c }
theorem ok_IA {c : Addr} {n : Nat} (T : ErrC K C) (J : InitFn P K C fI cc (nfIA cc c)) (B : Bt mg) (G : FnOk P w K mg base CX0 (n + 1) fc fdc ["value"] (spCopy K n)) (mc : mg "own_copy" = some (.ref fc)) (kc : PySem.W.keepIn K (.ref fc) = true)
    (bc : Binds K fdc ["value"] []) (free : PySem.W.findIn K (.ref C) "word" = some none) (free2 : PySem.W.findIn K (.ref C) "at" = some none) : ErrOk P w K mg base (n + 2) C fI (spErr2 K n C "word" "at") := by
  exact err_two (F := nfIA cc c) T J B.super G mc kc bc (NdefX.nscope_by (by show NdefX.nscB _ _ _ (defScope slIA) = true; decide +kernel)) rfl rfl rfl free free2 (fun _ _ _ _ _ us hl => match us, hl with | [_, _, _], _ => rfl) (fun env => rfl) (by decide) (by decide) (by decide) (by decide)
end
/-! ### the errors -/
section
variable {P : Program} {w : World} {K : PySem.W.Frag} {mg : Str → Option Value} {base : Heap} {C fI cc fc : Addr} {fdc : FuncData}
abbrev slIT : Stmt := inCls 4 0
abbrev nfIT (cc c : Addr) : NdefX.NF := { name := "__init__", qual := "InvalidTable.__init__", params := defArgs slIT, body := defBody slIT, scope := defScope slIT, cl := [(("__class__" : Str), cc)], c := c }
theorem ok_IT {c : Addr} {n : Nat} (T : ErrC K C) (J : InitFn P K C fI cc (nfIT cc c)) (B : Bt mg) (G : FnOk P w K mg base CX0 (n + 1) fc fdc ["value"] (spCopy K n)) (mc : mg "own_copy" = some (.ref fc)) (kc : PySem.W.keepIn K (.ref fc) = true)
    (bc : Binds K fdc ["value"] []) (free : PySem.W.findIn K (.ref C) "at" = some none) : ErrOk P w K mg base (n + 2) C fI (spErr1 K n C "at") := by
  exact err_one (F := nfIT cc c) T J B.super G mc kc bc (NdefX.nscope_by (by show NdefX.nscB _ _ _ (defScope slIT) = true; decide +kernel)) rfl rfl rfl free (fun _ _ _ _ _ us hl => match us, hl with | [_, _], _ => rfl) (fun env => rfl) (by decide) (by decide)
end
theorem fi_of {K : PySem.W.Frag} {C f0 : Addr} {m : Str} (h1 : PySem.W.findIn K (.ref C) m = some (some (.ref f0))) (h2 : PySem.W.fnIn K f0 = true) : ∀ f, PySem.W.findIn K (.ref C) m = some (some (.ref f)) → PySem.W.fnIn K f = true := fun f e => by
  rw [h1] at e
  have z := Value.ref.inj (Option.some.inj (Option.some.inj e))
  rw [← z]
  exact h2
/-- what the top holds of a class method m of the class at C -/
structure ClsAt (K : PySem.W.Frag) (C : Addr) (m q : Str) (st : Stmt) : Prop where
  ex : ∃ (pr g : Addr) (fd : FuncData), ClX.CRead K C (.type "type") ∧ ClX.CMet K C (.type "type") m pr g ∧ Fun K m q st g fd
theorem ClsAt.of {K : PySem.W.Frag} {C pr g : Addr} {rest : List Value} {m q : Str} {st : Stmt} {oc : Value} {od : Option Addr} {kV dc pm : Value} {an : Option Addr} {cd ct : Value} {sl : Array (Option Value)} (rd : PySem.W.readsIn K C (.type "type") = true) (ga : PySem.W.specialIn K (.ref C) "__getattribute__" = some (some (.builtin "type.__getattribute__")))
    (at_ : PySem.W.findCls K (.ref C) (.type "type") m = some (.get (.builtin "classmethod.__get__") (.ref pr) .none (.ref C))) (rc : PySem.W.recIn K pr "classmethod" = some (.ref g :: rest)) (fi : PySem.W.fnIn K g = true)
    (l : K.lookup g = some ⟨oc, od, .func (PySem.W.fnOf m q (defArgs st) (defBody st) (defScope st) .none kV dc pm an cd ct), sl⟩) (c : PySem.W.codeIn K cd q = true) (k : PySem.W.keepIn K (.ref g) = true) : ClsAt K C m q st :=
  ⟨pr, g, _, ⟨rd, ga⟩, ⟨at_, ⟨rest, rc⟩, fi⟩, fun_mk (st := st) l c k⟩
open PySem.W
theorem all_mk {l : PySem.W.OpenLaw} {w : World} {K : PySem.W.Frag} {h : Heap} {mg : Str → Option Value} {fa : Addr} (X : K.In h) (G : h.Ns mainGlobals mg) (hfa : mg "law" = some (.ref fa)) {CET fIET ccET cET CEB fIEB ccEB cEB CEA fIEA ccEA cEA CT CA : Addr}
    (bt : BtIn K)
    (top : (l.prog.main.scope.names.lookup ("super" : Str)).isSome = false)
    (d_own : DefAt K "own_copy" sCopy)
    (e_ET : ErrAt1 l.prog K "InvalidTable" "InvalidTable.__init__" slIT CET fIET ccET cET)
    (fr_ET_at : PySem.W.findIn K (.ref CET) "at" = some none)
    (e_EB : ErrAt1 l.prog K "InvalidBound" "InvalidBound.__init__" slIB CEB fIEB ccEB cEB)
    (fr_EB_name : PySem.W.findIn K (.ref CEB) "name" = some none)
    (e_EA : ErrAt1 l.prog K "InvalidAmounts" "InvalidAmounts.__init__" slIA CEA fIEA ccEA cEA)
    (fr_EA_word : PySem.W.findIn K (.ref CEA) "word" = some none)
    (fr_EA_at : PySem.W.findIn K (.ref CEA) "at" = some none)
    (d_DI : DefAt K "is_integer" slIsInt)
    (d_DB : DefAt K "is_between" slBet)
    {tk_aL : Tok}
    (a_aL : PySem.W.nsIn K mainGlobals "MOST_LINES" = some (some (.int 8 tk_aL)))
    (b_all : PySem.W.nsIn K mainGlobals "all" = some none)
    (d_DPr : DefAt K "is_price" slPrice)
    (d_DRo : DefAt K "is_row" slRow)
    (d_DC : DefAt K "check_rows" slChkR)
    (d_DCp : DefAt K "check_price" slChP)
    (d_DCa : DefAt K "check_line_amounts" slChk)
    (d_D6 : DefAt K "_law_pool" slPool)
    (d_D7 : DefAt K "_law_mixed" slMixed)
    (d_D8 : DefAt K "_law_draw" slDraw)
    (d_D9 : DefAt K "_law_number" slNumber)
    (d_D10 : DefAt K "_law_same" slSame)
    (d_D11 : DefAt K "_law_list" slList)
    (d_D12 : DefAt K "_law_due" slDue)
    (d_D13 : DefAt K "_law_zeros_due" slZeD)
    (a_CT : PySem.W.nsIn K mainGlobals "Table" = some (some (.ref CT)))
    (me_i : MethAt K CT "__init__" "Table.__init__" slTbI)
    (me_s : MethAt K CT "stocks" "Table.stocks" slTStk)
    (me_w : MethAt K CT "wishes" "Table.wishes" slTWsh)
    (O_CT : OwnC K CT)
    (mk_CT : PySem.W.makesIn K CT = true)
    (kc_CT : PySem.W.keepIn K (.ref CT) = true)
    (no_CT_entries : PySem.W.findIn K (.ref CT) "entries" = some none)
    (no_CT_used : PySem.W.findIn K (.ref CT) "used" = some none)
    (a_CA : PySem.W.nsIn K mainGlobals "Amounts" = some (some (.ref CA)))
    (me_xi : MethAt K CA "__init__" "Amounts.__init__" slAmI)
    (me_xe : MethAt K CA "__eq__" "Amounts.__eq__" slEq)
    (me_xs : MethAt K CA "stocks" "Amounts.stocks" slStocks)
    (me_xw : MethAt K CA "wishes" "Amounts.wishes" slWishes)
    (me_xo : MethAt K CA "over" "Amounts.over" slOver)
    (me_xf : MethAt K CA "fits_size" "Amounts.fits_size" slFit)
    (O_CA : OwnC K CA)
    (mk_CA : PySem.W.makesIn K CA = true)
    (kc_CA : PySem.W.keepIn K (.ref CA) = true)
    (no_CA_held : PySem.W.findIn K (.ref CA) "held" = some none)
    (no_CA_wished : PySem.W.findIn K (.ref CA) "wished" = some none)
    (z_zer : ClsAt K CA "zeros" "Amounts.zeros" slZer)
    (z_fil : ClsAt K CT "filled" "Table.filled" slFil)
    (d_D17 : DefAt K "_law_told" slTold)
    (d_D18 : DefAt K "_law_zeros" slZeL)
    (d_law : DefAt K "law" slaw) :
    ∃ fd : FuncData, (∀ (s : Shared) (u : Value), BindsTo s fd ⟨[u], []⟩ [("_law_script", u)]) ∧ ∀ base : Heap, K.In base → base.Ns mainGlobals mg → FnOk l.prog w K mg base CX0 40 fa fd ["_law_script"] (spLaw K) := by
  have T := bt.bt X G
  obtain ⟨f1, fd1, F1, m1⟩ := d_own.fn X G
  obtain ⟨f_DI, fd_DI, F_DI, m_DI⟩ := d_DI.fn X G
  obtain ⟨f_DB, fd_DB, F_DB, m_DB⟩ := d_DB.fn X G
  obtain ⟨f_DPr, fd_DPr, F_DPr, m_DPr⟩ := d_DPr.fn X G
  obtain ⟨f_DRo, fd_DRo, F_DRo, m_DRo⟩ := d_DRo.fn X G
  obtain ⟨f_DC, fd_DC, F_DC, m_DC⟩ := d_DC.fn X G
  obtain ⟨f_DCp, fd_DCp, F_DCp, m_DCp⟩ := d_DCp.fn X G
  obtain ⟨f_DCa, fd_DCa, F_DCa, m_DCa⟩ := d_DCa.fn X G
  obtain ⟨f_D6, fd_D6, F_D6, m_D6⟩ := d_D6.fn X G
  obtain ⟨f_D7, fd_D7, F_D7, m_D7⟩ := d_D7.fn X G
  obtain ⟨f_D8, fd_D8, F_D8, m_D8⟩ := d_D8.fn X G
  obtain ⟨f_D9, fd_D9, F_D9, m_D9⟩ := d_D9.fn X G
  obtain ⟨f_D10, fd_D10, F_D10, m_D10⟩ := d_D10.fn X G
  obtain ⟨f_D11, fd_D11, F_D11, m_D11⟩ := d_D11.fn X G
  obtain ⟨f_D12, fd_D12, F_D12, m_D12⟩ := d_D12.fn X G
  obtain ⟨f_D13, fd_D13, F_D13, m_D13⟩ := d_D13.fn X G
  obtain ⟨g_i, gd_i, G_i, n_i⟩ := me_i.fn
  obtain ⟨g_s, gd_s, G_s, n_s⟩ := me_s.fn
  obtain ⟨g_w, gd_w, G_w, n_w⟩ := me_w.fn
  obtain ⟨g_xi, gd_xi, G_xi, n_xi⟩ := me_xi.fn
  obtain ⟨g_xe, gd_xe, G_xe, n_xe⟩ := me_xe.fn
  obtain ⟨g_xs, gd_xs, G_xs, n_xs⟩ := me_xs.fn
  obtain ⟨g_xw, gd_xw, G_xw, n_xw⟩ := me_xw.fn
  obtain ⟨g_xo, gd_xo, G_xo, n_xo⟩ := me_xo.fn
  obtain ⟨g_xf, gd_xf, G_xf, n_xf⟩ := me_xf.fn
  obtain ⟨f_D17, fd_D17, F_D17, m_D17⟩ := d_D17.fn X G
  obtain ⟨f_D18, fd_D18, F_D18, m_D18⟩ := d_D18.fn X G
  obtain ⟨f_law, fd_law, F_law, m_law⟩ := d_law.fn X G
  cases hfa.symm.trans m_law
  have b_law : ∀ (s : Shared) (u : Value), BindsTo s fd_law ⟨[u], []⟩ [("_law_script", u)] := fun s u => by
    obtain ⟨oc, od, kV, doc, pm, an, cdv, ct, osl, rfl, lk, hcd⟩ := F_law.ex
    exact .of_eq rfl
  refine ⟨fd_law, b_law, fun base _ _ => ?_⟩
  have mk1 : ∀ {fd x st f ps sp n}, Fun K x x st f fd → mg x = some (.ref f) → Binds K fd ps [] → FnOk l.prog w K mg base CX0 n f fd ps sp → Df l.prog w K mg base CX0 x n ps sp := fun F m b o => ⟨_, _, m, F.kp, b, o⟩
  have mkL : ∀ {fd x st f ps sp n}, Fun K x x st f fd → mg x = some (.ref f) → Binds K fd ps [] → FnOk l.prog w K mg base (L2.CX l.prog w) n f fd ps sp → Df l.prog w K mg base (L2.CX l.prog w) x n ps sp := fun F m b o => ⟨_, _, m, F.kp, b, o⟩
  have B1 : Binds K fd1 ["value"] [] := F1.binds fun _ _ _ _ _ _ us hl => match us, hl with | [_], _ => rfl
  have G1 := ok_copy (P := l.prog) (w := w) (base := base) F1 T m1 1
  have ET : De l.prog w K mg base "InvalidTable" 3 (spErr1 K 1 CET "at") CET := e_ET.de X G (ok_IT e_ET.errC (e_ET.init top ⟨_, rfl⟩) T G1 m1 F1.kp B1 fr_ET_at)
  have EB : De l.prog w K mg base "InvalidBound" 3 (spErr1 K 1 CEB "name") CEB := e_EB.de X G (ok_IB e_EB.errC (e_EB.init top ⟨_, rfl⟩) T G1 m1 F1.kp B1 fr_EB_name)
  have EA : De l.prog w K mg base "InvalidAmounts" 3 (spErr2 K 1 CEA "word" "at") CEA := e_EA.de X G (ok_IA e_EA.errC (e_EA.init top ⟨_, rfl⟩) T G1 m1 F1.kp B1 fr_EA_word fr_EA_at)
  have DI := mk1 F_DI m_DI (ps := ["value"]) (F_DI.binds fun _ _ _ _ _ _ us hl => match us, hl with | [_], _ => rfl) (ok_isInt F_DI T)
  have DB := mk1 F_DB m_DB (ps := ["value", "low", "high"]) (F_DB.binds fun _ _ _ _ _ _ us hl => match us, hl with | [_, _, _], _ => rfl) (ok_bet F_DB DI)
  have aL := PySem.W.mg_of X G a_aL
  have tall := PySem.W.mg_none_of X G b_all
  have DPr := mk1 F_DPr m_DPr (ps := ["value"]) (F_DPr.binds fun _ _ _ _ _ _ us hl => match us, hl with | [_], _ => rfl) (ok_price F_DPr DI)
  have DRo := mk1 F_DRo m_DRo (ps := ["value", "first"]) (F_DRo.binds fun _ _ _ _ _ _ us hl => match us, hl with | [_, _], _ => rfl) (ok_row F_DRo T tall aL DPr)
  have DC := mkL F_DC m_DC (ps := ["rows"]) (F_DC.binds fun _ _ _ _ _ _ us hl => match us, hl with | [_], _ => rfl) (ok_chkR F_DC T aL DRo ET)
  have DCp := mkL F_DCp m_DCp (ps := ["price"]) (F_DCp.binds fun _ _ _ _ _ _ us hl => match us, hl with | [_], _ => rfl) (ok_chP F_DCp DPr EB)
  have DCa := mkL F_DCa m_DCa (ps := ["word", "numbers"]) (F_DCa.binds fun _ _ _ _ _ _ us hl => match us, hl with | [_, _], _ => rfl) (ok_chkA F_DCa T aL DI EA)
  have D6 := mk1 F_D6 m_D6 (ps := ["_law_script"]) (F_D6.binds fun _ _ _ _ _ _ us hl => match us, hl with | [_], _ => rfl) (ok_pool F_D6 T)
  have D7 := mk1 F_D7 m_D7 (ps := ["_law_pool_here", "_law_cell"]) (F_D7.binds fun _ _ _ _ _ _ us hl => match us, hl with | [_, _], _ => rfl) (ok_mixed F_D7 T)
  have D8 := mk1 F_D8 m_D8 (ps := ["_law_pool_here", "_law_size"]) (F_D8.binds fun _ _ _ _ _ _ us hl => match us, hl with | [_, _], _ => rfl) (ok_draw F_D8 T D7)
  have D9 := mk1 F_D9 m_D9 (ps := ["_law_pool_here", "_law_parts"]) (F_D9.binds fun _ _ _ _ _ _ us hl => match us, hl with | [_, _], _ => rfl) (ok_number F_D9 T D8)
  have D10 := mk1 F_D10 m_D10 (ps := ["_law_actual", "_law_due_here"]) (F_D10.binds fun _ _ _ _ _ _ us hl => match us, hl with | [_, _], _ => rfl) (ok_same F_D10 T m_D10 2)
  have D11 := mk1 F_D11 m_D11 (ps := ["_law_pool_here"]) (F_D11.binds fun _ _ _ _ _ _ us hl => match us, hl with | [_], _ => rfl) (ok_list F_D11 T D8 D9)
  have D12 := mk1 F_D12 m_D12 (ps := ["_law_word", "_law_entries"]) (F_D12.binds fun _ _ _ _ _ _ us hl => match us, hl with | [_, _], _ => rfl) (ok_dueL F_D12 T)
  have D13 := mk1 F_D13 m_D13 (ps := ["_law_one", "_law_two"]) (F_D13.binds fun _ _ _ _ _ _ us hl => match us, hl with | [_, _], _ => rfl) (ok_zeD F_D13 T)
  have b_i : Binds K gd_i ["self", "rows"] [] := G_i.binds fun _ _ _ _ _ _ us hl => match us, hl with | [_, _], _ => rfl
  have b_s : Binds K gd_s ["self"] [] := G_s.binds fun _ _ _ _ _ _ us hl => match us, hl with | [_], _ => rfl
  have b_w : Binds K gd_w ["self"] [] := G_w.binds fun _ _ _ _ _ _ us hl => match us, hl with | [_], _ => rfl
  have g_CT := PySem.W.mg_of X G a_CT
  have b_xi : Binds K gd_xi ["self", "stocks", "wishes"] [] := G_xi.binds fun _ _ _ _ _ _ us hl => match us, hl with | [_, _, _], _ => rfl
  have b_xe : Binds K gd_xe ["self", "other"] [] := G_xe.binds fun _ _ _ _ _ _ us hl => match us, hl with | [_, _], _ => rfl
  have b_xs : Binds K gd_xs ["self"] [] := G_xs.binds fun _ _ _ _ _ _ us hl => match us, hl with | [_], _ => rfl
  have b_xw : Binds K gd_xw ["self"] [] := G_xw.binds fun _ _ _ _ _ _ us hl => match us, hl with | [_], _ => rfl
  have b_xo : Binds K gd_xo ["self"] [] := G_xo.binds fun _ _ _ _ _ _ us hl => match us, hl with | [_], _ => rfl
  have b_xf : Binds K gd_xf ["self", "table"] [] := G_xf.binds fun _ _ _ _ _ _ us hl => match us, hl with | [_, _], _ => rfl
  have g_CA := PySem.W.mg_of X G a_CA
  have AT : TbC K CT := ⟨O_CT, no_CT_entries, no_CT_used⟩
  have oS := ok_tStk (P := l.prog) (w := w) (mg := mg) (base := base) G_s T AT
  have oW := ok_tWsh (P := l.prog) (w := w) (mg := mg) (base := base) G_w T AT
  have DT : Dk l.prog w K mg base (L2.CX l.prog w) "Table" 8 ["self", "rows"] (spTbI K CT CET) CT := ⟨_, _, g_CT, ⟨mk_CT, n_i.at_, n_i.fn, kc_CT⟩, b_i, ok_tbI G_i T AT DC⟩
  have A : AmC K CA := ⟨O_CA.cl, no_CA_held, no_CA_wished⟩
  have DA : Dk l.prog w K mg base (L2.CX l.prog w) "Amounts" 8 ["self", "stocks", "wishes"] (spAmG K CA CEA) CA := ⟨_, _, g_CA, ⟨mk_CA, n_xi.at_, n_xi.fn, kc_CA⟩, b_xi, ok_amG G_xi T A DCa⟩
  have M : AmN l.prog w K mg base CA CEA CEB CT :=
    { A := A, O := O_CA
      eq := ⟨_, _, n_xe, ok_amEq G_xe T A O_CA g_CA, b_xe⟩
      stocks := ⟨_, _, n_xs, ok_stocks G_xs T A, b_xs⟩
      wishes := ⟨_, _, n_xw, ok_wishes G_xw T A, b_xw⟩
      over := ⟨_, _, n_xo, ok_over G_xo T A, b_xo⟩
      fit := ⟨_, _, n_xf, ok_fit G_xf T A AT n_s oS b_s n_w oW b_w, b_xf⟩
      made := DA }
  obtain ⟨prZ, gZ, fdZ, rdZ, cmZ, FZ⟩ := z_zer.ex
  have bZ : Binds K fdZ ["cls", "stock_count", "wish_count"] [] := FZ.binds fun _ _ _ _ _ _ us hl => match us, hl with | [_, _, _], _ => rfl
  have Z : ClM l.prog w K mg base "Amounts" "zeros" 10 ["cls", "stock_count", "wish_count"] (spZer K CA CEB) CA := ⟨⟨gZ, prZ, fdZ, _, g_CA, rdZ, cmZ, ok_zer FZ T aL DB EB DA, bZ⟩⟩
  obtain ⟨prF, gF, fdF, rdF, cmF, FF⟩ := z_fil.ex
  have bF : Binds K fdF ["cls", "stock_count", "wish_count", "price"] [] := FF.binds fun _ _ _ _ _ _ us hl => match us, hl with | [_, _, _, _], _ => rfl
  have Y : ClM l.prog w K mg base "Table" "filled" 10 ["cls", "stock_count", "wish_count", "price"] (spFil K CT CEB) CT := ⟨⟨gF, prF, fdF, _, g_CT, rdF, cmF, ok_fil FF T aL DB DCp EB DT, bF⟩⟩
  have D17 := mk1 F_D17 m_D17 (ps := ["_law_amounts", "_law_stocks", "_law_wishes"]) (F_D17.binds fun _ _ _ _ _ _ us hl => match us, hl with | [_, _, _], _ => rfl) (ok_toldA F_D17 T M D10)
  have D18 := mk1 F_D18 m_D18 (ps := ["_law_one", "_law_two"]) (F_D18.binds fun _ _ _ _ _ _ us hl => match us, hl with | [_, _], _ => rfl) (ok_zeL F_D18 M Z EB fr_EB_name)
  exact ok_law F_law ⟨D6, D8, D11, D12, D10, D18, D13, D17, M, Y, EA, fr_EA_word, fr_EA_at⟩ T
end Pk
set_option Elab.async false
set_option linter.all false
set_option maxRecDepth 100000
namespace Pk
open PySem L2
theorem walk {l : PySem.W.OpenLaw} {q : Program} {loose : List Str} {XP : (Str → Option Value) → Heap → Prop} {YP : World → Heap → Prop} {d : DefRec} {K : Params → PySem.W.Frag} (hn : l.most = some 63) (hdf : d.params.defaults = [])
    (hY : ∀ (w : World) (h : Heap), YP w h → (K w.params).In h)
    (F : ∀ (w : World) (mg : Str → Option Value) (fa : Addr) (h : Heap), (K w.params).In h → h.Ns mainGlobals mg → mg d.name = some (.ref fa) →
      ∃ fd : FuncData, (∀ (s : Shared) (u : Value), BindsTo s fd ⟨[u], []⟩ [("_law_script", u)]) ∧ ∀ base : Heap, (K w.params).In base → base.Ns mainGlobals mg → FnOk l.prog w (K w.params) mg base CX0 40 fa fd ["_law_script"] (spLaw (K w.params))) :
    PySem.W.WalkO q loose XP YP l.row.toRowW d [] (fun f vs => PySem.call f vs) :=
  L2.walk_of (n := 63) (k := 40) (x := "_law_script") (CX := fun _ => CX0) (sp := fun w => spLaw (K w.params)) hn (by decide) hdf ⟨rfl, by decide, by decide⟩ hY F (fun _ _ a ns hl _ hS => ⟨a, ns, rfl, hS, hl, fun _ => rfl⟩) fun _ _ _ _ _ z => z
end Pk
local macro_rules | `(tactic| walk_at "pk_def") => `(tactic| (refine' Pk.DefAt.of ?a ?l ?c ?k; (case a => k_is); (case l => k_is); (case c => k_is); (case k => k_is)))
local macro_rules | `(tactic| walk_at "pk_defK") => `(tactic| (refine' Pk.DefAtK.of ?a ?l ?c ?k ?n; (case a => k_is); (case l => k_is); (case c => k_is); (case k => k_is); (case n => k_is)))
local macro_rules | `(tactic| walk_at "pk_meth") => `(tactic| (refine' Pk.MethAt.of ?a ?l ?c ?k ?i; (case a => k_is); (case l => k_is); (case c => k_is); (case k => k_is); (case i => k_is)))
open PySem PySem.W PyProof.Rows Pk in
set_option maxRecDepth 100000 in
set_option maxHeartbeats 0 in
theorem PySem.Challenge.cw_pairorder_k06_amounts_made_holds : PySem.Challenge.rw_pairorder_k06_amounts_made.Holds := by
  w_on; o_law; k_head; (case hw => w_witness2)
  k_fill
  refine Pk.walk (l := PySem.Challenge.rw_pairorder_k06_amounts_made) rfl rfl (fun w h Y => PySem.W.kIn_of Y) ?F
  case F =>
    intro w mg fa h KX G hmg
    refine' Pk.all_mk KX G hmg ?zz_bt ?zz_top ?zz_d_own ?zz_e_ET ?zz_fr_ET_at ?zz_e_EB ?zz_fr_EB_name ?zz_e_EA ?zz_fr_EA_word ?zz_fr_EA_at ?zz_d_DI ?zz_d_DB ?zz_a_aL ?zz_b_all ?zz_d_DPr ?zz_d_DRo ?zz_d_DC ?zz_d_DCp ?zz_d_DCa ?zz_d_D6 ?zz_d_D7 ?zz_d_D8 ?zz_d_D9 ?zz_d_D10 ?zz_d_D11 ?zz_d_D12 ?zz_d_D13 ?zz_a_CT ?zz_me_i ?zz_me_s ?zz_me_w ?zz_O_CT ?zz_mk_CT ?zz_kc_CT ?zz_no_CT_entries ?zz_no_CT_used ?zz_a_CA ?zz_me_xi ?zz_me_xe ?zz_me_xs ?zz_me_xw ?zz_me_xo ?zz_me_xf ?zz_O_CA ?zz_mk_CA ?zz_kc_CA ?zz_no_CA_held ?zz_no_CA_wished ?zz_z_zer ?zz_z_fil ?zz_d_D17 ?zz_d_D18 ?zz_d_law
    case zz_bt =>
      intro x hx
      simp only [List.mem_cons, List.not_mem_nil, or_false] at hx
      rcases hx with rfl | rfl | rfl | rfl | rfl | rfl | rfl | rfl | rfl | rfl | rfl | rfl | rfl | rfl | rfl | rfl | rfl | rfl <;> k_is
    case zz_top => rfl
    case zz_d_own => walk_at "pk_def"
    case zz_e_ET =>
      refine' Pk.ErrAt1.of ?at_ ?cls ?sa ?exB ?exA ?ty ?kp ?ini ?fnt ?fn ?code ?cell ?file ?file2 ?file3 ?opq ?sup ?below ?ga ?gg ?hd ?isC ?own
      case at_ => k_is
      case cls => k_is
      case sa => k_is
      case exB => k_is
      case exA => k_is
      case ty => k_is
      case kp => k_is
      case ini => k_is
      case fnt => k_is
      case fn => k_is
      case code => k_is
      case cell => k_is
      case file => k_is
      case file2 => rfl
      case file3 => rfl
      case opq => k_is
      case sup => first | k_is | ks_is
      case below => k_is
      case ga => k_is
      case gg => k_is
      case hd => k_is
      case isC => k_is
      case own => k_is
    case zz_fr_ET_at => k_is
    case zz_e_EB =>
      refine' Pk.ErrAt1.of ?at_ ?cls ?sa ?exB ?exA ?ty ?kp ?ini ?fnt ?fn ?code ?cell ?file ?file2 ?file3 ?opq ?sup ?below ?ga ?gg ?hd ?isC ?own
      case at_ => k_is
      case cls => k_is
      case sa => k_is
      case exB => k_is
      case exA => k_is
      case ty => k_is
      case kp => k_is
      case ini => k_is
      case fnt => k_is
      case fn => k_is
      case code => k_is
      case cell => k_is
      case file => k_is
      case file2 => rfl
      case file3 => rfl
      case opq => k_is
      case sup => first | k_is | ks_is
      case below => k_is
      case ga => k_is
      case gg => k_is
      case hd => k_is
      case isC => k_is
      case own => k_is
    case zz_fr_EB_name => k_is
    case zz_e_EA =>
      refine' Pk.ErrAt1.of ?at_ ?cls ?sa ?exB ?exA ?ty ?kp ?ini ?fnt ?fn ?code ?cell ?file ?file2 ?file3 ?opq ?sup ?below ?ga ?gg ?hd ?isC ?own
      case at_ => k_is
      case cls => k_is
      case sa => k_is
      case exB => k_is
      case exA => k_is
      case ty => k_is
      case kp => k_is
      case ini => k_is
      case fnt => k_is
      case fn => k_is
      case code => k_is
      case cell => k_is
      case file => k_is
      case file2 => rfl
      case file3 => rfl
      case opq => k_is
      case sup => first | k_is | ks_is
      case below => k_is
      case ga => k_is
      case gg => k_is
      case hd => k_is
      case isC => k_is
      case own => k_is
    case zz_fr_EA_word => k_is
    case zz_fr_EA_at => k_is
    case zz_d_DI => walk_at "pk_def"
    case zz_d_DB => walk_at "pk_def"
    case zz_a_aL => k_is
    case zz_b_all => k_is
    case zz_d_DPr => walk_at "pk_def"
    case zz_d_DRo => walk_at "pk_def"
    case zz_d_DC => walk_at "pk_def"
    case zz_d_DCp => walk_at "pk_def"
    case zz_d_DCa => walk_at "pk_def"
    case zz_d_D6 => walk_at "pk_def"
    case zz_d_D7 => walk_at "pk_def"
    case zz_d_D8 => walk_at "pk_def"
    case zz_d_D9 => walk_at "pk_def"
    case zz_d_D10 => walk_at "pk_def"
    case zz_d_D11 => walk_at "pk_def"
    case zz_d_D12 => walk_at "pk_def"
    case zz_d_D13 => walk_at "pk_def"
    case zz_a_CT => k_is
    case zz_me_i => walk_at "pk_meth"
    case zz_me_s => walk_at "pk_meth"
    case zz_me_w => walk_at "pk_meth"
    case zz_O_CT =>
      refine' Pk.OwnC.of ?pg ?hd ?po ?sa ?ha ?hn ?htk ?hm ?isC ?ty ?s1 ?s2 ?s3 ?s4 ?s5 ?s6 ?s7
      case pg => k_is
      case hd => k_is
      case po => k_is
      case sa => k_is
      case ha => k_is
      case hn => k_is
      case htk => k_is
      case hm => k_is
      case isC => k_is
      case ty => k_is
      case s1 => k_is
      case s2 => k_is
      case s3 => k_is
      case s4 => k_is
      case s5 => k_is
      case s6 => k_is
      case s7 => k_is
    case zz_mk_CT => k_is
    case zz_kc_CT => k_is
    case zz_no_CT_entries => k_is
    case zz_no_CT_used => k_is
    case zz_a_CA => k_is
    case zz_me_xi => walk_at "pk_meth"
    case zz_me_xe => walk_at "pk_meth"
    case zz_me_xs => walk_at "pk_meth"
    case zz_me_xw => walk_at "pk_meth"
    case zz_me_xo => walk_at "pk_meth"
    case zz_me_xf => walk_at "pk_meth"
    case zz_O_CA =>
      refine' Pk.OwnC.of ?pg ?hd ?po ?sa ?ha ?hn ?htk ?hm ?isC ?ty ?s1 ?s2 ?s3 ?s4 ?s5 ?s6 ?s7
      case pg => k_is
      case hd => k_is
      case po => k_is
      case sa => k_is
      case ha => k_is
      case hn => k_is
      case htk => k_is
      case hm => k_is
      case isC => k_is
      case ty => k_is
      case s1 => k_is
      case s2 => k_is
      case s3 => k_is
      case s4 => k_is
      case s5 => k_is
      case s6 => k_is
      case s7 => k_is
    case zz_mk_CA => k_is
    case zz_kc_CA => k_is
    case zz_no_CA_held => k_is
    case zz_no_CA_wished => k_is
    case zz_z_zer =>
      refine' Pk.ClsAt.of ?rd ?ga ?at_ ?rc ?fi ?l ?c ?k
      case rd => k_is
      case ga => k_is
      case at_ => k_is
      case rc => k_is
      case fi => k_is
      case l => k_is
      case c => k_is
      case k => k_is
    case zz_z_fil =>
      refine' Pk.ClsAt.of ?rd ?ga ?at_ ?rc ?fi ?l ?c ?k
      case rd => k_is
      case ga => k_is
      case at_ => k_is
      case rc => k_is
      case fi => k_is
      case l => k_is
      case c => k_is
      case k => k_is
    case zz_d_D17 => walk_at "pk_def"
    case zz_d_D18 => walk_at "pk_def"
    case zz_d_law => walk_at "pk_def"
