import PyProof.Rows.All
import Wide.All
import OpenK.AllK
import Wide.FinOn
import HandS.ForMost
import HandS.Exc
import HandS.TryOnly
import HandS.WordsExc
import HandS.IsInst
import HandS.ExcInit
import HandS.ExcSuper
import HandS.ExcField
import HandS.Nested
import KE.KExcSuper
import HandS.Defaults
import HandS.CallSlots
import HandS.MakeKwOnly
import HandS.OwnEq
import HandS.SlotsOwn
import HandS.More
import HandS.Walk
import KE.Datum
import HandS.Wide
import HandS.Head0
import HandS.Head1
import HandS.Head2
import HandS.HeadEnd
import HandS.HeadHook1
import HandS.HeadHook2
import KE.KStateDown
import KE.DataCmp
import HandS.Deep
import HandS.Codes
import HandS.DictComp
import HandS.Iter
import HandS.TryMany
import PySem.Challenge.RW_pairorder_k40_whole_fits_or_shortage
set_option Elab.async false
set_option linter.all false
set_option maxRecDepth 100000
/-! What the laws of this program share: the reading's steps, the heap but for one object, the pool of draws. -/
namespace Pk
open PySem L2

/-! ### steps of a reading -/
section
variable {K : PySem.W.Frag} {σ : L2.St} {H : Hp} {Q : VK} {D : Ends} {ta tb te to ti : TE} {t u : TS} {tt tu : TT} {tr : TA} {i j : Nat} {v w : V} {a b : Int}
theorem r_seq (h : t { D with nx := u D } σ H) : tSeq t u D σ H := h
theorem r_nxt (h : D.nx σ H) : tNext D σ H := h
theorem r_asg {g : TG} (h : te σ H fun x H1 => g x σ H1 D.nx) : tAsg te g D σ H := h
theorem r_to {P : L2.St → Hp → Prop} (h : P (σ.set i (some v)) H) : gName i v σ H P := h
theorem r_for {wi : TI} {g : TG} (h : wi σ H fun J H1 => ∃ W : Nat → Nat → L2.St → Hp → Prop, (∃ m, W 0 m σ H1) ∧ ∀ i m σ H, W i m σ H →
    (J.stop i H ∧ D.nx σ H) ∨ (J.go i H ∧ ∃ N : L2.St → Hp → Prop, (∀ σ' H', N σ' H' → ∃ m', m' < m ∧ W (i + 1) m' σ' H') ∧ ∀ x H', J.yld i H x H' → g x σ H' fun σ2 H2 => t { D with nx := N, ct := N, bk := D.nx } σ2 H2)) : tFor wi g t D σ H := h
theorem r_lc {wi : TI} {g : TG} {vs : List Nat} (h : wi σ H fun J H1 => ∀ D, H1 D = none → ∃ W : Nat → Nat → Hp → Prop, (∃ m, W 0 m (upd H1 D (.lst []))) ∧ ∀ i m H, W i m H →
    (J.stop i H ∧ Q (.ref D) H) ∨ (J.go i H ∧ ∃ Nx : Hp → Prop, (∀ H', Nx H' → ∃ m', m' < m ∧ W (i + 1) m' H') ∧ ∀ x H', J.yld i H x H' → g x (wipe σ vs) H' fun σ2 H2 => wipe σ2 vs = wipe σ vs ∧ tt σ2 H2 fun b H3 =>
      if b = true then te σ2 H3 fun y H4 => ∃ acc, H4 D = some (.lst acc) ∧ acc.length < sizeLine ∧ Nx (upd H4 D (.lst (acc ++ [y]))) else Nx H3)) : tLc wi g tt te vs σ H Q := h
theorem r_tupI {R : It → Hp → Prop} (h : te σ H fun x H1 => ∃ l, x = .ref l ∧ (∃ xs, SqT K H1 l xs) ∧ R (Itt K l) H1) : iTup K te σ H R := h
theorem r_yes {P : Bool → Hp → Prop} (h : P true H) : tYes σ H P := h
theorem r_B {P : Bool → Hp → Prop} (h : te σ H fun x H1 => ∃ c, x = .bl c ∧ P c H1) : tB te σ H P := h
theorem r_rng1 {R : It → Hp → Prop} (h : tr σ H fun vs H1 => ∃ j : Int, vs = [.int j] ∧ -(2 ^ 62) ≤ j ∧ j < 2 ^ 62 ∧ R (Itr 0 j.toNat) H1) : iRng1 tr σ H R := h
theorem r_list {R : It → Hp → Prop} (h : te σ H fun x H1 => ∃ l, x = .ref l ∧ (∃ xs, SqL K H1 l xs) ∧ R (Itl K l) H1) : iList K te σ H R := h
theorem r_ret (h : te σ H D.rt) : tRet te D σ H := h
theorem r_drop (h : te σ H fun _ H1 => D.nx σ H1) : tDrop te D σ H := h
theorem r_ifs (h : tt σ H fun c H1 => if c = true then t D σ H1 else u D σ H1) : tIfS tt t u D σ H := h
theorem r_var (e : σ[i]? = some (some v)) (h : Q v H) : tVar i σ H Q := ⟨v, e, h⟩
theorem r_c (h : Q v H) : tC v σ H Q := h
theorem r_op {r : R2} (h : ta σ H fun x H1 => tb σ H1 fun y H2 => r x y H2 Q) : tOp r ta tb σ H Q := h
theorem r_un {r : V → Hp → VK → Prop} (h : ta σ H fun x H1 => r x H1 Q) : tUn r ta σ H Q := h
theorem r_U {g : Int → V} (h : Q (g a) H) : rU g (.int a) H Q := ⟨a, rfl, h⟩
theorem r_make {C : Addr} {sp : Sp} {dvs : List V} {E : XK} (h : tr σ H fun vs H1 => ∀ x dx, H1 x = none → H1 dx = none → dx ≠ x → sp (.ref x :: (vs ++ dvs)) (upd (upd H1 dx (.own x)) x (.ins C dx [])) (fun v H2 => v = .non ∧ Q (.ref x) H2) E) : tMake C sp dvs E tr σ H Q := h
theorem r_cat {l m : Addr} {xs zs : List V} (hl : H l = some (.lst xs)) (hm : H m = some (.lst zs)) (hz : xs.length + zs.length ≤ sizeLine) (h : ∀ p, H p = none → Q (.ref p) (upd H p (.lst (xs ++ zs)))) : rCat (.ref l) (.ref m) H Q := ⟨l, m, xs, zs, rfl, rfl, hl, hm, hz, h⟩
theorem r_sum {l : Addr} {ns : List Int} (hl : SqL K H l (ns.map V.int)) (h : Q (.int ns.sum) H) : rSum K [.ref l] H Q := ⟨l, ns, rfl, hl, h⟩
theorem r_I0 {g : Int → Int → V} (h : Q (g a b) H) : rI0 g (.int a) (.int b) H Q := ⟨a, b, rfl, rfl, h⟩
theorem r_I {C : Int → Int → Prop} {g : Int → Int → V} (c : C a b) (h : Q (g a b) H) : rI C g (.int a) (.int b) H Q := ⟨a, b, rfl, rfl, c, h⟩
theorem r_mod (c : 0 < b) (h : Q (.int (a % b)) H) : rI (fun _ j => 0 < j) (fun i j => .int (i % j)) (.int a) (.int b) H Q := r_I c h
theorem r_div (c : 0 < b) (d : b < 1073741824) (h : Q (.int (a / b)) H) : rI CDiv (fun i j => .int (i / j)) (.int a) (.int b) H Q := r_I ⟨c, d⟩ h
theorem r_mulL (c : -(2 ^ 64) < a) (d : a < 2 ^ 64) (h : Q (.int (a * b)) H) : rI CMul (fun i j => .int (i * j)) (.int a) (.int b) H Q := r_I (.inl ⟨c, d⟩) h
theorem r_mulR (c : -(2 ^ 64) < b) (d : b < 2 ^ 64) (h : Q (.int (a * b)) H) : rI CMul (fun i j => .int (i * j)) (.int a) (.int b) H Q := r_I (.inr ⟨c, d⟩) h
theorem r_pow (c : 0 ≤ b) (d : b ≤ 1000000) (e : a.natAbs < 2 ^ 64) (h : Q (.int (a ^ b.toNat)) H) : rI CPow (fun i j => .int (i ^ j.toNat)) (.int a) (.int b) H Q := r_I ⟨c, d, e⟩ h
theorem r_ixL {p : Addr} {xs : List V} (hs : SqL K H p xs) (he : atI xs a = some v) (h : Q v H) : rIxL K (.ref p) (.int a) H Q := ⟨p, xs, a, v, rfl, rfl, hs, he, h⟩
theorem r_ixT {p : Addr} {xs : List V} (hs : SqT K H p xs) (he : atI xs a = some v) (h : Q v H) : rIxT K (.ref p) (.int a) H Q := ⟨p, xs, a, v, rfl, rfl, hs, he, h⟩
theorem r_sub {s : TSet} {P : L2.St → Hp → Prop} (h : to σ H fun o H1 => ti σ H1 fun k H2 => s o k v H2 fun H3 => P σ H3) : gSub to ti s v σ H P := h
theorem r_setL {p : Addr} {xs : List V} {P : Hp → Prop} (hp : H p = some (.lst xs)) (hj : ixN xs.length a = some j) (h : P (upd H p (.lst (xs.set j v)))) : rSetL (.ref p) (.int a) v H P := ⟨p, xs, a, j, rfl, rfl, hp, hj, h⟩
theorem r_nil {R : List V → Hp → Prop} (h : R [] H) : tNil σ H R := h
theorem r_cons {R : List V → Hp → Prop} (h : ta σ H fun x H1 => tr σ H1 fun xs H2 => R (x :: xs) H2) : tCons ta tr σ H R := h
theorem r_cb {r : List V → Hp → VK → Prop} (h : tr σ H fun vs H1 => r vs H1 Q) : tCB r tr σ H Q := h
theorem r_call {sp : Sp} {dvs : List V} {E : XK} (h : tr σ H fun vs H1 => sp (vs ++ dvs) H1 Q E) : tCall sp dvs E tr σ H Q := h
theorem r_sl {r : V → Option Int → Option Int → Hp → VK → Prop} {tl th : TO} (h : te σ H fun x H1 => tl σ H1 fun l H2 => th σ H2 fun u H3 => r x l u H3 Q) : tSl r te tl th σ H Q := h
theorem r_noP {P : Option Int → Hp → Prop} (h : P none H) : tNoPart σ H P := h
theorem r_part {P : Option Int → Hp → Prop} (h : te σ H fun x H1 => ∃ i, x = .int i ∧ P (some i) H1) : tPart te σ H P := h
theorem r_isI {P : Int → Prop} (h : P a) : ∃ i, V.int a = .int i ∧ P i := ⟨a, rfl, h⟩
theorem r_lst (h : tr σ H fun xs H1 => xs.length ≤ sizeLine ∧ ∀ p, H1 p = none → Q (.ref p) (upd H1 p (.lst xs))) : tLst tr σ H Q := h
theorem r_tup (h : tr σ H fun xs H1 => xs.length ≤ sizeLine ∧ ∀ p, H1 p = none → Q (.ref p) (upd H1 p (.tup xs))) : tTup tr σ H Q := h
theorem r_test {P : Bool → Hp → Prop} (h : te σ H fun x H' => ∃ k, x = .bl k ∧ P k H') : tTest te σ H P := h
theorem r_and {P : Bool → Hp → Prop} (h : tt σ H fun c H1 => if c = true then tu σ H1 P else P false H1) : tAnd tt tu σ H P := h
theorem r_or {P : Bool → Hp → Prop} (h : tt σ H fun c H1 => if c = true then P true H1 else tu σ H1 P) : tOr tt tu σ H P := h
theorem r_not {P : Bool → Hp → Prop} (h : tt σ H fun c H1 => P (!c) H1) : tNot tt σ H P := h
theorem r_bl {P : Bool → Prop} {k : Bool} (h : P k) : ∃ c, V.bl k = .bl c ∧ P c := ⟨k, rfl, h⟩
theorem r_eq (hs : scal v w = true) (h : Q (.bl (decide (v = w))) H) : rEq v w H Q := ⟨hs, h⟩
theorem r_eqT (hs : scal v v = true) (h : Q (.bl true) H) : rEq v v H Q := ⟨hs, by rw [decide_eq_true (rfl : v = v)]; exact h⟩
theorem r_andV (h : ta σ H fun x H1 => ∃ c, x = .bl c ∧ if c = true then tb σ H1 Q else Q (.bl false) H1) : tAndV ta tb σ H Q := h
theorem r_orV (h : ta σ H fun x H1 => ∃ c, x = .bl c ∧ if c = true then Q (.bl true) H1 else tb σ H1 Q) : tOrV ta tb σ H Q := h
theorem r_notV (h : ta σ H fun x H1 => ∃ c, x = .bl c ∧ Q (.bl (!c)) H1) : tNotV ta σ H Q := h
theorem r_ne (hs : scal v w = true) (h : Q (.bl (!decide (v = w))) H) : rNe v w H Q := ⟨hs, h⟩
theorem ite_nF {A B : Prop} (h : A) : if (!false) = true then A else B := by rw [show (!false) = true from rfl, if_pos rfl]; exact h
theorem ite_nT {A B : Prop} (h : B) : if (!true) = true then A else B := by rw [show (!true) = false from rfl, if_neg Bool.false_ne_true]; exact h
theorem ite_no {c : Prop} [Decidable c] {A B : Prop} (h1 : c → A) (h2 : ¬ c → B) : if (!decide c) = true then B else A := by
  by_cases h : c
  · rw [decide_eq_true h]; exact h1 h
  · rw [decide_eq_false h]; exact h2 h
theorem ite_dec {c : Prop} [Decidable c] {A B : Prop} (h1 : c → A) (h2 : ¬ c → B) : if decide c = true then A else B := by
  by_cases h : c
  · rw [decide_eq_true h, if_pos rfl]; exact h1 h
  · rw [decide_eq_false h, if_neg Bool.false_ne_true]; exact h2 h
end

/-! ### built-ins by readings with a name -/
def rIs0 : R2 := fun x y H Q => y = .non ∧ Q (.bl (decide (x = .non))) H
def rIs1 : R2 := fun x y H Q => y = .non ∧ Q (.bl (!decide (x = .non))) H
theorem op_is0 {X : Cx} : OpR X (compareOp .Is) rIs0 := op_isN
theorem op_is1 {X : Cx} : OpR X (compareOp .IsNot) rIs1 := op_notN
theorem r_is0 {x : V} {H : Hp} {Q : VK} (h : Q (.bl (decide (x = .non))) H) : rIs0 x .non H Q := ⟨rfl, h⟩
theorem r_is1 {x : V} {H : Hp} {Q : VK} (h : Q (.bl (!decide (x = .non))) H) : rIs1 x .non H Q := ⟨rfl, h⟩
def rInt : List V → Hp → VK → Prop := fun xs H Q => ∃ n, xs = [.int n] ∧ Q (.int n) H
def rIntB : List V → Hp → VK → Prop := fun xs H Q => ∃ b, xs = [.bl b] ∧ Q (.int (if b then 1 else 0)) H
def rLen (K : PySem.W.Frag) : List V → Hp → VK → Prop := fun xs H Q => ∃ l ys, xs = [.ref l] ∧ (SqL K H l ys ∨ SqT K H l ys) ∧ Q (.int ys.length) H
theorem cl_int {X : Cx} : CallR X (.type "int") rInt := fun pins s σ H xs us Q I r h => by
  obtain ⟨n, e, q⟩ := h
  exact call_int1 pins s σ H xs us Q I r (.inl ⟨n, e, q⟩)
theorem cl_intB {X : Cx} : CallR X (.type "int") rIntB := fun pins s σ H xs us Q I r h => by
  obtain ⟨b, e, q⟩ := h
  exact call_int1 pins s σ H xs us Q I r (.inr ⟨b, e, q⟩)
def rTupOf (K : PySem.W.Frag) : List V → Hp → VK → Prop := fun xs H Q => ∃ l ys, xs = [.ref l] ∧ SqL K H l ys ∧ ∀ q, H q = none → Q (.ref q) (upd H q (.tup ys))
def rLstOf (K : PySem.W.Frag) : List V → Hp → VK → Prop := fun xs H Q => ∃ l ys, xs = [.ref l] ∧ (SqL K H l ys ∨ SqT K H l ys) ∧ ∀ q, H q = none → Q (.ref q) (upd H q (.lst ys))
theorem cl_tup {X : Cx} : CallR X (.type "tuple") (rTupOf X.K) := fun pins s σ H xs us Q I r h => by
  obtain ⟨l, ys, e, hs, q⟩ := h
  exact call_tuple_of pins s σ H xs us Q I r ⟨l, ys, e, .inl ⟨hs, q⟩⟩
theorem cl_lst {X : Cx} : CallR X (.type "list") (rLstOf X.K) := fun pins s σ H xs us Q I r h => call_list_of pins s σ H xs us Q I r h
theorem cl_len {X : Cx} : CallR X (.builtin "len") (rLen X.K) := fun pins s σ H xs us Q I r h => call_len_seq pins s σ H xs us Q I r h
section
variable {K : PySem.W.Frag} {H : Hp} {Q : VK} {l : Addr} {ys : List V}
theorem r_int {n : Int} (h : Q (.int n) H) : rInt [.int n] H Q := ⟨n, rfl, h⟩
theorem r_intB {b : Bool} (h : Q (.int (if b then 1 else 0)) H) : rIntB [.bl b] H Q := ⟨b, rfl, h⟩
theorem r_tupOf (hs : SqL K H l ys) (h : ∀ q, H q = none → Q (.ref q) (upd H q (.tup ys))) : rTupOf K [.ref l] H Q := ⟨l, ys, rfl, hs, h⟩
theorem r_lstOf (hs : SqL K H l ys) (h : ∀ q, H q = none → Q (.ref q) (upd H q (.lst ys))) : rLstOf K [.ref l] H Q := ⟨l, ys, rfl, .inl hs, h⟩
theorem r_lenL (hs : SqL K H l ys) (h : Q (.int ys.length) H) : rLen K [.ref l] H Q := ⟨l, ys, rfl, .inl hs, h⟩
theorem r_lenT (hs : SqT K H l ys) (h : Q (.int ys.length) H) : rLen K [.ref l] H Q := ⟨l, ys, rfl, .inr hs, h⟩
end

/-! ### the heap but for one object -/
/-- all that was tracked, the object at p aside, is as it was -/
def Keep (p : Addr) (H H' : Hp) : Prop := ∀ b o, b ≠ p → H b = some o → H' b = some o
section
variable {p q : Addr} {H H' H1 H2 : Hp} {o u : HO}
theorem Keep.refl : Keep p H H := fun _ _ _ h => h
theorem Keep.trans (a : Keep p H H1) (b : Keep p H1 H2) : Keep p H H2 := fun c o n h => b c o n (a c o n h)
theorem Keep.own (a : Keep p H H1) : Keep p H (upd H1 p o) := fun c v n h => by rw [upd_ne n]; exact a c v n h
theorem Keep.new (a : Keep p H H1) (hq : H1 q = none) : Keep p H (upd H1 q o) := fun c v n h => by
  have e := a c v n h
  rw [upd_ne (ne_of_none e hq)]; exact e
theorem Keep.same (s : Same H H1) : Keep p H H1 := fun c v _ h => s c v h
theorem Keep.seq {K : PySem.W.Frag} (a : Keep p H H1) {l : Addr} {xs : List V} (n : l ≠ p) (h : SqL K H l xs) : SqL K H1 l xs := by
  rcases h with (h | ⟨v, h⟩) | h
  · exact .inl (.inl (a l _ n h))
  · exact .inl (.inr ⟨v, a l _ n h⟩)
  · exact .inr h
theorem Same.up (s : Same H H1) (hq : H1 q = none) : Same H (upd H1 q o) := fun c v h => by
  have e := s c v h
  rw [upd_ne (ne_of_none e hq)]; exact e
end

/-! ### the pool of draws: at p a list of the cells' list (at c) and four ints -/
def PoolAt (H : Hp) (p c : Addr) (ns : List Int) : Prop :=
  ∃ a b s n : Int, 0 ≤ a ∧ H p = some (.lst [.ref c, .int a, .int b, .int s, .int n]) ∧ H c = some (.lst (ns.map V.int))
theorem PoolAt.ne {H : Hp} {p c : Addr} {ns : List Int} (h : PoolAt H p c ns) : c ≠ p := by
  obtain ⟨a, b, s, n, _, h1, h2⟩ := h
  intro e
  rw [e, h1] at h2
  cases ns with
  | nil => cases h2
  | cons x r =>
    have z := HO.lst.inj (Option.some.inj h2)
    rw [List.map_cons] at z
    cases (List.cons.inj z).1
/-- a store into one of its places -/
theorem PoolAt.put {H : Hp} {p c : Addr} {ns : List Int} {a b s n : Int} (ha : 0 ≤ a) (hc : H c = some (.lst (ns.map V.int))) (ne : c ≠ p) :
    PoolAt (upd H p (.lst [.ref c, .int a, .int b, .int s, .int n])) p c ns := ⟨a, b, s, n, ha, upd_same, by rw [upd_ne ne]; exact hc⟩

theorem later {H : Hp} {a q : Addr} {o u : HO} (h : H a = some o) (hq : H q = none) : upd H q u a = some o := by
  rw [upd_ne (ne_of_none h hq)]; exact h
theorem PoolAt.new {H : Hp} {p c q : Addr} {ns : List Int} {o : HO} (h : PoolAt H p c ns) (hq : H q = none) : PoolAt (upd H q o) p c ns := by
  obtain ⟨a, b, z, n, ha, hP, hC⟩ := h
  exact ⟨a, b, z, n, ha, later hP hq, later hC hq⟩
theorem PoolAt.apart {H : Hp} {p c q : Addr} {ns : List Int} (h : PoolAt H p c ns) (hq : H q = none) : q ≠ p := by
  obtain ⟨a, b, z, n, ha, hP, hC⟩ := h
  exact fun e => by rw [e, hP] at hq; cases hq
theorem PoolAt.apartC {H : Hp} {p c q : Addr} {ns : List Int} (h : PoolAt H p c ns) (hq : H q = none) : q ≠ c := by
  obtain ⟨a, b, z, n, ha, hP, hC⟩ := h
  exact fun e => by rw [e, hC] at hq; cases hq
theorem log_small {i : Int} (h : -8 < i ∧ i < 8) : i.natAbs.log2 < 1920 := by
  have e : i.natAbs < 8 := by omega
  exact Nat.lt_of_le_of_lt (Nat.log2_le_self _) (by omega)
/-- _law_mixed(pool, cell) -/
def spMix : Sp := fun vs H Q _ => ∃ (p c : Addr) (ns : List Int) (x : Int), vs = [.ref p, .int x] ∧ PoolAt H p c ns ∧
  ∀ (r : Int) (H' : Hp), 0 ≤ r → Keep p H H' → PoolAt H' p c ns → Q (.int r) H'
/-- _law_draw(pool, size) -/
def spDraw : Sp := fun vs H Q _ => ∃ (p c : Addr) (ns : List Int) (z : Int), vs = [.ref p, .int z] ∧ PoolAt H p c ns ∧ 0 < z ∧ z < 1073741824 ∧
  ∀ (r : Int) (H' : Hp), 0 ≤ r → r < z → Keep p H H' → PoolAt H' p c ns → Q (.int r) H'
/-- _law_number(pool, parts) -/
def spNum : Sp := fun vs H Q _ => ∃ (p c : Addr) (ns : List Int) (k : Int), vs = [.ref p, .int k] ∧ PoolAt H p c ns ∧ 0 ≤ k ∧ k ≤ 1000 ∧
  ∀ (r : Int) (H' : Hp), 0 ≤ r → r < 1000000 ^ k.toNat → Keep p H H' → PoolAt H' p c ns → Q (.int r) H'
/-- _law_pool(script) -/
def spPool (K : PySem.W.Frag) : Sp := fun vs H Q _ => ∃ (l : Addr) (ns : List Int), vs = [.ref l] ∧ SqL K H l (ns.map V.int) ∧ ns.length ≤ 63 ∧
  ∀ (p c : Addr) (H' : Hp), H p = none → H c = none → Same H H' → PoolAt H' p c ns → Q (.ref p) H'
theorem take_snoc {α : Type} : ∀ {l : List α} {i : Nat} {x : α}, l[i]? = some x → l.take (i + 1) = l.take i ++ [x]
  | [], i, x, h => by simp at h
  | a :: l, 0, x, h => by
    have e : a = x := Option.some.inj h
    rw [e]; rfl
  | a :: l, i + 1, x, h => by
    have ih := take_snoc (l := l) (i := i) (x := x) h
    rw [List.take_succ_cons, ih]; rfl
theorem ixN_last {α : Type} (xs : List α) (v : α) : ixN (xs ++ [v]).length (-1) = some xs.length := by
  have hl : (xs ++ [v]).length = xs.length + 1 := by simp
  unfold ixN
  rw [hl, if_neg (by decide), if_pos (by omega)]
  congr 1
  omega
theorem ixN_nat {n j : Nat} (h : j < n) : ixN n (j : Int) = some j := by
  unfold ixN
  rw [if_pos (by omega), if_pos (by omega)]
  simp
theorem set_last {α : Type} (xs : List α) (v u : α) : (xs ++ [v]).set xs.length u = xs ++ [u] := by simp
theorem cut_all {xs : List V} {n : Nat} (h : xs.length ≤ n) : cutV xs none (some (n : Int)) = xs := by
  have e1 : HT.sIx xs.length 0 none = 0 := rfl
  have e2 : HT.sIx xs.length xs.length (some (n : Int)) = xs.length := by
    rw [HT.sIx_nat]
    exact Nat.min_eq_right h
  unfold cutV
  rw [e1, e2, Nat.sub_zero, List.drop_zero, List.take_length]
end Pk
set_option Elab.async false
set_option linter.all false
set_option maxRecDepth 100000
set_option maxHeartbeats 1000000
/-! Error classes two steps below ArithmeticError, made by an __init__ that calls super().__init__ first and then stores fields. -/
namespace Pk
open PySem L2 PySem.Spec PyProof.Rows
abbrev arT : List Value := [.type "ArithmeticError", .type "Exception", .type "BaseException", .type "object"]
theorem arT_has {C pe : Addr} {z : String} (h : arT.contains (.type z) = true) : (Value.ref C :: .ref pe :: arT).contains (.type z) = true := by
  rw [List.contains_cons, List.contains_cons, h, Bool.or_true, Bool.or_true]
theorem arT_same {pe : Addr} (z : String) : (Value.ref pe :: arT).contains (.type z) = arT.contains (.type z) := by
  rw [List.contains_cons]
  simp
section
open PySem.W PySem.Calls Builtin Builtin.ObjectAttr
variable {prog : Program} {w : World} {A : Around} {R : Result → Shared → Prop} {hp : Heap} {g : Array GenState} {dn : Drawn} {tk : Nat} {os : OsState} {K : W.Frag} {nm : Str} {nt : Tok} {v : Value} {x C pe : Addr} {cd : ClassData}
/-- object.__setattr__ of such an error, up to the store in its own dict -/
theorem sa_head {ox : Obj} {od : Option Obj} (kin : K.In hp) (inst : W.InstAt hp x ox C od) (hcd : W.clsIn K C = some cd) (mro : cd.mro = .ref C :: .ref pe :: arT) (free : W.findIn K (.ref C) nm = some none)
    (go : wpAny (model prog w) A.in1 (storeInOwnDict (.ref x) (.ref C) (.str nm nt) nm v false) (fun fn st => match fn with
        | .done r => R (.ok r) st
        | .again c => c.quiet = true ∧ codeAny (model prog w) A c R st) (fun er st => R (.error er) st) ⟨hp, g, dn, tk, os⟩) :
    codeAny (model prog w) A (.call (.builtin "object.__setattr__") ⟨[.ref x, .str nm nt, v], []⟩) R ⟨hp, g, dn, tk, os⟩ := by
  have so := PySem.F.store_object
  have isO : W.mroIn K C (.type "object") = some true := by
    unfold W.mroIn
    rw [hcd, Option.bind_some, mro, if_neg (show ¬ (List.isEmpty (Value.ref C :: .ref pe :: arT) = true) from Bool.false_ne_true), arT_has (by decide +kernel)]
  have below : W.Looks (model prog w) hp (isInstance (.ref x) (.type "object")) true := inst.type.andThen (W.looks_mroIn kin isO)
  have line : W.Looks (model prog w) hp (mroOf (.ref C)) cd.mro := (W.looks_clsIn kin hcd).andThen .now
  have loop : refuseLoop (.ref x) "__setattr__" cd.mro = pure () := by
    rw [mro, refuseLoop_ref, refuseLoop_ref]
    exact PySem.F.store_ArithmeticError.passes _
  have no3 : W.Looks (model prog w) hp (storeTaker? none) none := .now
  refine codeAny_call_builtin so.slot.plain so.entry (@W.check_slot (model prog w) _ _ ⟨hp, g, dn, tk, os⟩ "object.__setattr__" "object" "__setattr__" (.ref x) [.str nm nt, v] [] _ so.kind so.split below (so.args (.ref x) (.str nm nt) v) ?_)
  rw [W.osa_eq, refuse_eq]
  refine wpAny_bind (wpAny_bind (inst.type.at (wpAny_bind (line.at ?_)))); rw [loop]
  exact wpAny_pure (wpAny_bind (inst.type.at (wpAny_bind ((W.looks_findIn kin free).at (wpAny_bind (no3.at go))))))
/-- the first field: the dict is made -/
theorem sa_first {fv : Array Value} (kin : K.In hp) (hx : hp.get? x = some { cls := .ref C, data := .fields fv }) (hcd : W.clsIn K C = some cd) (mro : cd.mro = .ref C :: .ref pe :: arT) (hasD : cd.hasDict = true) (free : W.findIn K (.ref C) nm = some none)
    (done : ∀ h2 t2 dx, (∀ b o, b ≠ x → hp.get? b = some o → h2.get? b = some o) → hp.objs.size ≤ dx → dx ≠ x → h2.get? x = some { cls := .ref C, dict := some dx, data := .fields fv } →
      h2.Ns1 dx (fun y => if y = nm then some v else none) → R (.ok (.ret .none)) ⟨h2, g, dn, t2, os⟩) :
    codeAny (model prog w) A (.call (.builtin "object.__setattr__") ⟨[.ref x, .str nm nt, v], []⟩) R ⟨hp, g, dn, tk, os⟩ := by
  have away : x ≠ hp.objs.size := Nat.ne_of_lt (Heap.lt_size hx)
  refine sa_head kin (ox := { cls := .ref C, data := .fields fv }) (od := none) ⟨hx, rfl, rfl, trivial⟩ hcd mro free ?_
  have look : W.Looks (model prog w) hp (classData C) cd := W.looks_clsIn kin hcd
  obtain ⟨c1, c2, c3, c4, c5, hd, c7, c8, c9, c10, c11⟩ := cd
  dsimp only at hasD
  subst hasD
  unfold storeInOwnDict ownDictForStores
  repeat (first | with_reducible refine HandSPX.store_in_new ?_ ?_ | with_reducible refine wpAny_loadPart_at hx ?_ | with_reducible refine look.at ?_ | wp_step)
  · exact ⟨_, #[], _, (Heap.get?_update_ne _ _ _ _ away.symm).trans (Heap.get?_push_at rfl rfl), rfl, fun e he => absurd he (by simp), fun _ => rfl⟩
  · intro h2 t2 ns sb
    have pushed : (hp.push { cls := .type "dict", data := .dict #[] }).get? x = some { cls := .ref C, data := .fields fv } := Heap.get?_push_of_some _ hx
    exact done h2 t2 hp.objs.size (fun b o hb ho => (sb.2 b (Nat.ne_of_lt (Heap.lt_size ho))).trans ((Heap.get?_update_ne _ _ _ _ hb).trans (Heap.get?_push_of_some _ ho))) (Nat.le_refl _) away.symm ((sb.2 x away).trans (Heap.get?_update_self _ pushed rfl)) ns
/-- a further field -/
theorem sa_more {fv : Array Value} {dx : Addr} {m0 : Str → Option Value} {nl : List Str} (kin : K.In hp) (hx : hp.get? x = some { cls := .ref C, dict := some dx, data := .fields fv }) (ns : hp.Ns1 dx m0) (wi : Within m0 nl) (few : nl.length ≤ 1000)
    (hcd : W.clsIn K C = some cd) (mro : cd.mro = .ref C :: .ref pe :: arT) (hasD : cd.hasDict = true) (free : W.findIn K (.ref C) nm = some none)
    (done : ∀ h2 t2, (∀ b o, b ≠ dx → hp.get? b = some o → h2.get? b = some o) → h2.Ns1 dx (fun y => if y = nm then some v else m0 y) → R (.ok (.ret .none)) ⟨h2, g, dn, t2, os⟩) :
    codeAny (model prog w) A (.call (.builtin "object.__setattr__") ⟨[.ref x, .str nm nt, v], []⟩) R ⟨hp, g, dn, tk, os⟩ := by
  obtain ⟨oD, _, _, hoD, _, _⟩ := ns.count wi
  refine sa_head kin (ox := { cls := .ref C, dict := some dx, data := .fields fv }) (od := some oD) ⟨hx, rfl, rfl, hoD⟩ hcd mro free ?_
  have look : W.Looks (model prog w) hp (classData C) cd := W.looks_clsIn kin hcd
  obtain ⟨c1, c2, c3, c4, c5, hd, c7, c8, c9, c10, c11⟩ := cd
  dsimp only at hasD
  subst hasD
  unfold storeInOwnDict ownDictForStores
  repeat (first | with_reducible refine PySem.ESX.store_in_old ns wi few ?_ | with_reducible refine wpAny_loadPart_at hx ?_ | with_reducible refine look.at ?_ | wp_step)
  exact fun h2 t2 n2 sb => done h2 t2 (fun b o hb ho => (sb.2 b hb).trans ho) n2
end

/-- what the written part says of an error class at C -/
structure ErrC (K : PySem.W.Frag) (C : Addr) : Prop where
  cls : ∃ pe nm q N bs sn sub ab col dd k0 k1 k2 k3 k5, K.lookup C = some (excClassObj nm q C N bs (.ref pe :: arT) true sn sub ab col dd k0 k1 k2 k3 k5 "ArithmeticError.__new__")
  sa : PySem.W.findIn K (.ref C) "__setattr__" = some (some (.builtin "object.__setattr__"))
  exB : PySem.W.subIn K (.ref C) (.type "BaseException") = some true
  exA : PySem.W.subIn K (.ref C) (.type "ArithmeticError") = some true
  ty : PySem.W.typeIn K (.ref C) = some (.type "type")
  kp : PySem.W.keepIn K (.ref C) = true
section
variable {X : Cx} {pins : List (Addr × Obj)} {σ : L2.St} {H : Hp} {s : Shared} {a C dx : Addr} {f : Str} {y : V} {u : Value} {fs : List (Str × V)} {Q : Unit → Shared → Prop} {E : Value → Shared → Prop} {A : Around}
theorem ErrC.data {K : PySem.W.Frag} (T : ErrC K C) : ∃ pe cd, PySem.W.clsIn K C = some cd ∧ cd.mro = .ref C :: .ref pe :: arT ∧ cd.hasDict = true := by
  obtain ⟨pe, nm, q, N, bs, sn, sub, ab, col, dd, k0, k1, k2, k3, k5, hC⟩ := T.cls
  exact ⟨pe, { name := nm, bases := bs, mro := .ref C :: .ref pe :: arT, ns := N, qualname := q, hasDict := true, slotNames := sn, subclasses := sub, abstract := ab, collection := col, hasDel := false }, by unfold PySem.W.clsIn; rw [hC] <;> rfl, rfl, rfl⟩
theorem not_at {H : Hp} {b c : Addr} {o : HO} (h : H b = some o) (n : H c = none) : c ≠ b := fun z => by
  rw [z, h] at n
  cases n
/-- self.f = y where the error has no dict as yet -/
theorem err_first (T : ErrC X.K C) (I : Inv X pins σ H s) (e : H a = some (exo a C none)) (free : PySem.W.findIn X.K (.ref C) f = some none) (ry : RelV y u)
    (go : ∀ dx st, H dx = none → dx ≠ a → Inv X pins σ (upd (upd H dx (exd dx [(f, y)])) a (exo a C (some dx))) st → Q () st) : wpAny (model X.prog X.w) A (setAttr (.ref a) f u) Q E s := by
  obtain ⟨pe, cd, hcl, hm, hh⟩ := T.data
  obtain ⟨t1, ho⟩ := exo_at I.hok e
  obtain ⟨hp, g, d, t, os⟩ := s
  refine PySem.W.set_plain I.kIn (od := none) (ox := { cls := .ref C, dict := none, data := .fields #[.ref t1, .none, .none, .none, .bool false, .none] }) ⟨ho, rfl, rfl, trivial⟩ T.sa (sa_first I.kIn ho hcl hm hh free fun h2 t2 dx k lt ne hx hn => ?_)
  have hnd : H dx = none := I.hok.fresh lt
  have old : ∀ {b : Addr} {o : Obj}, hp.get? b = some o → b ≠ dx := fun {b o} q => Nat.ne_of_lt (Nat.lt_of_lt_of_le (Heap.lt_size q) lt)
  have stay : ∀ {b : Addr} {o : HO}, H b = some o → exo a C none ≠ o → upd (upd H dx (exd dx [(f, y)])) a (exo a C (some dx)) b = some o := fun {b o} q ne => by
    rw [upd_ne (at_ne e q ne), upd_ne (ne_of_none q hnd)]; exact q
  have U : Un X.fs [] H (upd (upd H dx (exd dx [(f, y)])) a (exo a C (some dx))) hp h2 := {
    keep := fun b o q n _ _ => k b o (not_at e n) q
    slot := fun b o q n _ _ => ⟨o.slots, k b o (not_at e n) q⟩
    free := fun b o q n _ => by rw [upd_ne (not_at e n), upd_ne (old q)]; exact n
    there := fun b o q _ => by
      by_cases hb : b = a
      · exact ⟨_, hb ▸ hx⟩
      · exact ⟨o, k b o hb q⟩
    tups := fun b xs q => stay q exo_tup
    frzs := fun b o v q => stay q exo_frz
    tbls := fun b ps q => ⟨#[], by rw [stay q exo_tbl]; simp⟩ }
  refine go dx _ hnd ne (I.un (t' := t2) U fun b o q => ?_)
  by_cases hb : b = a
  · subst hb; rw [upd_same] at q; cases q; exact exo_ok hx
  · rw [upd_ne hb] at q
    by_cases hd : b = dx
    · subst hd; rw [upd_same] at q; cases q
      exact exd_ok hn (relO_put (fs := []) ry fun _ => True.intro)
    · rw [upd_ne hd] at q
      refine (I.hok b o q).stay (fun c v hc z => k c v ?_ z) (fun c hc => stay hc exo_own) fun c xs hc => stay hc exo_tup
      rcases hc with hc | hc
      · exact hc ▸ hb
      · exact at_ne e hc exo_own
/-- self.f = y, a further field -/
theorem err_more (T : ErrC X.K C) (I : Inv X pins σ H s) (e : H a = some (exo a C (some dx))) (ed : H dx = some (exd dx fs)) (few : fs.length ≤ 900) (free : PySem.W.findIn X.K (.ref C) f = some none) (ry : RelV y u)
    (go : ∀ st, Inv X pins σ (upd H dx (exd dx ((f, y) :: fs))) st → Q () st) : wpAny (model X.prog X.w) A (setAttr (.ref a) f u) Q E s := by
  obtain ⟨pe, cd, hcl, hm, hh⟩ := T.data
  obtain ⟨t1, ho⟩ := exo_at I.hok e
  obtain ⟨mA, hns, rel⟩ := exd_at I.hok ed
  have hw := within_of rel
  obtain ⟨hp, g, d, t, os⟩ := s
  obtain ⟨oD, _, _, hoD, _, _⟩ := hns.count hw
  refine PySem.W.set_plain I.kIn (od := some oD) (ox := { cls := .ref C, dict := some dx, data := .fields #[.ref t1, .none, .none, .none, .bool false, .none] }) ⟨ho, rfl, rfl, hoD⟩ T.sa (sa_more I.kIn ho hns hw (by rw [List.length_map]; omega) hcl hm hh free fun h2 t2 k hn => ?_)
  have there : ∃ o, h2.get? dx = some o := ⟨_, hn.choose_spec.choose_spec.choose_spec.1⟩
  exact go _ (I.write (t' := t2) (x := dx) (e := dx) (o := exd dx ((f, y) :: fs)) (by rw [ed]; exact True.intro) (.inl rfl) k there (exd_ok hn (relO_put ry rel)))
end
/-- self.f = e in the __init__ of such an error -/
def tErrSet (K : PySem.W.Frag) (f : Str) (to te : TE) : TS := fun D σ H => te σ H fun y H1 => to σ H1 fun x H2 => ∃ a C : Addr, x = .ref a ∧ ErrC K C ∧ PySem.W.findIn K (.ref C) f = some none ∧
  ((H2 a = some (exo a C none) ∧ ∀ dx, H2 dx = none → dx ≠ a → D.nx σ (upd (upd H2 dx (exd dx [(f, y)])) a (exo a C (some dx)))) ∨
   (∃ (dx : Addr) (fs : List (Str × V)), H2 a = some (exo a C (some dx)) ∧ H2 dx = some (exd dx fs) ∧ fs.length ≤ 900 ∧ D.nx σ (upd H2 dx (exd dx ((f, y) :: fs)))))
theorem ps_errSet {X : Cx} {o e : Expr} {to te : TE} {f : Str} {p' pos : Pos} (ho : PE X o to) (he : PE X e te) (hs : swapsWith e (some (.Attribute o f p')) pos.line X.env = pure false := by rfl) : PS X (.Assign [.Attribute o f p'] e pos) (tErrSet X.K f to te) := by
  refine ⟨fun pins s σ H D I h => plainObj_wpAny_Assign_Attribute (thn (he.run pins s σ H _ I h) fun v s1 ⟨y, H1, I1, r1, q1⟩ => thn (ho.run pins s1 σ H1 _ I1 q1) fun u s2 ⟨x, H2, I2, r2, a, C, ex, T, free, q⟩ => ?_) hs⟩
  subst ex
  obtain rfl : u = Value.ref a := r2
  rcases q with ⟨ea, q⟩ | ⟨dx, fs, ea, ed, few, q⟩
  · exact err_first T I2 ea free r1 fun dx st n ne J => ⟨σ, _, J, q dx n ne⟩
  · exact err_more T I2 ea ed few free r1 fun st J => ⟨σ, _, J, q⟩
end Pk
set_option Elab.async false
set_option linter.all false
set_option maxRecDepth 100000
set_option maxHeartbeats 1000000
namespace Pk
open PySem L2 PySem.Spec PyProof.Rows
/-- the __init__ at fI of the error class at C: F its words, cc the cell of the class -/
structure InitFn (P : Program) (K : PySem.W.Frag) (C fI cc : Addr) (F : NdefX.NF) : Prop where
  fn : ∃ (oc : Value) (od : Option Addr) (kV doc pm : Value) (an : Option Addr) (ct : Value) (osl : Array (Option Value)), K.lookup fI = some ⟨oc, od, .func (PySem.W.fnX F.name F.qual F.params F.body F.scope F.cl .none kV doc pm an (.ref F.c) ct), osl⟩
  code : PySem.W.codeIn K (.ref F.c) F.qual = true
  cl : F.cl = [(("__class__" : Str), cc)]
  cell : ∃ (a : Value) (b : Option Addr) (c : Array (Option Value)), K.lookup cc = some ⟨a, b, .cell (some (.ref C)), c⟩
  file : ∃ (a : Value) (b : Option Addr) (vs : Array Value) (c : Array (Option Value)) (f : Str) (t : Tok), K.lookup F.c = some ⟨a, b, .fields vs, c⟩ ∧ vs[2]? = some (.str f t) ∧ ((P.main.file : Str) == f) = true
  top : (P.main.scope.names.lookup ("super" : Str)).isSome = false
  opq : PySem.W.nsIn K cStatics "thirdparty.any" = some none
  self : ∃ q, (F.params.posonlyargs ++ F.params.args).head? = some { arg := "self", annotation := none, pos := q }
  sup : PySem.W.ks_superIn K C C "__init__" = some (some (.builtin "ArithmeticError.__init__"))
  below : PySem.W.mroIn K C (.ref C) = some true
section
open PySem.W PySem.Calls
variable {P : Program} {w : World} {K : PySem.W.Frag} {mg : Str → Option Value} {base : Heap} {CX : CXT} {C fI cc : Addr} {F : NdefX.NF} {N ps : List Str} {A : Around} {outer : List Env} {s : Shared} {H : Hp} {Q : VK} {E : XK} {k : Nat}
/-- super().__init__(text): the error's own arguments are laid anew, nothing else is changed -/
theorem sup_init {X : Cx} {pins : List (Addr × Obj)} {σ : L2.St} {H : Hp} {s : Shared} {x u : Addr} {us : List Value} {Qv : Value → Shared → Prop} (T : ErrC X.K C) (I : Inv X pins σ H s) (ex : H x = some (exo x C none)) (hu : s.heap.get? u = some (kxs_mw "ArithmeticError.__init__" x)) (hz : us.length ≤ sizeLine)
    (go : ∀ st, Inv X pins σ H st → Qv .none st) : wpAny (model X.prog X.w) X.A (call (.ref u) us) Qv X.xe s := by
  obtain ⟨pe, nm, q, NN, bs, sn, sub, ab, col, dd, k0, k1, k2, k3, k5, hC⟩ := T.cls
  obtain ⟨t1, ho⟩ := exo_at I.hok ex
  have hC' := I.kIn _ _ hC
  have hE := PySem.F.excBase_ArithmeticError
  have fin : ∀ h2, (∀ b o, b ≠ x → s.heap.get? b = some o → h2.get? b = some o) → h2.get? x = some (excObj C s.heap.objs.size none .none) → Qv .none { s with heap := h2 } := fun h2 keep hx => by
    have J := I.write (t' := s.toks) (x := x) (e := x) (o := exo x C none) (by rw [ex]; exact True.intro) (.inl rfl) keep ⟨_, hx⟩ (exo_ok hx)
    have e2 : upd H x (exo x C none) = H := by
      funext b
      by_cases hb : b = x
      · rw [hb, upd_same, ex]
      · rw [upd_ne hb]
    rw [e2] at J
    exact go _ J
  obtain ⟨hp, g, d, tk, os⟩ := s
  refine wpAny_call (codeAny_of_tree ?_)
  show wpAny _ X.A.in1 (callAny (.ref u) ⟨us, []⟩) _ _ _
  simp only [callAny]
  refine wpAny_bind (wpAny_load hu ?_)
  simp only [kxs_mw, show (Value.type "method-wrapper" == Value.type "method" || Value.type "method-wrapper" == Value.type "builtin_function_or_method" || Value.type "method-wrapper" == Value.type "method-wrapper") = true from by decide, if_true]
  refine KFB.if_so (by decide) (wpAny_bind (check_bound_init hE.toExcCallFacts hC' ho rfl (wpAny_bind (wpAny_pure (wpAny_pure ⟨plainId_quiet hE.init.plain _, codeAny_builtin hE.initEntry ?_⟩)))))
  exact exc_init_tree (cls := .ref C) (t0 := t1) (dv := none) (c2 := .none) (c3 := .none) (b4 := .bool false) ho hz fun h2 keep hx _ => fin h2 keep hx

/-- THE RULE of such an __init__: behind its first row the rest of its body runs as a def's body does, the class in its cell -/
theorem init_run {msg : Str} {kd : Nat} {p0 p1 p2 p3 p4 p5 : Pos} {rest : List Stmt} {us : List Value} {vs : List V} {x : Addr} (T : ErrC K C) (J : InitFn P K C fI cc F) (ms : mg "super" = none) (S : NdefX.NScope N ps ["__class__"] F.scope)
    (hB : F.body = .Expr (.Call (.Attribute (.Call (.Name "super" p0) [] [] p1) "__init__" p2) [.Constant (.str msg) kd p3] [] p4) p5 :: rest) (hsg : F.scope.names.lookup ("super" : Str) = some .globalImplicit)
    (hsl : F.scope.names.lookup ("self" : Str) = some .local) (hr : Room (k + 1) A) (e0 : Env0 P w K mg base A outer s H)
    (hb : ∀ (kV doc pm ct : Value) (an : Option Addr), BindsTo s (PySem.W.fnX F.name F.qual F.params F.body F.scope F.cl .none kV doc pm an (.ref F.c) ct) ⟨us, []⟩ (ps.zip us)) (r : Vals vs us) (hl : vs.length = ps.length)
    (hs0 : ps[0]? = some ("self" : Str)) (hv0 : vs[0]? = some (.ref x)) (ex : H x = some (exo x C none))
    {pl : Sem Bool} (he : ∀ env : Env, eval (.Call (.Attribute (.Call (.Name "super" p0) [] [] p1) "__init__" p2) [.Constant (.str msg) kd p3] [] p4) env = (do
      let ov ← attributeBase (.Call (.Name "super" p0) [] [] p1) "__init__" env (eval (.Call (.Name "super" p0) [] [] p1) env)
      standAt p2.atName
      let (f, first) ← holding [ov] (getMethod ov "__init__" pl)
      callWith p4 f first (backTo p4 (starEach [.Constant (.str msg) kd p3] env)) []))
    (hq : Room k (A.deeper (NdefX.envF F fI s.heap.objs.size)) → ∃ t, PSs (NdefX.ncx CX P w K mg base N F fI A outer s H E) rest t ∧ t { nx := fun _ H' => Q .non H', rt := Q } (NdefX.startF N vs [some (.ref C)]) H) :
    codeAny (model P w) A (.call (.ref fI) ⟨us, []⟩) (CR CX outer P w H s Q E) s := by
  obtain ⟨oc, od, kV, doc, pm, an, ct, osl, lk⟩ := J.fn
  obtain ⟨ca, cb, ccs, hcell⟩ := J.cell
  obtain ⟨fa, fb, fvs, fc, ff, ft, hcode, hvs, hfile⟩ := J.file
  obtain ⟨aq, hself⟩ := J.self
  obtain ⟨pe, cd, hcd, hmro, hhd⟩ := T.data
  have kin0 : K.In s.heap := e0.mod.kin.keeps fun b o e => (e0.bs b o e).1
  have lim : s.heap.NoLimit := e0.mod.nolimit.keeps fun b o e => (e0.bs b o e).1
  have cells : NdefX.CellsAt F.cl ["__class__"] [some (.ref C)] s.heap H := by
    have there : s.heap.IsCell cc (some (.ref C)) := ⟨_, kin0 _ _ hcell, rfl⟩
    have one : ∀ (y : Str) (c : Addr), F.cl.lookup y = some c → y = "__class__" ∧ c = cc := fun y c e => by
      rw [J.cl] at e
      have m := PySem.mem_of_lookup e
      simp only [List.mem_singleton, Prod.mk.injEq] at m
      exact m
    refine ⟨rfl, fun y c e => ?_, fun y z c e1 e2 => (one y c e1).1.trans (one z c e2).1.symm, fun i y e => ?_⟩
    · obtain ⟨_, rfl⟩ := one y c e
      exact ⟨(e0.bs _ _ (e0.mod.kin _ _ hcell)).2, _, there⟩
    · have ey : y = "__class__" := by
        match i, e with
        | 0, e => exact (Option.some.inj e).symm
        | i + 1, e => simp at e
      subst ey
      refine ⟨cc, by rw [J.cl]; simp [List.lookup], fun v e => ?_⟩
      match i, e with
      | 0, e => exact ⟨.ref C, by have z := Option.some.inj (Option.some.inj e); subst z; rfl, there⟩
      | i + 1, e => simp at e
  have ndP : ps.Nodup := by
    have q := S.nd.sublist (List.take_sublist (ps.length + [("__class__" : Str)].length) N)
    rw [S.pre] at q
    exact (List.nodup_append.mp q).1
  have hu0 : us[0]? = some (.ref x) := by
    obtain ⟨u, hu, ru⟩ := r.get hv0
    rw [hu]
    exact congrArg some ru
  refine ks_codeAny_call_defAt (fd := PySem.W.fnX F.name F.qual F.params F.body F.scope F.cl .none kV doc pm an (.ref F.c) ct) (body := F.body) (binds := ps.zip us) hr.depth (kin0 _ _ lk) rfl lim (PySem.W.codeRec_of kin0 J.code) rfl (hb kV doc pm ct an) S.nocell
    (fun ⟨n, v⟩ hy => S.par n (List.of_mem_zip hy).1) (fun h₁ hns hk₁ => ?_) S.co S.gen S.kind
  have I : Inv (NdefX.ncx CX P w K mg base N F fI A outer s H E) [] (NdefX.startF N vs [some (.ref C)]) H { s with heap := h₁, toks := s.toks + (ps.zip us).length } := NdefX.inv_startN S hr.hd e0 hl r cells hns hk₁
  obtain ⟨t, ht, hgo⟩ := hq (hr.deeper _)
  show PySem.wpAt _ (A.deeper (NdefX.envF F fI s.heap.objs.size)) (.func F.body (NdefX.envF F fI s.heap.objs.size)) (execs F.body (NdefX.envF F fI s.heap.objs.size)) _ _ _
  rw [hB]
  have hx1 : ∃ t1, h₁.get? x = some (excObj C t1 none .none) := exo_at I.hok ex
  obtain ⟨t1, hx1⟩ := hx1
  have kin1 : K.In h₁ := I.kIn
  obtain ⟨oD, hD1, hD2⟩ : ∃ oD, h₁.get? C = some oD ∧ oD.data = .cls cd := by
    have q := hcd
    unfold PySem.W.clsIn at q
    split at q
    · rename_i c' d' cd' sl' ho
      cases q
      exact ⟨_, kin1 _ _ ho, rfl⟩
    · cases q
  have fin : ∀ st, Inv (NdefX.ncx CX P w K mg base N F fI A outer s H E) [] (NdefX.startF N vs [some (.ref C)]) H st →
      wpAny (model P w) (A.deeper (NdefX.envF F fI s.heap.objs.size)) (execs rest (NdefX.envF F fI s.heap.objs.size)) (fun f s' => CR CX outer P w H s Q E (.ok (.ret (match f with | .ret v => v | _ => .none))) s')
        (fun e s' => wpAny (model P w) (A.deeper (NdefX.envF F fI s.heap.objs.size)) (leaving (NdefX.envF F fI s.heap.objs.size) e) (fun _ s'' => CR CX outer P w H s Q E (.error e) s'') (fun e' s'' => CR CX outer P w H s Q E (.error e') s'') s') st := fun st I2 => by
    refine wpAny_mono (ht.run [] st _ H _ I2 hgo) (fun fl s' hs => ?_) fun e s' hs => hs
    have close : ∀ {σ' : L2.St} {H' : Hp} {v : V} {u : Value}, Inv (NdefX.ncx CX P w K mg base N F fI A outer s H E) [] σ' H' s' → L2.RelV v u → Q v H' → CE outer P w H s Q u s' := fun {σ' H' v u} Z rv q => ⟨v, H', Z.os, Z.bare, Z.base, Z.hok, rv, q⟩
    cases fl with
    | ret u =>
      obtain ⟨v, σ', H', Z, rv, q⟩ := hs
      exact close Z rv q
    | next =>
      obtain ⟨σ', H', Z, q⟩ := hs
      exact close (v := V.non) (u := Value.none) Z rfl q
    | brk => exact (hs.choose_spec.choose_spec.2 : False).elim
    | cont => exact (hs.choose_spec.choose_spec.2 : False).elim
  refine ks_wpAt_execs_cons (ks_wpAt_Expr_any (ks_wpAt_MethodCall (ks_wpAt_super_base (cc := F.c) (f := fI) (ar := { arg := "self", annotation := none, pos := aq }) hsg (S.frk _ (by simp)) (by decide) rfl (kin1 _ _ lk) rfl hself rfl (kin1 _ _ hcode) rfl hvs hfile J.top ?_) (he _)) I.quiet ?sw)
  case sw => rfl
  obtain ⟨mb, hm1, hm2⟩ := e0.mod.blt
  refine ks_loadName_global S.kind hsg (loadGlobal_builtin (env := NdefX.envF F fI s.heap.objs.size) (e0.mod.glob.keeps I.bk) ms (hm1.keeps I.bk) ((hm2 "super" (by decide)).trans (by decide +kernel)) ⟨rfl, ?_⟩)
  refine wpAny_loadName_free S.kind (S.frk _ (by simp)) (show F.cl.lookup ("__class__" : Str) = some cc by rw [J.cl]; simp [List.lookup]) ⟨_, kin1 _ _ hcell, rfl⟩ ?_
  refine wpAny_loadName_local S.kind hsl hns (NdefX.zip_look ndP hs0 hu0) (ks_wpAny_isType_cls hD1 hD2 ⟨rfl, ?_⟩)
  have nocls : ∀ c, (excObj C t1 none .none).data ≠ .cls c := fun c z => by cases z
  refine ks_wpAny_call_super hD1 hD2 hx1 rfl nocls (PySem.W.looks_mroIn kin1 J.below) (fun h2 eso k2 => ?_)
  have I2 := I.kept (t' := s.toks + (ps.zip us).length) k2
  have kin2 : K.In h2 := I2.kIn
  have inst : PySem.W.InstAt h2 x (excObj C t1 none .none) C none := ⟨k2 _ _ hx1, rfl, rfl, trivial⟩
  have along : PySem.W.alongIn K "__init__" ((cd.mro.dropWhile (· != .ref C)).drop 1) = some (some (.builtin "ArithmeticError.__init__")) := by
    have q := J.sup
    unfold PySem.W.ks_superIn at q
    rw [hcd] at q
    exact q
  refine kxs_getMethod kxs_ArithmeticError eso (PySem.W.looks_opaque kin2 J.opq) ((PySem.W.looks_clsIn kin2 hcd).andThen .now) rfl kin2 along (inst.type.andThen (PySem.W.looks_subIn kin2 T.exA)) (PySem.W.ks_ne kin2 inst hcd) (by decide) ?_
  refine kxs_callWith (i := "ArithmeticError.__init__") (x := x) rfl ?_
  have hu : (h2.push (kxs_mw "ArithmeticError.__init__" x)).get? h2.objs.size = some (kxs_mw "ArithmeticError.__init__" x) := Heap.get?_push_at rfl rfl
  have fr : H h2.objs.size = none := I2.hok.fresh (Nat.le_refl _)
  have I3 := I2.kept (t' := s.toks + (ps.zip us).length + 1) (h' := h2.push (kxs_mw "ArithmeticError.__init__" x)) fun b o e => Heap.get?_push_of_some _ e
  have I4 : Inv (NdefX.ncx CX P w K mg base N F fI A outer s H E) [(h2.objs.size, kxs_mw "ArithmeticError.__init__" x)] (NdefX.startF N vs [some (.ref C)]) H { s with heap := h2.push (kxs_mw "ArithmeticError.__init__" x), toks := s.toks + (ps.zip us).length + 1 } :=
    ⟨I3.ok, I3.os, I3.bare, I3.base, I3.loc, I3.cell, I3.free, I3.freeC, fun p hp => by
      have e : p = (h2.objs.size, kxs_mw "ArithmeticError.__init__" x) := by
        have q : p ∈ [] ++ [(h2.objs.size, kxs_mw "ArithmeticError.__init__" x)] := hp
        simpa using q
      subst e
      exact ⟨hu, fr, Nat.ne_of_gt I2.lt, I2.nofs (Nat.le_refl _), fun v z => by cases z⟩, I3.hok, I3.len⟩
  have arg : PA (NdefX.ncx CX P w K mg base N F fI A outer s H E) [.Constant (.str msg) kd p3] (tCons (tC (.str msg)) tNil) := pa_cons pe_str pa_nil
  refine evalArgs_plain (thn (arg.run p4 _ _ _ H (fun us2 H2 => us2 = [.str msg] ∧ H2 = H) I4 ⟨rfl, rfl⟩) fun us2 s3 h3 => ?_)
  obtain ⟨vs2, H3, I5, r5, rfl, rfl⟩ := h3
  have mu : s3.heap.get? h2.objs.size = some (kxs_mw "ArithmeticError.__init__" x) := (I5.pin (h2.objs.size, kxs_mw "ArithmeticError.__init__" x) (List.mem_append_right _ (List.mem_singleton.mpr rfl))).1
  have one : us2.length ≤ sizeLine := by
    have z := Paired.length r5
    rw [← z, sizeLine_eq]
    show 1 ≤ 16777216
    decide
  refine ⟨mu, sup_init (us := us2) T I5 ex mu one fun st I6 => ?_⟩
  refine wpAt_of_wpAny (fin st ⟨I6.ok, I6.os, I6.bare, I6.base, I6.loc, I6.cell, I6.free, I6.freeC, fun p hp => I6.pin p (List.mem_append_left _ ?_), I6.hok, I6.len⟩)
  have q : p ∈ [] ++ [] := hp
  simpa using q
end
end Pk
set_option Elab.async false
set_option linter.all false
set_option maxRecDepth 100000
set_option maxHeartbeats 1000000
/-! Data of lists and tuples of bounded depth; copies of it that share no list. -/
namespace Pk
open PySem L2
/-- nested at most n deep, no list or tuple longer than 1000 -/
inductive Deep : Nat → PyData → Prop
  | non {n : Nat} : Deep n .none
  | bl {n : Nat} (b : Bool) : Deep n (.bool b)
  | int {n : Nat} (i : Int) : Deep n (.int i)
  | str {n : Nat} (z : Str) : Deep n (.str z)
  | lst {n : Nat} {ds : List PyData} (h : ∀ d ∈ ds, Deep n d) (z : ds.length ≤ 1000) : Deep (n + 1) (.list ds)
  | tup {n : Nat} {ds : List PyData} (h : ∀ d ∈ ds, Deep n d) (z : ds.length ≤ 1000) : Deep (n + 1) (.tuple ds)
theorem Deep.mono {n m : Nat} {d : PyData} (h : Deep n d) (l : n ≤ m) : Deep m d := by
  induction h generalizing m with
  | non => exact .non
  | bl b => exact .bl b
  | int i => exact .int i
  | str z => exact .str z
  | lst h z ih =>
    obtain ⟨k, rfl⟩ : ∃ k, m = k + 1 := ⟨m - 1, by omega⟩
    exact .lst (fun d hd => ih d hd (by omega)) z
  | tup h z ih =>
    obtain ⟨k, rfl⟩ : ∃ k, m = k + 1 := ⟨m - 1, by omega⟩
    exact .tup (fun d hd => ih d hd (by omega)) z
/-- v is the data d in H, and every list and tuple of it is new: not tracked in H0 -/
inductive Own (H0 H : Hp) : V → PyData → Prop
  | non : Own H0 H .non .none
  | bl (b : Bool) : Own H0 H (.bl b) (.bool b)
  | int (i : Int) : Own H0 H (.int i) (.int i)
  | str (z : Str) : Own H0 H (.str z) (.str z)
  | lst {a : Addr} {xs : List V} {ds : List PyData} (n : H0 a = none) (h : H a = some (.lst xs)) (hl : xs.length = ds.length) (hs : ∀ (i : Nat) (v : V) (d : PyData), xs[i]? = some v → ds[i]? = some d → Own H0 H v d) : Own H0 H (.ref a) (.list ds)
  | tup {a : Addr} {xs : List V} {ds : List PyData} (n : H0 a = none) (h : H a = some (.tup xs)) (hl : xs.length = ds.length) (hs : ∀ (i : Nat) (v : V) (d : PyData), xs[i]? = some v → ds[i]? = some d → Own H0 H v d) : Own H0 H (.ref a) (.tuple ds)
theorem Own.mono {H0 H H0' H' : Hp} {v : V} {d : PyData} (o : Own H0 H v d) (f : ∀ a, H0 a = none → H a ≠ none → H0' a = none) (k : ∀ a u, H0 a = none → H a = some u → (∃ xs, u = .lst xs ∨ u = .tup xs) → H' a = some u) : Own H0' H' v d := by
  induction o with
  | non => exact .non
  | bl b => exact .bl b
  | int i => exact .int i
  | str z => exact .str z
  | lst n h hl _ ih => exact .lst (f _ n (by rw [h]; exact Option.some_ne_none _)) (k _ _ n h ⟨_, .inl rfl⟩) hl fun i v d e1 e2 => ih i v d e1 e2
  | tup n h hl _ ih => exact .tup (f _ n (by rw [h]; exact Option.some_ne_none _)) (k _ _ n h ⟨_, .inr rfl⟩) hl fun i v d e1 e2 => ih i v d e1 e2
theorem Own.later {H0 H H' : Hp} {v : V} {d : PyData} (o : Own H0 H v d) (s : Same H H') : Own H0 H' v d := o.mono (fun _ n _ => n) fun a u _ h _ => s a u h
/-- made later than H0, so also later than what H0 has grown from -/
theorem Own.back {H0 H1 H : Hp} {v : V} {d : PyData} (o : Own H1 H v d) (s : Same H0 H1) : Own H0 H v d := by
  induction o with
  | non => exact .non
  | bl b => exact .bl b
  | int i => exact .int i
  | str z => exact .str z
  | lst n h hl _ ih => exact .lst (s.free n) h hl ih
  | tup n h hl _ ih => exact .tup (s.free n) h hl ih
theorem dpAll_of {K : PySem.W.Frag} {H : Hp} : ∀ {xs : List V} {ds : List PyData}, xs.length = ds.length → (∀ (i : Nat) (v : V) (d : PyData), xs[i]? = some v → ds[i]? = some d → Dp K H v d) → DpAll K H xs ds
  | [], [], _, _ => .nil
  | [], _ :: _, h, _ => by cases h
  | _ :: _, [], h, _ => by cases h
  | x :: xs, d :: ds, h, k => .cons (k 0 x d rfl rfl) (dpAll_of (Nat.succ.inj h) fun i v e e1 e2 => k (i + 1) v e e1 e2)
theorem dpAll_len {K : PySem.W.Frag} {H : Hp} : ∀ {xs : List V} {ds : List PyData}, DpAll K H xs ds → xs.length = ds.length
  | _, _, .nil => rfl
  | _, _, .cons _ t => congrArg Nat.succ (dpAll_len t)
theorem dpAll_at {K : PySem.W.Frag} {H : Hp} : ∀ {xs : List V} {ds : List PyData} {i : Nat} {v : V}, DpAll K H xs ds → xs[i]? = some v → ∃ d, ds[i]? = some d ∧ Dp K H v d
  | _, _, _, _, .nil, e => by simp at e
  | _, _, 0, _, .cons h _, e => ⟨_, rfl, by have z := Option.some.inj e; subst z; exact h⟩
  | _, _, i + 1, _, .cons _ t, e => dpAll_at (i := i) t e
theorem Own.dp {K : PySem.W.Frag} {H0 H : Hp} {v : V} {d : PyData} (o : Own H0 H v d) : Dp K H v d := by
  induction o with
  | non => exact .non
  | bl b => exact .bl b
  | int i => exact .int i
  | str z => exact .str z
  | lst n h hl _ ih => exact .lst (SqL.of h) (dpAll_of hl ih)
  | tup n h hl _ ih => exact .tup (SqT.of h) (dpAll_of hl ih)
/-- lists, tuples and what is locked -/
def IsLT (u : HO) : Prop := (∃ xs, u = .lst xs) ∨ (∃ xs, u = .tup xs) ∨ ∃ o z, u = .frz o z
/-- these are as they were -/
def SameD (H H' : Hp) : Prop := ∀ a u, IsLT u → H a = some u → H' a = some u
theorem SameD.of {H H' : Hp} (s : Same H H') : SameD H H' := fun a u _ h => s a u h
theorem SameD.trans {H H1 H2 : Hp} (a : SameD H H1) (b : SameD H1 H2) : SameD H H2 := fun c u l h => b c u l (a c u l h)
theorem SameD.seqL {K : PySem.W.Frag} {H H' : Hp} (s : SameD H H') {a : Addr} {xs : List V} (h : SqL K H a xs) : SqL K H' a xs := by
  rcases h with (h | ⟨o, h⟩) | h
  · exact .inl (.inl (s _ _ (.inl ⟨_, rfl⟩) h))
  · exact .inl (.inr ⟨o, s _ _ (.inr (.inr ⟨_, _, rfl⟩)) h⟩)
  · exact .inr h
theorem SameD.seqT {K : PySem.W.Frag} {H H' : Hp} (s : SameD H H') {a : Addr} {xs : List V} (h : SqT K H a xs) : SqT K H' a xs := by
  rcases h with (h | ⟨o, h⟩) | h
  · exact .inl (.inl (s _ _ (.inr (.inl ⟨_, rfl⟩)) h))
  · exact .inl (.inr ⟨o, s _ _ (.inr (.inr ⟨_, _, rfl⟩)) h⟩)
  · exact .inr h
mutual
theorem Dp.laterD {K : PySem.W.Frag} {H H' : Hp} (s : SameD H H') : ∀ {v : V} {d : PyData}, Dp K H v d → Dp K H' v d
  | _, _, .non => .non
  | _, _, .bl b => .bl b
  | _, _, .int i => .int i
  | _, _, .str z => .str z
  | _, _, .lst h t => .lst (s.seqL h) (DpAll.laterD s t)
  | _, _, .tup h t => .tup (s.seqT h) (DpAll.laterD s t)
theorem DpAll.laterD {K : PySem.W.Frag} {H H' : Hp} (s : SameD H H') : ∀ {xs : List V} {ds : List PyData}, DpAll K H xs ds → DpAll K H' xs ds
  | _, _, .nil => .nil
  | _, _, .cons h t => .cons (Dp.laterD s h) (DpAll.laterD s t)
end
theorem Dp.later {K : PySem.W.Frag} {H H' : Hp} (s : Same H H') {v : V} {d : PyData} (h : Dp K H v d) : Dp K H' v d := Dp.laterD (.of s) h
theorem DpAll.later {K : PySem.W.Frag} {H H' : Hp} (s : Same H H') {xs : List V} {ds : List PyData} (h : DpAll K H xs ds) : DpAll K H' xs ds := DpAll.laterD (.of s) h
/-- the built-in class of a piece of data -/
def kindOf : PyData → String
  | .none => "NoneType" | .bool _ => "bool" | .int _ => "int" | .str _ => "str" | .list _ => "list" | .tuple _ => "tuple" | _ => "object"
theorem Dp.kind {K : PySem.W.Frag} {H : Hp} {v : V} {d : PyData} (h : Dp K H v d) : TyX K H v (.type (kindOf d)) := by
  cases h with
  | non => exact .base .non
  | bl b => exact .base (.bl b)
  | int i => exact .base (.int i)
  | str z => exact .base (.str z)
  | lst h _ =>
    rcases h with (h | ⟨o, h⟩) | ⟨o, its, n, h, c, _⟩
    · exact .base (.lst h)
    · exact .base (.frz h)
    · exact .kList h c
  | tup h _ =>
    rcases h with (h | ⟨o, h⟩) | ⟨o, its, n, h, c, _⟩
    · exact .base (.tup h)
    · exact .fTuple h
    · exact .kTuple h c
/-- isinstance(x, T), T a built-in class -/
theorem r_isi {K : PySem.W.Frag} {H : Hp} {Q : VK} {x : V} {a b : String} {r : Bool} (t : TyX K H x (.type a)) (e : kitB a b = some r) (h : Q (.bl r) H) : rIsi K [x, .ty b] H Q := ⟨x, .ty b, _, _, r, rfl, .ty b, t, kit_ty e, h⟩
/-- own_copy(value), for data at most n deep -/
def spCopy (K : PySem.W.Frag) (n : Nat) : Sp := fun vs H Q _ => ∃ (v : V) (d : PyData), vs = [v] ∧ Dp K H v d ∧ Deep n d ∧ ∀ (v' : V) (H' : Hp), Same H H' → Own H H' v' d → Q v' H'
/-- _law_same(a, b) of two values that are the same data -/
def spSame (K : PySem.W.Frag) (n : Nat) : Sp := fun vs H Q _ => ∃ (a b : V) (d : PyData), vs = [a, b] ∧ Dp K H a d ∧ Dp K H b d ∧ Deep n d ∧ Q (.bl true) H
theorem kit_list (d : PyData) : ∃ r, kitB (kindOf d) "list" = some r ∧ (r = true ↔ ∃ ds, d = .list ds) := by
  cases d with
  | none => exact ⟨false, (by decide +kernel : kitB "NoneType" "list" = some false), ⟨(fun z => by cases z), (fun z => by obtain ⟨_, z⟩ := z; cases z)⟩⟩
  | bool b => exact ⟨false, (by decide +kernel : kitB "bool" "list" = some false), ⟨(fun z => by cases z), (fun z => by obtain ⟨_, z⟩ := z; cases z)⟩⟩
  | int i => exact ⟨false, (by decide +kernel : kitB "int" "list" = some false), ⟨(fun z => by cases z), (fun z => by obtain ⟨_, z⟩ := z; cases z)⟩⟩
  | str z => exact ⟨false, (by decide +kernel : kitB "str" "list" = some false), ⟨(fun z => by cases z), (fun z => by obtain ⟨_, z⟩ := z; cases z)⟩⟩
  | list ds => exact ⟨true, (by decide +kernel : kitB "list" "list" = some true), ⟨fun _ => ⟨ds, rfl⟩, fun _ => rfl⟩⟩
  | tuple ds => exact ⟨false, (by decide +kernel : kitB "tuple" "list" = some false), ⟨(fun z => by cases z), (fun z => by obtain ⟨_, z⟩ := z; cases z)⟩⟩
  | dict kv => exact ⟨false, (by decide +kernel : kitB "object" "list" = some false), ⟨(fun z => by cases z), (fun z => by obtain ⟨_, z⟩ := z; cases z)⟩⟩
theorem kit_tuple (d : PyData) : ∃ r, kitB (kindOf d) "tuple" = some r ∧ (r = true ↔ ∃ ds, d = .tuple ds) := by
  cases d with
  | none => exact ⟨false, (by decide +kernel : kitB "NoneType" "tuple" = some false), ⟨(fun z => by cases z), (fun z => by obtain ⟨_, z⟩ := z; cases z)⟩⟩
  | bool b => exact ⟨false, (by decide +kernel : kitB "bool" "tuple" = some false), ⟨(fun z => by cases z), (fun z => by obtain ⟨_, z⟩ := z; cases z)⟩⟩
  | int i => exact ⟨false, (by decide +kernel : kitB "int" "tuple" = some false), ⟨(fun z => by cases z), (fun z => by obtain ⟨_, z⟩ := z; cases z)⟩⟩
  | str z => exact ⟨false, (by decide +kernel : kitB "str" "tuple" = some false), ⟨(fun z => by cases z), (fun z => by obtain ⟨_, z⟩ := z; cases z)⟩⟩
  | list ds => exact ⟨false, (by decide +kernel : kitB "list" "tuple" = some false), ⟨(fun z => by cases z), (fun z => by obtain ⟨_, z⟩ := z; cases z)⟩⟩
  | tuple ds => exact ⟨true, (by decide +kernel : kitB "tuple" "tuple" = some true), ⟨fun _ => ⟨ds, rfl⟩, fun _ => rfl⟩⟩
  | dict kv => exact ⟨false, (by decide +kernel : kitB "object" "tuple" = some false), ⟨(fun z => by cases z), (fun z => by obtain ⟨_, z⟩ := z; cases z)⟩⟩
theorem kit_dict {n : Nat} {d : PyData} (h : Deep n d) : kitB (kindOf d) "dict" = some false := by
  cases h with
  | non => exact (by decide +kernel : kitB "NoneType" "dict" = some false)
  | bl b => exact (by decide +kernel : kitB "bool" "dict" = some false)
  | int i => exact (by decide +kernel : kitB "int" "dict" = some false)
  | str z => exact (by decide +kernel : kitB "str" "dict" = some false)
  | lst h z => exact (by decide +kernel : kitB "list" "dict" = some false)
  | tup h z => exact (by decide +kernel : kitB "tuple" "dict" = some false)
end Pk
set_option Elab.async false
set_option linter.all false
set_option maxRecDepth 100000
set_option maxHeartbeats 1000000
namespace Pk
open PySem L2 PySem.Spec PyProof.Rows
/-- the __init__ at fI keeps sp, its first argument an error that is being made -/
structure ErrOk (P : Program) (w : World) (K : PySem.W.Frag) (mg : Str → Option Value) (base : Heap) (k : Nat) (C fI : Addr) (sp : Sp) : Prop where
  run : ∀ (A : Around) (outer : List Env) (s : Shared) (H : Hp) (us : List Value) (vs : List V) (x : Addr) (Q : VK), Room k A → Env0 P w K mg base A outer s H → Vals (.ref x :: vs) us → H x = some (exo x C none) → sp (.ref x :: vs) H Q (fun _ _ _ => False) →
    codeAny (model P w) A (.call (.ref fI) ⟨us, []⟩) (CR CX0 outer P w H s Q (fun _ _ _ => False)) s
/-- C(e, ..) -/
def tMkErr (C : Addr) (sp : Sp) (ta : TA) : L2.St → Hp → XK → Prop := fun σ H Q => ta σ H fun vs H1 => vs.length ≤ 1000 ∧ ∀ x, H1 x = none →
  sp (.ref x :: vs) (upd H1 x (exo x C none)) (fun v H2 => v = .non ∧ ∃ (d : Addr) (fs : List (Str × V)), H2 x = some (exo x C (some d)) ∧ H2 d = some (exd d fs) ∧ H1 d = none ∧ Q (.ref C) (some d) (upd (del H2 x) d (.xd fs))) (fun _ _ _ => False)
theorem pmk_err {X : Cx} {x : Str} {C fI : Addr} {k : Nat} {sp : Sp} {p pos : Pos} {e : Expr} {es : List Expr} {ta : TA} (T : ErrC X.K C) (iC : PySem.W.findIn X.K (.ref C) "__init__" = some (some (.ref fI))) (tI : PySem.W.typeIn X.K (.ref fI) = some (.type "function"))
    (G : ErrOk X.prog X.w X.K X.mg X.base k C fI sp) (hr : Room (k + 1) X.A) (hg : Gl X x) (hm : X.mg x = some (.ref C)) (ha : PA X (e :: es) ta)
    (hdb : (x == ("__debug__" : Str)) = false := by decide) (he : starEach (e :: es) X.env = (false, eval e X.env) :: starEach es X.env := by rfl) (hpl : (backTo pos (starEach es X.env)).any (·.1) = false := by rfl) : PMk X (.Call (.Name x p) (e :: es) [] pos) (tMkErr C sp ta) := by
  intro pins s σ H Q I h
  obtain ⟨pe, nm, q, N, bs, sn, sub, ab, col, dd, k0, k1, k2, k3, k5, hC⟩ := T.cls
  refine wpAny_Call_Name_kw (ld_glob I hg hm (PySem.W.callWith_K (h₀ := X.base) I.ok.mod.kin T.kp (thn (ha.run pos pins s σ H _ I h) fun us s1 ⟨vs, H1, I1, r1, hz, q1⟩ => ⟨I1.kIn, ?_⟩) he hpl) hdb)
  show wpAny _ _ (call (.ref C) us) _ _ _
  obtain ⟨hp, g, dr, tk, os⟩ := s1
  have up := Nat.le_succ hp.objs.size
  have hq := q1 (hp.objs.size + 1) (I1.hok.fresh up)
  have kk : ∀ b o, hp.get? b = some o → ((hp.push (PySem.W.kdv_tup us)).push (PySem.HandSPX.excO C hp.objs.size)).get? b = some o := fun b o z => Heap.get?_push_of_some _ (Heap.get?_push_of_some _ z)
  have made : ((hp.push (PySem.W.kdv_tup us)).push (PySem.HandSPX.excO C hp.objs.size)).get? (hp.objs.size + 1) = some (PySem.HandSPX.excO C hp.objs.size) := by heap_get
  have I2 := I1.laid (t' := tk) (a := hp.objs.size + 1) (o := exo (hp.objs.size + 1) C none) kk up (exo_ok made)
  have short : us.length ≤ sizeLine := by
    rw [← Paired.length r1, sizeLine_eq]; omega
  refine wpAny_call (PySem.HandSPX.call_own PySem.F.excBase_ArithmeticError arT_same (I1.kIn _ _ hC) (PySem.W.looks_findIn I1.kIn iC) (fun z => PySem.W.bind_fn I1.kIn z tI) short
    (codeAny_mono (G.run _ X.stack _ _ (Value.ref (hp.objs.size + 1) :: us) vs (hp.objs.size + 1) _ (hr.make C us []) (I2.env0.make C us []) (.cons rfl r1) upd_same hq) fun r st z => ?_))
  cases r with
  | error er => exact (show False from z).elim
  | ok fl =>
    cases fl with
    | ret u =>
      obtain ⟨v, H2, os2, bare2, un2, hok2, rv, ev, d, fs, ea, ed, hd1, q2⟩ := z
      subst ev
      obtain ⟨h2, g2, d2, t2, os'⟩ := st
      exact ⟨rv, mk_end (raises_own T.exB T.ty) I1 up kk un2 hok2 os2 bare2 ea ed hd1 q2⟩
    | next => exact False.elim z
    | brk => exact False.elim z
    | cont => exact False.elim z

theorem r_errSet {K : PySem.W.Frag} {f : Str} {to te : TE} {D : Ends} {σ : L2.St} {H : Hp} (h : te σ H fun y H1 => to σ H1 fun x H2 => ∃ a C : Addr, x = .ref a ∧ ErrC K C ∧ PySem.W.findIn K (.ref C) f = some none ∧
  ((H2 a = some (exo a C none) ∧ ∀ dx, H2 dx = none → dx ≠ a → D.nx σ (upd (upd H2 dx (exd dx [(f, y)])) a (exo a C (some dx)))) ∨
   (∃ (dx : Addr) (fs : List (Str × V)), H2 a = some (exo a C (some dx)) ∧ H2 dx = some (exd dx fs) ∧ fs.length ≤ 900 ∧ D.nx σ (upd H2 dx (exd dx ((f, y) :: fs)))))) : tErrSet K f to te D σ H := h
/-- an __init__ of one field, a copy of what it is passed -/
def spErr1 (K : PySem.W.Frag) (n : Nat) (C : Addr) (f : Str) : Sp := fun vs H Q _ => ∃ (x : Addr) (v : V) (d : PyData), vs = [.ref x, v] ∧ H x = some (exo x C none) ∧ Dp K H v d ∧ Deep n d ∧
  ∀ (dx : Addr) (v' : V) (H' : Hp), H' x = some (exo x C (some dx)) → H' dx = some (exd dx [(f, v')]) → H dx = none → dx ≠ x → Keep x H H' → Own H H' v' d → Q .non H'
/-- .. of two fields, in this sequence -/
def spErr2 (K : PySem.W.Frag) (n : Nat) (C : Addr) (f g : Str) : Sp := fun vs H Q _ => ∃ (x : Addr) (v u : V) (d e : PyData), vs = [.ref x, v, u] ∧ H x = some (exo x C none) ∧ Dp K H v d ∧ Deep n d ∧ Dp K H u e ∧ Deep n e ∧
  ∀ (dx : Addr) (v' u' : V) (H' : Hp), H' x = some (exo x C (some dx)) → H' dx = some (exd dx [(g, u'), (f, v')]) → H dx = none → dx ≠ x → Keep x H H' → Own H H' v' d → Own H H' u' e → Q .non H'
theorem exd_lt {dx : Addr} {fs : List (Str × V)} {u : HO} (h : ∃ xs, u = .lst xs ∨ u = .tup xs) : exd dx fs ≠ u := fun z => by
  obtain ⟨xs, e | e⟩ := h
  · rw [e] at z; cases (show HO.ext _ = HO.lst xs from z)
  · rw [e] at z; cases (show HO.ext _ = HO.tup xs from z)
/-- what is new stays so when the error, which is known, and its new dict are written -/
theorem Own.stored {H H1 : Hp} {v : V} {d : PyData} {x dx : Addr} {o u : HO} (w : Own H H1 v d) (hx : H x ≠ none) (hd : H1 dx = none) : Own H (upd (upd H1 dx o) x u) v d :=
  w.mono (fun _ n _ => n) fun a z n q _ => by
    have na : a ≠ x := fun e => hx (e ▸ n)
    rw [upd_ne na, upd_ne (ne_of_none q hd)]
    exact q
section
variable {P : Program} {w : World} {K : PySem.W.Frag} {mg : Str → Option Value} {base : Heap} {C fI cc fc : Addr} {fdc : FuncData} {F : NdefX.NF} {n : Nat} {f g : Str}
theorem err_one {msg : Str} {kd : Nat} {p0 p1 p2 p3 p4 p5 q0 q1 q2 q3 q4 q5 : Pos} (T : ErrC K C) (J : InitFn P K C fI cc F) (ms : mg "super" = none) (G : FnOk P w K mg base CX0 (n + 1) fc fdc ["value"] (spCopy K n)) (mc : mg "own_copy" = some (.ref fc)) (kc : PySem.W.keepIn K (.ref fc) = true)
    (bc : Binds K fdc ["value"] []) (S : NdefX.NScope ["self", f, "__class__"] ["self", f] ["__class__"] F.scope)
    (hB : F.body = .Expr (.Call (.Attribute (.Call (.Name "super" p0) [] [] p1) "__init__" p2) [.Constant (.str msg) kd p3] [] p4) p5 :: [.Assign [.Attribute (.Name "self" q0) f q1] (.Call (.Name "own_copy" q2) [.Name f q3] [] q4) q5])
    (hsg : F.scope.names.lookup ("super" : Str) = some .globalImplicit) (hog : F.scope.names.lookup ("own_copy" : Str) = some .globalImplicit) (free : PySem.W.findIn K (.ref C) f = some none)
    (hb : ∀ (kV doc pm ct : Value) (an : Option Addr) (us : List Value), us.length = 2 → bindArgs (PySem.W.fnX F.name F.qual F.params F.body F.scope F.cl .none kV doc pm an (.ref F.c) ct) ⟨us, []⟩ = pure ((["self", f] : List Str).zip us))
    {pl : Sem Bool} (he : ∀ env : Env, eval (.Call (.Attribute (.Call (.Name "super" p0) [] [] p1) "__init__" p2) [.Constant (.str msg) kd p3] [] p4) env = (do
      let ov ← attributeBase (.Call (.Name "super" p0) [] [] p1) "__init__" env (eval (.Call (.Name "super" p0) [] [] p1) env)
      standAt p2.atName
      let (f, first) ← holding [ov] (getMethod ov "__init__" pl)
      callWith p4 f first (backTo p4 (starEach [.Constant (.str msg) kd p3] env)) []))
    (fd : (f == ("__debug__" : Str)) = false) (fcd : (f == ("__classdict__" : Str)) = false) : ErrOk P w K mg base (n + 2) C fI (spErr1 K n C f) := by
  refine ⟨fun A outer s H us vs x Q hr e0 r ex hsp => ?_⟩
  obtain ⟨x', v, d, evs, _, hv, hd, k⟩ := hsp
  obtain ⟨rfl, rfl⟩ : x = x' ∧ vs = [v] := by
    have z := List.cons.inj evs
    exact ⟨V.ref.inj z.1, z.2⟩
  have lu : us.length = 2 := by rw [← r.length]; rfl
  refine init_run (k := n + 1) (rest := [.Assign [.Attribute (.Name "self" q0) f q1] (.Call (.Name "own_copy" q2) [.Name f q3] [] q4) q5]) (x := x) T J ms S hB hsg (S.par _ (by simp)) hr e0 (fun kV doc pm ct an => BindsTo.of_eq (hb kV doc pm ct an us lu)) r rfl rfl rfl ex he fun hr' => ?_
  refine ⟨_, pss_one (ps_errSet (pe_var (i := 0) rfl (.inl (S.par _ (by simp)))) (pe_call G hr' hog mc kc bc .nil pass0 (pa_cons (pe_var (i := 1) rfl (.inl (S.par _ (by simp))) fd fcd) pa_nil)) ?sw), ?_⟩
  case sw => rfl
  refine r_errSet ?_
  refine r_call ?_
  refine r_cons ?_
  refine r_var rfl ?_
  refine r_nil ?_
  refine ⟨v, d, rfl, hv, hd, fun v' H1 s1 o1 => ?_⟩
  refine r_var rfl ?_
  refine ⟨x, C, rfl, T, free, .inl ⟨s1 _ _ ex, fun dx hdx ne => ?_⟩⟩
  refine k dx v' _ upd_same (by rw [upd_ne ne, upd_same]) (s1.free hdx) ne (Keep.own (Keep.new (Keep.same s1) hdx)) (o1.stored (by rw [ex]; exact Option.some_ne_none _) hdx)

theorem exo_lt {x : Addr} {C : Addr} {d : Option Addr} {u : HO} (h : IsLT u) : exo x C d ≠ u := fun z => by
  rcases h with ⟨_, e⟩ | ⟨_, e⟩ | ⟨_, _, e⟩
  · rw [e] at z; exact exo_lt' z
  · exact exo_tup (z.trans e)
  · exact exo_frz (z.trans e)
where exo_lt' {x C : Addr} {d : Option Addr} {xs : List V} (z : exo x C d = .lst xs) : False := by cases (show HO.ext _ = HO.lst xs from z)
/-- behind the stores into the error at x lists and tuples are as they were -/
theorem sameD_err {H : Hp} {x C dx : Addr} {d : Option Addr} {o u : HO} (hx : H x = some (exo x C d)) (hd : H dx = none) : SameD H (upd (upd H dx o) x u) := fun a z l h => by
  rw [upd_ne (at_ne hx h (exo_lt l)), upd_ne (ne_of_none h hd)]
  exact h
theorem err_two {msg : Str} {kd : Nat} {p0 p1 p2 p3 p4 p5 q0 q1 q2 q3 q4 q5 z0 z1 z2 z3 z4 z5 : Pos} (T : ErrC K C) (J : InitFn P K C fI cc F) (ms : mg "super" = none) (G : FnOk P w K mg base CX0 (n + 1) fc fdc ["value"] (spCopy K n)) (mc : mg "own_copy" = some (.ref fc)) (kc : PySem.W.keepIn K (.ref fc) = true)
    (bc : Binds K fdc ["value"] []) (S : NdefX.NScope ["self", f, g, "__class__"] ["self", f, g] ["__class__"] F.scope)
    (hB : F.body = .Expr (.Call (.Attribute (.Call (.Name "super" p0) [] [] p1) "__init__" p2) [.Constant (.str msg) kd p3] [] p4) p5 ::
      [.Assign [.Attribute (.Name "self" q0) f q1] (.Call (.Name "own_copy" q2) [.Name f q3] [] q4) q5, .Assign [.Attribute (.Name "self" z0) g z1] (.Call (.Name "own_copy" z2) [.Name g z3] [] z4) z5])
    (hsg : F.scope.names.lookup ("super" : Str) = some .globalImplicit) (hog : F.scope.names.lookup ("own_copy" : Str) = some .globalImplicit) (free : PySem.W.findIn K (.ref C) f = some none) (freeg : PySem.W.findIn K (.ref C) g = some none)
    (hb : ∀ (kV doc pm ct : Value) (an : Option Addr) (us : List Value), us.length = 3 → bindArgs (PySem.W.fnX F.name F.qual F.params F.body F.scope F.cl .none kV doc pm an (.ref F.c) ct) ⟨us, []⟩ = pure ((["self", f, g] : List Str).zip us))
    {pl : Sem Bool} (he : ∀ env : Env, eval (.Call (.Attribute (.Call (.Name "super" p0) [] [] p1) "__init__" p2) [.Constant (.str msg) kd p3] [] p4) env = (do
      let ov ← attributeBase (.Call (.Name "super" p0) [] [] p1) "__init__" env (eval (.Call (.Name "super" p0) [] [] p1) env)
      standAt p2.atName
      let (f, first) ← holding [ov] (getMethod ov "__init__" pl)
      callWith p4 f first (backTo p4 (starEach [.Constant (.str msg) kd p3] env)) []))
    (fd : (f == ("__debug__" : Str)) = false) (fcd : (f == ("__classdict__" : Str)) = false) (gd : (g == ("__debug__" : Str)) = false) (gcd : (g == ("__classdict__" : Str)) = false) : ErrOk P w K mg base (n + 2) C fI (spErr2 K n C f g) := by
  refine ⟨fun A outer s H us vs x Q hr e0 r ex hsp => ?_⟩
  obtain ⟨x', v, u, d, e, evs, _, hv, hd, hu, hde, k⟩ := hsp
  obtain ⟨rfl, rfl⟩ : x = x' ∧ vs = [v, u] := by
    have z := List.cons.inj evs
    exact ⟨V.ref.inj z.1, z.2⟩
  have lu : us.length = 3 := by rw [← r.length]; rfl
  refine init_run (k := n + 1) (rest := [.Assign [.Attribute (.Name "self" q0) f q1] (.Call (.Name "own_copy" q2) [.Name f q3] [] q4) q5, .Assign [.Attribute (.Name "self" z0) g z1] (.Call (.Name "own_copy" z2) [.Name g z3] [] z4) z5]) (x := x) T J ms S hB hsg (S.par _ (by simp)) hr e0
    (fun kV doc pm ct an => BindsTo.of_eq (hb kV doc pm ct an us lu)) r rfl rfl rfl ex he fun hr' => ?_
  refine ⟨_, pss_cons (ps_errSet (pe_var (i := 0) rfl (.inl (S.par _ (by simp)))) (pe_call G hr' hog mc kc bc .nil pass0 (pa_cons (pe_var (i := 1) rfl (.inl (S.par _ (by simp))) fd fcd) pa_nil)) ?sw)
    (pss_one (ps_errSet (pe_var (i := 0) rfl (.inl (S.par _ (by simp)))) (pe_call G hr' hog mc kc bc .nil pass0 (pa_cons (pe_var (i := 2) rfl (.inl (S.par _ (by simp))) gd gcd) pa_nil)) ?sv)), ?_⟩
  case sw => rfl
  case sv => rfl
  refine r_seq ?_
  refine r_errSet ?_
  refine r_call ?_
  refine r_cons ?_
  refine r_var rfl ?_
  refine r_nil ?_
  refine ⟨v, d, rfl, hv, hd, fun v' H1 s1 o1 => ?_⟩
  refine r_var rfl ?_
  refine ⟨x, C, rfl, T, free, .inl ⟨s1 _ _ ex, fun dx hdx ne => ?_⟩⟩
  have o2 := o1.stored (o := exd dx [(f, v')]) (u := exo x C (some dx)) (by rw [ex]; exact Option.some_ne_none _) hdx
  have sd : SameD H (upd (upd H1 dx (exd dx [(f, v')])) x (exo x C (some dx))) := (SameD.of s1).trans (sameD_err (s1 _ _ ex) hdx)
  show tErrSet K g (tVar 0) (tCall (spCopy K n) [] E0 (tCons (tVar 2) tNil)) { nx := fun _ H2 => Q .non H2, rt := Q } _ _
  refine r_errSet ?_
  refine r_call ?_
  refine r_cons ?_
  refine r_var rfl ?_
  refine r_nil ?_
  refine ⟨u, e, rfl, Dp.laterD sd hu, hde, fun u' H2 s2 o3 => ?_⟩
  refine r_var rfl ?_
  have ed2 : H2 dx = some (exd dx [(f, v')]) := s2 _ _ (by rw [upd_ne ne, upd_same])
  refine ⟨x, C, rfl, T, freeg, .inr ⟨dx, [(f, v')], s2 _ _ upd_same, ed2, by show 1 ≤ 900; decide, ?_⟩⟩
  have hdx0 : H dx = none := s1.free hdx
  have kp : Keep x H H2 := (Keep.own (Keep.new (Keep.same s1) hdx)).trans (Keep.same s2)
  have ndx : ∀ {a : Addr} {z : HO}, (∃ xs, z = .lst xs ∨ z = .tup xs) → H2 a = some z → a ≠ dx := fun {a z} l h => at_ne ed2 h (exd_lt l)
  refine k dx v' u' _ (by rw [upd_ne (Ne.symm ne)]; exact s2 _ _ upd_same) upd_same hdx0 ne (fun b o nb hbo => ?_) ((o2.later s2).mono (fun _ n _ => n) fun a z n q l => by rw [upd_ne (ndx l q)]; exact q) ?_
  · rw [upd_ne (ne_of_none hbo hdx0)]
    exact kp b o nb hbo
  · refine o3.mono (fun a n _ => ?_) fun a z n q l => by rw [upd_ne (ndx l q)]; exact q
    have na : a ≠ x := fun z => by rw [z, upd_same] at n; cases n
    have nd : a ≠ dx := fun z => by rw [z, upd_ne ne, upd_same] at n; cases n
    rw [upd_ne na, upd_ne nd] at n
    exact s1.free n
/-- C(e) in the raiser's heap: a new dict with a copy -/
theorem r_err1 {σ : L2.St} {H : Hp} {Q : XK} {v : V} {d : PyData} (hv : Dp K H v d) (hd : Deep n d) (q : ∀ (dd : Addr) (v' : V) (H' : Hp), Same H H' → H dd = none → H' dd = some (.xd [(f, v')]) → Own H H' v' d → Q (.ref C) (some dd) H') :
    [v].length ≤ 1000 ∧ ∀ x, H x = none → spErr1 K n C f (.ref x :: [v]) (upd H x (exo x C none)) (fun v H2 => v = .non ∧ ∃ (d : Addr) (fs : List (Str × V)), H2 x = some (exo x C (some d)) ∧ H2 d = some (exd d fs) ∧ H d = none ∧ Q (.ref C) (some d) (upd (del H2 x) d (.xd fs))) (fun _ _ _ => False) := by
  refine ⟨by show 1 ≤ 1000; decide, fun x hx => ?_⟩
  have s0 : Same H (upd H x (exo x C none)) := Same.up (Same.refl H) hx
  refine ⟨x, v, d, rfl, upd_same, Dp.later s0 hv, hd, fun dx v' H' h1 h2 h3 ne h4 h5 => ⟨rfl, dx, _, h1, h2, ?_, ?_⟩⟩
  · rw [upd_ne ne] at h3; exact h3
  · rw [upd_ne ne] at h3
    refine q dx v' _ (fun b o e => ?_) h3 upd_same (h5.mono (fun a n _ => s0.free n) fun a z n e l => ?_)
    · have nb : b ≠ x := ne_of_none e hx
      rw [upd_ne (ne_of_none e h3), del_ne nb]
      exact h4 b o nb (s0 b o e)
    · have na : a ≠ x := fun z => by rw [z, upd_same] at n; cases n
      rw [upd_ne (at_ne h2 e (exd_lt l)), del_ne na]
      exact e
theorem r_err2 {σ : L2.St} {H : Hp} {Q : XK} {v u : V} {d e : PyData} (hv : Dp K H v d) (hd : Deep n d) (hu : Dp K H u e) (he : Deep n e)
    (q : ∀ (dd : Addr) (v' u' : V) (H' : Hp), Same H H' → H dd = none → H' dd = some (.xd [(g, u'), (f, v')]) → Own H H' v' d → Own H H' u' e → Q (.ref C) (some dd) H') :
    [v, u].length ≤ 1000 ∧ ∀ x, H x = none → spErr2 K n C f g (.ref x :: [v, u]) (upd H x (exo x C none)) (fun v H2 => v = .non ∧ ∃ (d : Addr) (fs : List (Str × V)), H2 x = some (exo x C (some d)) ∧ H2 d = some (exd d fs) ∧ H d = none ∧ Q (.ref C) (some d) (upd (del H2 x) d (.xd fs))) (fun _ _ _ => False) := by
  refine ⟨by show 2 ≤ 1000; decide, fun x hx => ?_⟩
  have s0 : Same H (upd H x (exo x C none)) := Same.up (Same.refl H) hx
  refine ⟨x, v, u, d, e, rfl, upd_same, Dp.later s0 hv, hd, Dp.later s0 hu, he, fun dx v' u' H' h1 h2 h3 ne h4 h5 h6 => ⟨rfl, dx, _, h1, h2, ?_, ?_⟩⟩
  · rw [upd_ne ne] at h3; exact h3
  · rw [upd_ne ne] at h3
    have keep : ∀ a z, upd H x (exo x C none) a = none → H' a = some z → (∃ xs, z = .lst xs ∨ z = .tup xs) → upd (del H' x) dx (.xd [(g, u'), (f, v')]) a = some z := fun a z n e l => by
      have na : a ≠ x := fun z => by rw [z, upd_same] at n; cases n
      rw [upd_ne (at_ne h2 e (exd_lt l)), del_ne na]
      exact e
    refine q dx v' u' _ (fun b o e => ?_) h3 upd_same (h5.mono (fun a n _ => s0.free n) keep) (h6.mono (fun a n _ => s0.free n) keep)
    have nb : b ≠ x := ne_of_none e hx
    rw [upd_ne (ne_of_none e h3), del_ne nb]
    exact h4 b o nb (s0 b o e)
end
end Pk
set_option Elab.async false
set_option linter.all false
set_option maxRecDepth 100000
set_option maxHeartbeats 1000000
namespace Pk
open PySem L2 PySem.Spec PyProof.Rows
/-- a def x of the text, at f, with its promise -/
structure Df1 (P : Program) (w : World) (K : PySem.W.Frag) (mg : Str → Option Value) (base : Heap) (CX : CXT) (x : Str) (k : Nat) (ps : List Str) (sp : Sp) (f : Addr) (fd : FuncData) : Prop where
  at_ : mg x = some (.ref f)
  kp : PySem.W.keepIn K (.ref f) = true
  bd : Binds K fd ps []
  ok : FnOk P w K mg base CX k f fd ps sp
/-- an error class x of the text, at C, with the promise of its __init__ -/
structure De1 (P : Program) (w : World) (K : PySem.W.Frag) (mg : Str → Option Value) (base : Heap) (x : Str) (k : Nat) (sp : Sp) (C fI : Addr) : Prop where
  at_ : mg x = some (.ref C)
  cls : ErrC K C
  ini : PySem.W.findIn K (.ref C) "__init__" = some (some (.ref fI))
  fn : PySem.W.typeIn K (.ref fI) = some (.type "function")
  ok : ErrOk P w K mg base k C fI sp
  xf : XfC K C
  xm : PySem.W.exmOne K (.ref C) (.ref C) = some true
abbrev Df (P : Program) (w : World) (K : PySem.W.Frag) (mg : Str → Option Value) (base : Heap) (CX : CXT) (x : Str) (k : Nat) (ps : List Str) (sp : Sp) : Prop := ∃ f fd, Df1 P w K mg base CX x k ps sp f fd
abbrev De (P : Program) (w : World) (K : PySem.W.Frag) (mg : Str → Option Value) (base : Heap) (x : Str) (k : Nat) (sp : Sp) (C : Addr) : Prop := ∃ fI, De1 P w K mg base x k sp C fI
section
variable {X : Cx} {CX : CXT} {x : Str} {k j : Nat} {ps : List Str} {sp : Sp} {e : Expr} {es : List Expr} {t : TA} {p pos : Pos} {W : WX} {C : Addr}
/-- a call of what raises nothing -/
theorem pe_df (D : Df X.prog X.w X.K X.mg X.base CX0 x k ps sp) (hr : Room j X.A) (l : k ≤ j) (ha : PA X (e :: es) t) (hg : Gl X x := by rfl) (hdb : (x == ("__debug__" : Str)) = false := by decide)
    (he : starEach (e :: es) X.env = (false, eval e X.env) :: starEach es X.env := by rfl) (hpl : (backTo pos (starEach es X.env)).any (·.1) = false := by rfl) : PE X (.Call (.Name x p) (e :: es) [] pos) (tCall sp [] E0 t) :=
  let ⟨_, _, D⟩ := D; pe_call D.ok (hr.mono l) hg D.at_ D.kp D.bd .nil pass0 ha hdb he hpl
/-- .. of what may raise, and does not here -/
theorem pe_dfL (D : Df X.prog X.w X.K X.mg X.base (L2.CX X.prog X.w) x k ps sp) (hr : Room j X.A) (l : k ≤ j) (ha : PA X (e :: es) t) (hg : Gl X x := by rfl) (hdb : (x == ("__debug__" : Str)) = false := by decide)
    (he : starEach (e :: es) X.env = (false, eval e X.env) :: starEach es X.env := by rfl) (hpl : (backTo pos (starEach es X.env)).any (·.1) = false := by rfl) : PE X (.Call (.Name x p) (e :: es) [] pos) (tCall sp [] E0 t) :=
  let ⟨_, _, D⟩ := D; pe_call D.ok (hr.mono l) hg D.at_ D.kp D.bd .nil passL ha hdb he hpl
/-- .. where what is raised is taken: within a try, or by a def that lets it out -/
theorem pe_dfS (tk : Takes X W) (D : Df X.prog X.w X.K X.mg X.base (L2.CX X.prog X.w) x k ps sp) (hr : Room j X.A) (l : k ≤ j) (ha : PA X (e :: es) t) (hg : Gl X x := by rfl) (hdb : (x == ("__debug__" : Str)) = false := by decide)
    (he : starEach (e :: es) X.env = (false, eval e X.env) :: starEach es X.env := by rfl) (hpl : (backTo pos (starEach es X.env)).any (·.1) = false := by rfl) : PE X (.Call (.Name x p) (e :: es) [] pos) (tCallS sp (WE W) t) :=
  let ⟨_, _, D⟩ := D; pe_callS D.ok (hr.mono l) hg D.at_ D.kp D.bd (fun σ => passAt tk σ) ha hdb he hpl
/-- raise x(e, ..) -/
theorem ps_rse {spos : Pos} (hc : X.calm = true) (tk : Takes X W) (D : De X.prog X.w X.K X.mg X.base x k sp C) (hr : Room j X.A) (l : k + 1 ≤ j) (ha : PA X (e :: es) t) (hg : Gl X x := by rfl) (hdb : (x == ("__debug__" : Str)) = false := by decide)
    (he : starEach (e :: es) X.env = (false, eval e X.env) :: starEach es X.env := by rfl) (hpl : (backTo pos (starEach es X.env)).any (·.1) = false := by rfl) :
    PS X (.Raise (some (.Call (.Name x p) (e :: es) [] pos)) none spos) (fun _ σ H => tMkErr C sp t σ H fun cls d H' => W cls d σ H') := let ⟨_, D⟩ := D; ps_raise hc tk (pmk_err D.cls D.ini D.fn D.ok (hr.mono l) hg D.at_ ha hdb he hpl)
end
section
variable {σ : L2.St} {H : Hp} {Q : VK} {ta tk : TA} {sp : Sp} {E : L2.St → XK} {D : Ends}
theorem r_callS (h : ta σ H fun vs H1 => sp vs H1 Q (E σ)) : tCallS sp E ta σ H Q := h
theorem r_callN {n m : Nat} {gV : List V → List V → List V} {E : XK} (h : ta σ H fun vs H1 => tk σ H1 fun zs H2 => vs.length = n ∧ zs.length = m ∧ sp (gV vs zs) H2 Q E) : tCallN n m sp gV E ta tk σ H Q := h
theorem r_mkErr {C : Addr} {R : XK} (h : ta σ H fun vs H1 => vs.length ≤ 1000 ∧ ∀ x, H1 x = none →
  sp (.ref x :: vs) (upd H1 x (exo x C none)) (fun v H2 => v = .non ∧ ∃ (d : Addr) (fs : List (Str × V)), H2 x = some (exo x C (some d)) ∧ H2 d = some (exd d fs) ∧ H1 d = none ∧ R (.ref C) (some d) (upd (del H2 x) d (.xd fs))) (fun _ _ _ => False)) : tMkErr C sp ta σ H R := h
theorem r_xf {a : Addr} {C dd : Addr} {f : Str} {te : TE} {fs : List (Str × V)} {v : V} (h : te σ H fun x H1 => x = .ref a ∧ Value.ref C = .ref C ∧ ∃ (d2 : Addr) (fs : List (Str × V)) (v : V), some dd = some d2 ∧ H1 d2 = some (.xd fs) ∧ fs.lookup f = some v ∧ Q v H1) : tXf a (.ref C) (some dd) C f te σ H Q := h
end
/-- f(e, .., k = v, ..) where what is raised is wished for at the caller's slots -/
def tKwS (n m : Nat) (sp : Sp) (gV : List V → List V → List V) (E : L2.St → XK) (t tk : TA) : TE := fun σ H Q => t σ H fun vs H1 => tk σ H1 fun zs H2 => vs.length = n ∧ zs.length = m ∧ sp (gV vs zs) H2 Q (E σ)
theorem r_kwS {σ : L2.St} {H : Hp} {Q : VK} {ta tk : TA} {sp : Sp} {n m : Nat} {gV : List V → List V → List V} {E : L2.St → XK} (h : ta σ H fun vs H1 => tk σ H1 fun zs H2 => vs.length = n ∧ zs.length = m ∧ sp (gV vs zs) H2 Q (E σ)) : tKwS n m sp gV E ta tk σ H Q := h
theorem pe_kwS {X : Cx} {CX : CXT} {k n : Nat} {f : Addr} {fd : FuncData} {ps ks : List Str} {sp : Sp} {E : L2.St → XK} {x : Str} {p pos : Pos} {e : Expr} {es : List Expr} {kws : List Keyword} {t tk : TA} {g : List Value → List Value → List Value} {gV : List V → List V → List V}
    (F : FnOk X.prog X.w X.K X.mg X.base CX k f fd ps sp) (hr : Room k X.A) (hm : X.mg x = some (.ref f)) (hk : PySem.W.keepIn X.K (.ref f) = true) (hb : KBn X.K fd ps n ks g gV) (hx : ∀ σ, PassesAt CX X σ (E σ)) (ha : PA X (e :: es) t) (hkw : PK X kws tk) (hg : Gl X x := by rfl)
    (hall : (backToKw pos (keywordEach kws X.env)).all (·.1.isSome) = true := by rfl) (hks : (backToKw pos (keywordEach kws X.env)).filterMap (·.1) = ks := by rfl) (hdb : (x == ("__debug__" : Str)) = false := by decide)
    (he : starEach (e :: es) X.env = (false, eval e X.env) :: starEach es X.env := by rfl) (hpl : ((backTo pos (starEach (e :: es) X.env)).any (·.1) || (backToKw pos (keywordEach kws X.env)).any (·.1.isNone)) = false := by rfl) :
    PE X (.Call (.Name x p) (e :: es) kws pos) (tKwS n ks.length sp gV E t tk) := by
  refine ⟨fun pins s σ H Q I h => wpAny_Call_Name_kw (ld_glob I hg hm (PySem.W.callWith_KW (h₀ := X.base) I.ok.mod.kin hk hall (thn (ha.run pos pins s σ H _ I h) fun us s1 ⟨vs, H1, I1, r, q⟩ => thn (hkw.run pos pins s1 σ H1 _ I1 q) fun ws s2 ⟨zs, H2, I2, rz, l1, l2, q2⟩ => ⟨I2.kIn, ?_⟩) hpl he) hdb)⟩
  rw [hks]
  refine wpAny_call (codeAny_mono (F.run X.A X.stack s2 H2 ⟨us, ks.zip ws⟩ (g us ws) (gV vs zs) Q (E σ) hr I2.env0 (hb.to s2 us ws I2.kIn (r.length.symm.trans l1) (rz.length.symm.trans l2)) (hb.rel r rz) q2) fun r s' hq => ?_)
  cases r with
  | error er => exact hx σ pins H2 s2 er s' I2 hq
  | ok fl =>
    cases fl with
    | ret u => exact I2.after hq
    | next => exact False.elim hq
    | brk => exact False.elim hq
    | cont => exact False.elim hq
/-- an own class x of the text, made by its __init__ -/
structure Dk1 (P : Program) (w : World) (K : PySem.W.Frag) (mg : Str → Option Value) (base : Heap) (CX : CXT) (x : Str) (k : Nat) (ps : List Str) (sp : Sp) (C fI : Addr) (fd : FuncData) : Prop where
  at_ : mg x = some (.ref C)
  mkc : Mk K C fI
  bd : Binds K fd ps []
  ok : FnOk P w K mg base CX k fI fd ps sp
abbrev Dk (P : Program) (w : World) (K : PySem.W.Frag) (mg : Str → Option Value) (base : Heap) (CX : CXT) (x : Str) (k : Nat) (ps : List Str) (sp : Sp) (C : Addr) : Prop := ∃ fI fd, Dk1 P w K mg base CX x k ps sp C fI fd
theorem pe_dkL {X : Cx} {x : Str} {k j : Nat} {ps : List Str} {sp : Sp} {e : Expr} {es : List Expr} {t : TA} {p pos : Pos} {C : Addr} (D : Dk X.prog X.w X.K X.mg X.base (L2.CX X.prog X.w) x k ps sp C) (hr : Room j X.A) (l : k + 1 ≤ j) (ha : PA X (e :: es) t) (hg : Gl X x := by rfl)
    (hdb : (x == ("__debug__" : Str)) = false := by decide) (he : starEach (e :: es) X.env = (false, eval e X.env) :: starEach es X.env := by rfl) (hpl : (backTo pos (starEach es X.env)).any (·.1) = false := by rfl) : PE X (.Call (.Name x p) (e :: es) [] pos) (tMake C sp [] E0 t) :=
  let ⟨_, _, D⟩ := D; pe_make D.mkc D.ok (hr.mono l) hg D.at_ D.bd .nil passL ha hdb he hpl
theorem look1 (f : Str) (v : V) : List.lookup f [(f, v)] = some v := by simp [List.lookup]
theorem look2 (f g : Str) (v u : V) (h : (f == g) = false) : List.lookup f [(g, u), (f, v)] = some v := by simp [List.lookup, h]
theorem look2' (f g : Str) (v u : V) : List.lookup g [(g, u), (f, v)] = some u := by simp [List.lookup]
/-- built-ins that the text does not name anew -/
structure Bt (mg : Str → Option Value) : Prop where
  int : mg "int" = none
  str : mg "str" = none
  bool : mg "bool" = none
  list : mg "list" = none
  tuple : mg "tuple" = none
  dict : mg "dict" = none
  len : mg "len" = none
  range : mg "range" = none
  isinstance : mg "isinstance" = none
  sum : mg "sum" = none
  max : mg "max" = none
  min : mg "min" = none
  sorted : mg "sorted" = none
  set : mg "set" = none
  super : mg "super" = none
  enumerate : mg "enumerate" = none
  zip : mg "zip" = none
  abs : mg "abs" = none
end Pk
set_option Elab.async false
set_option linter.all false
set_option maxRecDepth 100000
set_option maxHeartbeats 1000000
namespace Pk
open PySem L2 PySem.Spec PyProof.Rows PySem.W
/-- what the top holds of a def x -/
def DefAt (K : PySem.W.Frag) (x : Str) (st : Stmt) : Prop := ∃ (f : Addr) (oc : Value) (od : Option Addr) (kV dc pm : Value) (an : Option Addr) (cd ct : Value) (sl : Array (Option Value)),
  PySem.W.nsIn K mainGlobals x = some (some (.ref f)) ∧ K.lookup f = some ⟨oc, od, .func (PySem.W.fnOf x x (defArgs st) (defBody st) (defScope st) .none kV dc pm an cd ct), sl⟩ ∧ PySem.W.codeIn K cd x = true ∧ PySem.W.keepIn K (.ref f) = true
theorem DefAt.fn {K : PySem.W.Frag} {h : Heap} {mg : Str → Option Value} {x : Str} {st : Stmt} (X : K.In h) (G : h.Ns mainGlobals mg) (d : DefAt K x st) : ∃ f fd, Fun K x x st f fd ∧ mg x = some (.ref f) := by
  obtain ⟨f, oc, od, kV, dc, pm, an, cd, ct, sl, a, l, c, k⟩ := d
  exact ⟨f, _, fun_mk (st := st) l c k, PySem.W.mg_of X G a⟩
/-- .. of a method x of the class at C -/
def MethAt (K : PySem.W.Frag) (C : Addr) (x q : Str) (st : Stmt) : Prop := ∃ (f : Addr) (oc : Value) (od : Option Addr) (kV dc pm : Value) (an : Option Addr) (cd ct : Value) (sl : Array (Option Value)),
  PySem.W.findIn K (.ref C) x = some (some (.ref f)) ∧ K.lookup f = some ⟨oc, od, .func (PySem.W.fnOf x q (defArgs st) (defBody st) (defScope st) .none kV dc pm an cd ct), sl⟩ ∧ PySem.W.codeIn K cd q = true ∧ PySem.W.keepIn K (.ref f) = true ∧ PySem.W.isFn K (.ref f) = true
theorem MethAt.fn {K : PySem.W.Frag} {C : Addr} {x q : Str} {st : Stmt} (d : MethAt K C x q st) : ∃ f fd, Fun K x q st f fd ∧ Meth K C x f := by
  obtain ⟨f, oc, od, kV, dc, pm, an, cd, ct, sl, a, l, c, k, i⟩ := d
  exact ⟨f, _, fun_mk (st := st) l c k, ⟨a, i, k⟩⟩
/-- .. of a def x with one keyword-only default, a text -/
def DefAtK (K : PySem.W.Frag) (x k : Str) (z : Str) (st : Stmt) : Prop := ∃ (f D : Addr) (oc : Value) (od : Option Addr) (dc pm : Value) (an : Option Addr) (cd ct : Value) (sl : Array (Option Value)) (t : Tok),
  PySem.W.nsIn K mainGlobals x = some (some (.ref f)) ∧ K.lookup f = some ⟨oc, od, .func (PySem.W.fnOf x x (defArgs st) (defBody st) (defScope st) .none (.ref D) dc pm an cd ct), sl⟩ ∧ PySem.W.codeIn K cd x = true ∧ PySem.W.keepIn K (.ref f) = true ∧ PySem.W.nsIn K D k = some (some (.str z t))
theorem DefAtK.fn {K : PySem.W.Frag} {h : Heap} {mg : Str → Option Value} {x k z : Str} {st : Stmt} (X : K.In h) (G : h.Ns mainGlobals mg) (d : DefAtK K x k z st) : ∃ f fd, FunD K x x (defArgs st) (defBody st) (defScope st) [] [(k, .str z)] f fd ∧ mg x = some (.ref f) := by
  obtain ⟨f, D, oc, od, dc, pm, an, cd, ct, sl, t, a, l, c, kp, n⟩ := d
  refine ⟨f, _, ⟨⟨oc, od, .none, .ref D, dc, pm, an, cd, ct, sl, rfl, l, c, .inl ⟨rfl, rfl⟩, .inr ⟨D, rfl, fun q hq => ?_⟩⟩, kp⟩, PySem.W.mg_of X G a⟩
  rw [List.mem_singleton.mp hq]
  exact ⟨_, n, t, rfl⟩
/-- what the top holds of an error class x with an __init__ of its own (st) -/
structure ErrAt1 (P : Program) (K : PySem.W.Frag) (x q : Str) (st : Stmt) (C fI cc c : Addr) : Prop where
  at_ : PySem.W.nsIn K mainGlobals x = some (some (.ref C))
  cls : ∃ pe nm qn N bs sn sub ab col dd k0 k1 k2 k3 k5, K.lookup C = some (excClassObj nm qn C N bs (.ref pe :: arT) true sn sub ab col dd k0 k1 k2 k3 k5 "ArithmeticError.__new__")
  sa : PySem.W.findIn K (.ref C) "__setattr__" = some (some (.builtin "object.__setattr__"))
  exB : PySem.W.subIn K (.ref C) (.type "BaseException") = some true
  exA : PySem.W.subIn K (.ref C) (.type "ArithmeticError") = some true
  ty : PySem.W.typeIn K (.ref C) = some (.type "type")
  kp : PySem.W.keepIn K (.ref C) = true
  ini : PySem.W.findIn K (.ref C) "__init__" = some (some (.ref fI))
  fnt : PySem.W.typeIn K (.ref fI) = some (.type "function")
  fn : ∃ (oc : Value) (od : Option Addr) (kV doc pm : Value) (an : Option Addr) (ct : Value) (osl : Array (Option Value)), K.lookup fI = some ⟨oc, od, .func (PySem.W.fnX "__init__" q (defArgs st) (defBody st) (defScope st) [(("__class__" : Str), cc)] .none kV doc pm an (.ref c) ct), osl⟩
  code : PySem.W.codeIn K (.ref c) q = true
  cell : ∃ (a : Value) (b : Option Addr) (d : Array (Option Value)), K.lookup cc = some ⟨a, b, .cell (some (.ref C)), d⟩
  file : ∃ (a : Value) (b : Option Addr) (vs : Array Value) (d : Array (Option Value)) (f : Str) (t : Tok), K.lookup c = some ⟨a, b, .fields vs, d⟩ ∧ vs[2]? = some (.str f t) ∧ ((P.main.file : Str) == f) = true
  opq : PySem.W.nsIn K cStatics "thirdparty.any" = some none
  sup : PySem.W.ks_superIn K C C "__init__" = some (some (.builtin "ArithmeticError.__init__"))
  below : PySem.W.mroIn K C (.ref C) = some true
  ga : PySem.W.findIn K (.ref C) "__getattribute__" = some (some (.builtin "BaseException.__getattribute__"))
  gg : PySem.W.findIn K (.ref C) "__getattr__" = some none
  hd : PySem.W.hasDictIn K C = true
  isC : PySem.W.isClsIn K C = true
  own : PySem.W.subIn K (.ref C) (.ref C) = some true
theorem err_self {K : PySem.W.Frag} {S : Addr} (h1 : PySem.W.subIn K (.ref S) (.type "BaseException") = some true) (h2 : PySem.W.isClsIn K S = true) (h3 : PySem.W.typeIn K (.ref S) = some (.type "type")) (h4 : PySem.W.subIn K (.ref S) (.ref S) = some true) : PySem.W.exmOne K (.ref S) (.ref S) = some true := by
  have h5 : (PySem.W.clsIn K S).isSome = true := h2
  unfold PySem.W.exmOne PySem.W.kitCls
  simp only [h1, h3, h4, h5]
  rfl
section
variable {P : Program} {w : World} {K : PySem.W.Frag} {h : Heap} {mg : Str → Option Value} {base : Heap} {x q : Str} {st : Stmt} {C fI cc c : Addr}
theorem ErrAt1.errC (e : ErrAt1 P K x q st C fI cc c) : ErrC K C := ⟨e.cls, e.sa, e.exB, e.exA, e.ty, e.kp⟩
theorem ErrAt1.init (e : ErrAt1 P K x q st C fI cc c) (top : (P.main.scope.names.lookup ("super" : Str)).isSome = false) (self : ∃ q, ((defArgs st).posonlyargs ++ (defArgs st).args).head? = some { arg := "self", annotation := none, pos := q }) :
    InitFn P K C fI cc { name := "__init__", qual := q, params := defArgs st, body := defBody st, scope := defScope st, cl := [(("__class__" : Str), cc)], c := c } :=
  ⟨e.fn, e.code, rfl, e.cell, e.file, top, e.opq, self, e.sup, e.below⟩
theorem ErrAt1.de {k : Nat} {sp : Sp} (e : ErrAt1 P K x q st C fI cc c) (X : K.In h) (G : h.Ns mainGlobals mg) (o : ErrOk P w K mg base k C fI sp) : De P w K mg base x k sp C :=
  ⟨fI, PySem.W.mg_of X G e.at_, e.errC, e.ini, e.fnt, o, ⟨e.ga, e.gg, e.exB, e.hd⟩, err_self e.exB e.isC e.ty e.own⟩
end
def BtIn (K : PySem.W.Frag) : Prop := ∀ x, x ∈ (["int", "str", "bool", "list", "tuple", "dict", "len", "range", "isinstance", "sum", "max", "min", "sorted", "set", "super", "enumerate", "zip", "abs"] : List Str) → PySem.W.nsIn K mainGlobals x = some none
theorem BtIn.bt {K : PySem.W.Frag} {h : Heap} {mg : Str → Option Value} (X : K.In h) (G : h.Ns mainGlobals mg) (b : BtIn K) : Bt mg := by
  have g : ∀ x, x ∈ (["int", "str", "bool", "list", "tuple", "dict", "len", "range", "isinstance", "sum", "max", "min", "sorted", "set", "super", "enumerate", "zip", "abs"] : List Str) → mg x = none := fun x hx => PySem.W.mg_none_of X G (b x hx)
  constructor <;> exact g _ (by decide)
theorem DefAt.of {K : PySem.W.Frag} {x : Str} {st : Stmt} {f : Addr} {oc : Value} {od : Option Addr} {kV dc pm : Value} {an : Option Addr} {cd ct : Value} {sl : Array (Option Value)} (a : PySem.W.nsIn K mainGlobals x = some (some (.ref f)))
    (l : K.lookup f = some ⟨oc, od, .func (PySem.W.fnOf x x (defArgs st) (defBody st) (defScope st) .none kV dc pm an cd ct), sl⟩) (c : PySem.W.codeIn K cd x = true) (k : PySem.W.keepIn K (.ref f) = true) : DefAt K x st := ⟨_, _, _, _, _, _, _, _, _, _, a, l, c, k⟩
theorem DefAtK.of {K : PySem.W.Frag} {x y z : Str} {st : Stmt} {f D : Addr} {oc : Value} {od : Option Addr} {dc pm : Value} {an : Option Addr} {cd ct : Value} {sl : Array (Option Value)} {t : Tok} (a : PySem.W.nsIn K mainGlobals x = some (some (.ref f)))
    (l : K.lookup f = some ⟨oc, od, .func (PySem.W.fnOf x x (defArgs st) (defBody st) (defScope st) .none (.ref D) dc pm an cd ct), sl⟩) (c : PySem.W.codeIn K cd x = true) (k : PySem.W.keepIn K (.ref f) = true) (n : PySem.W.nsIn K D y = some (some (.str z t))) : DefAtK K x y z st := ⟨_, _, _, _, _, _, _, _, _, _, _, a, l, c, k, n⟩
theorem MethAt.of {K : PySem.W.Frag} {C : Addr} {x q : Str} {st : Stmt} {f : Addr} {oc : Value} {od : Option Addr} {kV dc pm : Value} {an : Option Addr} {cd ct : Value} {sl : Array (Option Value)} (a : PySem.W.findIn K (.ref C) x = some (some (.ref f)))
    (l : K.lookup f = some ⟨oc, od, .func (PySem.W.fnOf x q (defArgs st) (defBody st) (defScope st) .none kV dc pm an cd ct), sl⟩) (c : PySem.W.codeIn K cd q = true) (k : PySem.W.keepIn K (.ref f) = true) (i : PySem.W.isFn K (.ref f) = true) : MethAt K C x q st := ⟨_, _, _, _, _, _, _, _, _, _, a, l, c, k, i⟩
theorem ErrAt1.of {P : Program} {K : PySem.W.Frag} {x q : Str} {st : Stmt} {C fI cc c pe : Addr} {nm qn : Str} {N : Addr} {bs sn sub ab col dd k0 k1 k2 k3 k5} {oc1 : Value} {od1 : Option Addr} {kV dc pm : Value} {an : Option Addr} {ct : Value} {sl1 sl2 sl3 : Array (Option Value)} {v2 v3 : Value} {o2 o3 : Option Addr} {vs : Array Value} {fl : Str} {t : Tok}
    (at_ : PySem.W.nsIn K mainGlobals x = some (some (.ref C))) (cls : K.lookup C = some (excClassObj nm qn C N bs (.ref pe :: arT) true sn sub ab col dd k0 k1 k2 k3 k5 "ArithmeticError.__new__"))
    (sa : PySem.W.findIn K (.ref C) "__setattr__" = some (some (.builtin "object.__setattr__"))) (exB : PySem.W.subIn K (.ref C) (.type "BaseException") = some true) (exA : PySem.W.subIn K (.ref C) (.type "ArithmeticError") = some true) (ty : PySem.W.typeIn K (.ref C) = some (.type "type")) (kp : PySem.W.keepIn K (.ref C) = true)
    (ini : PySem.W.findIn K (.ref C) "__init__" = some (some (.ref fI))) (fnt : PySem.W.typeIn K (.ref fI) = some (.type "function")) (fn : K.lookup fI = some ⟨oc1, od1, .func (PySem.W.fnX "__init__" q (defArgs st) (defBody st) (defScope st) [(("__class__" : Str), cc)] .none kV dc pm an (.ref c) ct), sl1⟩)
    (code : PySem.W.codeIn K (.ref c) q = true) (cell : K.lookup cc = some ⟨v2, o2, .cell (some (.ref C)), sl2⟩) (file : K.lookup c = some ⟨v3, o3, .fields vs, sl3⟩) (file2 : vs[2]? = some (.str fl t)) (file3 : ((P.main.file : Str) == fl) = true) (opq : PySem.W.nsIn K cStatics "thirdparty.any" = some none)
    (sup : PySem.W.ks_superIn K C C "__init__" = some (some (.builtin "ArithmeticError.__init__"))) (below : PySem.W.mroIn K C (.ref C) = some true) (ga : PySem.W.findIn K (.ref C) "__getattribute__" = some (some (.builtin "BaseException.__getattribute__"))) (gg : PySem.W.findIn K (.ref C) "__getattr__" = some none)
    (hd : PySem.W.hasDictIn K C = true) (isC : PySem.W.isClsIn K C = true) (own : PySem.W.subIn K (.ref C) (.ref C) = some true) : ErrAt1 P K x q st C fI cc c :=
  ⟨at_, ⟨_, _, _, _, _, _, _, _, _, _, _, _, _, _, _, cls⟩, sa, exB, exA, ty, kp, ini, fnt, ⟨_, _, _, _, _, _, _, _, fn⟩, code, ⟨_, _, _, cell⟩, ⟨_, _, _, _, _, _, file, file2, file3⟩, opq, sup, below, ga, gg, hd, isC, own⟩
end Pk
set_option Elab.async false
set_option linter.all false
set_option maxRecDepth 100000
set_option maxHeartbeats 1000000
namespace Pk
open PySem L2 PySem.Spec PyProof.Rows
/-! ### operators of an own class, by its own methods -/
section
variable {X : Cx} {CX : CXT} {pins : List (Addr × Obj)} {σ : L2.St} {H : Hp} {s : Shared} {k : Nat} {f C : Addr} {fd : FuncData} {ps : List Str} {sp : Sp} {E : L2.St → XK} {Q : VK} {us : List Value} {vs : List V} {A' : Around}
/-- the run of a method in a room around -/
theorem own_run (F : FnOk X.prog X.w X.K X.mg X.base CX k f fd ps sp) (hr : Room k A') (e0 : Env0 X.prog X.w X.K X.mg X.base A' X.stack s H) (hb : Binds X.K fd ps []) (hx : PassesAt CX X σ (E σ)) (I : Inv X pins σ H s) (r : Vals vs us) (h : sp vs H Q (E σ)) :
    wpAny (model X.prog X.w) A' (call (.ref f) us) (EP X pins σ Q) X.xe s := by
  have n : us.length = ps.length := r.length ▸ F.len _ _ _ _ h
  have b := hb s us I.kIn (by simpa using n)
  rw [List.append_nil] at b
  refine wpAny_call (codeAny_mono (F.run A' X.stack s H ⟨us, []⟩ us vs Q (E σ) hr e0 b r h) ?_)
  intro z s' hz
  rcases z with e | fl
  · exact hx pins H s e s' I hz
  · cases fl with
    | ret u => exact I.after hz
    | next => exact hz.elim
    | brk => exact hz.elim
    | cont => exact hz.elim
/-- the instance that stands at a -/
theorem own_at {a dx : Addr} {fs : List (Str × V)} (I : Inv X pins σ H s) (ha : H a = some (.ins C dx fs)) : ∃ ox od, PySem.W.InstAt s.heap a ox C (some od) := by
  obtain ⟨mA, J, _⟩ := ins_get I.hok ha
  obtain ⟨od, J, _⟩ := J.look
  exact ⟨_, od, J⟩
/-- e1 ⊕ e2, at the slots -/
def tOp2 (r : (L2.St → XK) → L2.St → V → V → Hp → VK → Prop) (E : L2.St → XK) (ta tb : TE) : TE := fun σ H Q => ta σ H fun x H1 => tb σ H1 fun y H2 => r E σ x y H2 Q
/-- the method's promise, of the instance x of C and y -/
def rOwn2 (C : Addr) (sp : Sp) : (L2.St → XK) → L2.St → V → V → Hp → VK → Prop := fun E σ x y H Q => ∃ a dx fs, x = .ref a ∧ H a = some (.ins C dx fs) ∧ sp [x, y] H Q (E σ)
/-- .. and the two are of the one class, or y is of a class that C is no base of -/
def OtherT (K : PySem.W.Frag) (C : Addr) (H : Hp) (y : V) : Prop := (∃ b dy gs, y = .ref b ∧ H b = some (.ins C dy gs)) ∨ (∃ T : String, TyX K H y (.type T) ∧ PySem.W.subIn K (.type T) (.ref C) = some false)
theorem ty_looks {y : V} {u t : Value} {M : Model} (I : Inv X pins σ H s) (ry : RelV y u) (ty : TyX X.K H y t) : PySem.W.Looks M s.heap (typeOf u) t := by
  obtain ⟨P, kx, hp, _⟩ := kit_of I ry ty
  exact kx.ty M s.heap I.kIn hp
theorem other_looks {y : V} {u : Value} {M : Model} (I : Inv X pins σ H s) (ry : RelV y u) (o : OtherT X.K C H y) (one : ∀ b dy gs, y = .ref b → H b = some (.ins C dy gs) → True) : ∃ tb, PySem.W.Looks M s.heap (typeOf u) tb ∧ PySem.W.notFirst X.K C tb = true := by
  rcases o with ⟨b, dy, gs, rfl, hb⟩ | ⟨T, ty, hs⟩
  · cases ry
    obtain ⟨ox, od, J⟩ := own_at I hb
    exact ⟨.ref C, J.type, by simp [PySem.W.notFirst]⟩
  · exact ⟨.type T, ty_looks I ry ty, by simp [PySem.W.notFirst, hs]⟩
/-- what an own method of two places must be -/
structure Two (X : Cx) (CX : CXT) (k : Nat) (C : Addr) (m : Str) (sp : Sp) : Prop where
  ex : ∃ (f : Addr) (fd : FuncData) (ps : List Str), Meth X.K C m f ∧ FnOk X.prog X.w X.K X.mg X.base CX k f fd ps sp ∧ Binds X.K fd ps []
/-- x == y, x < y, .. by the own method -/
def rOwnC (K : PySem.W.Frag) (C : Addr) (sp : Sp) : (L2.St → XK) → L2.St → V → V → Hp → VK → Prop := fun E σ x y H Q => ∃ a dx fs, x = .ref a ∧ H a = some (.ins C dx fs) ∧ OtherT K C H y ∧ sp [x, y] H Q (E σ)
theorem pe_cmpOwn {op : CmpOp} {a b : Expr} {ta tb : TE} {pos : Pos} (hop : ∀ a b, compareOp op a b = richCompare op a b) (F : Two X CX k C (cmpInfo op).2.1 sp) (hr : Room k X.A) (hx : ∀ σ, PassesAt CX X σ (E σ)) (ha : PE X a ta) (hb : PE X b tb) (hm : behindInMarks op b = false) :
    PE X (.Compare a [op] [b] pos) (tOp2 (rOwnC X.K C sp) E ta tb) := by
  obtain ⟨f, fd, ps, M, F, B⟩ := F.ex
  refine ⟨fun pins s σ H Q I h => ?_⟩
  refine wpAny_Compare1 (binT ha hb I h fun v u s2 x y H2 I2 rx ry q => ?_) hm
  obtain ⟨a, dx, fs, rfl, e, o, q⟩ := q
  cases rx
  obtain ⟨ox, od, J⟩ := own_at I2 e
  obtain ⟨tb, L, nf⟩ := other_looks (M := model X.prog X.w) I2 ry o fun _ _ _ _ _ => trivial
  obtain ⟨m, hF⟩ := I2.fr
  rw [hop]
  refine PySem.W.cmp_K (op := op) hr.units0 hF I2.ok.mod.kin J L nf M.at_ M.fn ?_
  refine wpAny_mono (own_run (us := [.ref a, u]) (vs := [.ref a, y]) F hr I2.env0 B (hx σ) I2 (.cons rfl (.cons ry .nil)) q) (fun w s' z => ?_) fun _ _ z => z
  obtain ⟨z, H3, I3, rz, qz⟩ := z
  exact SlX.cmpback rz ⟨z, H3, I3, rz, qz⟩
/-- y in x by the own __contains__ -/
def rOwnIn (C : Addr) (sp : Sp) (neg : Bool) : (L2.St → XK) → L2.St → V → V → Hp → VK → Prop := fun E σ y x H Q => ∃ a dx fs, x = .ref a ∧ H a = some (.ins C dx fs) ∧ sp [x, y] H (fun z H' => ∃ c, z = .bl c ∧ Q (.bl (if neg then !c else c)) H') (E σ)
theorem pe_inOwn {a b : Expr} {ta tb : TE} {pos : Pos} (F : Two X CX k C "__contains__" sp) (hr : Room k X.A) (hx : ∀ σ, PassesAt CX X σ (E σ)) (ha : PE X a ta) (hb : PE X b tb) (hm : behindInMarks .In b = false) :
    PE X (.Compare a [.In] [b] pos) (tOp2 (rOwnIn C sp false) E ta tb) := by
  obtain ⟨f, fd, ps, M, F, B⟩ := F.ex
  refine ⟨fun pins s σ H Q I h => ?_⟩
  refine wpAny_Compare1 (binT ha hb I h fun v u s2 y x H2 I2 ry rx q => ?_) hm
  obtain ⟨a, dx, fs, rfl, e, q⟩ := q
  cases rx
  obtain ⟨ox, od, J⟩ := own_at I2 e
  obtain ⟨m, hF⟩ := I2.fr
  refine PySem.W.in_K hF I2.ok.mod.kin J M.at_ M.fn ?_
  refine wpAny_mono (own_run (us := [.ref a, v]) (vs := [.ref a, y]) F hr I2.env0 B (hx σ) I2 (.cons rfl (.cons ry .nil)) q) (fun w s' z => ?_) fun _ _ z => z
  obtain ⟨z, H3, I3, rz, c, rfl, qz⟩ := z
  cases (show w = Value.bool c from rz)
  exact wpAny_pure ⟨.bl c, H3, I3, rfl, qz⟩
/-- len(x) by the own __len__ -/
def rOwnLen (C : Addr) (sp : Sp) : (L2.St → XK) → L2.St → List V → Hp → VK → Prop := fun E σ xs H Q => ∃ a dx fs, xs = [.ref a] ∧ H a = some (.ins C dx fs) ∧ sp xs H (fun z H' => ∃ n : Nat, z = .int n ∧ n < 2 ^ 63 ∧ Q (.int n) H') (E σ)
theorem call_lenOwn {D : XK} (F : Two X CX k C "__len__" sp) (hr : Room (k + 1) X.A) (hx : Passes CX X D) : CallR X (.builtin "len") (rOwnLen C sp (fun _ => D) []) := by
  obtain ⟨f, fd, ps, M, F, B⟩ := F.ex
  intro pins s σ H xs us Q I r q
  obtain ⟨a, dx, fs, rfl, e, q⟩ := q
  cases r with
  | cons r1 r2 =>
    cases r2
    cases r1
    obtain ⟨ox, od, J⟩ := own_at I e
    obtain ⟨m, hF⟩ := I.fr
    refine PySem.W.len_K hF I.ok.mod.kin J M.at_ M.fn ?_
    refine wpAny_mono (own_run (us := [.ref a]) (vs := [.ref a]) (E := fun _ => D) F hr.in1 I.env0.in1 B (fun pins H s e s' I z => hx pins σ H s e s' I z) I (.cons rfl .nil) q) (fun w s' z => ?_) fun _ _ z => z
    obtain ⟨z, H3, I3, rz, n, rfl, hn, qz⟩ := z
    obtain ⟨t, rfl⟩ := (show ∃ t, w = Value.int n t from rz)
    refine ⟨⟨by omega, by omega⟩, ?_⟩
    exact ⟨.int n, H3, I3.tok _, ⟨_, rfl⟩, qz⟩
/-- x[y] by the own __getitem__ -/
theorem pe_ixOwn {a b : Expr} {ta tb : TE} {pos : Pos} (F : Two X CX k C "__getitem__" sp) (fi : ∀ f, PySem.W.findIn X.K (.ref C) "__getitem__" = some (some (.ref f)) → PySem.W.fnIn X.K f = true) (hr : Room (k + 1) X.A) (hx : ∀ σ, PassesAt CX X σ (E σ)) (ha : PE X a ta) (hb : PE X b tb)
    (hs : ∀ x i, subscripted b true (.ref x) i = runValue (.builtin "lifetime.subscript" ⟨[.ref x, i], []⟩)) :
    PE X (.Subscript a b pos) (tOp2 (rOwn2 C sp) E ta tb) := by
  obtain ⟨f, fd, ps, M, F, B⟩ := F.ex
  refine ⟨fun pins s σ H Q I h => ?_⟩
  refine Subscript_ (binT ha hb I h fun v u s2 x y H2 I2 rx ry q => ?_)
  obtain ⟨c, dx, fs, rfl, e, q⟩ := q
  cases rx
  obtain ⟨ox, od, J⟩ := own_at I2 e
  obtain ⟨m, hF⟩ := I2.fr
  refine PySem.W.sub_K hF I2.ok.mod.kin J M.at_ (fi f M.at_) M.fn ?_ (hs _ _)
  exact own_run (us := [.ref c, u]) (vs := [.ref c, y]) F hr.in1 I2.env0.in1 B (hx σ) I2 (.cons rfl (.cons ry .nil)) q
end
section
open PySem.W PySem.Calls
variable {prog : Program} {w : World} {A : Around} {E : Value → Shared → Prop} {s : Shared} {K : Frag} {x f C : Addr} {ox : Obj} {od : Option Obj}
/-- x ⊕ b by the own method: b is of the one class, or of a built-in one -/
theorem bin_by_own {op : Operator} {b tb : Value} {Q : Value → Shared → Prop} (X : K.In s.heap) (I : InstAt s.heap x ox C od) (hb : Looks (model prog w) s.heap (typeOf b) tb) (hc : selfFirst K C = true)
    (hs : findIn K (.ref C) (PySem.dunder op.info.2) = some (some (.ref f))) (hf : isFn K (.ref f) = true) (hr : ∃ rc, findIn K (.ref C) (dunderR op.info.2) = some rc ∧ (rc = none ∨ ∃ g : Addr, rc = some (.ref g)))
    (ht : tb = .ref C ∨ ∃ (T : String) (fo ro : Option Value), tb = .type T ∧ findIn K (.type T) (PySem.dunder op.info.2) = some fo ∧ findIn K (.type T) (dunderR op.info.2) = some ro ∧ subIn K (.type T) (.ref C) = some false)
    (h : wpAny (model prog w) A (call (.ref f) [.ref x, b]) (PySem.W.CmpBack Q) E s) : wpAny (model prog w) A (binaryOp op (.ref x) b) Q E s := by
  obtain ⟨cd, rest, hcd, hm⟩ := ksp_first hc
  obtain ⟨rc, hr, hp⟩ := hr
  rcases hi : op.info with ⟨sym, nm'⟩
  rw [hi] at hs hr ht
  dsimp only at hs hr ht
  have one := ksp_try X I hs hf h
  obtain ⟨hh, g, d, tt, os⟩ := s
  have a1 : Looks (model prog w) hh (typeOf (.ref x)) (.ref C) := I.type
  have a2 : Looks (model prog w) hh (typeOf b) tb := hb
  have a3 : Looks (model prog w) hh (fillsNumberSlot (.ref C) nm') true := fills_K X hcd hm hs
  have a6 : Looks (model prog w) hh (numberSlotInPython (.ref C) nm') true := ksp_inPy X hs hr hp
  simp only [binaryOp, hi]
  refine wpAny_holding (wpAny_bind ?_)
  unfold binaryOp1
  refine wpAny_bind (a1.at (wpAny_bind (a2.at (wpAny_bind (a3.at ?_)))))
  rcases ht with rfl | ⟨T, fo, ro, rfl, h1, h2, hsub⟩
  · simp only [beq_self_eq_true, if_true]
    ksp_lk
    refine wpAny_mono one (fun r s' hr' => ?_) fun _ _ e => e
    obtain ⟨v, rfl, hq⟩ := hr'
    ksp_lk
    exact hq
  · have a4 := ksp_fillsT (M := model prog w) X h1 h2
    have a5 : Looks (model prog w) hh (isSubtype (.type T) (.ref C)) false := looks_subIn X hsub
    have a7 : Looks (model prog w) hh (numberSlotInPython (.type T) nm') false := Looks.of_pure rfl
    have a8 : Looks (model prog w) hh (typeLookup (.type T) (dunderR nm')) ro := looks_findIn X h2
    generalize ((fo.isSome && !isSeqSlot fo) || (ro.isSome && !isSeqSlot ro)) = right at a4
    have ne : (Value.ref C == Value.type T) = false := Bool.eq_false_iff.mpr fun q => by cases beq_iff_eq.mp q
    simp only [ne, Bool.false_eq_true, if_false]
    cases right with
    | false =>
      ksp_lk
      refine wpAny_mono one (fun r s' hr' => ?_) fun _ _ e => e
      obtain ⟨v, rfl, hq⟩ := hr'
      ksp_lk
      exact hq
    | true =>
      ksp_lk
      refine wpAny_mono one (fun r s' hr' => ?_) fun _ _ e => e
      obtain ⟨v, rfl, hq⟩ := hr'
      ksp_lk
      exact hq
end
section
variable {X : Cx} {CX : CXT} {k : Nat} {C : Addr} {sp : Sp} {E : L2.St → XK}
/-- what the other one may be in x ⊕ y -/
def OtherB (K : PySem.W.Frag) (C : Addr) (H : Hp) (nm : String) (y : V) : Prop := (∃ b dy gs, y = .ref b ∧ H b = some (.ins C dy gs)) ∨
  (∃ (T : String) (fo ro : Option Value), TyX K H y (.type T) ∧ PySem.W.findIn K (.type T) (PySem.dunder nm) = some fo ∧ PySem.W.findIn K (.type T) (dunderR nm) = some ro ∧ PySem.W.subIn K (.type T) (.ref C) = some false)
def rOwnB (K : PySem.W.Frag) (C : Addr) (nm : String) (sp : Sp) : (L2.St → XK) → L2.St → V → V → Hp → VK → Prop := fun E σ x y H Q => ∃ a dx fs, x = .ref a ∧ H a = some (.ins C dx fs) ∧ OtherB K C H nm y ∧ sp [x, y] H Q (E σ)
/-- x ⊕ y by the own method -/
theorem pe_binOwn {op : Operator} {a b : Expr} {ta tb : TE} {pos : Pos} (F : Two X CX k C (PySem.dunder op.info.2) sp) (hc : PySem.W.selfFirst X.K C = true) (hrc : ∃ rc, PySem.W.findIn X.K (.ref C) (dunderR op.info.2) = some rc ∧ (rc = none ∨ ∃ g : Addr, rc = some (.ref g)))
    (hr : Room k X.A) (hx : ∀ σ, PassesAt CX X σ (E σ)) (ha : PE X a ta) (hb : PE X b tb) : PE X (.BinOp a op b pos) (tOp2 (rOwnB X.K C op.info.2 sp) E ta tb) := by
  obtain ⟨f, fd, ps, M, F, B⟩ := F.ex
  refine ⟨fun pins s σ H Q I h => ?_⟩
  refine wpAny_BinOp (binT ha hb I h fun v u s2 x y H2 I2 rx ry q => ?_)
  obtain ⟨a, dx, fs, rfl, e, o, q⟩ := q
  cases rx
  obtain ⟨ox, od, J⟩ := own_at I2 e
  have run := wpAny_mono (own_run (us := [.ref a, u]) (vs := [.ref a, y]) F hr I2.env0 B (hx σ) I2 (.cons rfl (.cons ry .nil)) q) (Q' := PySem.W.CmpBack (EP X pins σ Q)) (fun w s' z => by
    obtain ⟨z, H3, I3, rz, qz⟩ := z
    exact SlX.cmpback rz ⟨z, H3, I3, rz, qz⟩) fun _ _ z => z
  rcases o with ⟨b, dy, gs, rfl, eb⟩ | ⟨T, fo, ro, ty, h1, h2, h3⟩
  · cases ry
    obtain ⟨oy, oe, J'⟩ := own_at I2 eb
    exact bin_by_own I2.kIn J J'.type hc M.at_ M.fn hrc (.inl rfl) run
  · exact bin_by_own I2.kIn J (ty_looks I2 ry ty) hc M.at_ M.fn hrc (.inr ⟨T, fo, ro, rfl, h1, h2, h3⟩) run
/-- what raises nothing here -/
theorem passN (hx : Passes CX X E0) : ∀ σ, PassesAt CX X σ ((fun _ => E0 : L2.St → XK) σ) := fun σ pins H s e s' I c => hx pins σ H s e s' I c
end
section
open PySem.W PySem.Calls
variable {prog : Program} {w : World} {A : Around} {E : Value → Shared → Prop} {s : Shared} {K : Frag} {x f C : Addr} {ox : Obj} {od : Option Obj} {b tb : Value}
/-- what object's != does where an own == stands -/
theorem ne_body (hu : A.units < cLine) (X : K.In s.heap) (I : InstAt s.heap x ox C od) (he : findIn K (.ref C) "__eq__" = some (some (.ref f))) (hf : isFn K (.ref f) = true) {Q : Fin → Shared → Prop}
    (h : wpAny (model prog w) A (call (.ref f) [.ref x, b]) (fun v s' => ∃ c, v = .bool c ∧ Q (.done (.ret (.bool (!c)))) s') E s) : wpAny (model prog w) A (Builtin.«object.__ne__» ⟨[.ref x, b], []⟩) Q E s := by
  unfold Builtin.«object.__ne__»
  repeat (first
    | with_reducible refine wpAny_cRoomFor hu ?_
    | (refine wpAny_bind (m := callSpecialIfBound? (.ref x) (Str.ofString "__eq__") [b]) (ifBound_K X I he hf (wpAny_mono h (fun r s' hr => by
          obtain ⟨c, rfl, hq⟩ := hr
          repeat (first | exact hq | exact wpAny_pure hq | exact wpAny_truthy_bool hq | (refine wpAny_bind (m := truthy (.bool _)) (wpAny_truthy_bool ?_)) | wp_step)) fun _ _ e => e)))
    | wp_step)
/-- x != b by the own == -/
theorem ne_by_eq (hu : A.in1.units < cLine) (hu0 : A.units < cLine) (X : K.In s.heap) (I : InstAt s.heap x ox C od) (hb : Looks (model prog w) s.heap (typeOf b) tb) (hn : notFirst K C tb = true) (hm : mroIn K C (.type "object") = some true)
    (hs : findIn K (.ref C) "__ne__" = some (some (.builtin "object.__ne__"))) (he : findIn K (.ref C) "__eq__" = some (some (.ref f))) (hf : isFn K (.ref f) = true) {Q : Value → Shared → Prop}
    (h : wpAny (model prog w) A.in1 (call (.ref f) [.ref x, b]) (fun v s' => ∃ c, v = .bool c ∧ Q (.bool (!c)) s') E s) : wpAny (model prog w) A (richCompare .NotEq (.ref x) b) Q E s := by
  have inner : ∀ {R : Value → Shared → Prop}, (∀ c s', Q (.bool c) s' → R (.bool c) s') → wpAny (model prog w) A (call (.builtin "object.__ne__") [.ref x, b]) R E s := fun {R} hR =>
    wpAny_call (codeAny_call_builtin F.cmp_object.ne.plain F.cmpEntry_ne (check_slot F.cmpKind_ne F.cmpSplit_ne (I.type.andThen (looks_mroIn X hm)) (F.cmpArgs_ne _ _)
      (ne_body hu X I he hf (wpAny_mono h (fun v s' z => by
        obtain ⟨c, e, q⟩ := z
        exact ⟨c, e, hR _ _ q⟩) fun _ _ e => e))))
  have one : wpAny (model prog w) A (tryCompare (.ref x) "__ne__" b) (fun r s' => ∃ v, r = some v ∧ Q v s') E s := by
    unfold tryCompare
    simp only [callSpecialIfBound?, bindSpecialIfBound?]
    refine wpAny_bind (wpAny_holding (wpAny_bind (wpAny_bind (wpAny_bind (I.type.here ((looks_findIn X hs).here ?_))))))
    refine wpAny_bind (wpAny_askSetting (wpAny_ite ?_))
    have fin := inner (R := fun v s' => wpAny (model prog w) A (pure (some v)) (fun r s'' => wpAny (model prog w) A (match r with | some .notImplemented | none => pure none | some v => pure (some v)) (fun r s' => ∃ v, r = some v ∧ Q v s') E s'') E s') (fun c s' q => wpAny_pure (wpAny_pure ⟨_, rfl, q⟩))
    split
    · exact wpAny_bind (wpAny_of_eq (F.cmp_object.ne.bind _) (wpAny_pure (by exact wpAny_bind fin)))
    · exact wpAny_tryCatch (wpAny_bind (wpAny_of_eq (F.cmp_object.ne.bind _) (wpAny_pure (by exact wpAny_bind fin))))
  unfold richCompare
  simp only [oneThing_ref]
  refine wpAny_holding (wpAny_bind (wpAny_cRoomFor hu0 ?_))
  refine wpAny_bind (I.type.here (wpAny_bind (hb.here ?_)))
  split
  · rename_i q
    have e : subIn K tb (.ref C) = some false := by
      rcases Bool.or_eq_true_iff.mp hn with e | e
      · rw [beq_iff_eq.mp e] at q; simp at q
      · exact beq_iff_eq.mp e
    refine wpAny_bind ((looks_subIn X e).here ?_)
    simp only [Bool.false_eq_true, if_false]
    refine wpAny_bind (wpAny_mono one (fun r s' z => ?_) fun _ _ e => e)
    obtain ⟨v, rfl, hq⟩ := z
    exact wpAny_pure hq
  · refine wpAny_bind (wpAny_pure ?_)
    simp only [Bool.false_eq_true, if_false]
    refine wpAny_bind (wpAny_mono one (fun r s' z => ?_) fun _ _ e => e)
    obtain ⟨v, rfl, hq⟩ := z
    exact wpAny_pure hq
end
section
variable {X : Cx} {CX : CXT} {k : Nat} {C : Addr} {sp : Sp} {E : L2.St → XK}
/-- x != y, where the class has an == of its own and no != -/
def rOwnNe (K : PySem.W.Frag) (C : Addr) (sp : Sp) : (L2.St → XK) → L2.St → V → V → Hp → VK → Prop := fun E σ x y H Q => ∃ a dx fs, x = .ref a ∧ H a = some (.ins C dx fs) ∧ OtherT K C H y ∧ sp [x, y] H (fun z H' => ∃ c, z = .bl c ∧ Q (.bl (!c)) H') (E σ)
theorem pe_neOwn {a b : Expr} {ta tb : TE} {pos : Pos} (F : Two X CX k C "__eq__" sp) (hs : PySem.W.findIn X.K (.ref C) "__ne__" = some (some (.builtin "object.__ne__"))) (ho : PySem.W.mroIn X.K C (.type "object") = some true) (hr : Room (k + 1) X.A) (hx : ∀ σ, PassesAt CX X σ (E σ)) (ha : PE X a ta) (hb : PE X b tb) (hm : behindInMarks .NotEq b = false) :
    PE X (.Compare a [.NotEq] [b] pos) (tOp2 (rOwnNe X.K C sp) E ta tb) := by
  obtain ⟨f, fd, ps, M, F, B⟩ := F.ex
  refine ⟨fun pins s σ H Q I h => ?_⟩
  refine wpAny_Compare1 (binT ha hb I h fun v u s2 x y H2 I2 rx ry q => ?_) hm
  obtain ⟨a, dx, fs, rfl, e, o, q⟩ := q
  cases rx
  obtain ⟨ox, od, J⟩ := own_at I2 e
  obtain ⟨tb, L, nf⟩ := other_looks (M := model X.prog X.w) I2 ry o fun _ _ _ _ _ => trivial
  show wpAny _ _ (richCompare .NotEq _ _) _ _ _
  refine ne_by_eq hr.in1.units0 hr.units0 I2.kIn J L nf ho hs M.at_ M.fn ?_
  refine wpAny_mono (own_run (us := [.ref a, u]) (vs := [.ref a, y]) F hr.in1 I2.env0.in1 B (hx σ) I2 (.cons rfl (.cons ry .nil)) q) (fun w s' z => ?_) fun _ _ z => z
  obtain ⟨z, H3, I3, rz, c, rfl, qz⟩ := z
  cases (show w = Value.bool c from rz)
  exact ⟨c, rfl, .bl (!c), H3, I3, rfl, qz⟩
end
/-! readings, step by step -/
section
variable {K : PySem.W.Frag} {C a dx : Addr} {fs : List (Str × V)} {sp : Sp} {E : L2.St → XK} {σ : L2.St} {y : V} {H : Hp} {Q : VK} {nm : String}
theorem r_op2 {r : (L2.St → XK) → L2.St → V → V → Hp → VK → Prop} {ta tb : TE} (h : ta σ H fun x H1 => tb σ H1 fun y H2 => r E σ x y H2 Q) : tOp2 r E ta tb σ H Q := h
theorem r_own2 (e : H a = some (.ins C dx fs)) (h : sp [.ref a, y] H Q (E σ)) : rOwn2 C sp E σ (.ref a) y H Q := ⟨a, dx, fs, rfl, e, h⟩
theorem r_ownC (e : H a = some (.ins C dx fs)) (o : OtherT K C H y) (h : sp [.ref a, y] H Q (E σ)) : rOwnC K C sp E σ (.ref a) y H Q := ⟨a, dx, fs, rfl, e, o, h⟩
theorem r_ownB (e : H a = some (.ins C dx fs)) (o : OtherB K C H nm y) (h : sp [.ref a, y] H Q (E σ)) : rOwnB K C nm sp E σ (.ref a) y H Q := ⟨a, dx, fs, rfl, e, o, h⟩
theorem r_ownNe (e : H a = some (.ins C dx fs)) (o : OtherT K C H y) (h : sp [.ref a, y] H (fun z H' => ∃ c, z = .bl c ∧ Q (.bl (!c)) H') (E σ)) : rOwnNe K C sp E σ (.ref a) y H Q := ⟨a, dx, fs, rfl, e, o, h⟩
theorem r_ownIn (e : H a = some (.ins C dx fs)) (h : sp [.ref a, y] H (fun z H' => ∃ c, z = .bl c ∧ Q (.bl c) H') (E σ)) : rOwnIn C sp false E σ y (.ref a) H Q := ⟨a, dx, fs, rfl, e, h⟩
theorem r_ownLen (e : H a = some (.ins C dx fs)) (h : sp [.ref a] H (fun z H' => ∃ n : Nat, z = .int n ∧ n < 2 ^ 63 ∧ Q (.int n) H') (E σ)) : rOwnLen C sp E σ [.ref a] H Q := ⟨a, dx, fs, rfl, e, h⟩
end
end Pk
set_option Elab.async false
set_option linter.all false
set_option maxRecDepth 100000
set_option maxHeartbeats 200000
namespace Pk
open PySem L2 PySem.Spec PyProof.Rows
section
open PySem.W PySem.Calls
variable {prog : Program} {w : World} {A : Around} {E : Value → Shared → Prop} {s : Shared} {K : Frag} {x f C : Addr} {ox : Obj} {od : Option Obj} {i : Int} {t : Tok}
/-- int's product with an instance: declined -/
theorem mul_no {c : Value} {dd : Option Addr} {sl : Array (Option Value)} {Q : Value → Shared → Prop} (hx : s.heap.get? x = some ⟨c, dd, .plain, sl⟩) (h : Q .notImplemented s) : wpAny (model prog w) A (call (.builtin "int.__mul__") [.int i t, .ref x]) Q E s := by
  refine wpAny_call (codeAny_call_builtin F.slot_int_mul.plain F.entry_int_mul (F.slot_int_mul.check _ _ _ _ _ _ _ _ (typeIs_int s i t) (F.args_int_mul_2 _ _) ?_))
  obtain ⟨hp, g, d, tk, os⟩ := s
  unfold Builtin.«int.__mul__» Builtin.Int.intBinary
  repeat (first
    | exact h
    | with_reducible refine wpAny_load hx ?_
    | wp_step)
theorem try_mul_int {nm : Str} {c : Value} {dd : Option Addr} {sl : Array (Option Value)} {Q : Option Value → Shared → Prop} (L : Slot "int" nm "int.__mul__") (hx : s.heap.get? x = some ⟨c, dd, .plain, sl⟩) (h : Q none s) : wpAny (model prog w) A (tryMethod (.int i t) nm (.ref x)) Q E s :=
  wpAny_tryMethod_declines (typeIs_int s i t) L (mul_no hx ⟨rfl, h⟩)
/-- a ⊕ x by x's own reflected method, a of a built-in class that has none of its own, or declines -/
theorem bin_back {op : Operator} {a : Value} {T : String} {lb : Bool} {g0 : Addr} {Q : Value → Shared → Prop} (X : K.In s.heap) (I : InstAt s.heap x ox C od) (hta : typeOf a = pure (.type T)) (hl : fillsNumberSlot (.type T) op.info.2 = pure lb) (hc : selfFirst K C = true)
    (hs : findIn K (.ref C) (PySem.dunder op.info.2) = some (some (.ref g0))) (hr : findIn K (.ref C) (dunderR op.info.2) = some (some (.ref f))) (hf : isFn K (.ref f) = true) (hsub : subIn K (.ref C) (.type T) = some false)
    (no : lb = true → ∀ {R : Option Value → Shared → Prop}, R none s → wpAny (model prog w) A (tryMethod a (PySem.dunder op.info.2) (.ref x)) R E s)
    (h : wpAny (model prog w) A (call (.ref f) [.ref x, a]) (PySem.W.CmpBack Q) E s) : wpAny (model prog w) A (binaryOp op a (.ref x)) Q E s := by
  obtain ⟨cd, rest, hcd, hm⟩ := ksp_first hc
  rcases hi : op.info with ⟨sym, nm'⟩
  rw [hi] at hs hr hl no
  dsimp only at hs hr hl no
  have one := ksp_try X I hr hf h
  obtain ⟨hh, g, d, tt, os⟩ := s
  have a1 : Looks (model prog w) hh (typeOf (.ref x)) (.ref C) := I.type
  have a2 : Looks (model prog w) hh (typeOf a) (.type T) := Looks.of_pure hta
  have a3 : Looks (model prog w) hh (fillsNumberSlot (.ref C) nm') true := fills_K X hcd hm hs
  have a4 : Looks (model prog w) hh (fillsNumberSlot (.type T) nm') lb := Looks.of_pure hl
  have a5 : Looks (model prog w) hh (isSubtype (.ref C) (.type T)) false := looks_subIn X hsub
  have a7 : Looks (model prog w) hh (numberSlotInPython (.type T) nm') false := Looks.of_pure rfl
  have ne : (Value.type T == Value.ref C) = false := Bool.eq_false_iff.mpr fun q => by cases beq_iff_eq.mp q
  simp only [binaryOp, hi]
  refine wpAny_holding (wpAny_bind ?_)
  unfold binaryOp1
  refine wpAny_bind (a2.at (wpAny_bind (a1.at (wpAny_bind (a4.at ?_)))))
  simp only [ne, Bool.false_eq_true, if_false]
  cases lb with
  | false =>
    ksp_lk
    refine wpAny_mono one (fun r s' hr' => ?_) fun _ _ e => e
    obtain ⟨v, rfl, hq⟩ := hr'
    ksp_lk
    exact hq
  | true =>
    ksp_lk
    refine no rfl ?_
    ksp_lk
    refine wpAny_mono one (fun r s' hr' => ?_) fun _ _ e => e
    obtain ⟨v, rfl, hq⟩ := hr'
    ksp_lk
    exact hq
end
theorem slot_mul_lit : Slot "int" ("__mul__" : Str) "int.__mul__" := by
  have e : PySem.dunder "mul" = ("__mul__" : Str) := by decide +kernel
  rw [← e]
  exact PySem.F.slot_int_mul
section
variable {X : Cx} {CX : CXT} {k : Nat} {C g0 : Addr} {sp : Sp} {E : L2.St → XK}
/-- i * x by the own __rmul__, i an int -/
def rMulBack (C : Addr) (sp : Sp) : (L2.St → XK) → L2.St → V → V → Hp → VK → Prop := fun E σ y x H Q => ∃ a dx fs i, x = .ref a ∧ y = .int i ∧ H a = some (.ins C dx fs) ∧ sp [x, y] H Q (E σ)
theorem pe_mulBack {op : Operator} {a b : Expr} {ta tb : TE} {pos : Pos} (hop : op = .Mult) (F : Two X CX k C "__rmul__" sp) (hc : PySem.W.selfFirst X.K C = true) (hs : PySem.W.findIn X.K (.ref C) "__mul__" = some (some (.ref g0))) (hsub : PySem.W.subIn X.K (.ref C) (.type "int") = some false)
    (hr : Room k X.A) (hx : ∀ σ, PassesAt CX X σ (E σ)) (ha : PE X a ta) (hb : PE X b tb) : PE X (.BinOp a op b pos) (tOp2 (rMulBack C sp) E ta tb) := by
  obtain ⟨f, fd, ps, M, F, B⟩ := F.ex
  refine ⟨fun pins s σ H Q I h => ?_⟩
  refine wpAny_BinOp (binT ha hb I h fun v u s2 y x H2 I2 ry rx q => ?_)
  obtain ⟨a, dx, fs, i, rfl, rfl, e, q⟩ := q
  cases rx
  obtain ⟨t, rfl⟩ := (show ∃ t, v = Value.int i t from ry)
  obtain ⟨mA, J0, _⟩ := ins_get I2.hok e
  obtain ⟨od, J, _⟩ := J0.look
  have run := wpAny_mono (own_run (us := [.ref a, .int i t]) (vs := [.ref a, .int i]) F hr I2.env0 B (hx σ) I2 (.cons rfl (.cons ⟨t, rfl⟩ .nil)) q) (Q' := PySem.W.CmpBack (EP X pins σ Q)) (fun w s' z => by
    obtain ⟨z, H3, I3, rz, qz⟩ := z
    exact SlX.cmpback rz ⟨z, H3, I3, rz, qz⟩) fun _ _ z => z
  have e0 : op.info.2 = "mul" := by rw [hop]; rfl
  have e1 : PySem.dunder op.info.2 = ("__mul__" : Str) := by rw [e0]; decide +kernel
  have e2 : dunderR op.info.2 = ("__rmul__" : Str) := by rw [e0]; decide +kernel
  have k1 : PySem.W.findIn X.K (.ref C) (PySem.dunder op.info.2) = some (some (.ref g0)) := by rw [e1]; exact hs
  have k2 : PySem.W.findIn X.K (.ref C) (dunderR op.info.2) = some (some (.ref f)) := by rw [e2]; exact M.at_
  have k3 : fillsNumberSlot (.type "int") op.info.2 = pure true := by rw [e0]; exact PySem.F.fills_int_mul
  have k5 : Slot "int" (PySem.dunder op.info.2) "int.__mul__" := by rw [e1]; exact slot_mul_lit
  have kT : typeOf (.int i t) = pure (.type "int") := rfl
  exact bin_back I2.kIn J kT k3 hc k1 k2 M.fn hsub (fun _ {R} hR => try_mul_int k5 J0.obj hR) run
theorem r_mulBack {σ : L2.St} {H : Hp} {Q : VK} {a dx : Addr} {fs : List (Str × V)} {i : Int} (e : H a = some (.ins C dx fs)) (h : sp [.ref a, .int i] H Q (E σ)) : rMulBack C sp E σ (.int i) (.ref a) H Q := ⟨a, dx, fs, i, rfl, rfl, e, h⟩
end
section
open PySem.W PySem.Calls
variable {prog : Program} {w : World} {A : Around} {E : Value → Shared → Prop} {s : Shared} {x : Addr} {b : Bool}
/-- a bool's product with an instance: declined -/
theorem mul_noB {c : Value} {dd : Option Addr} {sl : Array (Option Value)} {Q : Value → Shared → Prop} (hx : s.heap.get? x = some ⟨c, dd, .plain, sl⟩) (h : Q .notImplemented s) : wpAny (model prog w) A (call (.builtin "int.__mul__") [.bool b, .ref x]) Q E s := by
  refine wpAny_call (codeAny_call_builtin PySem.F.slot_int_mul.plain PySem.F.entry_int_mul (PySem.F.slot_bool_mul.check _ _ _ _ _ _ _ _ (PySem.typeIs_bool s b) (PySem.F.args_int_mul_2 _ _) ?_))
  obtain ⟨hp, g, d, tk, os⟩ := s
  unfold Builtin.«int.__mul__» Builtin.Int.intBinary
  repeat (first
    | exact h
    | with_reducible refine wpAny_load hx ?_
    | wp_step)
theorem try_mul_bool {nm : Str} {c : Value} {dd : Option Addr} {sl : Array (Option Value)} {Q : Option Value → Shared → Prop} (L : Slot "bool" nm "int.__mul__") (hx : s.heap.get? x = some ⟨c, dd, .plain, sl⟩) (h : Q none s) : wpAny (model prog w) A (tryMethod (.bool b) nm (.ref x)) Q E s :=
  wpAny_tryMethod_declines (PySem.typeIs_bool s b) L (mul_noB hx ⟨rfl, h⟩)
theorem slot_mul_litB : Slot "bool" ("__mul__" : Str) "int.__mul__" := by
  have e : PySem.dunder "mul" = ("__mul__" : Str) := by decide +kernel
  rw [← e]
  exact PySem.F.slot_bool_mul
end
section
variable {X : Cx} {CX : CXT} {k : Nat} {C g0 : Addr} {sp : Sp} {E : L2.St → XK}
/-- y * x by the own __rmul__, y a number, a truth, a text or none -/
def Plain1 (y : V) : Prop := (∃ i, y = .int i) ∨ (∃ b, y = .bl b) ∨ (∃ z, y = .str z) ∨ y = .non
def rMulAny (C : Addr) (sp : Sp) : (L2.St → XK) → L2.St → V → V → Hp → VK → Prop := fun E σ y x H Q => ∃ a dx fs, x = .ref a ∧ Plain1 y ∧ H a = some (.ins C dx fs) ∧ sp [x, y] H Q (E σ)
theorem none_mul : fillsNumberSlot (.type "NoneType") "mul" = pure false := by
  unfold fillsNumberSlot
  have a : typeLookup (.type "NoneType") (PySem.dunder "mul") = pure none := by rw [typeLookup_type, builtinLookup_eq_fast]; kernel_rfl
  have b : typeLookup (.type "NoneType") (dunderR "mul") = pure none := by rw [typeLookup_type, builtinLookup_eq_fast]; kernel_rfl
  simp only [a, b, pure_bind]
  rfl
theorem pe_mulAny {op : Operator} {a b : Expr} {ta tb : TE} {pos : Pos} (hop : op = .Mult) (F : Two X CX k C "__rmul__" sp) (hc : PySem.W.selfFirst X.K C = true) (hs : PySem.W.findIn X.K (.ref C) "__mul__" = some (some (.ref g0)))
    (hi : PySem.W.subIn X.K (.ref C) (.type "int") = some false) (hbo : PySem.W.subIn X.K (.ref C) (.type "bool") = some false) (hst : PySem.W.subIn X.K (.ref C) (.type "str") = some false) (hno : PySem.W.subIn X.K (.ref C) (.type "NoneType") = some false)
    (hr : Room k X.A) (hx : ∀ σ, PassesAt CX X σ (E σ)) (ha : PE X a ta) (hb : PE X b tb) : PE X (.BinOp a op b pos) (tOp2 (rMulAny C sp) E ta tb) := by
  obtain ⟨f, fd, ps, M, F, B⟩ := F.ex
  refine ⟨fun pins s σ H Q I h => ?_⟩
  refine wpAny_BinOp (binT ha hb I h fun v u s2 y x H2 I2 ry rx q => ?_)
  obtain ⟨a, dx, fs, rfl, py, e, q⟩ := q
  cases rx
  obtain ⟨mA, J0, _⟩ := ins_get I2.hok e
  obtain ⟨od, J, _⟩ := J0.look
  have run := wpAny_mono (own_run (us := [.ref a, v]) (vs := [.ref a, y]) F hr I2.env0 B (hx σ) I2 (.cons rfl (.cons ry .nil)) q) (Q' := PySem.W.CmpBack (EP X pins σ Q)) (fun w s' z => by
    obtain ⟨z, H3, I3, rz, qz⟩ := z
    exact SlX.cmpback rz ⟨z, H3, I3, rz, qz⟩) fun _ _ z => z
  have e0 : op.info.2 = "mul" := by rw [hop]; rfl
  have e1 : PySem.dunder op.info.2 = ("__mul__" : Str) := by rw [e0]; decide +kernel
  have e2 : dunderR op.info.2 = ("__rmul__" : Str) := by rw [e0]; decide +kernel
  have k1 : PySem.W.findIn X.K (.ref C) (PySem.dunder op.info.2) = some (some (.ref g0)) := by rw [e1]; exact hs
  have k2 : PySem.W.findIn X.K (.ref C) (dunderR op.info.2) = some (some (.ref f)) := by rw [e2]; exact M.at_
  rcases py with ⟨i, rfl⟩ | ⟨i, rfl⟩ | ⟨i, rfl⟩ | rfl
  · obtain ⟨t, rfl⟩ := (show ∃ t, v = Value.int i t from ry)
    have k3 : fillsNumberSlot (.type "int") op.info.2 = pure true := by rw [e0]; exact PySem.F.fills_int_mul
    have k5 : Slot "int" (PySem.dunder op.info.2) "int.__mul__" := by rw [e1]; exact slot_mul_lit
    have kT : typeOf (.int i t) = pure (.type "int") := rfl
    exact bin_back I2.kIn J kT k3 hc k1 k2 M.fn hi (fun _ {R} hR => try_mul_int k5 J0.obj hR) run
  · cases (show v = Value.bool i from ry)
    have k3 : fillsNumberSlot (.type "bool") op.info.2 = pure true := by rw [e0]; exact PySem.F.fills_bool_mul
    have k5 : Slot "bool" (PySem.dunder op.info.2) "int.__mul__" := by rw [e1]; exact slot_mul_litB
    have kT : typeOf (.bool i) = pure (.type "bool") := rfl
    exact bin_back I2.kIn J kT k3 hc k1 k2 M.fn hbo (fun _ {R} hR => try_mul_bool k5 J0.obj hR) run
  · obtain ⟨t, rfl⟩ := (show ∃ t, v = Value.str i t from ry)
    have k3 : fillsNumberSlot (.type "str") op.info.2 = pure false := by rw [e0]; exact noFill_str_mul
    have kT : typeOf (.str i t) = pure (.type "str") := rfl
    exact bin_back I2.kIn J kT k3 hc k1 k2 M.fn hst (fun z => Bool.noConfusion z) run
  · cases (show v = Value.none from ry)
    have k3 : fillsNumberSlot (.type "NoneType") op.info.2 = pure false := by rw [e0]; exact none_mul
    have kT : typeOf .none = pure (.type "NoneType") := rfl
    exact bin_back I2.kIn J kT k3 hc k1 k2 M.fn hno (fun z => Bool.noConfusion z) run
theorem r_mulAny {σ : L2.St} {H : Hp} {Q : VK} {a dx : Addr} {fs : List (Str × V)} {y : V} (e : H a = some (.ins C dx fs)) (py : Plain1 y) (h : sp [.ref a, y] H Q (E σ)) : rMulAny C sp E σ y (.ref a) H Q := ⟨a, dx, fs, rfl, py, e, h⟩
end
end Pk
set_option Elab.async false
set_option linter.all false
set_option maxRecDepth 100000
set_option maxHeartbeats 1000000
namespace Pk
open PySem L2
section
variable {K : PySem.W.Frag} {σ : L2.St} {H : Hp} {Q : VK} {D : Ends} {a C dx : Addr} {fs : List (Str × V)} {f g : Str} {v u : V} {i : Nat} {ta tv : TE}
/-- an attribute is read -/
theorem r_fldU (h : ta σ H fun x H1 => ∃ a C dx fs v, x = .ref a ∧ H1 a = some (.ins C dx fs) ∧ Cls K C ∧ NoAttr K C f ∧ fs.lookup f = some v ∧ Q v H1) : tFld K ta f σ H Q := h
theorem r_fld0 (o : H a = some (.ins C dx fs)) (c : Cls K C) (n : NoAttr K C f) (l : fs.lookup f = some v) (h : Q v H) : ∃ b C dx fs v, V.ref a = .ref b ∧ H b = some (.ins C dx fs) ∧ Cls K C ∧ NoAttr K C f ∧ fs.lookup f = some v ∧ Q v H := ⟨a, C, dx, fs, v, rfl, o, c, n, l, h⟩
theorem r_fldV (e : σ[i]? = some (some (.ref a))) (o : H a = some (.ins C dx fs)) (c : Cls K C) (n : NoAttr K C f) (l : fs.lookup f = some v) (h : Q v H) : tFld K (tVar i) f σ H Q := ⟨.ref a, e, a, C, dx, fs, v, rfl, o, c, n, l, h⟩
/-- .. is set -/
theorem r_sFldU (h : tv σ H fun y H1 => ta σ H1 fun x H2 => ∃ a C dx fs, x = .ref a ∧ H2 a = some (.ins C dx fs) ∧ Cls K C ∧ NoAttr K C f ∧ fs.length < 1000 ∧ D.nx σ (upd H2 a (.ins C dx (putF f y fs)))) : sFld K ta tv f D σ H := h
theorem r_sFld0 {P : Hp → Prop} {y : V} (o : H a = some (.ins C dx fs)) (c : Cls K C) (n : NoAttr K C f) (l : fs.length < 1000) (h : P (upd H a (.ins C dx (putF f y fs)))) :
    ∃ b C dx fs, V.ref a = .ref b ∧ H b = some (.ins C dx fs) ∧ Cls K C ∧ NoAttr K C f ∧ fs.length < 1000 ∧ P (upd H b (.ins C dx (putF f y fs))) := ⟨a, C, dx, fs, rfl, o, c, n, l, h⟩
/-- a method of an own class is called -/
theorem r_methU {m : Str} {sp : Sp} {dvs : List V} {E : XK} {t : TA} (h : ta σ H fun x H1 => ∃ a dx fs, x = .ref a ∧ H1 a = some (.ins C dx fs) ∧ fs.lookup m = none ∧ t σ H1 fun vs H2 => sp (x :: (vs ++ dvs)) H2 Q E) : tMeth C m sp dvs E ta t σ H Q := h
/-- a < b < c -/
theorem r_chain {r r' : R2} {tc : TE} (h : ta σ H fun x H1 => tv σ H1 fun y H2 => r x y H2 fun z H3 => ∃ k, z = .bl k ∧ (if k = true then tc σ H3 fun w H4 => r' y w H4 Q else Q (.bl false) H3)) : tChain r r' ta tv tc σ H Q := h
theorem ifT {c : Bool} {A B : Prop} (hc : c = true) (h : A) : if c = true then A else B := by rw [if_pos hc]; exact h
theorem ifF {c : Bool} {A B : Prop} (hc : c = false) (h : B) : if c = true then A else B := by rw [hc, if_neg Bool.false_ne_true]; exact h
/-- enumerate(list) in a for -/
theorem r_enum {ta : TA} {R : It → Hp → Prop} (h : ta σ H fun vs H1 => ∃ a xs, vs = [.ref a] ∧ SqL K H1 a xs ∧ R (Ite K a) H1) : iEnum K ta σ H R := h
theorem r_zip {ta : TA} {R : It → Hp → Prop} (h : ta σ H fun vs H1 => ∃ a b xs ys, vs = [.ref a, .ref b] ∧ SqL K H1 a xs ∧ SqL K H1 b ys ∧ R (Itz K a b) H1) : iZip K ta σ H R := h
theorem r_gtup {n : Nat} {t : TGs} {R : L2.St → Hp → Prop} (h : ∃ a xs, v = .ref a ∧ SqT K H a xs ∧ xs.length = n ∧ t xs σ H R) : gTup K n t v σ H R := h
theorem int_at {ms : List Int} {i : Nat} {y : V} (h : (ms.map V.int)[i]? = some y) : ∃ m, m ∈ ms ∧ y = .int m := by
  rw [List.getElem?_map] at h
  cases e : ms[i]? with
  | none => rw [e] at h; cases h
  | some m => rw [e] at h; exact ⟨m, List.mem_of_getElem? e, (Option.some.inj h).symm⟩
theorem int_get {ms : List Int} {i : Nat} {y : V} (h : (ms.map V.int)[i]? = some y) : y = .int (ms.getD i 0) := by
  rw [List.getElem?_map] at h
  cases e : ms[i]? with
  | none => rw [e] at h; cases h
  | some m => rw [e] at h; rw [List.getD_eq_getElem?_getD, e]; exact (Option.some.inj h).symm
/-- two attributes -/
theorem two_put (hfg : (f == g) = false) (e : ¬ f = g) : putF g u (putF f v []) = [(f, v), (g, u)] := by
  show putF g u [(f, v)] = _
  rw [show putF g u [(f, v)] = (f, v) :: putF g u [] from if_neg e]
  rfl
theorem two_fst : List.lookup f [(f, v), (g, u)] = some v := by simp [List.lookup]
theorem two_snd (hfg : (g == f) = false) : List.lookup g [(f, v), (g, u)] = some u := by simp [List.lookup, hfg]
theorem two_no {m : Str} (h1 : (m == f) = false) (h2 : (m == g) = false) : List.lookup m [(f, v), (g, u)] = none := by simp [List.lookup, h1, h2]
theorem ite_and {c d : Bool} {A B : Prop} (h : if (c && d) = true then A else B) : if c = true then (if d = true then A else B) else B := by
  cases c <;> cases d <;> simpa using h
end
/-- what isinstance asks of an own class -/
structure OwnC (K : PySem.W.Frag) (C : Addr) : Prop where
  cl : Cls K C
  ha : PySem.W.findIn K (.ref C) "__class__" = some (some (.builtin "object.__class__"))
  hn : PySem.W.specialIn K (.builtin "object.__class__") "__get__" = some (some (.builtin "getset_descriptor.__get__"))
  htk : PySem.W.takesIn K (.builtin "object.__class__") = some true
  hm : PySem.W.mroIn K C (.type "object") = some true
  isC : PySem.W.isClsIn K C = true
  ty : PySem.W.typeIn K (.ref C) = some (.type "type")
  sub : ∀ T : String, T ∈ (["NoneType", "int", "bool", "str", "list", "tuple", "dict"] : List String) → PySem.W.subIn K (.type T) (.ref C) = some false
theorem OwnC.of {K : PySem.W.Frag} {C : Addr} (pg : PySem.W.plainGet K C Str.empty = true) (hd : PySem.W.hasDictIn K C = true) (po : PySem.W.plainOver K C = true) (sa : PySem.W.findIn K (.ref C) "__setattr__" = some (some (.builtin "object.__setattr__")))
    (ha : PySem.W.findIn K (.ref C) "__class__" = some (some (.builtin "object.__class__"))) (hn : PySem.W.specialIn K (.builtin "object.__class__") "__get__" = some (some (.builtin "getset_descriptor.__get__"))) (htk : PySem.W.takesIn K (.builtin "object.__class__") = some true)
    (hm : PySem.W.mroIn K C (.type "object") = some true) (isC : PySem.W.isClsIn K C = true) (ty : PySem.W.typeIn K (.ref C) = some (.type "type")) (s1 : PySem.W.subIn K (.type "NoneType") (.ref C) = some false) (s2 : PySem.W.subIn K (.type "int") (.ref C) = some false)
    (s3 : PySem.W.subIn K (.type "bool") (.ref C) = some false) (s4 : PySem.W.subIn K (.type "str") (.ref C) = some false) (s5 : PySem.W.subIn K (.type "list") (.ref C) = some false) (s6 : PySem.W.subIn K (.type "tuple") (.ref C) = some false) (s7 : PySem.W.subIn K (.type "dict") (.ref C) = some false) : OwnC K C :=
  ⟨⟨pg, hd, po, sa⟩, ha, hn, htk, hm, isC, ty, fun T h => by
    simp only [List.mem_cons, List.not_mem_nil, or_false] at h
    rcases h with rfl | rfl | rfl | rfl | rfl | rfl | rfl
    · exact s1
    · exact s2
    · exact s3
    · exact s4
    · exact s5
    · exact s6
    · exact s7⟩
section
variable {K : PySem.W.Frag} {C a dx : Addr} {fs : List (Str × V)} {H : Hp} {Q : VK} {x : V} {T : String}
theorem OwnC.tyx (c : OwnC K C) (e : H a = some (.ins C dx fs)) : TyX K H (.ref a) (.ref C) := .base (.ins e c.cl c.ha c.hn c.htk c.hm)
/-- isinstance(x, the own class) -/
theorem r_isiSelf (c : OwnC K C) (e : H a = some (.ins C dx fs)) (h : Q (.bl true) H) : rIsi K [.ref a, .ref C] H Q :=
  ⟨.ref a, .ref C, _, _, true, rfl, .own C, c.tyx e, by unfold PySem.W.kitOne; rw [if_pos (by simp)], h⟩
theorem OwnC.kit (c : OwnC K C) (h : T ∈ (["NoneType", "int", "bool", "str", "list", "tuple", "dict"] : List String)) : PySem.W.kitOne K (.type T) (.ref C) = some false := by
  unfold PySem.W.kitOne PySem.W.kitCls
  have h1 : (PySem.W.clsIn K C).isSome = true := c.isC
  simp only [h1, c.ty, c.sub T h]
  rfl
theorem r_isiNo (c : OwnC K C) (t : TyX K H x (.type T)) (m : T ∈ (["NoneType", "int", "bool", "str", "list", "tuple", "dict"] : List String)) (h : Q (.bl false) H) : rIsi K [x, .ref C] H Q :=
  ⟨x, .ref C, _, _, false, rfl, .own C, t, c.kit m, h⟩
end
/-! ### lists of ints are compared -/
section
variable {K : PySem.W.Frag} {H : Hp} {Q : VK} {a b : Addr} {ms ns : List Int}
theorem ints_all (ns : List Int) : DpAll K H (ns.map V.int) (ns.map PyData.int) := by
  induction ns with
  | nil => exact .nil
  | cons n r ih => exact .cons (.int n) ih
theorem Dp.ints (h : SqL K H a (ns.map V.int)) : Dp K H (.ref a) (.list (ns.map PyData.int)) := .lst h (ints_all ns)
theorem eqv_ints : PyData.eqv (.list (ms.map PyData.int)) (.list (ns.map PyData.int)) = decide (ms = ns) := by
  have h := PySem.W.eqvAll_map ms ns
  rw [PyData.eqv]
  exact h
theorem r_eqL (h1 : SqL K H a (ms.map V.int)) (h2 : SqL K H b (ns.map V.int)) (h : Q (.bl (decide (ms = ns))) H) : rEqD K (.ref a) (.ref b) H Q :=
  ⟨_, _, Dp.ints h1, Dp.ints h2, PySem.W.ke_shaped_ints ms, PySem.W.ke_shaped_ints ns, by rw [eqv_ints]; exact h⟩
theorem r_neL (h1 : SqL K H a (ms.map V.int)) (h2 : SqL K H b (ns.map V.int)) (h : Q (.bl (!decide (ms = ns))) H) : rNeD K (.ref a) (.ref b) H Q :=
  ⟨_, _, Dp.ints h1, Dp.ints h2, PySem.W.ke_shaped_ints ms, PySem.W.ke_shaped_ints ns, by rw [eqv_ints]; exact h⟩
end
/-! ### a comprehension: the list at D, by its turns -/
def Out (H1 : Hp) (D : Addr) (out : Nat → V) (i : Nat) (H' : Hp) : Prop := Same H1 H' ∧ H' D = some (.lst ((List.range i).map out))
theorem Out.start {H1 : Hp} {D : Addr} {out : Nat → V} (hD : H1 D = none) : Out H1 D out 0 (upd H1 D (.lst [])) := ⟨Same.up (Same.refl H1) hD, upd_same⟩
theorem Out.more {H1 H H4 : Hp} {D : Addr} {out : Nat → V} {i : Nat} (hD : H1 D = none) (o : Out H1 D out i H) (s : Same H H4) (hi : i < sizeLine) :
    ∃ acc, H4 D = some (.lst acc) ∧ acc.length < sizeLine ∧ Out H1 D out (i + 1) (upd H4 D (.lst (acc ++ [out i]))) := by
  refine ⟨_, s _ _ o.2, by simpa using hi, fun c u e => ?_, ?_⟩
  · have n : c ≠ D := fun z => by rw [z, hD] at e; cases e
    rw [upd_ne n]
    exact s _ _ (o.1 _ _ e)
  · rw [upd_same, List.range_succ, List.map_append]
    rfl
/-! ### x ⊕ y by the own method, the other one no number of ours -/
structure BinC (K : PySem.W.Frag) (C : Addr) (nm : String) (Ts : List String) : Prop where
  sf : PySem.W.selfFirst K C = true
  rc : ∃ rc, PySem.W.findIn K (.ref C) (PySem.dunderR nm) = some rc ∧ (rc = none ∨ ∃ g : Addr, rc = some (.ref g))
  oth : ∀ T : String, T ∈ Ts → ∃ fo ro : Option Value, PySem.W.findIn K (.type T) (PySem.dunder nm) = some fo ∧ PySem.W.findIn K (.type T) (PySem.dunderR nm) = some ro
theorem BinC.other {K : PySem.W.Frag} {C : Addr} {nm T : String} {Ts : List String} {H : Hp} {y : V} (b : BinC K C nm Ts) (O : OwnC K C) (t : TyX K H y (.type T)) (m : T ∈ Ts) (m2 : T ∈ (["NoneType", "int", "bool", "str", "list", "tuple", "dict"] : List String)) : OtherB K C H nm y := by
  obtain ⟨fo, ro, h1, h2⟩ := b.oth T m
  exact .inr ⟨T, fo, ro, t, h1, h2, O.sub T m2⟩
theorem Plain1.ty {K : PySem.W.Frag} {H : Hp} {y : V} (h : Plain1 y) : ∃ T : String, TyX K H y (.type T) ∧ T ∈ (["NoneType", "int", "bool", "str"] : List String) := by
  rcases h with ⟨i, rfl⟩ | ⟨b, rfl⟩ | ⟨z, rfl⟩ | rfl
  · exact ⟨"int", .base (.int i), by simp⟩
  · exact ⟨"bool", .base (.bl b), by simp⟩
  · exact ⟨"str", .base (.str z), by simp⟩
  · exact ⟨"NoneType", .base .non, by simp⟩
end Pk
set_option Elab.async false
set_option linter.all false
set_option maxRecDepth 100000
set_option maxHeartbeats 2000000
/-! What the top holds, read off the heap by a Hook: facts in place of a heap written out. -/
namespace Pk
open PySem L2 PySem.Spec PyProof.Rows PySem.W
/-! ### function objects -/
abbrev FnP : Type := Option (Str × Str × Arguments × FuncBody × Scope × Addr × List Str × Value × Addr)
def fnP (K : PySem.W.Frag) (p : Str × Option Str) : FnP := match K.lookup (He.fAd K p) with
  | some ⟨_, _, .func fd, _⟩ => some (fd.name, fd.qualname, fd.params, fd.body, fd.scope, fd.globals, fd.closure.map (·.1), fd.defaults, fd.builtins)
  | _ => none
structure FdP where
  at_ : Str × Option Str
  name : Str
  qual : Str
  st : Stmt
  cl : List Str
def FdP.val (d : FdP) : FnP := some (d.name, d.qual, defArgs d.st, .stmts (defBody d.st), defScope d.st, mainGlobals, d.cl, .none, builtinsNs)
def codeP (K : PySem.W.Frag) (p : Str × Option Str) (q : Str) : Bool := match K.lookup (He.fAd K p) with
  | some ⟨_, _, .func fd, _⟩ => PySem.W.codeIn K fd.code q
  | _ => false
theorem fnP_ok {K : PySem.W.Frag} {p : Str × Option Str} {nm q : Str} {st : Stmt} (e : fnP K p = FdP.val ⟨p, nm, q, st, []⟩) (c : codeP K p q = true) :
    ∃ oc od osl kV doc pm an cdv ct, K.lookup (He.fAd K p) = some ⟨oc, od, .func (PySem.W.fnOf nm q (defArgs st) (defBody st) (defScope st) .none kV doc pm an cdv ct), osl⟩ ∧ PySem.W.codeIn K cdv q = true := by
  unfold fnP FdP.val at e
  unfold codeP at c
  cases h : K.lookup (He.fAd K p) with
  | none =>
    rw [h] at c
    cases c
  | some o =>
    obtain ⟨oc, od, dt, osl⟩ := o
    rw [h] at c e
    cases dt with
    | func fd =>
      obtain ⟨n1, n2, n3, n4, n5, n6, n7, n8, n9, n10, n11, n12, n13, n14, n15⟩ := fd
      have e2 : (some (n1, n2, n3, n4, n5, n6, n7.map (·.1), n8, n15) : FnP) = some (nm, q, defArgs st, .stmts (defBody st), defScope st, mainGlobals, [], .none, builtinsNs) := e
      simp only [Option.some.injEq, Prod.mk.injEq, List.map_eq_nil_iff] at e2
      obtain ⟨h1, h2, h3, h4, h5, h6, h7, h8, h9⟩ := e2
      subst h1 h2 h3 h4 h5 h6 h7 h8 h9
      exact ⟨oc, od, osl, n9, n10, n11, n12, n13, n14, rfl, c⟩
    | _ => cases c
/-! ### the Hook -/
def asP (g : Addr → Option Obj) : Nat → List Addr
  | 0 => [mainGlobals, cStatics]
  | n + 1 => He.growD g (asP g n)
def obsP (fn : List FdP) (ex : PySem.W.Frag → Bool) (K : PySem.W.Frag) : Bool × List FnP := (ex K, fn.map fun d => fnP K d.at_)
def valP (fn : List FdP) : Bool × List FnP := (true, fn.map FdP.val)
def obsPG (n : Nat) (fn : List FdP) (ex : PySem.W.Frag → Bool) (g : Addr → Option Obj) : Bool × List FnP := obsP fn ex (He.frG g (asP g n))
def hookP (n : Nat) (fn : List FdP) (ex : PySem.W.Frag → Bool) : PySem.W.Hook where
  α := Bool × List FnP
  obs := fun s => obsPG n fn ex s.heap.get?
  val := fun _ => valP fn
  says := fun _ h => ∃ K : PySem.W.Frag, K.In h ∧ obsP fn ex K = valP fn
  of := fun _ _ e => ⟨_, He.frG_in, e⟩
  keeps := fun _ _ _ ⟨K, hK, c⟩ k => ⟨K, PySem.W.Frag.In.keeps hK k, c⟩
theorem obsPG_eq {n : Nat} {fn : List FdP} {ex : PySem.W.Frag → Bool} {g : Addr → Option Obj} {s : Shared} (h : ∀ a, g a = s.heap.get? a) : obsPG n fn ex g = (hookP n fn ex).obs s := by
  have e : g = s.heap.get? := funext h
  rw [e] <;> rfl
section
variable {fn : List FdP} {ex : PySem.W.Frag → Bool} {K : PySem.W.Frag}
theorem saysP_ex (c : obsP fn ex K = valP fn) : ex K = true := congrArg (fun z => z.1) c
theorem saysP_fn (c : obsP fn ex K = valP fn) (i : Nat) {d : FdP} (h : fn[i]? = some d) : fnP K d.at_ = d.val := by
  have e : fn.map (fun d => fnP K d.at_) = fn.map FdP.val := congrArg (fun z : Bool × List FnP => z.2) c
  have e2 : (fn.map fun d => fnP K d.at_)[i]? = (fn.map FdP.val)[i]? := by rw [e]
  rw [List.getElem?_map, List.getElem?_map, h] at e2
  exact Option.some.inj e2
end
/-! ### checks -/
def eqB (a b : Option (Option Value)) : Bool := decide (a = b)
def chG (x : Str) (K : PySem.W.Frag) : Bool := eqB (PySem.W.nsIn K mainGlobals x) (some (some (.ref (He.ga K x))))
def chD (x : Str) (K : PySem.W.Frag) : Bool := chG x K && (PySem.W.keepIn K (.ref (He.ga K x)) && codeP K (x, none) x)
def chM (C m q : Str) (K : PySem.W.Frag) : Bool := eqB (PySem.W.findIn K (.ref (He.ga K C)) m) (some (some (.ref (He.ma K (He.ga K C) m)))) && (PySem.W.isFn K (.ref (He.ma K (He.ga K C) m)) && (PySem.W.keepIn K (.ref (He.ma K (He.ga K C) m)) && codeP K (C, some m) q))
def kwV (K : PySem.W.Frag) (k z : Str) : Value → Bool
  | .ref D => (match PySem.W.nsIn K D k with
    | some (some (.str y _)) => decide (y = z)
    | _ => false)
  | _ => false
def kwP (x k z : Str) (K : PySem.W.Frag) : Bool := match K.lookup (He.ga K x) with
  | some ⟨_, _, .func fd, _⟩ => kwV K k z fd.kwdefaults
  | _ => false
def chI (x : Str) (i : Int) (K : PySem.W.Frag) : Bool := match PySem.W.nsIn K mainGlobals x with
  | some (some (.int j _)) => decide (j = i)
  | _ => false
def btNames : List Str := ["int", "str", "bool", "list", "tuple", "dict", "len", "range", "isinstance", "sum", "max", "min", "sorted", "set", "super", "enumerate", "zip", "abs"]
def chBt (K : PySem.W.Frag) : Bool := btNames.all fun x => eqB (PySem.W.nsIn K mainGlobals x) (some none)
def chO (C : Str) (K : PySem.W.Frag) : Bool := PySem.W.plainGet K (He.ga K C) Str.empty && (PySem.W.hasDictIn K (He.ga K C) && (PySem.W.plainOver K (He.ga K C) && (eqB (PySem.W.findIn K (.ref (He.ga K C)) "__setattr__") (some (some (.builtin "object.__setattr__"))) &&
  (eqB (PySem.W.findIn K (.ref (He.ga K C)) "__class__") (some (some (.builtin "object.__class__"))) && (eqB (PySem.W.specialIn K (.builtin "object.__class__") "__get__") (some (some (.builtin "getset_descriptor.__get__"))) && (decide (PySem.W.takesIn K (.builtin "object.__class__") = some true) &&
  (decide (PySem.W.mroIn K (He.ga K C) (.type "object") = some true) && (PySem.W.isClsIn K (He.ga K C) && (decide (PySem.W.typeIn K (.ref (He.ga K C)) = some (.type "type")) &&
  (["NoneType", "int", "bool", "str", "list", "tuple", "dict"] : List String).all fun T => decide (PySem.W.subIn K (.type T) (.ref (He.ga K C)) = some false))))))))))
def chF (C m : Str) (K : PySem.W.Frag) : Bool := PySem.W.fnIn K (He.ma K (He.ga K C) m)
def chB (C : Str) (nm : String) (Ts : List String) (K : PySem.W.Frag) : Bool := PySem.W.selfFirst K (He.ga K C) && ((match PySem.W.findIn K (.ref (He.ga K C)) (PySem.dunderR nm) with
  | some none => true
  | some (some (.ref _)) => true
  | _ => false) && Ts.all fun T => (PySem.W.findIn K (.type T) (PySem.dunder nm)).isSome && (PySem.W.findIn K (.type T) (PySem.dunderR nm)).isSome)
section
variable {K : PySem.W.Frag}
theorem bb {a b : Bool} (h : (a && b) = true) : a = true ∧ b = true := Bool.and_eq_true_iff.mp h
theorem eqB_ok {a b : Option (Option Value)} (h : eqB a b = true) : a = b := of_decide_eq_true h
theorem chG_ok {x : Str} (c : chG x K = true) : PySem.W.nsIn K mainGlobals x = some (some (.ref (He.ga K x))) := eqB_ok c
theorem hk_def {x : Str} {st : Stmt} (e : fnP K (x, none) = FdP.val ⟨(x, none), x, x, st, []⟩) (c : chD x K = true) : DefAt K x st := by
  obtain ⟨c1, c⟩ := bb c
  obtain ⟨c2, c3⟩ := bb c
  obtain ⟨oc, od, osl, kV, doc, pm, an, cdv, ct, l, cc⟩ := fnP_ok e c3
  exact DefAt.of (chG_ok c1) l cc c2
theorem hk_meth {C m q : Str} {st : Stmt} (e : fnP K (C, some m) = FdP.val ⟨(C, some m), m, q, st, []⟩) (c : chM C m q K = true) : MethAt K (He.ga K C) m q st := by
  obtain ⟨c1, c⟩ := bb c
  obtain ⟨c2, c⟩ := bb c
  obtain ⟨c3, c4⟩ := bb c
  obtain ⟨oc, od, osl, kV, doc, pm, an, cdv, ct, l, cc⟩ := fnP_ok e c4
  exact MethAt.of (eqB_ok c1) l cc c3 c2
theorem kwV_ok {k z : Str} {v : Value} (c : kwV K k z v = true) : ∃ D t, v = .ref D ∧ PySem.W.nsIn K D k = some (some (.str z t)) := by
  cases v with
  | ref D =>
    have w : (match PySem.W.nsIn K D k with
      | some (some (.str y _)) => decide (y = z)
      | _ => false) = true := c
    cases h : PySem.W.nsIn K D k with
    | none => rw [h] at w; cases w
    | some o =>
      cases o with
      | none => rw [h] at w; cases w
      | some v =>
        cases v with
        | str y t =>
          rw [h] at w
          have w : y = z := of_decide_eq_true w
          exact ⟨D, t, rfl, by rw [h, w]⟩
        | _ => rw [h] at w; cases w
  | _ => cases c
theorem hk_defK {x k z : Str} {st : Stmt} (e : fnP K (x, none) = FdP.val ⟨(x, none), x, x, st, []⟩) (c : chD x K = true) (w : kwP x k z K = true) : DefAtK K x k z st := by
  obtain ⟨c1, c⟩ := bb c
  obtain ⟨c2, c3⟩ := bb c
  obtain ⟨oc, od, osl, kV, doc, pm, an, cdv, ct, l, cc⟩ := fnP_ok e c3
  have l' : K.lookup (He.ga K x) = some ⟨oc, od, .func (PySem.W.fnOf x x (defArgs st) (defBody st) (defScope st) .none kV doc pm an cdv ct), osl⟩ := l
  unfold kwP at w
  rw [l'] at w
  obtain ⟨D, t, e, h⟩ := kwV_ok (v := kV) w
  subst e
  exact DefAtK.of (chG_ok c1) l' cc c2 h
theorem hk_int {x : Str} {i : Int} (c : chI x i K = true) : ∃ t, PySem.W.nsIn K mainGlobals x = some (some (.int i t)) := by
  unfold chI at c
  cases h : PySem.W.nsIn K mainGlobals x with
  | none => rw [h] at c; cases c
  | some o =>
    cases o with
    | none => rw [h] at c; cases c
    | some v =>
      cases v with
      | int j t =>
        rw [h] at c
        have c : j = i := of_decide_eq_true c
        exact ⟨t, by rw [c]⟩
      | _ => rw [h] at c; cases c
theorem hk_bt (c : chBt K = true) : BtIn K := fun x hx => eqB_ok (List.all_eq_true.mp c x hx)
theorem hk_own {C : Str} (c : chO C K = true) : OwnC K (He.ga K C) := by
  obtain ⟨c1, c⟩ := bb c
  obtain ⟨c2, c⟩ := bb c
  obtain ⟨c3, c⟩ := bb c
  obtain ⟨c4, c⟩ := bb c
  obtain ⟨c5, c⟩ := bb c
  obtain ⟨c6, c⟩ := bb c
  obtain ⟨c7, c⟩ := bb c
  obtain ⟨c8, c⟩ := bb c
  obtain ⟨c9, c⟩ := bb c
  obtain ⟨c10, c⟩ := bb c
  have s : ∀ T : String, T ∈ (["NoneType", "int", "bool", "str", "list", "tuple", "dict"] : List String) → PySem.W.subIn K (.type T) (.ref (He.ga K C)) = some false := fun T h => of_decide_eq_true (List.all_eq_true.mp c T h)
  exact ⟨⟨c1, c2, c3, eqB_ok c4⟩, eqB_ok c5, eqB_ok c6, of_decide_eq_true c7, of_decide_eq_true c8, c9, of_decide_eq_true c10, s⟩
theorem hk_fi {C m q : Str} (c : chM C m q K = true) (d : chF C m K = true) : ∀ f, PySem.W.findIn K (.ref (He.ga K C)) m = some (some (.ref f)) → PySem.W.fnIn K f = true := fun f e => by
  have c1 := eqB_ok (bb c).1
  rw [c1] at e
  have z := Value.ref.inj (Option.some.inj (Option.some.inj e))
  rw [← z]
  exact d
theorem hk_bin {C : Str} {nm : String} {Ts : List String} (c : chB C nm Ts K = true) : BinC K (He.ga K C) nm Ts := by
  obtain ⟨c1, c⟩ := bb c
  obtain ⟨c2, c3⟩ := bb c
  refine ⟨c1, ?_, fun T h => ?_⟩
  · cases e : PySem.W.findIn K (.ref (He.ga K C)) (PySem.dunderR nm) with
    | none => rw [e] at c2; cases c2
    | some o =>
      cases o with
      | none => exact ⟨_, rfl, .inl rfl⟩
      | some v =>
        cases v with
        | ref g => exact ⟨_, rfl, .inr ⟨g, rfl⟩⟩
        | _ => rw [e] at c2; cases c2
  · obtain ⟨a, b⟩ := bb (List.all_eq_true.mp c3 T h)
    obtain ⟨x, hx⟩ := Option.isSome_iff_exists.mp a
    obtain ⟨y, hy⟩ := Option.isSome_iff_exists.mp b
    exact ⟨x, y, hx, hy⟩
end
/-! ### error classes -/
def inA (K : PySem.W.Frag) (x : Str) : Addr := He.ma K (He.ga K x) "__init__"
def ccA (K : PySem.W.Frag) (x : Str) : Addr := match K.lookup (inA K x) with
  | some ⟨_, _, .func fd, _⟩ => (match fd.closure with
    | [(_, a)] => a
    | _ => 0)
  | _ => 0
def cdA (K : PySem.W.Frag) (x : Str) : Addr := match K.lookup (inA K x) with
  | some ⟨_, _, .func fd, _⟩ => (match fd.code with
    | .ref a => a
    | _ => 0)
  | _ => 0
def codeIsRef : Value → Bool
  | .ref _ => true
  | _ => false
def fnE (x : Str) (K : PySem.W.Frag) : Bool := match K.lookup (inA K x) with
  | some ⟨_, _, .func fd, _⟩ => codeIsRef fd.code
  | _ => false
def clsE (C : Addr) (K : PySem.W.Frag) : Bool := match K.lookup C with
  | some ⟨.type "type", _, .cls cd, sl⟩ => (match cd.mro, sl.toList with
    | .ref C' :: .ref _ :: bm, [_, _, _, _, some (.builtin n), _] => C' == C && (n == "ArithmeticError.__new__" && (!cd.hasDel && (cd.hasDict && decide (bm = arT))))
    | _, _ => false)
  | _ => false
def cellE (C cc : Addr) (K : PySem.W.Frag) : Bool := match K.lookup cc with
  | some ⟨_, _, .cell (some (.ref D)), _⟩ => decide (D = C)
  | _ => false
def fileE (fl : Str) (c : Addr) (K : PySem.W.Frag) : Bool := match K.lookup c with
  | some ⟨_, _, .fields vs, _⟩ => (match (vs[2]? : Option Value) with
    | some (Value.str f _) => fl == f
    | _ => false)
  | _ => false
def chE (fl x q : Str) (K : PySem.W.Frag) : Bool := chG x K && (clsE (He.ga K x) K && (eqB (PySem.W.findIn K (.ref (He.ga K x)) "__setattr__") (some (some (.builtin "object.__setattr__"))) && (decide (PySem.W.subIn K (.ref (He.ga K x)) (.type "BaseException") = some true) && (decide (PySem.W.subIn K (.ref (He.ga K x)) (.type "ArithmeticError") = some true) &&
  (decide (PySem.W.typeIn K (.ref (He.ga K x)) = some (.type "type")) && (PySem.W.keepIn K (.ref (He.ga K x)) && (eqB (PySem.W.findIn K (.ref (He.ga K x)) "__init__") (some (some (.ref (inA K x)))) && (decide (PySem.W.typeIn K (.ref (inA K x)) = some (.type "function")) && (fnE x K && (PySem.W.codeIn K (.ref (cdA K x)) q &&
  (cellE (He.ga K x) (ccA K x) K && (fileE fl (cdA K x) K && (eqB (PySem.W.nsIn K cStatics "thirdparty.any") (some none) && (eqB (PySem.W.ks_superIn K (He.ga K x) (He.ga K x) "__init__") (some (some (.builtin "ArithmeticError.__init__"))) && (decide (PySem.W.mroIn K (He.ga K x) (.ref (He.ga K x)) = some true) &&
  (eqB (PySem.W.findIn K (.ref (He.ga K x)) "__getattribute__") (some (some (.builtin "BaseException.__getattribute__"))) && (eqB (PySem.W.findIn K (.ref (He.ga K x)) "__getattr__") (some none) && (PySem.W.hasDictIn K (He.ga K x) && (PySem.W.isClsIn K (He.ga K x) && decide (PySem.W.subIn K (.ref (He.ga K x)) (.ref (He.ga K x)) = some true))))))))))))))))))))
section
variable {K : PySem.W.Frag}
theorem clsE_ok {C : Addr} (c : clsE C K = true) : ∃ pe nm qn N bs sn sub ab col dd k0 k1 k2 k3 k5, K.lookup C = some (excClassObj nm qn C N bs (.ref pe :: arT) true sn sub ab col dd k0 k1 k2 k3 k5 "ArithmeticError.__new__") := by
  unfold clsE at c
  split at c
  · rename_i dd cd sl ho
    split at c
    · rename_i C' pe bm k0 k1 k2 k3 n k5 hm hs
      simp only [Bool.and_eq_true, beq_iff_eq, Bool.not_eq_true', decide_eq_true_eq] at c
      obtain ⟨rfl, rfl, hdel, hdict, rfl⟩ := c
      obtain ⟨nm, bs, mro, ns, qn, hd, sn, sub, ab, col, del⟩ := cd
      dsimp only at hm hdel hdict
      subst hm hdel hdict
      have hsl : sl = #[k0, k1, k2, k3, some (.builtin "ArithmeticError.__new__"), k5] := by
        obtain ⟨l⟩ := sl
        simp only at hs
        rw [hs]
      subst hsl
      exact ⟨pe, nm, qn, ns, bs, sn, sub, ab, col, dd, k0, k1, k2, k3, k5, ho⟩
    · cases c
  · cases c
theorem hk_err {P : Program} {x q : Str} {st : Stmt} (e : fnP K (x, some "__init__") = FdP.val ⟨(x, some "__init__"), "__init__", q, st, ["__class__"]⟩) (c : chE P.main.file x q K = true) : ErrAt1 P K x q st (He.ga K x) (inA K x) (ccA K x) (cdA K x) := by
  obtain ⟨a1, c⟩ := bb c
  obtain ⟨a2, c⟩ := bb c
  obtain ⟨a3, c⟩ := bb c
  obtain ⟨a4, c⟩ := bb c
  obtain ⟨a5, c⟩ := bb c
  obtain ⟨a6, c⟩ := bb c
  obtain ⟨a7, c⟩ := bb c
  obtain ⟨a8, c⟩ := bb c
  obtain ⟨a9, c⟩ := bb c
  obtain ⟨b0, c⟩ := bb c
  obtain ⟨b1, c⟩ := bb c
  obtain ⟨b2, c⟩ := bb c
  obtain ⟨b3, c⟩ := bb c
  obtain ⟨b4, c⟩ := bb c
  obtain ⟨b5, c⟩ := bb c
  obtain ⟨b6, c⟩ := bb c
  obtain ⟨b7, c⟩ := bb c
  obtain ⟨b8, c⟩ := bb c
  obtain ⟨b9, c⟩ := bb c
  obtain ⟨d0, d1⟩ := bb c
  refine ⟨chG_ok a1, clsE_ok a2, eqB_ok a3, of_decide_eq_true a4, of_decide_eq_true a5, of_decide_eq_true a6, a7, eqB_ok a8, of_decide_eq_true a9, ?_, b1, ?_, ?_, eqB_ok b4, eqB_ok b5, of_decide_eq_true b6, eqB_ok b7, eqB_ok b8, b9, d0, of_decide_eq_true d1⟩
  · have e : fnP K (x, some "__init__") = FdP.val ⟨(x, some "__init__"), "__init__", q, st, ["__class__"]⟩ := e
    unfold fnP FdP.val at e
    unfold fnE at b0
    have ei : He.fAd K (x, some "__init__") = inA K x := rfl
    rw [ei] at e
    cases h : K.lookup (inA K x) with
    | none => rw [h] at b0; cases b0
    | some o =>
      obtain ⟨oc, od, dt, osl⟩ := o
      rw [h] at e b0
      cases dt with
      | func fd =>
        obtain ⟨n1, n2, n3, n4, n5, n6, n7, n8, n9, n10, n11, n12, n13, n14, n15⟩ := fd
        have e2 : (some (n1, n2, n3, n4, n5, n6, n7.map (·.1), n8, n15) : FnP) = some (("__init__" : Str), q, defArgs st, .stmts (defBody st), defScope st, mainGlobals, (["__class__"] : List Str), .none, builtinsNs) := e
        simp only [Option.some.injEq, Prod.mk.injEq] at e2
        obtain ⟨h1, h2, h3, h4, h5, h6, h7, h8, h9⟩ := e2
        subst h1 h2 h3 h4 h5 h6 h8 h9
        have b0 : codeIsRef n13 = true := b0
        cases n13 with
        | ref c0 =>
          match n7, h7 with
          | [(y, cc0)], h7 =>
            have h7 : y = "__class__" := by simpa using h7
            subst h7
            have q1 : ccA K x = cc0 := by unfold ccA; rw [h]
            have q2 : cdA K x = c0 := by unfold cdA; rw [h]
            rw [q1, q2]
            exact ⟨oc, od, n9, n10, n11, n12, n14, osl, rfl⟩
        | _ => cases b0
      | _ => cases b0
  · unfold cellE at b2
    split at b2
    · rename_i a b D d h
      have : D = He.ga K x := of_decide_eq_true b2
      rw [this] at h
      exact ⟨a, b, d, h⟩
    · cases b2
  · unfold fileE at b3
    split at b3
    · rename_i a b vs d h
      split at b3
      · rename_i f t hv
        exact ⟨a, b, vs, d, f, t, h, hv, b3⟩
      · cases b3
    · cases b3
end
/-! ### a run's equation from its parts -/
section
variable {α β γ : Type} {o : Option α}
theorem map_pair {f : α → β} {g : α → γ} {a : β} {b : γ} (h1 : o.map f = some a) (h2 : o.map g = some b) : o.map (fun s => (f s, g s)) = some (a, b) := by
  cases o with
  | none => cases h1
  | some s =>
    have h1 : some (f s) = some a := h1
    have h2 : some (g s) = some b := h2
    show some (f s, g s) = some (a, b)
    rw [Option.some.inj h1, Option.some.inj h2]
theorem map_and {f g : α → Bool} (h1 : o.map f = some true) (h2 : o.map g = some true) : o.map (fun s => f s && g s) = some true := by
  cases o with
  | none => cases h1
  | some s =>
    have h1 : some (f s) = some true := h1
    have h2 : some (g s) = some true := h2
    show some (f s && g s) = some true
    rw [Option.some.inj h1, Option.some.inj h2]
    rfl
theorem map_app {L1 L2 : List β} {F : α → β → γ} {v : β → γ} (h1 : o.map (fun s => L1.map (F s)) = some (L1.map v)) (h2 : o.map (fun s => L2.map (F s)) = some (L2.map v)) : o.map (fun s => (L1 ++ L2).map (F s)) = some ((L1 ++ L2).map v) := by
  cases o with
  | none => cases h1
  | some s =>
    have h1 : some (L1.map (F s)) = some (L1.map v) := h1
    have h2 : some (L2.map (F s)) = some (L2.map v) := h2
    show some ((L1 ++ L2).map (F s)) = some ((L1 ++ L2).map v)
    rw [List.map_append, List.map_append, Option.some.inj h1, Option.some.inj h2]
end
end Pk
set_option Elab.async false
set_option linter.all false
set_option maxRecDepth 100000
set_option maxHeartbeats 1000000
namespace Pk
open PySem L2
def top (i : Nat) : Stmt := PySem.Challenge.pw_pairorder_k40_whole_fits_or_shortage.main.body.getD i (.Pass ⟨0, 0, 0, 0⟩)
end Pk
set_option Elab.async false
set_option linter.all false
set_option maxRecDepth 100000
set_option maxHeartbeats 0
namespace Pk
open PySem L2 PySem.Spec PyProof.Rows PySem.W PySem.Calls
/-! ### the head: what is looked at -/
def hkCls (i j : Nat) : Stmt := match top i with
  | .ClassDef (body := b) .. => b.getD j (.Pass ⟨0, 0, 0, 0⟩)
  | _ => .Pass ⟨0, 0, 0, 0⟩
def hkFn0 : List FdP := [⟨("own_copy", none), "own_copy", "own_copy", (top 2), []⟩, ⟨("InvalidTable", some "__init__"), "__init__", "InvalidTable.__init__", (hkCls 4 0), ["__class__"]⟩, ⟨("InvalidAmounts", some "__init__"), "__init__", "InvalidAmounts.__init__", (hkCls 5 0), ["__class__"]⟩, ⟨("is_integer", none), "is_integer", "is_integer", (top 10), []⟩, ⟨("is_price", none), "is_price", "is_price", (top 27), []⟩, ⟨("is_row", none), "is_row", "is_row", (top 28), []⟩, ⟨("check_rows", none), "check_rows", "check_rows", (top 29), []⟩, ⟨("check_line_amounts", none), "check_line_amounts", "check_line_amounts", (top 14), []⟩, ⟨("Table", some "__init__"), "__init__", "Table.__init__", (hkCls 32 0), []⟩, ⟨("Table", some "rows"), "rows", "Table.rows", (hkCls 32 14), []⟩, ⟨("Table", some "turned"), "turned", "Table.turned", (hkCls 32 18), []⟩, ⟨("Table", some "stocks"), "stocks", "Table.stocks", (hkCls 32 12), []⟩, ⟨("Table", some "wishes"), "wishes", "Table.wishes", (hkCls 32 13), []⟩, ⟨("Amounts", some "__init__"), "__init__", "Amounts.__init__", (hkCls 16 0), []⟩, ⟨("Amounts", some "stocks"), "stocks", "Amounts.stocks", (hkCls 16 7), []⟩, ⟨("Amounts", some "wishes"), "wishes", "Amounts.wishes", (hkCls 16 8), []⟩, ⟨("Amounts", some "fits_size"), "fits_size", "Amounts.fits_size", (hkCls 16 10), []⟩, ⟨("Amounts", some "over"), "over", "Amounts.over", (hkCls 16 9), []⟩, ⟨("least", none), "least", "least", (top 12), []⟩, ⟨("least_price", none), "least_price", "least_price", (top 19), []⟩, ⟨("Balance", some "__init__"), "__init__", "Balance.__init__", (hkCls 20 0), []⟩, ⟨("Balance", some "gap"), "gap", "Balance.gap", (hkCls 20 1), []⟩, ⟨("Balance", some "settle"), "settle", "Balance.settle", (hkCls 20 2), []⟩, ⟨("Balance", some "search"), "search", "Balance.search", (hkCls 20 3), []⟩, ⟨("Balance", some "takers_after"), "takers_after", "Balance.takers_after", (hkCls 20 4), []⟩, ⟨("Balance", some "givers_after"), "givers_after", "Balance.givers_after", (hkCls 20 5), []⟩, ⟨("Balance", some "extend_to"), "extend_to", "Balance.extend_to", (hkCls 20 6), []⟩, ⟨("Balance", some "raise_worths"), "raise_worths", "Balance.raise_worths", (hkCls 20 7), []⟩, ⟨("Balance", some "reached_givers"), "reached_givers", "Balance.reached_givers", (hkCls 20 8), []⟩, ⟨("Balance", some "reached_takers"), "reached_takers", "Balance.reached_takers", (hkCls 20 9), []⟩, ⟨("check_size", none), "check_size", "check_size", (top 15), []⟩, ⟨("balance_of", none), "balance_of", "balance_of", (top 22), []⟩, ⟨("shortage_in", none), "shortage_in", "shortage_in", (top 23), []⟩, ⟨("shortage", none), "shortage", "shortage", (top 24), []⟩, ⟨("fits", none), "fits", "fits", (top 25), []⟩, ⟨("_law_cell", none), "_law_cell", "_law_cell", (top 34), []⟩, ⟨("_law_mixed", none), "_law_mixed", "_law_mixed", (top 35), []⟩, ⟨("_law_draws", none), "_law_draws", "_law_draws", (top 36), []⟩, ⟨("_law_grid", none), "_law_grid", "_law_grid", (top 37), []⟩, ⟨("_law_copy", none), "_law_copy", "_law_copy", (top 39), []⟩, ⟨("_law_amounts", none), "_law_amounts", "_law_amounts", (top 40), []⟩, ⟨("_law_holds_more", none), "_law_holds_more", "_law_holds_more", (top 41), []⟩, ⟨("_law_any_holds_more", none), "_law_any_holds_more", "_law_any_holds_more", (top 42), []⟩, ⟨("_law_is_list_of", none), "_law_is_list_of", "_law_is_list_of", (top 43), []⟩, ⟨("_law_judged", none), "_law_judged", "_law_judged", (top 44), []⟩, ⟨("law", none), "law", "law", (top 45), []⟩]
def hkFn : List FdP := hkFn0
def hkEx0 (K : PySem.W.Frag) : Bool := chBt K && (chD "own_copy" K && (chE PySem.Challenge.rw_pairorder_k40_whole_fits_or_shortage.prog.main.file "InvalidTable" "InvalidTable.__init__" K && (eqB (PySem.W.findIn K (.ref (He.ga K "InvalidTable")) "at") (some none) && (chE PySem.Challenge.rw_pairorder_k40_whole_fits_or_shortage.prog.main.file "InvalidAmounts" "InvalidAmounts.__init__" K && (eqB (PySem.W.findIn K (.ref (He.ga K "InvalidAmounts")) "word") (some none) && (eqB (PySem.W.findIn K (.ref (He.ga K "InvalidAmounts")) "at") (some none) && (chD "is_integer" K && (chI "MOST_LINES" 8 K && (eqB (PySem.W.nsIn K mainGlobals "all") (some none) && (chD "is_price" K && (chD "is_row" K && (chD "check_rows" K && (chD "check_line_amounts" K && (chG "Table" K && (chM "Table" "__init__" "Table.__init__" K && (true))))))))))))))))
def hkEx1 (K : PySem.W.Frag) : Bool := chM "Table" "rows" "Table.rows" K && (chM "Table" "turned" "Table.turned" K && (chM "Table" "stocks" "Table.stocks" K && (chM "Table" "wishes" "Table.wishes" K && (chO "Table" K && (PySem.W.makesIn K (He.ga K "Table") && (PySem.W.keepIn K (.ref (He.ga K "Table")) && (eqB (PySem.W.findIn K (.ref (He.ga K "Table")) "entries") (some none) && (eqB (PySem.W.findIn K (.ref (He.ga K "Table")) "used") (some none) && (chG "Amounts" K && (chM "Amounts" "__init__" "Amounts.__init__" K && (chM "Amounts" "stocks" "Amounts.stocks" K && (chM "Amounts" "wishes" "Amounts.wishes" K && (chM "Amounts" "fits_size" "Amounts.fits_size" K && (chM "Amounts" "over" "Amounts.over" K && (chO "Amounts" K && (true))))))))))))))))
def hkEx2 (K : PySem.W.Frag) : Bool := PySem.W.makesIn K (He.ga K "Amounts") && (PySem.W.keepIn K (.ref (He.ga K "Amounts")) && (eqB (PySem.W.findIn K (.ref (He.ga K "Amounts")) "held") (some none) && (eqB (PySem.W.findIn K (.ref (He.ga K "Amounts")) "wished") (some none) && (chI "START" (-1) K && (chD "least" K && (chD "least_price" K && (chG "Balance" K && (chM "Balance" "__init__" "Balance.__init__" K && (chM "Balance" "gap" "Balance.gap" K && (chM "Balance" "settle" "Balance.settle" K && (chM "Balance" "search" "Balance.search" K && (chM "Balance" "takers_after" "Balance.takers_after" K && (chM "Balance" "givers_after" "Balance.givers_after" K && (chM "Balance" "extend_to" "Balance.extend_to" K && (chM "Balance" "raise_worths" "Balance.raise_worths" K && (true))))))))))))))))
def hkEx3 (K : PySem.W.Frag) : Bool := chM "Balance" "reached_givers" "Balance.reached_givers" K && (chM "Balance" "reached_takers" "Balance.reached_takers" K && (chO "Balance" K && (PySem.W.makesIn K (He.ga K "Balance") && (PySem.W.keepIn K (.ref (He.ga K "Balance")) && (eqB (PySem.W.findIn K (.ref (He.ga K "Balance")) "entries") (some none) && (eqB (PySem.W.findIn K (.ref (He.ga K "Balance")) "spare") (some none) && (eqB (PySem.W.findIn K (.ref (He.ga K "Balance")) "lacking") (some none) && (eqB (PySem.W.findIn K (.ref (He.ga K "Balance")) "sent") (some none) && (eqB (PySem.W.findIn K (.ref (He.ga K "Balance")) "giver_worths") (some none) && (eqB (PySem.W.findIn K (.ref (He.ga K "Balance")) "taker_worths") (some none) && (eqB (PySem.W.findIn K (.ref (He.ga K "Balance")) "giver_ways") (some none) && (eqB (PySem.W.findIn K (.ref (He.ga K "Balance")) "taker_ways") (some none) && (chD "check_size" K && (chD "balance_of" K && (chD "shortage_in" K && (true))))))))))))))))
def hkEx4 (K : PySem.W.Frag) : Bool := chD "shortage" K && (chD "fits" K && (chD "_law_cell" K && (chD "_law_mixed" K && (chD "_law_draws" K && (chD "_law_grid" K && (chD "_law_copy" K && (chD "_law_amounts" K && (chD "_law_holds_more" K && (chD "_law_any_holds_more" K && (chD "_law_is_list_of" K && (chD "_law_judged" K && (chD "law" K && (true)))))))))))))
def hkEx (K : PySem.W.Frag) : Bool := hkEx0 K && (hkEx1 K && (hkEx2 K && (hkEx3 K && (hkEx4 K))))
def hkNames0 : List Str := ["_wall", "__name__", "own_copy", "PairError", "InvalidTable", "InvalidAmounts", "InvalidPair", "InvalidBound", "MOST_LINES", "is_integer"]
def hkNames1 : List Str := ["is_two", "least", "check_line_amounts", "check_size", "Amounts", "START", "least_price", "Balance", "balance_of", "shortage_in"]
def hkNames2 : List Str := ["shortage", "fits", "is_price", "is_row", "check_rows", "price_sum", "price_times", "Table", "_law_cell", "_law_mixed"]
def hkNames3 : List Str := ["_law_draws", "_law_grid", "_law_spots", "_law_copy", "_law_amounts", "_law_holds_more", "_law_any_holds_more", "_law_is_list_of", "_law_judged"]
def hkNames : List Str := hkNames0 ++ (hkNames1 ++ (hkNames2 ++ (hkNames3)))
abbrev hkR : PySem.W.OpenRow := PySem.W.OpenLaw.row PySem.Challenge.rw_pairorder_k40_whole_fits_or_shortage
abbrev hkH : PySem.W.Hook := hookP 4 hkFn hkEx
def hkOb (s : PySem.W.SharedT) : Bool × List FnP := obsPG 4 hkFn hkEx (HandSHeadRun.getT s)
theorem hkOb_eq (s : PySem.W.SharedT) : hkOb s = hkH.obs s.abs := obsPG_eq (HandSHeadRun.getT_eq s)
noncomputable abbrev hkS (w : World) (os : OsState) : Option PySem.W.SharedT := HandSHeadRun.endF (HandSHeadRun.stepQ (HandSHeadRun.denQ HandSHeadRun.tabQ) hkR.prog w) 12000 hkR.prog w os
def hkK (s : PySem.W.SharedT) : PySem.W.Frag := He.frG (HandSHeadRun.getT s) (asP (HandSHeadRun.getT s) 4)
theorem hkRunA (w : World) (os : OsState) : (hkS w os).map (fun s => (HandSHeadRun.looksF hkR.prog (boot_heap w.params) s.abs, HandSHeadRun.seenQ (PySem.W.view hkR.prog [45]) hkNames (importedModules hkR.prog.main.body) (fun s => PySem.W.xlAt (PySem.W.view hkR.prog [45]) [] s && PySem.W.recOk hkR.toRowW.records s) s.abs)) = some (true, PySem.W.openGood (PySem.W.view hkR.prog [45]) hkNames) := by kernel_rfl
theorem hkE0 (w : World) (os : OsState) : (hkS w os).map (fun s => hkEx0 (hkK s)) = some true := by kernel_rfl
theorem hkE1 (w : World) (os : OsState) : (hkS w os).map (fun s => hkEx1 (hkK s)) = some true := by kernel_rfl
theorem hkE2 (w : World) (os : OsState) : (hkS w os).map (fun s => hkEx2 (hkK s)) = some true := by kernel_rfl
theorem hkE3 (w : World) (os : OsState) : (hkS w os).map (fun s => hkEx3 (hkK s)) = some true := by kernel_rfl
theorem hkE4 (w : World) (os : OsState) : (hkS w os).map (fun s => hkEx4 (hkK s)) = some true := by kernel_rfl
theorem hkF0 (w : World) (os : OsState) : (hkS w os).map (fun s => hkFn0.map fun d => fnP (hkK s) d.at_) = some (hkFn0.map FdP.val) := by kernel_rfl
theorem hkRun (w : World) : HandSHeadRun.RunEq hkR (PySem.W.view hkR.prog [45]) hkH hkOb 12000 hkNames w := by
  intro os
  have a := hkRunA w os
  have e : (hkS w os).map (fun s => hkEx (hkK s)) = some true := map_and (hkE0 w os) (map_and (hkE1 w os) (map_and (hkE2 w os) (map_and (hkE3 w os) (hkE4 w os))))
  have f : (hkS w os).map (fun s => hkFn.map fun d => fnP (hkK s) d.at_) = some (hkFn.map FdP.val) := hkF0 w os
  have o : (hkS w os).map hkOb = some (valP hkFn) := map_pair e f
  cases q : hkS w os with
  | none => rw [q] at a; cases a
  | some s =>
    rw [q] at a o
    have a := Option.some.inj (show some (_, _) = some (_, _) from a)
    have o : hkOb s = valP hkFn := Option.some.inj o
    show (hkS w os).map _ = _
    rw [q]
    show some (_, _, hkOb s) = some (true, _, valP hkFn)
    rw [o, (Prod.mk.inj a).1, (Prod.mk.inj a).2]
end Pk
set_option Elab.async false
set_option linter.all false
set_option maxRecDepth 100000
set_option maxHeartbeats 1000000
namespace Pk
open PySem L2 PySem.Spec PyProof.Rows
/-! ### <, <=, >, >= and in, over data -/
section
variable {X : Cx}
/-- two data that may be compared, of no great depth -/
def Cmpr (K : PySem.W.Frag) (H : Hp) (x y : V) (d e : PyData) : Prop := Dp K H x d ∧ Dp K H y e ∧ PySem.W.alike d e = true ∧ d ≠ .none ∧ d.depth ≤ 32
def rCmpD (K : PySem.W.Frag) (g : PyData → PyData → Bool) : R2 := fun x y H Q => ∃ d e, Cmpr K H x y d e ∧ Q (.bl (g d e)) H
theorem op_ltD (hu : X.A.units + 64 < cLine) : OpR X (compareOp .Lt) (rCmpD X.K fun d e => PySem.W.dataLt d e) := by
  intro pins s σ H x y v u Q I rx ry h
  obtain ⟨d, e, ⟨hd, he, al, nn, dl⟩, q⟩ := h
  obtain ⟨as, r1⟩ := Dp.reads I d x v hd rx
  obtain ⟨bs, r2⟩ := Dp.reads I e y u he ry
  exact PySem.W.lt_data r1 r2 al nn (by omega) ⟨.bl _, H, I, rfl, q⟩
theorem op_gtD (hu : X.A.units + 64 < cLine) : OpR X (compareOp .Gt) (rCmpD X.K fun d e => PySem.W.dataLt e d) := by
  intro pins s σ H x y v u Q I rx ry h
  obtain ⟨d, e, ⟨hd, he, al, nn, dl⟩, q⟩ := h
  obtain ⟨as, r1⟩ := Dp.reads I d x v hd rx
  obtain ⟨bs, r2⟩ := Dp.reads I e y u he ry
  exact PySem.W.gt_data r1 r2 al nn (by omega) ⟨.bl _, H, I, rfl, q⟩
theorem op_leD (hu : X.A.units + 64 < cLine) : OpR X (compareOp .LtE) (rCmpD X.K fun d e => !PySem.W.dataLt e d) := by
  intro pins s σ H x y v u Q I rx ry h
  obtain ⟨d, e, ⟨hd, he, al, nn, dl⟩, q⟩ := h
  obtain ⟨as, r1⟩ := Dp.reads I d x v hd rx
  obtain ⟨bs, r2⟩ := Dp.reads I e y u he ry
  exact PySem.W.le_data r1 r2 al nn (by omega) ⟨.bl _, H, I, rfl, q⟩
theorem op_geD (hu : X.A.units + 64 < cLine) : OpR X (compareOp .GtE) (rCmpD X.K fun d e => !PySem.W.dataLt d e) := by
  intro pins s σ H x y v u Q I rx ry h
  obtain ⟨d, e, ⟨hd, he, al, nn, dl⟩, q⟩ := h
  obtain ⟨as, r1⟩ := Dp.reads I d x v hd rx
  obtain ⟨bs, r2⟩ := Dp.reads I e y u he ry
  exact PySem.W.ge_data r1 r2 al nn (by omega) ⟨.bl _, H, I, rfl, q⟩
end
/-! ### lists of pairs of ints -/
abbrev Pr := Int × Int
def prD (z : Pr) : PyData := .tuple [.int z.1, .int z.2]
def prsD (zs : List Pr) : PyData := .list (zs.map prD)
/-- one pair goes ahead of another -/
def prLt (x y : Pr) : Bool := decide (x.1 < y.1) || (decide (x.1 = y.1) && decide (x.2 < y.2))
def lexB : List Pr → List Pr → Bool
  | [], [] => false
  | [], _ :: _ => true
  | _ :: _, [] => false
  | x :: xs, y :: ys => if x = y then lexB xs ys else prLt x y
theorem pr_alike (x y : Pr) : PySem.W.alike (prD x) (prD y) = true := rfl
theorem prs_alike : ∀ xs ys : List Pr, PySem.W.alikeAll (xs.map prD) (ys.map prD) = true
  | [], _ => by cases ‹List Pr› <;> rfl
  | _ :: _, [] => rfl
  | x :: xs, y :: ys => by
    show (PySem.W.alike (prD x) (prD y) && PySem.W.alikeAll (xs.map prD) (ys.map prD)) = true
    rw [pr_alike, prs_alike xs ys]
    rfl
theorem pr_eqv (x y : Pr) : PyData.eqv (prD x) (prD y) = decide (x = y) := PySem.W.Datum.eqv (α := Int × Int) x y
theorem prs_eqv (xs ys : List Pr) : PyData.eqv (prsD xs) (prsD ys) = decide (xs = ys) := PySem.W.Datum.eqv (α := List (Int × Int)) xs ys
theorem pr_lt (x y : Pr) (n : x ≠ y) : PySem.W.dataLt (prD x) (prD y) = prLt x y := by
  obtain ⟨a, b⟩ := x
  obtain ⟨c, d⟩ := y
  show PySem.W.dataLt (.tuple [.int a, .int b]) (.tuple [.int c, .int d]) = _
  rw [PySem.W.dataLt_tuple]
  by_cases e : a = c
  · subst e
    rw [PySem.W.dataLt_all_yes rfl (by simp [PyData.eqv])]
    have e2 : b ≠ d := fun z => n (by rw [z])
    rw [PySem.W.dataLt_all_no rfl (by simp [PyData.eqv, e2]), PySem.W.dataLt_int]
    simp [prLt]
  · rw [PySem.W.dataLt_all_no rfl (by simp [PyData.eqv, e]), PySem.W.dataLt_int]
    simp [prLt, e]
theorem prs_lt : ∀ xs ys : List Pr, PyProof.Rows.lexLt PyProof.Rows.itemOrd (PySem.W.keyToksAll (xs.map prD)) (PySem.W.keyToksAll (ys.map prD)) = lexB xs ys
  | [], [] => by decide +kernel
  | [], y :: ys => (PyProof.Rows.lex_diff (O := PyProof.Rows.itemOrd) (x := .inl 0) (y := .inl 1) (by decide)).trans rfl
  | x :: xs, [] => (PyProof.Rows.lex_diff (O := PyProof.Rows.itemOrd) (x := .inl 1) (y := .inl 0) (by decide)).trans rfl
  | x :: xs, y :: ys => by
    rw [List.map_cons, List.map_cons, lexB]
    by_cases e : x = y
    · rw [if_pos e, PySem.W.dataLt_all_yes (pr_alike x y) (by rw [pr_eqv, decide_eq_true e]), prs_lt xs ys]
    · rw [if_neg e, PySem.W.dataLt_all_no (pr_alike x y) (by rw [pr_eqv, decide_eq_false e]), pr_lt x y e]
theorem prsLt (xs ys : List Pr) : PySem.W.dataLt (prsD xs) (prsD ys) = lexB xs ys := by
  rw [prsD, prsD, PySem.W.dataLt_list]
  exact prs_lt xs ys
end Pk
set_option Elab.async false
set_option linter.all false
set_option maxRecDepth 100000
set_option maxHeartbeats 1000000
namespace Pk
open PySem L2 PySem.Spec PyProof.Rows
theorem pr_depth (z : Pr) : (prD z).depth ≤ 1 := by
  obtain ⟨a, b⟩ := z
  simp [prD, PyData.depth, PyData.depthAll]
theorem prs_depthAll : ∀ zs : List Pr, PyData.depthAll (zs.map prD) ≤ 1
  | [] => by simp [PyData.depthAll]
  | z :: zs => by
    have h1 := prs_depthAll zs
    have h2 := pr_depth z
    simp only [List.map_cons, PyData.depthAll]
    omega
theorem prs_depth (zs : List Pr) : (prsD zs).depth ≤ 2 := by
  have h := prs_depthAll zs
  simp only [prsD, PyData.depth]
  omega
theorem pr_lay (z : Pr) : (prD z).canLay0 = true := by
  obtain ⟨a, b⟩ := z
  simp [prD, PyData.canLay0, PyData.canLayAll0]
theorem prs_layAll : ∀ zs : List Pr, PyData.canLayAll0 (zs.map prD) = true
  | [] => by simp [PyData.canLayAll0]
  | z :: zs => by simp [PyData.canLayAll0, prs_layAll zs, pr_lay z]
theorem pr_shaped (z : Pr) : SeqAt.shaped (prD z) = true := by
  have h := pr_depth z
  simp only [SeqAt.shaped, pr_lay z, Bool.true_and]
  exact decide_eq_true (by omega)
theorem prs_shaped (zs : List Pr) : SeqAt.shaped (prsD zs) = true := by
  have h := prs_depth zs
  have e : (prsD zs).canLay0 = true := by simp only [prsD, PyData.canLay0]; exact prs_layAll zs
  simp only [SeqAt.shaped, e, Bool.true_and]
  exact decide_eq_true (by omega)
theorem pr_plain (z : Pr) : (prD z).plain = true := PySem.W.Datum.plain (α := Int × Int) z
theorem prs_plainAll (zs : List Pr) : PyData.plainAll (zs.map prD) = true := PySem.W.plainAll_map (α := Int × Int) zs
/-- x in a list of pairs -/
def rInP (K : PySem.W.Frag) : R2 := fun x y H Q => ∃ z zs, Dp K H x (prD z) ∧ Dp K H y (prsD zs) ∧ Q (.bl (decide (z ∈ zs))) H
theorem op_inP {X : Cx} (hu : X.A.units + 64 < cLine) : OpR X (compareOp .In) (rInP X.K) := by
  intro pins s σ H x y v u Q I rx ry h
  obtain ⟨z, zs, hd, he, q⟩ := h
  obtain ⟨as, r1⟩ := Dp.reads I _ x v hd rx
  obtain ⟨bs, r2⟩ := Dp.reads I _ y u he ry
  have h1 := prs_depthAll zs
  refine SeqAt.in_list_data r2 r1 (prs_plainAll zs) (pr_plain z) (by omega) ⟨.bl _, H, I, rfl, ?_⟩
  have e := PySem.W.any_datum (α := Int × Int) zs z
  rw [show ((zs.map prD).any fun y => PyData.eqv y (prD z)) = decide (z ∈ zs) from e.trans (decide_eq_decide.mpr Iff.rfl)]
  exact q
/-! ### pairs on the heap -/
/-- the pair z, none of the pool's -/
def PrAt (p : Addr) (H : Hp) (v : V) (z : Pr) : Prop := ∃ t, v = .ref t ∧ t ≠ p ∧ H t = some (.tup [.int z.1, .int z.2])
inductive PrsAt (p : Addr) (H : Hp) : List V → List Pr → Prop
  | nil : PrsAt p H [] []
  | cons {v : V} {z : Pr} {vs : List V} {zs : List Pr} (h : PrAt p H v z) (r : PrsAt p H vs zs) : PrsAt p H (v :: vs) (z :: zs)
section
variable {p : Addr} {H H' : Hp} {v : V} {z : Pr} {vs us : List V} {zs ys : List Pr} {K : PySem.W.Frag} {i : Nat}
theorem PrAt.keep (h : PrAt p H v z) (k : Keep p H H') : PrAt p H' v z := by
  obtain ⟨t, e, n, h⟩ := h
  exact ⟨t, e, n, k _ _ n h⟩
theorem PrsAt.keep (h : PrsAt p H vs zs) (k : Keep p H H') : PrsAt p H' vs zs := by
  induction h with
  | nil => exact .nil
  | cons h _ ih => exact .cons (h.keep k) ih
theorem PrsAt.mono (h : PrsAt p H vs zs) (k : ∀ t xs, H t = some (.tup xs) → H' t = some (.tup xs)) : PrsAt p H' vs zs := by
  induction h with
  | nil => exact .nil
  | cons h _ ih =>
    obtain ⟨t, e, n, h⟩ := h
    exact .cons ⟨t, e, n, k _ _ h⟩ ih
theorem PrsAt.mono2 (h : PrsAt p H vs zs) (k : ∀ t xs, t ≠ p → H t = some (.tup xs) → H' t = some (.tup xs)) : PrsAt p H' vs zs := by
  induction h with
  | nil => exact .nil
  | cons h _ ih =>
    obtain ⟨t, e, n, h⟩ := h
    exact .cons ⟨t, e, n, k _ _ n h⟩ ih
theorem r_rng3 {σ : L2.St} {ta : TA} {R : It → Hp → Prop} (h : ta σ H fun vs H1 => ∃ (i j c : Int) (n : Nat), vs = [.int i, .int j, .int c] ∧ RgC i j c n ∧ R (Itc i c n) H1) : iRng3 ta σ H R := h
theorem PrsAt.length (h : PrsAt p H vs zs) : vs.length = zs.length := by
  induction h with
  | nil => rfl
  | cons _ _ ih => rw [List.length_cons, List.length_cons, ih]
theorem PrAt.dp (h : PrAt p H v z) : Dp K H v (prD z) := by
  obtain ⟨t, rfl, n, h⟩ := h
  exact .tup (SqT.of h) (.cons (.int _) (.cons (.int _) .nil))
theorem PrsAt.dp (h : PrsAt p H vs zs) : DpAll K H vs (zs.map prD) := by
  induction h with
  | nil => exact .nil
  | cons h _ ih => exact .cons h.dp ih
theorem PrsAt.at (h : PrsAt p H vs zs) : ∀ {i : Nat} {v : V}, vs[i]? = some v → ∃ z, zs[i]? = some z ∧ PrAt p H v z := by
  induction h with
  | nil => intro i v e; simp at e
  | cons h _ ih =>
    intro i v e
    cases i with
    | zero => exact ⟨_, rfl, by cases (Option.some.inj e); exact h⟩
    | succ i => exact ih (by simpa using e)
theorem PrsAt.get (h : PrsAt p H vs zs) : ∀ {i : Nat} {z : Pr}, zs[i]? = some z → ∃ v, vs[i]? = some v ∧ PrAt p H v z := by
  induction h with
  | nil => intro i v e; simp at e
  | cons h _ ih =>
    intro i v e
    cases i with
    | zero => exact ⟨_, rfl, by cases (Option.some.inj e); exact h⟩
    | succ i => exact ih (by simpa using e)
theorem PrsAt.take (h : PrsAt p H vs zs) : ∀ n, PrsAt p H (vs.take n) (zs.take n) := by
  induction h with
  | nil => intro n; cases n <;> exact .nil
  | cons h _ ih =>
    intro n
    cases n with
    | zero => exact .nil
    | succ n => exact .cons h (ih n)
theorem PrsAt.drop (h : PrsAt p H vs zs) : ∀ n, PrsAt p H (vs.drop n) (zs.drop n) := by
  induction h with
  | nil => intro n; cases n <;> exact .nil
  | cons h r ih =>
    intro n
    cases n with
    | zero => exact .cons h r
    | succ n => exact ih n
theorem PrsAt.app (h : PrsAt p H vs zs) (g : PrsAt p H us ys) : PrsAt p H (vs ++ us) (zs ++ ys) := by
  induction h with
  | nil => exact g
  | cons h _ ih => exact .cons h ih
theorem PrsAt.set (h : PrsAt p H vs zs) (g : PrAt p H v z) : ∀ i, PrsAt p H (vs.set i v) (zs.set i z) := by
  induction h with
  | nil => intro i; exact .nil
  | cons h r ih =>
    intro i
    cases i with
    | zero => exact .cons g r
    | succ i => exact .cons h (ih i)
end
/-- a list of pairs, none of the pool's -/
structure PL (p : Addr) (H : Hp) (a : Addr) (zs : List Pr) : Prop where
  ne : a ≠ p
  ex : ∃ vs, H a = some (.lst vs) ∧ PrsAt p H vs zs
section
variable {p a : Addr} {H H' : Hp} {zs : List Pr} {K : PySem.W.Frag}
theorem PL.keep (h : PL p H a zs) (k : Keep p H H') : PL p H' a zs := by
  obtain ⟨n, vs, e, r⟩ := h
  exact ⟨n, vs, k _ _ n e, r.keep k⟩
theorem PL.same (h : PL p H a zs) (k : Same H H') : PL p H' a zs := h.keep (Keep.same k)
theorem PL.dp (h : PL p H a zs) : Dp K H (.ref a) (prsD zs) := by
  obtain ⟨n, vs, e, r⟩ := h
  exact .lst (SqL.of e) r.dp
end
/-! ### the order of lists of pairs -/
theorem prLt_tri (x y : Pr) (n : x ≠ y) : prLt x y = !prLt y x := by
  obtain ⟨a, b⟩ := x
  obtain ⟨c, d⟩ := y
  simp only [prLt]
  by_cases h1 : a < c
  · have : ¬ c < a := by omega
    have : ¬ c = a := by omega
    simp [h1, *]
  · by_cases h2 : a = c
    · subst h2
      have : b ≠ d := fun z => n (by rw [z])
      by_cases h3 : b < d
      · have : ¬ d < b := by omega
        simp [h3, this]
      · have : d < b := by omega
        simp [h3, this]
    · have : c < a := by omega
      simp [h1, h2, this]
theorem prLt_trans {x y z : Pr} (h : prLt x y = true) (g : prLt y z = true) : prLt x z = true := by
  simp only [prLt, Bool.or_eq_true, Bool.and_eq_true, decide_eq_true_eq] at *
  omega
theorem prLt_irr (x : Pr) : prLt x x = false := by simp [prLt]
theorem lexB_self : ∀ xs : List Pr, lexB xs xs = false
  | [] => rfl
  | x :: xs => by rw [lexB, if_pos rfl, lexB_self xs]
theorem lexB_tri : ∀ xs ys : List Pr, xs ≠ ys → lexB xs ys = !lexB ys xs
  | [], [], n => absurd rfl n
  | [], _ :: _, _ => rfl
  | _ :: _, [], _ => rfl
  | x :: xs, y :: ys, n => by
    rw [lexB, lexB]
    by_cases e : x = y
    · subst e
      rw [if_pos rfl, if_pos rfl]
      exact lexB_tri xs ys fun z => n (by rw [z])
    · rw [if_neg e, if_neg (Ne.symm e)]
      exact prLt_tri x y e
theorem lexB_trans : ∀ xs ys zs : List Pr, lexB xs ys = true → lexB ys zs = true → lexB xs zs = true
  | [], [], _, h, _ => by cases h
  | [], _ :: _, [], _, g => by cases g
  | [], _ :: _, _ :: _, _, _ => rfl
  | _ :: _, [], _, h, _ => by cases h
  | _ :: _, _ :: _, [], _, g => by cases g
  | x :: xs, y :: ys, z :: zs, h, g => by
    rw [lexB] at h g ⊢
    by_cases e : x = y
    · subst e
      rw [if_pos rfl] at h
      by_cases e2 : x = z
      · subst e2
        rw [if_pos rfl] at g ⊢
        exact lexB_trans xs ys zs h g
      · rw [if_neg e2] at g ⊢
        exact g
    · rw [if_neg e] at h
      by_cases e2 : y = z
      · subst e2
        rw [if_neg e]
        exact h
      · rw [if_neg e2] at g
        have t := prLt_trans h g
        have : x ≠ z := fun q => by rw [q, prLt_irr] at t; cases t
        rw [if_neg this]
        exact t
end Pk
set_option Elab.async false
set_option linter.all false
set_option maxRecDepth 100000
set_option maxHeartbeats 1000000
namespace Pk
open PySem L2 PySem.Spec PyProof.Rows
/-! ### what kind of data -/
def isID : PyData → Bool | .int _ => true | _ => false
def isIB : PyData → Bool | .int _ => true | .bool _ => true | _ => false
def isBD : PyData → Bool | .bool _ => true | _ => false
def isTD : PyData → Bool | .tuple _ => true | _ => false
def isLD : PyData → Bool | .list _ => true | _ => false
theorem kit_i (d : PyData) : kitB (kindOf d) "int" = some (isIB d) := by
  cases d with
  | none => exact (by decide +kernel : kitB "NoneType" "int" = some false)
  | bool b => exact (by decide +kernel : kitB "bool" "int" = some true)
  | int i => exact (by decide +kernel : kitB "int" "int" = some true)
  | str z => exact (by decide +kernel : kitB "str" "int" = some false)
  | list ds => exact (by decide +kernel : kitB "list" "int" = some false)
  | tuple ds => exact (by decide +kernel : kitB "tuple" "int" = some false)
  | dict kv => exact (by decide +kernel : kitB "object" "int" = some false)
theorem kit_b (d : PyData) : kitB (kindOf d) "bool" = some (isBD d) := by
  cases d with
  | none => exact (by decide +kernel : kitB "NoneType" "bool" = some false)
  | bool b => exact (by decide +kernel : kitB "bool" "bool" = some true)
  | int i => exact (by decide +kernel : kitB "int" "bool" = some false)
  | str z => exact (by decide +kernel : kitB "str" "bool" = some false)
  | list ds => exact (by decide +kernel : kitB "list" "bool" = some false)
  | tuple ds => exact (by decide +kernel : kitB "tuple" "bool" = some false)
  | dict kv => exact (by decide +kernel : kitB "object" "bool" = some false)
theorem kit_t (d : PyData) : kitB (kindOf d) "tuple" = some (isTD d) := by
  cases d with
  | none => exact (by decide +kernel : kitB "NoneType" "tuple" = some false)
  | bool b => exact (by decide +kernel : kitB "bool" "tuple" = some false)
  | int i => exact (by decide +kernel : kitB "int" "tuple" = some false)
  | str z => exact (by decide +kernel : kitB "str" "tuple" = some false)
  | list ds => exact (by decide +kernel : kitB "list" "tuple" = some false)
  | tuple ds => exact (by decide +kernel : kitB "tuple" "tuple" = some true)
  | dict kv => exact (by decide +kernel : kitB "object" "tuple" = some false)
theorem kit_l (d : PyData) : kitB (kindOf d) "list" = some (isLD d) := by
  cases d with
  | none => exact (by decide +kernel : kitB "NoneType" "list" = some false)
  | bool b => exact (by decide +kernel : kitB "bool" "list" = some false)
  | int i => exact (by decide +kernel : kitB "int" "list" = some false)
  | str z => exact (by decide +kernel : kitB "str" "list" = some false)
  | list ds => exact (by decide +kernel : kitB "list" "list" = some true)
  | tuple ds => exact (by decide +kernel : kitB "tuple" "list" = some false)
  | dict kv => exact (by decide +kernel : kitB "object" "list" = some false)
section
variable {K : PySem.W.Frag} {H : Hp} {Q : VK} {v : V} {d : PyData} {ds : List PyData}
theorem r_isDI (h : Dp K H v d) (q : Q (.bl (isIB d)) H) : rIsi K [v, .ty "int"] H Q := r_isi (Dp.kind h) (kit_i d) q
theorem r_isDB (h : Dp K H v d) (q : Q (.bl (isBD d)) H) : rIsi K [v, .ty "bool"] H Q := r_isi (Dp.kind h) (kit_b d) q
theorem r_isDT (h : Dp K H v d) (q : Q (.bl (isTD d)) H) : rIsi K [v, .ty "tuple"] H Q := r_isi (Dp.kind h) (kit_t d) q
theorem r_isDL (h : Dp K H v d) (q : Q (.bl (isLD d)) H) : rIsi K [v, .ty "list"] H Q := r_isi (Dp.kind h) (kit_l d) q
theorem Dp.tupAt (h : Dp K H v (.tuple ds)) : ∃ t vs, v = .ref t ∧ SqT K H t vs ∧ DpAll K H vs ds := by
  cases h with
  | tup h1 h2 => exact ⟨_, _, rfl, h1, h2⟩
theorem Dp.lstAt (h : Dp K H v (.list ds)) : ∃ t vs, v = .ref t ∧ SqL K H t vs ∧ DpAll K H vs ds := by
  cases h with
  | lst h1 h2 => exact ⟨_, _, rfl, h1, h2⟩
theorem DpAll.len : ∀ {vs : List V} {ds : List PyData}, DpAll K H vs ds → vs.length = ds.length
  | _, _, .nil => rfl
  | _, _, .cons _ t => by rw [List.length_cons, List.length_cons, DpAll.len t]
theorem DpAll.at : ∀ {vs : List V} {ds : List PyData}, DpAll K H vs ds → ∀ {i : Nat} {v : V}, vs[i]? = some v → ∃ d, ds[i]? = some d ∧ Dp K H v d
  | _, _, .nil, i, v, e => by simp at e
  | _, _, .cons h t, 0, v, e => ⟨_, rfl, by cases (Option.some.inj e); exact h⟩
  | _, _, .cons h t, i + 1, v, e => DpAll.at t (by simpa using e)
theorem DpAll.get : ∀ {vs : List V} {ds : List PyData}, DpAll K H vs ds → ∀ {i : Nat} {d : PyData}, ds[i]? = some d → ∃ v, vs[i]? = some v ∧ Dp K H v d
  | _, _, .nil, i, v, e => by simp at e
  | _, _, .cons h t, 0, v, e => ⟨_, rfl, by cases (Option.some.inj e); exact h⟩
  | _, _, .cons h t, i + 1, v, e => DpAll.get t (by simpa using e)
theorem DpAll.take : ∀ {vs : List V} {ds : List PyData}, DpAll K H vs ds → ∀ n, DpAll K H (vs.take n) (ds.take n)
  | _, _, .nil, n => by cases n <;> exact .nil
  | _, _, .cons h t, 0 => .nil
  | _, _, .cons h t, n + 1 => .cons h (DpAll.take t n)
theorem DpAll.drop : ∀ {vs : List V} {ds : List PyData}, DpAll K H vs ds → ∀ n, DpAll K H (vs.drop n) (ds.drop n)
  | _, _, .nil, n => by cases n <;> exact .nil
  | _, _, .cons h t, 0 => .cons h t
  | _, _, .cons h t, n + 1 => DpAll.drop t n
theorem DpAll.app : ∀ {vs us : List V} {ds es : List PyData}, DpAll K H vs ds → DpAll K H us es → DpAll K H (vs ++ us) (ds ++ es)
  | _, _, _, _, .nil, g => g
  | _, _, _, _, .cons h t, g => .cons h (DpAll.app t g)
end
/-! ### in a list, over data; a list of data that can be compared -/
structure Small (ds : List PyData) : Prop where
  plain : PyData.plainAll ds = true
  deep : PyData.depthAll ds ≤ 8
def rInD (K : PySem.W.Frag) (neg : Bool) : R2 := fun x y H Q => ∃ d ds, Dp K H x d ∧ Dp K H y (.list ds) ∧ d.plain = true ∧ Small ds ∧ Q (.bl (if neg then !(ds.any fun e => PyData.eqv e d) else ds.any fun e => PyData.eqv e d)) H
theorem op_inD {X : Cx} (hu : X.A.units + 64 < cLine) : OpR X (compareOp .In) (rInD X.K false) := by
  intro pins s σ H x y v u Q I rx ry h
  obtain ⟨d, ds, hd, he, pd, sm, q⟩ := h
  obtain ⟨as, r1⟩ := Dp.reads I _ x v hd rx
  obtain ⟨bs, r2⟩ := Dp.reads I _ y u he ry
  have h1 := sm.deep
  exact SeqAt.in_list_data r2 r1 sm.plain pd (by omega) ⟨.bl _, H, I, rfl, q⟩
end Pk
set_option Elab.async false
set_option linter.all false
set_option maxRecDepth 100000
set_option maxHeartbeats 1000000
namespace Pk
open PySem L2 PySem.Spec PyProof.Rows
/-! ### an object is made where what is raised is wished for at the caller's slots -/
def tMakeS (C : Addr) (sp : Sp) (E : L2.St → XK) (t : TA) : TE := fun σ H Q => t σ H fun zs H1 => ∀ y dy, H1 y = none → H1 dy = none → dy ≠ y →
  sp (.ref y :: zs) (upd (upd H1 dy (.own y)) y (.ins C dy [])) (fun r H2 => r = .non ∧ Q (.ref y) H2) (E σ)
theorem r_makeS {C : Addr} {sp : Sp} {E : L2.St → XK} {t : TA} {σ : L2.St} {H : Hp} {Q : VK} (h : t σ H fun zs H1 => ∀ y dy, H1 y = none → H1 dy = none → dy ≠ y → sp (.ref y :: zs) (upd (upd H1 dy (.own y)) y (.ins C dy [])) (fun r H2 => r = .non ∧ Q (.ref y) H2) (E σ)) : tMakeS C sp E t σ H Q := h
section
variable {X : Cx} {CX : CXT} {k : Nat} {f C : Addr} {fd : FuncData} {ps : List Str} {sp : Sp} {E : L2.St → XK}
theorem made_at {pins : List (Addr × Obj)} {τ : L2.St} {G : Hp} {sh : Shared} {R : VK} {as : List Value} {zs : List V} (mk : Mk X.K C f) (ok : FnOk X.prog X.w X.K X.mg X.base CX k f fd ps sp) (room : Room (k + 1) X.A) (bd : Binds X.K fd ps []) (px : PassesAt CX X τ (E τ)) (J : Inv X pins τ G sh) (rl : Vals zs as)
    (want : ∀ y dy, G y = none → G dy = none → dy ≠ y → sp (.ref y :: zs) (upd (upd G dy (.own y)) y (.ins C dy [])) (fun r H2 => r = .non ∧ R (.ref y) H2) (E τ)) : wpAny (model X.prog X.w) X.A (call (.ref C) as) (EP X pins τ R) X.xe sh := by
  have w1 := want (sh.heap.objs.size + 1) sh.heap.objs.size (J.hok.fresh (Nat.le_succ _)) (J.hok.fresh (Nat.le_refl _)) (Nat.ne_of_lt (Nat.lt_succ_self _))
  have J2 := Inv.made (C := C) J
  have rl2 : Vals (V.ref (sh.heap.objs.size + 1) :: zs) (Value.ref (sh.heap.objs.size + 1) :: as) := .cons rfl rl
  have len : (Value.ref (sh.heap.objs.size + 1) :: as ++ []).length = ps.length := by
    rw [List.append_nil]
    exact rl2.length.symm.trans (ok.len _ _ _ _ w1)
  have b2 := bd _ (Value.ref (sh.heap.objs.size + 1) :: as) J2.kIn len
  rw [List.append_nil] at b2
  refine wpAny_call (make_map (f := f) J.kIn mk.makes mk.init (beq_iff_eq.mp mk.fn) (codeAny_mono (ok.run _ X.stack _ _ ⟨Value.ref (sh.heap.objs.size + 1) :: as, []⟩
    (Value.ref (sh.heap.objs.size + 1) :: as) _ _ (E τ) (room.make C as []) (J2.env0.make C as []) b2 rl2 w1) fun fin t ht => ?_))
  rcases fin with er | fl
  · exact px pins _ _ er t J2 ht
  · cases fl with
    | ret u =>
      obtain ⟨r, G', J3, rr, er, q3⟩ := J2.after ht
      subst er
      exact ⟨rr, ⟨V.ref (sh.heap.objs.size + 1), G', J3, rfl, q3⟩⟩
    | next => exact ht.elim
    | brk => exact ht.elim
    | cont => exact ht.elim
end
theorem pe_dkS {X : Cx} {W : WX} {x : Str} {k j : Nat} {ps : List Str} {sp : Sp} {e : Expr} {es : List Expr} {t : TA} {p pos : Pos} {C : Addr} (tk : Takes X W) (D : Dk X.prog X.w X.K X.mg X.base (L2.CX X.prog X.w) x k ps sp C) (hr : Room j X.A) (l : k + 1 ≤ j) (ha : PA X (e :: es) t) (hg : Gl X x := by rfl)
    (hdb : (x == ("__debug__" : Str)) = false := by decide) (he : starEach (e :: es) X.env = (false, eval e X.env) :: starEach es X.env := by rfl) (hpl : (backTo pos (starEach es X.env)).any (·.1) = false := by rfl) : PE X (.Call (.Name x p) (e :: es) [] pos) (tMakeS C sp (WE W) t) := by
  obtain ⟨_, _, D⟩ := D
  refine ⟨fun pins s σ H Q J h => ?_⟩
  refine wpAny_Call_Name_kw (ld_glob J hg D.at_ ?_ hdb)
  refine PySem.W.callWith_K (h₀ := X.base) J.ok.mod.kin D.mkc.kp (thn (ha.run pos pins s σ H _ J h) fun us s1 ⟨vs, H1, J1, r, q⟩ => ⟨J1.kIn, ?_⟩) he hpl
  exact made_at D.mkc D.ok (hr.mono l) D.bd (passAt tk σ) J1 r q
end Pk
set_option Elab.async false
set_option linter.all false
set_option maxRecDepth 100000
set_option maxHeartbeats 1000000
namespace Pk
open PySem L2 PySem.Spec PyProof.Rows
/-! ### loops, whatever stands in them -/
theorem lc_any {J : It} {n : Nat} {G : Hp → Prop} {Y : Nat → Hp → V → Hp → Prop} (w : Walk J n G Y) {B : (Hp → Prop) → V → Hp → Prop} {H0 : Hp} {Qd : Hp → Prop} (Pv : Nat → Hp → Prop) (h0 : Pv 0 H0) (hG : ∀ i H, i ≤ n → Pv i H → G H)
    (hs : ∀ i x H H', i < n → Pv i H → Y i H x H' → B (Pv (i + 1)) x H') (hd : ∀ H, Pv n H → Qd H) : ∃ W : Nat → Nat → Hp → Prop, (∃ m, W 0 m H0) ∧ ∀ i m H, W i m H →
      (J.stop i H ∧ Qd H) ∨ (J.go i H ∧ ∃ Nx : Hp → Prop, (∀ H', Nx H' → ∃ m', m' < m ∧ W (i + 1) m' H') ∧ ∀ x H', J.yld i H x H' → B Nx x H') := by
  refine ⟨fun i m H => m = n - i ∧ i ≤ n ∧ Pv i H, ⟨n, (Nat.sub_zero n).symm, Nat.zero_le _, h0⟩, fun i m H hw => ?_⟩
  obtain ⟨rfl, hi, p⟩ := hw
  rcases Nat.lt_or_ge i n with lt | ge
  · refine .inr ⟨w.goes i H lt (hG i H hi p), Pv (i + 1), fun H' p' => ⟨n - (i + 1), by omega, rfl, lt, p'⟩, fun x H' y => ?_⟩
    exact hs i x H H' lt p (w.yields i H x H' lt (hG i H hi p) y)
  · obtain rfl : i = n := Nat.le_antisymm hi ge
    exact .inl ⟨w.stops H (hG _ H hi p), hd H p⟩
theorem r_lc2 {wi wi1 : TI} {g g1 : TG} {tt tt1 : TT} {te : TE} {vs vs1 : List Nat} {σ : L2.St} {H : Hp} {Q : VK} (h : wi σ H fun J H1 => ∀ D, H1 D = none → ∃ W : Nat → Nat → Hp → Prop, (∃ m, W 0 m (upd H1 D (.lst []))) ∧ ∀ i m H, W i m H →
  (J.stop i H ∧ Q (.ref D) H) ∨ (J.go i H ∧ ∃ Nx : Hp → Prop, (∀ H', Nx H' → ∃ m', m' < m ∧ W (i + 1) m' H') ∧ ∀ x H', J.yld i H x H' → g x (wipe σ vs) H' fun σ2 H2 => wipe σ2 vs = wipe σ vs ∧ tt σ2 H2 fun b H3 =>
    if b = true then wi1 σ2 H3 fun J1 H4 => ∃ W1 : Nat → Nat → Hp → Prop, (∃ m, W1 0 m H4) ∧ ∀ j k H, W1 j k H →
      (J1.stop j H ∧ Nx H) ∨ (J1.go j H ∧ ∃ Nx1 : Hp → Prop, (∀ H', Nx1 H' → ∃ k', k' < k ∧ W1 (j + 1) k' H') ∧ ∀ x H', J1.yld j H x H' → g1 x (wipe σ2 vs1) H' fun σ3 H5 => wipe σ3 vs1 = wipe σ2 vs1 ∧ tt1 σ3 H5 fun b H6 =>
        if b = true then te σ3 H6 fun y H7 => ∃ acc, H7 D = some (.lst acc) ∧ acc.length < sizeLine ∧ Nx1 (upd H7 D (.lst (acc ++ [y]))) else Nx1 H6)
    else Nx H3)) : tLc2 wi g tt wi1 g1 tt1 te vs vs1 σ H Q := h
/-! ### a part of the heap -/
/-- all of G was not tracked in H -/
def Fresh (H G : Hp) : Prop := ∀ a o, G a = some o → H a = none
theorem Fresh.off {H G : Hp} {b : Addr} {o : HO} (f : Fresh H G) (h : H b = some o) : G b = none := by
  cases e : G b with
  | none => rfl
  | some u => rw [f b u e] at h; cases h
theorem Fresh.back {H0 H G : Hp} (f : Fresh H G) (s : Same H0 H) : Fresh H0 G := fun a o e => s.free (f a o e)
theorem Same.part {G H H' : Hp} {b : Addr} (s : Same G H) (n : G b = none) (k : Keep b H H') : Same G H' := fun a o e => k a o (fun z => by rw [z, n] at e; cases e) (s a o e)
theorem Same.upOff {G H : Hp} {b : Addr} {o : HO} (s : Same G H) (n : G b = none) : Same G (upd H b o) := fun a u e => by
  rw [upd_ne (fun z => by rw [z, n] at e; cases e)]
  exact s a u e
/-! ### tables -/
abbrev Rw := List (List (Option Int))
def pV : Option Int → V
  | .none => .non
  | .some i => .int i
def pD : Option Int → PyData
  | .none => .none
  | .some i => .int i
def rowD (r : List (Option Int)) : PyData := .list (r.map pD)
def rowsD (R : Rw) : PyData := .list (R.map rowD)
def wd (R : Rw) : Nat := (R.headD []).length
def prc (R : Rw) (i j : Nat) : Option Int := (R.getD i []).getD j none
/-- the pairs, in ascending order -/
def cells (R : Rw) : List Pr := (List.range R.length).flatMap fun i => ((List.range (wd R)).filter fun j => (prc R i j).isSome).map fun (j : Nat) => (((i : Nat) : Int), (j : Int))
structure Gt (R : Rw) : Prop where
  h0 : 0 < R.length
  h8 : R.length ≤ 8
  w0 : 0 < wd R
  w8 : wd R ≤ 8
  sq : ∀ r, r ∈ R → r.length = wd R
instance : PySem.W.Datum (Option Int) where
  toD := pD
  plain z := by cases z <;> rfl
  eqv a b := by cases a <;> cases b <;> simp [pD, PyData.eqv, PySem.W.beq_decide]
  depth := 0
  depth_le z := by cases z <;> simp [pD, PyData.depth]
theorem rows_eqv (R S : Rw) : PyData.eqv (rowsD R) (rowsD S) = decide (R = S) := PySem.W.Datum.eqv (α := List (List (Option Int))) R S
theorem row_depthAll : ∀ r : List (Option Int), PyData.depthAll (r.map pD) = 0
  | [] => by simp [PyData.depthAll]
  | z :: r => by cases z <;> simp [PyData.depthAll, PyData.depth, pD, row_depthAll r]
theorem row_depth (r : List (Option Int)) : (rowD r).depth = 1 := by simp [rowD, PyData.depth, row_depthAll r]
theorem rows_depthAll : ∀ R : Rw, PyData.depthAll (R.map rowD) ≤ 1
  | [] => by simp [PyData.depthAll]
  | r :: R => by
    have h1 := rows_depthAll R
    simp only [List.map_cons, PyData.depthAll, row_depth]
    omega
theorem rows_depth (R : Rw) : (rowsD R).depth ≤ 2 := by
  have h := rows_depthAll R
  simp only [rowsD, PyData.depth]
  omega
theorem row_layAll : ∀ r : List (Option Int), PyData.canLayAll0 (r.map pD) = true
  | [] => by simp [PyData.canLayAll0]
  | z :: r => by cases z <;> simp [PyData.canLayAll0, PyData.canLay0, pD, row_layAll r]
theorem row_lay (r : List (Option Int)) : (rowD r).canLay0 = true := by simp [rowD, PyData.canLay0, row_layAll r]
theorem rows_layAll : ∀ R : Rw, PyData.canLayAll0 (R.map rowD) = true
  | [] => by simp [PyData.canLayAll0]
  | r :: R => by simp [PyData.canLayAll0, rows_layAll R, row_lay r]
theorem rows_shaped (R : Rw) : SeqAt.shaped (rowsD R) = true := by
  have h := rows_depth R
  have e : (rowsD R).canLay0 = true := by simp only [rowsD, PyData.canLay0]; exact rows_layAll R
  simp only [SeqAt.shaped, e, Bool.true_and]
  exact decide_eq_true (by omega)
theorem rows_plain (R : Rw) : (rowsD R).plain = true := PySem.W.Datum.plain (α := List (List (Option Int))) R
theorem pV_dp {K : PySem.W.Frag} {H : Hp} (z : Option Int) : Dp K H (pV z) (pD z) := by
  cases z
  · exact .non
  · exact .int _
theorem row_dp {K : PySem.W.Frag} {H : Hp} (r : List (Option Int)) : DpAll K H (r.map pV) (r.map pD) := by
  induction r with
  | nil => exact .nil
  | cons z r ih => exact .cons (pV_dp z) ih
theorem deep_pD (z : Option Int) {n : Nat} : Deep n (pD z) := by
  cases z
  · exact .non
  · exact .int _
theorem deep_row {r : List (Option Int)} (h : r.length ≤ 1000) : Deep 1 (rowD r) := .lst (fun d hd => by
  obtain ⟨z, _, rfl⟩ := List.mem_map.mp hd
  exact deep_pD z) (by rw [List.length_map]; exact h)
theorem Gt.len {R : Rw} (g : Gt R) {i : Nat} (h : i < R.length) : R[i].length = wd R := g.sq _ (List.getElem_mem h)
theorem Gt.getD {R : Rw} (g : Gt R) {i : Nat} (h : i < R.length) : R.getD i [] = R[i] := by
  rw [List.getD_eq_getElem?_getD, List.getElem?_eq_getElem h]
  rfl
theorem deep_rows {R : Rw} (g : Gt R) : Deep 2 (rowsD R) := .lst (fun d hd => by
  obtain ⟨r, hr, rfl⟩ := List.mem_map.mp hd
  have h1 := g.sq r hr
  have h2 := g.w8
  exact deep_row (by omega)) (by rw [List.length_map]; have := g.h8; omega)
/-- a list of rows, each a list of its own -/
structure RL (G : Hp) (e : Addr) (es : List V) (R : Rw) : Prop where
  at_ : G e = some (.lst es)
  len : es.length = R.length
  row : ∀ i v, es[i]? = some v → ∃ a, v = .ref a ∧ G a = some (.lst ((R.getD i []).map pV))
theorem RL.same {G H : Hp} {e : Addr} {es : List V} {R : Rw} (l : RL G e es R) (s : Same G H) : RL H e es R := ⟨s _ _ l.at_, l.len, fun i v h => by
  obtain ⟨a, e1, e2⟩ := l.row i v h
  exact ⟨a, e1, s _ _ e2⟩⟩
theorem RL.get {G : Hp} {e : Addr} {es : List V} {R : Rw} (l : RL G e es R) {i : Nat} (h : i < R.length) : ∃ a, es[i]? = some (.ref a) ∧ G a = some (.lst ((R.getD i []).map pV)) := by
  have hi : i < es.length := by rw [l.len]; exact h
  obtain ⟨a, e1, e2⟩ := l.row i _ (List.getElem?_eq_getElem hi)
  exact ⟨a, by rw [List.getElem?_eq_getElem hi, e1], e2⟩
theorem RL.all {K : PySem.W.Frag} {G : Hp} {e : Addr} {es : List V} {R : Rw} (l : RL G e es R) : DpAll K G es (R.map rowD) := by
  refine dpAll_of (by rw [List.length_map]; exact l.len) fun i v d hv hd => ?_
  obtain ⟨a, rfl, h⟩ := l.row i v hv
  rw [List.getElem?_map] at hd
  cases q : R[i]? with
  | none => rw [q] at hd; cases hd
  | some r =>
    rw [q] at hd
    cases (Option.some.inj hd)
    rw [List.getD_eq_getElem?_getD, q] at h
    exact .lst (SqL.of h) (row_dp r)
theorem RL.dp {K : PySem.W.Frag} {G : Hp} {e : Addr} {es : List V} {R : Rw} (l : RL G e es R) : Dp K G (.ref e) (rowsD R) := .lst (SqL.of l.at_) l.all
/-- the table at x, whose parts are all in G -/
structure TbX (C : Addr) (G : Hp) (x : Addr) (R : Rw) : Prop where
  g : Gt R
  ex : ∃ dx e u es, G x = some (.ins C dx [("entries", .ref e), ("used", .ref u)]) ∧ RL G e es R ∧ PL x G u (cells R)
theorem pr_at {R : Rw} {i j : Nat} (hi : i < R.length) (hj : j < wd R) : (R.getD i []).length = R[i].length := by
  rw [List.getD_eq_getElem?_getD, List.getElem?_eq_getElem hi]
  rfl
theorem prc_get {R : Rw} (g : Gt R) {i j : Nat} (hi : i < R.length) (hj : j < wd R) : ((R.getD i []).map pV)[j]? = some (pV (prc R i j)) := by
  have l : j < (R.getD i []).length := by rw [g.getD hi, g.len hi]; exact hj
  rw [List.getElem?_map, List.getElem?_eq_getElem l, prc, List.getD_eq_getElem?_getD (l := R.getD i []), List.getElem?_eq_getElem l]
  rfl
/-! ### over data -/
def priceD : PyData → Bool
  | .none => true
  | .int _ => true
  | _ => false
theorem price_inv {d : PyData} (h : priceD d = true) : ∃ z, d = pD z := by
  cases d with
  | none => exact ⟨none, rfl⟩
  | int i => exact ⟨some i, rfl⟩
  | _ => cases h
/-- a list of 1 to 8 prices, as many as the other list has entries -/
def rowOk : PyData → PyData → Bool
  | .list ds, .list es => decide (1 ≤ ds.length) && decide (ds.length ≤ 8) && decide (ds.length = es.length) && ds.all priceD
  | _, _ => false
def firstRow (ds : List PyData) : Option Nat := (List.range ds.length).find? fun i => !rowOk (ds.getD i .none) (ds.getD 0 .none)
/-- what is told of a value as rows: none where it is good -/
def badT : PyData → Option Int
  | .list ds => if ds.length = 0 ∨ 8 < ds.length then some (-1) else (firstRow ds).map Int.ofNat
  | _ => some (-1)
theorem badT_no {d : PyData} (h : isLD d = false) : badT d = some (-1) := by
  cases d with
  | list ds => cases h
  | _ => rfl
theorem firstRow_some {ds : List PyData} {i : Nat} (hi : i < ds.length) (h : ∀ j, j < i → rowOk (ds.getD j .none) (ds.getD 0 .none) = true) (b : rowOk (ds.getD i .none) (ds.getD 0 .none) = false) : firstRow ds = some i := by
  unfold firstRow
  rw [List.find?_range_eq_some]
  exact ⟨by rw [b]; rfl, by simpa using hi, fun j hj => by rw [h j hj]; rfl⟩
theorem firstRow_none {ds : List PyData} (h : ∀ j, j < ds.length → rowOk (ds.getD j .none) (ds.getD 0 .none) = true) : firstRow ds = none := by
  unfold firstRow
  rw [List.find?_eq_none]
  intro j hj
  rw [h j (by simpa using hj)]
  decide
theorem firstRow_all {ds : List PyData} (h : firstRow ds = none) {j : Nat} (hj : j < ds.length) : rowOk (ds.getD j .none) (ds.getD 0 .none) = true := by
  unfold firstRow at h
  rw [List.find?_eq_none] at h
  have := h j (by simpa using hj)
  simpa using this
theorem all_prices {r : List (Option Int)} : (r.map pD).all priceD = true := by
  rw [List.all_map, List.all_eq_true]
  intro z _
  cases z <;> rfl
theorem prices_inv {ds : List PyData} (h : ds.all priceD = true) : ∃ r : List (Option Int), ds = r.map pD := by
  induction ds with
  | nil => exact ⟨[], rfl⟩
  | cons d ds ih =>
    rw [List.all_cons, Bool.and_eq_true] at h
    obtain ⟨z, rfl⟩ := price_inv h.1
    obtain ⟨r, rfl⟩ := ih h.2
    exact ⟨z :: r, rfl⟩
theorem row_okD {R : Rw} (g : Gt R) {i : Nat} (hi : i < R.length) : rowOk ((R.map rowD).getD i .none) ((R.map rowD).getD 0 .none) = true := by
  have e : ∀ k (hk : k < R.length), (R.map rowD).getD k .none = rowD R[k] := fun k hk => by
    rw [List.getD_eq_getElem?_getD, List.getElem?_map, List.getElem?_eq_getElem hk]
    rfl
  rw [e i hi, e 0 g.h0]
  have l1 := g.len hi
  have l2 := g.len g.h0
  have h1 := g.w0
  have h2 := g.w8
  simp only [rowD, rowOk, List.length_map, l1, l2, all_prices, Bool.and_eq_true, decide_eq_true_eq, and_true]
  omega
theorem badT_good {R : Rw} (g : Gt R) : badT (rowsD R) = none := by
  have h0 := g.h0
  have h8 := g.h8
  show (if (R.map rowD).length = 0 ∨ 8 < (R.map rowD).length then some (-1) else (firstRow (R.map rowD)).map Int.ofNat) = none
  rw [if_neg (by rw [List.length_map]; omega), firstRow_none (fun j hj => row_okD g (by simpa using hj))]
  rfl
/-- what is good is a table's rows -/
theorem badT_inv {d : PyData} (h : badT d = none) : ∃ R, d = rowsD R ∧ Gt R := by
  cases d with
  | list ds =>
    by_cases c : ds.length = 0 ∨ 8 < ds.length
    · have : badT (.list ds) = some (-1) := if_pos c
      rw [this] at h
      cases h
    · have hb : badT (.list ds) = (firstRow ds).map Int.ofNat := if_neg c
      rw [hb] at h
      have hf : firstRow ds = none := by
        cases e : firstRow ds with
        | none => rfl
        | some k => rw [e] at h; cases h
      have all := fun {j} (hj : j < ds.length) => firstRow_all hf hj
      have rows : ∀ d, d ∈ ds → ∃ r : List (Option Int), d = rowD r ∧ 1 ≤ r.length ∧ r.length ≤ 8 ∧ ∀ es, ds.getD 0 .none = .list es → r.length = es.length := by
        intro d hd
        obtain ⟨j, hj, rfl⟩ := List.getElem_of_mem hd
        have a := all hj
        rw [List.getD_eq_getElem?_getD (l := ds) (i := j), List.getElem?_eq_getElem hj] at a
        simp only [Option.getD_some] at a
        cases e1 : ds[j] with
        | list xs =>
          cases e2 : ds.getD 0 .none with
          | list es =>
            rw [e1, e2] at a
            simp only [rowOk, Bool.and_eq_true, decide_eq_true_eq] at a
            obtain ⟨⟨⟨a1, a2⟩, a3⟩, a4⟩ := a
            obtain ⟨r, rfl⟩ := prices_inv a4
            rw [List.length_map] at a1 a2 a3
            exact ⟨r, rfl, a1, a2, fun fs q => by cases q; exact a3⟩
          | _ => rw [e1, e2] at a; cases a
        | _ => rw [e1] at a; cases a
      have ex : ∃ R : Rw, ds = R.map rowD := by
        have : ∀ es : List PyData, (∀ d, d ∈ es → ∃ r : List (Option Int), d = rowD r) → ∃ R : Rw, es = R.map rowD := by
          intro es
          induction es with
          | nil => intro _; exact ⟨[], rfl⟩
          | cons d es ih =>
            intro k
            obtain ⟨r, rfl⟩ := k d List.mem_cons_self
            obtain ⟨R, rfl⟩ := ih fun e he => k e (List.mem_cons_of_mem _ he)
            exact ⟨r :: R, rfl⟩
        exact this ds fun d hd => by
          obtain ⟨r, e, _⟩ := rows d hd
          exact ⟨r, e⟩
      obtain ⟨R, rfl⟩ := ex
      rw [List.length_map] at c
      refine ⟨R, rfl, ?_⟩
      have hR : 0 < R.length := by omega
      have e0 : (R.map rowD).getD 0 .none = rowD R[0] := by
        rw [List.getD_eq_getElem?_getD, List.getElem?_map, List.getElem?_eq_getElem hR]
        rfl
      have w : wd R = R[0].length := by
        cases R with
        | nil => cases hR
        | cons r R => rfl
      have one : ∀ r, r ∈ R → 1 ≤ r.length ∧ r.length ≤ 8 ∧ r.length = wd R := by
        intro r hr
        obtain ⟨r', e, b1, b2, b3⟩ := rows (rowD r) (List.mem_map.mpr ⟨r, hr, rfl⟩)
        have l : r.length = r'.length := by
          have := PyData.list.inj e
          have := congrArg List.length this
          simpa using this
        have := b3 _ e0
        rw [List.length_map] at this
        exact ⟨by omega, by omega, by omega⟩
      have o := one _ (List.getElem_mem hR)
      exact ⟨hR, by omega, by omega, by omega, fun r hr => (one r hr).2.2⟩
  | _ => cases h
/-- a tuple of two ints -/
def twoD : PyData → Bool
  | .tuple [.int _, .int _] => true
  | _ => false
theorem twoD_inv {d : PyData} (h : twoD d = true) : ∃ a b, d = .tuple [.int a, .int b] := by
  unfold twoD at h
  split at h
  · exact ⟨_, _, rfl⟩
  · cases h
/-- a cell of the table -/
def cellD (R : Rw) : PyData → Bool
  | .tuple [.int a, .int b] => decide (0 ≤ a) && decide (a < R.length) && decide (0 ≤ b) && decide (b < wd R)
  | _ => false
theorem cellD_no {R : Rw} {d : PyData} (h : twoD d = false) : cellD R d = false := by
  unfold cellD
  split
  · rename_i a b
    exact absurd (show twoD (.tuple [.int a, .int b]) = true from rfl) (by rw [h]; decide)
  · rfl
theorem cellD_inv {R : Rw} {d : PyData} (h : cellD R d = true) : ∃ i j : Nat, d = prD ((i : Int), (j : Int)) ∧ i < R.length ∧ j < wd R := by
  unfold cellD at h
  split at h
  · rename_i a b
    simp only [Bool.and_eq_true, decide_eq_true_eq] at h
    obtain ⟨⟨⟨h1, h2⟩, h3⟩, h4⟩ := h
    refine ⟨a.toNat, b.toNat, ?_, by omega, by omega⟩
    rw [show ((a.toNat : Nat) : Int) = a by omega, show ((b.toNat : Nat) : Int) = b by omega]
    rfl
  · cases h
/-- its price, where it is a cell -/
def cellP (R : Rw) : PyData → Option Int
  | .tuple [.int a, .int b] => prc R a.toNat b.toNat
  | _ => none
theorem mem_cells {R : Rw} {i j : Nat} : ((i : Int), (j : Int)) ∈ cells R ↔ i < R.length ∧ j < wd R ∧ (prc R i j).isSome = true := by
  simp only [cells, List.mem_flatMap, List.mem_range, List.mem_map, List.mem_filter, Prod.mk.injEq]
  constructor
  · rintro ⟨a, ha, b, ⟨hb, hp⟩, e1, e2⟩
    have : a = i := by omega
    have : b = j := by omega
    subst_vars
    exact ⟨ha, hb, hp⟩
  · rintro ⟨ha, hb, hp⟩
    exact ⟨i, ha, j, ⟨hb, hp⟩, rfl, rfl⟩
end Pk
set_option Elab.async false
set_option linter.all false
set_option maxRecDepth 100000
set_option maxHeartbeats 1000000
namespace Pk
open PySem L2 PySem.Spec PyProof.Rows
/-! ### a cut behind a statement -/
theorem r_cut {t u : TS} {D : Ends} {σ : L2.St} {H : Hp} (Mid : L2.St → Hp → Prop) (h1 : t { D with nx := Mid } σ H) (h2 : ∀ σ' H', Mid σ' H' → u D σ' H') : C8.tCut t u D σ H := ⟨Mid, h1, h2⟩
/-! ### the pool, further -/
theorem PoolAt.sameS {H H' : Hp} {p c : Addr} {ns : List Int} (h : PoolAt H p c ns) (s : Same H H') : PoolAt H' p c ns := by
  obtain ⟨a, b, z, n, h0, hP, hC⟩ := h
  exact ⟨a, b, z, n, h0, s _ _ hP, s _ _ hC⟩
theorem PoolAt.off {H : Hp} {p c D : Addr} {ns : List Int} {o : HO} (h : PoolAt H p c ns) (n1 : D ≠ p) (n2 : D ≠ c) : PoolAt (upd H D o) p c ns := by
  obtain ⟨a, b, z, n, h0, hP, hC⟩ := h
  exact ⟨a, b, z, n, h0, by rw [upd_ne (Ne.symm n1)]; exact hP, by rw [upd_ne (Ne.symm n2)]; exact hC⟩
theorem PoolAt.ex {H : Hp} {p c : Addr} {ns : List Int} (h : PoolAt H p c ns) : ∃ o, H p = some o := by
  obtain ⟨a, b, z, n, h0, hP, hC⟩ := h
  exact ⟨_, hP⟩
theorem PoolAt.exC {H : Hp} {p c : Addr} {ns : List Int} (h : PoolAt H p c ns) : ∃ o, H c = some o := by
  obtain ⟨a, b, z, n, h0, hP, hC⟩ := h
  exact ⟨_, hC⟩
theorem Keep.free {p a : Addr} {H H' : Hp} (k : Keep p H H') (n : H' a = none) (np : a ≠ p) : H a = none := by
  cases e : H a with
  | none => rfl
  | some o => rw [k a o np e] at n; cases n
theorem Keep.put {p D : Addr} {H H' : Hp} {o : HO} (k : Keep p H H') (n : H D = none) : Keep p H (upd H' D o) := fun b u nb e => by
  rw [upd_ne (fun z => by rw [z, n] at e; cases e)]
  exact k b u nb e
/-! ### prices that are drawn -/
def Sb (i : Int) : Prop := i.natAbs < 2 ^ 100
def Sz (i : Int) : Prop := i.natAbs < 2 ^ 204
theorem Sb.mul {a b : Int} (h : Sb a) (g : Sb b) : (a * b).natAbs < 2 ^ 200 := by
  rw [Int.natAbs_mul]
  have := Nat.mul_lt_mul'' h g
  exact Nat.lt_of_lt_of_le this (by decide)
theorem Sb.wide {a b : Int} (h : Sb a) (g : Sb b) : CMulW a b := wide_mul h g (by decide) (by decide) (by decide)
def Bd (R : Rw) : Prop := ∀ r, r ∈ R → ∀ i : Int, some i ∈ r → Sz i
/-- tops: pairs of prices -/
structure TL (p D : Addr) (tv : List V) (H : Hp) : Prop where
  ne : D ≠ p
  at_ : H D = some (.lst tv)
  all : ∀ (j : Nat) (v : V), tv[j]? = some v → ∃ (t : Addr) (b y : Int), v = .ref t ∧ t ≠ p ∧ H t = some (.tup [.int b, .int y]) ∧ Sb b ∧ Sb y
theorem TL.keep {p D : Addr} {tv : List V} {H H' : Hp} (l : TL p D tv H) (k : Keep p H H') : TL p D tv H' := ⟨l.ne, k _ _ l.ne l.at_, fun j v e => by
  obtain ⟨t, b, y, e1, n, h, h1, h2⟩ := l.all j v e
  exact ⟨t, b, y, e1, n, k _ _ n h, h1, h2⟩⟩
theorem TL.put {p D L : Addr} {tv ws : List V} {H : Hp} {o : HO} (l : TL p D tv H) (hL : H L = some (.lst ws)) (n : D ≠ L) : TL p D tv (upd H L o) := ⟨l.ne, by rw [upd_ne n]; exact l.at_, fun j v e => by
  obtain ⟨t, b, y, e1, m, h, h1, h2⟩ := l.all j v e
  exact ⟨t, b, y, e1, m, by rw [upd_ne (fun z => by rw [z, hL] at h; cases h)]; exact h, h1, h2⟩⟩
/-- no list stands twice -/
def Dist (es : List V) : Prop := ∀ (i j : Nat) (a : Addr), es[i]? = some (V.ref a) → es[j]? = some (V.ref a) → i = j
theorem Dist.nil : Dist [] := fun i j a e _ => by simp at e
theorem Dist.more {es : List V} {b : Addr} (h : Dist es) (m : ∀ (j : Nat) (v : V), es[j]? = some v → v ≠ .ref b) : Dist (es ++ [.ref b]) := fun i j a e1 e2 => by
  have side : ∀ {k : Nat}, (es ++ [V.ref b])[k]? = some (.ref a) → (k < es.length ∧ es[k]? = some (.ref a)) ∨ (k = es.length ∧ a = b) := fun {k} e => by
    by_cases c : k < es.length
    · rw [List.getElem?_append_left c] at e
      exact .inl ⟨c, e⟩
    · rw [List.getElem?_append_right (by omega)] at e
      have : k - es.length = 0 := by
        have := (List.getElem?_eq_some_iff.mp e).1
        simp at this
        omega
      rw [this] at e
      cases (Option.some.inj e)
      exact .inr ⟨by omega, rfl⟩
  rcases side e1 with ⟨c1, f1⟩ | ⟨c1, f1⟩ <;> rcases side e2 with ⟨c2, f2⟩ | ⟨c2, f2⟩
  · exact h i j a f1 f2
  · exact absurd (by rw [f2]) (m i _ f1)
  · exact absurd (by rw [f1]) (m j _ f2)
  · omega
/-- the rows made so far -/
structure RK (p : Addr) (H0 H : Hp) (L : Addr) (es : List V) (R : Rw) : Prop where
  ne : L ≠ p
  nw : H0 L = none
  at_ : H L = some (.lst es)
  len : es.length = R.length
  row : ∀ (j : Nat) (v : V), es[j]? = some v → ∃ a, v = .ref a ∧ a ≠ p ∧ a ≠ L ∧ H0 a = none ∧ H a = some (.lst ((R.getD j []).map pV))
  dist : Dist es
theorem RK.keep {p L : Addr} {H0 H H' : Hp} {es : List V} {R : Rw} (l : RK p H0 H L es R) (k : Keep p H H') : RK p H0 H' L es R := ⟨l.ne, l.nw, k _ _ l.ne l.at_, l.len, fun j v e => by
  obtain ⟨a, e1, n1, n2, n3, h⟩ := l.row j v e
  exact ⟨a, e1, n1, n2, n3, k _ _ n1 h⟩, l.dist⟩
theorem RK.put {p L b : Addr} {H0 H : Hp} {es : List V} {R : Rw} {o : HO} (l : RK p H0 H L es R) (n : L ≠ b) (m : ∀ (j : Nat) (v : V), es[j]? = some v → v ≠ .ref b) : RK p H0 (upd H b o) L es R := ⟨l.ne, l.nw, by rw [upd_ne n]; exact l.at_, l.len, fun j v e => by
  obtain ⟨a, e1, n1, n2, n3, h⟩ := l.row j v e
  exact ⟨a, e1, n1, n2, n3, by rw [upd_ne (fun z => m j v e (by rw [e1, z]))]; exact h⟩, l.dist⟩
theorem RK.more {p L b : Addr} {H0 H : Hp} {es : List V} {R : Rw} {r : List (Option Int)} (l : RK p H0 H L es R) (h1 : b ≠ p) (h2 : b ≠ L) (h3 : H0 b = none) (h4 : H b = some (.lst (r.map pV))) (m : ∀ (j : Nat) (v : V), es[j]? = some v → v ≠ .ref b) : RK p H0 (upd H L (.lst (es ++ [.ref b]))) L (es ++ [.ref b]) (R ++ [r]) := by
  refine ⟨l.ne, l.nw, upd_same, by rw [List.length_append, List.length_append, l.len]; rfl, fun j v e => ?_, l.dist.more m⟩
  by_cases ji : j < es.length
  · rw [List.getElem?_append_left ji] at e
    obtain ⟨a, e1, n1, n2, n3, h⟩ := l.row j v e
    refine ⟨a, e1, n1, n2, n3, ?_⟩
    rw [upd_ne n2, h, List.getD_eq_getElem?_getD, List.getD_eq_getElem?_getD, List.getElem?_append_left (by rw [← l.len]; exact ji)]
  · rw [List.getElem?_append_right (by omega)] at e
    have : j = es.length := by
      have := (List.getElem?_eq_some_iff.mp e).1
      simp at this
      omega
    subst this
    rw [Nat.sub_self] at e
    cases (Option.some.inj e)
    refine ⟨b, rfl, h1, h2, h3, ?_⟩
    rw [upd_ne h2, h4, l.len, List.getD_eq_getElem?_getD, List.getElem?_append_right (Nat.le_refl _), Nat.sub_self]
    rfl
/-- a list of rows, new since H, the pool aside -/
structure NewK (p : Addr) (H H' : Hp) (r : Addr) (es : List V) (R : Rw) : Prop where
  ne : r ≠ p
  nw : H r = none
  rl : RL H' r es R
  rows : ∀ (i : Nat) (c : Addr), es[i]? = some (V.ref c) → H c = none ∧ c ≠ r ∧ c ≠ p
  dist : Dist es
theorem RK.new {p L : Addr} {H0 H : Hp} {es : List V} {R : Rw} (l : RK p H0 H L es R) : NewK p H0 H L es R := ⟨l.ne, l.nw, ⟨l.at_, l.len, fun i v e => by
  obtain ⟨a, e1, n1, n2, n3, h⟩ := l.row i v e
  exact ⟨a, e1, h⟩⟩, fun i c e => by
  obtain ⟨a, e1, n1, n2, n3, h⟩ := l.row i _ e
  cases e1
  exact ⟨n3, n2, n1⟩, l.dist⟩
theorem RL.keepK {p : Addr} {G H : Hp} {e : Addr} {es : List V} {R : Rw} (l : RL G e es R) (k : Keep p G H) (n : e ≠ p) (m : ∀ (i : Nat) (a : Addr), es[i]? = some (V.ref a) → a ≠ p) : RL H e es R := ⟨k _ _ n l.at_, l.len, fun i v h => by
  obtain ⟨a, e1, e2⟩ := l.row i v h
  exact ⟨a, e1, k _ _ (m i a (by rw [h, e1])) e2⟩⟩
abbrev hpOf {H H' : Hp} (_ : Same H H') : Hp := H'
/-- rows that may be read, tracked or written -/
structure RS (K : PySem.W.Frag) (G : Hp) (e : Addr) (es : List V) (R : Rw) : Prop where
  at_ : SqL K G e es
  len : es.length = R.length
  row : ∀ (i : Nat) (v : V), es[i]? = some v → ∃ a, v = .ref a ∧ SqL K G a ((R.getD i []).map pV)
theorem RL.rs {K : PySem.W.Frag} {G : Hp} {e : Addr} {es : List V} {R : Rw} (l : RL G e es R) : RS K G e es R := ⟨SqL.of l.at_, l.len, fun i v h => by
  obtain ⟨a, e1, e2⟩ := l.row i v h
  exact ⟨a, e1, SqL.of e2⟩⟩
theorem RS.get {K : PySem.W.Frag} {G : Hp} {e : Addr} {es : List V} {R : Rw} (l : RS K G e es R) {i : Nat} (h : i < R.length) : ∃ a, es[i]? = some (.ref a) ∧ SqL K G a ((R.getD i []).map pV) := by
  have hi : i < es.length := by rw [l.len]; exact h
  obtain ⟨a, e1, e2⟩ := l.row i _ (List.getElem?_eq_getElem hi)
  exact ⟨a, by rw [List.getElem?_eq_getElem hi, e1], e2⟩
theorem RS.same {K : PySem.W.Frag} {G H : Hp} {e : Addr} {es : List V} {R : Rw} (l : RS K G e es R) (s : Same G H) : RS K H e es R := ⟨s.seq l.at_, l.len, fun i v h => by
  obtain ⟨a, e1, e2⟩ := l.row i v h
  exact ⟨a, e1, s.seq e2⟩⟩
theorem RS.all {K : PySem.W.Frag} {G : Hp} {e : Addr} {es : List V} {R : Rw} (l : RS K G e es R) : DpAll K G es (R.map rowD) := by
  refine dpAll_of (by rw [List.length_map]; exact l.len) fun i v d hv hd => ?_
  obtain ⟨a, rfl, h⟩ := l.row i v hv
  rw [List.getElem?_map] at hd
  cases q : R[i]? with
  | none => rw [q] at hd; cases hd
  | some r =>
    rw [q] at hd
    cases (Option.some.inj hd)
    rw [List.getD_eq_getElem?_getD, q] at h
    exact .lst h (row_dp r)
theorem RS.dp {K : PySem.W.Frag} {G : Hp} {e : Addr} {es : List V} {R : Rw} (l : RS K G e es R) : Dp K G (.ref e) (rowsD R) := .lst l.at_ l.all
theorem dp_pV {K : PySem.W.Frag} {H : Hp} {v : V} {z : Option Int} (h : Dp K H v (pD z)) : v = pV z := by
  cases z with
  | none => cases h; rfl
  | some i => cases h; rfl
theorem dp_pVs {K : PySem.W.Frag} {H : Hp} : ∀ {vs : List V} {r : List (Option Int)}, DpAll K H vs (r.map pD) → vs = r.map pV
  | [], [], _ => rfl
  | _ :: _, [], h => by cases h
  | [], _ :: _, h => by cases h
  | v :: vs, z :: r, h => by
    cases h with
    | cons h1 h2 => rw [dp_pV h1, dp_pVs h2]; rfl
theorem RS.of {K : PySem.W.Frag} {G : Hp} {v : V} {R : Rw} (h : Dp K G v (rowsD R)) : ∃ e es, v = .ref e ∧ RS K G e es R := by
  obtain ⟨e, es, rfl, he, ha⟩ := Dp.lstAt h
  refine ⟨e, es, rfl, he, by have := DpAll.len ha; rwa [List.length_map] at this, fun i v hv => ?_⟩
  obtain ⟨d, hd, pd⟩ := DpAll.at ha hv
  rw [List.getElem?_map] at hd
  cases q : R[i]? with
  | none => rw [q] at hd; cases hd
  | some r =>
    rw [q] at hd
    cases (Option.some.inj hd)
    obtain ⟨a, vs, rfl, h1, h2⟩ := Dp.lstAt pd
    rw [dp_pVs h2] at h1
    exact ⟨a, rfl, by rw [List.getD_eq_getElem?_getD, q]; exact h1⟩
/-! ### small data that can be laid and compared -/
structure Ni (n : Nat) (d : PyData) : Prop where
  lay : d.canLay0 = true
  deep : d.depth ≤ n
  plain : d.plain = true
theorem Ni.mono {n m : Nat} {d : PyData} (h : Ni n d) (l : n ≤ m) : Ni m d := ⟨h.lay, Nat.le_trans h.deep l, h.plain⟩
theorem ni_all {n : Nat} : ∀ {ds : List PyData}, (∀ d, d ∈ ds → Ni n d) → PyData.canLayAll0 ds = true ∧ PyData.depthAll ds ≤ n ∧ PyData.plainAll ds = true
  | [], _ => ⟨by simp [PyData.canLayAll0], by simp [PyData.depthAll], rfl⟩
  | d :: ds, h => by
    obtain ⟨a, b, c⟩ := ni_all (ds := ds) fun e he => h e (List.mem_cons_of_mem _ he)
    have k := h d List.mem_cons_self
    refine ⟨by simp [PyData.canLayAll0, k.lay, a], ?_, by simp [PyData.plainAll, k.plain, c]⟩
    rw [PyData.depthAll]
    exact Nat.max_le.mpr ⟨k.deep, b⟩
theorem Ni.list {n : Nat} {ds : List PyData} (h : ∀ d, d ∈ ds → Ni n d) : Ni (n + 1) (.list ds) := by
  obtain ⟨a, b, c⟩ := ni_all h
  exact ⟨by simp only [PyData.canLay0]; exact a, by simp only [PyData.depth]; omega, by simp only [PyData.plain]; exact c⟩
theorem Ni.tuple {n : Nat} {ds : List PyData} (h : ∀ d, d ∈ ds → Ni n d) : Ni (n + 1) (.tuple ds) := by
  obtain ⟨a, b, c⟩ := ni_all h
  exact ⟨by simp only [PyData.canLay0]; exact a, by simp only [PyData.depth]; omega, by simp only [PyData.plain]; exact c⟩
theorem Ni.int {n : Nat} (i : Int) : Ni n (.int i) := ⟨by simp [PyData.canLay0], by simp [PyData.depth], rfl⟩
theorem Ni.non {n : Nat} : Ni n .none := ⟨by simp [PyData.canLay0], by simp [PyData.depth], rfl⟩
theorem Ni.bl {n : Nat} (b : Bool) : Ni n (.bool b) := ⟨by simp [PyData.canLay0], by simp [PyData.depth], rfl⟩
theorem Ni.pD {n : Nat} (z : Option Int) : Ni n (pD z) := by
  cases z
  · exact .non
  · exact .int _
theorem Ni.row {n : Nat} (r : List (Option Int)) : Ni (n + 1) (rowD r) := Ni.list fun d hd => by
  obtain ⟨z, _, rfl⟩ := List.mem_map.mp hd
  exact .pD z
theorem Ni.rows {n : Nat} (R : Rw) : Ni (n + 2) (rowsD R) := Ni.list fun d hd => by
  obtain ⟨r, _, rfl⟩ := List.mem_map.mp hd
  exact .row r
theorem Ni.shaped {n : Nat} {d : PyData} (h : Ni n d) (l : n ≤ 30) : SeqAt.shaped d = true := by
  have := h.deep
  simp only [SeqAt.shaped, h.lay, Bool.true_and]
  exact decide_eq_true (by omega)
theorem eqv_plain {d : PyData} (h : d.plain = true) : PyData.eqv d d = true := PySem.SeqAt.eqv_refl_plain d h
def spPrc : Sp := fun vs H Q _ => ∃ (p c : Addr) (ns : List Int) (z : Int), vs = [.ref p, .int z] ∧ PoolAt H p c ns ∧ ∀ (r : Int) (H' : Hp), Sb r → Keep p H H' → PoolAt H' p c ns → Q (.int r) H'
def spEnt : Sp := fun vs H Q _ => ∃ st q a b x y : Int, vs = [.int st, .int q, .int a, .int b, .int x, .int y] ∧ Sb q ∧ Sb a ∧ Sb b ∧ Sb x ∧ Sb y ∧ ∀ r : Int, Sz r → Q (.int r) H
/-- _law_rows(pool, most) -/
def spLRws : Sp := fun vs H Q _ => ∃ (p c : Addr) (ns : List Int) (m : Int), vs = [.ref p, .int m] ∧ PoolAt H p c ns ∧ 0 < m ∧ m ≤ 8 ∧
  ∀ (r : Addr) (es : List V) (R : Rw) (H' : Hp), Keep p H H' → PoolAt H' p c ns → NewK p H H' r es R → Gt R → Bd R → (R.length : Int) ≤ m → (wd R : Int) ≤ m → Q (.ref r) H'
/-- _law_copy(rows) -/
def spLCpy (K : PySem.W.Frag) : Sp := fun vs H Q _ => ∃ (a : Addr) (es : List V) (R : Rw), vs = [.ref a] ∧ RS K H a es R ∧ R.length ≤ 8 ∧ ∀ (r : Addr) (fs : List V) (H' : Hp), Same H H' → H r = none → RL H' r fs R → (∀ (i : Nat) (c : Addr), fs[i]? = some (V.ref c) → H c = none ∧ c ≠ r) → Q (.ref r) H'
/-- _law_pairs(rows) -/
def spLPrs (K : PySem.W.Frag) : Sp := fun vs H Q _ => ∃ (a : Addr) (es : List V) (R : Rw), vs = [.ref a] ∧ RS K H a es R ∧ Gt R ∧ ∀ (r : Addr) (us : List V) (H' : Hp), Same H H' → H r = none → H' r = some (.lst us) → PrsAt r H' us (cells R) → Q (.ref r) H'
end Pk
set_option Elab.async false
set_option linter.all false
set_option maxRecDepth 100000
set_option maxHeartbeats 1000000
namespace Pk
open PySem L2 PySem.Spec PyProof.Rows
/-! ### an own comparison as a test -/
section
variable {X : Cx} {CX : CXT} {k : Nat} {C : Addr} {sp : Sp} {E : L2.St → XK} {a b : Expr} {ta tb : TE} {pos : Pos}
theorem core_cmpOwn {op : CmpOp} (hop : ∀ a b, compareOp op a b = richCompare op a b) (F : Two X CX k C (cmpInfo op).2.1 sp) (hr : Room k X.A) (hx : ∀ σ, PassesAt CX X σ (E σ))
    {pins : List (Addr × Obj)} {σ : L2.St} {H2 : Hp} {s2 : Shared} {x y : V} {v u : Value} {Q : VK} (I2 : Inv X pins σ H2 s2) (rx : RelV x v) (ry : RelV y u) (q : rOwnC X.K C sp E σ x y H2 Q) :
    wpAny (model X.prog X.w) X.A (compareOp op v u) (EP X pins σ Q) X.xe s2 := by
  obtain ⟨f, fd, ps, M, F, B⟩ := F.ex
  obtain ⟨a, dx, fs, rfl, e, o, q⟩ := q
  cases rx
  obtain ⟨ox, od, J⟩ := own_at I2 e
  obtain ⟨tb, L, nf⟩ := other_looks (M := model X.prog X.w) I2 ry o fun _ _ _ _ _ => trivial
  obtain ⟨m, hF⟩ := I2.fr
  rw [hop]
  refine PySem.W.cmp_K (op := op) hr.units0 hF I2.ok.mod.kin J L nf M.at_ M.fn ?_
  refine wpAny_mono (own_run (us := [.ref a, u]) (vs := [.ref a, y]) F hr I2.env0 B (hx σ) I2 (.cons rfl (.cons ry .nil)) q) (fun w s' z => ?_) fun _ _ z => z
  obtain ⟨z, H3, I3, rz, qz⟩ := z
  exact SlX.cmpback rz ⟨z, H3, I3, rz, qz⟩
theorem pt_cmpOwn {op : CmpOp} (hop : ∀ a b, compareOp op a b = richCompare op a b) (F : Two X CX k C (cmpInfo op).2.1 sp) (hr : Room k X.A) (hx : ∀ σ, PassesAt CX X σ (E σ)) (ha : PE X a ta) (hb : PE X b tb) (hm : behindInMarks op b = false) :
    PT X (.Compare a [op] [b] pos) (tTest (tOp2 (rOwnC X.K C sp) E ta tb)) := by
  refine ⟨fun pins s σ H Q I h => ?_⟩
  refine wpAny_isTrue_Compare1 (binT ha hb I h fun v u s2 x y H2 I2 rx ry q => ?_) hm
  refine thn (core_cmpOwn hop F hr hx I2 rx ry q) fun c s3 ⟨z, H3, I3, r3, k, e, q3⟩ => ?_
  subst e
  cases r3
  exact wpAny_truthy_bool ⟨H3, I3, q3⟩
theorem core_neOwn (F : Two X CX k C "__eq__" sp) (hs : PySem.W.findIn X.K (.ref C) "__ne__" = some (some (.builtin "object.__ne__"))) (ho : PySem.W.mroIn X.K C (.type "object") = some true) (hr : Room (k + 1) X.A) (hx : ∀ σ, PassesAt CX X σ (E σ))
    {pins : List (Addr × Obj)} {σ : L2.St} {H2 : Hp} {s2 : Shared} {x y : V} {v u : Value} {Q : VK} (I2 : Inv X pins σ H2 s2) (rx : RelV x v) (ry : RelV y u) (q : rOwnNe X.K C sp E σ x y H2 Q) :
    wpAny (model X.prog X.w) X.A (compareOp .NotEq v u) (EP X pins σ Q) X.xe s2 := by
  obtain ⟨f, fd, ps, M, F, B⟩ := F.ex
  obtain ⟨a, dx, fs, rfl, e, o, q⟩ := q
  cases rx
  obtain ⟨ox, od, J⟩ := own_at I2 e
  obtain ⟨tb, L, nf⟩ := other_looks (M := model X.prog X.w) I2 ry o fun _ _ _ _ _ => trivial
  show wpAny _ _ (richCompare .NotEq _ _) _ _ _
  refine ne_by_eq hr.in1.units0 hr.units0 I2.kIn J L nf ho hs M.at_ M.fn ?_
  refine wpAny_mono (own_run (us := [.ref a, u]) (vs := [.ref a, y]) F hr.in1 I2.env0.in1 B (hx σ) I2 (.cons rfl (.cons ry .nil)) q) (fun w s' z => ?_) fun _ _ z => z
  obtain ⟨z, H3, I3, rz, c, rfl, qz⟩ := z
  cases (show w = Value.bool c from rz)
  exact ⟨c, rfl, .bl (!c), H3, I3, rfl, qz⟩
theorem pt_neOwn (F : Two X CX k C "__eq__" sp) (hs : PySem.W.findIn X.K (.ref C) "__ne__" = some (some (.builtin "object.__ne__"))) (ho : PySem.W.mroIn X.K C (.type "object") = some true) (hr : Room (k + 1) X.A) (hx : ∀ σ, PassesAt CX X σ (E σ)) (ha : PE X a ta) (hb : PE X b tb) (hm : behindInMarks .NotEq b = false) :
    PT X (.Compare a [.NotEq] [b] pos) (tTest (tOp2 (rOwnNe X.K C sp) E ta tb)) := by
  refine ⟨fun pins s σ H Q I h => ?_⟩
  refine wpAny_isTrue_Compare1 (binT ha hb I h fun v u s2 x y H2 I2 rx ry q => ?_) hm
  refine thn (core_neOwn F hs ho hr hx I2 rx ry q) fun c s3 ⟨z, H3, I3, r3, k, e, q3⟩ => ?_
  subst e
  cases r3
  exact wpAny_truthy_bool ⟨H3, I3, q3⟩
end
end Pk
set_option Elab.async false
set_option linter.all false
set_option maxRecDepth 100000
set_option maxHeartbeats 1000000
namespace Pk
open PySem L2 PySem.Spec PyProof.Rows
/-! ### either promise of a def -/
def spOr (a b : Sp) : Sp := fun vs H Q E => a vs H Q E ∨ b vs H Q E
theorem _root_.L2.FnOk.or {P : Program} {w : World} {K : PySem.W.Frag} {mg : Str → Option Value} {base : Heap} {CX : CXT} {k : Nat} {f : Addr} {fd : FuncData} {ps : List Str} {a b : Sp} (A : FnOk P w K mg base CX k f fd ps a) (B : FnOk P w K mg base CX k f fd ps b) : FnOk P w K mg base CX k f fd ps (spOr a b) :=
  ⟨fun vs H Q E h => h.elim (A.len vs H Q E) (B.len vs H Q E), fun A' outer s H args us vs Q E hr he hb hv hs => hs.elim (A.run A' outer s H args us vs Q E hr he hb hv) (B.run A' outer s H args us vs Q E hr he hb hv)⟩
theorem ErrOk.or {P : Program} {w : World} {K : PySem.W.Frag} {mg : Str → Option Value} {base : Heap} {k : Nat} {C fI : Addr} {a b : Sp} (A : ErrOk P w K mg base k C fI a) (B : ErrOk P w K mg base k C fI b) : ErrOk P w K mg base k C fI (spOr a b) :=
  ⟨fun A' outer s H us vs x Q hr he hv hx hs => hs.elim (A.run A' outer s H us vs x Q hr he hv hx) (B.run A' outer s H us vs x Q hr he hv hx)⟩
/-! ### the dict {0: 1} -/
abbrev kvs01 : List (Key × V) := [(.inl 0, .int 1)]
def D01 (H : Hp) (v : V) : Prop := ∃ a : Addr, v = .ref a ∧ H a = some (.dK kvs01)
theorem D01.later {H H' : Hp} {v : V} (s : Same H H') (h : D01 H v) : D01 H' v := let ⟨a, e, q⟩ := h; ⟨a, e, s _ _ q⟩
theorem D01.ty {K : PySem.W.Frag} {H : Hp} {v : V} (h : D01 H v) : TyX K H v (.type "dict") := by
  obtain ⟨a, rfl, q⟩ := h
  exact .base (.dK q)
/-- .. new since H0 -/
def D01n (H0 H : Hp) (v : V) : Prop := ∃ a : Addr, v = .ref a ∧ H0 a = none ∧ H a = some (.dK kvs01)
theorem D01n.at_ {H0 H : Hp} {v : V} (h : D01n H0 H v) : D01 H v := let ⟨a, e, _, q⟩ := h; ⟨a, e, q⟩
/-- own_copy of it -/
def spCopyD : Sp := fun vs H Q _ => ∃ v : V, vs = [v] ∧ D01 H v ∧ ∀ (v' : V) (H' : Hp), Same H H' → D01n H H' v' → Q v' H'
/-- an __init__ of one field, a copy of such a dict -/
def spErrD (K : PySem.W.Frag) (C : Addr) (f : Str) : Sp := fun vs H Q _ => ∃ (x : Addr) (v : V), vs = [.ref x, v] ∧ H x = some (exo x C none) ∧ D01 H v ∧
  ∀ (dx : Addr) (v' : V) (H' : Hp), H' x = some (exo x C (some dx)) → H' dx = some (exd dx [(f, v')]) → H dx = none → dx ≠ x → Keep x H H' → D01n H H' v' → Q .non H'
theorem exd_dk {dx : Addr} {fs : List (Str × V)} {kvs : List (Key × V)} : exd dx fs ≠ .dK kvs := fun z => by cases (show HO.ext _ = HO.dK kvs from z)
theorem dc_it {J : It} {n : Nat} {G : Hp → Prop} {Y : Nat → Hp → V → Hp → Prop} (w : Walk J n G Y) {g : TG} {tt : TT} {tk tv : TE} {vs : List Nat} {σ : L2.St} {H1 : Hp} {D : Addr} {Qd : Hp → Prop} (Pv : Nat → Hp → Prop) (h0 : Pv 0 (upd H1 D (.dK []))) (hG : ∀ i H, i ≤ n → Pv i H → G H)
    (hs : ∀ i x H H', i < n → Pv i H → Y i H x H' → g x (wipe σ vs) H' fun σ2 H2 => wipe σ2 vs = wipe σ vs ∧ tt σ2 H2 fun b H3 =>
      if b = true then tk σ2 H3 fun y H4 => tv σ2 H4 fun z H5 => ∃ kvs k, y = kV k ∧ H5 D = some (.dK kvs) ∧ kvs.length < sizeLine ∧ Pv (i + 1) (upd H5 D (.dK (putK kvs k z))) else Pv (i + 1) H3) (hd : ∀ H, Pv n H → Qd H) :
    ∃ W : Nat → Nat → Hp → Prop, (∃ m, W 0 m (upd H1 D (.dK []))) ∧ ∀ i m H, W i m H →
      (J.stop i H ∧ Qd H) ∨ (J.go i H ∧ ∃ Nx : Hp → Prop, (∀ H', Nx H' → ∃ m', m' < m ∧ W (i + 1) m' H') ∧ ∀ x H', J.yld i H x H' → g x (wipe σ vs) H' fun σ2 H2 => wipe σ2 vs = wipe σ vs ∧ tt σ2 H2 fun b H3 =>
        if b = true then tk σ2 H3 fun y H4 => tv σ2 H4 fun z H5 => ∃ kvs k, y = kV k ∧ H5 D = some (.dK kvs) ∧ kvs.length < sizeLine ∧ Nx (upd H5 D (.dK (putK kvs k z))) else Nx H3) :=
  lc_any w (B := fun Nx x H' => g x (wipe σ vs) H' fun σ2 H2 => wipe σ2 vs = wipe σ vs ∧ tt σ2 H2 fun b H3 => if b = true then tk σ2 H3 fun y H4 => tv σ2 H4 fun z H5 => ∃ kvs k, y = kV k ∧ H5 D = some (.dK kvs) ∧ kvs.length < sizeLine ∧ Nx (upd H5 D (.dK (putK kvs k z))) else Nx H3) Pv h0 hG hs hd
section
variable {P : Program} {w : World} {K : PySem.W.Frag} {mg : Str → Option Value} {base : Heap} {C fI cc fc : Addr} {fdc : FuncData} {F : NdefX.NF} {n : Nat} {f g : Str}
theorem err_oneD {msg : Str} {kd : Nat} {p0 p1 p2 p3 p4 p5 q0 q1 q2 q3 q4 q5 : Pos} (T : ErrC K C) (J : InitFn P K C fI cc F) (ms : mg "super" = none) (G : FnOk P w K mg base CX0 (n + 1) fc fdc ["value"] spCopyD) (mc : mg "own_copy" = some (.ref fc)) (kc : PySem.W.keepIn K (.ref fc) = true)
    (bc : Binds K fdc ["value"] []) (S : NdefX.NScope ["self", f, "__class__"] ["self", f] ["__class__"] F.scope)
    (hB : F.body = .Expr (.Call (.Attribute (.Call (.Name "super" p0) [] [] p1) "__init__" p2) [.Constant (.str msg) kd p3] [] p4) p5 :: [.Assign [.Attribute (.Name "self" q0) f q1] (.Call (.Name "own_copy" q2) [.Name f q3] [] q4) q5])
    (hsg : F.scope.names.lookup ("super" : Str) = some .globalImplicit) (hog : F.scope.names.lookup ("own_copy" : Str) = some .globalImplicit) (free : PySem.W.findIn K (.ref C) f = some none)
    (hb : ∀ (kV doc pm ct : Value) (an : Option Addr) (us : List Value), us.length = 2 → bindArgs (PySem.W.fnX F.name F.qual F.params F.body F.scope F.cl .none kV doc pm an (.ref F.c) ct) ⟨us, []⟩ = pure ((["self", f] : List Str).zip us))
    {pl : Sem Bool} (he : ∀ env : Env, eval (.Call (.Attribute (.Call (.Name "super" p0) [] [] p1) "__init__" p2) [.Constant (.str msg) kd p3] [] p4) env = (do
      let ov ← attributeBase (.Call (.Name "super" p0) [] [] p1) "__init__" env (eval (.Call (.Name "super" p0) [] [] p1) env)
      standAt p2.atName
      let (f, first) ← holding [ov] (getMethod ov "__init__" pl)
      callWith p4 f first (backTo p4 (starEach [.Constant (.str msg) kd p3] env)) []))
    (fd : (f == ("__debug__" : Str)) = false) (fcd : (f == ("__classdict__" : Str)) = false) : ErrOk P w K mg base (n + 2) C fI (spErrD K C f) := by
  refine ⟨fun A outer s H us vs x Q hr e0 r ex hsp => ?_⟩
  obtain ⟨x', v, evs, _, hv, k⟩ := hsp
  obtain ⟨rfl, rfl⟩ : x = x' ∧ vs = [v] := by
    have z := List.cons.inj evs
    exact ⟨V.ref.inj z.1, z.2⟩
  have lu : us.length = 2 := by rw [← r.length]; rfl
  refine init_run (k := n + 1) (rest := [.Assign [.Attribute (.Name "self" q0) f q1] (.Call (.Name "own_copy" q2) [.Name f q3] [] q4) q5]) (x := x) T J ms S hB hsg (S.par _ (by simp)) hr e0 (fun kV doc pm ct an => BindsTo.of_eq (hb kV doc pm ct an us lu)) r rfl rfl rfl ex he fun hr' => ?_
  refine ⟨_, pss_one (ps_errSet (pe_var (i := 0) rfl (.inl (S.par _ (by simp)))) (pe_call G hr' hog mc kc bc .nil pass0 (pa_cons (pe_var (i := 1) rfl (.inl (S.par _ (by simp))) fd fcd) pa_nil)) ?sw), ?_⟩
  case sw => rfl
  refine r_errSet ?_
  refine r_call ?_
  refine r_cons ?_
  refine r_var rfl ?_
  refine r_nil ?_
  refine ⟨v, rfl, hv, fun v' H1 s1 o1 => ?_⟩
  refine r_var rfl ?_
  refine ⟨x, C, rfl, T, free, .inl ⟨s1 _ _ ex, fun dx hdx ne => ?_⟩⟩
  obtain ⟨b, e1, n1, h1⟩ := o1
  refine k dx v' _ upd_same (by rw [upd_ne ne, upd_same]) (s1.free hdx) ne (Keep.own (Keep.new (Keep.same s1) hdx)) ⟨b, e1, n1, ?_⟩
  have nx : b ≠ x := fun z => by rw [z, ex] at n1; cases n1
  have nd : b ≠ dx := fun z => by rw [z, hdx] at h1; cases h1
  rw [upd_ne nx, upd_ne nd]
  exact h1
theorem r_errD {σ : L2.St} {H : Hp} {Q : XK} {v : V} (hv : D01 H v) (q : ∀ (dd : Addr) (v' : V) (H' : Hp), Same H H' → H dd = none → H' dd = some (.xd [(f, v')]) → D01n H H' v' → Q (.ref C) (some dd) H') :
    [v].length ≤ 1000 ∧ ∀ x, H x = none → spErrD K C f (.ref x :: [v]) (upd H x (exo x C none)) (fun v H2 => v = .non ∧ ∃ (d : Addr) (fs : List (Str × V)), H2 x = some (exo x C (some d)) ∧ H2 d = some (exd d fs) ∧ H d = none ∧ Q (.ref C) (some d) (upd (del H2 x) d (.xd fs))) (fun _ _ _ => False) := by
  refine ⟨by show 1 ≤ 1000; decide, fun x hx => ?_⟩
  have s0 : Same H (upd H x (exo x C none)) := Same.up (Same.refl H) hx
  refine ⟨x, v, rfl, upd_same, hv.later s0, fun dx v' H' h1 h2 h3 ne h4 h5 => ⟨rfl, dx, _, h1, h2, ?_, ?_⟩⟩
  · rw [upd_ne ne] at h3; exact h3
  · rw [upd_ne ne] at h3
    obtain ⟨b, e1, n1, hb⟩ := h5
    have nx : b ≠ x := fun z => by rw [z, upd_same] at n1; cases n1
    have nd : b ≠ dx := fun z => by
      rw [z, h2] at hb
      exact exd_dk (Option.some.inj hb)
    refine q dx v' _ (fun b o e => ?_) h3 upd_same ⟨b, e1, s0.free n1, ?_⟩
    · have nb : b ≠ x := ne_of_none e hx
      rw [upd_ne (ne_of_none e h3), del_ne nb]
      exact h4 b o nb (s0 b o e)
    · rw [upd_ne nd, del_ne nx]
      exact hb
end
end Pk
set_option Elab.async false
set_option linter.all false
set_option maxRecDepth 100000
set_option maxHeartbeats 1000000
namespace Pk
open PySem L2 PySem.Spec PyProof.Rows
/-- a clause's ends: its name is gone behind it -/
def goneAt (i : Nat) (D : Ends) : Ends := { nx := fun τ G => D.nx (τ.set i none) G, rt := D.rt, bk := fun τ G => D.bk (τ.set i none) G, ct := fun τ G => D.ct (τ.set i none) G }
abbrev Cl := Value × Nat × (Addr → Value → Option Addr → TS)
/-- what several clauses 'except c as n' wish of an exception of the body, one behind another -/
def wAsMany (K : PySem.W.Frag) (Wout : WX) (D : Ends) : List Cl → WX
  | [] => Wout
  | (c, i, ts) :: r => fun k d τ G => ∃ b, PySem.W.exmOne K k c = some b ∧ (b = true → ∀ a, G a = none → ts a k d (goneAt i D) (τ.set i (some (.ref a))) G) ∧ (b = false → wAsMany K Wout D r k d τ G)
inductive ClsOk (X : Cx) : List ExceptHandler → List Cl → Prop
  | nil : ClsOk X [] []
  | cons {x n : Str} {c : Value} {i : Nat} {ts : Addr → Value → Option Addr → TS} {b₀ : Stmt} {su : List Stmt} {np ps : Pos} {hds : List ExceptHandler} {l : List Cl} (hc : Names X x c) (hi : X.N[i]? = some n) (hk : X.env.kindOf n = some .local)
      (hsu : ∀ (a : Addr) (oe : Obj) (k : Value) (d : Option Addr) (pn : List (Addr × Obj)), Zc k d oe → (∃ vs, oe.data = .fields vs) → PSs (X.suite a ((a, oe) :: pn)) (b₀ :: su) (ts a k d)) (r : ClsOk X hds l) :
      ClsOk X (.ExceptHandler (some (.Name x np)) (some n) (b₀ :: su) ps :: hds) ((c, i, ts) :: l)
  /-- a clause that nothing comes to -/
  | never {x : Str} {nm : Option Str} {c : Value} {su : List Stmt} {np ps : Pos} {hds : List ExceptHandler} {l : List Cl} (hc : Names X x c) (r : ClsOk X hds l) :
      ClsOk X (.ExceptHandler (some (.Name x np)) nm su ps :: hds) ((c, 0, fun _ _ _ _ _ _ => False) :: l)
section
variable {X : Cx} {body : List Stmt} {h₀ : ExceptHandler} {hds : List ExceptHandler} {l : List Cl} {pos : Pos} {tb : WX → TS} {Wout : WX}
theorem ps_try_asMany (hs : X.stack = X.env :: X.outer) (hf : X.env.frame = some X.env.locals) (hN : X.N.Nodup) (tk : Takes X Wout)
    (hb : ∀ (W : WX) (pn : List (Addr × Obj)) (xe : Value → Shared → Prop), Takes (X.tr pn xe) W → PassesOwn (model X.prog X.w) X.A X.env xe → PSs (X.tr pn xe) body (tb W)) (hh : ClsOk X (h₀ :: hds) l) :
    PS X (.Try body (h₀ :: hds) [] [] pos) (fun D τ G => tb (wAsMany X.K Wout D l) D τ G) := by
  refine ⟨fun pins s τ G D I h => ?_⟩
  have oki := I.ok
  have frm : X.A.frames = some (X.env :: X.outer) := oki.frames.trans (congrArg some hs)
  refine wpAny_Try_except (wpAny_mono ((hb (wAsMany X.K Wout D l) (X.pn ++ pins) (fun e s₁ => wpAny (model X.prog X.w) X.A (noteFrame e X.env) (fun _ s₂ => wpAny (model X.prog X.w) X.A (setFlight e none)
    (fun _ s₃ => wpAny (model X.prog X.w) X.A (handleBy e X.env (h₀ :: hds)) (SP X pins D) X.xe s₃) X.xe s₂) X.xe s₁) (fun u st xx => ?caught) PassesOwn.looking).run [] s τ G D (I.toTry _) h) (fun fl st hsp => ?through) (fun e st he => he))
  case through =>
    cases fl with
    | next => obtain ⟨τ', G', J, q⟩ := hsp; exact wpAny_execs_nil ⟨τ', G', J.ofTry oki, q⟩
    | brk => obtain ⟨τ', G', J, q⟩ := hsp; exact ⟨τ', G', J.ofTry oki, q⟩
    | cont => obtain ⟨τ', G', J, q⟩ := hsp; exact ⟨τ', G', J.ofTry oki, q⟩
    | ret u => obtain ⟨v, τ', G', J, r, q⟩ := hsp; exact ⟨v, τ', G', J.ofTry oki, r, q⟩
  case caught =>
    obtain ⟨a, B, sI, pins', τ', G', k, d, rfl, J', nb, up, sky, na, os, ag, w⟩ := xx
    have J : Inv X pins τ' G' sI := J'.ofTry oki
    have skyB : Sky B (X.env :: X.outer) a (Zc k d) X.env.locals st.heap := hs ▸ sky
    show wpAny (model X.prog X.w) X.A (noteFrame (.ref a) X.env) _ _ _
    refine Sky.land Zc.steady frm hf skyB fun h3 fl3 up3 => ?_
    have J3 : Inv X pins τ' G' { st with heap := h3 } := J.landed nb fl3.1 (up.trans up3) os ag
    obtain ⟨oe3, vs3, he3, hz3, hd3⟩ := fl3.there
    have off : a ∉ frs (X.env :: X.outer) := fun hm => by
      obtain ⟨_, o', e', hnf⟩ := fl3.2.2.1.mem hm
      cases he3.symm.trans e'; exact hnf _ hd3
    have nL : a ≠ X.env.locals := fun z => off (List.mem_filterMap.mpr ⟨X.env, List.mem_cons_self, by rw [hf, z]⟩)
    have nF : a ∉ X.fs := fun hm => let ⟨e, he, q⟩ := List.mem_filterMap.mp hm; off (List.mem_filterMap.mpr ⟨e, List.mem_cons_of_mem _ he, q⟩)
    have S3 := J3.suite he3 hd3 na nL nF
    suffices go : ∀ {ks : List ExceptHandler} {m : List Cl}, ClsOk X ks m → wAsMany X.K Wout D m k d τ' G' → wpAny (model X.prog X.w) X.A (handleBy (.ref a) X.env ks) (SP X pins D) X.xe { st with heap := h3 } from go hh w
    intro ks m hk
    induction hk with
    | nil =>
      intro w; refine wpAny_handleBy_nil ?_
      obtain ⟨_, _, _, oe, vs, T, oT, tz, he, hz, hd, h1, hr⟩ := id fl3
      unfold PySem.passOn
      refine wpAny_bind (wpAny_field he hd h1 ?_)
      rw [if_neg (by simp : ¬ ((Value.ref T == Value.none) = true))]
      have out : wpAny (model X.prog X.w) X.A (setFlight (.ref a) X.env.frame) (fun _ s4 => wpAny (model X.prog X.w) X.A (throw (.ref a) : Sem Flow) (SP X pins D) X.xe s4) X.xe { st with heap := h3 } := by
        rw [hf]; refine HandSPX.setFlight_upZ fl3 fun h4 hh4 up4 => wpAny_throw (tk _ _ ?_)
        exact ⟨a, B, sI, pins, τ', G', k, d, rfl, J, nb, (up.trans up3).trans up4, .inr (.inr (hs.symm ▸ hh4)), na, os, ag, w⟩
      first | exact wpAny_bind (wpAny_pure (wpAny_bind out)) | exact wpAny_bind out
    | @never x nm c su np ps hds2 l2 hc r ih =>
      intro w
      obtain ⟨b, hb1, yes, no⟩ := w
      refine wpAny_handleBy_cons (codeAny_handlers_test ?_) (by intro q; cases q)
      have tyL : PySem.W.Looks (model X.prog X.w) h3 (typeOf (.ref a)) k := fun A Q E s kk q => wpAny_typeOf_ref (kk _ _ he3) (hz3.1.symm ▸ q)
      have mt := PySem.W.exm_one (M := model X.prog X.w) (J3.kIn) tyL hb1
      have ask : ∀ {Q : Value → Shared → Prop} {E : Value → Shared → Prop}, Q c { st with heap := h3 } → wpAny (model X.prog X.w) (X.A.mark (some (.ref a))) (eval (.Name x np) X.env) Q E { st with heap := h3 } := fun {Q E} q => by
        obtain ⟨hg, hdb, g | ⟨g, hv, hnn⟩⟩ := hc
        · exact ld_glob (X := X.suite a ((a, oe3) :: (X.pn ++ pins))) S3 hg g q hdb
        · exact ld_blt (X := X.suite a ((a, oe3) :: (X.pn ++ pins))) S3 hg g hv q hnn hdb
      refine ask (mt.here ?_)
      cases b with
      | false => show wpAny _ X.A (handleBy (.ref a) X.env hds2) _ _ _; exact ih (no rfl)
      | true => exact (yes rfl a na).elim
    | @cons x n c i ts b₀ su np ps hds2 l2 hc hi hln hsu r ih =>
      intro w
      obtain ⟨b, hb1, yes, no⟩ := w
      refine wpAny_handleBy_cons (codeAny_handlers_test ?_) (by intro q; cases q)
      have tyL : PySem.W.Looks (model X.prog X.w) h3 (typeOf (.ref a)) k := fun A Q E s kk q => wpAny_typeOf_ref (kk _ _ he3) (hz3.1.symm ▸ q)
      have mt := PySem.W.exm_one (M := model X.prog X.w) (J3.kIn) tyL hb1
      have ask : ∀ {Q : Value → Shared → Prop} {E : Value → Shared → Prop}, Q c { st with heap := h3 } → wpAny (model X.prog X.w) (X.A.mark (some (.ref a))) (eval (.Name x np) X.env) Q E { st with heap := h3 } := fun {Q E} q => by
        obtain ⟨hg, hdb, g | ⟨g, hv, hnn⟩⟩ := hc
        · exact ld_glob (X := X.suite a ((a, oe3) :: (X.pn ++ pins))) S3 hg g q hdb
        · exact ld_blt (X := X.suite a ((a, oe3) :: (X.pn ++ pins))) S3 hg g hv q hnn hdb
      refine ask (mt.here ?_)
      cases b with
      | false => show wpAny _ X.A (handleBy (.ref a) X.env hds2) _ _ _; exact ih (no rfl)
      | true =>
        refine codeAny_handlers_suite_as (HandSPX.lands_againZ fl3 fun h4 fl4 up4 => ?_)
        have J4 : Inv X pins τ' G' { st with heap := h4 } := J.landed nb fl4.1 ((up.trans up3).trans up4) os ag
        obtain ⟨oe4, vs4, he4, hz4, hd4⟩ := fl4.there
        have S4 := J4.suite he4 hd4 na nL nF
        refine store_ok (X := X.suite a ((a, oe4) :: (X.pn ++ pins))) (v := .ref a) S4 hN hi (.inl hln) rfl (fun s5 S5 => ?_) (.inr hln)
        refine wpAny_mono ((hsu a oe4 k d (X.pn ++ pins) hz4 ⟨_, hd4⟩).run [] s5 _ G' _ S5 (yes rfl a na)) (fun f s6 hsp => ?_) (fun _ _ z => False.elim z)
        have fin : ∀ {τ6 : L2.St} {G6 : Hp} {Q : Shared → Prop}, Inv (X.suite a ((a, oe4) :: (X.pn ++ pins))) [] τ6 G6 s6 → (∀ s7, Inv X pins (τ6.set i none) G6 s7 → Q s7) →
            wpAny (model X.prog X.w) X.A (do bindName X.env n .none; unbindBehindTheSuite X.env n ps) (fun _ s7 => Q s7) X.xe s6 := fun {τ6 G6 Q} S6 hq => gone_ok (S6.unsuite oki) hN hi hln hq
        cases f with
        | next => obtain ⟨τ6, G6, S6, q6⟩ := hsp; exact fin S6 fun s7 J7 => ⟨_, _, J7, q6⟩
        | brk => obtain ⟨τ6, G6, S6, q6⟩ := hsp; exact fin S6 fun s7 J7 => ⟨_, _, J7, q6⟩
        | cont => obtain ⟨τ6, G6, S6, q6⟩ := hsp; exact fin S6 fun s7 J7 => ⟨_, _, J7, q6⟩
        | ret u => obtain ⟨v6, τ6, G6, S6, r6, q6⟩ := hsp; exact fin S6 fun s7 J7 => ⟨_, _, _, J7, r6, q6⟩
end
end Pk
set_option Elab.async false
set_option linter.all false
set_option maxRecDepth 100000
set_option maxHeartbeats 1000000
namespace Pk
open PySem L2 PySem.Spec PyProof.Rows
/-! ### a method is called where what it raises is wished for at the caller's slots -/
def tMethT (C : Addr) (m : Str) (sp : Sp) (E : L2.St → XK) (ta : TE) (t : TA) : TE := fun σ H Q => ta σ H fun x H1 => ∃ a dx fs, x = .ref a ∧ H1 a = some (.ins C dx fs) ∧ fs.lookup m = none ∧ t σ H1 fun vs H2 => sp (x :: vs) H2 Q (E σ)
theorem r_methT {C : Addr} {m : Str} {sp : Sp} {E : L2.St → XK} {ta : TE} {t : TA} {σ : L2.St} {H : Hp} {Q : VK} (h : ta σ H fun x H1 => ∃ a dx fs, x = .ref a ∧ H1 a = some (.ins C dx fs) ∧ fs.lookup m = none ∧ t σ H1 fun vs H2 => sp (x :: vs) H2 Q (E σ)) : tMethT C m sp E ta t σ H Q := h
theorem pe_methT {X : Cx} {CX : CXT} {k : Nat} {f C : Addr} {fd : FuncData} {ps : List Str} {sp : Sp} {E : L2.St → XK} {m : Str} {pos apos : Pos} {o e : Expr} {es : List Expr} {ta : TE} {t : TA} {pl : Sem Bool} (he : PE X o ta) (c : Cls X.K C) (hm : Meth X.K C m f)
    (F : FnOk X.prog X.w X.K X.mg X.base CX k f fd ps sp) (hr : Room k X.A) (hb : Binds X.K fd ps []) (hx : ∀ σ, PassesAt CX X σ (E σ)) (ha : PA X (e :: es) t)
    (hst : starEach (e :: es) X.env = (false, eval e X.env) :: starEach es X.env := by rfl) (hpl : (backTo pos (starEach es X.env)).any (·.1) = false := by rfl)
    (ht : eval (.Call (.Attribute o m apos) (e :: es) [] pos) X.env = (do
      let ov ← eval o X.env
      standAt apos.atName
      let (f, first) ← holding [ov] (getMethod ov m pl)
      callWith pos f first (backTo pos (starEach (e :: es) X.env)) (backToKw pos (keywordEach [] X.env))) := by rfl) :
    PE X (.Call (.Attribute o m apos) (e :: es) [] pos) (tMethT C m sp E ta t) := by
  refine ⟨fun pins s σ H Q I h => ?_⟩
  refine PySem.W.methodCall_KW (pl := pl) (thn (he.run pins s σ H _ I h) fun u s1 ⟨x, H1, I1, rx, a, dx, fs, ex, ea, l, q⟩ => ?_) ht
  subst ex
  obtain rfl : u = Value.ref a := rx
  refine getmeth_ok I1 ea c hm l ?_
  refine PySem.W.callWith_K (first := [.ref a]) (h₀ := X.base) I.ok.mod.kin hm.kp (thn (ha.run pos pins s1 σ H1 _ I1 q) fun us s2 ⟨vs, H2, I2, r, q2⟩ => ⟨I2.kIn, ?_⟩) hst hpl
  exact run_fnS (us := .ref a :: us) (vs := .ref a :: vs) F hr hb (hx σ) I2 (.cons rfl r) q2
end Pk
set_option Elab.async false
set_option linter.all false
set_option maxRecDepth 100000
set_option maxHeartbeats 1000000
namespace Pk
open PySem L2 PySem.Spec PyProof.Rows
/-- x not in a list of pairs -/
def rNotInP (K : PySem.W.Frag) : R2 := fun x y H Q => ∃ z zs, Dp K H x (prD z) ∧ Dp K H y (prsD zs) ∧ Q (.bl (!decide (z ∈ zs))) H
theorem op_notInP {X : Cx} (room : X.A.units + 64 < cLine) : OpR X (compareOp .NotIn) (rNotInP X.K) := by
  intro pn sh τ G a b va vb R J ra rb want
  obtain ⟨z, zs, da, db, q⟩ := want
  obtain ⟨as, r1⟩ := Dp.reads J _ a va da ra
  obtain ⟨bs, r2⟩ := Dp.reads J _ b vb db rb
  have deep := prs_depthAll zs
  have e := PySem.W.any_datum (α := Int × Int) zs z
  refine SeqAt.notIn_list_data r2 r1 (prs_plainAll zs) (pr_plain z) (by omega) ⟨.bl _, G, J, rfl, ?_⟩
  rw [show ((zs.map prD).any fun y => PyData.eqv y (prD z)) = decide (z ∈ zs) from e.trans (decide_eq_decide.mpr Iff.rfl)]
  exact q
section
variable {X : Cx} {CX : CXT} {k : Nat} {C : Addr} {sp : Sp} {E : L2.St → XK} {a b : Expr} {ta tb : TE} {pos : Pos}
/-- y not in x, x of an own class -/
theorem pt_notIn2 (F : Two X CX k C "__contains__" sp) (hr : Room k X.A) (hx : ∀ σ, PassesAt CX X σ (E σ)) (ha : PE X a ta) (hb : PE X b tb) (hm : behindInMarks .NotIn b = false) :
    PT X (.Compare a [.NotIn] [b] pos) (tTest (tOp2 (rOwnIn C sp true) E ta tb)) := by
  obtain ⟨f, fd, ps, M, F, B⟩ := F.ex
  refine ⟨fun pins s σ H Q I h => ?_⟩
  refine wpAny_isTrue_Compare1 (binT ha hb I h fun v u s2 y x H2 I2 ry rx q => ?_) hm
  obtain ⟨a, dx, fs, rfl, e, q⟩ := q
  cases rx
  obtain ⟨ox, od, J⟩ := own_at I2 e
  obtain ⟨m, hF⟩ := I2.fr
  refine PySem.W.notIn_K hF I2.ok.mod.kin J M.at_ M.fn ?_
  refine wpAny_mono (own_run (us := [.ref a, v]) (vs := [.ref a, y]) F hr I2.env0 B (hx σ) I2 (.cons rfl (.cons ry .nil)) q) (fun w s' z => ?_) fun _ _ z => z
  obtain ⟨z, H3, I3, rz, c, rfl, qz⟩ := z
  cases (show w = Value.bool c from rz)
  obtain ⟨k2, e2, q2⟩ := qz
  cases e2
  exact wpAny_pure (wpAny_truthy_bool ⟨H3, I3, q2⟩)
end
theorem cutAt {vs : List V} {i : Nat} (h : i ≤ vs.length) : cutV vs none (some (i : Int)) = vs.take i := by
  have e : min (i : Int).toNat vs.length = i := by simp; omega
  have n : ¬ (i : Int) < 0 := by omega
  simp only [cutV, HT.sIx, if_neg n, e, List.drop_zero, Nat.sub_zero]
theorem notBefore {zs : List Pr} {z : Pr} {i : Nat} (nd : zs.Nodup) (h : zs[i]? = some z) : z ∉ zs.take i := by
  intro m
  obtain ⟨j, hj, e⟩ := List.getElem_of_mem m
  rw [List.length_take] at hj
  rw [List.getElem_take] at e
  obtain ⟨hi, e2⟩ := List.getElem?_eq_some_iff.mp h
  exact (List.pairwise_iff_getElem.mp nd) j i (by omega) hi (by omega) (by rw [e, e2])
end Pk
set_option Elab.async false
set_option linter.all false
set_option maxRecDepth 100000
set_option maxHeartbeats 1000000
namespace Pk
open PySem L2 PySem.Spec PyProof.Rows
/-- how often a pair is in a list of pairs -/
def rCountP (K : PySem.W.Frag) : V → List V → Hp → VK → Prop := fun x xs H Q => ∃ (a : Addr) (y : V) (z : Pr) (zs : List Pr), x = V.ref a ∧ xs = [y] ∧ Dp K H (V.ref a) (prsD zs) ∧ Dp K H y (prD z) ∧ Q (.int ((zs.countP fun u => decide (u = z) : Nat) : Int)) H
theorem mt_countP {X : Cx} (hu : X.A.units + 64 < cLine) : MtR X "list.count" (rCountP X.K) := by
  intro pins s σ H x xs v us Q I rx rxs h
  obtain ⟨a, y, z, zs, rfl, rfl, hl, hy, q⟩ := h
  cases rx
  cases rxs with
  | cons ry rt =>
    rename_i uy ut
    cases rt
    obtain ⟨bs, r1⟩ := Dp.reads I (prD z) y uy hy ry
    cases hl with
    | lst hs ha =>
      obtain ⟨its, rv, ⟨⟨cls, dd, data, sls⟩, n, ho, hc, hdn, hdt⟩, hlen⟩ := I.list hs
      simp only at hc hdt
      subst hc hdt
      obtain ⟨as, h4⟩ := Dp.readsAll I _ _ its ha rv
      have e : ((zs.map prD).countP fun y => PyData.eqv y (prD z)) = zs.countP fun u => decide (u = z) := PySem.W.count_datum (α := Int × Int) zs z
      have dp := prs_depthAll zs
      refine SeqAt.count_list_data (vs := its.toArray) ⟨_, ho, rfl, n, rfl⟩ (by simpa using h4) r1 (prs_plainAll zs) (pr_plain z) (by omega) ?_
      rw [e]
      exact ⟨.int _, H, I.tok _, ⟨_, rfl⟩, q⟩
theorem cutDrop {vs : List V} {i : Nat} (h : i ≤ vs.length) : cutV vs (some (i : Int)) none = vs.drop i := by
  have e : min (i : Int).toNat vs.length = i := by simp; omega
  have n : ¬ (i : Int) < 0 := by omega
  have e2 : min vs.length vs.length = vs.length := by omega
  simp only [cutV, HT.sIx, if_neg n, e]
  first | rfl | (rw [List.take_of_length_le (by rw [List.length_drop]; omega)]) | simp
/-- a def with one keyword-only parameter, called with it -/
structure Dkw1 (P : Program) (w : World) (K : PySem.W.Frag) (mg : Str → Option Value) (base : Heap) (CX : CXT) (x : Str) (k : Nat) (ps : List Str) (n : Nat) (kw : Str) (sp : Sp) (f : Addr) (fd : FuncData) : Prop where
  at_ : mg x = some (.ref f)
  kp : PySem.W.keepIn K (.ref f) = true
  ok : FnOk P w K mg base CX k f fd ps sp
  kb : KBn K fd ps n [kw] (fun us ws => us ++ ws) (fun vs zs => vs ++ zs)
  dd : ∃ ds, Vals [V.str "even"] ds ∧ Binds K fd ps ds
abbrev Dkw (P : Program) (w : World) (K : PySem.W.Frag) (mg : Str → Option Value) (base : Heap) (CX : CXT) (x : Str) (k : Nat) (ps : List Str) (n : Nat) (kw : Str) (sp : Sp) : Prop := ∃ f fd, Dkw1 P w K mg base CX x k ps n kw sp f fd
theorem pe_kd {X : Cx} {k j n : Nat} {ps : List Str} {kw : Str} {sp : Sp} {x : Str} {p pos : Pos} {e : Expr} {es : List Expr} {kws : List Keyword} {t tk : TA}
    (D : Dkw X.prog X.w X.K X.mg X.base CX0 x k ps n kw sp) (hr : Room j X.A) (l : k ≤ j) (ha : PA X (e :: es) t) (hkw : PK X kws tk) (hg : Gl X x := by rfl)
    (hall : (backToKw pos (keywordEach kws X.env)).all (·.1.isSome) = true := by rfl) (hks : (backToKw pos (keywordEach kws X.env)).filterMap (·.1) = [kw] := by rfl) (hdb : (x == ("__debug__" : Str)) = false := by decide)
    (he : starEach (e :: es) X.env = (false, eval e X.env) :: starEach es X.env := by rfl) (hpl : ((backTo pos (starEach (e :: es) X.env)).any (·.1) || (backToKw pos (keywordEach kws X.env)).any (·.1.isNone)) = false := by rfl) :
    PE X (.Call (.Name x p) (e :: es) kws pos) (tKwS n [kw].length sp (fun vs zs => vs ++ zs) (fun _ => E0) t tk) := by
  obtain ⟨f, fd, D⟩ := D
  exact pe_kwS D.ok (hr.mono l) D.at_ D.kp D.kb (passN pass0) ha hkw hg hall hks hdb he hpl
end Pk
set_option Elab.async false
set_option linter.all false
set_option maxRecDepth 100000
set_option maxHeartbeats 1000000
namespace Pk
open PySem L2
local macro_rules | `(tactic| walk_at "rd") => `(tactic| repeat (first
  | with_reducible refine r_seq ?_ | with_reducible refine r_nxt ?_ | with_reducible refine r_asg ?_ | with_reducible refine r_to ?_ | with_reducible refine r_ret ?_ | with_reducible refine r_for ?_ | with_reducible refine r_lc ?_ | with_reducible refine r_rng1 ?_ | with_reducible refine r_list ?_ | with_reducible refine r_tupI ?_ | with_reducible refine r_drop ?_ | with_reducible refine r_ifs ?_
  | with_reducible refine r_op ?_ | with_reducible refine r_c ?_ | with_reducible refine r_var rfl ?_ | with_reducible refine r_I0 ?_ | with_reducible refine r_un ?_ | with_reducible refine r_U ?_ | with_reducible refine r_make ?_ | with_reducible refine r_sub ?_
  | with_reducible refine r_nil ?_ | with_reducible refine r_cons ?_ | with_reducible refine r_cb ?_ | with_reducible refine r_sl ?_ | with_reducible refine r_noP ?_ | with_reducible refine r_part ?_ | with_reducible refine r_isI ?_ | with_reducible refine r_lst ?_ | with_reducible refine r_tup ?_ | with_reducible refine r_call ?_
  | with_reducible refine r_test ?_ | with_reducible refine r_B ?_ | with_reducible refine r_and ?_ | with_reducible refine r_or ?_ | with_reducible refine r_not ?_ | with_reducible refine r_andV ?_ | with_reducible refine r_orV ?_ | with_reducible refine r_notV ?_ | with_reducible refine r_bl ?_ | with_reducible refine r_yes ?_ | with_reducible refine r_int ?_ | with_reducible refine r_is0 ?_ | with_reducible refine r_is1 ?_ | with_reducible refine iteT ?_ | with_reducible refine iteF ?_ | with_reducible refine ite_nF ?_ | with_reducible refine ite_nT ?_
  | with_reducible refine r_mod (by decide) ?_ | with_reducible refine r_div (by decide) (by decide) ?_ | with_reducible refine r_mulR (by decide) (by decide) ?_ | with_reducible refine r_mulL (by decide) (by decide) ?_ | with_reducible refine r_pow (by decide) (by decide) (by decide) ?_))
abbrev sCopy : Stmt := top 2
section
variable {P : Program} {w : World} {K : PySem.W.Frag} {mg : Str → Option Value} {base : Heap}
/-- the copies made so far stand in the list at D -/
def Copied (H : Hp) (D : Addr) (ds : List PyData) (i : Nat) (H' : Hp) : Prop :=
  ∃ ys, H' D = some (.lst ys) ∧ ys.length = i ∧ Same H H' ∧ ∀ (j : Nat) (v : V) (d : PyData), ys[j]? = some v → ds[j]? = some d → Own (upd H D (.lst [])) H' v d
theorem Copied.start {H : Hp} {D : Addr} {ds : List PyData} (hD : H D = none) : Copied H D ds 0 (upd H D (.lst [])) :=
  ⟨[], upd_same, rfl, fun b o e => by rw [upd_ne (ne_of_none e hD)]; exact e, fun j v d e => by simp at e⟩
theorem Copied.more {H H1 H2 : Hp} {D : Addr} {ds : List PyData} {i : Nat} {v : V} {d : PyData} (hD : H D = none) (c : Copied H D ds i H1) (s : Same H1 H2) (o : Own H1 H2 v d) (hd : ds[i]? = some d) :
    ∃ acc, H2 D = some (.lst acc) ∧ acc.length = i ∧ Copied H D ds (i + 1) (upd H2 D (.lst (acc ++ [v]))) := by
  obtain ⟨ys, h1, h2, h3, h4⟩ := c
  have nD : ∀ {a : Addr}, upd H D (.lst []) a = none → a ≠ D := fun {a} n z => by rw [z, upd_same] at n; cases n
  refine ⟨ys, s _ _ h1, h2, ys ++ [v], upd_same, by rw [List.length_append, h2]; rfl, fun b o e => ?_, fun j u e e1 e2 => ?_⟩
  · have n : b ≠ D := ne_of_none e hD
    rw [upd_ne n]
    exact s _ _ (h3 _ _ e)
  · by_cases hj : j < ys.length
    · rw [List.getElem?_append_left hj] at e1
      exact ((h4 j u e e1 e2).later s).mono (fun a n _ => n) fun a z n q _ => by rw [upd_ne (nD n)]; exact q
    · have ej : j = i := by
        have z := (List.getElem?_eq_some_iff.mp e1).1
        rw [List.length_append, List.length_singleton] at z
        omega
      subst ej
      rw [List.getElem?_append_right (by omega), h2, Nat.sub_self] at e1
      have eu : v = u := Option.some.inj e1
      have ee : d = e := Option.some.inj (hd.symm.trans e2)
      subst eu ee
      refine o.mono (fun a n _ => ?_) fun a z n q _ => ?_
      · have na : a ≠ D := fun z => by rw [z, h1] at n; cases n
        rw [upd_ne na]
        exact h3.free n
      · have na : a ≠ D := fun z => by rw [z, h1] at n; cases n
        rw [upd_ne na]
        exact q
theorem Copied.done {H H' : Hp} {D : Addr} {ds : List PyData} (hD : H D = none) (c : Copied H D ds ds.length H') : ∃ ys, H' D = some (.lst ys) ∧ ys.length = ds.length ∧ Same H H' ∧ ∀ (j : Nat) (v : V) (d : PyData), ys[j]? = some v → ds[j]? = some d → Own H H' v d := by
  obtain ⟨ys, h1, h2, h3, h4⟩ := c
  refine ⟨ys, h1, h2, h3, fun j v d e1 e2 => (h4 j v d e1 e2).mono (fun a n _ => ?_) fun a u _ q _ => q⟩
  have na : a ≠ D := fun z => by rw [z, upd_same] at n; cases n
  rw [upd_ne na] at n
  exact n

theorem scCopy : FnScope ["value", "entry"] ["value"] (defScope sCopy) := ⟨rfl, rfl, rfl, by decide +kernel, rfl, by decide +kernel, by decide +kernel⟩
theorem ok_copy {f : Addr} {fd : FuncData} (F : Fun K "own_copy" "own_copy" sCopy f fd) (T : Bt mg) (me : mg "own_copy" = some (.ref f)) : ∀ n : Nat, FnOk P w K mg base CX0 (n + 1) f fd ["value"] (spCopy K n)
  | 0 => by
    refine F.ok scCopy (fun vs H Q E h => ?_) (fun cdv A outer s H vs Q E hr h => ?_)
    · obtain ⟨v, d, rfl, _⟩ := h
      rfl
    · obtain ⟨v, d, rfl, hv, hd, k⟩ := h
      refine ⟨_, pss_cons (ps_if (pt_val (pe_callB call_isi (by rfl) T.isinstance (by decide +kernel) (pa_cons (pv 0) (pa_cons (pe_bltn (v := .ty "list") (by rfl) T.list (by decide +kernel) rfl) pa_nil)))) pss_never pss_nil)
        (pss_cons (ps_if (pt_val (pe_callB call_isi (by rfl) T.isinstance (by decide +kernel) (pa_cons (pv 0) (pa_cons (pe_bltn (v := .ty "tuple") (by rfl) T.tuple (by decide +kernel) rfl) pa_nil)))) pss_never pss_nil)
        (pss_cons (ps_if (pt_val (pe_callB call_isi (by rfl) T.isinstance (by decide +kernel) (pa_cons (pv 0) (pa_cons (pe_bltn (v := .ty "dict") (by rfl) T.dict (by decide +kernel) rfl) pa_nil)))) pss_never pss_nil)
        (pss_one (ps_ret (pv 0))))), ?_⟩
      obtain ⟨r1, e1, f1⟩ := kit_list d
      obtain ⟨r2, e2, f2⟩ := kit_tuple d
      have n1 : r1 = false := by
        cases r1 with
        | false => rfl
        | true => obtain ⟨ds, rfl⟩ := f1.mp rfl; cases hd
      have n2 : r2 = false := by
        cases r2 with
        | false => rfl
        | true => obtain ⟨ds, rfl⟩ := f2.mp rfl; cases hd
      subst n1 n2
      walk_at "rd"
      refine r_isi (Dp.kind hv) e1 ?_
      walk_at "rd"
      refine r_isi (Dp.kind hv) e2 ?_
      walk_at "rd"
      refine r_isi (Dp.kind hv) (kit_dict hd) ?_
      walk_at "rd"
      refine k v H (Same.refl H) ?_
      cases hd with
      | non => cases hv; exact .non
      | bl b => cases hv; exact .bl b
      | int i => cases hv; exact .int i
      | str z => cases hv; exact .str z
  | n + 1 => by
    have G := ok_copy F T me n
    have b : Binds K fd ["value"] [] := F.binds fun _ _ _ _ _ _ us hl => match us, hl with | [_], _ => rfl
    refine F.ok scCopy (fun vs H Q E h => ?_) (fun cdv A outer s H vs Q E hr h => ?_)
    · obtain ⟨v, d, rfl, _⟩ := h
      rfl
    · obtain ⟨v, d, rfl, hv, hd, k⟩ := h
      refine ⟨_, pss_cons (ps_if (pt_val (pe_callB call_isi (by rfl) T.isinstance (by decide +kernel) (pa_cons (pv 0) (pa_cons (pe_bltn (v := .ty "list") (by rfl) T.list (by decide +kernel) rfl) pa_nil))))
          (pss_one (ps_ret (pe_lc (own := [("entry", 1)]) (g := gName 1) rfl scCopy.nd (pi_list (pv 0)) (blkOk_by (own := [("entry", 1)]) (N := ["value", "entry"]) (sc := defScope sCopy) (by decide +kernel)) (fun _ _ _ _ _ => pg_name (i := 1) scCopy.nd rfl (Or.inl rfl)) (fun _ _ _ _ _ => pts_nil)
            (fun _ _ _ _ _ => pe_call G hr rfl me F.kp b .nil pass0 (pa_cons (pv 1) pa_nil))))) pss_nil)
        (pss_cons (ps_if (pt_val (pe_callB call_isi (by rfl) T.isinstance (by decide +kernel) (pa_cons (pv 0) (pa_cons (pe_bltn (v := .ty "tuple") (by rfl) T.tuple (by decide +kernel) rfl) pa_nil))))
          (pss_one (ps_ret (pe_callTy cl_tup (by rfl) T.tuple (by decide +kernel) (pa_cons (pe_lc (own := [("entry", 1)]) (g := gName 1) rfl scCopy.nd (pi_tup (pv 0)) (blkOk_by (own := [("entry", 1)]) (N := ["value", "entry"]) (sc := defScope sCopy) (by decide +kernel)) (fun _ _ _ _ _ => pg_name (i := 1) scCopy.nd rfl (Or.inl rfl)) (fun _ _ _ _ _ => pts_nil)
            (fun _ _ _ _ _ => pe_call G hr rfl me F.kp b .nil pass0 (pa_cons (pv 1) pa_nil))) pa_nil)))) pss_nil)
        (pss_cons (ps_if (pt_val (pe_callB call_isi (by rfl) T.isinstance (by decide +kernel) (pa_cons (pv 0) (pa_cons (pe_bltn (v := .ty "dict") (by rfl) T.dict (by decide +kernel) rfl) pa_nil)))) pss_never pss_nil)
        (pss_one (ps_ret (pv 0))))), ?_⟩
      obtain ⟨r1, e1, f1⟩ := kit_list d
      obtain ⟨r2, e2, f2⟩ := kit_tuple d
      walk_at "rd"
      refine r_isi (Dp.kind hv) e1 ?_
      walk_at "rd"
      cases r1 with
      | true =>
        obtain ⟨ds, rfl⟩ := f1.mp rfl
        cases hd with
        | lst hds hz =>
          cases hv with
          | @lst a xs _ hS hA =>
            have ln := dpAll_len hA
            walk_at "rd"
            refine ⟨a, rfl, ⟨_, hS⟩, fun D hD => lc_list (K := K) (a := a) (xs := xs) (Copied H D ds) (Copied.start hD) (fun i H' _ c => c.choose_spec.2.2.1.seq hS) (fun i x H' hi c => ?_) (fun H' c => ?_)⟩
            · obtain ⟨d, hd, hx⟩ := dpAll_at hA hi
              have s1 : Same H H' := c.choose_spec.2.2.1
              walk_at "rd"
              refine ⟨rfl, ?_⟩
              walk_at "rd"
              refine ⟨x, d, rfl, Dp.later s1 hx, hds d (List.mem_of_getElem? hd), fun v' H2 s2 o => ?_⟩
              obtain ⟨acc, h1, h2, h3⟩ := c.more hD s2 o hd
              refine ⟨acc, h1, Nat.lt_of_lt_of_le ?_ (show 1001 ≤ sizeLine by decide), h3⟩
              have := (List.getElem?_eq_some_iff.mp hd).1
              omega
            · rw [ln] at c
              obtain ⟨ys, h1, h2, h3, h4⟩ := Copied.done hD c
              exact k _ _ h3 (.lst hD h1 h2 h4)
      | false =>
        walk_at "rd"
        refine r_isi (Dp.kind hv) e2 ?_
        walk_at "rd"
        cases r2 with
        | true =>
          obtain ⟨ds, rfl⟩ := f2.mp rfl
          cases hd with
          | tup hds hz =>
            cases hv with
            | @tup a xs _ hS hA =>
              have ln := dpAll_len hA
              walk_at "rd"
              refine ⟨a, rfl, ⟨_, hS⟩, fun D hD => lc_tup (K := K) (a := a) (xs := xs) (Copied H D ds) (Copied.start hD) (fun i H' _ c => ?_) (fun i x H' hi c => ?_) (fun H' c => ?_)⟩
              · have s1 : Same H H' := c.choose_spec.2.2.1
                rcases hS with (h | ⟨o, h⟩) | h
                · exact .inl (.inl (s1 _ _ h))
                · exact .inl (.inr ⟨o, s1 _ _ h⟩)
                · exact .inr h
              · obtain ⟨d, hd, hx⟩ := dpAll_at hA hi
                have s1 : Same H H' := c.choose_spec.2.2.1
                walk_at "rd"
                refine ⟨rfl, ?_⟩
                walk_at "rd"
                refine ⟨x, d, rfl, Dp.later s1 hx, hds d (List.mem_of_getElem? hd), fun v' H2 s2 o => ?_⟩
                obtain ⟨acc, h1, h2, h3⟩ := c.more hD s2 o hd
                refine ⟨acc, h1, Nat.lt_of_lt_of_le ?_ (show 1001 ≤ sizeLine by decide), h3⟩
                have := (List.getElem?_eq_some_iff.mp hd).1
                omega
              · rw [ln] at c
                obtain ⟨ys, h1, h2, h3, h4⟩ := Copied.done hD c
                walk_at "rd"
                refine r_tupOf (SqL.of h1) fun q hq => ?_
                have s2 : Same H (upd H' q (.tup ys)) := Same.up h3 hq
                exact k _ _ s2 (.tup (h3.free hq) upd_same h2 fun j v d e1 e2 => (h4 j v d e1 e2).later (Same.up (Same.refl H') hq))
        | false =>
          walk_at "rd"
          refine r_isi (Dp.kind hv) (kit_dict hd) ?_
          walk_at "rd"
          refine k v H (Same.refl H) ?_
          cases hd with
          | non => cases hv; exact .non
          | bl b => cases hv; exact .bl b
          | int i => cases hv; exact .int i
          | str z => cases hv; exact .str z
          | lst h z => exact absurd (f1.mpr ⟨_, rfl⟩) Bool.false_ne_true
          | tup h z => exact absurd (f2.mpr ⟨_, rfl⟩) Bool.false_ne_true
end
end Pk
set_option Elab.async false
set_option linter.all false
set_option maxRecDepth 100000
set_option maxHeartbeats 4000000
namespace Pk
open PySem L2
local macro_rules | `(tactic| walk_at "rd") => `(tactic| repeat (first
  | with_reducible refine r_seq ?_ | with_reducible refine r_nxt ?_ | with_reducible refine r_asg ?_ | with_reducible refine r_to ?_ | with_reducible refine r_ret ?_ | with_reducible refine r_for ?_ | with_reducible refine r_lc ?_ | with_reducible refine r_lc2 ?_ | with_reducible refine r_rng1 ?_ | with_reducible refine r_list ?_ | with_reducible refine r_tupI ?_ | with_reducible refine r_drop ?_ | with_reducible refine r_ifs ?_
  | with_reducible refine r_op ?_ | with_reducible refine r_c ?_ | with_reducible refine r_var rfl ?_ | with_reducible refine r_var (by assumption) ?_ | with_reducible refine r_I0 ?_ | with_reducible refine r_un ?_ | with_reducible refine r_U ?_ | with_reducible refine r_make ?_ | with_reducible refine r_makeS ?_ | with_reducible refine r_ifE ?_ | with_reducible refine r_cm ?_ | with_reducible refine r_mkV rfl ?_ | with_reducible refine r_sub ?_
  | with_reducible refine r_nil ?_ | with_reducible refine r_cons ?_ | with_reducible refine r_cb ?_ | with_reducible refine r_sl ?_ | with_reducible refine r_noP ?_ | with_reducible refine r_part ?_ | with_reducible refine r_isI ?_ | with_reducible refine r_lst ?_ | with_reducible refine r_tup ?_ | with_reducible refine r_call ?_ | with_reducible refine r_callS ?_ | with_reducible refine r_sFldU ?_ | with_reducible refine r_chain ?_ | with_reducible refine r_enum ?_ | with_reducible refine r_zip ?_ | with_reducible refine r_rng3 ?_ | with_reducible refine r_gtup ?_ | with_reducible refine r_methU ?_
  | with_reducible refine r_test ?_ | with_reducible refine r_B ?_ | with_reducible refine r_and ?_ | with_reducible refine r_or ?_ | with_reducible refine r_not ?_ | with_reducible refine r_andV ?_ | with_reducible refine r_orV ?_ | with_reducible refine r_notV ?_ | with_reducible refine r_bl ?_ | with_reducible refine r_yes ?_ | with_reducible refine r_int ?_ | with_reducible refine r_is0 ?_ | with_reducible refine r_is1 ?_ | with_reducible refine iteT ?_ | with_reducible refine iteF ?_ | with_reducible refine ite_nF ?_ | with_reducible refine ite_nT ?_
  | with_reducible refine r_mod (by decide) ?_ | with_reducible refine r_div (by decide) (by decide) ?_ | with_reducible refine r_mulR (by decide) (by decide) ?_ | with_reducible refine r_mulL (by decide) (by decide) ?_ | with_reducible refine r_pow (by decide) (by decide) (by decide) ?_))
/-! ### is_integer, is_between, is_two -/
theorem one_fst {f : Str} {v : V} : List.lookup f [(f, v)] = some v := by simp [List.lookup]
theorem one_no {m f : Str} {v : V} (h : (m == f) = false) : List.lookup m [(f, v)] = none := by simp [List.lookup, h]
theorem cut_take {vs : List V} {i : Nat} (h : i ≤ vs.length) : cutV vs none (some (i : Int)) = vs.take i := by
  have e : min (i : Int).toNat vs.length = i := by simp; omega
  have n : ¬ (i : Int) < 0 := by omega
  simp only [cutV, HT.sIx, if_neg n, e, List.drop_zero, Nat.sub_zero]
theorem cut_drop {vs : List V} {i : Nat} (h : i ≤ vs.length) : cutV vs (some (i : Int)) none = vs.drop i := by
  have e : min (i : Int).toNat vs.length = i := by simp; omega
  have n : ¬ (i : Int) < 0 := by omega
  simp only [cutV, HT.sIx, if_neg n, e]
  exact List.take_of_length_le (by rw [List.length_drop]; omega)
theorem two_eq {x y : PyData} (h : isID x = true) : twoD (.tuple [x, y]) = isID y := by
  cases x <;> cases h
  cases y <;> rfl
theorem two_noD {x y : PyData} (h : isID x = false) : twoD (.tuple [x, y]) = false := by
  cases x <;> first | rfl | cases h
theorem len2 {ds : List PyData} (h : ds.length = 2) : ∃ d1 d2, ds = [d1, d2] := by
  match ds, h with
  | [a, b], _ => exact ⟨a, b, rfl⟩
theorem all2 {K : PySem.W.Frag} {H : Hp} {vs : List V} {x y : PyData} (h : DpAll K H vs [x, y]) : ∃ v u, vs = [v, u] ∧ Dp K H v x ∧ Dp K H u y := by
  cases h with
  | cons h1 r => cases r with
    | cons h2 r2 => cases r2; exact ⟨_, _, rfl, h1, h2⟩
def betD (lo hi : Int) : PyData → Bool
  | .int i => decide (lo ≤ i) && decide (i ≤ hi)
  | _ => false
def spIntD (K : PySem.W.Frag) : Sp := fun vs H Q _ => ∃ (v : V) (d : PyData), vs = [v] ∧ Dp K H v d ∧ Q (.bl (isID d)) H
def spTwoD (K : PySem.W.Frag) : Sp := fun vs H Q _ => ∃ (v : V) (d : PyData), vs = [v] ∧ Dp K H v d ∧ Q (.bl (twoD d)) H
def spBetD (K : PySem.W.Frag) : Sp := fun vs H Q _ => ∃ (v : V) (d : PyData) (lo hi : Int), vs = [v, .int lo, .int hi] ∧ Dp K H v d ∧ Q (.bl (betD lo hi d)) H
/-- the def within a class's text -/
def inCls (i j : Nat) : Stmt := match top i with
  | .ClassDef (body := b) .. => b.getD j (.Pass ⟨0, 0, 0, 0⟩)
  | _ => .Pass ⟨0, 0, 0, 0⟩
abbrev slIsInt : Stmt := top 10
abbrev slTwo : Stmt := top 11
section
variable {P : Program} {w : World} {K : PySem.W.Frag} {mg : Str → Option Value} {base : Heap} {C CE f : Addr} {fd : FuncData}
theorem sclIsInt : FnScope ["value"] ["value"] (defScope slIsInt) := ⟨rfl, rfl, rfl, by decide +kernel, rfl, by decide +kernel, by decide +kernel⟩
theorem ok_isInt (F : Fun K "is_integer" "is_integer" slIsInt f fd) (T : Bt mg) : FnOk P w K mg base CX0 1 f fd ["value"] (spIntD K) := by
  refine F.ok sclIsInt (fun vs H Q E h => ?_) (fun cdv A outer s H vs Q E hr h => ?_)
  · obtain ⟨v, d, rfl, _⟩ := h
    rfl
  · obtain ⟨v, d, rfl, hd, k⟩ := h
    refine ⟨_, (pss_one (ps_ret (pe_and (pe_callB call_isi (by rfl) T.isinstance (by decide +kernel) (pa_cons (pv 0) (pa_cons (pe_bltn (v := .ty "int") (by rfl) T.int (by decide +kernel) rfl) pa_nil))) (pe_one (pe_not (pe_callB call_isi (by rfl) T.isinstance (by decide +kernel) (pa_cons (pv 0) (pa_cons (pe_bltn (v := .ty "bool") (by rfl) T.bool (by decide +kernel) rfl) pa_nil)))))))), ?_⟩
    walk_at "rd"
    refine r_isDI hd ?_
    walk_at "rd"
    by_cases e : isIB d = true
    · refine ifT e ?_
      walk_at "rd"
      refine r_isDB hd ?_
      walk_at "rd"
      rw [show isID d = !isBD d from by cases d <;> first | rfl | cases e] at k
      exact k
    · refine ifF (Bool.eq_false_iff.mpr e) ?_
      rw [show isID d = false from by cases d <;> first | exact absurd rfl e | rfl] at k
      exact k
theorem sclTwo : FnScope ["value"] ["value"] (defScope slTwo) := ⟨rfl, rfl, rfl, by decide +kernel, rfl, by decide +kernel, by decide +kernel⟩
theorem ok_two (F : Fun K "is_two" "is_two" slTwo f fd) (T : Bt mg) (DI : Df P w K mg base CX0 "is_integer" 1 ["value"] (spIntD K)) : FnOk P w K mg base CX0 2 f fd ["value"] (spTwoD K) := by
  refine F.ok sclTwo (fun vs H Q E h => ?_) (fun cdv A outer s H vs Q E hr h => ?_)
  · obtain ⟨v, d, rfl, _⟩ := h
    rfl
  · obtain ⟨v, d, rfl, hd, k⟩ := h
    refine ⟨_, (pss_one (ps_ret (pe_and (pe_callB call_isi (by rfl) T.isinstance (by decide +kernel) (pa_cons (pv 0) (pa_cons (pe_bltn (v := .ty "tuple") (by rfl) T.tuple (by decide +kernel) rfl) pa_nil))) (pe_and (pe_cmpR op_eq (pe_callB cl_len (by rfl) T.len PySem.boot_len (pa_cons (pv 0) pa_nil)) pe_int (nomark _)) (pe_and (pe_df DI hr (by decide) (pa_cons (pe_ix ix_tup (pv 0) pe_int (fun _ _ => rfl)) pa_nil)) (pe_one (pe_df DI hr (by decide) (pa_cons (pe_ix ix_tup (pv 0) pe_int (fun _ _ => rfl)) pa_nil)))))))), ?_⟩
    walk_at "rd"
    refine r_isDT hd ?_
    walk_at "rd"
    by_cases e : isTD d = true
    · refine ifT e ?_
      obtain ⟨ds, rfl⟩ : ∃ ds, d = .tuple ds := by cases d <;> first | exact ⟨_, rfl⟩ | cases e
      obtain ⟨t, vs, rfl, ht, hv⟩ := Dp.tupAt hd
      have vl := DpAll.len hv
      walk_at "rd"
      refine r_lenT ht ?_
      walk_at "rd"
      refine r_eq rfl ?_
      walk_at "rd"
      rw [show decide (V.int (vs.length : Int) = V.int 2) = decide (ds.length = 2) from decide_eq_decide.mpr ⟨fun h => by have := V.int.inj h; omega, fun h => by rw [vl, h]; rfl⟩]
      by_cases e2 : ds.length = 2
      · refine ifT (decide_eq_true e2) ?_
        obtain ⟨d1, d2, rfl⟩ : ∃ d1 d2, ds = [d1, d2] := len2 e2
        obtain ⟨v1, v2, rfl, h1, h2⟩ := all2 hv
        walk_at "rd"
        refine r_ixT ht (atI_nat (j := 0) rfl) ?_
        walk_at "rd"
        refine ⟨_, d1, rfl, h1, ?_⟩
        walk_at "rd"
        by_cases e3 : isID d1 = true
        · refine ifT e3 ?_
          walk_at "rd"
          refine r_ixT ht (atI_nat (j := 1) rfl) ?_
          walk_at "rd"
          refine ⟨_, d2, rfl, h2, ?_⟩
          rw [two_eq e3] at k
          exact k
        · refine ifF (Bool.eq_false_iff.mpr e3) ?_
          rw [two_noD (Bool.eq_false_iff.mpr e3)] at k
          exact k
      · refine ifF (decide_eq_false e2) ?_
        have : twoD (.tuple ds) = false := by
          cases q : twoD (.tuple ds) with
          | false => rfl
          | true =>
            obtain ⟨a, b, z⟩ := twoD_inv q
            cases z
            exact absurd rfl e2
        rw [this] at k
        exact k
    · refine ifF (Bool.eq_false_iff.mpr e) ?_
      rw [show twoD d = false from by cases d <;> first | exact absurd rfl e | rfl] at k
      exact k
theorem Dp.intV {H : Hp} {v : V} {i : Int} (h : Dp K H v (.int i)) : v = .int i := by
  cases h
  rfl
end
/-! ### a table is made -/
theorem pV_of {K : PySem.W.Frag} {H : Hp} {v : V} {z : Option Int} (h : Dp K H v (pD z)) : v = pV z := by
  cases z with
  | none => cases h; rfl
  | some i => cases h; rfl
theorem pVs_of {K : PySem.W.Frag} {H : Hp} : ∀ {vs : List V} {r : List (Option Int)}, DpAll K H vs (r.map pD) → vs = r.map pV
  | [], [], _ => rfl
  | _ :: _, [], h => by cases h
  | [], _ :: _, h => by cases h
  | v :: vs, z :: r, h => by
    cases h with
    | cons h1 h2 => rw [pV_of h1, pVs_of h2]; rfl
def isND : PyData → Bool
  | .none => true
  | _ => false
theorem non_iff {K : PySem.W.Frag} {H : Hp} {v : V} {d : PyData} (h : Dp K H v d) : decide (v = .non) = isND d := by
  cases h <;> rfl
def spPrice (K : PySem.W.Frag) : Sp := fun vs H Q _ => ∃ (v : V) (d : PyData), vs = [v] ∧ Dp K H v d ∧ Q (.bl (priceD d)) H
def spRow (K : PySem.W.Frag) : Sp := fun vs H Q _ => ∃ (v u : V) (d e : PyData), vs = [v, u] ∧ Dp K H v d ∧ Dp K H u e ∧ (isLD d = true → isLD e = true) ∧ ∀ H' : Hp, Same H H' → Q (.bl (rowOk d e)) H'
def spChkR (K : PySem.W.Frag) (CE : Addr) : Sp := fun vs H Q E => ∃ (v : V) (d : PyData), vs = [v] ∧ Dp K H v d ∧ (badT d = none → ∀ H' : Hp, Same H H' → Q .non H') ∧
  (∀ k, badT d = some k → ∀ (dd : Addr) (H' : Hp), Same H H' → H dd = none → H' dd = some (.xd [("at", .int k)]) → E (.ref CE) (some dd) H')
/-- Table.__init__ -/
def spTbI (K : PySem.W.Frag) (C CE : Addr) : Sp := fun vs H Q E => ∃ (x dx : Addr) (v : V) (d : PyData), vs = [.ref x, v] ∧ H x = some (.ins C dx []) ∧ H dx = some (.own x) ∧ dx ≠ x ∧ Dp K H v d ∧
  (∀ R, d = rowsD R → Gt R → ∀ (H' G : Hp), TbX C G x R → Same G H' → (∀ a o, G a = some o → a = x ∨ H a = none) → (∀ a o, a ≠ x → H a = some o → H' a = some o) → Q .non H') ∧
  (∀ k, badT d = some k → ∀ (dd : Addr) (H' : Hp), Same H H' → H dd = none → H' dd = some (.xd [("at", .int k)]) → E (.ref CE) (some dd) H')
abbrev slPrice : Stmt := top 27
abbrev slRow : Stmt := top 28
abbrev slChkR : Stmt := top 29
abbrev slTbI : Stmt := inCls 32 0
structure TbC (K : PySem.W.Frag) (C : Addr) : Prop where
  O : OwnC K C
  e : NoAttr K C "entries"
  u : NoAttr K C "used"
section
variable {P : Program} {w : World} {K : PySem.W.Frag} {mg : Str → Option Value} {base : Heap} {C CE f : Addr} {fd : FuncData}
theorem sclPrice : FnScope ["value"] ["value"] (defScope slPrice) := ⟨rfl, rfl, rfl, by decide +kernel, rfl, by decide +kernel, by decide +kernel⟩
theorem ok_price (F : Fun K "is_price" "is_price" slPrice f fd) (DI : Df P w K mg base CX0 "is_integer" 1 ["value"] (spIntD K)) : FnOk P w K mg base CX0 2 f fd ["value"] (spPrice K) := by
  refine F.ok sclPrice (fun vs H Q E h => ?_) (fun cdv A outer s H vs Q E hr h => ?_)
  · obtain ⟨v, d, rfl, _⟩ := h
    rfl
  · obtain ⟨v, d, rfl, hd, k⟩ := h
    refine ⟨_, (pss_one (ps_ret (pe_or (pe_cmpR op_is0 (pv 0) pe_non (nomark _)) (pe_one (pe_df DI hr (by decide) (pa_cons (pv 0) pa_nil)))))), ?_⟩
    walk_at "rd"
    rw [non_iff hd]
    by_cases e : isND d = true
    · refine ifT e ?_
      rw [show priceD d = true from by cases d <;> first | rfl | cases e] at k
      exact k
    · refine ifF (Bool.eq_false_iff.mpr e) ?_
      walk_at "rd"
      refine ⟨v, d, rfl, hd, ?_⟩
      rw [show priceD d = isID d from by cases d <;> first | rfl | exact absurd rfl e] at k
      exact k
theorem sclRow : FnScope ["value", "first", "entry"] ["value", "first"] (defScope slRow) := ⟨rfl, rfl, rfl, by decide +kernel, rfl, by decide +kernel, by decide +kernel⟩
theorem ok_row (F : Fun K "is_row" "is_row" slRow f fd) (T : Bt mg) (tall : mg "all" = none) {tk : Tok} (hM : mg "MOST_LINES" = some (.int 8 tk)) (DP : Df P w K mg base CX0 "is_price" 2 ["value"] (spPrice K)) : FnOk P w K mg base CX0 3 f fd ["value", "first"] (spRow K) := by
  refine F.ok sclRow (fun vs H Q E h => ?_) (fun cdv A outer s H vs Q E hr h => ?_)
  · obtain ⟨v, u, d, e, rfl, _⟩ := h
    rfl
  · obtain ⟨v, u, d, e, rfl, hd, he, hl, k⟩ := h
    refine ⟨_, (pss_cons (ps_if (PW.pt (pw_or (pt_not (pt_val (pe_callB call_isi (by rfl) T.isinstance (by decide +kernel) (pa_cons (pv 0) (pa_cons (pe_bltn (v := .ty "list") (by rfl) T.list (by decide +kernel) rfl) pa_nil))))) (pw_or (pt_not (pt_chain op_le op_le pe_int (pe_callB cl_len (by rfl) T.len PySem.boot_len (pa_cons (pv 0) pa_nil)) (pe_glob (v := .int 8) (by rfl) hM ⟨tk, rfl⟩))) (pw_or1 (pt_cmpR op_ne (pe_callB cl_len (by rfl) T.len PySem.boot_len (pa_cons (pv 0) pa_nil)) (pe_callB cl_len (by rfl) T.len PySem.boot_len (pa_cons (pv 1) pa_nil)) (nomark _)))))) (pss_one (ps_ret pe_bl)) pss_nil)
  (pss_one (ps_ret (pe_callB (cr_all rfl) (by rfl) tall (by decide +kernel) (pa_cons (pe_lc (own := [("entry", 2)]) (g := gName 2) rfl sclRow.nd (pi_list (pv 0)) (blkOk_by (own := [("entry", 2)]) (N := ["value", "first", "entry"]) (sc := defScope slRow) (by decide +kernel)) (fun _ _ _ _ _ => pg_name (i := 2) sclRow.nd rfl (Or.inl rfl)) (fun _ _ _ _ _ => pts_nil) (fun _ _ _ _ _ => (pe_df DP hr (by decide) (pa_cons (pv 2) pa_nil)))) pa_nil))))), ?_⟩
    have no : rowOk d e = false → Q (.bl false) H := fun z => by
      have := k H (Same.refl H)
      rw [z] at this
      exact this
    walk_at "rd"
    refine r_isDL hd ?_
    walk_at "rd"
    by_cases c0 : isLD d = true
    · refine ifF (by rw [c0]; rfl) ?_
      obtain ⟨ds, rfl⟩ : ∃ ds, d = .list ds := by
        cases d with
        | list ds => exact ⟨ds, rfl⟩
        | _ => cases c0
      obtain ⟨es, rfl⟩ : ∃ es, e = .list es := by
        have := hl c0
        cases e with
        | list ds => exact ⟨ds, rfl⟩
        | _ => cases this
      obtain ⟨a, vs, rfl, ha, hv⟩ := Dp.lstAt hd
      obtain ⟨b, us, rfl, hb, hu⟩ := Dp.lstAt he
      have vl := DpAll.len hv
      have ul := DpAll.len hu
      walk_at "rd"
      refine r_lenL ha ?_
      walk_at "rd"
      by_cases c1 : 1 ≤ ds.length
      · refine ifT (decide_eq_true (by omega)) ?_
        walk_at "rd"
        by_cases c2 : ds.length ≤ 8
        · refine ifF (by rw [decide_eq_true (by omega)]; rfl) ?_
          walk_at "rd"
          refine r_lenL ha ?_
          walk_at "rd"
          refine r_lenL hb ?_
          walk_at "rd"
          refine r_ne rfl ?_
          walk_at "rd"
          by_cases c3 : ds.length = es.length
          · refine ifF (by rw [decide_eq_true (by rw [vl, ul, c3])]; rfl) ?_
            walk_at "rd"
            refine ⟨a, rfl, ⟨_, ha⟩, fun D nD => lc_it walk_list (Out H D fun i => V.bl (priceD (ds.getD i .none))) (Out.start nD) (fun i H1 _ o => o.1.seq ha) ?_ ?_⟩
            · rintro i y H1 H2 hi o ⟨rfl, e1⟩
              obtain ⟨dy, hdy, py⟩ := DpAll.at hv e1
              walk_at "rd"
              refine ⟨rfl, ?_⟩
              walk_at "rd"
              refine ⟨y, dy, rfl, Dp.later o.1 py, ?_⟩
              have ey : V.bl (priceD dy) = (fun i => V.bl (priceD (ds.getD i .none))) i := by
                show _ = V.bl (priceD (ds.getD i .none))
                rw [List.getD_eq_getElem?_getD, hdy]
                rfl
              rw [ey]
              exact o.more nD (Same.refl _) (Nat.lt_of_lt_of_le (show i < 9 by omega) (by decide))
            · rintro H1 ⟨s1, hD⟩
              walk_at "rd"
              refine ⟨D, ds.map priceD, rfl, SqL.of (hD.trans ?_), ?_⟩
              · congr 2
                apply List.ext_getElem
                · simp [vl]
                · intro n h1 h2
                  have hn : n < ds.length := by simpa using h2
                  simp [List.getElem?_eq_getElem hn]
              · rw [show ((ds.map priceD).all id) = rowOk (.list ds) (.list es) from by
                  simp only [rowOk, List.all_map]
                  rw [decide_eq_true c1, decide_eq_true c2, decide_eq_true c3]
                  rfl]
                exact k H1 s1
          · refine ifT (by rw [decide_eq_false (fun z => c3 (by have := V.int.inj z; omega))]; rfl) ?_
            walk_at "rd"
            exact no (by simp [rowOk, c3])
        · refine ifT (by rw [decide_eq_false (by omega)]; rfl) ?_
          walk_at "rd"
          exact no (by simp [rowOk, c2])
      · refine ifF (decide_eq_false (by omega)) ?_
        walk_at "rd"
        exact no (by simp [rowOk, c1])
    · refine ifT (by rw [Bool.eq_false_iff.mpr c0]; rfl) ?_
      walk_at "rd"
      exact no (by
        cases d with
        | list ds => exact absurd rfl c0
        | _ => rfl)
theorem sclChkR : FnScope ["rows", "i", "row"] ["rows"] (defScope slChkR) := ⟨rfl, rfl, rfl, by decide +kernel, rfl, by decide +kernel, by decide +kernel⟩
theorem ok_chkR (F : Fun K "check_rows" "check_rows" slChkR f fd) (T : Bt mg) {tk : Tok} (hM : mg "MOST_LINES" = some (.int 8 tk)) (DR : Df P w K mg base CX0 "is_row" 3 ["value", "first"] (spRow K)) (ET : De P w K mg base "InvalidTable" 3 (spErr1 K 1 CE "at") CE) :
    FnOk P w K mg base (L2.CX P w) 6 f fd ["rows"] (spChkR K CE) := by
  refine F.okX sclChkR (fun vs H Q E h => ?_) (fun cdv A outer s H vs Q E hr h => ?_)
  · obtain ⟨v, d, rfl, _⟩ := h
    rfl
  · obtain ⟨v, d, rfl, hd, k1, k2⟩ := h
    refine ⟨_, (pss_cons (ps_if (PW.pt (pw_or (pt_not (pt_val (pe_callB call_isi (by rfl) T.isinstance (by decide +kernel) (pa_cons (pv 0) (pa_cons (pe_bltn (v := .ty "list") (by rfl) T.list (by decide +kernel) rfl) pa_nil))))) (pw_or1 (pt_not (pt_chain op_le op_le pe_int (pe_callB cl_len (by rfl) T.len PySem.boot_len (pa_cons (pv 0) pa_nil)) (pe_glob (v := .int 8) (by rfl) hM ⟨tk, rfl⟩)))))) (pss_one (ps_rse rfl (takes_of rfl rfl rfl rfl) ET hr (by decide) (pa_cons (pe_un un_neg pe_int) pa_nil))) pss_nil)
  (pss_one (ps_for (passes_of rfl) rfl (pi_enum (by rfl) T.enumerate (pa_cons (pv 0) pa_nil)) (pg_tup (by rfl) (pgs_cons (pg_name (i := 1) sclChkR.nd rfl (Or.inl rfl)) (pgs_cons (pg_name (i := 2) sclChkR.nd rfl (Or.inl rfl)) pgs_nil))) (pss_one (ps_if (pt_not (pt_val (pe_df DR hr (by decide) (pa_cons (pv 2) (pa_cons (pe_ix ix_list (pv 0) pe_int (fun _ _ => rfl)) pa_nil))))) (pss_one (ps_rse rfl (takes_of rfl rfl rfl rfl) ET hr (by decide) (pa_cons (pv 1) pa_nil))) pss_nil))))), ?_⟩
    have raise1 : badT d = some (-1) → tMkErr CE (spErr1 K 1 CE "at") (tCons (tUn (rU fun i => .int (-i)) (tC (.int 1))) tNil) [some v, none, none] H (fun cls d H' => E cls d H') := fun b => by
      refine r_mkErr ?_
      walk_at "rd"
      refine r_err1 (σ := []) (.int _) (.int _) fun dd v' H' s1 h1 h2 o1 => ?_
      cases o1
      exact k2 (-1) b dd H' s1 h1 h2
    walk_at "rd"
    refine r_isDL hd ?_
    walk_at "rd"
    by_cases e : isLD d = true
    · refine ifF (by rw [e]; rfl) ?_
      obtain ⟨ds, rfl⟩ : ∃ ds, d = .list ds := by
        cases d with
        | list ds => exact ⟨ds, rfl⟩
        | _ => cases e
      obtain ⟨a, vs, rfl, ha, hv⟩ := Dp.lstAt hd
      have vl := DpAll.len hv
      walk_at "rd"
      refine r_lenL ha ?_
      walk_at "rd"
      by_cases c1 : 1 ≤ ds.length
      · refine ifT (decide_eq_true (by omega)) ?_
        walk_at "rd"
        by_cases c2 : ds.length ≤ 8
        · refine ifF (by rw [decide_eq_true (by omega)]; rfl) ?_
          have bd : badT (.list ds) = (firstRow ds).map Int.ofNat := if_neg (by omega)
          have e0 := List.getElem?_eq_getElem (l := vs) (i := 0) (by omega)
          obtain ⟨d0, hd0, p0⟩ := DpAll.at hv e0
          have g0 : ds.getD 0 .none = d0 := by rw [List.getD_eq_getElem?_getD, hd0]; rfl
          walk_at "rd"
          refine ⟨a, _, rfl, ha, for_it walk_enum (fun i σ H' => ∃ u v, σ = [some (.ref a), u, v] ∧ Same H H' ∧ ∀ j, j < i → rowOk (ds.getD j .none) (ds.getD 0 .none) = true) ⟨none, none, rfl, Same.refl H, fun j hj => by cases hj⟩ (fun i σ H' _ ⟨_, _, _, s, _⟩ => s.seq ha) ?_ ?_⟩
          · rintro i x σ H1 H2 hi ⟨u, v, rfl, s1, prev⟩ ⟨t, i', y, rfl, ht, rfl, e1, e2⟩
            obtain ⟨dy, hdy, py⟩ := DpAll.at hv e2
            cases (Option.some.inj e1)
            have gd : ds.getD i .none = dy := by rw [List.getD_eq_getElem?_getD, hdy]; rfl
            have st : Same H (upd H1 t (.tup [.int (i : Int), y])) := Same.up s1 ht
            refine r_gtup ⟨t, _, rfl, SqT.of upd_same, rfl, _, _, rfl, ?_⟩
            walk_at "rd"
            refine ⟨_, _, rfl, ?_⟩
            walk_at "rd"
            refine ⟨rfl, ?_⟩
            walk_at "rd"
            refine r_ixL (st.seq ha) (atI_nat (j := 0) e0) ?_
            walk_at "rd"
            refine ⟨y, _, dy, d0, rfl, Dp.later st py, Dp.later st p0, fun z => ?_, fun H3 s3 => ?_⟩
            · by_cases i0 : i = 0
              · subst i0
                rw [gd] at g0
                rw [← g0]
                exact z
              · have a0 := prev 0 (by omega)
                rw [g0] at a0
                cases d0 with
                | list es => rfl
                | _ => cases a0
            · walk_at "rd"
              by_cases o : rowOk dy d0 = true
              · refine ifF (by rw [o]; rfl) ?_
                walk_at "rd"
                refine ⟨_, _, rfl, st.trans s3, fun j hj => ?_⟩
                by_cases ji : j < i
                · exact prev j ji
                · have : j = i := by omega
                  rw [this, gd, g0]
                  exact o
              · refine ifT (by rw [Bool.eq_false_iff.mpr o]; rfl) ?_
                walk_at "rd"
                refine r_mkErr ?_
                walk_at "rd"
                refine r_err1 (σ := []) (.int _) (.int _) fun dd v' H' s4 h1 h2 o1 => ?_
                cases o1
                exact k2 (i : Int) (by rw [bd, firstRow_some (by omega) prev (by rw [gd, g0]; exact Bool.eq_false_iff.mpr o)]; rfl) dd H' ((st.trans s3).trans s4) ((st.trans s3).free h1) h2
          · rintro σ H1 ⟨u, v, rfl, s1, prev⟩
            exact k1 (by rw [bd, firstRow_none (fun j hj => prev j (by omega))]; rfl) H1 s1
        · refine ifT (by rw [decide_eq_false (by omega)]; rfl) ?_
          exact raise1 (if_pos (by omega))
      · refine ifF (decide_eq_false (by omega)) ?_
        walk_at "rd"
        exact raise1 (if_pos (by omega))
    · refine ifT (by rw [Bool.eq_false_iff.mpr e]; rfl) ?_
      exact raise1 (badT_no (Bool.eq_false_iff.mpr e))
end
end Pk
set_option Elab.async false
set_option linter.all false
set_option maxRecDepth 100000
set_option maxHeartbeats 4000000
namespace Pk
open PySem L2
local macro_rules | `(tactic| walk_at "rd") => `(tactic| repeat (first
  | with_reducible refine r_seq ?_ | with_reducible refine r_nxt ?_ | with_reducible refine r_asg ?_ | with_reducible refine r_to ?_ | with_reducible refine r_ret ?_ | with_reducible refine r_for ?_ | with_reducible refine r_lc ?_ | with_reducible refine r_lc2 ?_ | with_reducible refine r_rng1 ?_ | with_reducible refine r_list ?_ | with_reducible refine r_tupI ?_ | with_reducible refine r_drop ?_ | with_reducible refine r_ifs ?_
  | with_reducible refine r_op ?_ | with_reducible refine r_c ?_ | with_reducible refine r_var rfl ?_ | with_reducible refine r_var (by assumption) ?_ | with_reducible refine r_I0 ?_ | with_reducible refine r_un ?_ | with_reducible refine r_U ?_ | with_reducible refine r_make ?_ | with_reducible refine r_makeS ?_ | with_reducible refine r_ifE ?_ | with_reducible refine r_cm ?_ | with_reducible refine r_mkV rfl ?_ | with_reducible refine r_sub ?_
  | with_reducible refine r_nil ?_ | with_reducible refine r_cons ?_ | with_reducible refine r_cb ?_ | with_reducible refine r_sl ?_ | with_reducible refine r_noP ?_ | with_reducible refine r_part ?_ | with_reducible refine r_isI ?_ | with_reducible refine r_lst ?_ | with_reducible refine r_tup ?_ | with_reducible refine r_call ?_ | with_reducible refine r_callS ?_ | with_reducible refine r_sFldU ?_ | with_reducible refine r_chain ?_ | with_reducible refine r_enum ?_ | with_reducible refine r_zip ?_ | with_reducible refine r_rng3 ?_ | with_reducible refine r_gtup ?_ | with_reducible refine r_methU ?_
  | with_reducible refine r_test ?_ | with_reducible refine r_B ?_ | with_reducible refine r_and ?_ | with_reducible refine r_or ?_ | with_reducible refine r_not ?_ | with_reducible refine r_andV ?_ | with_reducible refine r_orV ?_ | with_reducible refine r_notV ?_ | with_reducible refine r_bl ?_ | with_reducible refine r_yes ?_ | with_reducible refine r_int ?_ | with_reducible refine r_is0 ?_ | with_reducible refine r_is1 ?_ | with_reducible refine iteT ?_ | with_reducible refine iteF ?_ | with_reducible refine ite_nF ?_ | with_reducible refine ite_nT ?_
  | with_reducible refine r_mod (by decide) ?_ | with_reducible refine r_div (by decide) (by decide) ?_ | with_reducible refine r_mulR (by decide) (by decide) ?_ | with_reducible refine r_mulL (by decide) (by decide) ?_ | with_reducible refine r_pow (by decide) (by decide) (by decide) ?_))
/-! ### Table.__init__ -/
theorem SameD.ofKeep {x C dx : Addr} {fs : List (Str × V)} {H H' : Hp} (k : Keep x H H') (hx : H x = some (.ins C dx fs)) : SameD H H' := fun a u l h => k a u (fun z => by
  rw [z, hx] at h
  cases (Option.some.inj h)
  rcases l with ⟨_, l⟩ | ⟨_, l⟩ | ⟨_, _, l⟩ <;> cases l) h
/-- what is new since H, and x -/
def part (x : Addr) (H H' : Hp) : Hp := fun a => if a = x then H' a else match H a with
  | .none => H' a
  | .some _ => .none
theorem part_sub {x : Addr} {H H' : Hp} : Same (part x H H') H' := fun a o e => by
  unfold part at e
  split at e
  · exact e
  · split at e
    · exact e
    · cases e
theorem part_new {x a : Addr} {H H' : Hp} (n : H a = none) : part x H H' a = H' a := by
  unfold part
  rw [n]
  simp
theorem part_x {x : Addr} {H H' : Hp} : part x H H' x = H' x := by simp [part]
theorem part_off {x : Addr} {H H' : Hp} : ∀ a o, part x H H' a = some o → a = x ∨ H a = none := fun a o e => by
  unfold part at e
  split at e
  · rename_i h; exact .inl h
  · split at e
    · rename_i h; exact .inr h
    · cases e
theorem PrsAt.part {x : Addr} {H H3 H' : Hp} {us : List V} {zs : List Pr} (h : PrsAt x H3 us zs) (fr : ∀ v, v ∈ us → ∀ t, v = .ref t → H t = none) (k : Keep x H3 H') : PrsAt x (Pk.part x H H') us zs := by
  induction h with
  | nil => exact .nil
  | cons h _ ih =>
    obtain ⟨t, rfl, n, h⟩ := h
    refine .cons ⟨t, rfl, n, ?_⟩ (ih fun v hv => fr v (List.mem_cons_of_mem _ hv))
    rw [part_new (fr _ List.mem_cons_self t rfl)]
    exact k _ _ n h
def crow (R : Rw) (i j : Nat) : List Pr := ((List.range j).filter fun j => (prc R i j).isSome).map fun (j : Nat) => (((i : Nat) : Int), (j : Int))
def cpre (R : Rw) (i : Nat) : List Pr := (List.range i).flatMap fun i => crow R i (wd R)
theorem crow_more (R : Rw) (i j : Nat) : crow R i (j + 1) = crow R i j ++ (if (prc R i j).isSome = true then [((i : Int), (j : Int))] else []) := by
  unfold crow
  rw [List.range_succ, List.filter_append, List.map_append]
  congr 1
  cases h : (prc R i j).isSome <;> simp [h]
theorem cpre_more (R : Rw) (i : Nat) : cpre R (i + 1) = cpre R i ++ crow R i (wd R) := by
  unfold cpre
  rw [List.range_succ, List.flatMap_append]
  simp
theorem crow_len (R : Rw) (i : Nat) : ∀ j, (crow R i j).length ≤ j
  | 0 => by simp [crow]
  | j + 1 => by
    have := crow_len R i j
    rw [crow_more, List.length_append]
    split <;> simp <;> omega
theorem cpre_len (R : Rw) : ∀ i, (cpre R i).length ≤ i * wd R
  | 0 => by simp [cpre]
  | i + 1 => by
    have h1 := cpre_len R i
    have h2 := crow_len R i (wd R)
    rw [cpre_more, List.length_append, Nat.succ_mul]
    omega
section
variable {P : Program} {w : World} {K : PySem.W.Frag} {mg : Str → Option Value} {base : Heap} {C CE f : Addr} {fd : FuncData}
theorem sclTbI : FnScope ["self", "rows", "row", "price", "j", "i"] ["self", "rows"] (defScope slTbI) := ⟨rfl, rfl, rfl, by decide +kernel, rfl, by decide +kernel, by decide +kernel⟩
theorem ok_tbI (F : Fun K "__init__" "Table.__init__" slTbI f fd) (T : Bt mg) (A : TbC K C) (DC : Df P w K mg base (L2.CX P w) "check_rows" 6 ["rows"] (spChkR K CE)) : FnOk P w K mg base (L2.CX P w) 8 f fd ["self", "rows"] (spTbI K C CE) := by
  refine F.okX sclTbI (fun vs H Q E h => ?_) (fun cdv A' outer s H vs Q E hr h => ?_)
  · obtain ⟨x, dx, v, d, rfl, _⟩ := h
    rfl
  · obtain ⟨x, dx, v, d, rfl, hx, hdx, ne, hd, kgood, kbad⟩ := h
    refine ⟨_, (pss_cons (ps_expr (pe_dfS (takes_of rfl rfl rfl rfl) DC hr (by decide) (pa_cons (pv 1) pa_nil)))
  (pss_cons (ps_fld (pv 0) (pe_lc (own := [("row", 2)]) (g := gName 2) rfl sclTbI.nd (pi_list (pv 1)) (blkOk_by (own := [("row", 2)]) (N := ["self", "rows", "row", "price", "j", "i"]) (sc := defScope slTbI) (by decide +kernel)) (fun _ _ _ _ _ => pg_name (i := 2) sclTbI.nd rfl (Or.inl rfl)) (fun _ _ _ _ _ => pts_nil) (fun _ _ _ _ _ => (pe_callTy (T := "list") (r := rLstOf K) cl_lst (by rfl) T.list (by decide +kernel) (pa_cons (pv 2) pa_nil)))) rfl)
  (pss_one (ps_fld (pv 0) (pe_lc2 (own := [("i", 5), ("row", 2), ("j", 4), ("price", 3)]) (vs1 := [4, 3]) (g := gTup K 2 (gCons (gName 5) (gCons (gName 2) gNil))) (tt := tYes) (wi1 := iEnum K (tCons (tVar 2) tNil)) (g1 := gTup K 2 (gCons (gName 4) (gCons (gName 3) gNil))) (tt1 := tTest (tOp rIs1 (tVar 3) (tC .non))) (te := tTup (tCons (tVar 5) (tCons (tVar 4) tNil))) rfl sclTbI.nd (pi_enum (by rfl) T.enumerate (pa_cons (pv 1) pa_nil)) (blkOk_by (own := [("i", 5), ("row", 2), ("j", 4), ("price", 3)]) (N := ["self", "rows", "row", "price", "j", "i"]) (sc := defScope slTbI) (by decide +kernel)) (by decide)
    (fun _ _ _ _ _ => pg_tup (by rfl) (pgs_cons (pg_name (i := 5) sclTbI.nd rfl (Or.inl rfl)) (pgs_cons (pg_name (i := 2) sclTbI.nd rfl (Or.inl rfl)) pgs_nil))) (fun _ _ _ _ _ => pts_nil) (fun _ _ _ _ _ => pi_enum (by rfl) T.enumerate (pa_cons (pv 2) pa_nil)) (fun _ _ _ _ _ => pg_tup (by rfl) (pgs_cons (pg_name (i := 4) sclTbI.nd rfl (Or.inl rfl)) (pgs_cons (pg_name (i := 3) sclTbI.nd rfl (Or.inl rfl)) pgs_nil)))
    (fun _ _ _ _ _ => pts_one (pt_cmpR op_is1 (pv 3) pe_non (nomark _))) (fun _ _ _ _ _ => (pe_tup (pa_cons (pv 5) (pa_cons (pv 4) pa_nil))))) rfl)))), ?_⟩
    walk_at "rd"
    refine ⟨v, d, rfl, hd, fun b H1 s1 => ?_, fun k e dd H' s1 h1 h2 => kbad k e dd H' s1 h1 h2⟩
    obtain ⟨R, rfl, g⟩ := badT_inv b
    obtain ⟨a, vs, rfl, ha, hv⟩ := Dp.lstAt hd
    have vl : vs.length = R.length := by have := DpAll.len hv; rwa [List.length_map] at this
    have g8 := g.h8
    have w8 := g.w8
    walk_at "rd"
    refine ⟨a, rfl, ⟨_, s1.seq ha⟩, fun D nD => lc_it walk_list (fun i H' => Same H1 H' ∧ ∃ es, H' D = some (.lst es) ∧ es.length = i ∧ ∀ j v, es[j]? = some v → ∃ c, v = .ref c ∧ c ≠ D ∧ H1 c = none ∧ H' c = some (.lst ((R.getD j []).map pV))) ⟨Same.up (Same.refl H1) nD, [], upd_same, rfl, fun j v e => by simp at e⟩ (fun i H2 _ z => z.1.seq (s1.seq ha)) ?_ ?_⟩
    · rintro i y H2 H3 hi ⟨s2, es, hD, el, er⟩ ⟨rfl, e1⟩
      obtain ⟨dy, hdy, py⟩ := DpAll.at hv e1
      have hi' : i < R.length := by omega
      rw [List.getElem?_map, List.getElem?_eq_getElem hi'] at hdy
      cases (Option.some.inj hdy)
      obtain ⟨b, ws, rfl, hb, hw⟩ := Dp.lstAt py
      obtain rfl := pVs_of hw
      walk_at "rd"
      refine ⟨rfl, ?_⟩
      walk_at "rd"
      refine r_lstOf ((s1.trans s2).seq hb) fun c nc => ?_
      have sc := Same.up (o := .lst (R[i].map pV)) (Same.refl H3) nc
      have cD : c ≠ D := fun z => by rw [z, hD] at nc; cases nc
      refine ⟨es, sc _ _ hD, by rw [el]; exact Nat.lt_of_lt_of_le (show i < 9 by omega) (by decide), fun b o e => ?_, es ++ [.ref c], upd_same, by rw [List.length_append, el]; rfl, fun j v e => ?_⟩
      · have n : b ≠ D := fun z => by rw [z, nD] at e; cases e
        rw [upd_ne n]
        exact sc _ _ (s2 _ _ e)
      · by_cases ji : j < es.length
        · rw [List.getElem?_append_left ji] at e
          obtain ⟨c', rfl, n1, n2, n3⟩ := er j v e
          exact ⟨c', rfl, n1, n2, by rw [upd_ne n1]; exact sc _ _ n3⟩
        · rw [List.getElem?_append_right (by omega)] at e
          have : j = i := by
            have := (List.getElem?_eq_some_iff.mp e).1
            simp at this
            omega
          subst this
          rw [el, Nat.sub_self] at e
          cases (Option.some.inj e)
          exact ⟨c, rfl, cD, s2.free nc, by rw [upd_ne cD, upd_same, g.getD hi']⟩
    · rintro H2 ⟨s2, es, hD, el, er⟩
      have hx2 := s2 _ _ (s1 _ _ hx)
      have xD : x ≠ D := fun z => by rw [← z, s1 _ _ hx] at nD; cases nD
      walk_at "rd"
      refine r_sFld0 (C := C) (dx := dx) (fs := []) hx2 A.O.cl A.e (by decide) ?_
      have kx : Keep x H2 (upd H2 x (.ins C dx (putF "entries" (.ref D) []))) := Keep.refl.own
      have sd : SameD H (upd H2 x (.ins C dx (putF "entries" (.ref D) []))) := (SameD.of (s1.trans s2)).trans (SameD.ofKeep kx hx2)
      obtain ⟨Hx, eHx⟩ : ∃ Hx, Hx = upd H2 x (.ins C dx (putF "entries" (.ref D) [])) := ⟨_, rfl⟩
      rw [← eHx] at kx sd ⊢
      have hxx : Hx x = some (.ins C dx [("entries", .ref D)]) := by rw [eHx, upd_same]; rfl
      have fx : ∀ b, Hx b = none → H b = none := fun b e => by
        by_cases z : b = x
        · rw [z, hxx] at e; cases e
        · cases q : H b with
          | none => rfl
          | some o => rw [kx b o z ((s1.trans s2) _ _ q)] at e; cases e
      have hvx := DpAll.laterD sd hv
      walk_at "rd"
      refine ⟨a, vs, rfl, sd.seqL ha, fun D2 nD2 => lc_any walk_enum (fun i H' => Same Hx H' ∧ ∃ us, H' D2 = some (.lst us) ∧ PrsAt x H' us (cpre R i) ∧ ∀ v, v ∈ us → ∀ t, v = .ref t → Hx t = none ∧ t ≠ D2) ⟨Same.up (Same.refl Hx) nD2, [], upd_same, .nil, fun v hv => by cases hv⟩ (fun i H' _ z => z.1.seq (sd.seqL ha)) ?_ ?_⟩
      · rintro i y H3 H4 hi ⟨s3, us, hD2, hu, fr⟩ ⟨t, i', y', rfl, ht, rfl, e1, e2⟩
        cases (Option.some.inj e1)
        obtain ⟨dy, hdy, py⟩ := DpAll.at hvx e2
        have hi' : i < R.length := by omega
        rw [List.getElem?_map, List.getElem?_eq_getElem hi'] at hdy
        cases (Option.some.inj hdy)
        obtain ⟨b, ws, rfl, hb, hw⟩ := Dp.lstAt py
        obtain rfl := pVs_of hw
        have s4 : Same Hx (upd H3 t (.tup [.int (i : Int), .ref b])) := Same.up s3 ht
        have tD2 : t ≠ D2 := fun z => by rw [z, hD2] at ht; cases ht
        have wl : (R[i].map pV).length = wd R := by rw [List.length_map, g.len hi']
        refine r_gtup ⟨t, _, rfl, SqT.of upd_same, rfl, _, _, rfl, ?_⟩
        walk_at "rd"
        refine ⟨_, _, rfl, ?_⟩
        walk_at "rd"
        refine ⟨rfl, rfl, ?_⟩
        walk_at "rd"
        refine ⟨b, _, rfl, s4.seq hb, lc_any walk_enum (fun j H' => Same Hx H' ∧ ∃ us, H' D2 = some (.lst us) ∧ PrsAt x H' us (cpre R i ++ crow R i j) ∧ ∀ v, v ∈ us → ∀ t, v = .ref t → Hx t = none ∧ t ≠ D2) ⟨s4, us, later hD2 ht, by rw [show crow R i 0 = [] from rfl, List.append_nil]; exact hu.keep (Keep.same (Same.up (Same.refl H3) ht)), fr⟩ (fun j H' _ z => z.1.seq hb) ?_ ?_⟩
        · rintro j y2 H5 H6 hj ⟨s5, us5, hD5, hu5, fr5⟩ ⟨t2, j', z', rfl, ht2, rfl, f1, f2⟩
          cases (Option.some.inj f1)
          have hj' : j < wd R := by omega
          have ez := prc_get g hi' hj'
          rw [g.getD hi', show (R[i].map pV)[j]? = some z' from f2] at ez
          cases (Option.some.inj ez)
          have s6 : Same H5 (upd H5 t2 (.tup [.int (j : Int), pV (prc R i j)])) := Same.up (Same.refl H5) ht2
          refine r_gtup ⟨t2, _, rfl, SqT.of upd_same, rfl, _, _, rfl, ?_⟩
          walk_at "rd"
          refine ⟨_, _, rfl, ?_⟩
          walk_at "rd"
          refine ⟨rfl, rfl, ?_⟩
          walk_at "rd"
          cases q : prc R i j with
          | none =>
            refine ifF rfl ⟨s5.trans ?_, us5, ?_, ?_, fr5⟩
            · rw [q] at s6; exact s6
            · rw [q] at s6; exact s6 _ _ hD5
            · rw [crow_more, q, if_neg (by simp), List.append_nil]
              rw [q] at s6
              exact hu5.keep (Keep.same s6)
          | some m =>
            rw [q] at s6
            refine ifT rfl ?_
            walk_at "rd"
            refine ⟨by show 2 ≤ sizeLine; decide, fun r nr => ?_⟩
            have sr := Same.up (o := .tup [.int (i : Int), .int (j : Int)]) s6 nr
            have r5 : H5 r = none := s6.free nr
            have rx : Hx r = none := s5.free r5
            have rD2 : r ≠ D2 := fun z => by rw [z, hD5] at r5; cases r5
            have xr : r ≠ x := fun z => by rw [z, hxx] at rx; cases rx
            have ul := hu5.length
            have l1 := cpre_len R i
            have l2 := crow_len R i j
            have l3 : i * wd R ≤ 7 * 8 := Nat.mul_le_mul (by omega) w8
            refine ⟨us5, sr _ _ hD5, by rw [ul, List.length_append]; exact Nat.lt_of_lt_of_le (show _ < 65 by omega) (by decide), fun c o e => ?_, us5 ++ [.ref r], upd_same, ?_, fun v hv t' et => ?_⟩
            · have n : c ≠ D2 := fun z => by rw [z, nD2] at e; cases e
              rw [upd_ne n]
              exact sr _ _ (s5 _ _ e)
            · rw [crow_more, q, if_pos (show (some m).isSome = true from rfl), ← List.append_assoc]
              have kD : ∀ c xs, (upd (upd H5 t2 (.tup [.int (j : Int), pV (some m)])) r (.tup [.int (i : Int), .int (j : Int)])) c = some (.tup xs) → (upd (upd (upd H5 t2 (.tup [.int (j : Int), pV (some m)])) r (.tup [.int (i : Int), .int (j : Int)])) D2 (.lst (us5 ++ [.ref r]))) c = some (.tup xs) := fun c xs e => by
                have n : c ≠ D2 := fun z => by rw [z, sr _ _ hD5] at e; cases e
                rw [upd_ne n]
                exact e
              exact ((hu5.keep (Keep.same sr)).mono kD).app (.cons ⟨r, rfl, xr, kD _ _ upd_same⟩ .nil)
            · rcases List.mem_append.mp hv with h | h
              · exact fr5 v h t' et
              · rw [List.mem_singleton] at h
                rw [h] at et
                cases et
                exact ⟨rx, rD2⟩
        · rintro H5 ⟨s5, us5, hD5, hu5, fr5⟩
          rw [wl] at hu5
          exact ⟨s5, us5, hD5, by rw [cpre_more]; exact hu5, fr5⟩
      · rintro H3 ⟨s3, us, hD2, hu, fr⟩
        rw [vl] at hu
        have hx3 := s3 _ _ hxx
        walk_at "rd"
        refine r_sFld0 (C := C) (dx := dx) hx3 A.O.cl A.u (by show 1 < 1000; decide) ?_
        rw [show putF "used" (V.ref D2) [("entries", V.ref D)] = ([("entries", V.ref D), ("used", V.ref D2)] : List (Str × V)) from two_put (f := "entries") (g := "used") (v := .ref D) (u := .ref D2) (by decide +kernel) (by decide +kernel)]
        have x2 : x ≠ D2 := fun z => by rw [← z, hxx] at nD2; cases nD2
        have kf : Keep x H (upd H3 x (.ins C dx [("entries", .ref D), ("used", .ref D2)])) := (((Keep.same (s1.trans s2)).trans kx).trans (Keep.same s3)).own
        have k2 : Keep x H2 (upd H3 x (.ins C dx [("entries", .ref D), ("used", .ref D2)])) := (kx.trans (Keep.same s3)).own
        have nDH : H D = none := s1.free nD
        refine kgood R rfl g _ (part x H (upd H3 x (.ins C dx [("entries", .ref D), ("used", .ref D2)]))) ⟨g, dx, D, D2, es, by rw [part_x, upd_same], ⟨?_, by rw [el, vl], fun i v e => ?_⟩, ⟨Ne.symm x2, us, ?_, hu.part (fun v hv t e => fx t (fr v hv t e).1) Keep.refl.own⟩⟩ part_sub part_off (fun c o n e => kf c o n e)
        · rw [part_new nDH]
          exact k2 _ _ (Ne.symm xD) hD
        · obtain ⟨c, rfl, n1, n2, n3⟩ := er i v e
          have cx : c ≠ x := fun z => by rw [z, s1 _ _ hx] at n2; cases n2
          exact ⟨c, rfl, by rw [part_new (s1.free n2)]; exact k2 _ _ cx n3⟩
        · rw [part_new (fx _ nD2), upd_ne (Ne.symm x2)]
          exact hD2
end
theorem r_ifE {t : TT} {ta tb : TE} {σ : L2.St} {H : Hp} {Q : VK} (h : t σ H fun c H1 => if c = true then ta σ H1 Q else tb σ H1 Q) : tIf t ta tb σ H Q := h
theorem r_bm {K : PySem.W.Frag} {T : String} {r : V → List V → Hp → VK → Prop} {to : TE} {t : TA} {σ : L2.St} {H : Hp} {Q : VK} (h : to σ H fun x H1 => tyV K T x H1 ∧ t σ H1 fun xs H2 => r x xs H2 Q) : tBM K T r to t σ H Q := h
theorem rows_inj {R S : Rw} (h : rowsD R = rowsD S) : R = S := by
  have e := rows_eqv R S
  rw [h, eqv_plain (rows_plain S)] at e
  exact of_decide_eq_true e.symm
/-- a good table is made -/
theorem mk_tb {K : PySem.W.Frag} {C CE : Addr} {H1 : Hp} {x dx : Addr} {v : V} {R : Rw} {Q : VK} {E : XK} (nx : H1 x = none) (nd : H1 dx = none) (ne : dx ≠ x) (hv : Dp K H1 v (rowsD R)) (g : Gt R)
    (k : ∀ (H' G : Hp), Same H1 H' → TbX C G x R → Same G H' → Fresh H1 G → Q (.ref x) H') : spTbI K C CE [.ref x, v] (upd (upd H1 dx (.own x)) x (.ins C dx [])) (fun v H2 => v = .non ∧ Q (.ref x) H2) E := by
  have sy : Same H1 (upd (upd H1 dx (.own x)) x (.ins C dx [])) := fun d o e => by
    have n1 : d ≠ x := fun z => by rw [z, nx] at e; cases e
    have n2 : d ≠ dx := fun z => by rw [z, nd] at e; cases e
    rw [upd_ne n1, upd_ne n2]
    exact e
  refine ⟨x, dx, v, rowsD R, rfl, upd_same, by rw [upd_ne ne, upd_same], ne, Dp.later sy hv, fun R' eR g' H' G t sG fG kp => ⟨rfl, ?_⟩, fun k1 e1 => by rw [badT_good g] at e1; cases e1⟩
  obtain rfl := rows_inj eR
  refine k H' G (fun d o e => kp _ _ (fun z => by rw [z, nx] at e; cases e) (sy _ _ e)) t sG fun a o e => ?_
  rcases fG a o e with z | z
  · rw [z]; exact nx
  · exact sy.free z
def spTStk (C : Addr) : Sp := fun vs H Q _ => ∃ (x : Addr) (G : Hp) (R : Rw), vs = [.ref x] ∧ TbX C G x R ∧ Same G H ∧ Q (.int (R.length : Int)) H
abbrev slTStk : Stmt := inCls 32 12
section
variable {P : Program} {w : World} {K : PySem.W.Frag} {mg : Str → Option Value} {base : Heap} {C CE CP f : Addr} {fd : FuncData}
theorem sclTStk : FnScope ["self"] ["self"] (defScope slTStk) := ⟨rfl, rfl, rfl, by decide +kernel, rfl, by decide +kernel, by decide +kernel⟩
theorem ok_tStk (F : Fun K "stocks" "Table.stocks" slTStk f fd) (T : Bt mg) (A : TbC K C) : FnOk P w K mg base CX0 1 f fd ["self"] (spTStk C) := by
  refine F.ok sclTStk (fun vs H Q E h => ?_) (fun cdv A' outer s H vs Q E hr h => ?_)
  · obtain ⟨x, G, R, rfl, _⟩ := h
    rfl
  · obtain ⟨x, G, R, rfl, ⟨g, dx, e, u, es, ho, hl, hp⟩, sG, k⟩ := h
    refine ⟨_, (pss_one (ps_ret (pe_callB cl_len (by rfl) T.len PySem.boot_len (pa_cons (pe_fld (pv 0) rfl) pa_nil)))), ?_⟩
    walk_at "rd"
    refine r_fldV rfl (sG _ _ ho) A.O.cl A.e two_fst ?_
    walk_at "rd"
    refine r_lenL (SqL.of (sG _ _ hl.at_)) ?_
    rw [hl.len]
    exact k
end
def spTWsh (C : Addr) : Sp := fun vs H Q _ => ∃ (x : Addr) (G : Hp) (R : Rw), vs = [.ref x] ∧ TbX C G x R ∧ Same G H ∧ Q (.int (wd R : Int)) H
abbrev slTWsh : Stmt := inCls 32 13
section
variable {P : Program} {w : World} {K : PySem.W.Frag} {mg : Str → Option Value} {base : Heap} {C CE CP f : Addr} {fd : FuncData}
theorem wd_row {R : Rw} (g : Gt R) {i : Nat} (h : i < R.length) : ((R.getD i []).map pV).length = wd R := by rw [List.length_map, g.getD h, g.len h]
theorem sclTWsh : FnScope ["self"] ["self"] (defScope slTWsh) := ⟨rfl, rfl, rfl, by decide +kernel, rfl, by decide +kernel, by decide +kernel⟩
theorem ok_tWsh (F : Fun K "wishes" "Table.wishes" slTWsh f fd) (T : Bt mg) (A : TbC K C) : FnOk P w K mg base CX0 1 f fd ["self"] (spTWsh C) := by
  refine F.ok sclTWsh (fun vs H Q E h => ?_) (fun cdv A' outer s H vs Q E hr h => ?_)
  · obtain ⟨x, G, R, rfl, _⟩ := h
    rfl
  · obtain ⟨x, G, R, rfl, ⟨g, dx, e, u, es, ho, hl, hp⟩, sG, k⟩ := h
    refine ⟨_, (pss_one (ps_ret (pe_callB cl_len (by rfl) T.len PySem.boot_len (pa_cons (pe_ix ix_list (pe_fld (pv 0) rfl) pe_int (fun _ _ => rfl)) pa_nil)))), ?_⟩
    obtain ⟨a, ea, ha⟩ := hl.get g.h0
    walk_at "rd"
    refine r_fldV rfl (sG _ _ ho) A.O.cl A.e two_fst ?_
    walk_at "rd"
    refine r_ixL (SqL.of (sG _ _ hl.at_)) (atI_nat (j := 0) ea) ?_
    walk_at "rd"
    refine r_lenL (SqL.of (sG _ _ ha)) ?_
    rw [wd_row g g.h0]
    exact k
end
/-- a list of rows, new since H -/
def NewRL (H H' : Hp) (r : Addr) (es : List V) (R : Rw) : Prop := Same H H' ∧ H r = none ∧ RL H' r es R ∧ ∀ (i : Nat) (c : Addr), es[i]? = some (V.ref c) → H c = none ∧ c ≠ r
def spTRws (C : Addr) : Sp := fun vs H Q _ => ∃ (x : Addr) (G : Hp) (R : Rw), vs = [.ref x] ∧ TbX C G x R ∧ Same G H ∧ ∀ r es H', NewRL H H' r es R → Q (.ref r) H'
abbrev slTRws : Stmt := inCls 32 14
section
variable {P : Program} {w : World} {K : PySem.W.Frag} {mg : Str → Option Value} {base : Heap} {C CE CP f : Addr} {fd : FuncData}
theorem sclTRws : FnScope ["self", "row"] ["self"] (defScope slTRws) := ⟨rfl, rfl, rfl, by decide +kernel, rfl, by decide +kernel, by decide +kernel⟩
theorem rl_more {H1 H : Hp} {D c : Addr} {es : List V} {R : Rw} {i : Nat} (nD : H1 D = none) (s2 : Same H1 H) (hD : H D = some (.lst es)) (el : es.length = i) (er : ∀ (j : Nat) (v : V), es[j]? = some v → ∃ c, v = .ref c ∧ c ≠ D ∧ H1 c = none ∧ H c = some (.lst ((R.getD j []).map pV)))
    (nc : H c = none) : Same H1 (upd (upd H c (.lst ((R.getD i []).map pV))) D (.lst (es ++ [V.ref c]))) ∧ ∃ fs : List V, (upd (upd H c (.lst ((R.getD i []).map pV))) D (.lst (es ++ [V.ref c]))) D = some (.lst fs) ∧ fs.length = i + 1 ∧
      ∀ (j : Nat) (v : V), fs[j]? = some v → ∃ b, v = .ref b ∧ b ≠ D ∧ H1 b = none ∧ (upd (upd H c (.lst ((R.getD i []).map pV))) D (.lst (es ++ [V.ref c]))) b = some (.lst ((R.getD j []).map pV)) := by
  have sc := Same.up (o := .lst ((R.getD i []).map pV)) (Same.refl H) nc
  have cD : c ≠ D := fun z => by rw [z, hD] at nc; cases nc
  refine ⟨fun b o e => ?_, es ++ [.ref c], upd_same, by rw [List.length_append, el]; rfl, fun j v e => ?_⟩
  · have n : b ≠ D := fun z => by rw [z, nD] at e; cases e
    rw [upd_ne n]
    exact sc _ _ (s2 _ _ e)
  · by_cases ji : j < es.length
    · rw [List.getElem?_append_left ji] at e
      obtain ⟨b, rfl, n1, n2, n3⟩ := er j v e
      exact ⟨b, rfl, n1, n2, by rw [upd_ne n1]; exact sc _ _ n3⟩
    · rw [List.getElem?_append_right (by omega)] at e
      have : j = i := by
        have := (List.getElem?_eq_some_iff.mp e).1
        simp at this
        omega
      subst this
      rw [el, Nat.sub_self] at e
      cases (Option.some.inj e)
      exact ⟨c, rfl, cD, s2.free nc, by rw [upd_ne cD, upd_same]⟩
theorem ok_tRws (F : Fun K "rows" "Table.rows" slTRws f fd) (T : Bt mg) (A : TbC K C) : FnOk P w K mg base CX0 1 f fd ["self"] (spTRws C) := by
  refine F.ok sclTRws (fun vs H Q E h => ?_) (fun cdv A' outer s H vs Q E hr h => ?_)
  · obtain ⟨x, G, R, rfl, _⟩ := h
    rfl
  · obtain ⟨x, G, R, rfl, ⟨g, dx, e, u, es, ho, hl, hp⟩, sG, k⟩ := h
    have hl := hl.same sG
    have g8 := g.h8
    refine ⟨_, (pss_one (ps_ret (pe_lc (own := [("row", 1)]) (g := gName 1) rfl sclTRws.nd (pi_list (pe_fld (pv 0) rfl)) (blkOk_by (own := [("row", 1)]) (N := ["self", "row"]) (sc := defScope slTRws) (by decide +kernel)) (fun _ _ _ _ _ => pg_name (i := 1) sclTRws.nd rfl (Or.inl rfl)) (fun _ _ _ _ _ => pts_nil) (fun _ _ _ _ _ => (pe_callTy (T := "list") (r := rLstOf K) cl_lst (by rfl) T.list (by decide +kernel) (pa_cons (pv 1) pa_nil)))))), ?_⟩
    walk_at "rd"
    refine r_fldV rfl (sG _ _ ho) A.O.cl A.e two_fst ?_
    refine ⟨e, rfl, ⟨_, SqL.of hl.at_⟩, fun D nD => lc_it walk_list (fun i H' => Same H H' ∧ ∃ es, H' D = some (.lst es) ∧ es.length = i ∧ ∀ j v, es[j]? = some v → ∃ c, v = .ref c ∧ c ≠ D ∧ H c = none ∧ H' c = some (.lst ((R.getD j []).map pV))) ⟨Same.up (Same.refl H) nD, [], upd_same, rfl, fun j v e => by simp at e⟩ (fun i H2 _ z => SqL.of (z.1 _ _ hl.at_)) ?_ ?_⟩
    · rintro i y H2 H3 hi ⟨s2, fs, hD, fl, fr⟩ ⟨rfl, e1⟩
      have hi' : i < R.length := by rw [← hl.len]; exact hi
      obtain ⟨b, rfl, hb⟩ := hl.row i y e1
      walk_at "rd"
      refine ⟨rfl, ?_⟩
      walk_at "rd"
      refine r_lstOf (SqL.of (s2 _ _ hb)) fun c nc => ?_
      exact ⟨fs, later hD nc, by rw [fl]; exact Nat.lt_of_lt_of_le (show i < 9 by omega) (by decide), rl_more nD s2 hD fl fr nc⟩
    · rintro H2 ⟨s2, fs, hD, fl, fr⟩
      rw [hl.len] at fl
      exact k D fs H2 ⟨s2, nD, ⟨hD, fl, fun i v e => by
        obtain ⟨c, e1, n1, n2, n3⟩ := fr i v e
        exact ⟨c, e1, n3⟩⟩, fun i c e => by
        obtain ⟨c', e1, n1, n2, n3⟩ := fr i _ e
        cases e1
        exact ⟨n2, n1⟩⟩
end
def spTPrs (C : Addr) : Sp := fun vs H Q _ => ∃ (x : Addr) (G : Hp) (R : Rw), vs = [.ref x] ∧ TbX C G x R ∧ Same G H ∧ ∀ r us, H r = none → PrsAt x G us (cells R) → Q (.ref r) (upd H r (.lst us))
abbrev slTPrs : Stmt := inCls 32 11
section
variable {P : Program} {w : World} {K : PySem.W.Frag} {mg : Str → Option Value} {base : Heap} {C CE CP f : Addr} {fd : FuncData}
theorem sclTPrs : FnScope ["self"] ["self"] (defScope slTPrs) := ⟨rfl, rfl, rfl, by decide +kernel, rfl, by decide +kernel, by decide +kernel⟩
theorem ok_tPrs (F : Fun K "pairs" "Table.pairs" slTPrs f fd) (T : Bt mg) (A : TbC K C) : FnOk P w K mg base CX0 1 f fd ["self"] (spTPrs C) := by
  refine F.ok sclTPrs (fun vs H Q E h => ?_) (fun cdv A' outer s H vs Q E hr h => ?_)
  · obtain ⟨x, G, R, rfl, _⟩ := h
    rfl
  · obtain ⟨x, G, R, rfl, ⟨g, dx, e, u, es, ho, hl, ⟨nu, us, hu, hp⟩⟩, sG, k⟩ := h
    refine ⟨_, (pss_one (ps_ret (pe_callTy cl_lst (by rfl) T.list (by decide +kernel) (pa_cons (pe_fld (pv 0) rfl) pa_nil)))), ?_⟩
    walk_at "rd"
    refine r_fldV rfl (sG _ _ ho) A.O.cl A.u (two_snd (by decide +kernel)) ?_
    walk_at "rd"
    exact r_lstOf (SqL.of (sG _ _ hu)) fun r nr => k r us nr hp
end
theorem pV_some (z : Option Int) : (!decide (pV z = .non)) = z.isSome := by cases z <;> rfl
def spTLen (C : Addr) : Sp := fun vs H Q _ => ∃ (x : Addr) (G : Hp) (R : Rw), vs = [.ref x] ∧ TbX C G x R ∧ Same G H ∧ Q (.int ((cells R).length : Int)) H
abbrev slTLen : Stmt := inCls 32 5
section
variable {P : Program} {w : World} {K : PySem.W.Frag} {mg : Str → Option Value} {base : Heap} {C CE CP f : Addr} {fd : FuncData}
theorem sclTLen : FnScope ["self"] ["self"] (defScope slTLen) := ⟨rfl, rfl, rfl, by decide +kernel, rfl, by decide +kernel, by decide +kernel⟩
theorem ok_tLen (F : Fun K "__len__" "Table.__len__" slTLen f fd) (T : Bt mg) (A : TbC K C) : FnOk P w K mg base CX0 1 f fd ["self"] (spTLen C) := by
  refine F.ok sclTLen (fun vs H Q E h => ?_) (fun cdv A' outer s H vs Q E hr h => ?_)
  · obtain ⟨x, G, R, rfl, _⟩ := h
    rfl
  · obtain ⟨x, G, R, rfl, ⟨g, dx, e, u, es, ho, hl, ⟨nu, us, hu, hp⟩⟩, sG, k⟩ := h
    refine ⟨_, (pss_one (ps_ret (pe_callB cl_len (by rfl) T.len PySem.boot_len (pa_cons (pe_fld (pv 0) rfl) pa_nil)))), ?_⟩
    walk_at "rd"
    refine r_fldV rfl (sG _ _ ho) A.O.cl A.u (two_snd (by decide +kernel)) ?_
    walk_at "rd"
    refine r_lenL (SqL.of (sG _ _ hu)) ?_
    rw [hp.length]
    exact k
end
end Pk
set_option Elab.async false
set_option linter.all false
set_option maxRecDepth 100000
set_option maxHeartbeats 4000000
namespace Pk
open PySem L2
local macro_rules | `(tactic| walk_at "rd") => `(tactic| repeat (first
  | with_reducible refine r_seq ?_ | with_reducible refine r_nxt ?_ | with_reducible refine r_asg ?_ | with_reducible refine r_to ?_ | with_reducible refine r_ret ?_ | with_reducible refine r_for ?_ | with_reducible refine r_lc ?_ | with_reducible refine r_lc2 ?_ | with_reducible refine r_rng1 ?_ | with_reducible refine r_list ?_ | with_reducible refine r_tupI ?_ | with_reducible refine r_drop ?_ | with_reducible refine r_ifs ?_
  | with_reducible refine r_op ?_ | with_reducible refine r_c ?_ | with_reducible refine r_var rfl ?_ | with_reducible refine r_var (by assumption) ?_ | with_reducible refine r_I0 ?_ | with_reducible refine r_un ?_ | with_reducible refine r_U ?_ | with_reducible refine r_make ?_ | with_reducible refine r_makeS ?_ | with_reducible refine r_ifE ?_ | with_reducible refine r_cm ?_ | with_reducible refine r_mkV rfl ?_ | with_reducible refine r_sub ?_
  | with_reducible refine r_nil ?_ | with_reducible refine r_cons ?_ | with_reducible refine r_cb ?_ | with_reducible refine r_sl ?_ | with_reducible refine r_noP ?_ | with_reducible refine r_part ?_ | with_reducible refine r_isI ?_ | with_reducible refine r_lst ?_ | with_reducible refine r_tup ?_ | with_reducible refine r_call ?_ | with_reducible refine r_callS ?_ | with_reducible refine r_sFldU ?_ | with_reducible refine r_chain ?_ | with_reducible refine r_enum ?_ | with_reducible refine r_zip ?_ | with_reducible refine r_rng3 ?_ | with_reducible refine r_gtup ?_ | with_reducible refine r_methU ?_
  | with_reducible refine r_test ?_ | with_reducible refine r_B ?_ | with_reducible refine r_and ?_ | with_reducible refine r_or ?_ | with_reducible refine r_not ?_ | with_reducible refine r_andV ?_ | with_reducible refine r_orV ?_ | with_reducible refine r_notV ?_ | with_reducible refine r_bl ?_ | with_reducible refine r_yes ?_ | with_reducible refine r_int ?_ | with_reducible refine r_is0 ?_ | with_reducible refine r_is1 ?_ | with_reducible refine iteT ?_ | with_reducible refine iteF ?_ | with_reducible refine ite_nF ?_ | with_reducible refine ite_nT ?_
  | with_reducible refine r_mod (by decide) ?_ | with_reducible refine r_div (by decide) (by decide) ?_ | with_reducible refine r_mulR (by decide) (by decide) ?_ | with_reducible refine r_mulL (by decide) (by decide) ?_ | with_reducible refine r_pow (by decide) (by decide) (by decide) ?_))
/-! ### the drawn numbers of a script, without a pool -/
def cellF (ns : List Int) (k : Nat) : Int := ns.getD k 0
def mixF (c k : Int) : Int :=
  ((((((c + 7919 * k + 1) * 48271) % 2147483647) * ((((c + 7919 * k + 1) * 48271) % 2147483647) / 1009 + 69621)) % 2147483647) * (((((((c + 7919 * k + 1) * 48271) % 2147483647) * ((((c + 7919 * k + 1) * 48271) % 2147483647) / 1009 + 69621)) % 2147483647)) / 2003 + 40692)) % 2147483399
theorem mixF_nn (c k : Int) : 0 ≤ mixF c k := Int.emod_nonneg _ (by decide)
theorem mixF_lt (c k : Int) : mixF c k < 2147483399 := Int.emod_lt_of_pos _ (by decide)
def numF (c sp : Int) (k : Nat) (z : Int) : Int := if z > 10 ^ 8 then mixF c (1009 * sp + k) / 16 * (10 ^ 22 + 9) + mixF (c + 1) (1009 * sp + k) / 16 else mixF c (1009 * sp + k) / 16
def dStep (c sp : Int) (k : Nat) (z l : Int) : Int × Int := if 10 ^ 18 ≤ c ∧ 0 < l then (l % z, l / z) else (numF c sp k z % z, l)
theorem dStep_nn {c sp : Int} {k : Nat} {z l : Int} (h : 0 < z) : 0 ≤ (dStep c sp k z l).1 ∧ (dStep c sp k z l).1 < z := by
  unfold dStep
  by_cases g : 10 ^ 18 ≤ c ∧ 0 < l
  · rw [if_pos g]; exact ⟨Int.emod_nonneg _ (by omega), Int.emod_lt_of_pos _ h⟩
  · rw [if_neg g]; exact ⟨Int.emod_nonneg _ (by omega), Int.emod_lt_of_pos _ h⟩
def dAt (c sp : Int) (zs : List Int) : Nat → List Int × Int
  | 0 => ([], c)
  | m + 1 => match zs[m]? with
    | some z => ((dAt c sp zs m).1 ++ [(dStep c sp m z (dAt c sp zs m).2).1], (dStep c sp m z (dAt c sp zs m).2).2)
    | none => dAt c sp zs m
def drawsF (ns : List Int) (sp : Nat) (zs : List Int) : List Int := (dAt (cellF ns sp) sp zs zs.length).1
theorem dAt_more {c sp : Int} {zs : List Int} {m : Nat} {z : Int} (e : zs[m]? = some z) : dAt c sp zs (m + 1) = ((dAt c sp zs m).1 ++ [(dStep c sp m z (dAt c sp zs m).2).1], (dStep c sp m z (dAt c sp zs m).2).2) := by
  show (match zs[m]? with | some z => _ | none => _) = _
  rw [e]
theorem dAt_len {c sp : Int} {zs : List Int} : ∀ {m : Nat}, m ≤ zs.length → (dAt c sp zs m).1.length = m
  | 0, _ => rfl
  | m + 1, h => by
    rw [dAt_more (List.getElem?_eq_getElem (show m < zs.length by omega))]
    show (_ ++ [_]).length = _
    rw [List.length_append, dAt_len (by omega)]
    rfl
theorem drawsF_len (ns : List Int) (sp : Nat) (zs : List Int) : (drawsF ns sp zs).length = zs.length := dAt_len (Nat.le_refl _)
theorem dAt_get {c sp : Int} {zs : List Int} (pos : ∀ z, z ∈ zs → 0 < z) : ∀ {m i : Nat} {d : Int}, m ≤ zs.length → (dAt c sp zs m).1[i]? = some d → ∃ z, zs[i]? = some z ∧ 0 ≤ d ∧ d < z
  | 0, i, d, _, e => by simp [dAt] at e
  | m + 1, i, d, h, e => by
    have em := List.getElem?_eq_getElem (show m < zs.length by omega)
    rw [dAt_more em] at e
    have l := dAt_len (c := c) (sp := sp) (show m ≤ zs.length by omega)
    by_cases c0 : i < m
    · rw [List.getElem?_append_left (by omega)] at e
      exact dAt_get pos (by omega) e
    · rw [List.getElem?_append_right (by omega), l] at e
      have : i = m := by
        by_cases d0 : i - m = 0
        · omega
        · obtain ⟨q, hq⟩ : ∃ q, i - m = q + 1 := ⟨i - m - 1, by omega⟩
          rw [hq] at e
          simp at e
      subst this
      rw [Nat.sub_self] at e
      cases e
      exact ⟨_, em, dStep_nn (pos _ (List.mem_of_getElem? em))⟩
theorem drawsF_get {ns : List Int} {sp : Nat} {zs : List Int} (pos : ∀ z, z ∈ zs → 0 < z) {i : Nat} {z : Int} (e : zs[i]? = some z) : ∃ d, (drawsF ns sp zs)[i]? = some d ∧ 0 ≤ d ∧ d < z := by
  have hi : i < (drawsF ns sp zs).length := by rw [drawsF_len]; exact (List.getElem?_eq_some_iff.mp e).1
  have e1 := List.getElem?_eq_getElem hi
  obtain ⟨z', ez, h1, h2⟩ := dAt_get pos (Nat.le_refl _) e1
  rw [e] at ez
  cases ez
  exact ⟨_, e1, h1, h2⟩
def spCell2 (K : PySem.W.Frag) : Sp := fun vs H Q _ => ∃ (l : Addr) (ns : List Int) (k : Nat), vs = [.ref l, .int (k : Int)] ∧ SqL K H l (ns.map V.int) ∧ Q (.int (cellF ns k)) H
def spMix2 : Sp := fun vs H Q _ => ∃ c k : Int, vs = [.int c, .int k] ∧ Q (.int (mixF c k)) H
/-- a size that can be drawn from -/
def Szd (z : Int) : Prop := 0 < z ∧ z.natAbs.log2 < 9000
def spDraws (K : PySem.W.Frag) : Sp := fun vs H Q _ => ∃ (l zl : Addr) (ns zs : List Int) (sp : Nat), vs = [.ref l, .int (sp : Int), .ref zl] ∧ SqL K H l (ns.map V.int) ∧ H zl = some (.lst (zs.map V.int)) ∧ (∀ z, z ∈ zs → Szd z) ∧ zs.length ≤ 1000 ∧
  ∀ (r : Addr) (H' : Hp), Same H H' → H r = none → H' r = some (.lst ((drawsF ns sp zs).map V.int)) → Q (.ref r) H'
abbrev slCell2 : Stmt := top 34
abbrev slMix2 : Stmt := top 35
abbrev slDraws : Stmt := top 36
theorem r_aug {i : Nat} {te : TE} {ti : TIp} {D : Ends} {σ : L2.St} {H : Hp} {v : V} (e : σ[i]? = some (some v)) (h : te σ H fun y H1 => ti v y H1 fun z H2 => D.nx (σ.set i (some z)) H2) : tAug i te ti D σ H := ⟨v, e, h⟩
theorem r_divW {a b : Int} {H : Hp} {Q : VK} (c : Szd b) (h : Q (.int (a / b)) H) : rI CDivW (fun i j => .int (i / j)) (.int a) (.int b) H Q := r_I c h
section
variable {P : Program} {w : World} {K : PySem.W.Frag} {mg : Str → Option Value} {base : Heap} {f : Addr} {fd : FuncData}
theorem sclCell2 : FnScope ["_law_script", "_law_k"] ["_law_script", "_law_k"] (defScope slCell2) := ⟨rfl, rfl, rfl, by decide +kernel, rfl, by decide +kernel, by decide +kernel⟩
theorem ok_cell2 (F : Fun K "_law_cell" "_law_cell" slCell2 f fd) (T : Bt mg) : FnOk P w K mg base CX0 1 f fd ["_law_script", "_law_k"] (spCell2 K) := by
  refine F.ok sclCell2 (fun vs H Q E h => ?_) (fun cdv A outer s H vs Q E hr h => ?_)
  · obtain ⟨l, ns, k, rfl, _⟩ := h
    rfl
  · obtain ⟨l, ns, k, rfl, hl, kk⟩ := h
    refine ⟨_, (pss_cons (ps_if (pt_cmpR op_lt (pv 1) (pe_callB cl_len (by rfl) T.len (by decide +kernel) (pa_cons (pv 0) pa_nil)) (nomark _)) (pss_one (ps_ret (pe_callTy cl_int (by rfl) T.int (by decide +kernel) (pa_cons (pe_ix ix_list (pv 0) (pv 1) (fun _ _ => rfl)) pa_nil)))) pss_nil)
  (pss_one (ps_ret pe_int))), ?_⟩
    walk_at "rd"
    refine r_lenL hl ?_
    walk_at "rd"
    by_cases c : k < ns.length
    · refine ifT (decide_eq_true (by rw [List.length_map]; omega)) ?_
      walk_at "rd"
      refine r_ixL hl (v := .int ns[k]) (atI_nat (j := k) (by rw [List.getElem?_map, List.getElem?_eq_getElem c]; rfl)) ?_
      walk_at "rd"
      have e : cellF ns k = ns[k] := by unfold cellF; rw [List.getD_eq_getElem?_getD, List.getElem?_eq_getElem c]; rfl
      rw [← e]
      exact kk
    · refine ifF (decide_eq_false (by rw [List.length_map]; omega)) ?_
      walk_at "rd"
      have e : cellF ns k = 0 := by unfold cellF; rw [List.getD_eq_getElem?_getD, List.getElem?_eq_none (by omega)]; rfl
      rw [← e]
      exact kk
theorem sclMix2 : FnScope ["_law_cell_here", "_law_k", "_law_number"] ["_law_cell_here", "_law_k"] (defScope slMix2) := ⟨rfl, rfl, rfl, by decide +kernel, rfl, by decide +kernel, by decide +kernel⟩
theorem ok_mix2 (F : Fun K "_law_mixed" "_law_mixed" slMix2 f fd) (T : Bt mg) : FnOk P w K mg base CX0 1 f fd ["_law_cell_here", "_law_k"] spMix2 := by
  refine F.ok sclMix2 (fun vs H Q E h => ?_) (fun cdv A outer s H vs Q E hr h => ?_)
  · obtain ⟨c, k, rfl, _⟩ := h
    rfl
  · obtain ⟨c, k, rfl, kk⟩ := h
    refine ⟨_, (pss_cons (ps_set (i := 2) sclMix2.nd rfl (Or.inl rfl) (pe_op op_mod (pe_callTy cl_int (by rfl) T.int (by decide +kernel) (pa_cons (pe_op op_mul (pe_op op_add (pe_op op_add (pv 0) (pe_op op_mul pe_int (pv 1))) pe_int) pe_int) pa_nil)) pe_int))
  (pss_cons (ps_set (i := 2) sclMix2.nd rfl (Or.inl rfl) (pe_op op_mod (pe_callTy cl_int (by rfl) T.int (by decide +kernel) (pa_cons (pe_op op_mul (pv 2) (pe_op op_add (pe_op op_fdiv (pv 2) pe_int) pe_int)) pa_nil)) pe_int))
  (pss_one (ps_ret (pe_op op_mod (pe_callTy cl_int (by rfl) T.int (by decide +kernel) (pa_cons (pe_op op_mul (pv 2) (pe_op op_add (pe_op op_fdiv (pv 2) pe_int) pe_int)) pa_nil)) pe_int))))), ?_⟩
    walk_at "rd"
    obtain ⟨a, ea⟩ : ∃ a, a = ((c + 7919 * k + 1) * 48271) % 2147483647 := ⟨_, rfl⟩
    have a0 : 0 ≤ a := by rw [ea]; exact Int.emod_nonneg _ (by decide)
    have a1 : a < 2147483647 := by rw [ea]; exact Int.emod_lt_of_pos _ (by decide)
    rw [← ea]
    refine r_mulL (Int.lt_of_lt_of_le (by decide) a0) (Int.lt_trans a1 (by decide)) ?_
    walk_at "rd"
    obtain ⟨b, eb⟩ : ∃ b, b = (a * (a / 1009 + 69621)) % 2147483647 := ⟨_, rfl⟩
    have b0 : 0 ≤ b := by rw [eb]; exact Int.emod_nonneg _ (by decide)
    have b1 : b < 2147483647 := by rw [eb]; exact Int.emod_lt_of_pos _ (by decide)
    rw [← eb]
    refine r_mulL (Int.lt_of_lt_of_le (by decide) b0) (Int.lt_trans b1 (by decide)) ?_
    walk_at "rd"
    have e : mixF c k = (b * (b / 2003 + 40692)) % 2147483399 := by rw [eb, ea]; rfl
    rw [← e]
    exact kk
theorem sclDraws : FnScope ["_law_script", "_law_spot", "_law_sizes", "_law_cell_here", "_law_left", "_law_drawn", "_law_k", "_law_size", "_law_number"] ["_law_script", "_law_spot", "_law_sizes"] (defScope slDraws) := ⟨rfl, rfl, rfl, by decide +kernel, rfl, by decide +kernel, by decide +kernel⟩
theorem ok_draws (F : Fun K "_law_draws" "_law_draws" slDraws f fd) (T : Bt mg) (DC : Df P w K mg base CX0 "_law_cell" 1 ["_law_script", "_law_k"] (spCell2 K)) (DM : Df P w K mg base CX0 "_law_mixed" 1 ["_law_cell_here", "_law_k"] spMix2) : FnOk P w K mg base CX0 2 f fd ["_law_script", "_law_spot", "_law_sizes"] (spDraws K) := by
  refine F.ok sclDraws (fun vs H Q E h => ?_) (fun cdv A outer s H vs Q E hr h => ?_)
  · obtain ⟨l, zl, ns, zs, sp, rfl, _⟩ := h
    rfl
  · obtain ⟨l, zl, ns, zs, sp, rfl, hl, hz, sz, z1000, kk⟩ := h
    refine ⟨_, (pss_cons (ps_set (i := 3) sclDraws.nd rfl (Or.inl rfl) (pe_df DC hr (by decide) (pa_cons (pv 0) (pa_cons (pv 1) pa_nil))))
  (pss_cons (ps_set (i := 4) sclDraws.nd rfl (Or.inl rfl) (pv 3))
  (pss_cons (ps_set (i := 5) sclDraws.nd rfl (Or.inl rfl) (pe_lst pa_nil))
  (pss_cons (ps_for PassesOwn.never rfl (pi_enum (by rfl) T.enumerate (pa_cons (pv 2) pa_nil)) (pg_tup (by rfl) (pgs_cons (pg_name (i := 6) sclDraws.nd rfl (Or.inl rfl)) (pgs_cons (pg_name (i := 7) sclDraws.nd rfl (Or.inl rfl)) pgs_nil))) (pss_one (ps_if (PW.pt (pw_and (pt_cmpR op_ge (pv 3) (pe_op op_pow pe_int pe_int) (nomark _)) (pw_and1 (pt_cmpR op_gt (pv 4) pe_int (nomark _))))) (pss_cons (ps_expr (pe_bm PySem.F.plainAttrs_list PySem.F.slot_list_append PySem.F.type_list_append mt_append (pv 5) (pa_cons (pe_op op_mod (pe_callTy cl_int (by rfl) T.int (by decide +kernel) (pa_cons (pv 4) pa_nil)) (pv 7)) pa_nil)))
  (pss_one (ps_set (i := 4) sclDraws.nd rfl (Or.inl rfl) (pe_op op_fdivW (pv 4) (pv 7))))) (pss_cons (ps_set (i := 8) sclDraws.nd rfl (Or.inl rfl) (pe_op op_fdiv (pe_df DM hr (by decide) (pa_cons (pv 3) (pa_cons (pe_op op_add (pe_op op_mul pe_int (pv 1)) (pv 6)) pa_nil))) pe_int))
  (C8.pss_cut (ps_if (pt_cmpR op_gt (pv 7) (pe_op op_pow pe_int pe_int) (nomark _)) (pss_cons (ps_set (i := 8) sclDraws.nd rfl (Or.inl rfl) (pe_op op_mul (pv 8) (pe_op op_add (pe_op op_pow pe_int pe_int) pe_int)))
  (pss_one (ps_aug (i := 8) sclDraws.nd rfl (Or.inl rfl) (pe_op op_fdiv (pe_df DM hr (by decide) (pa_cons (pe_op op_add (pv 3) pe_int) (pa_cons (pe_op op_add (pe_op op_mul pe_int (pv 1)) (pv 6)) pa_nil))) pe_int) ip_add))) pss_nil)
  (pss_one (ps_expr (pe_bm PySem.F.plainAttrs_list PySem.F.slot_list_append PySem.F.type_list_append mt_append (pv 5) (pa_cons (pe_op op_mod (pe_callTy cl_int (by rfl) T.int (by decide +kernel) (pa_cons (pv 8) pa_nil)) (pv 7)) pa_nil)))))))))
  (pss_one (ps_ret (pv 5))))))), ?_⟩
    walk_at "rd"
    refine ⟨l, ns, sp, rfl, hl, ?_⟩
    obtain ⟨c, ec⟩ : ∃ c, c = cellF ns sp := ⟨_, rfl⟩
    rw [← ec]
    walk_at "rd"
    refine ⟨Nat.zero_le _, fun D nD => ?_⟩
    have s1 := Same.up (o := .lst []) (Same.refl H) nD
    have hD1 : upd H D (.lst []) D = some (.lst []) := upd_same
    obtain ⟨H1, eH1⟩ : ∃ H1, H1 = upd H D (.lst []) := ⟨_, rfl⟩
    rw [← eH1] at s1 hD1 ⊢
    walk_at "rd"
    refine ⟨zl, zs.map V.int, rfl, SqL.of (s1 _ _ hz), for_it walk_enum (fun m σ H' => ∃ v6 v7 v8, σ = [some (.ref l), some (.int (sp : Int)), some (.ref zl), some (.int c), some (.int (dAt c sp zs m).2), some (.ref D), v6, v7, v8] ∧ Same H H' ∧ H' D = some (.lst ((dAt c sp zs m).1.map V.int))) ⟨_, _, _, rfl, s1, hD1⟩ (fun m σ H' _ z => by obtain ⟨_, _, _, _, z, _⟩ := z; exact SqL.of (z _ _ hz)) ?_ ?_⟩
    · rintro m y σ H2 H3 hm ⟨v6, v7, v8, rfl, s2, hD2⟩ ⟨t, i', y', rfl, ht, rfl, e1, e2⟩
      cases (Option.some.inj e1)
      have e2 : (zs.map V.int)[m]? = some y' := e2
      rw [List.getElem?_map] at e2
      obtain ⟨z, ez, rfl⟩ := Option.map_eq_some_iff.mp e2
      have sz' := sz z (List.mem_of_getElem? ez)
      have hm' : m < zs.length := (List.getElem?_eq_some_iff.mp ez).1
      have dl := dAt_len (c := c) (sp := sp) (show m ≤ zs.length by omega)
      refine r_gtup ⟨t, _, rfl, SqT.of upd_same, rfl, _, _, rfl, ?_⟩
      have hD3 := Same.up (o := .tup [V.int (m : Int), V.int z]) (Same.refl H2) ht _ _ hD2
      have s3 := s2.trans (Same.up (o := .tup [V.int (m : Int), V.int z]) (Same.refl H2) ht)
      obtain ⟨H3, eH3⟩ : ∃ H3, H3 = upd H2 t (.tup [V.int (m : Int), V.int z]) := ⟨_, rfl⟩
      rw [← eH3] at s3 hD3 ⊢
      have put : ∀ v : V, Same H (upd H3 D (.lst ((dAt c sp zs m).1.map V.int ++ [v]))) := fun v c o e => by
        rw [upd_ne (fun z => by rw [z, nD] at e; cases e)]
        exact s3 _ _ e
      have lD : ((dAt c sp zs m).1.map V.int).length < sizeLine := Nat.lt_of_le_of_lt (show _ ≤ 1000 by rw [List.length_map]; omega) (by decide)
      have dm := dAt_more (c := c) (sp := sp) ez
      walk_at "rd"
      refine ⟨_, _, rfl, ?_⟩
      walk_at "rd"
      refine ⟨rfl, ?_⟩
      walk_at "rd"
      by_cases gd : 10 ^ 18 ≤ c ∧ 0 < (dAt c sp zs m).2
      · have ds : dStep c sp m z (dAt c sp zs m).2 = ((dAt c sp zs m).2 % z, (dAt c sp zs m).2 / z) := by unfold dStep; rw [if_pos gd]
        rw [ds] at dm
        refine ifT (decide_eq_true gd.1) ?_
        walk_at "rd"
        refine ifT (decide_eq_true gd.2) ?_
        walk_at "rd"
        refine r_bm ?_
        walk_at "rd"
        refine ⟨.inl ⟨rfl, _, SqL.of hD3⟩, ?_⟩
        walk_at "rd"
        refine r_mod sz'.1 ?_
        walk_at "rd"
        refine ⟨D, _, _, rfl, rfl, hD3, lD, ?_⟩
        walk_at "rd"
        refine r_divW sz' ?_
        walk_at "rd"
        refine ⟨some (.int (m : Int)), some (.int z), v8, ?_, put _, ?_⟩
        · rw [dm]; rfl
        · rw [dm, upd_same, List.map_append]; rfl
      · have ds : dStep c sp m z (dAt c sp zs m).2 = (numF c sp m z % z, (dAt c sp zs m).2) := by unfold dStep; rw [if_neg gd]
        rw [ds] at dm
        have two : decide (10 ^ (18 : Int).toNat ≤ c) = false ∨ (decide (10 ^ (18 : Int).toNat ≤ c) = true ∧ decide (0 < (dAt c sp zs m).2) = false) := by
          by_cases c18 : 10 ^ 18 ≤ c
          · exact .inr ⟨decide_eq_true c18, decide_eq_false fun z => gd ⟨c18, z⟩⟩
          · exact .inl (decide_eq_false c18)
        rcases two with h | ⟨h, h'⟩
        all_goals
          first
            | refine ifF h ?_
            | (refine ifT h ?_
               walk_at "rd"
               refine ifF h' ?_)
          walk_at "rd"
          refine ⟨c, _, rfl, ?_⟩
          walk_at "rd"
          have b0 := mixF_nn c (1009 * (sp : Int) + (m : Int))
          have b1 := mixF_lt c (1009 * (sp : Int) + (m : Int))
          refine r_cut (fun σ' H' => σ' = [some (.ref l), some (.int (sp : Int)), some (.ref zl), some (.int c), some (.int (dAt c sp zs m).2), some (.ref D), some (.int (m : Int)), some (.int z), some (.int (numF c sp m z))] ∧ H3 = H') ?_ ?_
          · walk_at "rd"
            by_cases z8 : z > 10 ^ 8
            · refine ifT (decide_eq_true z8) ?_
              walk_at "rd"
              refine r_mulL (by omega) (by omega) ?_
              walk_at "rd"
              refine r_aug rfl ?_
              walk_at "rd"
              refine ⟨_, _, rfl, ?_⟩
              walk_at "rd"
              refine ⟨_, _, rfl, rfl, ?_⟩
              refine ⟨?_, rfl⟩
              unfold numF
              rw [if_pos z8]
              rfl
            · refine ifF (decide_eq_false z8) ?_
              refine ⟨?_, rfl⟩
              unfold numF
              rw [if_neg z8]
              rfl
          · rintro σ' H' ⟨rfl, rfl⟩
            walk_at "rd"
            refine r_bm ?_
            walk_at "rd"
            refine ⟨.inl ⟨rfl, _, SqL.of hD3⟩, ?_⟩
            walk_at "rd"
            refine r_mod sz'.1 ?_
            walk_at "rd"
            refine ⟨D, _, _, rfl, rfl, hD3, lD, ?_⟩
            refine ⟨some (.int (m : Int)), some (.int z), some (.int (numF c sp m z)), ?_, put _, ?_⟩
            · rw [dm]
            · rw [dm, upd_same, List.map_append]; rfl
    · rintro σ H2 ⟨v6, v7, v8, rfl, s2, hD2⟩
      rw [List.length_map] at hD2
      walk_at "rd"
      refine kk D H2 s2 nD ?_
      rw [hD2, ec]
      rfl
end
end Pk
set_option Elab.async false
set_option linter.all false
set_option maxRecDepth 100000
set_option maxHeartbeats 4000000
namespace Pk
open PySem L2
local macro_rules | `(tactic| walk_at "rd") => `(tactic| repeat (first
  | with_reducible refine r_seq ?_ | with_reducible refine r_nxt ?_ | with_reducible refine r_asg ?_ | with_reducible refine r_to ?_ | with_reducible refine r_ret ?_ | with_reducible refine r_for ?_ | with_reducible refine r_lc ?_ | with_reducible refine r_lc2 ?_ | with_reducible refine r_rng1 ?_ | with_reducible refine r_list ?_ | with_reducible refine r_tupI ?_ | with_reducible refine r_drop ?_ | with_reducible refine r_ifs ?_
  | with_reducible refine r_op ?_ | with_reducible refine r_c ?_ | with_reducible refine r_var rfl ?_ | with_reducible refine r_var (by assumption) ?_ | with_reducible refine r_I0 ?_ | with_reducible refine r_un ?_ | with_reducible refine r_U ?_ | with_reducible refine r_make ?_ | with_reducible refine r_makeS ?_ | with_reducible refine r_ifE ?_ | with_reducible refine r_cm ?_ | with_reducible refine r_mkV rfl ?_ | with_reducible refine r_sub ?_
  | with_reducible refine r_nil ?_ | with_reducible refine r_cons ?_ | with_reducible refine r_cb ?_ | with_reducible refine r_sl ?_ | with_reducible refine r_noP ?_ | with_reducible refine r_part ?_ | with_reducible refine r_isI ?_ | with_reducible refine r_lst ?_ | with_reducible refine r_tup ?_ | with_reducible refine r_call ?_ | with_reducible refine r_callS ?_ | with_reducible refine r_sFldU ?_ | with_reducible refine r_chain ?_ | with_reducible refine r_enum ?_ | with_reducible refine r_zip ?_ | with_reducible refine r_rng3 ?_ | with_reducible refine r_gtup ?_ | with_reducible refine r_methU ?_
  | with_reducible refine r_test ?_ | with_reducible refine r_B ?_ | with_reducible refine r_and ?_ | with_reducible refine r_or ?_ | with_reducible refine r_not ?_ | with_reducible refine r_andV ?_ | with_reducible refine r_orV ?_ | with_reducible refine r_notV ?_ | with_reducible refine r_bl ?_ | with_reducible refine r_yes ?_ | with_reducible refine r_int ?_ | with_reducible refine r_is0 ?_ | with_reducible refine r_is1 ?_ | with_reducible refine iteT ?_ | with_reducible refine iteF ?_ | with_reducible refine ite_nF ?_ | with_reducible refine ite_nT ?_
  | with_reducible refine r_mod (by decide) ?_ | with_reducible refine r_div (by decide) (by decide) ?_ | with_reducible refine r_mulR (by decide) (by decide) ?_ | with_reducible refine r_mulL (by decide) (by decide) ?_ | with_reducible refine r_pow (by decide) (by decide) (by decide) ?_))
/-! ### the grid of prices of a script -/
structure GK (H0 H : Hp) (L : Addr) (es : List V) (R : Rw) : Prop where
  at_ : H L = some (.lst es)
  len : es.length = R.length
  row : ∀ (i : Nat) (v : V), es[i]? = some v → ∃ a, v = .ref a ∧ a ≠ L ∧ H0 a = none ∧ H a = some (.lst ((R.getD i []).map pV))
theorem GK.same {H0 H H' : Hp} {L : Addr} {es : List V} {R : Rw} (g : GK H0 H L es R) (s : Same H H') : GK H0 H' L es R := ⟨s _ _ g.at_, g.len, fun i v e => by
  obtain ⟨a, e1, n1, n2, h⟩ := g.row i v e
  exact ⟨a, e1, n1, n2, s _ _ h⟩⟩
theorem GK.put {H0 H : Hp} {L q : Addr} {es : List V} {R : Rw} {o : HO} (g : GK H0 H L es R) (n : L ≠ q) (m : ∀ (j : Nat) (v : V), es[j]? = some v → v ≠ .ref q) : GK H0 (upd H q o) L es R := ⟨by rw [upd_ne n]; exact g.at_, g.len, fun i v e => by
  obtain ⟨a, e1, n1, n2, h⟩ := g.row i v e
  exact ⟨a, e1, n1, n2, by rw [upd_ne (fun z => m i v e (by rw [e1, z]))]; exact h⟩⟩
theorem GK.more {H0 H : Hp} {L rw0 : Addr} {es : List V} {R : Rw} {cur : List (Option Int)} (g : GK H0 H L es R) (nl : rw0 ≠ L) (n0 : H0 rw0 = none) (hr : H rw0 = some (.lst (cur.map pV))) : GK H0 (upd H L (.lst (es ++ [.ref rw0]))) L (es ++ [.ref rw0]) (R ++ [cur]) := by
  refine ⟨upd_same, by rw [List.length_append, List.length_append, g.len]; rfl, fun i v e => ?_⟩
  have gl := g.len
  by_cases c : i < es.length
  · rw [List.getElem?_append_left c] at e
    obtain ⟨a, e1, n1, n2, h⟩ := g.row i v e
    refine ⟨a, e1, n1, n2, ?_⟩
    rw [upd_ne n1, h]
    congr 3
    rw [List.getD_eq_getElem?_getD, List.getD_eq_getElem?_getD, List.getElem?_append_left (by omega)]
  · rw [List.getElem?_append_right (by omega)] at e
    have : i = es.length := by
      by_cases d0 : i - es.length = 0
      · omega
      · obtain ⟨q, hq⟩ : ∃ q, i - es.length = q + 1 := ⟨i - es.length - 1, by omega⟩
        rw [hq] at e
        simp at e
    subst this
    rw [Nat.sub_self] at e
    cases e
    refine ⟨rw0, rfl, nl, n0, ?_⟩
    rw [upd_ne nl, hr]
    congr 3
    rw [List.getD_eq_getElem?_getD, List.getElem?_append_right (by omega), gl, Nat.sub_self]
    rfl
theorem GK.rl {H0 H : Hp} {L : Addr} {es : List V} {R : Rw} (g : GK H0 H L es R) : RL H L es R := ⟨g.at_, g.len, fun i v e => by
  obtain ⟨a, e1, _, _, h⟩ := g.row i v e
  exact ⟨a, e1, h⟩⟩
/-- prices of at most 120 digits -/
def PB (R : Rw) : Prop := ∀ r, r ∈ R → ∀ i : Int, some i ∈ r → -(10 ^ 120) < i ∧ i < 10 ^ 120
theorem grid_big {h w S : Int} (s : S ≤ 10 ^ 59) (h0 : 0 ≤ h) (h1 : h < S) (w0 : 0 ≤ w) (w1 : w < S) : -(10 ^ 120) < h + 2 * w - h * w ∧ h + 2 * w - h * w < 10 ^ 120 := by
  have a := Int.mul_nonneg h0 w0
  have b := Int.mul_le_mul (show h ≤ 10 ^ 59 by omega) (show w ≤ 10 ^ 59 by omega) w0 (by decide)
  rw [show (10 : Int) ^ 59 * 10 ^ 59 = 10 ^ 118 from by decide] at b
  generalize h * w = q at a b
  omega
theorem log_lt {n : Int} {k : Nat} (h : n.natAbs < 2 ^ k) (k0 : 0 < k) : n.natAbs.log2 < k := by
  by_cases z : n.natAbs = 0
  · rw [z]
    show Nat.log2 0 < k
    rw [show Nat.log2 0 = 0 from by decide]
    exact k0
  · exact (Nat.log2_lt z).mpr h
theorem szd {z : Int} (p : 0 < z) (h : z < 2 ^ 250) : Szd z := ⟨p, Nat.lt_trans (log_lt (k := 250) (by omega) (by decide)) (by decide)⟩
theorem cut_mid {vs : List V} {a b : Nat} (h : a ≤ b) (hb : b ≤ vs.length) : cutV vs (some (a : Int)) (some (b : Int)) = (vs.drop a).take (b - a) := by
  unfold cutV
  rw [HT.sIx_nat, HT.sIx_nat, Nat.min_eq_left hb, Nat.min_eq_left (show a ≤ vs.length by omega)]
def spGrid (K : PySem.W.Frag) : Sp := fun vs H Q _ => ∃ (l : Addr) (ns : List Int) (sp m n : Nat) (st sh : Int), vs = [.ref l, .int (sp : Int), .int (m : Int), .int (n : Int), .int st, .int sh] ∧ SqL K H l (ns.map V.int) ∧ 0 < m ∧ m ≤ 8 ∧ 0 < n ∧ n ≤ 8 ∧ 0 ≤ st ∧ st < 8 ∧ 0 ≤ sh ∧ sh ≤ 8 ∧
  ∀ (ra : Addr) (es : List V) (R : Rw) (H' : Hp), Same H H' → GK H H' ra es R → H ra = none → Gt R → R.length = m → wd R = n → PB R → Q (.ref ra) H'
abbrev slGrid : Stmt := top 37
section
variable {P : Program} {w : World} {K : PySem.W.Frag} {mg : Str → Option Value} {base : Heap} {f : Addr} {fd : FuncData}
theorem sclGrid : FnScope ["_law_script", "_law_spot", "_law_m", "_law_n", "_law_style", "_law_share", "_law_spread", "_law_sizes", "_law_drawn", "_law_high", "_law_wide", "_law_grid_here", "_law_i", "_law_row", "_law_j", "_law_number", "_law_price"] ["_law_script", "_law_spot", "_law_m", "_law_n", "_law_style", "_law_share"] (defScope slGrid) := ⟨rfl, rfl, rfl, by decide +kernel, rfl, by decide +kernel, by decide +kernel⟩
theorem ok_grid (F : Fun K "_law_grid" "_law_grid" slGrid f fd) (T : Bt mg) (DD : Df P w K mg base CX0 "_law_draws" 2 ["_law_script", "_law_spot", "_law_sizes"] (spDraws K)) : FnOk P w K mg base CX0 3 f fd ["_law_script", "_law_spot", "_law_m", "_law_n", "_law_style", "_law_share"] (spGrid K) := by
  refine F.ok sclGrid (fun vs H Q E h => ?_) (fun cdv A outer s H vs Q E hr h => ?_)
  · obtain ⟨l, ns, sp, m, n, st, sh, rfl, _⟩ := h
    rfl
  · obtain ⟨l, ns, sp, m, n, st, sh, rfl, hl, m0, m8, n0, n8, st0, st8, sh0, sh8, kk⟩ := h
    refine ⟨_, (pss_cons (ps_set (i := 6) sclGrid.nd rfl (Or.inl rfl) (pe_ix ix_list (pe_lst (pa_cons pe_int (pa_cons pe_int (pa_cons pe_int (pa_cons (pe_op op_pow pe_int pe_int) pa_nil))))) (pe_op op_mod (pv 4) pe_int) (fun _ _ => rfl)))
  (C8.pss_cut (ps_if (pt_cmpR op_eq (pv 4) pe_int (nomark _)) (pss_one (ps_set (i := 6) sclGrid.nd rfl (Or.inl rfl) (pe_op op_pow pe_int pe_int))) pss_nil)
  (pss_cons (ps_set (i := 7) sclGrid.nd rfl (Or.inl rfl) (pe_op op_cat (pe_op op_rep (pe_lst (pa_cons (pe_op op_mul pe_int (pv 6)) pa_nil)) (pe_op op_mul (pv 2) (pv 3))) (pe_op op_rep (pe_lst (pa_cons (pv 6) pa_nil)) (pe_op op_add (pv 2) (pv 3)))))
  (pss_cons (ps_set (i := 8) sclGrid.nd rfl (Or.inl rfl) (pe_df DD hr (by decide) (pa_cons (pv 0) (pa_cons (pv 1) (pa_cons (pv 7) pa_nil)))))
  (pss_cons (ps_set (i := 9) sclGrid.nd rfl (Or.inl rfl) (pe_slice sl_list (pv 8) (po_some (pe_op op_mul (pv 2) (pv 3))) (po_some (pe_op op_add (pe_op op_mul (pv 2) (pv 3)) (pv 2)))))
  (pss_cons (ps_set (i := 10) sclGrid.nd rfl (Or.inl rfl) (pe_slice sl_list (pv 8) (po_some (pe_op op_add (pe_op op_mul (pv 2) (pv 3)) (pv 2))) po_none))
  (pss_cons (ps_set (i := 11) sclGrid.nd rfl (Or.inl rfl) (pe_lst pa_nil))
  (pss_cons (ps_for PassesOwn.never rfl (pi_range1 rfl T.range (pa_cons (pv 2) pa_nil)) (pg_name (i := 12) sclGrid.nd rfl (Or.inl rfl)) (pss_cons (ps_set (i := 13) sclGrid.nd rfl (Or.inl rfl) (pe_lst pa_nil))
  (pss_cons (ps_for PassesOwn.never rfl (pi_range1 rfl T.range (pa_cons (pv 3) pa_nil)) (pg_name (i := 14) sclGrid.nd rfl (Or.inl rfl)) (pss_cons (ps_set (i := 15) sclGrid.nd rfl (Or.inl rfl) (pe_ix ix_list (pv 8) (pe_op op_add (pe_op op_mul (pv 12) (pv 3)) (pv 14)) (fun _ _ => rfl)))
  (pss_cons (ps_set (i := 16) sclGrid.nd rfl (Or.inl rfl) (pe_op op_sub (pe_op op_fdiv (pv 15) pe_int) (pe_op op_fdiv (pv 6) pe_int)))
  (C8.pss_cut (ps_if (pt_cmpR op_ge (pv 4) pe_int (nomark _)) (pss_one (ps_set (i := 16) sclGrid.nd rfl (Or.inl rfl) (pe_op op_sub (pe_op op_add (pe_ix ix_list (pv 9) (pv 12) (fun _ _ => rfl)) (pe_op op_mul pe_int (pe_ix ix_list (pv 10) (pv 14) (fun _ _ => rfl)))) (pe_op op_mulW (pe_ix ix_list (pv 9) (pv 12) (fun _ _ => rfl)) (pe_ix ix_list (pv 10) (pv 14) (fun _ _ => rfl)))))) pss_nil)
  (C8.pss_cut (ps_if (PW.pt (pw_and (pt_cmpR op_gt (pv 5) pe_int (nomark _)) (pw_and1 (pt_cmpR op_eq (pe_op op_mod (pe_callTy cl_int (by rfl) T.int (by decide +kernel) (pa_cons (pv 15) pa_nil)) (pe_callB (call_max2 rfl) (by rfl) T.max (by decide +kernel) (pa_cons pe_int (pa_cons (pv 5) pa_nil)))) pe_int (nomark _))))) (pss_one (ps_set (i := 16) sclGrid.nd rfl (Or.inl rfl) pe_non)) pss_nil)
  (pss_one (ps_expr (pe_bm PySem.F.plainAttrs_list PySem.F.slot_list_append PySem.F.type_list_append mt_append (pv 13) (pa_cons (pv 16) pa_nil)))))))))
  (pss_one (ps_expr (pe_bm PySem.F.plainAttrs_list PySem.F.slot_list_append PySem.F.type_list_append mt_append (pv 11) (pa_cons (pv 13) pa_nil)))))))
  (pss_one (ps_ret (pv 11))))))))))), ?_⟩
    walk_at "rd"
    refine ⟨by show 4 ≤ sizeLine; decide, fun q1 n1 => ?_⟩
    have s1 := Same.up (o := .lst [V.int 3, V.int 8, V.int 1000, V.int (10 ^ 59)]) (Same.refl H) n1
    have hq1 : upd H q1 (.lst [V.int 3, V.int 8, V.int 1000, V.int (10 ^ 59)]) q1 = some (.lst [V.int 3, V.int 8, V.int 1000, V.int (10 ^ 59)]) := upd_same
    obtain ⟨H1, eH1⟩ : ∃ H1, H1 = upd H q1 (.lst [V.int 3, V.int 8, V.int 1000, V.int (10 ^ 59)]) := ⟨_, rfl⟩
    rw [show (10 : Int) ^ ((59 : Int)).toNat = 10 ^ 59 from rfl, ← eH1]
    rw [← eH1] at s1 hq1
    walk_at "rd"
    obtain ⟨S0, eS, S0p, S0l⟩ : ∃ S0 : Int, [V.int 3, V.int 8, V.int 1000, V.int (10 ^ 59)][(st % 4).toNat]? = some (.int S0) ∧ 0 < S0 ∧ S0 ≤ 10 ^ 59 := by
      have : (st % 4).toNat < 4 := by omega
      match (st % 4).toNat, this with
      | 0, _ => exact ⟨3, rfl, by decide, by decide⟩
      | 1, _ => exact ⟨8, rfl, by decide, by decide⟩
      | 2, _ => exact ⟨1000, rfl, by decide, by decide⟩
      | 3, _ => exact ⟨10 ^ 59, rfl, by decide, by decide⟩
    have e4 : st % 4 = (((st % 4).toNat : Nat) : Int) := by omega
    rw [e4]
    refine r_ixL (SqL.of hq1) (atI_nat eS) ?_
    walk_at "rd"
    refine r_cut (fun σ' H' => ∃ S : Int, 0 < S ∧ S ≤ 10 ^ 59 ∧ σ' = [some (.ref l), some (.int (sp : Int)), some (.int (m : Int)), some (.int (n : Int)), some (.int st), some (.int sh), some (.int S), none, none, none, none, none, none, none, none, none, none] ∧ H1 = H') ?_ ?_
    · walk_at "rd"
      refine r_eq rfl ?_
      walk_at "rd"
      refine ite_dec (fun _ => ?_) (fun _ => ?_)
      · walk_at "rd"
        exact ⟨10 ^ 29, by decide, by decide, rfl, rfl⟩
      · exact ⟨S0, S0p, S0l, rfl, rfl⟩
    · rintro σ' H1' ⟨S, Sp, Sl, rfl, rfl⟩
      have mn8 : m * n ≤ 8 * 8 := Nat.mul_le_mul m8 n8
      have emn : (m : Int) * (n : Int) = ((m * n : Nat) : Int) := (Int.natCast_mul m n).symm
      obtain ⟨mn, hmn⟩ : ∃ mn, mn = m * n := ⟨_, rfl⟩
      walk_at "rd"
      refine ⟨by show 1 ≤ sizeLine; decide, fun q2 n2 => ?_⟩
      have s2 := s1.trans (Same.up (o := .lst [V.int (18 * S)]) (Same.refl H1) n2)
      have hq2 : upd H1 q2 (.lst [V.int (18 * S)]) q2 = some (.lst [V.int (18 * S)]) := upd_same
      obtain ⟨H2, eH2⟩ : ∃ H2, H2 = upd H1 q2 (.lst [V.int (18 * S)]) := ⟨_, rfl⟩
      rw [← eH2] at s2 hq2 ⊢
      walk_at "rd"
      refine r_mulL (by omega) (by omega) ?_
      rw [emn, ← hmn]
      rw [← hmn] at mn8
      refine ⟨q2, _, _, rfl, rfl, hq2, by omega, by omega, Nat.le_trans (show 1 * ((mn : Nat) : Int).toNat ≤ 64 by omega) (by decide), fun q3 n3 => ?_⟩
      rw [List.flatten_replicate_singleton, Int.toNat_natCast]
      have s3 := s2.trans (Same.up (o := .lst (List.replicate mn (V.int (18 * S)))) (Same.refl H2) n3)
      have hq3 : upd H2 q3 (.lst (List.replicate mn (V.int (18 * S)))) q3 = some (.lst (List.replicate mn (V.int (18 * S)))) := upd_same
      obtain ⟨H3, eH3⟩ : ∃ H3, H3 = upd H2 q3 (.lst (List.replicate mn (V.int (18 * S)))) := ⟨_, rfl⟩
      rw [← eH3] at s3 hq3 ⊢
      walk_at "rd"
      refine ⟨by show 1 ≤ sizeLine; decide, fun q4 n4 => ?_⟩
      have s4 := s3.trans (Same.up (o := .lst [V.int S]) (Same.refl H3) n4)
      have hq34 := Same.up (o := .lst [V.int S]) (Same.refl H3) n4 _ _ hq3
      have hq4 : upd H3 q4 (.lst [V.int S]) q4 = some (.lst [V.int S]) := upd_same
      obtain ⟨H4, eH4⟩ : ∃ H4, H4 = upd H3 q4 (.lst [V.int S]) := ⟨_, rfl⟩
      rw [← eH4] at s4 hq34 hq4 ⊢
      walk_at "rd"
      refine ⟨q4, _, _, rfl, rfl, hq4, by omega, by omega, Nat.le_trans (show 1 * ((m : Int) + (n : Int)).toNat ≤ 64 by omega) (by decide), fun q5 n5 => ?_⟩
      rw [List.flatten_replicate_singleton, show ((m : Int) + (n : Int)).toNat = m + n by omega]
      have s5 := s4.trans (Same.up (o := .lst (List.replicate (m + n) (V.int S))) (Same.refl H4) n5)
      have hq35 := Same.up (o := .lst (List.replicate (m + n) (V.int S))) (Same.refl H4) n5 _ _ hq34
      have hq5 : upd H4 q5 (.lst (List.replicate (m + n) (V.int S))) q5 = some (.lst (List.replicate (m + n) (V.int S))) := upd_same
      obtain ⟨H5, eH5⟩ : ∃ H5, H5 = upd H4 q5 (.lst (List.replicate (m + n) (V.int S))) := ⟨_, rfl⟩
      rw [← eH5] at s5 hq35 hq5 ⊢
      refine r_cat hq35 hq5 (Nat.le_trans (show _ ≤ 128 by rw [List.length_replicate, List.length_replicate]; omega) (by decide)) fun q6 n6 => ?_
      obtain ⟨zs, ezs⟩ : ∃ zs : List Int, zs = List.replicate mn (18 * S) ++ List.replicate (m + n) S := ⟨_, rfl⟩
      have ezv : List.replicate mn (V.int (18 * S)) ++ List.replicate (m + n) (V.int S) = zs.map V.int := by rw [ezs, List.map_append, List.map_replicate, List.map_replicate]
      rw [ezv]
      have zl : zs.length = mn + (m + n) := by rw [ezs, List.length_append, List.length_replicate, List.length_replicate]
      have zz : ∀ z, z ∈ zs → Szd z := fun z hz => by
        rw [ezs] at hz
        rcases List.mem_append.mp hz with hz | hz
        · rw [(List.mem_replicate.mp hz).2]; exact szd (by omega) (by omega)
        · rw [(List.mem_replicate.mp hz).2]; exact szd (by omega) (by omega)
      have s6 := s5.trans (Same.up (o := .lst (zs.map V.int)) (Same.refl H5) n6)
      have hq6 : upd H5 q6 (.lst (zs.map V.int)) q6 = some (.lst (zs.map V.int)) := upd_same
      obtain ⟨H6, eH6⟩ : ∃ H6, H6 = upd H5 q6 (.lst (zs.map V.int)) := ⟨_, rfl⟩
      rw [← eH6] at s6 hq6 ⊢
      walk_at "rd"
      refine ⟨l, q6, ns, zs, sp, rfl, s6.seq hl, hq6, zz, by omega, fun r H7 s7' nr hr7 => ?_⟩
      have s7 := s6.trans s7'
      obtain ⟨ds, eds⟩ : ∃ ds, ds = drawsF ns sp zs := ⟨_, rfl⟩
      rw [← eds] at hr7
      have dl : ds.length = mn + (m + n) := by rw [eds, drawsF_len, zl]
      have pos : ∀ z, z ∈ zs → 0 < z := fun z hz => (zz z hz).1
      have dlow : ∀ a : Nat, a < mn → ∃ d, ds[a]? = some d ∧ 0 ≤ d ∧ d < 18 * S := fun a ha => by
        rw [eds]
        exact drawsF_get pos (by rw [ezs, List.getElem?_append_left (by rw [List.length_replicate]; exact ha), List.getElem?_replicate, if_pos ha])
      have dhigh : ∀ a : Nat, a < m + n → ∃ d, ds[mn + a]? = some d ∧ 0 ≤ d ∧ d < S := fun a ha => by
        rw [eds]
        exact drawsF_get pos (by rw [ezs, List.getElem?_append_right (by rw [List.length_replicate]; omega), List.length_replicate, List.getElem?_replicate, if_pos (by omega)])
      have dvl : (ds.map V.int).length = mn + (m + n) := by rw [List.length_map, dl]
      walk_at "rd"
      refine r_mulL (by omega) (by omega) ?_
      walk_at "rd"
      refine r_mulL (by omega) (by omega) ?_
      walk_at "rd"
      rw [emn, ← hmn]
      refine ⟨r, ds.map V.int, rfl, SqL.of hr7, fun q8 n8 => ?_⟩
      rw [show ((mn : Int) + (m : Int)) = ((mn + m : Nat) : Int) from rfl, cut_mid (by omega) (by omega)]
      have s8' := Same.up (o := .lst (((ds.map V.int).drop mn).take (mn + m - mn))) (Same.refl H7) n8
      have s8 := s7.trans s8'
      have hr8 := s8' _ _ hr7
      have hq8 : upd H7 q8 (.lst (((ds.map V.int).drop mn).take (mn + m - mn))) q8 = some (.lst (((ds.map V.int).drop mn).take (mn + m - mn))) := upd_same
      obtain ⟨hv, ehv⟩ : ∃ hv, hv = ((ds.map V.int).drop mn).take (mn + m - mn) := ⟨_, rfl⟩
      rw [← ehv] at s8 s8' hr8 hq8 ⊢
      obtain ⟨H8, eH8⟩ : ∃ H8, H8 = upd H7 q8 (.lst hv) := ⟨_, rfl⟩
      rw [← eH8] at s8 s8' hr8 hq8 ⊢
      have hvg : ∀ i : Nat, i < m → ∃ d, hv[i]? = some (.int d) ∧ 0 ≤ d ∧ d < S := fun i hi => by
        obtain ⟨d, e, q⟩ := dhigh i (by omega)
        exact ⟨d, by rw [ehv, List.getElem?_take, if_pos (by omega), List.getElem?_drop, List.getElem?_map, e]; rfl, q⟩
      walk_at "rd"
      refine r_mulL (by omega) (by omega) ?_
      walk_at "rd"
      rw [emn, ← hmn]
      refine ⟨r, ds.map V.int, rfl, SqL.of hr8, fun q9 n9 => ?_⟩
      rw [show ((mn : Int) + (m : Int)) = ((mn + m : Nat) : Int) from rfl, cutDrop (by omega)]
      have s9' := Same.up (o := .lst ((ds.map V.int).drop (mn + m))) (Same.refl H8) n9
      have s9 := s8.trans s9'
      have hr9 := s9' _ _ hr8
      have hq89 := s9' _ _ hq8
      have hq9 : upd H8 q9 (.lst ((ds.map V.int).drop (mn + m))) q9 = some (.lst ((ds.map V.int).drop (mn + m))) := upd_same
      obtain ⟨wv, ewv⟩ : ∃ wv, wv = (ds.map V.int).drop (mn + m) := ⟨_, rfl⟩
      rw [← ewv] at s9 s9' hr9 hq9 hq89 ⊢
      obtain ⟨H9, eH9⟩ : ∃ H9, H9 = upd H8 q9 (.lst wv) := ⟨_, rfl⟩
      rw [← eH9] at s9 s9' hr9 hq9 hq89 ⊢
      have wvg : ∀ j : Nat, j < n → ∃ d, wv[j]? = some (.int d) ∧ 0 ≤ d ∧ d < S := fun j hj => by
        obtain ⟨d, e, q⟩ := dhigh (m + j) (by omega)
        exact ⟨d, by rw [ewv, List.getElem?_drop, List.getElem?_map, Nat.add_assoc, e]; rfl, q⟩
      walk_at "rd"
      refine ⟨Nat.zero_le _, fun L nL => ?_⟩
      have sL := Same.up (o := .lst []) (Same.refl H9) nL
      have hL0 : upd H9 L (.lst []) L = some (.lst []) := upd_same
      obtain ⟨H10, eH10⟩ : ∃ H10, H10 = upd H9 L (.lst []) := ⟨_, rfl⟩
      rw [← eH10] at sL hL0 ⊢
      walk_at "rd"
      refine ⟨(m : Int), rfl, by omega, by omega, for_it walk_range (fun i σ H' => ∃ (es : List V) (R : Rw) (v12 v13 v14 v15 v16 : Option V), σ = [some (.ref l), some (.int (sp : Int)), some (.int (m : Int)), some (.int (n : Int)), some (.int st), some (.int sh), some (.int S), some (.ref q6), some (.ref r), some (.ref q8), some (.ref q9), some (.ref L), v12, v13, v14, v15, v16] ∧ Same H9 H' ∧ GK H9 H' L es R ∧ R.length = i ∧ (∀ r, r ∈ R → r.length = n) ∧ PB R)
        ⟨[], [], _, _, _, _, _, rfl, sL, ⟨hL0, rfl, fun i v e => by simp at e⟩, rfl, (fun r hr => by cases hr), (fun r hr => by cases hr)⟩ (fun _ _ _ _ _ => trivial) ?_ ?_⟩
      · rintro i y σ H20 H11 hi ⟨es, R, v12, v13, v14, v15, v16, rfl, s11, g11, Rl, Rn, Rb⟩ ⟨rfl, rfl⟩
        have hi : i < m := by simpa using hi
        have e0 : (0 : Int) + (i : Int) = (i : Int) := by omega
        simp only [e0]
        walk_at "rd"
        refine ⟨Nat.zero_le _, fun rw0 nr0 => ?_⟩
        have nr9 := s11.free nr0
        have rL : rw0 ≠ L := fun z => by rw [z, g11.at_] at nr0; cases nr0
        have rE : ∀ (j : Nat) (v : V), es[j]? = some v → v ≠ .ref rw0 := fun j v e z => by
          obtain ⟨a', e1, _, _, h⟩ := g11.row j v e
          rw [e1] at z
          cases z
          rw [h] at nr0
          cases nr0
        have sr := Same.up (o := .lst []) (Same.refl H11) nr0
        have g12 := g11.same sr
        have hr12 : upd H11 rw0 (.lst []) rw0 = some (.lst []) := upd_same
        have s12 := s11.trans sr
        obtain ⟨H12, eH12⟩ : ∃ H12, H12 = upd H11 rw0 (.lst []) := ⟨_, rfl⟩
        rw [← eH12] at g12 hr12 s12 ⊢
        have il := g11.len
        walk_at "rd"
        refine ⟨(n : Int), rfl, by omega, by omega, for_it walk_range (fun j σ H' => ∃ (cur : List (Option Int)) (v14 v15 v16 : Option V), σ = [some (.ref l), some (.int (sp : Int)), some (.int (m : Int)), some (.int (n : Int)), some (.int st), some (.int sh), some (.int S), some (.ref q6), some (.ref r), some (.ref q8), some (.ref q9), some (.ref L), some (.int (i : Int)), some (.ref rw0), v14, v15, v16] ∧ Same H9 H' ∧ GK H9 H' L es R ∧ H' rw0 = some (.lst (cur.map pV)) ∧ cur.length = j ∧ ∀ x : Int, some x ∈ cur → -(10 ^ 120) < x ∧ x < 10 ^ 120)
          ⟨[], _, _, _, rfl, s12, g12, hr12, rfl, fun x hx => by cases hx⟩ (fun _ _ _ _ _ => trivial) ?_ ?_⟩
        · rintro j y σ H30 H13 hj ⟨cur, v14, v15, v16, rfl, s13, g13, hc, cl, cb⟩ ⟨rfl, rfl⟩
          have hj : j < n := by simpa using hj
          have e0 : (0 : Int) + (j : Int) = (j : Int) := by omega
          simp only [e0]
          have hij : i * n + j < mn := by
            have h1 : (i + 1) * n ≤ m * n := Nat.mul_le_mul_right n hi
            rw [Nat.succ_mul] at h1
            omega
          have ein : (i : Int) * (n : Int) + (j : Int) = ((i * n + j : Nat) : Int) := by rw [Int.natCast_add, Int.natCast_mul]
          obtain ⟨x, ex, x0, x1⟩ := dlow _ hij
          obtain ⟨hh, eh, hh0, hh1⟩ := hvg i hi
          obtain ⟨ww, ew, ww0, ww1⟩ := wvg j hj
          walk_at "rd"
          refine r_mulL (by omega) (by omega) ?_
          walk_at "rd"
          rw [ein]
          refine r_ixL (SqL.of (s13 _ _ hr9)) (atI_nat (v := .int x) (by rw [List.getElem?_map, ex]; rfl)) ?_
          walk_at "rd"
          refine r_cut (fun σ' H' => ∃ pr : Int, σ' = [some (.ref l), some (.int (sp : Int)), some (.int (m : Int)), some (.int (n : Int)), some (.int st), some (.int sh), some (.int S), some (.ref q6), some (.ref r), some (.ref q8), some (.ref q9), some (.ref L), some (.int (i : Int)), some (.ref rw0), some (.int (j : Int)), some (.int x), some (.int pr)] ∧ H13 = H' ∧ -(10 ^ 120) < pr ∧ pr < 10 ^ 120) ?_ ?_
          · walk_at "rd"
            by_cases c4 : st ≥ 4
            · refine ifT (decide_eq_true c4) ?_
              walk_at "rd"
              refine r_ixL (SqL.of (s13 _ _ hq89)) (atI_nat eh) ?_
              walk_at "rd"
              refine r_ixL (SqL.of (s13 _ _ hq9)) (atI_nat ew) ?_
              walk_at "rd"
              refine r_ixL (SqL.of (s13 _ _ hq89)) (atI_nat eh) ?_
              walk_at "rd"
              refine r_ixL (SqL.of (s13 _ _ hq9)) (atI_nat ew) ?_
              refine r_I (show hh.natAbs.log2 + ww.natAbs.log2 < 1000000 from ?_) ?_
              · have a1 := log_lt (n := hh) (k := 250) (by omega) (by decide)
                have a2 := log_lt (n := ww) (k := 250) (by omega) (by decide)
                omega
              walk_at "rd"
              exact ⟨_, rfl, rfl, grid_big Sl hh0 hh1 ww0 ww1⟩
            · refine ifF (decide_eq_false c4) ?_
              exact ⟨_, rfl, rfl, by omega, by omega⟩
          · rintro σ' H14 ⟨pr, rfl, rfl, pr0, pr1⟩
            walk_at "rd"
            refine r_cut (fun σ' H' => ∃ z : Option Int, σ' = [some (.ref l), some (.int (sp : Int)), some (.int (m : Int)), some (.int (n : Int)), some (.int st), some (.int sh), some (.int S), some (.ref q6), some (.ref r), some (.ref q8), some (.ref q9), some (.ref L), some (.int (i : Int)), some (.ref rw0), some (.int (j : Int)), some (.int x), some (pV z)] ∧ H13 = H' ∧ ∀ y : Int, z = some y → -(10 ^ 120) < y ∧ y < 10 ^ 120) ?_ ?_
            · walk_at "rd"
              have keep : ∀ y : Int, some pr = some y → -(10 ^ 120) < y ∧ y < 10 ^ 120 := fun y e => by cases e; exact ⟨pr0, pr1⟩
              by_cases cs : sh > 0
              · refine ifT (decide_eq_true cs) ?_
                walk_at "rd"
                refine ⟨_, _, rfl, ?_⟩
                refine r_mod (by split <;> omega) ?_
                walk_at "rd"
                refine r_eq rfl ?_
                walk_at "rd"
                refine ite_dec (fun _ => ?_) (fun _ => ?_)
                · walk_at "rd"
                  exact ⟨none, rfl, rfl, fun y e => by cases e⟩
                · exact ⟨some pr, rfl, rfl, keep⟩
              · refine ifF (decide_eq_false cs) ?_
                exact ⟨some pr, rfl, rfl, keep⟩
            · rintro σ' H15 ⟨z, rfl, rfl, zb⟩
              walk_at "rd"
              refine r_bm ?_
              walk_at "rd"
              refine ⟨.inl ⟨rfl, _, SqL.of hc⟩, ?_⟩
              walk_at "rd"
              refine ⟨rw0, _, _, rfl, rfl, hc, by rw [List.length_map, cl]; exact Nat.lt_of_lt_of_le (show j < 9 by omega) (by decide), ?_⟩
              refine ⟨cur ++ [z], some (.int (j : Int)), some (.int x), some (pV z), rfl, fun c o e => ?_, g13.put (Ne.symm rL) rE, by rw [upd_same, List.map_append]; rfl, by rw [List.length_append, cl]; rfl, fun y hy => ?_⟩
              · rw [upd_ne (fun z => by rw [z, nr9] at e; cases e)]
                exact s13 _ _ e
              · rcases List.mem_append.mp hy with h | h
                · exact cb y h
                · rw [List.mem_singleton] at h
                  exact zb y h.symm
        · rintro σ H13 ⟨cur, v14, v15, v16, rfl, s13, g13, hc, cl, cb⟩
          have cl : cur.length = n := by rw [cl]; omega
          walk_at "rd"
          refine r_bm ?_
          walk_at "rd"
          refine ⟨.inl ⟨rfl, _, SqL.of g13.at_⟩, ?_⟩
          walk_at "rd"
          refine ⟨L, _, _, rfl, rfl, g13.at_, by rw [g13.len, Rl]; exact Nat.lt_of_lt_of_le (show i < 9 by omega) (by decide), ?_⟩
          refine ⟨es ++ [.ref rw0], R ++ [cur], some (.int (i : Int)), some (.ref rw0), v14, v15, v16, rfl, fun c o e => ?_, g13.more rL nr9 hc, by rw [List.length_append, Rl]; rfl, fun r hr => ?_, fun r hr => ?_⟩
          · rw [upd_ne (fun z => by rw [z, nL] at e; cases e)]
            exact s13 _ _ e
          · rcases List.mem_append.mp hr with h | h
            · exact Rn r h
            · rw [List.mem_singleton] at h
              rw [h, cl]
          · rcases List.mem_append.mp hr with h | h
            · exact Rb r h
            · rw [List.mem_singleton] at h
              rw [h]
              exact cb
      · rintro σ H11 ⟨es, R, v12, v13, v14, v15, v16, rfl, s11, g11, Rl, Rn, Rb⟩
        have Rl : R.length = m := by rw [Rl]; omega
        walk_at "rd"
        have wR : wd R = n := by
          cases R with
          | nil => rw [List.length_nil] at Rl; omega
          | cons r R => exact Rn r List.mem_cons_self
        exact kk L es R H11 (s9.trans s11) ⟨g11.at_, g11.len, fun i v e => by
          obtain ⟨a, e1, n1, n2, h⟩ := g11.row i v e
          exact ⟨a, e1, n1, s9.free n2, h⟩⟩ (s9.free nL) ⟨by omega, by omega, by omega, by omega, fun r hr => by rw [wR]; exact Rn r hr⟩ Rl wR Rb
end
end Pk
set_option Elab.async false
set_option linter.all false
set_option maxRecDepth 100000
set_option maxHeartbeats 4000000
namespace Pk
open PySem L2
local macro_rules | `(tactic| walk_at "rd") => `(tactic| repeat (first
  | with_reducible refine r_seq ?_ | with_reducible refine r_nxt ?_ | with_reducible refine r_asg ?_ | with_reducible refine r_to ?_ | with_reducible refine r_ret ?_ | with_reducible refine r_for ?_ | with_reducible refine r_lc ?_ | with_reducible refine r_lc2 ?_ | with_reducible refine r_rng1 ?_ | with_reducible refine r_list ?_ | with_reducible refine r_tupI ?_ | with_reducible refine r_drop ?_ | with_reducible refine r_ifs ?_
  | with_reducible refine r_op ?_ | with_reducible refine r_c ?_ | with_reducible refine r_var rfl ?_ | with_reducible refine r_var (by assumption) ?_ | with_reducible refine r_I0 ?_ | with_reducible refine r_un ?_ | with_reducible refine r_U ?_ | with_reducible refine r_make ?_ | with_reducible refine r_makeS ?_ | with_reducible refine r_ifE ?_ | with_reducible refine r_cm ?_ | with_reducible refine r_mkV rfl ?_ | with_reducible refine r_sub ?_
  | with_reducible refine r_nil ?_ | with_reducible refine r_cons ?_ | with_reducible refine r_cb ?_ | with_reducible refine r_sl ?_ | with_reducible refine r_noP ?_ | with_reducible refine r_part ?_ | with_reducible refine r_isI ?_ | with_reducible refine r_lst ?_ | with_reducible refine r_tup ?_ | with_reducible refine r_call ?_ | with_reducible refine r_callS ?_ | with_reducible refine r_sFldU ?_ | with_reducible refine r_chain ?_ | with_reducible refine r_enum ?_ | with_reducible refine r_zip ?_ | with_reducible refine r_rng3 ?_ | with_reducible refine r_gtup ?_ | with_reducible refine r_methU ?_
  | with_reducible refine r_test ?_ | with_reducible refine r_B ?_ | with_reducible refine r_and ?_ | with_reducible refine r_or ?_ | with_reducible refine r_not ?_ | with_reducible refine r_andV ?_ | with_reducible refine r_orV ?_ | with_reducible refine r_notV ?_ | with_reducible refine r_bl ?_ | with_reducible refine r_yes ?_ | with_reducible refine r_int ?_ | with_reducible refine r_is0 ?_ | with_reducible refine r_is1 ?_ | with_reducible refine iteT ?_ | with_reducible refine iteF ?_ | with_reducible refine ite_nF ?_ | with_reducible refine ite_nT ?_
  | with_reducible refine r_mod (by decide) ?_ | with_reducible refine r_div (by decide) (by decide) ?_ | with_reducible refine r_mulR (by decide) (by decide) ?_ | with_reducible refine r_mulL (by decide) (by decide) ?_ | with_reducible refine r_pow (by decide) (by decide) (by decide) ?_))
/-! ### rows copied, their pairs -/
abbrev slLCpy : Stmt := top 39
section
variable {P : Program} {w : World} {K : PySem.W.Frag} {mg : Str → Option Value} {base : Heap} {C CE f : Addr} {fd : FuncData}
theorem sclLCpy : FnScope ["_law_grid_here", "_law_row"] ["_law_grid_here"] (defScope slLCpy) := ⟨rfl, rfl, rfl, by decide +kernel, rfl, by decide +kernel, by decide +kernel⟩
theorem ok_lCpy (F : Fun K "_law_copy" "_law_copy" slLCpy f fd) (T : Bt mg) : FnOk P w K mg base CX0 1 f fd ["_law_grid_here"] (spLCpy K) := by
  refine F.ok sclLCpy (fun vs H Q E h => ?_) (fun cdv A' outer s H vs Q E hr h => ?_)
  · obtain ⟨a, es, R, rfl, _⟩ := h
    rfl
  · obtain ⟨a, es, R, rfl, hl, g8, k⟩ := h
    refine ⟨_, (pss_one (ps_ret (pe_lc (own := [("_law_row", 1)]) (g := gName 1) rfl sclLCpy.nd (pi_list (pv 0)) (blkOk_by (own := [("_law_row", 1)]) (N := ["_law_grid_here", "_law_row"]) (sc := defScope slLCpy) (by decide +kernel)) (fun _ _ _ _ _ => pg_name (i := 1) sclLCpy.nd rfl (Or.inl rfl)) (fun _ _ _ _ _ => pts_nil) (fun _ _ _ _ _ => (pe_callTy (T := "list") (r := rLstOf K) cl_lst (by rfl) T.list (by decide +kernel) (pa_cons (pv 1) pa_nil)))))), ?_⟩
    walk_at "rd"
    refine ⟨a, rfl, ⟨_, hl.at_⟩, fun D nD => lc_it walk_list (fun i H' => Same H H' ∧ ∃ es, H' D = some (.lst es) ∧ es.length = i ∧ ∀ j v, es[j]? = some v → ∃ c, v = .ref c ∧ c ≠ D ∧ H c = none ∧ H' c = some (.lst ((R.getD j []).map pV))) ⟨Same.up (Same.refl H) nD, [], upd_same, rfl, fun j v e => by simp at e⟩ (fun i H2 _ z => z.1.seq hl.at_) ?_ ?_⟩
    · rintro i y H2 H3 hi ⟨s2, fs, hD, fl, fr⟩ ⟨rfl, e1⟩
      have hi' : i < R.length := by rw [← hl.len]; exact hi
      obtain ⟨b, rfl, hb⟩ := hl.row i y e1
      walk_at "rd"
      refine ⟨rfl, ?_⟩
      walk_at "rd"
      refine r_lstOf (s2.seq hb) fun c nc => ?_
      exact ⟨fs, later hD nc, by rw [fl]; exact Nat.lt_of_lt_of_le (show i < 9 by omega) (by decide), rl_more nD s2 hD fl fr nc⟩
    · rintro H2 ⟨s2, fs, hD, fl, fr⟩
      rw [hl.len] at fl
      exact k D fs H2 s2 nD ⟨hD, fl, fun i v e => by
        obtain ⟨c, e1, n1, n2, n3⟩ := fr i v e
        exact ⟨c, e1, n3⟩⟩ (fun i c e => by
        obtain ⟨c', e1, n1, n2, n3⟩ := fr i _ e
        cases e1
        exact ⟨n2, n1⟩)
end
end Pk
set_option Elab.async false
set_option linter.all false
set_option maxRecDepth 100000
set_option maxHeartbeats 1000000
/-! o[i] op= e, o a list -/
namespace Pk
open PySem L2
section
variable {X : Cx}
theorem gt_list : PGet X (rIxL X.K) := by
  intro pn sh τ G x y v u Q J rx ry want
  obtain ⟨p, xs, i, z, rfl, rfl, hq, he, q⟩ := want
  cases rx
  obtain ⟨t, rfl⟩ := ry
  obtain ⟨its, r, pl, hz⟩ := J.list hq
  obtain ⟨j, h1, h2, h3, h4, h5⟩ := atI_get he
  obtain ⟨w, ew, rw'⟩ := r.get h2
  have hl := r.length
  have hn := line63
  have fin : EP X pn τ Q w sh := ⟨z, G, J, rw', q⟩
  by_cases h0 : 0 ≤ i
  · have hj : i.toNat = j := by
      rw [seqIndex_of h0 h5] at h1
      exact Option.some.inj h1
    exact wpAny_getItem_list pl.isList h0 (by omega) (by rw [hj]; simpa using ew) fin
  · have hj : (i + (its.toArray.size : Int)).toNat = j := by
      rw [seqIndex_neg (by omega) h4] at h1
      rw [List.size_toArray, ← hl]
      exact Option.some.inj h1
    exact wpAny_getItem_list_neg pl.isList (by omega) (by rw [List.size_toArray] <;> omega) (by omega) (by rw [hj]; simpa using ew) fin
end
theorem r_augS {to ti te : TE} {tget : V → V → Hp → VK → Prop} {tip : TIp} {tset : TSet} {D : Ends} {σ : L2.St} {H : Hp} (h : to σ H fun o H1 => ti σ H1 fun i H2 => tget o i H2 fun x H3 => te σ H3 fun y H4 => tip x y H4 fun z H5 => tset o i z H5 fun H6 => D.nx σ H6) : tAugS to ti te tget tip tset D σ H := h
theorem r_ipI {f : Int → Int → Int} {a b : Int} {H : Hp} {Q : VK} (h : Q (.int (f a b)) H) : ipI f (.int a) (.int b) H Q := ⟨a, b, rfl, rfl, h⟩
end Pk
set_option Elab.async false
set_option linter.all false
set_option maxRecDepth 100000
set_option maxHeartbeats 4000000
namespace Pk
open PySem L2
local macro_rules | `(tactic| walk_at "rd") => `(tactic| repeat (first
  | with_reducible refine r_seq ?_ | with_reducible refine r_nxt ?_ | with_reducible refine r_asg ?_ | with_reducible refine r_to ?_ | with_reducible refine r_ret ?_ | with_reducible refine r_for ?_ | with_reducible refine r_lc ?_ | with_reducible refine r_lc2 ?_ | with_reducible refine r_rng1 ?_ | with_reducible refine r_list ?_ | with_reducible refine r_tupI ?_ | with_reducible refine r_drop ?_ | with_reducible refine r_ifs ?_
  | with_reducible refine r_op ?_ | with_reducible refine r_c ?_ | with_reducible refine r_var rfl ?_ | with_reducible refine r_var (by assumption) ?_ | with_reducible refine r_I0 ?_ | with_reducible refine r_un ?_ | with_reducible refine r_U ?_ | with_reducible refine r_make ?_ | with_reducible refine r_makeS ?_ | with_reducible refine r_ifE ?_ | with_reducible refine r_cm ?_ | with_reducible refine r_mkV rfl ?_ | with_reducible refine r_sub ?_
  | with_reducible refine r_nil ?_ | with_reducible refine r_cons ?_ | with_reducible refine r_cb ?_ | with_reducible refine r_sl ?_ | with_reducible refine r_noP ?_ | with_reducible refine r_part ?_ | with_reducible refine r_isI ?_ | with_reducible refine r_lst ?_ | with_reducible refine r_tup ?_ | with_reducible refine r_call ?_ | with_reducible refine r_callS ?_ | with_reducible refine r_sFldU ?_ | with_reducible refine r_chain ?_ | with_reducible refine r_enum ?_ | with_reducible refine r_zip ?_ | with_reducible refine r_rng3 ?_ | with_reducible refine r_gtup ?_ | with_reducible refine r_methU ?_
  | with_reducible refine r_test ?_ | with_reducible refine r_B ?_ | with_reducible refine r_and ?_ | with_reducible refine r_or ?_ | with_reducible refine r_not ?_ | with_reducible refine r_andV ?_ | with_reducible refine r_orV ?_ | with_reducible refine r_notV ?_ | with_reducible refine r_bl ?_ | with_reducible refine r_yes ?_ | with_reducible refine r_int ?_ | with_reducible refine r_is0 ?_ | with_reducible refine r_is1 ?_ | with_reducible refine iteT ?_ | with_reducible refine iteF ?_ | with_reducible refine ite_nF ?_ | with_reducible refine ite_nT ?_
  | with_reducible refine r_mod (by decide) ?_ | with_reducible refine r_div (by decide) (by decide) ?_ | with_reducible refine r_mulR (by decide) (by decide) ?_ | with_reducible refine r_mulL (by decide) (by decide) ?_ | with_reducible refine r_pow (by decide) (by decide) (by decide) ?_))
/-! ### _law_amounts -/
theorem ifs_cutA {c : TT} {a b : TS} {D : Ends} {σ : L2.St} {H : Hp} (Pv : L2.St → Hp → Prop) (h1 : ∀ N : L2.St → Hp → Prop, (∀ σ' H', Pv σ' H' → N σ' H') → tIfS c a b { D with nx := N } σ H) (h2 : ∀ σ' H', Pv σ' H' → D.nx σ' H') : tIfS c a b D σ H := h1 D.nx h2
theorem rep1_flat {α : Type} (n : Nat) (a : α) : (List.replicate n [a]).flatten = List.replicate n a := by
  induction n with
  | zero => rfl
  | succ n ih => rw [List.replicate_succ, List.flatten_cons, ih]; rfl
theorem cutI_take {xs : List Int} {i : Nat} (h : i ≤ xs.length) : cutV (xs.map V.int) none (some (i : Int)) = (xs.take i).map V.int := by
  unfold cutV
  rw [HT.sIx_nat, List.length_map, Nat.min_eq_left h]
  show List.take (i - 0) ((xs.map V.int).drop 0) = _
  rw [Nat.sub_zero, List.drop_zero, List.map_take]
theorem cutI_drop {xs : List Int} {i : Nat} (h : i ≤ xs.length) : cutV (xs.map V.int) (some (i : Int)) none = (xs.drop i).map V.int := by
  unfold cutV
  rw [HT.sIx_nat, List.length_map, Nat.min_eq_left h]
  show List.take (xs.length - i) ((xs.map V.int).drop i) = _
  rw [List.take_of_length_le (by rw [List.length_drop, List.length_map]; exact Nat.le_refl _), List.map_drop]
def spAmts (K : PySem.W.Frag) : Sp := fun vs H Q _ => ∃ (l : Addr) (sc : List Int) (sp m n many : Nat) (lev : Bool), vs = [.ref l, .int (sp : Int), .int (m : Int), .int (n : Int), .int (many : Int), .bl lev] ∧ SqL K H l (sc.map V.int) ∧ 0 < m ∧ m ≤ 8 ∧ 0 < n ∧ n ≤ 8 ∧ many < 4 ∧
  ∀ (t a b : Addr) (ms ns : List Int) (H' : Hp), Same H H' → ms.length = m → ns.length = n → (∀ x, x ∈ ms → 0 ≤ x) → (∀ x, x ∈ ns → 0 ≤ x) → H t = none → H a = none → H b = none → a ≠ b → t ≠ a → t ≠ b → H' t = some (.tup [.ref a, .ref b]) → H' a = some (.lst (ms.map V.int)) → H' b = some (.lst (ns.map V.int)) → Q (.ref t) H'
abbrev nmAmts : List Str := ["_law_script", "_law_spot", "_law_m", "_law_n", "_law_many", "_law_level", "_law_size", "_law_drawn", "_law_over"]
abbrev slAmts : Stmt := top 40
section
variable {P : Program} {w : World} {K : PySem.W.Frag} {mg : Str → Option Value} {base : Heap} {f : Addr} {fd : FuncData}
theorem sclAmts : FnScope nmAmts ["_law_script", "_law_spot", "_law_m", "_law_n", "_law_many", "_law_level"] (defScope slAmts) := ⟨rfl, rfl, rfl, by decide +kernel, rfl, by decide +kernel, by decide +kernel⟩
theorem ok_amts (F : Fun K "_law_amounts" "_law_amounts" slAmts f fd) (T : Bt mg) (tsum : mg "sum" = none) (DD : Df P w K mg base CX0 "_law_draws" 2 ["_law_script", "_law_spot", "_law_sizes"] (spDraws K)) : FnOk P w K mg base CX0 3 f fd ["_law_script", "_law_spot", "_law_m", "_law_n", "_law_many", "_law_level"] (spAmts K) := by
  refine F.ok sclAmts (fun vs H Q E h => ?_) (fun cdv A' outer s H vs Q E hr h => ?_)
  · obtain ⟨l, sc, sp, m, n, many, lev, rfl, _⟩ := h
    rfl
  · obtain ⟨l, sc, sp, m, n, many, lev, rfl, hl, m0, m8, n0, n8, my, k⟩ := h
    refine ⟨_, (pss_cons (ps_set (i := 6) sclAmts.nd rfl (Or.inl rfl) (pe_ix ix_list (pe_lst (pa_cons pe_int (pa_cons pe_int (pa_cons pe_int (pa_cons (pe_op op_pow pe_int pe_int) pa_nil))))) (pv 4) (fun _ _ => rfl)))
  (pss_cons (ps_set (i := 7) sclAmts.nd rfl (Or.inl rfl) (pe_df DD hr (by decide) (pa_cons (pv 0) (pa_cons (pv 1) (pa_cons (pe_op op_rep (pe_lst (pa_cons (pv 6) pa_nil)) (pe_op op_add (pv 2) (pv 3))) pa_nil)))))
  (pss_cons (ps_if (pt_val (pv 5)) (pss_cons (ps_set (i := 8) sclAmts.nd rfl (Or.inl rfl) (pe_op op_sub (pe_callB (cr_sum rfl) (by rfl) T.sum (by decide +kernel) (pa_cons (pe_slice sl_list (pv 7) po_none (po_some (pv 2))) pa_nil)) (pe_callB (cr_sum rfl) (by rfl) T.sum (by decide +kernel) (pa_cons (pe_slice sl_list (pv 7) (po_some (pv 2)) po_none) pa_nil))))
    (pss_one (ps_if (pt_cmpR op_gt (pv 8) pe_int (nomark _)) (pss_one (ps_augS (pv 7) (pe_op op_sub (pe_op op_add (pv 2) (pv 3)) pe_int) gt_list (pv 8) ip_add set_list)) (pss_one (ps_augS (pv 7) pe_int gt_list (pv 8) ip_sub set_list))))) pss_nil)
  (pss_one (ps_ret (pe_tup (pa_cons (pe_slice sl_list (pv 7) po_none (po_some (pv 2))) (pa_cons (pe_slice sl_list (pv 7) (po_some (pv 2)) po_none) pa_nil)))))))), ?_⟩
    walk_at "rd"
    obtain ⟨B, eB⟩ : ∃ B : Int, B = 10 ^ (58 : Int).toNat := ⟨_, rfl⟩
    rw [← eB]
    refine ⟨by show 4 ≤ sizeLine; decide, fun l5 nl5 => ?_⟩
    have s5 := Same.up (o := .lst [V.int 2, V.int 4, V.int 1000, V.int B]) (Same.refl H) nl5
    have hl5 : upd H l5 (.lst [V.int 2, V.int 4, V.int 1000, V.int B]) l5 = some (.lst [V.int 2, V.int 4, V.int 1000, V.int B]) := upd_same
    generalize upd H l5 (.lst [V.int 2, V.int 4, V.int 1000, V.int B]) = H5 at s5 hl5 ⊢
    walk_at "rd"
    obtain ⟨z, hz, ez⟩ : ∃ z : Int, Szd z ∧ [V.int 2, V.int 4, V.int 1000, V.int B][many]? = some (.int z) := by
      match many, my with
      | 0, _ => exact ⟨2, szd (by decide) (by decide), rfl⟩
      | 1, _ => exact ⟨4, szd (by decide) (by decide), rfl⟩
      | 2, _ => exact ⟨1000, szd (by decide) (by decide), rfl⟩
      | 3, _ => exact ⟨B, by rw [eB]; exact szd (by decide +kernel) (by decide +kernel), rfl⟩
    refine r_ixL (SqL.of hl5) (atI_nat ez) ?_
    walk_at "rd"
    refine ⟨by show 1 ≤ sizeLine; decide, fun l6 nl6 => ?_⟩
    have s6 := Same.up (o := .lst [V.int z]) (Same.refl H5) nl6
    have hl6 : upd H5 l6 (.lst [V.int z]) l6 = some (.lst [V.int z]) := upd_same
    generalize upd H5 l6 (.lst [V.int z]) = H6 at s6 hl6 ⊢
    walk_at "rd"
    refine ⟨l6, (m : Int) + (n : Int), [V.int z], rfl, rfl, hl6, by omega, by omega, by show 1 * _ ≤ sizeLine; exact Nat.le_trans (show _ ≤ 16 from by omega) (by decide), fun l7 nl7 => ?_⟩
    rw [rep1_flat]
    have s7 := Same.up (o := .lst (List.replicate ((m : Int) + (n : Int)).toNat (V.int z))) (Same.refl H6) nl7
    have hl7 : upd H6 l7 (.lst (List.replicate ((m : Int) + (n : Int)).toNat (V.int z))) l7 = some (.lst ((List.replicate (m + n) z).map V.int)) := by
      rw [upd_same, List.map_replicate, show ((m : Int) + (n : Int)).toNat = m + n by omega]
    generalize upd H6 l7 _ = H7 at s7 hl7 ⊢
    have s07 := s5.trans (s6.trans s7)
    walk_at "rd"
    refine ⟨l, l7, sc, List.replicate (m + n) z, sp, rfl, s07.seq hl, hl7, fun y hy => by rw [List.eq_of_mem_replicate hy]; exact hz, by rw [List.length_replicate]; omega, fun r8 H8 s8 nr8 hr8 => ?_⟩
    obtain ⟨dr, edr⟩ : ∃ dr, dr = drawsF sc sp (List.replicate (m + n) z) := ⟨_, rfl⟩
    have dl : dr.length = m + n := by rw [edr, drawsF_len, List.length_replicate]
    have dn : ∀ d, d ∈ dr → 0 ≤ d := fun d hd => by
      obtain ⟨i, hi, e⟩ := List.mem_iff_getElem.mp hd
      have pos : ∀ y, y ∈ List.replicate (m + n) z → 0 < y := fun y hy => by rw [List.eq_of_mem_replicate hy]; exact hz.1
      obtain ⟨d', e1, e2, _⟩ := drawsF_get (ns := sc) (sp := sp) pos (i := i) (z := z) (by rw [List.getElem?_replicate, if_pos (by omega)])
      rw [← edr, List.getElem?_eq_getElem hi, e] at e1
      cases e1
      exact e2
    rw [← edr] at hr8
    clear edr
    have s08 := s07.trans s8
    have nH8 : H r8 = none := s07.free nr8
    clear s8 s7 s6 s5 hl7 hl6 hl5 nl5 nl6 nl7 nr8
    have upd_nn : ∀ (i : Nat) (v : Int), 0 ≤ v → ∀ d, d ∈ dr.set i v → 0 ≤ d := fun i v hv d hd => by
      rcases List.mem_or_eq_of_mem_set hd with h | h
      · exact dn d h
      · rw [h]; exact hv
    refine r_to ?_
    dsimp only
    with_reducible refine r_seq ?_
    refine ifs_cutA (fun σ' H' => ∃ (v8 : Option V) (xs : List Int), σ' = [some (.ref l), some (.int (sp : Int)), some (.int (m : Int)), some (.int (n : Int)), some (.int (many : Int)), some (.bl lev), some (.int z), some (.ref r8), v8] ∧ Same H H' ∧ H' r8 = some (.lst (xs.map V.int)) ∧ xs.length = m + n ∧ ∀ x, x ∈ xs → 0 ≤ x) (fun N hN => ?_) ?_
    · cases lev with
      | false =>
        walk_at "rd"
        exact hN _ _ ⟨_, dr, rfl, s08, hr8, dl, dn⟩
      | true =>
        walk_at "rd"
        refine ⟨r8, _, rfl, SqL.of hr8, fun q1 n1 => ?_⟩
        rw [cutI_take (by omega)]
        have t1 := Same.up (o := .lst ((dr.take m).map V.int)) (Same.refl H8) n1
        have hq1 : upd H8 q1 (.lst ((dr.take m).map V.int)) q1 = some (.lst ((dr.take m).map V.int)) := upd_same
        generalize upd H8 q1 (.lst ((dr.take m).map V.int)) = H9 at t1 hq1 ⊢
        walk_at "rd"
        refine r_sum (SqL.of hq1) ?_
        walk_at "rd"
        refine ⟨r8, _, rfl, SqL.of (t1 _ _ hr8), fun q2 n2 => ?_⟩
        rw [cutI_drop (by omega)]
        have t2 := Same.up (o := .lst ((dr.drop m).map V.int)) (Same.refl H9) n2
        have hq2 : upd H9 q2 (.lst ((dr.drop m).map V.int)) q2 = some (.lst ((dr.drop m).map V.int)) := upd_same
        generalize upd H9 q2 (.lst ((dr.drop m).map V.int)) = H10 at t2 hq2 ⊢
        walk_at "rd"
        refine r_sum (SqL.of hq2) ?_
        walk_at "rd"
        have hr10 := t2 _ _ (t1 _ _ hr8)
        have s010 := s08.trans (t1.trans t2)
        obtain ⟨ov, eov⟩ : ∃ ov, ov = (dr.take m).sum - (dr.drop m).sum := ⟨_, rfl⟩
        rw [← eov]
        by_cases c : 0 < ov
        · refine ifT (decide_eq_true c) ?_
          refine r_augS ?_
          walk_at "rd"
          have e1 : (m : Int) + (n : Int) - 1 = ((m + n - 1 : Nat) : Int) := by omega
          rw [e1]
          have at1 : (dr.map V.int)[m + n - 1]? = some (V.int (dr.getD (m + n - 1) 0)) := by
            rw [List.getElem?_map, List.getD_eq_getElem?_getD, List.getElem?_eq_getElem (by omega)]; rfl
          refine r_ixL (SqL.of hr10) (atI_nat at1) ?_
          walk_at "rd"
          refine r_ipI ?_
          refine r_setL hr10 (ixN_nat (by rw [List.length_map]; omega)) ?_
          refine hN _ _ ⟨_, dr.set (m + n - 1) (dr.getD (m + n - 1) 0 + ov), rfl, Same.upOff s010 nH8, by rw [upd_same, List.map_set], by rw [List.length_set]; exact dl, upd_nn _ _ ?_⟩
          have : 0 ≤ dr.getD (m + n - 1) 0 := by
            rw [List.getD_eq_getElem?_getD, List.getElem?_eq_getElem (show m + n - 1 < dr.length by omega)]
            exact dn _ (List.getElem_mem _)
          omega
        · refine ifF (decide_eq_false c) ?_
          refine r_augS ?_
          walk_at "rd"
          have at1 : (dr.map V.int)[0]? = some (V.int (dr.getD 0 0)) := by
            rw [List.getElem?_map, List.getD_eq_getElem?_getD, List.getElem?_eq_getElem (by omega)]; rfl
          refine r_ixL (SqL.of hr10) (atI_nat (j := 0) at1) ?_
          walk_at "rd"
          refine r_ipI ?_
          refine r_setL hr10 (ixN_nat (j := 0) (by rw [List.length_map]; omega)) ?_
          refine hN _ _ ⟨_, dr.set 0 (dr.getD 0 0 - ov), rfl, Same.upOff s010 nH8, by rw [upd_same, List.map_set], by rw [List.length_set]; exact dl, upd_nn _ _ ?_⟩
          have : 0 ≤ dr.getD 0 0 := by
            rw [List.getD_eq_getElem?_getD, List.getElem?_eq_getElem (show 0 < dr.length by omega)]
            exact dn _ (List.getElem_mem _)
          omega
    · rintro σ' H9 ⟨v8, xs, rfl, s9, hr9, xl, xn⟩
      walk_at "rd"
      refine ⟨r8, _, rfl, SqL.of hr9, fun q1 n1 => ?_⟩
      rw [cutI_take (by omega)]
      have t1 := Same.up (o := .lst ((xs.take m).map V.int)) (Same.refl H9) n1
      have hq1 : upd H9 q1 (.lst ((xs.take m).map V.int)) q1 = some (.lst ((xs.take m).map V.int)) := upd_same
      generalize upd H9 q1 (.lst ((xs.take m).map V.int)) = H10 at t1 hq1 ⊢
      walk_at "rd"
      refine ⟨r8, _, rfl, SqL.of (t1 _ _ hr9), fun q2 n2 => ?_⟩
      rw [cutI_drop (by omega)]
      have t2 := Same.up (o := .lst ((xs.drop m).map V.int)) (Same.refl H10) n2
      have hq2 : upd H10 q2 (.lst ((xs.drop m).map V.int)) q2 = some (.lst ((xs.drop m).map V.int)) := upd_same
      generalize upd H10 q2 (.lst ((xs.drop m).map V.int)) = H11 at t2 hq2 ⊢
      walk_at "rd"
      refine ⟨by show 2 ≤ sizeLine; decide, fun t nt => ?_⟩
      have s3 := Same.up (o := .tup [V.ref q1, V.ref q2]) (Same.refl H11) nt
      have h1 := t2 _ _ hq1
      refine k t q1 q2 (xs.take m) (xs.drop m) _ (s9.trans (t1.trans (t2.trans s3))) (by rw [List.length_take]; omega) (by rw [List.length_drop]; omega) (fun x hx => xn x (List.mem_of_mem_take hx)) (fun x hx => xn x (List.mem_of_mem_drop hx)) ((s9.trans (t1.trans t2)).free nt) (s9.free n1) ((s9.trans t1).free n2) ?_ ?_ ?_ upd_same (s3 _ _ h1) (s3 _ _ hq2)
      · exact fun z => by rw [← z, hq1] at n2; cases n2
      · exact fun z => by rw [z, h1] at nt; cases nt
      · exact fun z => by rw [z, hq2] at nt; cases nt
end
end Pk
set_option Elab.async false
set_option linter.all false
set_option maxRecDepth 100000
set_option maxHeartbeats 4000000
namespace Pk
open PySem L2
local macro_rules | `(tactic| walk_at "rd") => `(tactic| repeat (first
  | with_reducible refine r_seq ?_ | with_reducible refine r_nxt ?_ | with_reducible refine r_asg ?_ | with_reducible refine r_to ?_ | with_reducible refine r_ret ?_ | with_reducible refine r_for ?_ | with_reducible refine r_lc ?_ | with_reducible refine r_lc2 ?_ | with_reducible refine r_rng1 ?_ | with_reducible refine r_list ?_ | with_reducible refine r_tupI ?_ | with_reducible refine r_drop ?_ | with_reducible refine r_ifs ?_
  | with_reducible refine r_op ?_ | with_reducible refine r_c ?_ | with_reducible refine r_var rfl ?_ | with_reducible refine r_var (by assumption) ?_ | with_reducible refine r_I0 ?_ | with_reducible refine r_un ?_ | with_reducible refine r_U ?_ | with_reducible refine r_make ?_ | with_reducible refine r_makeS ?_ | with_reducible refine r_ifE ?_ | with_reducible refine r_cm ?_ | with_reducible refine r_mkV rfl ?_ | with_reducible refine r_sub ?_
  | with_reducible refine r_nil ?_ | with_reducible refine r_cons ?_ | with_reducible refine r_cb ?_ | with_reducible refine r_sl ?_ | with_reducible refine r_noP ?_ | with_reducible refine r_part ?_ | with_reducible refine r_isI ?_ | with_reducible refine r_lst ?_ | with_reducible refine r_tup ?_ | with_reducible refine r_call ?_ | with_reducible refine r_callS ?_ | with_reducible refine r_sFldU ?_ | with_reducible refine r_chain ?_ | with_reducible refine r_enum ?_ | with_reducible refine r_zip ?_ | with_reducible refine r_rng3 ?_ | with_reducible refine r_gtup ?_ | with_reducible refine r_methU ?_
  | with_reducible refine r_test ?_ | with_reducible refine r_B ?_ | with_reducible refine r_and ?_ | with_reducible refine r_or ?_ | with_reducible refine r_not ?_ | with_reducible refine r_andV ?_ | with_reducible refine r_orV ?_ | with_reducible refine r_notV ?_ | with_reducible refine r_bl ?_ | with_reducible refine r_yes ?_ | with_reducible refine r_int ?_ | with_reducible refine r_is0 ?_ | with_reducible refine r_is1 ?_ | with_reducible refine iteT ?_ | with_reducible refine iteF ?_ | with_reducible refine ite_nF ?_ | with_reducible refine ite_nT ?_
  | with_reducible refine r_mod (by decide) ?_ | with_reducible refine r_div (by decide) (by decide) ?_ | with_reducible refine r_mulR (by decide) (by decide) ?_ | with_reducible refine r_mulL (by decide) (by decide) ?_ | with_reducible refine r_pow (by decide) (by decide) (by decide) ?_))
/-! ### class Amounts, whatever is handed in -/
/-- the amounts at x: their dict at dx, their two lists at p and q -/
structure AmX (C : Addr) (H : Hp) (x dx p q : Addr) (ms ns : List Int) : Prop where
  o : H x = some (.ins C dx [("held", .ref p), ("wished", .ref q)])
  h : H p = some (.lst (ms.map V.int))
  w : H q = some (.lst (ns.map V.int))
theorem AmX.same {C : Addr} {H H' : Hp} {x dx p q : Addr} {ms ns : List Int} (a : AmX C H x dx p q ms ns) (s : Same H H') : AmX C H' x dx p q ms ns := ⟨s _ _ a.o, s _ _ a.h, s _ _ a.w⟩
/-- good amounts of some lines -/
def Gd (ms : List Int) : Prop := 0 < ms.length ∧ ms.length ≤ 8 ∧ ∀ m, m ∈ ms → 0 ≤ m
structure AmC (K : PySem.W.Frag) (C : Addr) : Prop where
  cls : Cls K C
  h : NoAttr K C "held"
  w : NoAttr K C "wished"
def natD : PyData → Bool
  | .int i => decide (0 ≤ i)
  | _ => false
def firstBadA : List PyData → Option Nat
  | [] => none
  | d :: ds => if natD d = true then (firstBadA ds).map (· + 1) else some 0
def intsD (ms : List Int) : PyData := .list (ms.map .int)
def badL : PyData → Option Int
  | .list ds => if ds.length = 0 ∨ 8 < ds.length then some (-1) else (firstBadA ds).map Int.ofNat
  | _ => some (-1)
theorem badL_no {d : PyData} (h : isLD d = false) : badL d = some (-1) := by cases d <;> first | rfl | cases h
theorem firstBad_some : ∀ {ds : List PyData} {i : Nat}, i < ds.length → (∀ j, j < i → natD (ds.getD j .none) = true) → natD (ds.getD i .none) = false → firstBadA ds = some i
  | [], i, h, _, _ => by simp at h
  | d :: ds, 0, _, _, b => by
    have b : natD d = false := b
    simp [firstBadA, b]
  | d :: ds, i + 1, h, p, b => by
    have p0 : natD d = true := p 0 (by omega)
    rw [firstBadA, if_pos p0, firstBad_some (i := i) (by simpa using h) (fun j hj => p (j + 1) (by omega)) b]
    rfl
theorem firstBad_none : ∀ {ds : List PyData}, (∀ j, j < ds.length → natD (ds.getD j .none) = true) → firstBadA ds = none
  | [], _ => rfl
  | d :: ds, p => by
    have p0 : natD d = true := p 0 (by simp)
    rw [firstBadA, if_pos p0, firstBad_none fun j hj => p (j + 1) (by simpa using hj)]
    rfl
theorem firstBad_inv : ∀ {ds : List PyData}, firstBadA ds = none → ∃ ms : List Int, ds = ms.map .int ∧ ∀ m, m ∈ ms → 0 ≤ m
  | [], _ => ⟨[], rfl, fun m h => by cases h⟩
  | d :: ds, h => by
    rw [firstBadA] at h
    by_cases c : natD d = true
    · rw [if_pos c] at h
      have h' : firstBadA ds = none := by
        cases q : firstBadA ds with
        | none => rfl
        | some k => rw [q] at h; cases h
      obtain ⟨ms, rfl, hm⟩ := firstBad_inv h'
      cases d with
      | int i => exact ⟨i :: ms, rfl, fun m hm' => by
          rcases List.mem_cons.mp hm' with rfl | h2
          · exact of_decide_eq_true c
          · exact hm m h2⟩
      | _ => cases c
    · rw [if_neg c] at h
      cases h
theorem badL_inv {d : PyData} (h : badL d = none) : ∃ ms, d = intsD ms ∧ Gd ms := by
  cases d with
  | list ds =>
    by_cases c : ds.length = 0 ∨ 8 < ds.length
    · rw [show badL (.list ds) = some (-1) from if_pos c] at h; cases h
    · rw [show badL (.list ds) = (firstBadA ds).map Int.ofNat from if_neg c] at h
      have h' : firstBadA ds = none := by
        cases q : firstBadA ds with
        | none => rfl
        | some k => rw [q] at h; cases h
      obtain ⟨ms, rfl, hm⟩ := firstBad_inv h'
      rw [List.length_map] at c
      exact ⟨ms, rfl, by omega, by omega, hm⟩
  | _ => cases h
theorem badL_good {ms : List Int} (g : Gd ms) : badL (intsD ms) = none := by
  have c : ¬ ((ms.map PyData.int).length = 0 ∨ 8 < (ms.map PyData.int).length) := by
    have h1 := g.1
    have h2 := g.2.1
    rw [List.length_map]; omega
  rw [intsD, show badL (.list (ms.map .int)) = (firstBadA (ms.map .int)).map Int.ofNat from if_neg c, firstBad_none fun j hj => ?_]
  · rfl
  · rw [List.getD_eq_getElem?_getD, List.getElem?_eq_getElem hj, List.getElem_map]
    rw [List.length_map] at hj
    exact decide_eq_true (g.2.2 _ (List.getElem_mem hj))
theorem ints_dp {K : PySem.W.Frag} {H : Hp} : ∀ {vs : List V} {ms : List Int}, DpAll K H vs (ms.map .int) → vs = ms.map V.int
  | [], [], _ => rfl
  | _ :: _, [], h => by cases h
  | [], _ :: _, h => by cases h
  | v :: vs, m :: ms, h => by
    cases h with
    | cons h1 h2 => rw [Dp.intV h1, ints_dp h2]; rfl
theorem dp_ints {K : PySem.W.Frag} {H : Hp} : ∀ ms : List Int, DpAll K H (ms.map V.int) (ms.map .int)
  | [] => .nil
  | m :: ms => .cons (.int m) (dp_ints ms)
theorem ints_inj : ∀ {ms ns : List Int}, ms.map PyData.int = ns.map PyData.int → ms = ns
  | [], [], _ => rfl
  | [], _ :: _, h => by cases h
  | _ :: _, [], h => by cases h
  | m :: ms, n :: ns, h => by
    simp only [List.map_cons, List.cons.injEq] at h
    rw [PyData.int.inj h.1, ints_inj h.2]
def badA (d e : PyData) : Option (Str × Int) := match badL d with
  | some k => some ("stocks", k)
  | none => (badL e).map fun k => ("wishes", k)
def spChkA (K : PySem.W.Frag) (CE : Addr) : Sp := fun vs H Q E => ∃ (z : Str) (v : V) (d : PyData), vs = [.str z, v] ∧ Dp K H v d ∧ (badL d = none → ∀ H' : Hp, Same H H' → Q .non H') ∧
  (∀ k, badL d = some k → ∀ (dd : Addr) (H' : Hp), Same H H' → H dd = none → H' dd = some (.xd [("at", .int k), ("word", .str z)]) → E (.ref CE) (some dd) H')
def spAmG (K : PySem.W.Frag) (C CE : Addr) : Sp := fun vs H Q E => ∃ (x dx : Addr) (v u : V) (d e : PyData), vs = [.ref x, v, u] ∧ H x = some (.ins C dx []) ∧ H dx = some (.own x) ∧ dx ≠ x ∧ Dp K H v d ∧ Dp K H u e ∧
  (∀ ms ns, d = intsD ms → e = intsD ns → Gd ms → Gd ns → ∀ (H' : Hp) (p q : Addr), H p = none → H q = none → p ≠ q → AmX C H' x dx p q ms ns → (∀ c o, c ≠ x → H c = some o → H' c = some o) → Q .non H') ∧
  (∀ z k, badA d e = some (z, k) → ∀ (dd : Addr) (H' : Hp), Same H H' → H dd = none → H' dd = some (.xd [("at", .int k), ("word", .str z)]) → E (.ref CE) (some dd) H')
def spAmOver (C : Addr) : Sp := fun vs H Q _ => ∃ (x dx p q : Addr) (ms ns : List Int), vs = [.ref x] ∧ AmX C H x dx p q ms ns ∧ Q (.int (ms.sum - ns.sum)) H
def spGet (C : Addr) (g : List Int → List Int → List Int) : Sp := fun vs H Q _ => ∃ (x dx p q : Addr) (ms ns : List Int), vs = [.ref x] ∧ AmX C H x dx p q ms ns ∧ ∀ r, H r = none → Q (.ref r) (upd H r (.lst ((g ms ns).map V.int)))
def spAmEq (C : Addr) : Sp := fun vs H Q _ => ∃ (x dx p q y dy r s : Addr) (ms ns ms' ns' : List Int), vs = [.ref x, .ref y] ∧ AmX C H x dx p q ms ns ∧ AmX C H y dy r s ms' ns' ∧ Q (.bl (decide (ms = ms') && decide (ns = ns'))) H
abbrev slChk : Stmt := top 14
abbrev slAmI : Stmt := inCls 16 0
abbrev slEq : Stmt := inCls 16 2
abbrev slStocks : Stmt := inCls 16 7
abbrev slWishes : Stmt := inCls 16 8
abbrev slOver : Stmt := inCls 16 9
section
variable {P : Program} {w : World} {K : PySem.W.Frag} {mg : Str → Option Value} {base : Heap} {C CE f : Addr} {fd : FuncData}
theorem sclChk : FnScope ["word", "numbers", "at", "number"] ["word", "numbers"] (defScope slChk) := ⟨rfl, rfl, rfl, by decide +kernel, rfl, by decide +kernel, by decide +kernel⟩
theorem ok_chkA (F : Fun K "check_line_amounts" "check_line_amounts" slChk f fd) (T : Bt mg) {tk : Tok} (hM : mg "MOST_LINES" = some (.int 8 tk)) (DI : Df P w K mg base CX0 "is_integer" 1 ["value"] (spIntD K)) (EA : De P w K mg base "InvalidAmounts" 3 (spErr2 K 1 CE "word" "at") CE) :
    FnOk P w K mg base (L2.CX P w) 6 f fd ["word", "numbers"] (spChkA K CE) := by
  refine F.okX sclChk (fun vs H Q E h => ?_) (fun cdv A outer s H vs Q E hr h => ?_)
  · obtain ⟨z, v, d, rfl, _⟩ := h
    rfl
  · obtain ⟨z, v, d, rfl, hd, k1, k2⟩ := h
    refine ⟨_, (pss_cons (ps_if (PW.pt (pw_or (pt_not (pt_val (pe_callB call_isi (by rfl) T.isinstance (by decide +kernel) (pa_cons (pv 1) (pa_cons (pe_bltn (v := .ty "list") (by rfl) T.list (by decide +kernel) rfl) pa_nil)))))
        (pw_or1 (pt_not (pt_chain op_le op_le pe_int (pe_callB cl_len (by rfl) T.len PySem.boot_len (pa_cons (pv 1) pa_nil)) (pe_glob (v := .int 8) (by rfl) hM ⟨tk, rfl⟩)))))) (pss_one (ps_rse rfl (takes_of rfl rfl rfl rfl) EA hr (by decide) (pa_cons (pv 0) (pa_cons (pe_un un_neg pe_int) pa_nil)))) pss_nil)
      (pss_one (ps_for (passes_of rfl) rfl (pi_enum (by rfl) T.enumerate (pa_cons (pv 1) pa_nil)) (pg_tup (by rfl) (pgs_cons (pg_name (i := 2) sclChk.nd rfl (Or.inl rfl)) (pgs_cons (pg_name (i := 3) sclChk.nd rfl (Or.inl rfl)) pgs_nil)))
        (pss_one (ps_if (PW.pt (pw_or (pt_not (pt_val (pe_df DI hr (by decide) (pa_cons (pv 3) pa_nil)))) (pw_or1 (pt_cmpR op_lt (pv 3) pe_int (nomark _))))) (pss_one (ps_rse rfl (takes_of rfl rfl rfl rfl) EA hr (by decide) (pa_cons (pv 0) (pa_cons (pv 2) pa_nil)))) pss_nil))))), ?_⟩
    have raise1 : badL d = some (-1) → tMkErr CE (spErr2 K 1 CE "word" "at") (tCons (tVar 0) (tCons (tUn (rU fun i => .int (-i)) (tC (.int 1))) tNil)) [some (.str z), some v, none, none] H (fun cls d H' => E cls d H') := fun b => by
      refine r_mkErr ?_
      walk_at "rd"
      refine r_err2 (σ := []) (.str _) (.str _) (.int _) (.int _) fun dd u1 v1 H' s1 h1 h2 o1 o2 => ?_
      cases o1
      cases o2
      exact k2 (-1) b dd H' s1 h1 h2
    walk_at "rd"
    refine r_isDL hd ?_
    walk_at "rd"
    by_cases e : isLD d = true
    · refine ifF (by rw [e]; rfl) ?_
      obtain ⟨ds, rfl⟩ : ∃ ds, d = .list ds := by
        cases d with
        | list ds => exact ⟨ds, rfl⟩
        | _ => cases e
      obtain ⟨a, vs, rfl, ha, hv⟩ := Dp.lstAt hd
      have vl := DpAll.len hv
      walk_at "rd"
      refine r_lenL ha ?_
      walk_at "rd"
      by_cases c1 : 1 ≤ ds.length
      · refine ifT (decide_eq_true (by omega)) ?_
        walk_at "rd"
        by_cases c2 : ds.length ≤ 8
        · refine ifF (by rw [decide_eq_true (by omega)]; rfl) ?_
          have bd : badL (.list ds) = (firstBadA ds).map Int.ofNat := if_neg (by omega)
          walk_at "rd"
          refine ⟨a, _, rfl, ha, for_it walk_enum (fun i σ H' => ∃ u v, σ = [some (.str z), some (.ref a), u, v] ∧ Same H H' ∧ ∀ j, j < i → natD (ds.getD j .none) = true) ⟨none, none, rfl, Same.refl H, fun j hj => by cases hj⟩ (fun i σ H' _ ⟨_, _, _, s, _⟩ => s.seq ha) ?_ ?_⟩
          · rintro i x σ H1 H2 hi ⟨u, v, rfl, s1, prev⟩ ⟨t, i', y, rfl, ht, rfl, e1, e2⟩
            obtain ⟨dy, hdy, py⟩ := DpAll.at hv e2
            cases (Option.some.inj e1)
            have gd : ds.getD i .none = dy := by rw [List.getD_eq_getElem?_getD, hdy]; rfl
            have st : Same H (upd H1 t (.tup [.int (i : Int), y])) := Same.up s1 ht
            have raise : natD dy = false → tMkErr CE (spErr2 K 1 CE "word" "at") (tCons (tVar 0) (tCons (tVar 2) tNil)) [some (.str z), some (.ref a), some (.int (i : Int)), some y] (upd H1 t (.tup [.int (i : Int), y])) (fun cls d H' => E cls d H') := fun o => by
              refine r_mkErr ?_
              walk_at "rd"
              refine r_err2 (σ := []) (.str _) (.str _) (.int _) (.int _) fun dd u1 v1 H' s4 h1 h2 o1 o2 => ?_
              cases o1
              cases o2
              exact k2 (i : Int) (by rw [bd, firstBad_some (by omega) prev (by rw [gd]; exact o)]; rfl) dd H' (st.trans s4) (st.free h1) h2
            have next : natD dy = true → ∃ u v, [some (.str z), some (.ref a), some (.int (i : Int)), some y] = [some (.str z), some (.ref a), u, v] ∧ Same H (upd H1 t (.tup [.int (i : Int), y])) ∧ ∀ j, j < i + 1 → natD (ds.getD j .none) = true := fun o => ⟨_, _, rfl, st, fun j hj => by
              by_cases ji : j < i
              · exact prev j ji
              · have : j = i := by omega
                rw [this, gd]
                exact o⟩
            refine r_gtup ⟨t, _, rfl, SqT.of upd_same, rfl, _, _, rfl, ?_⟩
            walk_at "rd"
            refine ⟨_, _, rfl, ?_⟩
            walk_at "rd"
            refine ⟨rfl, ?_⟩
            walk_at "rd"
            refine ⟨y, dy, rfl, Dp.later st py, ?_⟩
            walk_at "rd"
            by_cases o : isID dy = true
            · refine ifF (by rw [o]; rfl) ?_
              obtain ⟨m, rfl⟩ : ∃ m, dy = .int m := by
                cases dy with
                | int m => exact ⟨m, rfl⟩
                | _ => cases o
              obtain rfl := Dp.intV py
              walk_at "rd"
              by_cases lt : m < 0
              · refine ifT (decide_eq_true lt) ?_
                walk_at "rd"
                exact raise (decide_eq_false (by omega))
              · refine ifF (decide_eq_false lt) ?_
                walk_at "rd"
                exact next (decide_eq_true (by omega))
            · refine ifT (by rw [Bool.eq_false_iff.mpr o]; rfl) ?_
              walk_at "rd"
              exact raise (by cases dy <;> first | rfl | exact absurd rfl o)
          · rintro σ H1 ⟨u, v, rfl, s1, prev⟩
            exact k1 (by rw [bd, firstBad_none (fun j hj => prev j (by omega))]; rfl) H1 s1
        · refine ifT (by rw [decide_eq_false (by omega)]; rfl) ?_
          exact raise1 (if_pos (by omega))
      · refine ifF (decide_eq_false (by omega)) ?_
        walk_at "rd"
        exact raise1 (if_pos (by omega))
    · refine ifT (by rw [Bool.eq_false_iff.mpr e]; rfl) ?_
      exact raise1 (badL_no (Bool.eq_false_iff.mpr e))
theorem sclAmI : FnScope ["self", "stocks", "wishes"] ["self", "stocks", "wishes"] (defScope slAmI) := ⟨rfl, rfl, rfl, by decide +kernel, rfl, by decide +kernel, by decide +kernel⟩
theorem ok_amG (F : Fun K "__init__" "Amounts.__init__" slAmI f fd) (T : Bt mg) (A : AmC K C) (DC : Df P w K mg base (L2.CX P w) "check_line_amounts" 6 ["word", "numbers"] (spChkA K CE)) :
    FnOk P w K mg base (L2.CX P w) 8 f fd ["self", "stocks", "wishes"] (spAmG K C CE) := by
  refine F.okX sclAmI (fun vs H Q E h => ?_) (fun cdv A' outer s H vs Q E hr h => ?_)
  · obtain ⟨x, dx, v, u, d, e, rfl, _⟩ := h
    rfl
  · obtain ⟨x, dx, v, u, d, e, rfl, hx, hdx, ne, hd, he, k, kbad⟩ := h
    refine ⟨_, (pss_cons (ps_expr (pe_dfS (takes_of rfl rfl rfl rfl) DC hr (by decide) (pa_cons pe_str (pa_cons (pv 1) pa_nil))))
      (pss_cons (ps_expr (pe_dfS (takes_of rfl rfl rfl rfl) DC hr (by decide) (pa_cons pe_str (pa_cons (pv 2) pa_nil))))
      (pss_cons (ps_fld (pv 0) (pe_callTy cl_lst (by rfl) T.list (by decide +kernel) (pa_cons (pv 1) pa_nil)) rfl)
      (pss_one (ps_fld (pv 0) (pe_callTy cl_lst (by rfl) T.list (by decide +kernel) (pa_cons (pv 2) pa_nil)) rfl))))), ?_⟩
    walk_at "rd"
    refine ⟨_, v, d, rfl, hd, fun bd H1 s1 => ?_, fun k1 e1 dd H' s1 h1 h2 => kbad "stocks" k1 (by rw [badA, e1]) dd H' s1 h1 h2⟩
    walk_at "rd"
    refine ⟨_, u, e, rfl, Dp.later s1 he, fun be H2 s2 => ?_, fun k1 e1 dd H' s2 h1 h2 => kbad "wishes" k1 (by rw [badA, bd, e1]; rfl) dd H' (s1.trans s2) (s1.free h1) h2⟩
    obtain ⟨ms, rfl, gm⟩ := badL_inv bd
    obtain ⟨ns, rfl, gn⟩ := badL_inv be
    obtain ⟨a, vs, rfl, ha, hv⟩ := Dp.lstAt hd
    obtain rfl := ints_dp hv
    obtain ⟨b, us, rfl, hb, hu⟩ := Dp.lstAt he
    obtain rfl := ints_dp hu
    have s12 : Same H H2 := s1.trans s2
    walk_at "rd"
    refine r_lstOf (s12.seq ha) fun q1 n1 => ?_
    have x1 : x ≠ q1 := fun z => by
      have e := s12 _ _ hx
      rw [z, n1] at e
      cases e
    walk_at "rd"
    refine r_sFld0 (C := C) (dx := dx) (fs := []) (by rw [upd_ne x1]; exact s12 _ _ hx) A.cls A.h (by decide) ?_
    walk_at "rd"
    have sq := Same.up (o := .lst (ms.map V.int)) (Same.refl H2) n1
    have hb2 : SqL K (upd (upd H2 q1 (.lst (ms.map V.int))) x (.ins C dx [("held", .ref q1)])) b (ns.map V.int) :=
      (SameD.ofKeep (Keep.refl.own) (sq _ _ (s12 _ _ hx))).seqL (sq.seq (s12.seq hb))
    refine r_lstOf hb2 fun q2 n2 => ?_
    have x2 : x ≠ q2 := fun z => by
      rw [← z, upd_same] at n2
      cases n2
    have q12 : q1 ≠ q2 := fun z => by
      rw [← z, upd_ne (Ne.symm x1), upd_same] at n2
      cases n2
    rw [upd_ne (Ne.symm x2), upd_ne (Ne.symm q12)] at n2
    walk_at "rd"
    refine r_sFld0 (C := C) (dx := dx) (by rw [upd_ne x2, upd_same]) A.cls A.w (by show 1 < 1000; decide) ?_
    rw [two_put (by decide +kernel) (by decide +kernel)]
    refine k ms ns rfl rfl gm gn _ q1 q2 (s12.free n1) (s12.free n2) q12 ⟨upd_same, ?_, ?_⟩ fun c o hc e => ?_
    · rw [upd_ne (Ne.symm x1), upd_ne q12, upd_ne (Ne.symm x1), upd_same]
    · rw [upd_ne (Ne.symm x2), upd_same]
    · have e2 := s12 _ _ e
      have c1 : c ≠ q1 := fun z => by rw [z, n1] at e2; cases e2
      have c2 : c ≠ q2 := fun z => by rw [z, n2] at e2; cases e2
      rw [upd_ne hc, upd_ne c2, upd_ne hc, upd_ne c1]
      exact e2
/-- good amounts are made -/
theorem mk_amG {H1 : Hp} {x dx : Addr} {v u : V} {ms ns : List Int} {Q : Hp → Prop} {E : XK} (nx : H1 x = none) (nd : H1 dx = none) (ne : dx ≠ x) (hv : Dp K H1 v (intsD ms)) (hu : Dp K H1 u (intsD ns)) (gm : Gd ms) (gn : Gd ns)
    (k : ∀ (H' : Hp) (p q : Addr), H1 p = none → H1 q = none → p ≠ q → AmX C H' x dx p q ms ns → Same H1 H' → Q H') : spAmG K C CE [.ref x, v, u] (upd (upd H1 dx (.own x)) x (.ins C dx [])) (fun v H2 => v = .non ∧ Q H2) E := by
  have sy : Same H1 (upd (upd H1 dx (.own x)) x (.ins C dx [])) := fun d o e => by
    have n1 : d ≠ x := fun z => by rw [z, nx] at e; cases e
    have n2 : d ≠ dx := fun z => by rw [z, nd] at e; cases e
    rw [upd_ne n1, upd_ne n2]
    exact e
  refine ⟨x, dx, v, u, _, _, rfl, upd_same, by rw [upd_ne ne, upd_same], ne, Dp.later sy hv, Dp.later sy hu, fun ms' ns' e1 e2 _ _ H' p q np nq pq am kp => ⟨rfl, ?_⟩, fun z k1 e1 => ?_⟩
  · have i1 : ms = ms' := by
      have e := PyData.list.inj e1
      exact ints_inj e
    have i2 : ns = ns' := by
      have e := PyData.list.inj e2
      exact ints_inj e
    subst i1
    subst i2
    exact k H' p q (sy.free np) (sy.free nq) pq am fun d o e => kp _ _ (fun z => by rw [z, nx] at e; cases e) (sy _ _ e)
  · rw [badA, badL_good gm, badL_good gn] at e1
    cases e1
theorem sclOver : FnScope ["self"] ["self"] (defScope slOver) := ⟨rfl, rfl, rfl, by decide +kernel, rfl, by decide +kernel, by decide +kernel⟩
theorem sclStocks : FnScope ["self"] ["self"] (defScope slStocks) := ⟨rfl, rfl, rfl, by decide +kernel, rfl, by decide +kernel, by decide +kernel⟩
theorem sclWishes : FnScope ["self"] ["self"] (defScope slWishes) := ⟨rfl, rfl, rfl, by decide +kernel, rfl, by decide +kernel, by decide +kernel⟩
theorem ok_over (F : Fun K "over" "Amounts.over" slOver f fd) (T : Bt mg) (A : AmC K C) : FnOk P w K mg base CX0 1 f fd ["self"] (spAmOver C) := by
  refine F.ok sclOver (fun vs H Q E h => ?_) (fun cdv A' outer s H vs Q E hr h => ?_)
  · obtain ⟨x, dx, p, q, ms, ns, rfl, _⟩ := h
    rfl
  · obtain ⟨x, dx, p, q, ms, ns, rfl, a, k⟩ := h
    refine ⟨_, (pss_one (ps_ret (pe_op op_sub (pe_callB (cr_sum rfl) (by rfl) T.sum (by decide +kernel) (pa_cons (pe_fld (pv 0) rfl) pa_nil)) (pe_callB (cr_sum rfl) (by rfl) T.sum (by decide +kernel) (pa_cons (pe_fld (pv 0) rfl) pa_nil))))), ?_⟩
    walk_at "rd"
    refine r_fldV rfl a.o A.cls A.h two_fst ?_
    walk_at "rd"
    refine r_sum (SqL.of a.h) ?_
    walk_at "rd"
    refine r_fldV rfl a.o A.cls A.w (two_snd (by decide +kernel)) ?_
    walk_at "rd"
    refine r_sum (SqL.of a.w) ?_
    walk_at "rd"
    exact k
theorem ok_stocks (F : Fun K "stocks" "Amounts.stocks" slStocks f fd) (T : Bt mg) (A : AmC K C) : FnOk P w K mg base CX0 1 f fd ["self"] (spGet C fun ms _ => ms) := by
  refine F.ok sclStocks (fun vs H Q E h => ?_) (fun cdv A' outer s H vs Q E hr h => ?_)
  · obtain ⟨x, dx, p, q, ms, ns, rfl, _⟩ := h
    rfl
  · obtain ⟨x, dx, p, q, ms, ns, rfl, a, k⟩ := h
    refine ⟨_, (pss_one (ps_ret (pe_callTy cl_lst (by rfl) T.list (by decide +kernel) (pa_cons (pe_fld (pv 0) rfl) pa_nil)))), ?_⟩
    walk_at "rd"
    refine r_fldV rfl a.o A.cls A.h two_fst ?_
    walk_at "rd"
    exact r_lstOf (SqL.of a.h) k
theorem ok_wishes (F : Fun K "wishes" "Amounts.wishes" slWishes f fd) (T : Bt mg) (A : AmC K C) : FnOk P w K mg base CX0 1 f fd ["self"] (spGet C fun _ ns => ns) := by
  refine F.ok sclWishes (fun vs H Q E h => ?_) (fun cdv A' outer s H vs Q E hr h => ?_)
  · obtain ⟨x, dx, p, q, ms, ns, rfl, _⟩ := h
    rfl
  · obtain ⟨x, dx, p, q, ms, ns, rfl, a, k⟩ := h
    refine ⟨_, (pss_one (ps_ret (pe_callTy cl_lst (by rfl) T.list (by decide +kernel) (pa_cons (pe_fld (pv 0) rfl) pa_nil)))), ?_⟩
    walk_at "rd"
    refine r_fldV rfl a.o A.cls A.w (two_snd (by decide +kernel)) ?_
    walk_at "rd"
    exact r_lstOf (SqL.of a.w) k
theorem sclEq : FnScope ["self", "other"] ["self", "other"] (defScope slEq) := ⟨rfl, rfl, rfl, by decide +kernel, rfl, by decide +kernel, by decide +kernel⟩
theorem ok_amEq (F : Fun K "__eq__" "Amounts.__eq__" slEq f fd) (T : Bt mg) (A : AmC K C) (O : OwnC K C) (gA : mg "Amounts" = some (.ref C)) : FnOk P w K mg base CX0 1 f fd ["self", "other"] (spAmEq C) := by
  refine F.ok sclEq (fun vs H Q E h => ?_) (fun cdv A' outer s H vs Q E hr h => ?_)
  · obtain ⟨x, dx, p, q, y, dy, r, s, ms, ns, ms', ns', rfl, _⟩ := h
    rfl
  · obtain ⟨x, dx, p, q, y, dy, r, s, ms, ns, ms', ns', rfl, o, o', k⟩ := h
    refine ⟨_, (pss_one (ps_ret (pe_and (pe_callB call_isi (by rfl) T.isinstance (by decide +kernel) (pa_cons (pv 1) (pa_cons (pe_glob (v := .ref C) (by rfl) gA rfl) pa_nil)))
      (pe_and (pe_cmpR (op_eqD hr.units) (pe_fld (pv 0) rfl) (pe_fld (pv 1) rfl) (nomark _)) (pe_one (pe_cmpR (op_eqD hr.units) (pe_fld (pv 0) rfl) (pe_fld (pv 1) rfl) (nomark _))))))), ?_⟩
    walk_at "rd"
    refine r_isiSelf O o'.o ?_
    walk_at "rd"
    refine r_fldV rfl o.o A.cls A.h two_fst ?_
    refine r_fldV rfl o'.o A.cls A.h two_fst ?_
    refine r_eqL (SqL.of o.h) (SqL.of o'.h) ?_
    walk_at "rd"
    by_cases e : ms = ms'
    · refine ifT (decide_eq_true e) ?_
      rw [decide_eq_true e, Bool.true_and] at k
      walk_at "rd"
      refine r_fldV rfl o.o A.cls A.w (two_snd (by decide +kernel)) ?_
      refine r_fldV rfl o'.o A.cls A.w (two_snd (by decide +kernel)) ?_
      exact r_eqL (SqL.of o.w) (SqL.of o'.w) k
    · refine ifF (decide_eq_false e) ?_
      rw [decide_eq_false e, Bool.false_and] at k
      exact k
end
/-! ### amounts beside a table -/
def spFit (C CT : Addr) : Sp := fun vs H Q _ => ∃ (x dx p q t : Addr) (ms ns : List Int) (G : Hp) (R : Rw), vs = [.ref x, .ref t] ∧ AmX C H x dx p q ms ns ∧ TbX CT G t R ∧ Same G H ∧ Q (.bl (decide (ms.length = R.length) && decide (ns.length = wd R))) H
abbrev slFit : Stmt := inCls 16 10
section
variable {P : Program} {w : World} {K : PySem.W.Frag} {mg : Str → Option Value} {base : Heap} {C CE CB CT f : Addr} {fd : FuncData}
theorem sclFit : FnScope ["self", "table"] ["self", "table"] (defScope slFit) := ⟨rfl, rfl, rfl, by decide +kernel, rfl, by decide +kernel, by decide +kernel⟩
theorem ok_fit {fS fW : Addr} {fdS fdW : FuncData} (F : Fun K "fits_size" "Amounts.fits_size" slFit f fd) (T : Bt mg) (A : AmC K C) (B : TbC K CT) (mS : Meth K CT "stocks" fS) (oS : FnOk P w K mg base CX0 1 fS fdS ["self"] (spTStk CT)) (bS : Binds K fdS ["self"] [])
    (mW : Meth K CT "wishes" fW) (oW : FnOk P w K mg base CX0 1 fW fdW ["self"] (spTWsh CT)) (bW : Binds K fdW ["self"] []) : FnOk P w K mg base CX0 2 f fd ["self", "table"] (spFit C CT) := by
  refine F.ok sclFit (fun vs H Q E h => ?_) (fun cdv A' outer s H vs Q E hr h => ?_)
  · obtain ⟨x, dx, p, q, t, ms, ns, G, R, rfl, _⟩ := h
    rfl
  · obtain ⟨x, dx, p, q, t, ms, ns, G, R, rfl, a, tb, sG, k⟩ := h
    have hr1 := hr.mono (show 1 ≤ 1 by decide)
    obtain ⟨g, dt, e, u, es, ho, hl, hp⟩ := id tb
    refine ⟨_, (pss_one (ps_ret (pe_and (pe_cmpR op_eq (pe_callB cl_len (by rfl) T.len PySem.boot_len (pa_cons (pe_fld (pv 0) rfl) pa_nil)) (pe_meth0 (pv 1) B.O.cl mS oS hr1 bS .nil pass0) (nomark _))
      (pe_one (pe_cmpR op_eq (pe_callB cl_len (by rfl) T.len PySem.boot_len (pa_cons (pe_fld (pv 0) rfl) pa_nil)) (pe_meth0 (pv 1) B.O.cl mW oW hr1 bW .nil pass0) (nomark _)))))), ?_⟩
    have de : ∀ (m n : Nat), decide (V.int (m : Int) = V.int (n : Int)) = decide (m = n) := fun m n => decide_eq_decide.mpr ⟨fun h => Int.ofNat.inj (V.int.inj h), fun h => by rw [h]⟩
    walk_at "rd"
    refine r_fldV rfl a.o A.cls A.h two_fst ?_
    walk_at "rd"
    refine r_lenL (SqL.of a.h) ?_
    rw [List.length_map]
    walk_at "rd"
    refine ⟨t, dt, _, rfl, sG _ _ ho, two_no (by decide +kernel) (by decide +kernel), ?_⟩
    walk_at "rd"
    refine ⟨t, G, R, rfl, tb, sG, ?_⟩
    refine r_eq rfl ?_
    rw [de]
    walk_at "rd"
    by_cases e1 : ms.length = R.length
    · refine ifT (decide_eq_true e1) ?_
      rw [decide_eq_true e1, Bool.true_and] at k
      walk_at "rd"
      refine r_fldV rfl a.o A.cls A.w (two_snd (by decide +kernel)) ?_
      walk_at "rd"
      refine r_lenL (SqL.of a.w) ?_
      rw [List.length_map]
      walk_at "rd"
      refine ⟨t, dt, _, rfl, sG _ _ ho, two_no (by decide +kernel) (by decide +kernel), ?_⟩
      walk_at "rd"
      refine ⟨t, G, R, rfl, tb, sG, ?_⟩
      refine r_eq rfl ?_
      rw [de]
      exact k
    · refine ifF (decide_eq_false e1) ?_
      rw [decide_eq_false e1, Bool.false_and] at k
      exact k
end
/-! ### amounts that fit a table's size -/
structure AmF (CA : Addr) (H : Hp) (g : Addr) (R : Rw) (ms ns : List Int) : Prop where
  o : ∃ dx p q, AmX CA H g dx p q ms ns
  m : ms.length = R.length
  n : ns.length = wd R
theorem AmF.same {CA : Addr} {H H' : Hp} {g : Addr} {R : Rw} {ms ns : List Int} (h : AmF CA H g R ms ns) (s : Same H H') : AmF CA H' g R ms ns := ⟨by obtain ⟨dx, p, q, a⟩ := h.o; exact ⟨dx, p, q, a.same s⟩, h.m, h.n⟩
def spChS (CA CT : Addr) : Sp := fun vs H Q _ => ∃ (t g : Addr) (G : Hp) (R : Rw) (ms ns : List Int), vs = [.ref t, .ref g] ∧ TbX CT G t R ∧ Same G H ∧ AmF CA H g R ms ns ∧ Q .non H
abbrev slChS : Stmt := top 15
section
variable {P : Program} {w : World} {K : PySem.W.Frag} {mg : Str → Option Value} {base : Heap} {CV CS CT CA f : Addr} {fd : FuncData}
theorem sclChS : FnScope ["table", "amounts"] ["table", "amounts"] (defScope slChS) := ⟨rfl, rfl, rfl, by decide +kernel, rfl, by decide +kernel, by decide +kernel⟩
theorem ok_chS {fF : Addr} {fdF : FuncData} (F : Fun K "check_size" "check_size" slChS f fd) (T : Bt mg) (O : OwnC K CA) (gA : mg "Amounts" = some (.ref CA)) (mF : Meth K CA "fits_size" fF) (oF : FnOk P w K mg base CX0 2 fF fdF ["self", "table"] (spFit CA CT)) (bF : Binds K fdF ["self", "table"] []) :
    FnOk P w K mg base CX0 3 f fd ["table", "amounts"] (spChS CA CT) := by
  refine F.ok sclChS (fun vs H Q E h => ?_) (fun cdv A' outer s H vs Q E hr h => ?_)
  · obtain ⟨t, g, G, R, ms, ns, rfl, _⟩ := h
    rfl
  · obtain ⟨t, g, G, R, ms, ns, rfl, tb, sG, am, k⟩ := h
    have hr2 := hr.mono (show 2 ≤ 2 by decide)
    obtain ⟨⟨dx, p, q, a⟩, e1, e2⟩ := am
    refine ⟨_, (pss_one (ps_if (PW.pt (pw_or (pt_not (pt_val (pe_callB call_isi (by rfl) T.isinstance (by decide +kernel) (pa_cons (pv 1) (pa_cons (pe_glob (v := .ref CA) (by rfl) gA rfl) pa_nil)))))
      (pw_or1 (pt_not (pt_val (pe_meth (pv 1) O.cl mF oF hr2 bF .nil pass0 (pa_cons (pv 0) pa_nil))))))) pss_never pss_nil)), ?_⟩
    walk_at "rd"
    refine r_isiSelf O a.o ?_
    walk_at "rd"
    refine ⟨g, dx, _, rfl, a.o, two_no (by decide +kernel) (by decide +kernel), ?_⟩
    walk_at "rd"
    refine ⟨g, dx, p, q, t, ms, ns, G, R, rfl, a, tb, sG, ?_⟩
    rw [decide_eq_true e1, decide_eq_true e2]
    walk_at "rd"
    exact k
end
end Pk
set_option Elab.async false
set_option linter.all false
set_option maxRecDepth 100000
set_option maxHeartbeats 4000000
namespace Pk
open PySem L2
local macro_rules | `(tactic| walk_at "rd") => `(tactic| repeat (first
  | with_reducible refine r_seq ?_ | with_reducible refine r_nxt ?_ | with_reducible refine r_asg ?_ | with_reducible refine r_to ?_ | with_reducible refine r_ret ?_ | with_reducible refine r_for ?_ | with_reducible refine r_lc ?_ | with_reducible refine r_lc2 ?_ | with_reducible refine r_rng1 ?_ | with_reducible refine r_list ?_ | with_reducible refine r_tupI ?_ | with_reducible refine r_drop ?_ | with_reducible refine r_ifs ?_
  | with_reducible refine r_op ?_ | with_reducible refine r_c ?_ | with_reducible refine r_var rfl ?_ | with_reducible refine r_var (by assumption) ?_ | with_reducible refine r_I0 ?_ | with_reducible refine r_un ?_ | with_reducible refine r_U ?_ | with_reducible refine r_make ?_ | with_reducible refine r_makeS ?_ | with_reducible refine r_ifE ?_ | with_reducible refine r_cm ?_ | with_reducible refine r_mkV rfl ?_ | with_reducible refine r_sub ?_
  | with_reducible refine r_nil ?_ | with_reducible refine r_cons ?_ | with_reducible refine r_cb ?_ | with_reducible refine r_sl ?_ | with_reducible refine r_noP ?_ | with_reducible refine r_part ?_ | with_reducible refine r_isI ?_ | with_reducible refine r_lst ?_ | with_reducible refine r_tup ?_ | with_reducible refine r_call ?_ | with_reducible refine r_callS ?_ | with_reducible refine r_sFldU ?_ | with_reducible refine r_chain ?_ | with_reducible refine r_enum ?_ | with_reducible refine r_zip ?_ | with_reducible refine r_rng3 ?_ | with_reducible refine r_gtup ?_ | with_reducible refine r_methU ?_
  | with_reducible refine r_test ?_ | with_reducible refine r_B ?_ | with_reducible refine r_and ?_ | with_reducible refine r_or ?_ | with_reducible refine r_not ?_ | with_reducible refine r_andV ?_ | with_reducible refine r_orV ?_ | with_reducible refine r_notV ?_ | with_reducible refine r_bl ?_ | with_reducible refine r_yes ?_ | with_reducible refine r_int ?_ | with_reducible refine r_is0 ?_ | with_reducible refine r_is1 ?_ | with_reducible refine iteT ?_ | with_reducible refine iteF ?_ | with_reducible refine ite_nF ?_ | with_reducible refine ite_nT ?_
  | with_reducible refine r_mod (by decide) ?_ | with_reducible refine r_div (by decide) (by decide) ?_ | with_reducible refine r_mulR (by decide) (by decide) ?_ | with_reducible refine r_mulL (by decide) (by decide) ?_ | with_reducible refine r_pow (by decide) (by decide) (by decide) ?_))
/-! ### Table.turned -/
/-- the first i rows of S stand in the list at D -/
def RowsAt (H1 : Hp) (D : Addr) (S : Rw) (i : Nat) (H' : Hp) : Prop := Same H1 H' ∧ ∃ fs, H' D = some (.lst fs) ∧ fs.length = i ∧ Dist fs ∧ ∀ j v, fs[j]? = some v → ∃ c, v = .ref c ∧ c ≠ D ∧ H1 c = none ∧ H' c = some (.lst ((S.getD j []).map pV))
theorem RowsAt.start {H1 : Hp} {D : Addr} {S : Rw} (nD : H1 D = none) : RowsAt H1 D S 0 (upd H1 D (.lst [])) := ⟨Same.up (Same.refl H1) nD, [], upd_same, rfl, Dist.nil, fun j v e => by simp at e⟩
theorem RowsAt.more {H1 H2 H4 : Hp} {D D2 : Addr} {S : Rw} {i : Nat} (nD : H1 D = none) (r : RowsAt H1 D S i H2) (s4 : Same H2 H4) (i9 : i < 9) (nD2 : H2 D2 = none) (hD4 : H4 D2 = some (.lst ((S.getD i []).map pV))) :
    ∃ acc, H4 D = some (.lst acc) ∧ acc.length < sizeLine ∧ RowsAt H1 D S (i + 1) (upd H4 D (.lst (acc ++ [.ref D2]))) := by
  obtain ⟨s2, fs, hD, fl, ds, fr⟩ := r
  have D2D : D2 ≠ D := fun z => by rw [z, hD] at nD2; cases nD2
  refine ⟨fs, s4 _ _ hD, by rw [fl]; exact Nat.lt_of_lt_of_le i9 (by decide), fun c o e => ?_, fs ++ [.ref D2], upd_same, by rw [List.length_append, fl]; rfl, ds.more fun j v ev => ?_, fun j v ev => ?_⟩
  · have n : c ≠ D := fun z => by rw [z, nD] at e; cases e
    rw [upd_ne n]
    exact s4 _ _ (s2 _ _ e)
  · obtain ⟨c, rfl, n1, n2, n3⟩ := fr j v ev
    intro z
    cases z
    rw [n3] at nD2
    cases nD2
  · by_cases ji : j < fs.length
    · rw [List.getElem?_append_left ji] at ev
      obtain ⟨c, rfl, n1, n2, n3⟩ := fr j v ev
      exact ⟨c, rfl, n1, n2, by rw [upd_ne n1]; exact s4 _ _ n3⟩
    · rw [List.getElem?_append_right (by omega)] at ev
      have : j = i := by
        have := (List.getElem?_eq_some_iff.mp ev).1
        simp at this
        omega
      subst this
      rw [fl, Nat.sub_self] at ev
      cases (Option.some.inj ev)
      exact ⟨D2, rfl, D2D, s2.free nD2, by rw [upd_ne D2D]; exact hD4⟩
theorem RowsAt.rl {H1 H' : Hp} {D : Addr} {S : Rw} (r : RowsAt H1 D S S.length H') : Same H1 H' ∧ ∃ fs, RL H' D fs S ∧ Dist fs ∧ ∀ (i : Nat) (c : Addr), fs[i]? = some (V.ref c) → H1 c = none ∧ c ≠ D := by
  obtain ⟨s2, fs, hD, fl, ds, fr⟩ := r
  exact ⟨s2, fs, ⟨hD, fl, fun i v e => by
    obtain ⟨c, e1, n1, n2, n3⟩ := fr i v e
    exact ⟨c, e1, n3⟩⟩, ds, fun i c e => by
    obtain ⟨c', e1, n1, n2, n3⟩ := fr i _ e
    cases e1
    exact ⟨n2, n1⟩⟩
def trR (R : Rw) : Rw := (List.range (wd R)).map fun j => (List.range R.length).map fun i => prc R i j
theorem trR_len (R : Rw) : (trR R).length = wd R := by simp [trR]
theorem trR_at {R : Rw} {j : Nat} (h : j < wd R) : (trR R).getD j [] = (List.range R.length).map fun i => prc R i j := by
  rw [trR, List.getD_eq_getElem?_getD, List.getElem?_map, List.getElem?_range h]
  rfl
theorem trR_gt {R : Rw} (g : Gt R) : Gt (trR R) ∧ wd (trR R) = R.length := by
  have sq : ∀ r, r ∈ trR R → r.length = R.length := fun r m => by
    obtain ⟨j, _, rfl⟩ := List.mem_map.mp m
    simp
  have w : wd (trR R) = R.length := by
    have l := trR_len R
    have w0 := g.w0
    cases q : trR R with
    | nil => rw [q] at l; simp at l; omega
    | cons r S => exact sq r (by rw [q]; exact List.mem_cons_self)
  exact ⟨⟨by rw [trR_len]; exact g.w0, by rw [trR_len]; exact g.w8, by rw [w]; exact g.h0, by rw [w]; exact g.h8, fun r m => by rw [w]; exact sq r m⟩, w⟩
theorem trR_prc {R : Rw} {i j : Nat} (hi : i < R.length) (hj : j < wd R) : prc (trR R) j i = prc R i j := by
  rw [prc, trR_at hj, List.getD_eq_getElem?_getD, List.getElem?_map, List.getElem?_range hi]
  rfl
def spTTur (C : Addr) : Sp := fun vs H Q _ => ∃ (x : Addr) (G : Hp) (R : Rw), vs = [.ref x] ∧ TbX C G x R ∧ Same G H ∧ ∀ (y : Addr) (H' G' : Hp), Same H H' → TbX C G' y (trR R) → Same G' H' → Fresh H G' → Q (.ref y) H'
abbrev slTTur : Stmt := inCls 32 18
def retCallScope0 : Stmt → Scope
  | .Return (value := some (.Call (args := [.ListComp (scope := sc) ..]) ..)) .. => sc
  | _ => defScope slTTur
section
variable {P : Program} {w : World} {K : PySem.W.Frag} {mg : Str → Option Value} {base : Heap} {C CE CP f : Addr} {fd : FuncData}
theorem mk_tb3 {H1 : Hp} {x dx : Addr} {v : V} {R : Rw} {Q : Hp → Prop} {E : XK} (nx : H1 x = none) (nd : H1 dx = none) (ne : dx ≠ x) (hv : Dp K H1 v (rowsD R)) (g : Gt R)
    (k : ∀ (H' G : Hp), Same H1 H' → TbX C G x R → Same G H' → Fresh H1 G → Q H') : spTbI K C CE [.ref x, v] (upd (upd H1 dx (.own x)) x (.ins C dx [])) (fun v H2 => v = .non ∧ Q H2) E := mk_tb (Q := fun _ H => Q H) nx nd ne hv g k
theorem sclTTur : FnScope ["self", "j", "row"] ["self"] (defScope slTTur) := ⟨rfl, rfl, rfl, by decide +kernel, rfl, by decide +kernel, by decide +kernel⟩
theorem ok_tTur {fW : Addr} {fdW : FuncData} (F : Fun K "turned" "Table.turned" slTTur f fd) (T : Bt mg) (A : TbC K C) (mW : Meth K C "wishes" fW) (oW : FnOk P w K mg base CX0 1 fW fdW ["self"] (spTWsh C)) (bW : Binds K fdW ["self"] []) (DT : Dk P w K mg base (L2.CX P w) "Table" 8 ["self", "rows"] (spTbI K C CE) C) :
    FnOk P w K mg base CX0 10 f fd ["self"] (spTTur C) := by
  refine F.ok sclTTur (fun vs H Q E h => ?_) (fun cdv A' outer s H vs Q E hr h => ?_)
  · obtain ⟨x, G, R, rfl, _⟩ := h
    rfl
  · obtain ⟨x, G, R, rfl, t, sG, k⟩ := h
    have hr1 := hr.mono (show 1 ≤ 9 by decide)
    obtain ⟨g, dx, e, u, es, ho, hl, hp⟩ := id t
    have g8 := g.h8
    have w8 := g.w8
    refine ⟨_, (pss_one (ps_ret (pe_dkL DT hr (by decide) (pa_cons (pe_lc (own := [("j", 1)]) (g := gName 1) (te := tLc (iList K (tFld K (tVar 0) "entries")) (gName 2) tYes (tOp (rIxL K) (tVar 2) (tVar 1)) [2]) rfl sclTTur.nd (pi_range1 rfl T.range (pa_cons (pe_meth0 (pv 0) A.O.cl mW oW hr1 bW .nil pass0) pa_nil)) (blkOk_by (own := [("j", 1)]) (N := ["self", "j", "row"]) (sc := defScope slTTur) (by decide +kernel)) (fun _ _ _ _ _ => pg_name (i := 1) sclTTur.nd rfl (Or.inr rfl)) (fun _ _ _ _ _ => pts_nil)
      (fun _ _ _ _ _ => (pe_lc (own := [("row", 2)]) (g := gName 2) rfl sclTTur.nd (pi_list (pe_fld (pv 0) rfl)) (blkOk_by (own := [("row", 2)]) (N := ["self", "j", "row"]) (sc := relS (retCallScope0 ((defBody slTTur).getD 0 (.Pass ⟨0, 0, 0, 0⟩))) (defScope slTTur)) (by decide +kernel)) (fun _ _ _ _ _ => pg_name (i := 2) sclTTur.nd rfl (Or.inl rfl)) (fun _ _ _ _ _ => pts_nil) (fun _ _ _ _ _ => (pe_ix ix_list (pv 2) (pv 1) (fun _ _ => rfl)))))) pa_nil)))), ?_⟩
    walk_at "rd"
    refine ⟨x, dx, _, rfl, sG _ _ ho, two_no (by decide +kernel) (by decide +kernel), ?_⟩
    walk_at "rd"
    refine ⟨x, G, R, rfl, t, sG, ?_⟩
    walk_at "rd"
    refine ⟨_, rfl, by omega, by omega, fun D nD => lc_it walk_range (RowsAt H D (trR R)) (RowsAt.start nD) (fun _ _ _ _ => trivial) ?_ ?_⟩
    · rintro j y H2 H3 hj r ⟨rfl, rfl⟩
      have hj : j < wd R := by simpa using hj
      have sG3 := sG.trans r.1
      show gName 1 (V.int (0 + (j : Int))) _ _ _
      rw [Int.zero_add]
      walk_at "rd"
      refine ⟨rfl, ?_⟩
      walk_at "rd"
      refine r_fldV rfl (sG3 _ _ ho) A.O.cl A.e two_fst ?_
      refine ⟨e, rfl, ⟨_, SqL.of (sG3 _ _ hl.at_)⟩, fun D2 nD2 => lc_it walk_list (Out H3 D2 fun i => pV (prc R i j)) (Out.start nD2) (fun i H4 _ z => SqL.of (z.1 _ _ (sG3 _ _ hl.at_))) ?_ ?_⟩
      · rintro i y H4 H5 hi o ⟨rfl, e2⟩
        have hi : i < R.length := by rw [← hl.len]; exact hi
        obtain ⟨c1, rfl, hc1⟩ := hl.row i y e2
        walk_at "rd"
        refine ⟨rfl, ?_⟩
        walk_at "rd"
        refine r_ixL (SqL.of (o.1 _ _ (sG3 _ _ hc1))) (atI_nat (prc_get g hi hj)) ?_
        exact o.more nD2 (Same.refl _) (Nat.lt_of_lt_of_le (show i < 9 by omega) (by decide))
      · rintro H4 ⟨s4, hD4⟩
        refine r.more nD s4 (by omega) nD2 ?_
        rw [hD4, hl.len, trR_at hj, List.map_map]
        rfl
    · rintro H2 r
      have r : RowsAt H D (trR R) (trR R).length H2 := by
        rw [trR_len]
        simpa using r
      obtain ⟨s2, fs, rl, _, _⟩ := r.rl
      walk_at "rd"
      intro z dz nz nd ne
      exact mk_tb nz nd ne rl.dp (trR_gt g).1 fun H' G3 s3 t3 sG3 fG3 => k z H' G3 (s2.trans s3) t3 sG3 (fG3.back s2)
end
end Pk
set_option Elab.async false
set_option linter.all false
set_option maxRecDepth 100000
set_option maxHeartbeats 4000000
namespace Pk
open PySem L2
local macro_rules | `(tactic| walk_at "rd") => `(tactic| repeat (first
  | with_reducible refine r_seq ?_ | with_reducible refine r_nxt ?_ | with_reducible refine r_asg ?_ | with_reducible refine r_to ?_ | with_reducible refine r_ret ?_ | with_reducible refine r_for ?_ | with_reducible refine r_lc ?_ | with_reducible refine r_lc2 ?_ | with_reducible refine r_rng1 ?_ | with_reducible refine r_list ?_ | with_reducible refine r_tupI ?_ | with_reducible refine r_drop ?_ | with_reducible refine r_ifs ?_
  | with_reducible refine r_op ?_ | with_reducible refine r_c ?_ | with_reducible refine r_var rfl ?_ | with_reducible refine r_var (by assumption) ?_ | with_reducible refine r_I0 ?_ | with_reducible refine r_un ?_ | with_reducible refine r_U ?_ | with_reducible refine r_make ?_ | with_reducible refine r_makeS ?_ | with_reducible refine r_ifE ?_ | with_reducible refine r_cm ?_ | with_reducible refine r_mkV rfl ?_ | with_reducible refine r_sub ?_
  | with_reducible refine r_nil ?_ | with_reducible refine r_cons ?_ | with_reducible refine r_cb ?_ | with_reducible refine r_sl ?_ | with_reducible refine r_noP ?_ | with_reducible refine r_part ?_ | with_reducible refine r_isI ?_ | with_reducible refine r_lst ?_ | with_reducible refine r_tup ?_ | with_reducible refine r_call ?_ | with_reducible refine r_callS ?_ | with_reducible refine r_sFldU ?_ | with_reducible refine r_chain ?_ | with_reducible refine r_enum ?_ | with_reducible refine r_zip ?_ | with_reducible refine r_rng3 ?_ | with_reducible refine r_gtup ?_ | with_reducible refine r_methU ?_
  | with_reducible refine r_test ?_ | with_reducible refine r_B ?_ | with_reducible refine r_and ?_ | with_reducible refine r_or ?_ | with_reducible refine r_not ?_ | with_reducible refine r_andV ?_ | with_reducible refine r_orV ?_ | with_reducible refine r_notV ?_ | with_reducible refine r_bl ?_ | with_reducible refine r_yes ?_ | with_reducible refine r_int ?_ | with_reducible refine r_is0 ?_ | with_reducible refine r_is1 ?_ | with_reducible refine iteT ?_ | with_reducible refine iteF ?_ | with_reducible refine ite_nF ?_ | with_reducible refine ite_nT ?_
  | with_reducible refine r_mod (by decide) ?_ | with_reducible refine r_div (by decide) (by decide) ?_ | with_reducible refine r_mulR (by decide) (by decide) ?_ | with_reducible refine r_mulL (by decide) (by decide) ?_ | with_reducible refine r_pow (by decide) (by decide) (by decide) ?_))
/-! ### objects of one's own: a list of addresses with what stands there, none of them in the heap before -/
structure Own2 (G H : Hp) (L : List (Addr × HO)) : Prop where
  nd : (L.map (·.1)).Nodup
  at_ : ∀ p, p ∈ L → H p.1 = some p.2
  off : ∀ p, p ∈ L → G p.1 = none
theorem Own2.same {G H H' : Hp} {L : List (Addr × HO)} (h : Own2 G H L) (s : Same H H') : Own2 G H' L := ⟨h.nd, fun p hp => s _ _ (h.at_ p hp), h.off⟩
theorem Own2.get {G H : Hp} {L : List (Addr × HO)} (h : Own2 G H L) {i : Nat} {a : Addr} {o : HO} (e : L[i]? = some (a, o)) : H a = some o ∧ G a = none :=
  ⟨h.at_ (a, o) (List.mem_of_getElem? e), h.off (a, o) (List.mem_of_getElem? e)⟩
theorem Own2.ne {G H : Hp} {L : List (Addr × HO)} (h : Own2 G H L) {i j : Nat} {a b : Addr} {o u : HO} (e1 : L[i]? = some (a, o)) (e2 : L[j]? = some (b, u)) (n : i ≠ j) : a ≠ b := fun z => by
  obtain ⟨h1, q1⟩ := List.getElem?_eq_some_iff.mp e1
  obtain ⟨h2, q2⟩ := List.getElem?_eq_some_iff.mp e2
  have m1 : (L.map (·.1))[i]? = some a := by rw [List.getElem?_map, e1]; rfl
  have m2 : (L.map (·.1))[j]? = some b := by rw [List.getElem?_map, e2]; rfl
  rw [z] at m1
  obtain ⟨l1, w1⟩ := List.getElem?_eq_some_iff.mp m1
  obtain ⟨l2, w2⟩ := List.getElem?_eq_some_iff.mp m2
  exact n ((List.getElem_inj h.nd).mp (w1.trans w2.symm))
/-- what stands at one of them is written over -/
theorem Own2.set {G H : Hp} {L : List (Addr × HO)} (h : Own2 G H L) {i : Nat} {a : Addr} {o o' : HO} (e : L[i]? = some (a, o)) : Own2 G (upd H a o') (L.set i (a, o')) := by
  obtain ⟨hi, q⟩ := List.getElem?_eq_some_iff.mp e
  have em : (L.set i (a, o')).map (·.1) = L.map (·.1) := by
    apply List.ext_getElem?
    intro j
    rw [List.getElem?_map, List.getElem?_map]
    by_cases c : i = j
    · subst c
      rw [List.getElem?_set_self hi, e]; rfl
    · rw [List.getElem?_set_ne c]
  refine ⟨by rw [em]; exact h.nd, fun p hp => ?_, fun p hp => ?_⟩
  · obtain ⟨j, hj, ej⟩ := List.getElem_of_mem hp
    rw [List.length_set] at hj
    by_cases c : i = j
    · subst c
      rw [List.getElem_set_self] at ej
      subst ej
      exact upd_same
    · rw [List.getElem_set_ne c] at ej
      have e2 : L[j]? = some p := by rw [List.getElem?_eq_getElem hj, ej]
      have nn := h.ne e (b := p.1) (u := p.2) e2 c
      rw [upd_ne (Ne.symm nn)]
      exact h.at_ p (List.mem_of_getElem? e2)
  · obtain ⟨j, hj, ej⟩ := List.getElem_of_mem hp
    rw [List.length_set] at hj
    by_cases c : i = j
    · subst c
      rw [List.getElem_set_self] at ej
      subst ej
      exact (h.get e).2
    · rw [List.getElem_set_ne c] at ej
      exact h.off p (List.mem_of_getElem? (i := j) (by rw [List.getElem?_eq_getElem hj, ej]))
/-- one more, made anew -/
theorem Own2.new {G H : Hp} {L : List (Addr × HO)} (h : Own2 G H L) (s : Same G H) {a : Addr} {o : HO} (n : H a = none) : Own2 G (upd H a o) ((a, o) :: L) := by
  refine ⟨List.nodup_cons.mpr ⟨fun m => ?_, h.nd⟩, fun p hp => ?_, fun p hp => ?_⟩
  · obtain ⟨p, hp, e⟩ := List.mem_map.mp m
    have := h.at_ p hp
    rw [show p.1 = a from e, n] at this
    cases this
  · rcases List.mem_cons.mp hp with rfl | hp
    · exact upd_same
    · exact (h.same (Same.up (Same.refl H) n)).at_ p hp
  · rcases List.mem_cons.mp hp with rfl | hp
    · exact s.free n
    · exact h.off p hp
theorem Own2.base {G H : Hp} {L : List (Addr × HO)} (h : Own2 G H L) (s : Same G H) {i : Nat} {a : Addr} {o o' : HO} (e : L[i]? = some (a, o)) : Same G (upd H a o') := Same.upOff s (h.get e).2
theorem Own2.nil {G H : Hp} : Own2 G H [] := ⟨List.nodup_nil, (fun p h => by cases h), fun p h => by cases h⟩
/-- another one is written -/
theorem Own2.put {G H : Hp} {L : List (Addr × HO)} (h : Own2 G H L) {D : Addr} {o : HO} (n : D ∉ L.map (·.1)) : Own2 G (upd H D o) L :=
  ⟨h.nd, fun p hp => by rw [upd_ne (fun z => n (List.mem_map.mpr ⟨p, hp, z⟩))]; exact h.at_ p hp, h.off⟩
theorem Own2.not {G H : Hp} {L : List (Addr × HO)} (h : Own2 G H L) {D : Addr} (n : H D = none) : D ∉ L.map (·.1) := fun m => by
  obtain ⟨p, hp, e⟩ := List.mem_map.mp m
  have := h.at_ p hp
  rw [show p.1 = D from e, n] at this
  cases this
end Pk
set_option Elab.async false
set_option linter.all false
set_option maxRecDepth 100000
set_option maxHeartbeats 4000000
namespace Pk
open PySem L2
local macro_rules | `(tactic| walk_at "rd") => `(tactic| repeat (first
  | with_reducible refine r_seq ?_ | with_reducible refine r_nxt ?_ | with_reducible refine r_asg ?_ | with_reducible refine r_to ?_ | with_reducible refine r_ret ?_ | with_reducible refine r_for ?_ | with_reducible refine r_lc ?_ | with_reducible refine r_lc2 ?_ | with_reducible refine r_rng1 ?_ | with_reducible refine r_list ?_ | with_reducible refine r_tupI ?_ | with_reducible refine r_drop ?_ | with_reducible refine r_ifs ?_
  | with_reducible refine r_op ?_ | with_reducible refine r_c ?_ | with_reducible refine r_var rfl ?_ | with_reducible refine r_var (by assumption) ?_ | with_reducible refine r_I0 ?_ | with_reducible refine r_un ?_ | with_reducible refine r_U ?_ | with_reducible refine r_make ?_ | with_reducible refine r_makeS ?_ | with_reducible refine r_ifE ?_ | with_reducible refine r_cm ?_ | with_reducible refine r_mkV rfl ?_ | with_reducible refine r_sub ?_
  | with_reducible refine r_nil ?_ | with_reducible refine r_cons ?_ | with_reducible refine r_cb ?_ | with_reducible refine r_sl ?_ | with_reducible refine r_noP ?_ | with_reducible refine r_part ?_ | with_reducible refine r_isI ?_ | with_reducible refine r_lst ?_ | with_reducible refine r_tup ?_ | with_reducible refine r_call ?_ | with_reducible refine r_callS ?_ | with_reducible refine r_sFldU ?_ | with_reducible refine r_chain ?_ | with_reducible refine r_enum ?_ | with_reducible refine r_zip ?_ | with_reducible refine r_rng3 ?_ | with_reducible refine r_gtup ?_ | with_reducible refine r_methU ?_
  | with_reducible refine r_test ?_ | with_reducible refine r_B ?_ | with_reducible refine r_and ?_ | with_reducible refine r_or ?_ | with_reducible refine r_not ?_ | with_reducible refine r_andV ?_ | with_reducible refine r_orV ?_ | with_reducible refine r_notV ?_ | with_reducible refine r_bl ?_ | with_reducible refine r_yes ?_ | with_reducible refine r_int ?_ | with_reducible refine r_is0 ?_ | with_reducible refine r_is1 ?_ | with_reducible refine iteT ?_ | with_reducible refine iteF ?_ | with_reducible refine ite_nF ?_ | with_reducible refine ite_nT ?_
  | with_reducible refine r_mod (by decide) ?_ | with_reducible refine r_div (by decide) (by decide) ?_ | with_reducible refine r_mulR (by decide) (by decide) ?_ | with_reducible refine r_mulL (by decide) (by decide) ?_ | with_reducible refine r_pow (by decide) (by decide) (by decide) ?_))
/-! ### the balance: a cheapest way, as an object -/
structure Bal where
  sp : List Int
  la : List Int
  S : List (List Int)
  gw : List Int
  tw : List Int
  gy : List (Option Int)
  ty : List (Option Int)
structure BalA where
  x : Addr
  dx : Addr
  e : Addr
  a1 : Addr
  a2 : Addr
  aS : Addr
  a4 : Addr
  a5 : Addr
  a6 : Addr
  a7 : Addr
  cs : List Addr
def balF (A : BalA) : List (Str × V) := [("entries", .ref A.e), ("spare", .ref A.a1), ("lacking", .ref A.a2), ("sent", .ref A.aS), ("giver_worths", .ref A.a4), ("taker_worths", .ref A.a5), ("giver_ways", .ref A.a6), ("taker_ways", .ref A.a7)]
def balL (C : Addr) (A : BalA) (b : Bal) : List (Addr × HO) := [(A.x, .ins C A.dx (balF A)), (A.a1, .lst (b.sp.map V.int)), (A.a2, .lst (b.la.map V.int)), (A.aS, .lst (A.cs.map V.ref)), (A.a4, .lst (b.gw.map V.int)), (A.a5, .lst (b.tw.map V.int)), (A.a6, .lst (b.gy.map pV)), (A.a7, .lst (b.ty.map pV))] ++ A.cs.zip (b.S.map fun r => HO.lst (r.map V.int))
structure BalD (R : Rw) (b : Bal) : Prop where
  l1 : b.sp.length = R.length
  l2 : b.la.length = wd R
  l3 : b.S.length = R.length
  l4 : b.gw.length = R.length
  l5 : b.tw.length = wd R
  l6 : ∀ r, r ∈ b.S → r.length = wd R
structure BalH (K : PySem.W.Frag) (C : Addr) (G H : Hp) (A : BalA) (R : Rw) (b : Bal) : Prop where
  own : Own2 G H (balL C A b)
  s : Same G H
  ents : ∃ es, RS K G A.e es R
  d : BalD R b
  cl : A.cs.length = R.length
structure BalC (K : PySem.W.Frag) (C : Addr) : Prop where
  O : OwnC K C
  n0 : NoAttr K C "entries"
  n1 : NoAttr K C "spare"
  n2 : NoAttr K C "lacking"
  n3 : NoAttr K C "sent"
  n4 : NoAttr K C "giver_worths"
  n5 : NoAttr K C "taker_worths"
  n6 : NoAttr K C "giver_ways"
  n7 : NoAttr K C "taker_ways"
section
variable {K : PySem.W.Frag} {C : Addr} {G H H' : Hp} {A : BalA} {R : Rw} {b : Bal}
theorem BalH.same (h : BalH K C G H A R b) (s : Same H H') : BalH K C G H' A R b := ⟨h.own.same s, h.s.trans s, h.ents, h.d, h.cl⟩
theorem BalH.hx (h : BalH K C G H A R b) : H A.x = some (.ins C A.dx (balF A)) := (h.own.get (i := 0) rfl).1
theorem BalH.h1 (h : BalH K C G H A R b) : H A.a1 = some (.lst (b.sp.map V.int)) := (h.own.get (i := 1) rfl).1
theorem BalH.h2 (h : BalH K C G H A R b) : H A.a2 = some (.lst (b.la.map V.int)) := (h.own.get (i := 2) rfl).1
theorem BalH.h3 (h : BalH K C G H A R b) : H A.aS = some (.lst (A.cs.map V.ref)) := (h.own.get (i := 3) rfl).1
theorem BalH.h4 (h : BalH K C G H A R b) : H A.a4 = some (.lst (b.gw.map V.int)) := (h.own.get (i := 4) rfl).1
theorem BalH.h5 (h : BalH K C G H A R b) : H A.a5 = some (.lst (b.tw.map V.int)) := (h.own.get (i := 5) rfl).1
theorem BalH.h6 (h : BalH K C G H A R b) : H A.a6 = some (.lst (b.gy.map pV)) := (h.own.get (i := 6) rfl).1
theorem BalH.h7 (h : BalH K C G H A R b) : H A.a7 = some (.lst (b.ty.map pV)) := (h.own.get (i := 7) rfl).1
theorem BalH.row (h : BalH K C G H A R b) {i : Nat} (hi : i < R.length) : ∃ c, (A.cs.map V.ref)[i]? = some (.ref c) ∧ H c = some (.lst ((b.S.getD i []).map V.int)) := by
  have h1 : i < A.cs.length := by rw [h.cl]; exact hi
  have h2 : i < b.S.length := by rw [h.d.l3]; exact hi
  refine ⟨A.cs[i], by rw [List.getElem?_map, List.getElem?_eq_getElem h1]; rfl, ?_⟩
  have e : (balL C A b)[8 + i]? = some (A.cs[i], .lst ((b.S.getD i []).map V.int)) := by
    unfold balL
    rw [List.getElem?_append_right (by show 8 ≤ 8 + i; omega)]
    show (A.cs.zip (b.S.map fun r => HO.lst (r.map V.int)))[8 + i - 8]? = _
    rw [Nat.add_sub_cancel_left, List.getElem?_zip_eq_some]
    refine ⟨List.getElem?_eq_getElem h1, ?_⟩
    rw [List.getElem?_map, List.getD_eq_getElem?_getD, List.getElem?_eq_getElem h2]; rfl
  exact (h.own.get e).1
end
/-- the gap of a pair -/
def gapB (R : Rw) (b : Bal) (i j : Nat) : Int := (prc R i j).getD 0 - b.gw.getD i 0 - b.tw.getD j 0
def spGap (K : PySem.W.Frag) (C : Addr) : Sp := fun vs H Q _ => ∃ (G : Hp) (A : BalA) (R : Rw) (b : Bal) (i j : Nat), vs = [.ref A.x, .int (i : Int), .int (j : Int)] ∧ BalH K C G H A R b ∧ Gt R ∧ i < R.length ∧ j < wd R ∧ (prc R i j).isSome = true ∧ Q (.int (gapB R b i j)) H
def leastF : List Int → Int
  | [] => 0
  | n :: ns => ns.foldl (fun m k => if k < m then k else m) n
def spLeastN : Sp := fun vs H Q _ => ∃ (a : Addr) (ns : List Int), vs = [.ref a] ∧ H a = some (.lst (ns.map V.int)) ∧ ns ≠ [] ∧ Q (.int (leastF ns)) H
abbrev slLeastN : Stmt := top 12
abbrev slGap : Stmt := inCls 20 1
section
variable {P : Program} {w : World} {K : PySem.W.Frag} {mg : Str → Option Value} {base : Heap} {C f : Addr} {fd : FuncData}
theorem sclLeastN : FnScope ["numbers", "found", "number"] ["numbers"] (defScope slLeastN) := ⟨rfl, rfl, rfl, by decide +kernel, rfl, by decide +kernel, by decide +kernel⟩
theorem ok_leastN (F : Fun K "least" "least" slLeastN f fd) : FnOk P w K mg base CX0 1 f fd ["numbers"] spLeastN := by
  refine F.ok sclLeastN (fun vs H Q E h => ?_) (fun cdv A' outer s H vs Q E hr h => ?_)
  · obtain ⟨a, ns, rfl, _⟩ := h
    rfl
  · obtain ⟨a, ns, rfl, ha, ne, k⟩ := h
    refine ⟨_, (pss_cons (ps_set (i := 1) sclLeastN.nd rfl (Or.inl rfl) (pe_ix ix_list (pv 0) pe_int (fun _ _ => rfl)))
  (pss_cons (ps_for PassesOwn.never rfl (pi_list (pv 0)) (pg_name (i := 2) sclLeastN.nd rfl (Or.inl rfl)) (pss_one (ps_if (pt_cmpR op_lt (pv 2) (pv 1) (nomark _)) (pss_one (ps_set (i := 1) sclLeastN.nd rfl (Or.inl rfl) (pv 2))) pss_nil)))
  (pss_one (ps_ret (pv 1))))), ?_⟩
    cases ns with
    | nil => exact absurd rfl ne
    | cons n ns =>
    walk_at "rd"
    refine r_ixL (SqL.of ha) (atI_nat (j := 0) rfl) ?_
    walk_at "rd"
    refine ⟨a, rfl, ⟨_, SqL.of ha⟩, for_it walk_list (fun i σ H' => ∃ v2, σ = [some (.ref a), some (.int (((n :: ns).take i).foldl (fun m k => if k < m then k else m) n)), v2] ∧ H' = H) ⟨none, rfl, rfl⟩ (fun i σ H' _ z => by obtain ⟨_, _, rfl⟩ := z; exact SqL.of ha) ?_ ?_⟩
    · rintro i y σ H2 H3 hi ⟨v2, rfl, rfl⟩ ⟨rfl, ey⟩
      rw [List.getElem?_map] at ey
      obtain ⟨k0, ek, rfl⟩ := Option.map_eq_some_iff.mp ey
      have tk : (n :: ns).take (i + 1) = (n :: ns).take i ++ [k0] := by rw [List.take_add_one, ek]; rfl
      rw [tk, List.foldl_append]
      generalize ((n :: ns).take i).foldl (fun m k => if k < m then k else m) n = m0
      show _
      refine ⟨_, rfl, ?_⟩
      walk_at "rd"
      by_cases c : k0 < m0
      · refine ifT (decide_eq_true c) ?_
        walk_at "rd"
        refine ⟨some (.int k0), ?_, rfl⟩
        show _ = [some (V.ref a), some (V.int (if k0 < m0 then k0 else m0)), some (V.int k0)]
        rw [if_pos c]; rfl
      · refine ifF (decide_eq_false c) ?_
        refine ⟨some (.int k0), ?_, rfl⟩
        show _ = [some (V.ref a), some (V.int (if k0 < m0 then k0 else m0)), some (V.int k0)]
        rw [if_neg c]; rfl
    · rintro σ H2 ⟨v2, rfl, rfl⟩
      rw [show ((n :: ns).map V.int).length = (n :: ns).length from List.length_map _, List.take_of_length_le (Nat.le_refl _)]
      walk_at "rd"
      have e : (n :: ns).foldl (fun m k => if k < m then k else m) n = leastF (n :: ns) := by
        show ns.foldl (fun m k => if k < m then k else m) (if n < n then n else n) = _
        rw [if_neg (Int.lt_irrefl n)]; rfl
      rw [e]
      exact k
theorem sclGap : FnScope ["self", "i", "j"] ["self", "i", "j"] (defScope slGap) := ⟨rfl, rfl, rfl, by decide +kernel, rfl, by decide +kernel, by decide +kernel⟩
theorem ok_gap (F : Fun K "gap" "Balance.gap" slGap f fd) (T : BalC K C) : FnOk P w K mg base CX0 1 f fd ["self", "i", "j"] (spGap K C) := by
  refine F.ok sclGap (fun vs H Q E h => ?_) (fun cdv A' outer s H vs Q E hr h => ?_)
  · obtain ⟨G, A, R, b, i, j, rfl, _⟩ := h
    rfl
  · obtain ⟨G, A, R, b, i, j, rfl, h, g, hi, hj, ps, k⟩ := h
    refine ⟨_, (pss_one (ps_ret (pe_op op_sub (pe_op op_sub (pe_ix ix_list (pe_ix ix_list (pe_fld (pv 0) rfl) (pv 1) (fun _ _ => rfl)) (pv 2) (fun _ _ => rfl)) (pe_ix ix_list (pe_fld (pv 0) rfl) (pv 1) (fun _ _ => rfl))) (pe_ix ix_list (pe_fld (pv 0) rfl) (pv 2) (fun _ _ => rfl))))), ?_⟩
    obtain ⟨es, rs⟩ := h.ents
    have rs := rs.same h.s
    obtain ⟨rb, er, hrb⟩ := rs.get hi
    obtain ⟨p, ep⟩ := Option.isSome_iff_exists.mp ps
    walk_at "rd"
    refine r_fldV rfl h.hx T.O.cl T.n0 rfl ?_
    walk_at "rd"
    refine r_ixL rs.at_ (atI_nat er) ?_
    walk_at "rd"
    have hv : ((R.getD i []).map pV)[j]? = some (V.int p) := by rw [prc_get g hi hj, ep]; rfl
    refine r_ixL hrb (atI_nat hv) ?_
    walk_at "rd"
    refine r_fldV rfl h.hx T.O.cl T.n4 rfl ?_
    walk_at "rd"
    have hg : (b.gw.map V.int)[i]? = some (V.int (b.gw.getD i 0)) := by
      rw [List.getElem?_map, List.getD_eq_getElem?_getD, List.getElem?_eq_getElem (by rw [h.d.l4]; exact hi)]; rfl
    refine r_ixL (SqL.of h.h4) (atI_nat hg) ?_
    walk_at "rd"
    refine r_fldV rfl h.hx T.O.cl T.n5 rfl ?_
    walk_at "rd"
    have ht : (b.tw.map V.int)[j]? = some (V.int (b.tw.getD j 0)) := by
      rw [List.getElem?_map, List.getD_eq_getElem?_getD, List.getElem?_eq_getElem (by rw [h.d.l5]; exact hj)]; rfl
    refine r_ixL (SqL.of h.h5) (atI_nat ht) ?_
    walk_at "rd"
    unfold gapB at k
    rw [ep] at k
    exact k
end
end Pk
set_option Elab.async false
set_option linter.all false
set_option maxRecDepth 100000
set_option maxHeartbeats 4000000
namespace Pk
open PySem L2
local macro_rules | `(tactic| walk_at "rd") => `(tactic| repeat (first
  | with_reducible refine r_seq ?_ | with_reducible refine r_nxt ?_ | with_reducible refine r_asg ?_ | with_reducible refine r_to ?_ | with_reducible refine r_ret ?_ | with_reducible refine r_for ?_ | with_reducible refine r_lc ?_ | with_reducible refine r_lc2 ?_ | with_reducible refine r_rng1 ?_ | with_reducible refine r_list ?_ | with_reducible refine r_tupI ?_ | with_reducible refine r_drop ?_ | with_reducible refine r_ifs ?_
  | with_reducible refine r_op ?_ | with_reducible refine r_c ?_ | with_reducible refine r_var rfl ?_ | with_reducible refine r_var (by assumption) ?_ | with_reducible refine r_I0 ?_ | with_reducible refine r_un ?_ | with_reducible refine r_U ?_ | with_reducible refine r_make ?_ | with_reducible refine r_makeS ?_ | with_reducible refine r_ifE ?_ | with_reducible refine r_cm ?_ | with_reducible refine r_mkV rfl ?_ | with_reducible refine r_sub ?_
  | with_reducible refine r_nil ?_ | with_reducible refine r_cons ?_ | with_reducible refine r_cb ?_ | with_reducible refine r_sl ?_ | with_reducible refine r_noP ?_ | with_reducible refine r_part ?_ | with_reducible refine r_isI ?_ | with_reducible refine r_lst ?_ | with_reducible refine r_tup ?_ | with_reducible refine r_call ?_ | with_reducible refine r_callS ?_ | with_reducible refine r_sFldU ?_ | with_reducible refine r_chain ?_ | with_reducible refine r_enum ?_ | with_reducible refine r_zip ?_ | with_reducible refine r_rng3 ?_ | with_reducible refine r_gtup ?_ | with_reducible refine r_methU ?_
  | with_reducible refine r_test ?_ | with_reducible refine r_B ?_ | with_reducible refine r_and ?_ | with_reducible refine r_or ?_ | with_reducible refine r_not ?_ | with_reducible refine r_andV ?_ | with_reducible refine r_orV ?_ | with_reducible refine r_notV ?_ | with_reducible refine r_bl ?_ | with_reducible refine r_yes ?_ | with_reducible refine r_int ?_ | with_reducible refine r_is0 ?_ | with_reducible refine r_is1 ?_ | with_reducible refine iteT ?_ | with_reducible refine iteF ?_ | with_reducible refine ite_nF ?_ | with_reducible refine ite_nT ?_
  | with_reducible refine r_mod (by decide) ?_ | with_reducible refine r_div (by decide) (by decide) ?_ | with_reducible refine r_mulR (by decide) (by decide) ?_ | with_reducible refine r_mulL (by decide) (by decide) ?_ | with_reducible refine r_pow (by decide) (by decide) (by decide) ?_))
/-! ### the balance: a step of the search -/
section
variable {K : PySem.W.Frag} {C : Addr} {G H : Hp} {A : BalA} {R : Rw} {b : Bal}
theorem BalH.setTy (h : BalH K C G H A R b) (ty : List (Option Int)) : BalH K C G (upd H A.a7 (.lst (ty.map pV))) A R { b with ty := ty } :=
  ⟨h.own.set (i := 7) rfl, h.own.base h.s (i := 7) rfl, h.ents, ⟨h.d.l1, h.d.l2, h.d.l3, h.d.l4, h.d.l5, h.d.l6⟩, h.cl⟩
theorem BalH.setGy (h : BalH K C G H A R b) (gy : List (Option Int)) : BalH K C G (upd H A.a6 (.lst (gy.map pV))) A R { b with gy := gy } :=
  ⟨h.own.set (i := 6) rfl, h.own.base h.s (i := 6) rfl, h.ents, ⟨h.d.l1, h.d.l2, h.d.l3, h.d.l4, h.d.l5, h.d.l6⟩, h.cl⟩
theorem BalH.put (h : BalH K C G H A R b) {D : Addr} {o : HO} (n : D ∉ (balL C A b).map (·.1)) (nG : G D = none) : BalH K C G (upd H D o) A R b :=
  ⟨h.own.put n, Same.upOff h.s nG, h.ents, h.d, h.cl⟩
end
def taStep (R : Rw) (b : Bal) (i : Nat) (st : List (Option Int) × List Nat) (j : Nat) : List (Option Int) × List Nat :=
  if (prc R i j).isSome = true ∧ st.1.getD j none = none ∧ gapB R b i j = 0 then (st.1.set j (some (i : Int)), st.2 ++ [j]) else st
def taRow (R : Rw) (b : Bal) (st : List (Option Int) × List Nat) (i : Nat) : List (Option Int) × List Nat := (List.range (wd R)).foldl (taStep R b i) st
def takersF (R : Rw) (b : Bal) (gs : List Nat) : List (Option Int) × List Nat := gs.foldl (taRow R b) (b.ty, [])
theorem taStep_len (R : Rw) (b : Bal) (i : Nat) (st : List (Option Int) × List Nat) (j : Nat) : (taStep R b i st j).1.length = st.1.length ∧ (taStep R b i st j).2.length ≤ st.2.length + 1 := by
  unfold taStep
  split
  · exact ⟨List.length_set, by rw [List.length_append]; exact Nat.le_refl _⟩
  · exact ⟨rfl, Nat.le_succ _⟩
theorem taFold_len (R : Rw) (b : Bal) (i : Nat) : ∀ (js : List Nat) (st : List (Option Int) × List Nat), (js.foldl (taStep R b i) st).1.length = st.1.length ∧ (js.foldl (taStep R b i) st).2.length ≤ st.2.length + js.length
  | [], st => ⟨rfl, Nat.le_refl _⟩
  | j :: js, st => by
    obtain ⟨h1, h2⟩ := taStep_len R b i st j
    obtain ⟨h3, h4⟩ := taFold_len R b i js (taStep R b i st j)
    rw [List.foldl_cons, List.length_cons]
    exact ⟨h3.trans h1, by omega⟩
theorem taRows_len (R : Rw) (b : Bal) : ∀ (gs : List Nat) (st : List (Option Int) × List Nat), (gs.foldl (taRow R b) st).1.length = st.1.length ∧ (gs.foldl (taRow R b) st).2.length ≤ st.2.length + gs.length * wd R
  | [], st => ⟨rfl, by simp⟩
  | i :: gs, st => by
    obtain ⟨h1, h2⟩ := taFold_len R b i (List.range (wd R)) st
    obtain ⟨h3, h4⟩ := taRows_len R b gs (taRow R b st i)
    rw [List.length_range] at h2
    rw [List.foldl_cons, List.length_cons, Nat.succ_mul]
    have h2 : (taRow R b st i).2.length ≤ st.2.length + wd R := h2
    exact ⟨h3.trans h1, by omega⟩
def natV (ns : List Nat) : List V := ns.map fun n : Nat => V.int (n : Int)
def spTA (K : PySem.W.Frag) (C : Addr) : Sp := fun vs H Q _ => ∃ (G : Hp) (A : BalA) (R : Rw) (b : Bal) (ga : Addr) (gs : List Nat), vs = [.ref A.x, .ref ga] ∧ BalH K C G H A R b ∧ Gt R ∧ b.ty.length = wd R ∧ ga ≠ A.a7 ∧ H ga = some (.lst (natV gs)) ∧ (∀ i, i ∈ gs → i < R.length) ∧ gs.length ≤ 8 ∧
  ∀ (r : Addr) (H' : Hp), Keep A.a7 H H' → H r = none → H' r = some (.lst (natV (takersF R b gs).2)) → BalH K C G H' A R { b with ty := (takersF R b gs).1 } → Q (.ref r) H'
abbrev slTA : Stmt := inCls 20 4
theorem pV_someB (z : Option Int) : (!decide (pV z = .non)) = z.isSome := by cases z <;> rfl
theorem pV_non {o : Option Int} : decide (pV o = V.non) = o.isNone := by cases o <;> rfl
section
variable {P : Program} {w : World} {K : PySem.W.Frag} {mg : Str → Option Value} {base : Heap} {C f : Addr} {fd : FuncData}
theorem sclTA : FnScope ["self", "givers", "found", "i", "j", "price"] ["self", "givers"] (defScope slTA) := ⟨rfl, rfl, rfl, by decide +kernel, rfl, by decide +kernel, by decide +kernel⟩
theorem ok_TA {fG : Addr} {fdG : FuncData} (F : Fun K "takers_after" "Balance.takers_after" slTA f fd) (T : Bt mg) (B : BalC K C) (mG : Meth K C "gap" fG) (oG : FnOk P w K mg base CX0 1 fG fdG ["self", "i", "j"] (spGap K C)) (bG : Binds K fdG ["self", "i", "j"] []) : FnOk P w K mg base CX0 2 f fd ["self", "givers"] (spTA K C) := by
  refine F.ok sclTA (fun vs H Q E h => ?_) (fun cdv A' outer s H vs Q E hr h => ?_)
  · obtain ⟨G, A, R, b, ga, gs, rfl, _⟩ := h
    rfl
  · obtain ⟨G, A, R, b, ga, gs, rfl, h, g, tl, g7, hga, gsR, g8, k⟩ := h
    have hr1 := hr.mono (show 1 ≤ 1 by decide)
    refine ⟨_, (pss_cons (ps_set (i := 2) sclTA.nd rfl (Or.inl rfl) (pe_lst pa_nil))
  (pss_cons (ps_for PassesOwn.never rfl (pi_list (pv 1)) (pg_name (i := 3) sclTA.nd rfl (Or.inl rfl)) (pss_one (ps_for PassesOwn.never rfl (pi_enum (by rfl) T.enumerate (pa_cons (pe_ix ix_list (pe_fld (pv 0) rfl) (pv 3) (fun _ _ => rfl)) pa_nil)) (pg_tup (by rfl) (pgs_cons (pg_name (i := 4) sclTA.nd rfl (Or.inl rfl)) (pgs_cons (pg_name (i := 5) sclTA.nd rfl (Or.inl rfl)) pgs_nil))) (pss_one (ps_if (PW.pt (pw_and (pt_cmpR op_is1 (pv 5) pe_non (nomark _)) (pw_and (pt_cmpR op_is0 (pe_ix ix_list (pe_fld (pv 0) rfl) (pv 4) (fun _ _ => rfl)) pe_non (nomark _)) (pw_and1 (pt_cmpR op_eq (pe_meth (pv 0) B.O.cl mG oG hr1 bG .nil pass0 (pa_cons (pv 3) (pa_cons (pv 4) pa_nil))) pe_int (nomark _)))))) (pss_cons (ps_asg (pv 3) (pg_sub (pe_fld (pv 0) rfl) (pv 4) set_list))
  (pss_one (ps_expr (pe_bm PySem.F.plainAttrs_list PySem.F.slot_list_append PySem.F.type_list_append mt_append (pv 2) (pa_cons (pv 4) pa_nil))))) pss_nil)))))
  (pss_one (ps_ret (pv 2))))), ?_⟩
    have gg8 := g.h8
    have w8 := g.w8
    walk_at "rd"
    refine ⟨Nat.zero_le _, fun D nD => ?_⟩
    have s1 := Same.up (o := .lst []) (Same.refl H) nD
    have hD1 : upd H D (.lst []) D = some (.lst []) := upd_same
    obtain ⟨H1, eH1⟩ : ∃ H1, H1 = upd H D (.lst []) := ⟨_, rfl⟩
    rw [← eH1] at s1 hD1 ⊢
    have D7 : D ≠ A.a7 := fun z => by rw [z, h.h7] at nD; cases nD
    walk_at "rd"
    refine ⟨ga, rfl, ⟨_, SqL.of (s1 _ _ hga)⟩, for_it walk_list (fun q σ H' => ∃ v3 v4 v5, σ = [some (.ref A.x), some (.ref ga), some (.ref D), v3, v4, v5] ∧ Keep A.a7 H H' ∧ H' D = some (.lst (natV ((gs.take q).foldl (taRow R b) (b.ty, [])).2)) ∧ BalH K C G H' A R { b with ty := ((gs.take q).foldl (taRow R b) (b.ty, [])).1 }) ⟨_, _, _, rfl, Keep.same s1, hD1, h.same s1⟩ (fun q σ H' _ z => by obtain ⟨_, _, _, _, z, _⟩ := z; exact SqL.of (z _ _ g7 hga)) ?_ ?_⟩
    · rintro q y σ H2 H3 hq ⟨v3, v4, v5, rfl, k3, hD3, h3⟩ ⟨rfl, ey⟩
      unfold natV at ey
      rw [List.getElem?_map] at ey
      obtain ⟨i, ei, rfl⟩ := Option.map_eq_some_iff.mp ey
      have iR := gsR i (List.mem_of_getElem? ei)
      have tk : gs.take (q + 1) = gs.take q ++ [i] := by rw [List.take_add_one, ei]; rfl
      have ql : (gs.take q).length ≤ 8 := by rw [List.length_take]; omega
      obtain ⟨fl1, fl2⟩ := taRows_len R b (gs.take q) (b.ty, [])
      rw [tk, List.foldl_append]
      generalize (gs.take q).foldl (taRow R b) (b.ty, []) = st at hD3 h3 fl1 fl2 ⊢
      have fb := Nat.mul_le_mul ql w8
      have st2 : st.2.length ≤ 64 := by have : ([] : List Nat).length = 0 := rfl; simp only [this] at fl2; omega
      have st1 : st.1.length = wd R := fl1.trans tl
      obtain ⟨es, rs⟩ := h3.ents
      have rs3 := rs.same h3.s
      obtain ⟨rb, er, hrb⟩ := rs.get iR
      refine ⟨_, rfl, ?_⟩
      walk_at "rd"
      refine ⟨A.x, C, A.dx, balF A, _, rfl, h3.hx, B.O.cl, B.n0, rfl, ?_⟩
      walk_at "rd"
      refine r_ixL rs3.at_ (atI_nat er) ?_
      walk_at "rd"
      have rowl : ((R.getD i []).map pV).length = wd R := by rw [List.length_map, g.getD iR, g.len iR]
      refine ⟨rb, (R.getD i []).map pV, rfl, h3.s.seq hrb, for_it walk_enum (fun j σ H' => ∃ v4 v5, σ = [some (.ref A.x), some (.ref ga), some (.ref D), some (.int (i : Int)), v4, v5] ∧ Keep A.a7 H H' ∧ H' D = some (.lst (natV ((((List.range (wd R)).take j).foldl (taStep R b i) st)).2)) ∧ BalH K C G H' A R { b with ty := (((List.range (wd R)).take j).foldl (taStep R b i) st).1 }) ⟨_, _, rfl, k3, hD3, h3⟩ (fun j σ H' _ z => by obtain ⟨_, _, _, _, _, z⟩ := z; exact z.s.seq hrb) ?_ ?_⟩
      · rintro j y2 σ H40 H4 hj ⟨v4, v5, rfl, k4, hD4, h4⟩ ⟨t5, i5, y5, rfl, ht5, rfl, e3, e4⟩
        cases (Option.some.inj e3)
        have hjr : j < wd R := by rw [← rowl]; exact hj
        have e4 : ((R.getD i []).map pV)[j]? = some y5 := e4
        have ey5 : y5 = pV (prc R i j) := by
          rw [prc_get g iR hjr] at e4
          exact (Option.some.inj e4).symm
        subst ey5
        have tkj : (List.range (wd R)).take (j + 1) = (List.range (wd R)).take j ++ [j] := by rw [List.take_add_one, List.getElem?_range hjr]; rfl
        have jl : ((List.range (wd R)).take j).length = j := by rw [List.length_take, List.length_range]; omega
        obtain ⟨sl1, sl2⟩ := taFold_len R b i ((List.range (wd R)).take j) st
        rw [tkj, List.foldl_append]
        generalize ((List.range (wd R)).take j).foldl (taStep R b i) st = su at hD4 h4 sl1 sl2 ⊢
        rw [jl] at sl2
        have su1 : su.1.length = wd R := sl1.trans st1
        refine r_gtup ⟨t5, _, rfl, SqT.of upd_same, rfl, _, _, rfl, ?_⟩
        have s5 := Same.up (o := .tup [V.int (j : Int), pV (prc R i j)]) (Same.refl H40) ht5
        obtain ⟨H5, eH5⟩ : ∃ H5, H5 = upd H40 t5 (.tup [V.int (j : Int), pV (prc R i j)]) := ⟨_, rfl⟩
        rw [← eH5] at s5 ⊢
        have k5 := k4.trans (Keep.same s5)
        have hD5 := s5 _ _ hD4
        have h5 := h4.same s5
        have no : ∀ {H' : Hp}, Same H5 H' → taStep R b i su j = su → ∃ w4 w5, ([some (.ref A.x), some (.ref ga), some (.ref D), some (.int (i : Int)), some (.int (j : Int)), some (pV (prc R i j))] : L2.St) = [some (.ref A.x), some (.ref ga), some (.ref D), some (.int (i : Int)), w4, w5] ∧ Keep A.a7 H H' ∧ H' D = some (.lst (natV (List.foldl (taStep R b i) su [j]).2)) ∧ BalH K C G H' A R { b with ty := (List.foldl (taStep R b i) su [j]).1 } := fun {H'} s' e => by
          refine ⟨_, _, rfl, k5.trans (Keep.same s'), ?_, ?_⟩
          · show H' D = some (.lst (natV (taStep R b i su j).2))
            rw [e]; exact s' _ _ hD5
          · show BalH K C G H' A R { b with ty := (taStep R b i su j).1 }
            rw [e]; exact h5.same s'
        walk_at "rd"
        refine ⟨_, _, rfl, ?_⟩
        walk_at "rd"
        refine ⟨rfl, ?_⟩
        walk_at "rd"
        rw [pV_someB]
        by_cases c1 : (prc R i j).isSome = true
        · refine ifT c1 ?_
          walk_at "rd"
          refine r_fldV rfl h5.hx B.O.cl B.n7 rfl ?_
          walk_at "rd"
          have ht : (su.1.map pV)[j]? = some (pV (su.1.getD j none)) := by
            rw [List.getElem?_map, List.getD_eq_getElem?_getD, List.getElem?_eq_getElem (by rw [su1]; exact hjr)]; rfl
          refine r_ixL (SqL.of h5.h7) (atI_nat ht) ?_
          walk_at "rd"
          rw [pV_non]
          by_cases c2 : su.1.getD j none = none
          · refine ifT (by rw [c2]; rfl) ?_
            walk_at "rd"
            refine ⟨A.x, A.dx, balF A, rfl, h5.hx, rfl, ?_⟩
            walk_at "rd"
            refine ⟨G, A, R, _, i, j, rfl, h5, g, iR, hjr, c1, ?_⟩
            walk_at "rd"
            refine r_eq rfl ?_
            refine ⟨_, rfl, ?_⟩
            by_cases c3 : gapB R b i j = 0
            · refine ifT (decide_eq_true (by show V.int (gapB R b i j) = V.int 0; rw [c3])) ?_
              refine r_seq ?_
              refine r_asg ?_
              walk_at "rd"
              refine r_fldV rfl h5.hx B.O.cl B.n7 rfl ?_
              walk_at "rd"
              refine r_setL h5.h7 (ixN_nat (by rw [List.length_map, su1]; exact hjr)) ?_
              have e7 : (su.1.map pV).set j (V.int (i : Int)) = (su.1.set j (some (i : Int))).map pV := by rw [List.map_set]; rfl
              rw [e7]
              have h6 := h5.setTy (su.1.set j (some (i : Int)))
              have k6 : Keep A.a7 H (upd H5 A.a7 (.lst ((su.1.set j (some (i : Int))).map pV))) := fun c o n e => by rw [upd_ne n]; exact k5 c o n e
              have hD6 : (upd H5 A.a7 (.lst ((su.1.set j (some (i : Int))).map pV))) D = some (.lst (natV su.2)) := by rw [upd_ne D7]; exact hD5
              obtain ⟨H6, eH6⟩ : ∃ H6, H6 = upd H5 A.a7 (.lst ((su.1.set j (some (i : Int))).map pV)) := ⟨_, rfl⟩
              rw [← eH6] at h6 k6 hD6 ⊢
              have yes : taStep R b i su j = (su.1.set j (some (i : Int)), su.2 ++ [j]) := by unfold taStep; rw [if_pos ⟨c1, c2, c3⟩]
              walk_at "rd"
              refine r_bm ?_
              walk_at "rd"
              refine ⟨.inl ⟨rfl, _, SqL.of hD6⟩, ?_⟩
              walk_at "rd"
              have nl : (natV su.2).length ≤ 80 := by unfold natV; rw [List.length_map]; omega
              have nD6 : G D = none := h.s.free nD
              refine ⟨D, natV su.2, _, rfl, rfl, hD6, Nat.lt_of_le_of_lt nl (by decide), ?_⟩
              refine ⟨_, _, rfl, fun c o n e => ?_, ?_, ?_⟩
              · rw [upd_ne (fun z => by rw [z, nD] at e; cases e)]; exact k6 c o n e
              · rw [upd_same]
                show some (HO.lst (natV su.2 ++ [V.int (j : Int)])) = some (.lst (natV (taStep R b i su j).2))
                rw [yes]
                unfold natV
                rw [List.map_append]; rfl
              · show BalH K C G _ A R { b with ty := (taStep R b i su j).1 }
                rw [yes]
                exact h6.put (h.own.not nD) nD6
            · refine ifF (decide_eq_false fun z => c3 (V.int.inj z)) ?_
              exact no (Same.refl H5) (by unfold taStep; rw [if_neg (fun z => c3 z.2.2)])
          · refine ifF (by cases e : su.1.getD j none with | none => exact absurd e c2 | some _ => rfl) ?_
            exact no (Same.refl H5) (by unfold taStep; rw [if_neg (fun z => c2 z.2.1)])
        · refine ifF (by simpa using c1) ?_
          exact no (Same.refl H5) (by unfold taStep; rw [if_neg (fun z => c1 z.1)])
      · rintro σ H4 ⟨v4, v5, rfl, k4, hD4, h4⟩
        rw [rowl, List.take_of_length_le (by rw [List.length_range]; exact Nat.le_refl _)] at hD4 h4
        exact ⟨_, _, _, rfl, k4, hD4, h4⟩
    · rintro σ H2 ⟨v3, v4, v5, rfl, k2, hD2, h2⟩
      have e : (natV gs).length = gs.length := by unfold natV; rw [List.length_map]
      rw [e, List.take_of_length_le (Nat.le_refl _)] at hD2 h2
      walk_at "rd"
      exact k D H2 k2 nD hD2 h2
end
end Pk
set_option Elab.async false
set_option linter.all false
set_option maxRecDepth 100000
set_option maxHeartbeats 4000000
namespace Pk
open PySem L2
local macro_rules | `(tactic| walk_at "rd") => `(tactic| repeat (first
  | with_reducible refine r_seq ?_ | with_reducible refine r_nxt ?_ | with_reducible refine r_asg ?_ | with_reducible refine r_to ?_ | with_reducible refine r_ret ?_ | with_reducible refine r_for ?_ | with_reducible refine r_lc ?_ | with_reducible refine r_lc2 ?_ | with_reducible refine r_rng1 ?_ | with_reducible refine r_list ?_ | with_reducible refine r_tupI ?_ | with_reducible refine r_drop ?_ | with_reducible refine r_ifs ?_
  | with_reducible refine r_op ?_ | with_reducible refine r_c ?_ | with_reducible refine r_var rfl ?_ | with_reducible refine r_var (by assumption) ?_ | with_reducible refine r_I0 ?_ | with_reducible refine r_un ?_ | with_reducible refine r_U ?_ | with_reducible refine r_make ?_ | with_reducible refine r_makeS ?_ | with_reducible refine r_ifE ?_ | with_reducible refine r_cm ?_ | with_reducible refine r_mkV rfl ?_ | with_reducible refine r_sub ?_
  | with_reducible refine r_nil ?_ | with_reducible refine r_cons ?_ | with_reducible refine r_cb ?_ | with_reducible refine r_sl ?_ | with_reducible refine r_noP ?_ | with_reducible refine r_part ?_ | with_reducible refine r_isI ?_ | with_reducible refine r_lst ?_ | with_reducible refine r_tup ?_ | with_reducible refine r_call ?_ | with_reducible refine r_callS ?_ | with_reducible refine r_sFldU ?_ | with_reducible refine r_chain ?_ | with_reducible refine r_enum ?_ | with_reducible refine r_zip ?_ | with_reducible refine r_rng3 ?_ | with_reducible refine r_gtup ?_ | with_reducible refine r_methU ?_
  | with_reducible refine r_test ?_ | with_reducible refine r_B ?_ | with_reducible refine r_and ?_ | with_reducible refine r_or ?_ | with_reducible refine r_not ?_ | with_reducible refine r_andV ?_ | with_reducible refine r_orV ?_ | with_reducible refine r_notV ?_ | with_reducible refine r_bl ?_ | with_reducible refine r_yes ?_ | with_reducible refine r_int ?_ | with_reducible refine r_is0 ?_ | with_reducible refine r_is1 ?_ | with_reducible refine iteT ?_ | with_reducible refine iteF ?_ | with_reducible refine ite_nF ?_ | with_reducible refine ite_nT ?_
  | with_reducible refine r_mod (by decide) ?_ | with_reducible refine r_div (by decide) (by decide) ?_ | with_reducible refine r_mulR (by decide) (by decide) ?_ | with_reducible refine r_mulL (by decide) (by decide) ?_ | with_reducible refine r_pow (by decide) (by decide) (by decide) ?_))
/-! ### the balance: the other step of the search -/
def sentB (b : Bal) (i j : Nat) : Int := (b.S.getD i []).getD j 0
def gaStep (b : Bal) (j : Nat) (st : List (Option Int) × List Nat) (i : Nat) : List (Option Int) × List Nat :=
  if 0 < sentB b i j ∧ st.1.getD i none = none then (st.1.set i (some (j : Int)), st.2 ++ [i]) else st
def gaRow (R : Rw) (b : Bal) (st : List (Option Int) × List Nat) (j : Nat) : List (Option Int) × List Nat := (List.range R.length).foldl (gaStep b j) st
def giversF (R : Rw) (b : Bal) (ts : List Nat) : List (Option Int) × List Nat := ts.foldl (gaRow R b) (b.gy, [])
theorem gaStep_len (b : Bal) (j : Nat) (st : List (Option Int) × List Nat) (i : Nat) : (gaStep b j st i).1.length = st.1.length ∧ (gaStep b j st i).2.length ≤ st.2.length + 1 := by
  unfold gaStep
  split
  · exact ⟨List.length_set, by rw [List.length_append]; exact Nat.le_refl _⟩
  · exact ⟨rfl, Nat.le_succ _⟩
theorem gaFold_len (b : Bal) (j : Nat) : ∀ (js : List Nat) (st : List (Option Int) × List Nat), (js.foldl (gaStep b j) st).1.length = st.1.length ∧ (js.foldl (gaStep b j) st).2.length ≤ st.2.length + js.length
  | [], st => ⟨rfl, Nat.le_refl _⟩
  | i :: js, st => by
    obtain ⟨h1, h2⟩ := gaStep_len b j st i
    obtain ⟨h3, h4⟩ := gaFold_len b j js (gaStep b j st i)
    rw [List.foldl_cons, List.length_cons]
    exact ⟨h3.trans h1, by omega⟩
theorem gaRows_len (R : Rw) (b : Bal) : ∀ (gs : List Nat) (st : List (Option Int) × List Nat), (gs.foldl (gaRow R b) st).1.length = st.1.length ∧ (gs.foldl (gaRow R b) st).2.length ≤ st.2.length + gs.length * R.length
  | [], st => ⟨rfl, by simp⟩
  | i :: gs, st => by
    obtain ⟨h1, h2⟩ := gaFold_len b i (List.range R.length) st
    obtain ⟨h3, h4⟩ := gaRows_len R b gs (gaRow R b st i)
    rw [List.length_range] at h2
    rw [List.foldl_cons, List.length_cons, Nat.succ_mul]
    have h2 : (gaRow R b st i).2.length ≤ st.2.length + R.length := h2
    exact ⟨h3.trans h1, by omega⟩
def spGA (K : PySem.W.Frag) (C : Addr) : Sp := fun vs H Q _ => ∃ (G : Hp) (A : BalA) (R : Rw) (b : Bal) (ta : Addr) (ts : List Nat), vs = [.ref A.x, .ref ta] ∧ BalH K C G H A R b ∧ Gt R ∧ b.gy.length = R.length ∧ ta ≠ A.a6 ∧ H ta = some (.lst (natV ts)) ∧ (∀ j, j ∈ ts → j < wd R) ∧ ts.length ≤ 64 ∧
  ∀ (r : Addr) (H' : Hp), Keep A.a6 H H' → H r = none → H' r = some (.lst (natV (giversF R b ts).2)) → BalH K C G H' A R { b with gy := (giversF R b ts).1 } → Q (.ref r) H'
abbrev slGA : Stmt := inCls 20 5
section
variable {P : Program} {w : World} {K : PySem.W.Frag} {mg : Str → Option Value} {base : Heap} {C f : Addr} {fd : FuncData}
theorem sclGA : FnScope ["self", "takers", "found", "j", "i", "row"] ["self", "takers"] (defScope slGA) := ⟨rfl, rfl, rfl, by decide +kernel, rfl, by decide +kernel, by decide +kernel⟩
theorem ok_GA (F : Fun K "givers_after" "Balance.givers_after" slGA f fd) (T : Bt mg) (B : BalC K C) : FnOk P w K mg base CX0 2 f fd ["self", "takers"] (spGA K C) := by
  refine F.ok sclGA (fun vs H Q E h => ?_) (fun cdv A' outer s H vs Q E hr h => ?_)
  · obtain ⟨G, A, R, b, ta, ts, rfl, _⟩ := h
    rfl
  · obtain ⟨G, A, R, b, ta, ts, rfl, h, g, gl, t6, hta, tsR, t64, k⟩ := h
    refine ⟨_, (pss_cons (ps_set (i := 2) sclGA.nd rfl (Or.inl rfl) (pe_lst pa_nil))
  (pss_cons (ps_for PassesOwn.never rfl (pi_list (pv 1)) (pg_name (i := 3) sclGA.nd rfl (Or.inl rfl)) (pss_one (ps_for PassesOwn.never rfl (pi_enum (by rfl) T.enumerate (pa_cons (pe_fld (pv 0) rfl) pa_nil)) (pg_tup (by rfl) (pgs_cons (pg_name (i := 4) sclGA.nd rfl (Or.inl rfl)) (pgs_cons (pg_name (i := 5) sclGA.nd rfl (Or.inl rfl)) pgs_nil))) (pss_one (ps_if (PW.pt (pw_and (pt_cmpR op_gt (pe_ix ix_list (pv 5) (pv 3) (fun _ _ => rfl)) pe_int (nomark _)) (pw_and1 (pt_cmpR op_is0 (pe_ix ix_list (pe_fld (pv 0) rfl) (pv 4) (fun _ _ => rfl)) pe_non (nomark _))))) (pss_cons (ps_asg (pv 3) (pg_sub (pe_fld (pv 0) rfl) (pv 4) set_list))
  (pss_one (ps_expr (pe_bm PySem.F.plainAttrs_list PySem.F.slot_list_append PySem.F.type_list_append mt_append (pv 2) (pa_cons (pv 4) pa_nil))))) pss_nil)))))
  (pss_one (ps_ret (pv 2))))), ?_⟩
    have gg8 := g.h8
    walk_at "rd"
    refine ⟨Nat.zero_le _, fun D nD => ?_⟩
    have s1 := Same.up (o := .lst []) (Same.refl H) nD
    have hD1 : upd H D (.lst []) D = some (.lst []) := upd_same
    obtain ⟨H1, eH1⟩ : ∃ H1, H1 = upd H D (.lst []) := ⟨_, rfl⟩
    rw [← eH1] at s1 hD1 ⊢
    have D6 : D ≠ A.a6 := fun z => by rw [z, h.h6] at nD; cases nD
    have a36 : A.aS ≠ A.a6 := h.own.ne (i := 3) (j := 6) rfl rfl (by decide)
    walk_at "rd"
    refine ⟨ta, rfl, ⟨_, SqL.of (s1 _ _ hta)⟩, for_it walk_list (fun q σ H' => ∃ v3 v4 v5, σ = [some (.ref A.x), some (.ref ta), some (.ref D), v3, v4, v5] ∧ Keep A.a6 H H' ∧ H' D = some (.lst (natV ((ts.take q).foldl (gaRow R b) (b.gy, [])).2)) ∧ BalH K C G H' A R { b with gy := ((ts.take q).foldl (gaRow R b) (b.gy, [])).1 }) ⟨_, _, _, rfl, Keep.same s1, hD1, h.same s1⟩ (fun q σ H' _ z => by obtain ⟨_, _, _, _, z, _⟩ := z; exact SqL.of (z _ _ t6 hta)) ?_ ?_⟩
    · rintro q y σ H2 H3 hq ⟨v3, v4, v5, rfl, k3, hD3, h3⟩ ⟨rfl, ey⟩
      unfold natV at ey
      rw [List.getElem?_map] at ey
      obtain ⟨j, ej, rfl⟩ := Option.map_eq_some_iff.mp ey
      have jR := tsR j (List.mem_of_getElem? ej)
      have tk : ts.take (q + 1) = ts.take q ++ [j] := by rw [List.take_add_one, ej]; rfl
      have ql : (ts.take q).length ≤ 64 := by rw [List.length_take]; omega
      obtain ⟨fl1, fl2⟩ := gaRows_len R b (ts.take q) (b.gy, [])
      rw [tk, List.foldl_append]
      generalize (ts.take q).foldl (gaRow R b) (b.gy, []) = st at hD3 h3 fl1 fl2 ⊢
      have fb := Nat.mul_le_mul ql gg8
      have st2 : st.2.length ≤ 512 := by have : ([] : List Nat).length = 0 := rfl; simp only [this] at fl2; omega
      have st1 : st.1.length = R.length := fl1.trans gl
      refine ⟨_, rfl, ?_⟩
      walk_at "rd"
      refine ⟨A.x, C, A.dx, balF A, _, rfl, h3.hx, B.O.cl, B.n3, rfl, ?_⟩
      walk_at "rd"
      have csl : (A.cs.map V.ref).length = R.length := by rw [List.length_map, h.cl]
      refine ⟨A.aS, A.cs.map V.ref, rfl, SqL.of h3.h3, for_it walk_enum (fun i σ H' => ∃ v4 v5, σ = [some (.ref A.x), some (.ref ta), some (.ref D), some (.int (j : Int)), v4, v5] ∧ Keep A.a6 H H' ∧ H' D = some (.lst (natV ((((List.range R.length).take i).foldl (gaStep b j) st)).2)) ∧ BalH K C G H' A R { b with gy := (((List.range R.length).take i).foldl (gaStep b j) st).1 }) ⟨_, _, rfl, k3, hD3, h3⟩ (fun i σ H' _ z => by obtain ⟨_, _, _, _, _, z⟩ := z; exact SqL.of z.h3) ?_ ?_⟩
      · rintro i y2 σ H40 H4 hi ⟨v4, v5, rfl, k4, hD4, h4⟩ ⟨t5, i5, y5, rfl, ht5, rfl, e3, e4⟩
        cases (Option.some.inj e3)
        have hir : i < R.length := by rw [← csl]; exact hi
        have e4 : (A.cs.map V.ref)[i]? = some y5 := e4
        have tki : (List.range R.length).take (i + 1) = (List.range R.length).take i ++ [i] := by rw [List.take_add_one, List.getElem?_range hir]; rfl
        have il : ((List.range R.length).take i).length = i := by rw [List.length_take, List.length_range]; omega
        obtain ⟨sl1, sl2⟩ := gaFold_len b j ((List.range R.length).take i) st
        rw [tki, List.foldl_append]
        generalize ((List.range R.length).take i).foldl (gaStep b j) st = su at hD4 h4 sl1 sl2 ⊢
        rw [il] at sl2
        have su1 : su.1.length = R.length := sl1.trans st1
        refine r_gtup ⟨t5, _, rfl, SqT.of upd_same, rfl, _, _, rfl, ?_⟩
        have s5 := Same.up (o := .tup [V.int (i : Int), y5]) (Same.refl H40) ht5
        obtain ⟨H5, eH5⟩ : ∃ H5, H5 = upd H40 t5 (.tup [V.int (i : Int), y5]) := ⟨_, rfl⟩
        rw [← eH5] at s5 ⊢
        have k5 := k4.trans (Keep.same s5)
        have hD5 := s5 _ _ hD4
        have h5 := h4.same s5
        obtain ⟨c, ec, hc⟩ := h5.row hir
        rw [ec] at e4
        cases e4
        have no : ∀ {H' : Hp}, Same H5 H' → gaStep b j su i = su → ∃ w4 w5, ([some (.ref A.x), some (.ref ta), some (.ref D), some (.int (j : Int)), some (.int (i : Int)), some (.ref c)] : L2.St) = [some (.ref A.x), some (.ref ta), some (.ref D), some (.int (j : Int)), w4, w5] ∧ Keep A.a6 H H' ∧ H' D = some (.lst (natV (List.foldl (gaStep b j) su [i]).2)) ∧ BalH K C G H' A R { b with gy := (List.foldl (gaStep b j) su [i]).1 } := fun {H'} s' e => by
          refine ⟨_, _, rfl, k5.trans (Keep.same s'), ?_, ?_⟩
          · show H' D = some (.lst (natV (gaStep b j su i).2))
            rw [e]; exact s' _ _ hD5
          · show BalH K C G H' A R { b with gy := (gaStep b j su i).1 }
            rw [e]; exact h5.same s'
        have rowi : (b.S.getD i []).length = wd R := by
          have hS : i < b.S.length := by rw [h.d.l3]; exact hir
          rw [List.getD_eq_getElem?_getD, List.getElem?_eq_getElem hS]
          exact h.d.l6 _ (List.getElem_mem hS)
        have hrow : ((b.S.getD i []).map V.int)[j]? = some (V.int (sentB b i j)) := by
          unfold sentB
          rw [List.getElem?_map, List.getD_eq_getElem?_getD (l := b.S.getD i []), List.getElem?_eq_getElem (by rw [rowi]; exact jR)]; rfl
        walk_at "rd"
        refine ⟨_, _, rfl, ?_⟩
        walk_at "rd"
        refine ⟨rfl, ?_⟩
        walk_at "rd"
        refine r_ixL (SqL.of hc) (atI_nat hrow) ?_
        walk_at "rd"
        by_cases c1 : 0 < sentB b i j
        · refine ifT (decide_eq_true c1) ?_
          walk_at "rd"
          refine r_fldV rfl h5.hx B.O.cl B.n6 rfl ?_
          walk_at "rd"
          have ht : (su.1.map pV)[i]? = some (pV (su.1.getD i none)) := by
            rw [List.getElem?_map, List.getD_eq_getElem?_getD, List.getElem?_eq_getElem (by rw [su1]; exact hir)]; rfl
          refine r_ixL (SqL.of h5.h6) (atI_nat ht) ?_
          walk_at "rd"
          rw [pV_non]
          by_cases c2 : su.1.getD i none = none
          · refine ifT (by rw [c2]; rfl) ?_
            refine r_seq ?_
            refine r_asg ?_
            walk_at "rd"
            refine r_fldV rfl h5.hx B.O.cl B.n6 rfl ?_
            walk_at "rd"
            refine r_setL h5.h6 (ixN_nat (by rw [List.length_map, su1]; exact hir)) ?_
            have e7 : (su.1.map pV).set i (V.int (j : Int)) = (su.1.set i (some (j : Int))).map pV := by rw [List.map_set]; rfl
            rw [e7]
            have h6 := h5.setGy (su.1.set i (some (j : Int)))
            have k6 : Keep A.a6 H (upd H5 A.a6 (.lst ((su.1.set i (some (j : Int))).map pV))) := fun c o n e => by rw [upd_ne n]; exact k5 c o n e
            have hD6 : (upd H5 A.a6 (.lst ((su.1.set i (some (j : Int))).map pV))) D = some (.lst (natV su.2)) := by rw [upd_ne D6]; exact hD5
            obtain ⟨H6, eH6⟩ : ∃ H6, H6 = upd H5 A.a6 (.lst ((su.1.set i (some (j : Int))).map pV)) := ⟨_, rfl⟩
            rw [← eH6] at h6 k6 hD6 ⊢
            have yes : gaStep b j su i = (su.1.set i (some (j : Int)), su.2 ++ [i]) := by unfold gaStep; rw [if_pos ⟨c1, c2⟩]
            walk_at "rd"
            refine r_bm ?_
            walk_at "rd"
            refine ⟨.inl ⟨rfl, _, SqL.of hD6⟩, ?_⟩
            walk_at "rd"
            have nl : (natV su.2).length ≤ 600 := by unfold natV; rw [List.length_map]; omega
            have nDG : G D = none := h.s.free nD
            refine ⟨D, natV su.2, _, rfl, rfl, hD6, Nat.lt_of_le_of_lt nl (by decide), ?_⟩
            refine ⟨_, _, rfl, fun c o n e => ?_, ?_, ?_⟩
            · rw [upd_ne (fun z => by rw [z, nD] at e; cases e)]; exact k6 c o n e
            · rw [upd_same]
              show some (HO.lst (natV su.2 ++ [V.int (i : Int)])) = some (.lst (natV (gaStep b j su i).2))
              rw [yes]
              unfold natV
              rw [List.map_append]; rfl
            · show BalH K C G _ A R { b with gy := (gaStep b j su i).1 }
              rw [yes]
              exact h6.put (h.own.not nD) nDG
          · refine ifF (by cases e : su.1.getD i none with | none => exact absurd e c2 | some _ => rfl) ?_
            exact no (Same.refl H5) (by unfold gaStep; rw [if_neg (fun z => c2 z.2)])
        · refine ifF (decide_eq_false c1) ?_
          exact no (Same.refl H5) (by unfold gaStep; rw [if_neg (fun z => c1 z.1)])
      · rintro σ H4 ⟨v4, v5, rfl, k4, hD4, h4⟩
        rw [csl, List.take_of_length_le (by rw [List.length_range]; exact Nat.le_refl _)] at hD4 h4
        exact ⟨_, _, _, rfl, k4, hD4, h4⟩
    · rintro σ H2 ⟨v3, v4, v5, rfl, k2, hD2, h2⟩
      have e : (natV ts).length = ts.length := by unfold natV; rw [List.length_map]
      rw [e, List.take_of_length_le (Nat.le_refl _)] at hD2 h2
      walk_at "rd"
      exact k D H2 k2 nD hD2 h2
end
end Pk
set_option Elab.async false
set_option linter.all false
set_option maxRecDepth 100000
set_option maxHeartbeats 4000000
namespace Pk
open PySem L2
local macro_rules | `(tactic| walk_at "rd") => `(tactic| repeat (first
  | with_reducible refine r_seq ?_ | with_reducible refine r_nxt ?_ | with_reducible refine r_asg ?_ | with_reducible refine r_to ?_ | with_reducible refine r_ret ?_ | with_reducible refine r_for ?_ | with_reducible refine r_lc ?_ | with_reducible refine r_lc2 ?_ | with_reducible refine r_rng1 ?_ | with_reducible refine r_list ?_ | with_reducible refine r_tupI ?_ | with_reducible refine r_drop ?_ | with_reducible refine r_ifs ?_
  | with_reducible refine r_op ?_ | with_reducible refine r_c ?_ | with_reducible refine r_var rfl ?_ | with_reducible refine r_var (by assumption) ?_ | with_reducible refine r_I0 ?_ | with_reducible refine r_un ?_ | with_reducible refine r_U ?_ | with_reducible refine r_make ?_ | with_reducible refine r_makeS ?_ | with_reducible refine r_ifE ?_ | with_reducible refine r_cm ?_ | with_reducible refine r_mkV rfl ?_ | with_reducible refine r_sub ?_
  | with_reducible refine r_nil ?_ | with_reducible refine r_cons ?_ | with_reducible refine r_cb ?_ | with_reducible refine r_sl ?_ | with_reducible refine r_noP ?_ | with_reducible refine r_part ?_ | with_reducible refine r_isI ?_ | with_reducible refine r_lst ?_ | with_reducible refine r_tup ?_ | with_reducible refine r_call ?_ | with_reducible refine r_callS ?_ | with_reducible refine r_sFldU ?_ | with_reducible refine r_chain ?_ | with_reducible refine r_enum ?_ | with_reducible refine r_zip ?_ | with_reducible refine r_rng3 ?_ | with_reducible refine r_gtup ?_ | with_reducible refine r_methU ?_
  | with_reducible refine r_test ?_ | with_reducible refine r_B ?_ | with_reducible refine r_and ?_ | with_reducible refine r_or ?_ | with_reducible refine r_not ?_ | with_reducible refine r_andV ?_ | with_reducible refine r_orV ?_ | with_reducible refine r_notV ?_ | with_reducible refine r_bl ?_ | with_reducible refine r_yes ?_ | with_reducible refine r_int ?_ | with_reducible refine r_is0 ?_ | with_reducible refine r_is1 ?_ | with_reducible refine iteT ?_ | with_reducible refine iteF ?_ | with_reducible refine ite_nF ?_ | with_reducible refine ite_nT ?_
  | with_reducible refine r_mod (by decide) ?_ | with_reducible refine r_div (by decide) (by decide) ?_ | with_reducible refine r_mulR (by decide) (by decide) ?_ | with_reducible refine r_mulL (by decide) (by decide) ?_ | with_reducible refine r_pow (by decide) (by decide) (by decide) ?_))
/-! ### a while loop with a bound that is carried along -/
theorem while_rel {c : TT} {tb : TS} {D : Ends} {σ : L2.St} {H : Hp} (Pv : Nat → L2.St → Hp → Prop) (m0 : Nat) (h0 : Pv m0 σ H)
    (hs : ∀ m σ H, Pv m σ H → c σ H fun b H1 => if b = true then tb { D with nx := fun σ' H' => ∃ m', m' < m ∧ Pv m' σ' H', ct := fun σ' H' => ∃ m', m' < m ∧ Pv m' σ' H', bk := D.nx } σ H1 else D.nx σ H1)
    (mono : ∀ σ H Q Q', (∀ b H1, Q b H1 → Q' b H1) → c σ H Q → c σ H Q') : tWhile c tb D σ H := by
  refine ⟨Pv, ⟨m0, h0⟩, fun m σ H p => ?_⟩
  refine mono σ H _ _ (fun b H1 q => ?_) (hs m σ H p)
  cases b with
  | true => exact ⟨_, fun σ' H' z => z, q⟩
  | false => exact q
/-! ### the lines that the last search reached; the least price of a row -/
def reachedF (ws : List (Option Int)) : List Nat := (List.range ws.length).filter fun i => (ws.getD i none).isSome
def spReach (K : PySem.W.Frag) (C : Addr) (pick : Bal → List (Option Int)) : Sp := fun vs H Q _ => ∃ (G : Hp) (A : BalA) (R : Rw) (b : Bal), vs = [.ref A.x] ∧ BalH K C G H A R b ∧ (pick b).length ≤ 8 ∧ ∀ (r : Addr) (H' : Hp), Same H H' → H r = none → H' r = some (.lst (natV (reachedF (pick b)))) → Q (.ref r) H'
abbrev slRG : Stmt := inCls 20 8
abbrev slRT : Stmt := inCls 20 9
abbrev slLP : Stmt := top 19
def pricesL (row : List (Option Int)) : List Int := row.filterMap id
def leastP (row : List (Option Int)) : Int := leastF (pricesL row)
def spLP (K : PySem.W.Frag) : Sp := fun vs H Q _ => ∃ (a : Addr) (row : List (Option Int)), vs = [.ref a] ∧ SqL K H a (row.map pV) ∧ row.length ≤ 8 ∧ ∀ H' : Hp, Same H H' → Q (.int (leastP row)) H'
section
variable {P : Program} {w : World} {K : PySem.W.Frag} {mg : Str → Option Value} {base : Heap} {C f : Addr} {fd : FuncData}
theorem reach_step (ws : List (Option Int)) (i : Nat) (hi : i < ws.length) : ((List.range ws.length).take (i + 1)).filter (fun i => (ws.getD i none).isSome) = ((List.range ws.length).take i).filter (fun i => (ws.getD i none).isSome) ++ (if (ws.getD i none).isSome = true then [i] else []) := by
  rw [List.take_add_one, List.getElem?_range hi]
  show List.filter _ (_ ++ [i]) = _
  rw [List.filter_append]
  congr 1
  by_cases c : (ws.getD i none).isSome = true
  · rw [if_pos c, List.filter_cons_of_pos (by exact c)]; rfl
  · rw [if_neg c, List.filter_cons_of_neg (by exact c)]; rfl
theorem sclRG : FnScope ["self", "way", "i"] ["self"] (defScope slRG) := ⟨rfl, rfl, rfl, by decide +kernel, rfl, by decide +kernel, by decide +kernel⟩
theorem ok_RG (F : Fun K "reached_givers" "Balance.reached_givers" slRG f fd) (T : Bt mg) (B : BalC K C) : FnOk P w K mg base CX0 1 f fd ["self"] (spReach K C (·.gy)) := by
  refine F.ok sclRG (fun vs H Q E h => ?_) (fun cdv A' outer s H vs Q E hr h => ?_)
  · obtain ⟨G, A, R, b, rfl, _⟩ := h
    rfl
  · obtain ⟨G, A, R, b, rfl, h, l8, k⟩ := h
    have l8 : b.gy.length ≤ 8 := l8
    refine ⟨_, (pss_one (ps_ret (pe_lc (own := [("i", 2), ("way", 1)]) (g := gTup K 2 (gCons (gName 2) (gCons (gName 1) gNil))) rfl sclRG.nd (pi_enum (by rfl) T.enumerate (pa_cons (pe_fld (pv 0) rfl) pa_nil)) (blkOk_by (own := [("i", 2), ("way", 1)]) (N := ["self", "way", "i"]) (sc := defScope slRG) (by decide +kernel)) (fun _ _ _ _ _ => pg_tup (by rfl) (pgs_cons (pg_name (i := 2) sclRG.nd rfl (Or.inl rfl)) (pgs_cons (pg_name (i := 1) sclRG.nd rfl (Or.inl rfl)) pgs_nil))) (fun _ _ _ _ _ => pts_one (pt_cmpR op_is1 (pv 1) pe_non (nomark _))) (fun _ _ _ _ _ => (pv 2))))), ?_⟩
    walk_at "rd"
    refine r_fldV rfl h.hx B.O.cl B.n6 rfl ?_
    walk_at "rd"
    refine ⟨A.a6, b.gy.map pV, rfl, SqL.of h.h6, fun D nD => lc_it walk_enum (fun i H' => Same H H' ∧ H' D = some (.lst (natV (((List.range b.gy.length).take i).filter fun i => (b.gy.getD i none).isSome)))) ⟨Same.up (Same.refl H) nD, upd_same⟩ (fun i H' _ z => SqL.of (z.1 _ _ h.h6)) ?_ ?_⟩
    · rintro i y H2 H3 hi ⟨s2, hD⟩ ⟨t5, i5, y5, rfl, ht5, rfl, e3, e4⟩
      cases (Option.some.inj e3)
      rw [List.length_map] at hi
      have e4 : (b.gy.map pV)[i]? = some y5 := e4
      have ey : y5 = pV (b.gy.getD i none) := by
        rw [List.getElem?_map, List.getElem?_eq_getElem hi] at e4
        rw [List.getD_eq_getElem?_getD, List.getElem?_eq_getElem hi]
        exact (Option.some.inj e4).symm
      subst ey
      refine r_gtup ⟨t5, _, rfl, SqT.of upd_same, rfl, _, _, rfl, ?_⟩
      have s5 := Same.up (o := .tup [V.int (i : Int), pV (b.gy.getD i none)]) (Same.refl H2) ht5
      obtain ⟨H5, eH5⟩ : ∃ H5, H5 = upd H2 t5 (.tup [V.int (i : Int), pV (b.gy.getD i none)]) := ⟨_, rfl⟩
      rw [← eH5] at s5 ⊢
      have hD5 := s5 _ _ hD
      walk_at "rd"
      refine ⟨_, _, rfl, ?_⟩
      walk_at "rd"
      refine ⟨rfl, rfl, ?_⟩
      walk_at "rd"
      rw [pV_someB, reach_step _ _ hi]
      by_cases c : (b.gy.getD i none).isSome = true
      · refine ifT c ?_
        rw [if_pos c]
        walk_at "rd"
        refine ⟨_, hD5, Nat.lt_of_le_of_lt (show _ ≤ 8 from by unfold natV; rw [List.length_map]; refine Nat.le_trans (List.length_filter_le _ _) ?_; rw [List.length_take, List.length_range]; omega) (by decide), Same.upOff (s2.trans s5) nD, ?_⟩
        rw [upd_same]
        unfold natV
        rw [List.map_append]; rfl
      · refine ifF (by simpa using c) ?_
        rw [if_neg c, List.append_nil]
        exact ⟨s2.trans s5, hD5⟩
    · rintro H2 ⟨s2, hD⟩
      rw [List.length_map, List.take_of_length_le (by rw [List.length_range]; exact Nat.le_refl _)] at hD
      walk_at "rd"
      exact k D H2 s2 nD hD
theorem sclRT : FnScope ["self", "way", "j"] ["self"] (defScope slRT) := ⟨rfl, rfl, rfl, by decide +kernel, rfl, by decide +kernel, by decide +kernel⟩
theorem ok_RT (F : Fun K "reached_takers" "Balance.reached_takers" slRT f fd) (T : Bt mg) (B : BalC K C) : FnOk P w K mg base CX0 1 f fd ["self"] (spReach K C (·.ty)) := by
  refine F.ok sclRT (fun vs H Q E h => ?_) (fun cdv A' outer s H vs Q E hr h => ?_)
  · obtain ⟨G, A, R, b, rfl, _⟩ := h
    rfl
  · obtain ⟨G, A, R, b, rfl, h, l8, k⟩ := h
    have l8 : b.ty.length ≤ 8 := l8
    refine ⟨_, (pss_one (ps_ret (pe_lc (own := [("j", 2), ("way", 1)]) (g := gTup K 2 (gCons (gName 2) (gCons (gName 1) gNil))) rfl sclRT.nd (pi_enum (by rfl) T.enumerate (pa_cons (pe_fld (pv 0) rfl) pa_nil)) (blkOk_by (own := [("j", 2), ("way", 1)]) (N := ["self", "way", "j"]) (sc := defScope slRT) (by decide +kernel)) (fun _ _ _ _ _ => pg_tup (by rfl) (pgs_cons (pg_name (i := 2) sclRT.nd rfl (Or.inl rfl)) (pgs_cons (pg_name (i := 1) sclRT.nd rfl (Or.inl rfl)) pgs_nil))) (fun _ _ _ _ _ => pts_one (pt_cmpR op_is1 (pv 1) pe_non (nomark _))) (fun _ _ _ _ _ => (pv 2))))), ?_⟩
    walk_at "rd"
    refine r_fldV rfl h.hx B.O.cl B.n7 rfl ?_
    walk_at "rd"
    refine ⟨A.a7, b.ty.map pV, rfl, SqL.of h.h7, fun D nD => lc_it walk_enum (fun i H' => Same H H' ∧ H' D = some (.lst (natV (((List.range b.ty.length).take i).filter fun i => (b.ty.getD i none).isSome)))) ⟨Same.up (Same.refl H) nD, upd_same⟩ (fun i H' _ z => SqL.of (z.1 _ _ h.h7)) ?_ ?_⟩
    · rintro i y H2 H3 hi ⟨s2, hD⟩ ⟨t5, i5, y5, rfl, ht5, rfl, e3, e4⟩
      cases (Option.some.inj e3)
      rw [List.length_map] at hi
      have e4 : (b.ty.map pV)[i]? = some y5 := e4
      have ey : y5 = pV (b.ty.getD i none) := by
        rw [List.getElem?_map, List.getElem?_eq_getElem hi] at e4
        rw [List.getD_eq_getElem?_getD, List.getElem?_eq_getElem hi]
        exact (Option.some.inj e4).symm
      subst ey
      refine r_gtup ⟨t5, _, rfl, SqT.of upd_same, rfl, _, _, rfl, ?_⟩
      have s5 := Same.up (o := .tup [V.int (i : Int), pV (b.ty.getD i none)]) (Same.refl H2) ht5
      obtain ⟨H5, eH5⟩ : ∃ H5, H5 = upd H2 t5 (.tup [V.int (i : Int), pV (b.ty.getD i none)]) := ⟨_, rfl⟩
      rw [← eH5] at s5 ⊢
      have hD5 := s5 _ _ hD
      walk_at "rd"
      refine ⟨_, _, rfl, ?_⟩
      walk_at "rd"
      refine ⟨rfl, rfl, ?_⟩
      walk_at "rd"
      rw [pV_someB, reach_step _ _ hi]
      by_cases c : (b.ty.getD i none).isSome = true
      · refine ifT c ?_
        rw [if_pos c]
        walk_at "rd"
        refine ⟨_, hD5, Nat.lt_of_le_of_lt (show _ ≤ 8 from by unfold natV; rw [List.length_map]; refine Nat.le_trans (List.length_filter_le _ _) ?_; rw [List.length_take, List.length_range]; omega) (by decide), Same.upOff (s2.trans s5) nD, ?_⟩
        rw [upd_same]
        unfold natV
        rw [List.map_append]; rfl
      · refine ifF (by simpa using c) ?_
        rw [if_neg c, List.append_nil]
        exact ⟨s2.trans s5, hD5⟩
    · rintro H2 ⟨s2, hD⟩
      rw [List.length_map, List.take_of_length_le (by rw [List.length_range]; exact Nat.le_refl _)] at hD
      walk_at "rd"
      exact k D H2 s2 nD hD
theorem sclLP : FnScope ["row", "prices", "price"] ["row"] (defScope slLP) := ⟨rfl, rfl, rfl, by decide +kernel, rfl, by decide +kernel, by decide +kernel⟩
theorem ok_LP (F : Fun K "least_price" "least_price" slLP f fd) (DL : Df P w K mg base CX0 "least" 1 ["numbers"] spLeastN) : FnOk P w K mg base CX0 2 f fd ["row"] (spLP K) := by
  refine F.ok sclLP (fun vs H Q E h => ?_) (fun cdv A' outer s H vs Q E hr h => ?_)
  · obtain ⟨a, row, rfl, _⟩ := h
    rfl
  · obtain ⟨a, row, rfl, ha, r8, k⟩ := h
    refine ⟨_, (pss_cons (ps_setLc (i := 1) (own := [("price", 2)]) (g := gName 2) rfl sclLP.nd rfl rfl (sw_true rfl rfl rfl (by decide +kernel)) (pi_list (pv 0)) (blkOk_by (own := [("price", 2)]) (N := ["row", "prices", "price"]) (sc := defScope slLP) (by decide +kernel)) (fun _ _ _ _ _ => pg_name (i := 2) sclLP.nd rfl (Or.inl rfl)) (fun _ _ _ _ _ => pts_one (pt_cmpR op_is1 (pv 2) pe_non (nomark _))) (fun _ _ _ _ _ => (pv 2)))
  (pss_one (ps_ret (pe_ifExp (pt_truth (pv 1) (fun _ => rfl)) (pe_df DL hr (by decide) (pa_cons (pv 1) pa_nil)) pe_int)))), ?_⟩
    walk_at "rd"
    refine ⟨a, rfl, ⟨_, ha⟩, fun D nD => ?_⟩
    refine lc_any walk_list (fun i H' => Same H H' ∧ H' D = some (.lst ((pricesL (row.take i)).map V.int))) ⟨Same.up (Same.refl H) nD, by rw [upd_same, List.take_zero]; rfl⟩ (fun i H' _ z => z.1.seq ha) ?_ ?_
    · rintro i y H2 H3 hi ⟨s2, hD⟩ ⟨rfl, ey⟩
      rw [List.getElem?_map] at ey
      obtain ⟨o, eo, rfl⟩ := Option.map_eq_some_iff.mp ey
      have tk : row.take (i + 1) = row.take i ++ [o] := by rw [List.take_add_one, eo]; rfl
      walk_at "rd"
      refine ⟨rfl, ?_⟩
      walk_at "rd"
      rw [pV_someB]
      cases o with
      | none =>
        refine ifF rfl ?_
        refine ⟨s2, ?_⟩
        rw [tk]
        unfold pricesL at hD ⊢
        rw [List.filterMap_append, hD]; simp
      | some p =>
        refine ifT rfl ?_
        walk_at "rd"
        refine ⟨_, hD, Nat.lt_of_le_of_lt (show _ ≤ 8 from by rw [List.length_map]; unfold pricesL; refine Nat.le_trans (List.length_filterMap_le _ _) ?_; rw [List.length_take]; omega) (by decide), Same.upOff s2 nD, ?_⟩
        rw [upd_same, tk]
        unfold pricesL
        rw [List.filterMap_append, List.map_append]; rfl
    · rintro H2 ⟨s2, hD⟩
      rw [List.length_map, List.take_of_length_le (Nat.le_refl _)] at hD
      walk_at "rd"
      refine ⟨!((pricesL row).map V.int).isEmpty, .inl ⟨_, SqL.of hD, rfl⟩, ?_⟩
      by_cases e : pricesL row = []
      · refine ifF (by rw [e]; rfl) ?_
        walk_at "rd"
        have := k H2 s2
        unfold leastP at this
        rw [e] at this
        exact this
      · refine ifT (by cases q : pricesL row with | nil => exact absurd q e | cons _ _ => rfl) ?_
        walk_at "rd"
        exact ⟨D, pricesL row, rfl, hD, e, k H2 s2⟩
end
end Pk
set_option Elab.async false
set_option linter.all false
set_option maxRecDepth 100000
set_option maxHeartbeats 4000000
namespace Pk
open PySem L2
local macro_rules | `(tactic| walk_at "rd") => `(tactic| repeat (first
  | with_reducible refine r_seq ?_ | with_reducible refine r_nxt ?_ | with_reducible refine r_asg ?_ | with_reducible refine r_to ?_ | with_reducible refine r_ret ?_ | with_reducible refine r_for ?_ | with_reducible refine r_lc ?_ | with_reducible refine r_lc2 ?_ | with_reducible refine r_rng1 ?_ | with_reducible refine r_list ?_ | with_reducible refine r_tupI ?_ | with_reducible refine r_drop ?_ | with_reducible refine r_ifs ?_
  | with_reducible refine r_op ?_ | with_reducible refine r_c ?_ | with_reducible refine r_var rfl ?_ | with_reducible refine r_var (by assumption) ?_ | with_reducible refine r_I0 ?_ | with_reducible refine r_un ?_ | with_reducible refine r_U ?_ | with_reducible refine r_make ?_ | with_reducible refine r_makeS ?_ | with_reducible refine r_ifE ?_ | with_reducible refine r_cm ?_ | with_reducible refine r_mkV rfl ?_ | with_reducible refine r_sub ?_
  | with_reducible refine r_nil ?_ | with_reducible refine r_cons ?_ | with_reducible refine r_cb ?_ | with_reducible refine r_sl ?_ | with_reducible refine r_noP ?_ | with_reducible refine r_part ?_ | with_reducible refine r_isI ?_ | with_reducible refine r_lst ?_ | with_reducible refine r_tup ?_ | with_reducible refine r_call ?_ | with_reducible refine r_callS ?_ | with_reducible refine r_sFldU ?_ | with_reducible refine r_chain ?_ | with_reducible refine r_enum ?_ | with_reducible refine r_zip ?_ | with_reducible refine r_rng3 ?_ | with_reducible refine r_gtup ?_ | with_reducible refine r_methU ?_
  | with_reducible refine r_test ?_ | with_reducible refine r_B ?_ | with_reducible refine r_and ?_ | with_reducible refine r_or ?_ | with_reducible refine r_not ?_ | with_reducible refine r_andV ?_ | with_reducible refine r_orV ?_ | with_reducible refine r_notV ?_ | with_reducible refine r_bl ?_ | with_reducible refine r_yes ?_ | with_reducible refine r_int ?_ | with_reducible refine r_is0 ?_ | with_reducible refine r_is1 ?_ | with_reducible refine iteT ?_ | with_reducible refine iteF ?_ | with_reducible refine ite_nF ?_ | with_reducible refine ite_nT ?_
  | with_reducible refine r_mod (by decide) ?_ | with_reducible refine r_div (by decide) (by decide) ?_ | with_reducible refine r_mulR (by decide) (by decide) ?_ | with_reducible refine r_mulL (by decide) (by decide) ?_ | with_reducible refine r_pow (by decide) (by decide) (by decide) ?_))
/-! ### the balance: the search -/
theorem Own2.swap {G H : Hp} {L : List (Addr × HO)} (h : Own2 G H L) {i : Nat} {D : Addr} {o : HO} (n : D ∉ L.map (·.1)) (nG : G D = none) (hD : H D = some o) : Own2 G H (L.set i (D, o)) := by
  have mem : ∀ p, p ∈ L.set i (D, o) → p = (D, o) ∨ p ∈ L := fun p hp => by
    rcases List.mem_or_eq_of_mem_set hp with q | q
    · exact .inr q
    · exact .inl q
  refine ⟨?_, fun p hp => ?_, fun p hp => ?_⟩
  · rw [List.map_set]
    show ((L.map (·.1)).set i D).Nodup
    refine List.pairwise_iff_getElem.mpr fun a b ha hb ab e => ?_
    rw [List.length_set] at ha hb
    rw [List.getElem_set, List.getElem_set] at e
    by_cases ca : i = a
    · rw [if_pos ca, if_neg (by omega)] at e
      exact n (by rw [e]; exact List.getElem_mem _)
    · rw [if_neg ca] at e
      by_cases cb : i = b
      · rw [if_pos cb] at e
        exact n (by rw [← e]; exact List.getElem_mem _)
      · rw [if_neg cb] at e
        exact List.pairwise_iff_getElem.mp h.nd a b ha hb ab e
  · rcases mem p hp with rfl | q
    · exact hD
    · exact h.at_ p q
  · rcases mem p hp with rfl | q
    · exact nG
    · exact h.off p q
section
variable {K : PySem.W.Frag} {C : Addr} {G H : Hp} {A : BalA} {R : Rw} {b : Bal}
theorem ad_set {L : List (Addr × HO)} {i : Nat} {a : Addr} {o o' : HO} (e : L[i]? = some (a, o)) : (L.set i (a, o')).map (·.1) = L.map (·.1) := by
  obtain ⟨hi, q⟩ := List.getElem?_eq_some_iff.mp e
  apply List.ext_getElem?
  intro j
  rw [List.getElem?_map, List.getElem?_map]
  by_cases c : i = j
  · subst c
    rw [List.getElem?_set_self hi, e]; rfl
  · rw [List.getElem?_set_ne c]
theorem BalH.newGy (h : BalH K C G H A R b) {D : Addr} {gy : List (Option Int)} (n : D ∉ (balL C A b).map (·.1)) (nG : G D = none) (hD : H D = some (.lst (gy.map pV))) :
    BalH K C G (upd H A.x (.ins C A.dx (putF "giver_ways" (.ref D) (balF A)))) { A with a6 := D } R { b with gy := gy } := by
  have o1 := h.own.set (i := 0) (o' := .ins C A.dx (putF "giver_ways" (.ref D) (balF A))) rfl
  have nx : D ≠ A.x := fun z => n (by rw [z]; exact List.mem_cons_self ..)
  have o2 := o1.swap (i := 6) (o := .lst (gy.map pV)) (by rw [ad_set (show (balL C A b)[0]? = _ from rfl)]; exact n) nG (by rw [upd_ne nx]; exact hD)
  exact ⟨o2, h.own.base h.s (i := 0) rfl, h.ents, ⟨h.d.l1, h.d.l2, h.d.l3, h.d.l4, h.d.l5, h.d.l6⟩, h.cl⟩
theorem BalH.newTy (h : BalH K C G H A R b) {D : Addr} {ty : List (Option Int)} (n : D ∉ (balL C A b).map (·.1)) (nG : G D = none) (hD : H D = some (.lst (ty.map pV))) :
    BalH K C G (upd H A.x (.ins C A.dx (putF "taker_ways" (.ref D) (balF A)))) { A with a7 := D } R { b with ty := ty } := by
  have o1 := h.own.set (i := 0) (o' := .ins C A.dx (putF "taker_ways" (.ref D) (balF A))) rfl
  have nx : D ≠ A.x := fun z => n (by rw [z]; exact List.mem_cons_self ..)
  have o2 := o1.swap (i := 7) (o := .lst (ty.map pV)) (by rw [ad_set (show (balL C A b)[0]? = _ from rfl)]; exact n) nG (by rw [upd_ne nx]; exact hD)
  exact ⟨o2, h.own.base h.s (i := 0) rfl, h.ents, ⟨h.d.l1, h.d.l2, h.d.l3, h.d.l4, h.d.l5, h.d.l6⟩, h.cl⟩
end
/-- what a search tells: the ways that it leaves, and the taker that it reached, or none -/
inductive SearchR (R : Rw) : Bal → List Nat → Bal → Option Nat → Prop
  | stop (b : Bal) : SearchR R b [] b none
  | hit {b : Bal} {gs : List Nat} {j : Nat} (ne : gs ≠ []) (h : (takersF R b gs).2.find? (fun j => decide (0 < b.la.getD j 0)) = some j) : SearchR R b gs { b with ty := (takersF R b gs).1 } (some j)
  | go {b b' : Bal} {gs : List Nat} {e : Option Nat} (ne : gs ≠ []) (h : (takersF R b gs).2.find? (fun j => decide (0 < b.la.getD j 0)) = none)
      (r : SearchR R { b with ty := (takersF R b gs).1, gy := (giversF R { b with ty := (takersF R b gs).1 } (takersF R b gs).2).1 } (giversF R { b with ty := (takersF R b gs).1 } (takersF R b gs).2).2 b' e) : SearchR R b gs b' e
def nonN (ws : List (Option Int)) : Nat := (ws.filter Option.isNone).length
theorem nonN_set : ∀ {ws : List (Option Int)} {i : Nat} (v : Int), i < ws.length → ws.getD i none = none → nonN (ws.set i (some v)) + 1 = nonN ws
  | [], _, _, h, _ => by simp at h
  | w :: ws, 0, v, _, e => by
    have e : w = none := e
    subst e
    show nonN (some v :: ws) + 1 = nonN (none :: ws)
    unfold nonN
    rw [List.filter_cons_of_neg (by simp), List.filter_cons_of_pos rfl, List.length_cons]
  | w :: ws, i + 1, v, h, e => by
    have ih := nonN_set (ws := ws) (i := i) v (by simpa using h) e
    show nonN (w :: ws.set i (some v)) + 1 = nonN (w :: ws)
    unfold nonN at ih ⊢
    cases w with
    | none => rw [List.filter_cons_of_pos rfl, List.filter_cons_of_pos rfl, List.length_cons, List.length_cons]; omega
    | some x => rw [List.filter_cons_of_neg (by simp), List.filter_cons_of_neg (by simp)]; exact ih
theorem gaStep_non (b : Bal) (j : Nat) (st : List (Option Int) × List Nat) (i : Nat) (hi : i < st.1.length) : nonN (gaStep b j st i).1 + (gaStep b j st i).2.length = nonN st.1 + st.2.length := by
  unfold gaStep
  split
  · rename_i h
    have := nonN_set (j : Int) hi h.2
    show nonN (st.1.set i (some (j : Int))) + (st.2 ++ [i]).length = _
    rw [List.length_append]
    have : ([i] : List Nat).length = 1 := rfl
    omega
  · rfl
theorem gaFold_non (b : Bal) (j : Nat) : ∀ (is : List Nat) (st : List (Option Int) × List Nat), (∀ i, i ∈ is → i < st.1.length) → nonN (is.foldl (gaStep b j) st).1 + (is.foldl (gaStep b j) st).2.length = nonN st.1 + st.2.length
  | [], _, _ => rfl
  | i :: is, st, h => by
    rw [List.foldl_cons, gaFold_non b j is _ fun k hk => by rw [(gaStep_len b j st i).1]; exact h k (List.mem_cons_of_mem _ hk), gaStep_non b j st i (h i (List.mem_cons_self ..))]
theorem gaRows_non (R : Rw) (b : Bal) : ∀ (ts : List Nat) (st : List (Option Int) × List Nat), st.1.length = R.length → nonN (ts.foldl (gaRow R b) st).1 + (ts.foldl (gaRow R b) st).2.length = nonN st.1 + st.2.length
  | [], _, _ => rfl
  | j :: ts, st, h => by
    rw [List.foldl_cons, gaRows_non R b ts _ (by rw [show (gaRow R b st j).1.length = st.1.length from (gaFold_len b j _ st).1]; exact h)]
    exact gaFold_non b j _ st fun i hi => by rw [h]; exact List.mem_range.mp hi
theorem givers_non (R : Rw) (b : Bal) (ts : List Nat) (h : b.gy.length = R.length) : nonN (giversF R b ts).1 + (giversF R b ts).2.length = nonN b.gy := gaRows_non R b ts (b.gy, []) h
theorem givers_len (R : Rw) (b : Bal) (ts : List Nat) : (giversF R b ts).1.length = b.gy.length := (gaRows_len R b ts (b.gy, [])).1
theorem takers_len (R : Rw) (b : Bal) (gs : List Nat) : (takersF R b gs).1.length = b.ty.length := (taRows_len R b gs (b.ty, [])).1
theorem foldl_all {α β : Type} {p : β → Prop} {f : β → α → β} {g : α → Prop} (hf : ∀ b a, p b → g a → p (f b a)) : ∀ (l : List α) (b : β), p b → (∀ a, a ∈ l → g a) → p (l.foldl f b)
  | [], _, h, _ => h
  | a :: l, b, h, hg => foldl_all hf l (f b a) (hf b a h (hg a (List.mem_cons_self ..))) fun c hc => hg c (List.mem_cons_of_mem _ hc)
theorem takers_lt (R : Rw) (b : Bal) (gs : List Nat) : ∀ j, j ∈ (takersF R b gs).2 → j < wd R := by
  refine foldl_all (p := fun st : List (Option Int) × List Nat => ∀ j, j ∈ st.2 → j < wd R) (g := fun _ => True) (fun st i hst _ => ?_) gs (b.ty, []) (fun j hj => by cases hj) (fun _ _ => trivial)
  refine foldl_all (p := fun st : List (Option Int) × List Nat => ∀ j, j ∈ st.2 → j < wd R) (g := fun j => j < wd R) (fun st j hst hj => ?_) _ st hst (fun j hj => List.mem_range.mp hj)
  unfold taStep
  split
  · intro k hk
    rcases List.mem_append.mp hk with hk | hk
    · exact hst k hk
    · rw [List.mem_singleton.mp hk]; exact hj
  · exact hst
theorem givers_lt (R : Rw) (b : Bal) (ts : List Nat) : ∀ i, i ∈ (giversF R b ts).2 → i < R.length := by
  refine foldl_all (p := fun st : List (Option Int) × List Nat => ∀ j, j ∈ st.2 → j < R.length) (g := fun _ => True) (fun st i hst _ => ?_) ts (b.gy, []) (fun j hj => by cases hj) (fun _ _ => trivial)
  refine foldl_all (p := fun st : List (Option Int) × List Nat => ∀ j, j ∈ st.2 → j < R.length) (g := fun j => j < R.length) (fun st j hst hj => ?_) _ st hst (fun j hj => List.mem_range.mp hj)
  unfold gaStep
  split
  · intro k hk
    rcases List.mem_append.mp hk with hk | hk
    · exact hst k hk
    · rw [List.mem_singleton.mp hk]; exact hj
  · exact hst
def gy0 (b : Bal) : List (Option Int) := b.sp.map fun s => if 0 < s then some (-1) else none
def ty0 (b : Bal) : List (Option Int) := b.la.map fun _ => none
/-- the lines as a search begins -/
def bal0 (b : Bal) : Bal := { b with gy := gy0 b, ty := ty0 b }
end Pk
set_option Elab.async false
set_option linter.all false
set_option maxRecDepth 100000
set_option maxHeartbeats 4000000
namespace Pk
open PySem L2
local macro_rules | `(tactic| walk_at "rd") => `(tactic| repeat (first
  | with_reducible refine r_seq ?_ | with_reducible refine r_nxt ?_ | with_reducible refine r_asg ?_ | with_reducible refine r_to ?_ | with_reducible refine r_ret ?_ | with_reducible refine r_for ?_ | with_reducible refine r_lc ?_ | with_reducible refine r_lc2 ?_ | with_reducible refine r_rng1 ?_ | with_reducible refine r_list ?_ | with_reducible refine r_tupI ?_ | with_reducible refine r_drop ?_ | with_reducible refine r_ifs ?_
  | with_reducible refine r_op ?_ | with_reducible refine r_c ?_ | with_reducible refine r_var rfl ?_ | with_reducible refine r_var (by assumption) ?_ | with_reducible refine r_I0 ?_ | with_reducible refine r_un ?_ | with_reducible refine r_U ?_ | with_reducible refine r_make ?_ | with_reducible refine r_makeS ?_ | with_reducible refine r_ifE ?_ | with_reducible refine r_cm ?_ | with_reducible refine r_mkV rfl ?_ | with_reducible refine r_sub ?_
  | with_reducible refine r_nil ?_ | with_reducible refine r_cons ?_ | with_reducible refine r_cb ?_ | with_reducible refine r_sl ?_ | with_reducible refine r_noP ?_ | with_reducible refine r_part ?_ | with_reducible refine r_isI ?_ | with_reducible refine r_lst ?_ | with_reducible refine r_tup ?_ | with_reducible refine r_call ?_ | with_reducible refine r_callS ?_ | with_reducible refine r_sFldU ?_ | with_reducible refine r_chain ?_ | with_reducible refine r_enum ?_ | with_reducible refine r_zip ?_ | with_reducible refine r_rng3 ?_ | with_reducible refine r_gtup ?_ | with_reducible refine r_methU ?_
  | with_reducible refine r_test ?_ | with_reducible refine r_B ?_ | with_reducible refine r_and ?_ | with_reducible refine r_or ?_ | with_reducible refine r_not ?_ | with_reducible refine r_andV ?_ | with_reducible refine r_orV ?_ | with_reducible refine r_notV ?_ | with_reducible refine r_bl ?_ | with_reducible refine r_yes ?_ | with_reducible refine r_int ?_ | with_reducible refine r_is0 ?_ | with_reducible refine r_is1 ?_ | with_reducible refine iteT ?_ | with_reducible refine iteF ?_ | with_reducible refine ite_nF ?_ | with_reducible refine ite_nT ?_
  | with_reducible refine r_mod (by decide) ?_ | with_reducible refine r_div (by decide) (by decide) ?_ | with_reducible refine r_mulR (by decide) (by decide) ?_ | with_reducible refine r_mulL (by decide) (by decide) ?_ | with_reducible refine r_pow (by decide) (by decide) (by decide) ?_))
/-! ### the search, as a method -/
def optV : Option Nat → V
  | none => .non
  | some j => .int (j : Int)
def FrameB (C : Addr) (A : BalA) (b : Bal) (H H' : Hp) : Prop := ∀ q o, q ∉ (balL C A b).map (·.1) → H q = some o → H' q = some o
theorem FrameB.trans {C : Addr} {A : BalA} {b : Bal} {H H1 H2 : Hp} (f : FrameB C A b H H1) (g : ∀ q o, q ∉ (balL C A b).map (·.1) → (∃ o', H q = some o') → H1 q = some o → H2 q = some o) : FrameB C A b H H2 := fun q o n e => g q o n ⟨o, e⟩ (f q o n e)
def spSearch (K : PySem.W.Frag) (C : Addr) : Sp := fun vs H Q _ => ∃ (G : Hp) (A : BalA) (R : Rw) (b : Bal), vs = [.ref A.x] ∧ BalH K C G H A R b ∧ Gt R ∧
  ∀ (A' : BalA) (b' : Bal) (e : Option Nat) (H' : Hp), SearchR R (bal0 b) (reachedF (gy0 b)) b' e → BalH K C G H' A' R b' → A'.x = A.x → b'.gy.length = R.length → b'.ty.length = wd R → FrameB C A b H H' → Q (optV e) H'
abbrev slSearch : Stmt := inCls 20 3
theorem reached_lt (ws : List (Option Int)) : ∀ i, i ∈ reachedF ws → i < ws.length := fun i h => List.mem_range.mp (List.mem_filter.mp h).1
theorem reached_len (ws : List (Option Int)) : (reachedF ws).length ≤ ws.length := by
  have := List.length_filter_le (fun i => (ws.getD i none).isSome) (List.range ws.length)
  rwa [List.length_range] at this
theorem nonN_le (ws : List (Option Int)) : nonN ws ≤ ws.length := List.length_filter_le _ _
section
variable {P : Program} {w : World} {K : PySem.W.Frag} {mg : Str → Option Value} {base : Heap} {C f : Addr} {fd : FuncData}
theorem sclSearch : FnScope ["self", "givers", "takers", "j", "spare", "lacks"] ["self"] (defScope slSearch) := ⟨rfl, rfl, rfl, by decide +kernel, rfl, by decide +kernel, by decide +kernel⟩
theorem ok_search {fR fT fG : Addr} {fdR fdT fdG : FuncData} (F : Fun K "search" "Balance.search" slSearch f fd) (T : Bt mg) {tk : Tok} (hS : mg "START" = some (.int (-1) tk)) (B : BalC K C)
    (mR : Meth K C "reached_givers" fR) (oR : FnOk P w K mg base CX0 1 fR fdR ["self"] (spReach K C (·.gy))) (bR : Binds K fdR ["self"] [])
    (mT : Meth K C "takers_after" fT) (oT : FnOk P w K mg base CX0 2 fT fdT ["self", "givers"] (spTA K C)) (bT : Binds K fdT ["self", "givers"] [])
    (mG : Meth K C "givers_after" fG) (oG : FnOk P w K mg base CX0 2 fG fdG ["self", "takers"] (spGA K C)) (bG : Binds K fdG ["self", "takers"] []) : FnOk P w K mg base CX0 3 f fd ["self"] (spSearch K C) := by
  refine F.ok sclSearch (fun vs H Q E h => ?_) (fun cdv A0 outer s H vs Q E hr h => ?_)
  · obtain ⟨G, A, R, b, rfl, _⟩ := h
    rfl
  · obtain ⟨G, A, R, b, rfl, h, g, k⟩ := h
    have hr1 := hr.mono (show 1 ≤ 2 by decide)
    have hr2 := hr.mono (show 2 ≤ 2 by decide)
    refine ⟨_, (pss_cons (ps_fld (pv 0) (pe_lc (own := [("spare", 4)]) (g := gName 4) rfl sclSearch.nd (pi_list (pe_fld (pv 0) rfl)) (blkOk_by (own := [("spare", 4)]) (N := ["self", "givers", "takers", "j", "spare", "lacks"]) (sc := defScope slSearch) (by decide +kernel)) (fun _ _ _ _ _ => pg_name (i := 4) sclSearch.nd rfl (Or.inl rfl)) (fun _ _ _ _ _ => pts_nil) (fun _ _ _ _ _ => (pe_ifExp (pt_cmpR op_gt (pv 4) pe_int (nomark _)) (pe_glob (v := .int (-1)) (by rfl) hS ⟨tk, rfl⟩) pe_non))) rfl)
  (pss_cons (ps_fld (pv 0) (pe_lc (own := [("lacks", 5)]) (g := gName 5) rfl sclSearch.nd (pi_list (pe_fld (pv 0) rfl)) (blkOk_by (own := [("lacks", 5)]) (N := ["self", "givers", "takers", "j", "spare", "lacks"]) (sc := defScope slSearch) (by decide +kernel)) (fun _ _ _ _ _ => pg_name (i := 5) sclSearch.nd rfl (Or.inl rfl)) (fun _ _ _ _ _ => pts_nil) (fun _ _ _ _ _ => pe_non)) rfl)
  (pss_cons (ps_set (i := 1) sclSearch.nd rfl (Or.inl rfl) (pe_meth0 (pv 0) B.O.cl mR oR hr1 bR .nil pass0))
  (pss_cons (ps_while PassesOwn.never (pt_truth (pv 1) (fun _ => rfl)) (pss_cons (ps_set (i := 2) sclSearch.nd rfl (Or.inl rfl) (pe_meth (pv 0) B.O.cl mT oT hr2 bT .nil pass0 (pa_cons (pv 1) pa_nil)))
  (pss_cons (ps_for PassesOwn.never rfl (pi_list (pv 2)) (pg_name (i := 3) sclSearch.nd rfl (Or.inl rfl)) (pss_one (ps_if (pt_cmpR op_gt (pe_ix ix_list (pe_fld (pv 0) rfl) (pv 3) (fun _ _ => rfl)) pe_int (nomark _)) (pss_one (ps_ret (pv 3))) pss_nil)))
  (pss_one (ps_set (i := 1) sclSearch.nd rfl (Or.inl rfl) (pe_meth (pv 0) B.O.cl mG oG hr2 bG .nil pass0 (pa_cons (pv 2) pa_nil)))))))
  (pss_one (ps_ret pe_non)))))), ?_⟩
    have gg8 := g.h8
    have w8 := g.w8
    have ads : ∀ {A' : BalA} {b' : Bal} {D : Addr}, A'.x = A.x → D ∉ (balL C A b).map (·.1) → True := fun _ _ => trivial
    walk_at "rd"
    refine r_fldV rfl h.hx B.O.cl B.n1 rfl ?_
    walk_at "rd"
    refine ⟨A.a1, rfl, ⟨_, SqL.of h.h1⟩, fun D nD => lc_it walk_list (fun i H' => Same H H' ∧ H' D = some (.lst (((gy0 b).take i).map pV))) ⟨Same.up (Same.refl H) nD, by rw [upd_same, List.take_zero]; rfl⟩ (fun i H' _ z => SqL.of (z.1 _ _ h.h1)) ?_ ?_⟩
    · rintro i y H2 H3 hi ⟨s2, hD⟩ ⟨rfl, ey⟩
      rw [List.getElem?_map] at ey
      obtain ⟨v, ev, rfl⟩ := Option.map_eq_some_iff.mp ey
      have hi : i < b.sp.length := (List.getElem?_eq_some_iff.mp ev).1
      have il : i < R.length := by rw [← h.d.l1]; exact hi
      have tk : (gy0 b).take (i + 1) = (gy0 b).take i ++ [if 0 < v then some (-1) else none] := by
        unfold gy0
        rw [List.take_add_one, List.getElem?_map, ev]; rfl
      have gl : (((gy0 b).take i).map pV).length ≤ 8 := by rw [List.length_map, List.length_take]; omega
      walk_at "rd"
      refine ⟨rfl, ?_⟩
      walk_at "rd"
      by_cases c : 0 < v
      · refine ifT (decide_eq_true c) ?_
        walk_at "rd"
        refine ⟨_, hD, Nat.lt_of_le_of_lt gl (by decide), Same.upOff s2 nD, ?_⟩
        rw [upd_same, tk, if_pos c, List.map_append]; rfl
      · refine ifF (decide_eq_false c) ?_
        walk_at "rd"
        refine ⟨_, hD, Nat.lt_of_le_of_lt gl (by decide), Same.upOff s2 nD, ?_⟩
        rw [upd_same, tk, if_neg c, List.map_append]; rfl
    rintro H1 ⟨s1, hD⟩
    rw [List.length_map, List.take_of_length_le (by unfold gy0; rw [List.length_map]; exact Nat.le_refl _)] at hD
    have h1 := h.same s1
    have nD1 : D ∉ (balL C A b).map (·.1) := h.own.not nD
    walk_at "rd"
    refine ⟨A.x, C, A.dx, balF A, rfl, h1.hx, B.O.cl, B.n6, by show 8 < 1000; decide, ?_⟩
    have h2 := h1.newGy (gy := gy0 b) nD1 (h.s.free nD) hD
    have xO : A.x ∈ (balL C A b).map (·.1) := List.mem_cons_self ..
    have f2 : FrameB C A b H (upd H1 A.x (.ins C A.dx (putF "giver_ways" (.ref D) (balF A)))) := fun q o n e => by
      rw [upd_ne (fun z => n (by rw [z]; exact xO))]; exact s1 _ _ e
    obtain ⟨H2, eH2⟩ : ∃ H2, H2 = upd H1 A.x (.ins C A.dx (putF "giver_ways" (.ref D) (balF A))) := ⟨_, rfl⟩
    rw [← eH2] at h2 f2 ⊢
    obtain ⟨A2, eA2⟩ : ∃ A2 : BalA, A2 = { A with a6 := D } := ⟨_, rfl⟩
    have ex2 : A.x = A2.x := by rw [eA2]
    have e22 : A.a2 = A2.a2 := by rw [eA2]
    rw [← eA2] at h2
    walk_at "rd"
    rw [ex2]
    refine r_fldV rfl h2.hx B.O.cl B.n2 rfl ?_
    walk_at "rd"
    refine ⟨A2.a2, rfl, ⟨_, SqL.of h2.h2⟩, fun D2 nD2 => lc_it walk_list (fun i H' => Same H2 H' ∧ H' D2 = some (.lst (((ty0 b).take i).map pV))) ⟨Same.up (Same.refl H2) nD2, by rw [upd_same, List.take_zero]; rfl⟩ (fun i H' _ z => SqL.of (z.1 _ _ h2.h2)) ?_ ?_⟩
    · rintro i y H3 H4 hi ⟨s3, hD3⟩ ⟨rfl, ey⟩
      have ey : (b.la.map V.int)[i]? = some y := ey
      rw [List.getElem?_map] at ey
      obtain ⟨v, ev, rfl⟩ := Option.map_eq_some_iff.mp ey
      have hi : i < b.la.length := (List.getElem?_eq_some_iff.mp ev).1
      have il : i < wd R := by rw [← h.d.l2]; exact hi
      have tk : (ty0 b).take (i + 1) = (ty0 b).take i ++ [none] := by
        unfold ty0
        rw [List.take_add_one, List.getElem?_map, ev]; rfl
      have gl : (((ty0 b).take i).map pV).length ≤ 8 := by rw [List.length_map, List.length_take]; omega
      walk_at "rd"
      refine ⟨rfl, ?_⟩
      walk_at "rd"
      refine ⟨_, hD3, Nat.lt_of_le_of_lt gl (by decide), Same.upOff s3 nD2, ?_⟩
      rw [upd_same, tk, List.map_append]; rfl
    rintro H3 ⟨s3, hD3⟩
    have lal : (b.la.map V.int).length = (ty0 b).length := by unfold ty0; rw [List.length_map, List.length_map]
    have hD3 : H3 D2 = some (.lst (((ty0 b).take (b.la.map V.int).length).map pV)) := hD3
    rw [lal, List.take_of_length_le (Nat.le_refl _)] at hD3
    have h3 := h2.same s3
    have nD3 : D2 ∉ (balL C A2 { b with gy := gy0 b }).map (·.1) := h2.own.not nD2
    walk_at "rd"
    refine ⟨A2.x, C, A2.dx, balF A2, rfl, h3.hx, B.O.cl, B.n7, by show 8 < 1000; decide, ?_⟩
    have h4 := h3.newTy (ty := ty0 b) nD3 (h2.s.free nD2) hD3
    have f4 : FrameB C A b H (upd H3 A2.x (.ins C A2.dx (putF "taker_ways" (.ref D2) (balF A2)))) := fun q o n e => by
      rw [upd_ne (fun z => n (by rw [z, ← ex2]; exact xO))]; exact s3 _ _ (f2 q o n e)
    obtain ⟨H4, eH4⟩ : ∃ H4, H4 = upd H3 A2.x (.ins C A2.dx (putF "taker_ways" (.ref D2) (balF A2))) := ⟨_, rfl⟩
    rw [← eH4] at h4 f4 ⊢
    obtain ⟨A4, eA4⟩ : ∃ A4 : BalA, A4 = { A2 with a7 := D2 } := ⟨_, rfl⟩
    have ex4 : A2.x = A4.x := by rw [eA4]
    rw [← eA4] at h4
    have h4 : BalH K C G H4 A4 R (bal0 b) := h4
    have gyl : (bal0 b).gy.length = R.length := by show (gy0 b).length = _; unfold gy0; rw [List.length_map, h.d.l1]
    have tyl : (bal0 b).ty.length = wd R := by show (ty0 b).length = _; unfold ty0; rw [List.length_map, h.d.l2]
    have a67 : ∀ q, (∃ o, H q = some o) → q ∉ (balL C A b).map (·.1) → q ≠ A4.a6 ∧ q ≠ A4.a7 := fun q ⟨o, e⟩ n => by
      rw [eA4, eA2]
      refine ⟨fun z => ?_, fun z => ?_⟩
      · have z : q = D := z
        rw [z, nD] at e; cases e
      · have z : q = D2 := z
        have := f2 q o n e
        rw [z, nD2] at this; cases this
    walk_at "rd"
    rw [ex4]
    refine ⟨A4.x, A4.dx, balF A4, rfl, h4.hx, rfl, ?_⟩
    walk_at "rd"
    refine ⟨G, A4, R, bal0 b, rfl, h4, by rw [gyl]; exact gg8, fun r1 H5 s5 nr1 hr5 => ?_⟩
    have h5 := h4.same s5
    refine r_to ?_
    dsimp only
    with_reducible refine r_seq ?_
    refine while_rel (fun m σ H' => ∃ (gs : List Nat) (ga : Addr) (b1 : Bal) (v2 v3 v4 v5 : Option V), σ = [some (.ref A4.x), some (.ref ga), v2, v3, v4, v5] ∧ H' ga = some (.lst (natV gs)) ∧ ga ∉ (balL C A4 b1).map (·.1) ∧ BalH K C G H' A4 R b1 ∧ b1.gy.length = R.length ∧ b1.ty.length = wd R ∧ b1.la = b.la ∧ gs.length ≤ 8 ∧ (∀ i, i ∈ gs → i < R.length) ∧
      (∀ b' e, SearchR R b1 gs b' e → SearchR R (bal0 b) (reachedF (gy0 b)) b' e) ∧ FrameB C A b H H' ∧ nonN b1.gy + (if gs = [] then 0 else 1) ≤ m) (nonN (gy0 b) + 1)
      ⟨reachedF (gy0 b), r1, bal0 b, _, _, _, _, rfl, hr5, h4.own.not nr1, h5, gyl, tyl, rfl, Nat.le_trans (reached_len _) (by rw [show (gy0 b).length = R.length from gyl]; exact gg8), (fun i hi => by have := reached_lt _ i hi; rwa [show (gy0 b).length = R.length from gyl] at this), (fun b' e z => z), (fun q o n e => s5 _ _ (f4 q o n e)), (by show nonN (gy0 b) + _ ≤ _; split <;> omega)⟩ ?_ (fun σ H Q Q' h ⟨v, e, k, ek, q⟩ => ⟨v, e, k, ek, h _ _ q⟩)
    rintro m σ H6 ⟨gs, ga, b1, v2, v3, v4, v5, rfl, hga, gaO, h6, gyl1, tyl1, la1, gs8, gsR, rel, f6, bound⟩
    walk_at "rd"
    refine ⟨!(natV gs).isEmpty, .inl ⟨_, SqL.of hga, rfl⟩, ?_⟩
    by_cases ge : gs = []
    · refine ifF (by rw [ge]; rfl) ?_
      walk_at "rd"
      subst ge
      exact k A4 b1 none H6 (rel _ _ (.stop b1)) h6 (by rw [← ex4, ← ex2]) gyl1 tyl1 f6
    · refine ifT (by cases gs with | nil => exact absurd rfl ge | cons _ _ => rfl) ?_
      rw [if_neg ge] at bound
      walk_at "rd"
      refine ⟨A4.x, A4.dx, balF A4, rfl, h6.hx, rfl, ?_⟩
      walk_at "rd"
      have ga7 : ga ≠ A4.a7 := fun z => gaO (List.mem_map.mpr ⟨(A4.a7, .lst (b1.ty.map pV)), by unfold balL; simp, z.symm⟩)
      refine ⟨G, A4, R, b1, ga, gs, rfl, h6, g, tyl1, ga7, hga, gsR, gs8, fun r2 H7 k7 nr2 hr7 h7 => ?_⟩
      have f7 : FrameB C A b H H7 := fun q o n e => k7 _ _ (a67 q ⟨o, e⟩ n).2 (f6 q o n e)
      obtain ⟨ts, ets⟩ : ∃ ts, ts = (takersF R b1 gs).2 := ⟨_, rfl⟩
      have tsl : ts.length ≤ 64 := by
        rw [ets]
        have := (taRows_len R b1 gs (b1.ty, [])).2
        have q := Nat.mul_le_mul gs8 w8
        have z : ([] : List Nat).length = 0 := rfl
        simp only [z] at this
        show (gs.foldl (taRow R b1) (b1.ty, [])).2.length ≤ 64
        omega
      have tsR : ∀ j, j ∈ ts → j < wd R := by rw [ets]; exact takers_lt R b1 gs
      rw [← ets] at hr7
      have tyl7 : (takersF R b1 gs).1.length = wd R := (takers_len R b1 gs).trans tyl1
      have r2O : r2 ∉ (balL C A4 b1).map (·.1) := h6.own.not nr2
      obtain ⟨b7, eb7⟩ : ∃ b7 : Bal, b7 = { b1 with ty := (takersF R b1 gs).1 } := ⟨_, rfl⟩
      rw [← eb7] at h7
      have la7 : b7.la = b1.la := by rw [eb7]
      have ll : b7.la.length = wd R := h7.d.l2
      walk_at "rd"
      refine ⟨r2, rfl, ⟨_, SqL.of hr7⟩, for_it walk_list (fun q σ H' => ∃ v3, σ = [some (.ref A4.x), some (.ref ga), some (.ref r2), v3, v4, v5] ∧ H' = H7 ∧ (ts.take q).find? (fun j => decide (0 < b1.la.getD j 0)) = none) ⟨_, rfl, rfl, by rw [List.take_zero]; rfl⟩ (fun q σ H' _ z => by obtain ⟨_, _, rfl, _⟩ := z; exact SqL.of hr7) ?_ ?_⟩
      · rintro q y σ H8 H9 hq ⟨v3', rfl, rfl, fn⟩ ⟨rfl, ey⟩
        unfold natV at ey
        rw [List.getElem?_map] at ey
        obtain ⟨j, ej, rfl⟩ := Option.map_eq_some_iff.mp ey
        have jR := tsR j (List.mem_of_getElem? ej)
        have tk : ts.take (q + 1) = ts.take q ++ [j] := by rw [List.take_add_one, ej]; rfl
        refine ⟨_, rfl, ?_⟩
        walk_at "rd"
        refine ⟨A4.x, C, A4.dx, balF A4, _, rfl, h7.hx, B.O.cl, B.n2, rfl, ?_⟩
        walk_at "rd"
        have hla : (b7.la.map V.int)[j]? = some (V.int (b1.la.getD j 0)) := by
          rw [List.getElem?_map, ← la7, List.getD_eq_getElem?_getD, List.getElem?_eq_getElem (by rw [ll]; exact jR)]; rfl
        refine r_ixL (SqL.of h7.h2) (atI_nat hla) ?_
        walk_at "rd"
        by_cases c : 0 < b1.la.getD j 0
        · refine ifT (decide_eq_true c) ?_
          walk_at "rd"
          have hit : (takersF R b1 gs).2.find? (fun j => decide (0 < b1.la.getD j 0)) = some j := by
            rw [← ets]
            obtain ⟨h1, q1⟩ := List.getElem?_eq_some_iff.mp ej
            have sp : ts = ts.take q ++ j :: ts.drop (q + 1) := by
              rw [← q1, ← List.drop_eq_getElem_cons h1, List.take_append_drop]
            rw [sp, List.find?_append, fn, List.find?_cons_of_pos (by exact decide_eq_true c)]; rfl
          have sr := rel _ _ (.hit ge hit)
          rw [← eb7] at sr
          exact k A4 b7 (some j) _ sr h7 (by rw [← ex4, ← ex2]) (by rw [eb7]; exact gyl1) (by rw [eb7]; exact tyl7) f7
        · refine ifF (decide_eq_false c) ?_
          refine ⟨_, rfl, rfl, ?_⟩
          rw [tk, List.find?_append, fn, List.find?_cons_of_neg (by simpa using c)]; rfl
      · rintro σ H8 ⟨v3', rfl, rfl, fn⟩
        rw [show (natV ts).length = ts.length from by unfold natV; rw [List.length_map], List.take_of_length_le (Nat.le_refl _)] at fn
        walk_at "rd"
        refine ⟨A4.x, A4.dx, balF A4, rfl, h7.hx, rfl, ?_⟩
        walk_at "rd"
        have r26 : r2 ≠ A4.a6 := fun z => r2O (List.mem_map.mpr ⟨(A4.a6, .lst (b1.gy.map pV)), by unfold balL; simp, z.symm⟩)
        refine ⟨G, A4, R, b7, r2, ts, rfl, h7, g, (by rw [eb7]; exact gyl1), r26, hr7, tsR, tsl, fun r3 H9 k9 nr3 hr9 h9 => ?_⟩
        have non := givers_non R b7 ts (by rw [eb7]; exact gyl1)
        have gl9 := givers_len R b7 ts
        have e77 : nonN b7.gy = nonN b1.gy := by rw [eb7]
        have le := nonN_le b1.gy
        refine ⟨_, ?_, (giversF R b7 ts).2, r3, { b7 with gy := (giversF R b7 ts).1 }, _, _, _, _, rfl, hr9, h7.own.not nr3, h9, gl9.trans (by rw [eb7]; exact gyl1), (by show b7.ty.length = _; rw [eb7]; exact tyl7), (by show b7.la = b.la; rw [la7]; exact la1), by omega, givers_lt R b7 ts, fun b' e z => ?_, fun q o n e => k9 _ _ (a67 q ⟨o, e⟩ n).1 (f7 q o n e), Nat.le_refl _⟩
        · show nonN (giversF R b7 ts).1 + (if (giversF R b7 ts).2 = [] then 0 else 1) < m
          by_cases c : (giversF R b7 ts).2 = []
          · rw [if_pos c]; omega
          · rw [if_neg c]
            have := List.length_pos_iff.mpr c
            omega
        · refine rel _ _ (.go ge (by rw [← ets]; exact fn) ?_)
          rw [← ets]
          rw [eb7] at z
          exact z
end
end Pk
set_option Elab.async false
set_option linter.all false
set_option maxRecDepth 100000
set_option maxHeartbeats 4000000
namespace Pk
open PySem L2
local macro_rules | `(tactic| walk_at "rd") => `(tactic| repeat (first
  | with_reducible refine r_seq ?_ | with_reducible refine r_nxt ?_ | with_reducible refine r_asg ?_ | with_reducible refine r_to ?_ | with_reducible refine r_ret ?_ | with_reducible refine r_for ?_ | with_reducible refine r_lc ?_ | with_reducible refine r_lc2 ?_ | with_reducible refine r_rng1 ?_ | with_reducible refine r_list ?_ | with_reducible refine r_tupI ?_ | with_reducible refine r_drop ?_ | with_reducible refine r_ifs ?_
  | with_reducible refine r_op ?_ | with_reducible refine r_c ?_ | with_reducible refine r_var rfl ?_ | with_reducible refine r_var (by assumption) ?_ | with_reducible refine r_I0 ?_ | with_reducible refine r_un ?_ | with_reducible refine r_U ?_ | with_reducible refine r_make ?_ | with_reducible refine r_makeS ?_ | with_reducible refine r_ifE ?_ | with_reducible refine r_cm ?_ | with_reducible refine r_mkV rfl ?_ | with_reducible refine r_sub ?_
  | with_reducible refine r_nil ?_ | with_reducible refine r_cons ?_ | with_reducible refine r_cb ?_ | with_reducible refine r_sl ?_ | with_reducible refine r_noP ?_ | with_reducible refine r_part ?_ | with_reducible refine r_isI ?_ | with_reducible refine r_lst ?_ | with_reducible refine r_tup ?_ | with_reducible refine r_call ?_ | with_reducible refine r_callS ?_ | with_reducible refine r_sFldU ?_ | with_reducible refine r_chain ?_ | with_reducible refine r_enum ?_ | with_reducible refine r_zip ?_ | with_reducible refine r_rng3 ?_ | with_reducible refine r_gtup ?_ | with_reducible refine r_methU ?_
  | with_reducible refine r_test ?_ | with_reducible refine r_B ?_ | with_reducible refine r_and ?_ | with_reducible refine r_or ?_ | with_reducible refine r_not ?_ | with_reducible refine r_andV ?_ | with_reducible refine r_orV ?_ | with_reducible refine r_notV ?_ | with_reducible refine r_bl ?_ | with_reducible refine r_yes ?_ | with_reducible refine r_int ?_ | with_reducible refine r_is0 ?_ | with_reducible refine r_is1 ?_ | with_reducible refine iteT ?_ | with_reducible refine iteF ?_ | with_reducible refine ite_nF ?_ | with_reducible refine ite_nT ?_
  | with_reducible refine r_mod (by decide) ?_ | with_reducible refine r_div (by decide) (by decide) ?_ | with_reducible refine r_mulR (by decide) (by decide) ?_ | with_reducible refine r_mulL (by decide) (by decide) ?_ | with_reducible refine r_pow (by decide) (by decide) (by decide) ?_))
/-! ### the ways that a search leaves -/
def Ext (a b : List (Option Int)) : Prop := a.length = b.length ∧ ∀ i v, a.getD i none = some v → b.getD i none = some v
theorem Ext.refl (a : List (Option Int)) : Ext a a := ⟨rfl, fun _ _ h => h⟩
theorem Ext.trans {a b c : List (Option Int)} (h : Ext a b) (g : Ext b c) : Ext a c := ⟨h.1.trans g.1, fun i v e => g.2 i v (h.2 i v e)⟩
theorem getD_none {a : List (Option Int)} {i : Nat} (h : a.length ≤ i) : a.getD i none = none := by
  rw [List.getD_eq_getElem?_getD, List.getElem?_eq_none h]; rfl
theorem getD_setO {a : List (Option Int)} {i k : Nat} {v : Option Int} (h : i < a.length) : (a.set i v).getD k none = if i = k then v else a.getD k none := by
  rw [List.getD_eq_getElem?_getD, List.getD_eq_getElem?_getD]
  by_cases c : i = k
  · subst c
    rw [if_pos rfl, List.getElem?_set_self h]; rfl
  · rw [if_neg c, List.getElem?_set_ne c]
theorem Ext.set {a : List (Option Int)} {i : Nat} {v : Int} (h : i < a.length) (e : a.getD i none = none) : Ext a (a.set i (some v)) := by
  refine ⟨List.length_set.symm, fun k w q => ?_⟩
  rw [getD_setO h]
  by_cases c : i = k
  · subst c; rw [e] at q; cases q
  · rw [if_neg c]; exact q
/-- a giver is reached in so many steps from one that has something left -/
inductive Pth (gy ty : List (Option Int)) : Nat → Nat → Prop
  | start {i : Nat} (e : gy.getD i none = some (-1)) : Pth gy ty i 0
  | step {i j k d : Nat} (e : gy.getD i none = some (j : Int)) (q : ty.getD j none = some (k : Int)) (r : Pth gy ty k d) : Pth gy ty i (d + 1)
theorem Pth.ext {gy gy' ty ty' : List (Option Int)} (h1 : Ext gy gy') (h2 : Ext ty ty') {i d : Nat} (h : Pth gy ty i d) : Pth gy' ty' i d := by
  induction h with
  | start e => exact .start (h1.2 _ _ e)
  | step e q _ ih => exact .step (h1.2 _ _ e) (h2.2 _ _ q) ih
structure WaysB (R : Rw) (b : Bal) : Prop where
  lg : b.gy.length = R.length
  lt : b.ty.length = wd R
  path : ∀ i, (b.gy.getD i none).isSome = true → ∃ d, Pth b.gy b.ty i d
  start : ∀ i, b.gy.getD i none = some (-1) → 0 < b.sp.getD i 0
  back : ∀ i (j : Nat), b.gy.getD i none = some (j : Int) → j < wd R ∧ 0 < sentB b i j ∧ (b.ty.getD j none).isSome = true
  fore : ∀ j v, b.ty.getD j none = some v → ∃ i : Nat, v = (i : Int) ∧ i < R.length ∧ (prc R i j).isSome = true ∧ gapB R b i j = 0 ∧ (b.gy.getD i none).isSome = true
/-- what one step of the search adds -/
theorem takers_inv (R : Rw) (b : Bal) (gs : List Nat) (hl : b.ty.length = wd R) : Ext b.ty (takersF R b gs).1 ∧
    (∀ j v, (takersF R b gs).1.getD j none = some v → b.ty.getD j none = some v ∨ ∃ i : Nat, v = (i : Int) ∧ i ∈ gs ∧ (prc R i j).isSome = true ∧ gapB R b i j = 0) ∧
    ∀ j, j ∈ (takersF R b gs).2 → ((takersF R b gs).1.getD j none).isSome = true := by
  have key : ∀ (l : List Nat), (∀ i, i ∈ l → i ∈ gs) → ∀ st : List (Option Int) × List Nat, (Ext b.ty st.1 ∧ (∀ j v, st.1.getD j none = some v → b.ty.getD j none = some v ∨ ∃ i : Nat, v = (i : Int) ∧ i ∈ gs ∧ (prc R i j).isSome = true ∧ gapB R b i j = 0) ∧ ∀ j, j ∈ st.2 → (st.1.getD j none).isSome = true) →
      (Ext b.ty (l.foldl (taRow R b) st).1 ∧ (∀ j v, (l.foldl (taRow R b) st).1.getD j none = some v → b.ty.getD j none = some v ∨ ∃ i : Nat, v = (i : Int) ∧ i ∈ gs ∧ (prc R i j).isSome = true ∧ gapB R b i j = 0) ∧ ∀ j, j ∈ (l.foldl (taRow R b) st).2 → ((l.foldl (taRow R b) st).1.getD j none).isSome = true) := by
    intro l hl2 st hst
    refine foldl_all (p := fun st : List (Option Int) × List Nat => Ext b.ty st.1 ∧ (∀ j v, st.1.getD j none = some v → b.ty.getD j none = some v ∨ ∃ i : Nat, v = (i : Int) ∧ i ∈ gs ∧ (prc R i j).isSome = true ∧ gapB R b i j = 0) ∧ ∀ j, j ∈ st.2 → (st.1.getD j none).isSome = true) (g := fun i => i ∈ gs) (fun st i hst hi => ?_) l st hst hl2
    refine foldl_all (p := fun st : List (Option Int) × List Nat => Ext b.ty st.1 ∧ (∀ j v, st.1.getD j none = some v → b.ty.getD j none = some v ∨ ∃ i : Nat, v = (i : Int) ∧ i ∈ gs ∧ (prc R i j).isSome = true ∧ gapB R b i j = 0) ∧ ∀ j, j ∈ st.2 → (st.1.getD j none).isSome = true) (g := fun j => j < wd R) (fun st j hst hj => ?_) _ st hst (fun j hj => List.mem_range.mp hj)
    obtain ⟨h1, h2, h3⟩ := hst
    unfold taStep
    split
    · rename_i c
      have jl : j < st.1.length := by rw [← h1.1, hl]; exact hj
      refine ⟨h1.trans (Ext.set jl c.2.1), fun k v e => ?_, fun k hk => ?_⟩
      · rw [getD_setO jl] at e
        by_cases q : j = k
        · subst q
          rw [if_pos rfl] at e
          exact .inr ⟨i, (Option.some.inj e).symm, hi, c.1, c.2.2⟩
        · rw [if_neg q] at e
          exact h2 k v e
      · rw [getD_setO jl]
        by_cases q : j = k
        · rw [if_pos q]; rfl
        · rw [if_neg q]
          rcases List.mem_append.mp hk with hk | hk
          · exact h3 k hk
          · exact absurd (List.mem_singleton.mp hk).symm q
    · exact ⟨h1, h2, h3⟩
  exact key gs (fun _ h => h) (b.ty, []) ⟨Ext.refl _, fun j v e => .inl e, fun j hj => by cases hj⟩
theorem givers_inv (R : Rw) (b : Bal) (ts : List Nat) (hl : b.gy.length = R.length) : Ext b.gy (giversF R b ts).1 ∧
    (∀ i v, (giversF R b ts).1.getD i none = some v → b.gy.getD i none = some v ∨ ∃ j : Nat, v = (j : Int) ∧ j ∈ ts ∧ 0 < sentB b i j) ∧
    ∀ i, i ∈ (giversF R b ts).2 → ((giversF R b ts).1.getD i none).isSome = true := by
  refine foldl_all (p := fun st : List (Option Int) × List Nat => Ext b.gy st.1 ∧ (∀ i v, st.1.getD i none = some v → b.gy.getD i none = some v ∨ ∃ j : Nat, v = (j : Int) ∧ j ∈ ts ∧ 0 < sentB b i j) ∧ ∀ i, i ∈ st.2 → (st.1.getD i none).isSome = true) (g := fun j => j ∈ ts) (fun st j hst hj => ?_) ts (b.gy, []) ⟨Ext.refl _, fun j v e => .inl e, fun j hj => by cases hj⟩ (fun _ h => h)
  refine foldl_all (p := fun st : List (Option Int) × List Nat => Ext b.gy st.1 ∧ (∀ i v, st.1.getD i none = some v → b.gy.getD i none = some v ∨ ∃ j : Nat, v = (j : Int) ∧ j ∈ ts ∧ 0 < sentB b i j) ∧ ∀ i, i ∈ st.2 → (st.1.getD i none).isSome = true) (g := fun i => i < R.length) (fun st i hst hi => ?_) _ st hst (fun i hi => List.mem_range.mp hi)
  obtain ⟨h1, h2, h3⟩ := hst
  unfold gaStep
  split
  · rename_i c
    have il : i < st.1.length := by rw [← h1.1, hl]; exact hi
    refine ⟨h1.trans (Ext.set il c.2), fun k v e => ?_, fun k hk => ?_⟩
    · rw [getD_setO il] at e
      by_cases q : i = k
      · subst q
        rw [if_pos rfl] at e
        exact .inr ⟨j, (Option.some.inj e).symm, hj, c.1⟩
      · rw [if_neg q] at e
        exact h2 k v e
    · rw [getD_setO il]
      by_cases q : i = k
      · rw [if_pos q]; rfl
      · rw [if_neg q]
        rcases List.mem_append.mp hk with hk | hk
        · exact h3 k hk
        · exact absurd (List.mem_singleton.mp hk).symm q
  · exact ⟨h1, h2, h3⟩
end Pk
set_option Elab.async false
set_option linter.all false
set_option maxRecDepth 100000
set_option maxHeartbeats 4000000
namespace Pk
open PySem L2
local macro_rules | `(tactic| walk_at "rd") => `(tactic| repeat (first
  | with_reducible refine r_seq ?_ | with_reducible refine r_nxt ?_ | with_reducible refine r_asg ?_ | with_reducible refine r_to ?_ | with_reducible refine r_ret ?_ | with_reducible refine r_for ?_ | with_reducible refine r_lc ?_ | with_reducible refine r_lc2 ?_ | with_reducible refine r_rng1 ?_ | with_reducible refine r_list ?_ | with_reducible refine r_tupI ?_ | with_reducible refine r_drop ?_ | with_reducible refine r_ifs ?_
  | with_reducible refine r_op ?_ | with_reducible refine r_c ?_ | with_reducible refine r_var rfl ?_ | with_reducible refine r_var (by assumption) ?_ | with_reducible refine r_I0 ?_ | with_reducible refine r_un ?_ | with_reducible refine r_U ?_ | with_reducible refine r_make ?_ | with_reducible refine r_makeS ?_ | with_reducible refine r_ifE ?_ | with_reducible refine r_cm ?_ | with_reducible refine r_mkV rfl ?_ | with_reducible refine r_sub ?_
  | with_reducible refine r_nil ?_ | with_reducible refine r_cons ?_ | with_reducible refine r_cb ?_ | with_reducible refine r_sl ?_ | with_reducible refine r_noP ?_ | with_reducible refine r_part ?_ | with_reducible refine r_isI ?_ | with_reducible refine r_lst ?_ | with_reducible refine r_tup ?_ | with_reducible refine r_call ?_ | with_reducible refine r_callS ?_ | with_reducible refine r_sFldU ?_ | with_reducible refine r_chain ?_ | with_reducible refine r_enum ?_ | with_reducible refine r_zip ?_ | with_reducible refine r_rng3 ?_ | with_reducible refine r_gtup ?_ | with_reducible refine r_methU ?_
  | with_reducible refine r_test ?_ | with_reducible refine r_B ?_ | with_reducible refine r_and ?_ | with_reducible refine r_or ?_ | with_reducible refine r_not ?_ | with_reducible refine r_andV ?_ | with_reducible refine r_orV ?_ | with_reducible refine r_notV ?_ | with_reducible refine r_bl ?_ | with_reducible refine r_yes ?_ | with_reducible refine r_int ?_ | with_reducible refine r_is0 ?_ | with_reducible refine r_is1 ?_ | with_reducible refine iteT ?_ | with_reducible refine iteF ?_ | with_reducible refine ite_nF ?_ | with_reducible refine ite_nT ?_
  | with_reducible refine r_mod (by decide) ?_ | with_reducible refine r_div (by decide) (by decide) ?_ | with_reducible refine r_mulR (by decide) (by decide) ?_ | with_reducible refine r_mulL (by decide) (by decide) ?_ | with_reducible refine r_pow (by decide) (by decide) (by decide) ?_))
/-! ### what a search leaves, in whole -/
theorem ext_some {a b : List (Option Int)} (h : Ext a b) {i : Nat} (e : (a.getD i none).isSome = true) : (b.getD i none).isSome = true := by
  obtain ⟨v, ev⟩ := Option.isSome_iff_exists.mp e
  rw [h.2 i v ev]; rfl
section
variable {R : Rw} {b : Bal}
theorem ways_takers (W : WaysB R b) {gs : List Nat} (hg : ∀ i, i ∈ gs → i < R.length ∧ (b.gy.getD i none).isSome = true) : WaysB R { b with ty := (takersF R b gs).1 } := by
  obtain ⟨e1, e2, e3⟩ := takers_inv R b gs W.lt
  refine ⟨W.lg, e1.1.symm.trans W.lt, fun i hi => ?_, W.start, fun i j e => ?_, fun j v e => ?_⟩
  · obtain ⟨d, p⟩ := W.path i hi
    exact ⟨d, p.ext (Ext.refl _) e1⟩
  · obtain ⟨h1, h2, h3⟩ := W.back i j e
    exact ⟨h1, h2, ext_some e1 h3⟩
  · rcases e2 j v e with h | ⟨i, rfl, hi, h1, h2⟩
    · exact W.fore j v h
    · exact ⟨i, rfl, (hg i hi).1, h1, h2, (hg i hi).2⟩
theorem ways_givers (W : WaysB R b) {ts : List Nat} (ht : ∀ j, j ∈ ts → j < wd R ∧ (b.ty.getD j none).isSome = true) : WaysB R { b with gy := (giversF R b ts).1 } := by
  obtain ⟨e1, e2, e3⟩ := givers_inv R b ts W.lg
  refine ⟨e1.1.symm.trans W.lg, W.lt, fun i hi => ?_, fun i e => ?_, fun i j e => ?_, fun j v e => ?_⟩
  · obtain ⟨v, ev⟩ := Option.isSome_iff_exists.mp hi
    rcases e2 i v ev with h | ⟨j, rfl, hj, h1⟩
    · obtain ⟨d, p⟩ := W.path i (by rw [h]; rfl)
      exact ⟨d, p.ext e1 (Ext.refl _)⟩
    · obtain ⟨u, eu⟩ := Option.isSome_iff_exists.mp (ht j hj).2
      obtain ⟨k, rfl, hk, _, _, h4⟩ := W.fore j u eu
      obtain ⟨d, p⟩ := W.path k h4
      exact ⟨d + 1, .step ev eu (p.ext e1 (Ext.refl _))⟩
  · rcases e2 i (-1) e with h | ⟨j, hj, _, _⟩
    · exact W.start i h
    · omega
  · rcases e2 i (j : Int) e with h | ⟨j', hj, hm, h1⟩
    · exact W.back i j h
    · have : j = j' := by omega
      subst this
      exact ⟨(ht j hm).1, h1, (ht j hm).2⟩
  · obtain ⟨i, h1, h2, h3, h4, h5⟩ := W.fore j v e
    exact ⟨i, h1, h2, h3, h4, ext_some e1 h5⟩
end
theorem foldl_done {α β : Type} {p : β → Prop} {q : α → β → Prop} {f : β → α → β} {g : α → Prop} (step : ∀ b a, p b → g a → p (f b a) ∧ q a (f b a)) (keep : ∀ b a c, p b → g a → q c b → q c (f b a)) :
    ∀ (l : List α) (b : β), p b → (∀ a, a ∈ l → g a) → p (l.foldl f b) ∧ (∀ a, a ∈ l → q a (l.foldl f b)) ∧ ∀ c, q c b → q c (l.foldl f b)
  | [], _, h, _ => ⟨h, (fun a ha => by cases ha), fun c hc => hc⟩
  | a :: l, b, h, hg => by
    have ga := hg a (List.mem_cons_self ..)
    obtain ⟨s1, s2⟩ := step b a h ga
    obtain ⟨r1, r2, r3⟩ := foldl_done step keep l (f b a) s1 fun c hc => hg c (List.mem_cons_of_mem _ hc)
    refine ⟨r1, fun c hc => ?_, fun c hc => r3 c (keep b a c h ga hc)⟩
    rcases List.mem_cons.mp hc with rfl | hc
    · exact r3 _ s2
    · exact r2 c hc
theorem taStep_ext {R : Rw} {b : Bal} {i j : Nat} {st : List (Option Int) × List Nat} (hj : j < st.1.length) : Ext st.1 (taStep R b i st j).1 := by
  unfold taStep
  split
  · rename_i c; exact Ext.set hj c.2.1
  · exact Ext.refl _
theorem gaStep_ext {b : Bal} {i j : Nat} {st : List (Option Int) × List Nat} (hi : i < st.1.length) : Ext st.1 (gaStep b j st i).1 := by
  unfold gaStep
  split
  · rename_i c; exact Ext.set hi c.2
  · exact Ext.refl _
/-- all that the givers' tight pairs reach is reached -/
theorem takers_all (R : Rw) (b : Bal) (gs : List Nat) (hl : b.ty.length = wd R) : ∀ i, i ∈ gs → ∀ j, j < wd R → (prc R i j).isSome = true → gapB R b i j = 0 → ((takersF R b gs).1.getD j none).isSome = true := by
  have row : ∀ (i : Nat) (st : List (Option Int) × List Nat), st.1.length = wd R → (taRow R b st i).1.length = wd R ∧ Ext st.1 (taRow R b st i).1 ∧ ∀ j, j < wd R → (prc R i j).isSome = true → gapB R b i j = 0 → ((taRow R b st i).1.getD j none).isSome = true := fun i st hst => by
    obtain ⟨h1, h2, _⟩ := foldl_done (p := fun su : List (Option Int) × List Nat => su.1.length = wd R ∧ Ext st.1 su.1) (q := fun j (su : List (Option Int) × List Nat) => (prc R i j).isSome = true → gapB R b i j = 0 → (su.1.getD j none).isSome = true) (f := taStep R b i) (g := fun j => j < wd R)
      (fun su j h hj => ⟨⟨(taStep_len R b i su j).1.trans h.1, h.2.trans (taStep_ext (by rw [h.1]; exact hj))⟩, fun c1 c2 => by
        unfold taStep
        by_cases c : su.1.getD j none = none
        · rw [if_pos ⟨c1, c, c2⟩]
          show ((su.1.set j _).getD j none).isSome = true
          rw [getD_setO (by rw [h.1]; exact hj), if_pos rfl]; rfl
        · rw [if_neg (fun z => c z.2.1)]
          cases e : su.1.getD j none with
          | none => exact absurd e c
          | some _ => rfl⟩)
      (fun su j c h hj hc c1 c2 => ext_some (taStep_ext (by rw [h.1]; exact hj)) (hc c1 c2)) (List.range (wd R)) st ⟨hst, Ext.refl _⟩ (fun j hj => List.mem_range.mp hj)
    exact ⟨h1.1, h1.2, fun j hj => h2 j (List.mem_range.mpr hj)⟩
  exact (foldl_done (p := fun st : List (Option Int) × List Nat => st.1.length = wd R) (q := fun i (st : List (Option Int) × List Nat) => ∀ j, j < wd R → (prc R i j).isSome = true → gapB R b i j = 0 → (st.1.getD j none).isSome = true) (f := taRow R b) (g := fun _ => True)
    (fun st i h _ => ⟨(row i st h).1, (row i st h).2.2⟩) (fun st i c h _ hc j hj c1 c2 => ext_some (row i st h).2.1 (hc j hj c1 c2)) gs (b.ty, []) hl (fun _ _ => trivial)).2.1
theorem givers_all (R : Rw) (b : Bal) (ts : List Nat) (hl : b.gy.length = R.length) : ∀ j, j ∈ ts → ∀ i, i < R.length → 0 < sentB b i j → ((giversF R b ts).1.getD i none).isSome = true := by
  have row : ∀ (j : Nat) (st : List (Option Int) × List Nat), st.1.length = R.length → (gaRow R b st j).1.length = R.length ∧ Ext st.1 (gaRow R b st j).1 ∧ ∀ i, i < R.length → 0 < sentB b i j → ((gaRow R b st j).1.getD i none).isSome = true := fun j st hst => by
    obtain ⟨h1, h2, _⟩ := foldl_done (p := fun su : List (Option Int) × List Nat => su.1.length = R.length ∧ Ext st.1 su.1) (q := fun i (su : List (Option Int) × List Nat) => 0 < sentB b i j → (su.1.getD i none).isSome = true) (f := gaStep b j) (g := fun i => i < R.length)
      (fun su i h hi => ⟨⟨(gaStep_len b j su i).1.trans h.1, h.2.trans (gaStep_ext (by rw [h.1]; exact hi))⟩, fun c1 => by
        unfold gaStep
        by_cases c : su.1.getD i none = none
        · rw [if_pos ⟨c1, c⟩]
          show ((su.1.set i _).getD i none).isSome = true
          rw [getD_setO (by rw [h.1]; exact hi), if_pos rfl]; rfl
        · rw [if_neg (fun z => c z.2)]
          cases e : su.1.getD i none with
          | none => exact absurd e c
          | some _ => rfl⟩)
      (fun su i c h hi hc c1 => ext_some (gaStep_ext (by rw [h.1]; exact hi)) (hc c1)) (List.range R.length) st ⟨hst, Ext.refl _⟩ (fun j hj => List.mem_range.mp hj)
    exact ⟨h1.1, h1.2, fun i hi => h2 i (List.mem_range.mpr hi)⟩
  exact (foldl_done (p := fun st : List (Option Int) × List Nat => st.1.length = R.length) (q := fun j (st : List (Option Int) × List Nat) => ∀ i, i < R.length → 0 < sentB b i j → (st.1.getD i none).isSome = true) (f := gaRow R b) (g := fun _ => True)
    (fun st j h _ => ⟨(row j st h).1, (row j st h).2.2⟩) (fun st j c h _ hc i hi c1 => ext_some (row j st h).2.1 (hc i hi c1)) ts (b.gy, []) hl (fun _ _ => trivial)).2.1
/-- the lines found anew are told -/
theorem takers_new (R : Rw) (b : Bal) (gs : List Nat) (hl : b.ty.length = wd R) : ∀ j, ((takersF R b gs).1.getD j none).isSome = true → (b.ty.getD j none).isSome = true ∨ j ∈ (takersF R b gs).2 := by
  refine (foldl_all (p := fun st : List (Option Int) × List Nat => st.1.length = wd R ∧ ∀ j, (st.1.getD j none).isSome = true → (b.ty.getD j none).isSome = true ∨ j ∈ st.2) (g := fun _ => True) (fun st i hst _ => ?_) gs (b.ty, []) ⟨hl, fun j e => .inl e⟩ (fun _ _ => trivial)).2
  refine foldl_all (p := fun st : List (Option Int) × List Nat => st.1.length = wd R ∧ ∀ j, (st.1.getD j none).isSome = true → (b.ty.getD j none).isSome = true ∨ j ∈ st.2) (g := fun j => j < wd R) (fun st j hst hj => ?_) _ st hst (fun j hj => List.mem_range.mp hj)
  refine ⟨(taStep_len R b i st j).1.trans hst.1, ?_⟩
  unfold taStep
  split
  · intro k e
    show (b.ty.getD k none).isSome = true ∨ k ∈ st.2 ++ [j]
    have e : ((st.1.set j (some (i : Int))).getD k none).isSome = true := e
    rw [getD_setO (by rw [hst.1]; exact hj)] at e
    by_cases q : j = k
    · subst q; exact .inr (List.mem_append_right _ (List.mem_singleton.mpr rfl))
    · rw [if_neg q] at e
      rcases hst.2 k e with h | h
      · exact .inl h
      · exact .inr (List.mem_append_left _ h)
  · exact hst.2
theorem givers_new (R : Rw) (b : Bal) (ts : List Nat) (hl : b.gy.length = R.length) : ∀ i, ((giversF R b ts).1.getD i none).isSome = true → (b.gy.getD i none).isSome = true ∨ i ∈ (giversF R b ts).2 := by
  refine (foldl_all (p := fun st : List (Option Int) × List Nat => st.1.length = R.length ∧ ∀ j, (st.1.getD j none).isSome = true → (b.gy.getD j none).isSome = true ∨ j ∈ st.2) (g := fun _ => True) (fun st j hst _ => ?_) ts (b.gy, []) ⟨hl, fun j e => .inl e⟩ (fun _ _ => trivial)).2
  refine foldl_all (p := fun st : List (Option Int) × List Nat => st.1.length = R.length ∧ ∀ j, (st.1.getD j none).isSome = true → (b.gy.getD j none).isSome = true ∨ j ∈ st.2) (g := fun i => i < R.length) (fun st i hst hi => ?_) _ st hst (fun j hj => List.mem_range.mp hj)
  refine ⟨(gaStep_len b j st i).1.trans hst.1, ?_⟩
  unfold gaStep
  split
  · intro k e
    show (b.gy.getD k none).isSome = true ∨ k ∈ st.2 ++ [i]
    have e : ((st.1.set i (some (j : Int))).getD k none).isSome = true := e
    rw [getD_setO (by rw [hst.1]; exact hi)] at e
    by_cases q : i = k
    · subst q; exact .inr (List.mem_append_right _ (List.mem_singleton.mpr rfl))
    · rw [if_neg q] at e
      rcases hst.2 k e with h | h
      · exact .inl h
      · exact .inr (List.mem_append_left _ h)
  · exact hst.2
/-- what is closed so far -/
structure Clo (R : Rw) (b : Bal) (gs : List Nat) : Prop where
  g : ∀ i, (b.gy.getD i none).isSome = true → i ∉ gs → ∀ j, j < wd R → (prc R i j).isSome = true → gapB R b i j = 0 → (b.ty.getD j none).isSome = true
  t : ∀ j, (b.ty.getD j none).isSome = true → b.la.getD j 0 ≤ 0 ∧ ∀ i, i < R.length → 0 < sentB b i j → (b.gy.getD i none).isSome = true
/-- the parts of the balance that a search leaves as they are -/
structure SameL (b b' : Bal) : Prop where
  sp : b'.sp = b.sp
  la : b'.la = b.la
  S : b'.S = b.S
  gw : b'.gw = b.gw
  tw : b'.tw = b.tw
theorem search_ways {R : Rw} {b b' : Bal} {gs : List Nat} {e : Option Nat} (h : SearchR R b gs b' e) : WaysB R b → (∀ i, i ∈ gs → i < R.length ∧ (b.gy.getD i none).isSome = true) → Clo R b gs →
    WaysB R b' ∧ SameL b b' ∧ (∀ j, e = some j → j < wd R ∧ (b'.ty.getD j none).isSome = true ∧ 0 < b'.la.getD j 0) ∧ (e = none → Clo R b' []) := by
  induction h with
  | stop b => intro W _ c; exact ⟨W, ⟨rfl, rfl, rfl, rfl, rfl⟩, (fun j e => by cases e), fun _ => c⟩
  | @hit b gs j ne f =>
    intro W hg c
    refine ⟨ways_takers W hg, ⟨rfl, rfl, rfl, rfl, rfl⟩, fun j' e => ?_, (fun e => by cases e)⟩
    cases e
    have hm := List.mem_of_find?_eq_some f
    have hp := List.find?_some f
    exact ⟨takers_lt R b gs j hm, (takers_inv R b gs W.lt).2.2 j hm, of_decide_eq_true hp⟩
  | @go b b' gs e ne f r ih =>
    intro W hg c
    have W1 := ways_takers W hg
    obtain ⟨t1, t2, t3⟩ := takers_inv R b gs W.lt
    have hts : ∀ j, j ∈ (takersF R b gs).2 → j < wd R ∧ ((takersF R b gs).1.getD j none).isSome = true := fun j hj => ⟨takers_lt R b gs j hj, t3 j hj⟩
    have W2 := ways_givers (b := { b with ty := (takersF R b gs).1 }) W1 hts
    obtain ⟨g1, g2, g3⟩ := givers_inv R { b with ty := (takersF R b gs).1 } (takersF R b gs).2 W1.lg
    have c2 : Clo R { b with ty := (takersF R b gs).1, gy := (giversF R { b with ty := (takersF R b gs).1 } (takersF R b gs).2).1 } (giversF R { b with ty := (takersF R b gs).1 } (takersF R b gs).2).2 := by
      refine ⟨fun i hi ni j hj p1 p2 => ?_, fun j hj => ?_⟩
      · rcases givers_new R { b with ty := (takersF R b gs).1 } (takersF R b gs).2 W1.lg i hi with o | o
        · by_cases m : i ∈ gs
          · exact takers_all R b gs W.lt i m j hj p1 p2
          · exact ext_some t1 (c.g i o m j hj p1 p2)
        · exact absurd o ni
      · rcases takers_new R b gs W.lt j hj with o | o
        · exact ⟨(c.t j o).1, fun i hi s => ext_some g1 ((c.t j o).2 i hi s)⟩
        · refine ⟨?_, fun i hi s => givers_all R { b with ty := (takersF R b gs).1 } _ W1.lg j o i hi s⟩
          have := List.find?_eq_none.mp f j o
          have n : ¬ 0 < b.la.getD j 0 := fun z => this (decide_eq_true z)
          show b.la.getD j 0 ≤ 0
          omega
    obtain ⟨r1, r2, r3, r4⟩ := ih W2 (fun i hi => ⟨givers_lt R _ _ i hi, g3 i hi⟩) c2
    exact ⟨r1, ⟨r2.sp, r2.la, r2.S, r2.gw, r2.tw⟩, r3, r4⟩
end Pk
set_option Elab.async false
set_option linter.all false
set_option maxRecDepth 100000
set_option maxHeartbeats 4000000
namespace Pk
open PySem L2
local macro_rules | `(tactic| walk_at "rd") => `(tactic| repeat (first
  | with_reducible refine r_seq ?_ | with_reducible refine r_nxt ?_ | with_reducible refine r_asg ?_ | with_reducible refine r_to ?_ | with_reducible refine r_ret ?_ | with_reducible refine r_for ?_ | with_reducible refine r_lc ?_ | with_reducible refine r_lc2 ?_ | with_reducible refine r_rng1 ?_ | with_reducible refine r_list ?_ | with_reducible refine r_tupI ?_ | with_reducible refine r_drop ?_ | with_reducible refine r_ifs ?_
  | with_reducible refine r_op ?_ | with_reducible refine r_c ?_ | with_reducible refine r_var rfl ?_ | with_reducible refine r_var (by assumption) ?_ | with_reducible refine r_I0 ?_ | with_reducible refine r_un ?_ | with_reducible refine r_U ?_ | with_reducible refine r_make ?_ | with_reducible refine r_makeS ?_ | with_reducible refine r_ifE ?_ | with_reducible refine r_cm ?_ | with_reducible refine r_mkV rfl ?_ | with_reducible refine r_sub ?_
  | with_reducible refine r_nil ?_ | with_reducible refine r_cons ?_ | with_reducible refine r_cb ?_ | with_reducible refine r_sl ?_ | with_reducible refine r_noP ?_ | with_reducible refine r_part ?_ | with_reducible refine r_isI ?_ | with_reducible refine r_lst ?_ | with_reducible refine r_tup ?_ | with_reducible refine r_call ?_ | with_reducible refine r_callS ?_ | with_reducible refine r_sFldU ?_ | with_reducible refine r_chain ?_ | with_reducible refine r_enum ?_ | with_reducible refine r_zip ?_ | with_reducible refine r_rng3 ?_ | with_reducible refine r_gtup ?_ | with_reducible refine r_methU ?_
  | with_reducible refine r_test ?_ | with_reducible refine r_B ?_ | with_reducible refine r_and ?_ | with_reducible refine r_or ?_ | with_reducible refine r_not ?_ | with_reducible refine r_andV ?_ | with_reducible refine r_orV ?_ | with_reducible refine r_notV ?_ | with_reducible refine r_bl ?_ | with_reducible refine r_yes ?_ | with_reducible refine r_int ?_ | with_reducible refine r_is0 ?_ | with_reducible refine r_is1 ?_ | with_reducible refine iteT ?_ | with_reducible refine iteF ?_ | with_reducible refine ite_nF ?_ | with_reducible refine ite_nT ?_
  | with_reducible refine r_mod (by decide) ?_ | with_reducible refine r_div (by decide) (by decide) ?_ | with_reducible refine r_mulR (by decide) (by decide) ?_ | with_reducible refine r_mulL (by decide) (by decide) ?_ | with_reducible refine r_pow (by decide) (by decide) (by decide) ?_))
/-! ### the path back from a taker that was reached -/
theorem Pth.uniq {gy ty : List (Option Int)} {i d : Nat} (h : Pth gy ty i d) : ∀ {d' : Nat}, Pth gy ty i d' → d = d' := by
  induction h with
  | start e =>
    intro d' h'
    cases h' with
    | start _ => rfl
    | step e2 _ _ => rw [e] at e2; have := Option.some.inj e2; omega
  | step e q r ih =>
    intro d' h'
    cases h' with
    | start e2 => rw [e] at e2; have := Option.some.inj e2; omega
    | step e2 q2 r2 =>
      rw [e] at e2
      have ej := Option.some.inj e2
      have ej : _ = _ := Int.ofNat.inj ej
      subst ej
      rw [q] at q2
      have ek : _ = _ := Int.ofNat.inj (Option.some.inj q2)
      subst ek
      rw [ih r2]
/-- the path: the giver that is next, what is sent more, what is sent less, the giver that it begins at -/
inductive Chn (gy ty : List (Option Int)) : Nat → List (Nat × Nat) → List (Nat × Nat) → Nat → Prop
  | stop {i : Nat} (e : gy.getD i none = some (-1)) : Chn gy ty i [] [] i
  | next {i j k l : Nat} {f bk : List (Nat × Nat)} (e : gy.getD i none = some (j : Int)) (q : ty.getD j none = some (k : Int)) (r : Chn gy ty k f bk l) : Chn gy ty i ((k, j) :: f) ((i, j) :: bk) l
theorem Pth.chn {gy ty : List (Option Int)} {i d : Nat} (h : Pth gy ty i d) : ∃ f bk l, Chn gy ty i f bk l ∧ f.length = d ∧ bk.length = d := by
  induction h with
  | start e => exact ⟨_, _, _, .stop e, rfl, rfl⟩
  | step e q _ ih =>
    obtain ⟨f, bk, l, c, h1, h2⟩ := ih
    exact ⟨_, _, _, .next e q c, by rw [List.length_cons, h1], by rw [List.length_cons, h2]⟩
theorem Chn.pth {gy ty : List (Option Int)} {i l : Nat} {f bk : List (Nat × Nat)} (c : Chn gy ty i f bk l) : Pth gy ty i bk.length := by
  induction c with
  | stop e => exact .start e
  | next e q _ ih => exact .step e q ih
/-- the givers on the way, each further from the end, so none twice -/
theorem Chn.far {gy ty : List (Option Int)} {i l : Nat} {f bk : List (Nat × Nat)} (c : Chn gy ty i f bk l) : ∀ z, z ∈ bk → ∃ d, Pth gy ty z.1 d ∧ 0 < d ∧ d ≤ bk.length := by
  induction c with
  | stop e => intro z hz; cases hz
  | @next i j k l f bk e q r ih =>
    intro z hz
    rcases List.mem_cons.mp hz with rfl | hz
    · exact ⟨bk.length + 1, .step e q r.pth, Nat.succ_pos _, Nat.le_refl _⟩
    · obtain ⟨d, p, h1, h2⟩ := ih z hz
      exact ⟨d, p, h1, by rw [List.length_cons]; omega⟩
theorem Chn.once {gy ty : List (Option Int)} {i l : Nat} {f bk : List (Nat × Nat)} (c : Chn gy ty i f bk l) : (bk.map (·.1)).Nodup ∧ (∀ z, z ∈ bk → z.1 ≠ l ∨ bk = []) := by
  induction c with
  | stop e => exact ⟨List.nodup_nil, fun z hz => by cases hz⟩
  | @next i j k l f bk e q r ih =>
    refine ⟨List.nodup_cons.mpr ⟨fun m => ?_, ih.1⟩, fun z hz => .inl fun el => ?_⟩
    · obtain ⟨z, hz, ez⟩ := List.mem_map.mp m
      obtain ⟨d, p, _, h2⟩ := r.far z hz
      have ez : z.1 = i := ez
      rw [ez] at p
      have := p.uniq (.step e q r.pth)
      omega
    · obtain ⟨d, p, h1, _⟩ := (Chn.next e q r).far z hz
      have : ∀ {i l : Nat} {f bk : List (Nat × Nat)}, Chn gy ty i f bk l → Pth gy ty l 0 := fun c => by
        induction c with
        | stop e => exact .start e
        | next _ _ _ ih => exact ih
      have p0 := this r
      rw [← el] at p0
      have := p.uniq p0
      omega
theorem nsub_lenB : ∀ {xs ys : List Nat}, xs.Nodup → (∀ z, z ∈ xs → z ∈ ys) → xs.length ≤ ys.length
  | [], _, _, _ => Nat.zero_le _
  | a :: xs, ys, nd, sub => by
    obtain ⟨n1, n2⟩ := List.nodup_cons.mp nd
    have m := sub a (List.mem_cons_self ..)
    have l := List.length_erase_of_mem m
    have := List.length_pos_of_mem m
    have := nsub_lenB (ys := ys.erase a) n2 fun z hz => (List.mem_erase_of_ne (show z ≠ a from fun e => n1 (e ▸ hz))).mpr (sub z (List.mem_cons_of_mem _ hz))
    rw [List.length_cons]
    omega
/-- what stands at the pairs of the path -/
theorem Chn.facts {R : Rw} {b : Bal} (W : WaysB R b) {i l : Nat} {f bk : List (Nat × Nat)} (c : Chn b.gy b.ty i f bk l) : (∀ z, z ∈ bk → z.1 < R.length ∧ z.2 < wd R ∧ 0 < sentB b z.1 z.2) ∧ (∀ z, z ∈ f → z.1 < R.length ∧ z.2 < wd R ∧ (prc R z.1 z.2).isSome = true ∧ gapB R b z.1 z.2 = 0) ∧ 0 < b.sp.getD l 0 := by
  induction c with
  | stop e => exact ⟨fun z hz => (by cases hz), fun z hz => (by cases hz), W.start _ e⟩
  | @next i j k l f bk e q r ih =>
    obtain ⟨b1, b2, b3⟩ := W.back i j e
    obtain ⟨k', ek, k1, k2, k3, _⟩ := W.fore j _ q
    have ek : k = k' := Int.ofNat.inj ek
    subst ek
    have il : i < R.length := by
      apply Classical.byContradiction
      intro n
      rw [getD_none (by rw [W.lg]; omega)] at e
      cases e
    refine ⟨fun z hz => ?_, fun z hz => ?_, ih.2.2⟩
    · rcases List.mem_cons.mp hz with rfl | hz
      · exact ⟨il, b1, b2⟩
      · exact ih.1 z hz
    · rcases List.mem_cons.mp hz with rfl | hz
      · exact ⟨k1, b1, k2, k3⟩
      · exact ih.2.1 z hz
theorem Chn.short {R : Rw} {b : Bal} (W : WaysB R b) {i l : Nat} {f bk : List (Nat × Nat)} (c : Chn b.gy b.ty i f bk l) : bk.length ≤ R.length := by
  have := nsub_lenB (xs := bk.map (·.1)) (ys := List.range R.length) c.once.1 fun z hz => by
    obtain ⟨p, hp, rfl⟩ := List.mem_map.mp hz
    exact List.mem_range.mpr ((c.facts W).1 p hp).1
  rwa [List.length_map, List.length_range] at this
end Pk
set_option Elab.async false
set_option linter.all false
set_option maxRecDepth 100000
set_option maxHeartbeats 4000000
namespace Pk
open PySem L2
local macro_rules | `(tactic| walk_at "rd") => `(tactic| repeat (first
  | with_reducible refine r_seq ?_ | with_reducible refine r_nxt ?_ | with_reducible refine r_asg ?_ | with_reducible refine r_to ?_ | with_reducible refine r_ret ?_ | with_reducible refine r_for ?_ | with_reducible refine r_lc ?_ | with_reducible refine r_lc2 ?_ | with_reducible refine r_rng1 ?_ | with_reducible refine r_list ?_ | with_reducible refine r_tupI ?_ | with_reducible refine r_drop ?_ | with_reducible refine r_ifs ?_
  | with_reducible refine r_op ?_ | with_reducible refine r_c ?_ | with_reducible refine r_var rfl ?_ | with_reducible refine r_var (by assumption) ?_ | with_reducible refine r_I0 ?_ | with_reducible refine r_un ?_ | with_reducible refine r_U ?_ | with_reducible refine r_make ?_ | with_reducible refine r_makeS ?_ | with_reducible refine r_ifE ?_ | with_reducible refine r_cm ?_ | with_reducible refine r_mkV rfl ?_ | with_reducible refine r_sub ?_
  | with_reducible refine r_nil ?_ | with_reducible refine r_cons ?_ | with_reducible refine r_cb ?_ | with_reducible refine r_sl ?_ | with_reducible refine r_noP ?_ | with_reducible refine r_part ?_ | with_reducible refine r_isI ?_ | with_reducible refine r_lst ?_ | with_reducible refine r_tup ?_ | with_reducible refine r_call ?_ | with_reducible refine r_callS ?_ | with_reducible refine r_sFldU ?_ | with_reducible refine r_chain ?_ | with_reducible refine r_enum ?_ | with_reducible refine r_zip ?_ | with_reducible refine r_rng3 ?_ | with_reducible refine r_gtup ?_ | with_reducible refine r_methU ?_
  | with_reducible refine r_test ?_ | with_reducible refine r_B ?_ | with_reducible refine r_and ?_ | with_reducible refine r_or ?_ | with_reducible refine r_not ?_ | with_reducible refine r_andV ?_ | with_reducible refine r_orV ?_ | with_reducible refine r_notV ?_ | with_reducible refine r_bl ?_ | with_reducible refine r_yes ?_ | with_reducible refine r_int ?_ | with_reducible refine r_is0 ?_ | with_reducible refine r_is1 ?_ | with_reducible refine iteT ?_ | with_reducible refine iteF ?_ | with_reducible refine ite_nF ?_ | with_reducible refine ite_nT ?_
  | with_reducible refine r_mod (by decide) ?_ | with_reducible refine r_div (by decide) (by decide) ?_ | with_reducible refine r_mulR (by decide) (by decide) ?_ | with_reducible refine r_mulL (by decide) (by decide) ?_ | with_reducible refine r_pow (by decide) (by decide) (by decide) ?_))
/-! ### the balance: its lists written -/
section
variable {K : PySem.W.Frag} {C : Addr} {G H : Hp} {A : BalA} {R : Rw} {b : Bal}
theorem BalH.setSp (h : BalH K C G H A R b) {sp : List Int} (l : sp.length = R.length) : BalH K C G (upd H A.a1 (.lst (sp.map V.int))) A R { b with sp := sp } :=
  ⟨h.own.set (i := 1) rfl, h.own.base h.s (i := 1) rfl, h.ents, ⟨l, h.d.l2, h.d.l3, h.d.l4, h.d.l5, h.d.l6⟩, h.cl⟩
theorem BalH.setLa (h : BalH K C G H A R b) {la : List Int} (l : la.length = wd R) : BalH K C G (upd H A.a2 (.lst (la.map V.int))) A R { b with la := la } :=
  ⟨h.own.set (i := 2) rfl, h.own.base h.s (i := 2) rfl, h.ents, ⟨h.d.l1, l, h.d.l3, h.d.l4, h.d.l5, h.d.l6⟩, h.cl⟩
theorem BalH.setGw (h : BalH K C G H A R b) {gw : List Int} (l : gw.length = R.length) : BalH K C G (upd H A.a4 (.lst (gw.map V.int))) A R { b with gw := gw } :=
  ⟨h.own.set (i := 4) rfl, h.own.base h.s (i := 4) rfl, h.ents, ⟨h.d.l1, h.d.l2, h.d.l3, l, h.d.l5, h.d.l6⟩, h.cl⟩
theorem BalH.setTw (h : BalH K C G H A R b) {tw : List Int} (l : tw.length = wd R) : BalH K C G (upd H A.a5 (.lst (tw.map V.int))) A R { b with tw := tw } :=
  ⟨h.own.set (i := 5) rfl, h.own.base h.s (i := 5) rfl, h.ents, ⟨h.d.l1, h.d.l2, h.d.l3, h.d.l4, l, h.d.l6⟩, h.cl⟩
theorem BalH.setRow (h : BalH K C G H A R b) {i : Nat} (hi : i < R.length) {c : Addr} (ec : (A.cs.map V.ref)[i]? = some (.ref c)) {r : List Int} (l : r.length = wd R) : BalH K C G (upd H c (.lst (r.map V.int))) A R { b with S := b.S.set i r } := by
  have h1 : i < A.cs.length := by rw [h.cl]; exact hi
  have h2 : i < b.S.length := by rw [h.d.l3]; exact hi
  have e1 : A.cs[i]? = some c := by
    rw [List.getElem?_map] at ec
    obtain ⟨c', e', q⟩ := Option.map_eq_some_iff.mp ec
    cases q; exact e'
  have e : (balL C A b)[8 + i]? = some (c, .lst ((b.S.getD i []).map V.int)) := by
    unfold balL
    rw [List.getElem?_append_right (by show 8 ≤ 8 + i; omega)]
    show (A.cs.zip (b.S.map fun r => HO.lst (r.map V.int)))[8 + i - 8]? = _
    rw [Nat.add_sub_cancel_left, List.getElem?_zip_eq_some]
    refine ⟨e1, ?_⟩
    rw [List.getElem?_map, List.getD_eq_getElem?_getD, List.getElem?_eq_getElem h2]; rfl
  have o := h.own.set (o' := .lst (r.map V.int)) e
  have el : (balL C A b).set (8 + i) (c, .lst (r.map V.int)) = balL C A { b with S := b.S.set i r } := by
    apply List.ext_getElem?
    intro k
    by_cases q : 8 + i = k
    · subst q
      rw [List.getElem?_set_self (List.getElem?_eq_some_iff.mp e).1]
      unfold balL
      rw [List.getElem?_append_right (by show 8 ≤ 8 + i; omega)]
      show _ = (A.cs.zip ((b.S.set i r).map fun r => HO.lst (r.map V.int)))[8 + i - 8]?
      rw [Nat.add_sub_cancel_left]
      symm
      rw [List.getElem?_zip_eq_some]
      refine ⟨e1, ?_⟩
      rw [List.getElem?_map, List.getElem?_set_self h2]; rfl
    · rw [List.getElem?_set_ne q]
      unfold balL
      by_cases k8 : k < 8
      · rw [List.getElem?_append_left (by exact k8), List.getElem?_append_left (by exact k8)]
      · rw [List.getElem?_append_right (by show 8 ≤ k; omega), List.getElem?_append_right (by show 8 ≤ k; omega)]
        show (A.cs.zip (b.S.map fun r => HO.lst (r.map V.int)))[k - 8]? = (A.cs.zip ((b.S.set i r).map fun r => HO.lst (r.map V.int)))[k - 8]?
        rw [List.map_set]
        have ne : i ≠ k - 8 := by omega
        generalize k - 8 = z at ne
        rw [List.zip, List.getElem?_zipWith, List.getElem?_zipWith, List.getElem?_set_ne ne]
  refine ⟨by rw [← el]; exact o, h.own.base h.s e, h.ents, ⟨h.d.l1, h.d.l2, by show (b.S.set i r).length = _; rw [List.length_set, h.d.l3], h.d.l4, h.d.l5, fun x hx => ?_⟩, h.cl⟩
  rcases List.mem_or_eq_of_mem_set hx with q | q
  · exact h.d.l6 x q
  · rw [q]; exact l
end
end Pk
set_option Elab.async false
set_option linter.all false
set_option maxRecDepth 100000
set_option maxHeartbeats 4000000
namespace Pk
open PySem L2
local macro_rules | `(tactic| walk_at "rd") => `(tactic| repeat (first
  | with_reducible refine r_seq ?_ | with_reducible refine r_nxt ?_ | with_reducible refine r_asg ?_ | with_reducible refine r_to ?_ | with_reducible refine r_ret ?_ | with_reducible refine r_for ?_ | with_reducible refine r_lc ?_ | with_reducible refine r_lc2 ?_ | with_reducible refine r_rng1 ?_ | with_reducible refine r_list ?_ | with_reducible refine r_tupI ?_ | with_reducible refine r_drop ?_ | with_reducible refine r_ifs ?_
  | with_reducible refine r_op ?_ | with_reducible refine r_c ?_ | with_reducible refine r_var rfl ?_ | with_reducible refine r_var (by assumption) ?_ | with_reducible refine r_I0 ?_ | with_reducible refine r_un ?_ | with_reducible refine r_U ?_ | with_reducible refine r_make ?_ | with_reducible refine r_makeS ?_ | with_reducible refine r_ifE ?_ | with_reducible refine r_cm ?_ | with_reducible refine r_mkV rfl ?_ | with_reducible refine r_sub ?_
  | with_reducible refine r_nil ?_ | with_reducible refine r_cons ?_ | with_reducible refine r_cb ?_ | with_reducible refine r_sl ?_ | with_reducible refine r_noP ?_ | with_reducible refine r_part ?_ | with_reducible refine r_isI ?_ | with_reducible refine r_lst ?_ | with_reducible refine r_tup ?_ | with_reducible refine r_call ?_ | with_reducible refine r_callS ?_ | with_reducible refine r_sFldU ?_ | with_reducible refine r_chain ?_ | with_reducible refine r_enum ?_ | with_reducible refine r_zip ?_ | with_reducible refine r_rng3 ?_ | with_reducible refine r_gtup ?_ | with_reducible refine r_methU ?_
  | with_reducible refine r_test ?_ | with_reducible refine r_B ?_ | with_reducible refine r_and ?_ | with_reducible refine r_or ?_ | with_reducible refine r_not ?_ | with_reducible refine r_andV ?_ | with_reducible refine r_orV ?_ | with_reducible refine r_notV ?_ | with_reducible refine r_bl ?_ | with_reducible refine r_yes ?_ | with_reducible refine r_int ?_ | with_reducible refine r_is0 ?_ | with_reducible refine r_is1 ?_ | with_reducible refine iteT ?_ | with_reducible refine iteF ?_ | with_reducible refine ite_nF ?_ | with_reducible refine ite_nT ?_
  | with_reducible refine r_mod (by decide) ?_ | with_reducible refine r_div (by decide) (by decide) ?_ | with_reducible refine r_mulR (by decide) (by decide) ?_ | with_reducible refine r_mulL (by decide) (by decide) ?_ | with_reducible refine r_pow (by decide) (by decide) (by decide) ?_))
/-! ### the balance: moving along a path -/
def bumpB (a : Int) (b : Bal) (z : Nat × Nat) : Bal := { b with S := b.S.set z.1 ((b.S.getD z.1 []).set z.2 (sentB b z.1 z.2 + a)) }
def amtB (b : Bal) (bk : List (Nat × Nat)) (l e : Nat) : Int := leastF ([b.sp.getD l 0, b.la.getD e 0] ++ bk.map fun z => sentB b z.1 z.2)
def extB (b : Bal) (fw bk : List (Nat × Nat)) (l e : Nat) : Bal :=
  { bk.foldl (bumpB (-(amtB b bk l e))) (fw.foldl (bumpB (amtB b bk l e)) b) with sp := b.sp.set l (b.sp.getD l 0 - amtB b bk l e), la := b.la.set e (b.la.getD e 0 - amtB b bk l e) }
theorem r_parB {i j : Nat} {ta : TA} {D : Ends} {σ : L2.St} {H : Hp} (h : ta σ H fun vs H1 => ∃ v w, vs = [v, w] ∧ D.nx ((σ.set i (some v)).set j (some w)) H1) : tPar i j ta D σ H := h
inductive PrT (H : Hp) : List V → List (Nat × Nat) → Prop
  | nil : PrT H [] []
  | cons {t : Addr} {z : Nat × Nat} {vs : List V} {zs : List (Nat × Nat)} (h : H t = some (.tup [.int (z.1 : Int), .int (z.2 : Int)])) (r : PrT H vs zs) : PrT H (.ref t :: vs) (z :: zs)
theorem PrT.tup {H H' : Hp} {vs : List V} {zs : List (Nat × Nat)} (h : PrT H vs zs) (s : ∀ t xs, H t = some (.tup xs) → H' t = some (.tup xs)) : PrT H' vs zs := by
  induction h with
  | nil => exact .nil
  | cons h _ ih => exact .cons (s _ _ h) ih
theorem PrT.length {H : Hp} {vs : List V} {zs : List (Nat × Nat)} (h : PrT H vs zs) : vs.length = zs.length := by
  induction h with
  | nil => rfl
  | cons _ _ ih => rw [List.length_cons, List.length_cons, ih]
theorem PrT.app {H : Hp} {vs ws : List V} {zs ys : List (Nat × Nat)} (h : PrT H vs zs) (g : PrT H ws ys) : PrT H (vs ++ ws) (zs ++ ys) := by
  induction h with
  | nil => exact g
  | cons h _ ih => exact .cons h ih
theorem PrT.at {H : Hp} {vs : List V} {zs : List (Nat × Nat)} (h : PrT H vs zs) : ∀ {i : Nat} {v : V}, vs[i]? = some v → ∃ t z, zs[i]? = some z ∧ v = .ref t ∧ H t = some (.tup [.int (z.1 : Int), .int (z.2 : Int)]) := by
  induction h with
  | nil => intro i v e; simp at e
  | cons h _ ih =>
    intro i v e
    cases i with
    | zero => cases e; exact ⟨_, _, rfl, rfl, h⟩
    | succ i => exact ih e
theorem Chn.det {gy ty : List (Option Int)} {i l : Nat} {f bk : List (Nat × Nat)} (c : Chn gy ty i f bk l) : gy.getD i none = some (-1) ∧ f = [] ∧ bk = [] ∧ l = i ∨ ∃ (j k : Nat) (f' bk' : List (Nat × Nat)), gy.getD i none = some (j : Int) ∧ ty.getD j none = some (k : Int) ∧ f = (k, j) :: f' ∧ bk = (i, j) :: bk' ∧ Chn gy ty k f' bk' l := by
  cases c with
  | stop e => exact .inl ⟨e, rfl, rfl, rfl⟩
  | next e q r => exact .inr ⟨_, _, _, _, e, q, rfl, rfl, r⟩
theorem bump_len (a : Int) (b : Bal) (z : Nat × Nat) : (bumpB a b z).S.length = b.S.length := List.length_set
theorem bumps_len (a : Int) : ∀ (zs : List (Nat × Nat)) (b : Bal), (zs.foldl (bumpB a) b).S.length = b.S.length
  | [], _ => rfl
  | z :: zs, b => by rw [List.foldl_cons, bumps_len a zs, bump_len]
theorem ad_same {C : Addr} {A : BalA} {b b' : Bal} (h1 : A.cs.length = b.S.length) (h2 : A.cs.length = b'.S.length) : (balL C A b').map (·.1) = (balL C A b).map (·.1) := by
  unfold balL
  rw [List.map_append, List.map_append]
  have e1 : (A.cs.zip (b.S.map fun r => HO.lst (r.map V.int))).map (·.1) = A.cs := List.map_fst_zip (by rw [List.length_map]; omega)
  have e2 : (A.cs.zip (b'.S.map fun r => HO.lst (r.map V.int))).map (·.1) = A.cs := List.map_fst_zip (by rw [List.length_map]; omega)
  rw [e1, e2]; rfl
theorem row_own {K : PySem.W.Frag} {C : Addr} {G H : Hp} {A : BalA} {R : Rw} {b : Bal} (h : BalH K C G H A R b) {i : Nat} {c : Addr} (e : (A.cs.map V.ref)[i]? = some (.ref c)) : c ∈ (balL C A b).map (·.1) := by
  unfold balL
  rw [List.map_append]
  refine List.mem_append_right _ ?_
  rw [List.map_fst_zip (by rw [List.length_map, h.cl, h.d.l3]; exact Nat.le_refl _)]
  rw [List.getElem?_map] at e
  obtain ⟨c', e', q⟩ := Option.map_eq_some_iff.mp e
  cases q
  exact List.mem_of_getElem? e'
/-- one pair's amount is changed: what is read and what is written -/
theorem bump_at {K : PySem.W.Frag} {C : Addr} {G H : Hp} {A : BalA} {R : Rw} {b : Bal} (h : BalH K C G H A R b) {z : Nat × Nat} (z1 : z.1 < R.length) (z2 : z.2 < wd R) : ∃ c, (A.cs.map V.ref)[z.1]? = some (.ref c) ∧ H c = some (.lst ((b.S.getD z.1 []).map V.int)) ∧ ((b.S.getD z.1 []).map V.int)[z.2]? = some (V.int (sentB b z.1 z.2)) ∧ z.2 < ((b.S.getD z.1 []).map V.int).length ∧ c ∈ (balL C A b).map (·.1) ∧
    ∀ a : Int, BalH K C G (upd H c (.lst (((b.S.getD z.1 []).map V.int).set z.2 (V.int (sentB b z.1 z.2 + a))))) A R (bumpB a b z) := by
  obtain ⟨c, ec, hc⟩ := h.row z1
  have hS : z.1 < b.S.length := by rw [h.d.l3]; exact z1
  have rl : (b.S.getD z.1 []).length = wd R := by
    rw [List.getD_eq_getElem?_getD, List.getElem?_eq_getElem hS]
    exact h.d.l6 _ (List.getElem_mem hS)
  refine ⟨c, ec, hc, ?_, by rw [List.length_map, rl]; exact z2, row_own h ec, fun a => ?_⟩
  · unfold sentB
    rw [List.getElem?_map, List.getD_eq_getElem?_getD (l := b.S.getD z.1 []), List.getElem?_eq_getElem (by rw [rl]; exact z2)]; rfl
  · have e : ((b.S.getD z.1 []).map V.int).set z.2 (V.int (sentB b z.1 z.2 + a)) = ((b.S.getD z.1 []).set z.2 (sentB b z.1 z.2 + a)).map V.int := by rw [List.map_set]
    rw [e]
    exact h.setRow z1 ec (by rw [List.length_set]; exact rl)
theorem own_notup {C : Addr} {A : BalA} {b : Bal} {p : Addr × HO} (h : p ∈ balL C A b) (xs : List V) : p.2 ≠ .tup xs := by
  unfold balL at h
  rcases List.mem_append.mp h with h | h
  · simp only [List.mem_cons, List.not_mem_nil, or_false] at h
    rcases h with rfl | rfl | rfl | rfl | rfl | rfl | rfl | rfl <;> exact fun z => by cases z
  · have := (List.of_mem_zip (a := p.1) (b := p.2) h).2
    obtain ⟨r, _, e⟩ := List.mem_map.mp this
    rw [← e]
    exact fun z => by cases z
def spExt (K : PySem.W.Frag) (C : Addr) : Sp := fun vs H Q _ => ∃ (G : Hp) (A : BalA) (R : Rw) (b : Bal) (e i0 l : Nat) (f bk : List (Nat × Nat)), vs = [.ref A.x, .int (e : Int)] ∧ BalH K C G H A R b ∧ Gt R ∧ WaysB R b ∧ e < wd R ∧ b.ty.getD e none = some (i0 : Int) ∧ Chn b.gy b.ty i0 f bk l ∧ i0 < R.length ∧
  ∀ H' : Hp, BalH K C G H' A R (extB b ((i0, e) :: f) bk l e) → FrameB C A b H H' → Q .non H'
abbrev slExt : Stmt := inCls 20 6
section
variable {P : Program} {w : World} {K : PySem.W.Frag} {mg : Str → Option Value} {base : Heap} {C f : Addr} {fd : FuncData}
theorem sclExt : FnScope ["self", "end", "first", "forward", "backward", "j", "amount", "i"] ["self", "end"] (defScope slExt) := ⟨rfl, rfl, rfl, by decide +kernel, rfl, by decide +kernel, by decide +kernel⟩
theorem ok_ext (F : Fun K "extend_to" "Balance.extend_to" slExt f fd) (T : Bt mg) {tk : Tok} (hS : mg "START" = some (.int (-1) tk)) (B : BalC K C) (DL : Df P w K mg base CX0 "least" 1 ["numbers"] spLeastN) : FnOk P w K mg base CX0 2 f fd ["self", "end"] (spExt K C) := by
  refine F.ok sclExt (fun vs H Q E h => ?_) (fun cdv A0 outer s H vs Q E hr h => ?_)
  · obtain ⟨G, A, R, b, e, i0, l, ff, bk, rfl, _⟩ := h
    rfl
  · obtain ⟨G, A, R, b, e, i0, l, ff, bk, rfl, h, g, W, eR, ety, ch, i0R, k⟩ := h
    refine ⟨_, (pss_cons (ps_set (i := 2) sclExt.nd rfl (Or.inl rfl) (pe_ix ix_list (pe_fld (pv 0) rfl) (pv 1) (fun _ _ => rfl)))
  (pss_cons (ps_par (i := 3) (j := 4) rfl sclExt.nd rfl rfl (by decide) rfl rfl (pa_cons (pe_lst (pa_cons (pe_tup (pa_cons (pv 2) (pa_cons (pv 1) pa_nil))) pa_nil)) (pa_cons (pe_lst pa_nil) pa_nil)) rfl)
  (pss_cons (ps_while PassesOwn.never (pt_cmpR op_ne (pe_ix ix_list (pe_fld (pv 0) rfl) (pv 2) (fun _ _ => rfl)) (pe_glob (v := .int (-1)) (by rfl) hS ⟨tk, rfl⟩) (nomark _)) (pss_cons (ps_set (i := 5) sclExt.nd rfl (Or.inl rfl) (pe_ix ix_list (pe_fld (pv 0) rfl) (pv 2) (fun _ _ => rfl)))
  (pss_cons (ps_expr (pe_bm PySem.F.plainAttrs_list PySem.F.slot_list_append PySem.F.type_list_append mt_append (pv 4) (pa_cons (pe_tup (pa_cons (pv 2) (pa_cons (pv 5) pa_nil))) pa_nil)))
  (pss_cons (ps_set (i := 2) sclExt.nd rfl (Or.inl rfl) (pe_ix ix_list (pe_fld (pv 0) rfl) (pv 5) (fun _ _ => rfl)))
  (pss_one (ps_expr (pe_bm PySem.F.plainAttrs_list PySem.F.slot_list_append PySem.F.type_list_append mt_append (pv 3) (pa_cons (pe_tup (pa_cons (pv 2) (pa_cons (pv 5) pa_nil))) pa_nil))))))))
  (pss_cons (ps_set (i := 6) sclExt.nd rfl (Or.inl rfl) (pe_df DL hr (by decide) (pa_cons (pe_op op_cat (pe_lst (pa_cons (pe_ix ix_list (pe_fld (pv 0) rfl) (pv 2) (fun _ _ => rfl)) (pa_cons (pe_ix ix_list (pe_fld (pv 0) rfl) (pv 1) (fun _ _ => rfl)) pa_nil))) (pe_lc (own := [("i", 7), ("j", 5)]) (g := gTup K 2 (gCons (gName 7) (gCons (gName 5) gNil))) (te := tOp (rIxL K) (tOp (rIxL K) (tFld K (tVar 0) "sent") (tVar 7)) (tVar 5)) rfl sclExt.nd (pi_list (pv 4)) (blkOk_by (own := [("i", 7), ("j", 5)]) (N := ["self", "end", "first", "forward", "backward", "j", "amount", "i"]) (sc := defScope slExt) (by decide +kernel)) (fun _ _ _ _ _ => pg_tup (by rfl) (pgs_cons (pg_name (i := 7) sclExt.nd rfl (Or.inl rfl)) (pgs_cons (pg_name (i := 5) sclExt.nd rfl (Or.inl rfl)) pgs_nil))) (fun _ _ _ _ _ => pts_nil) (fun _ _ _ _ _ => (pe_ix ix_list (pe_ix ix_list (pe_fld (pv 0) rfl) (pv 7) (fun _ _ => rfl)) (pv 5) (fun _ _ => rfl))))) pa_nil)))
  (pss_cons (ps_for PassesOwn.never rfl (pi_list (pv 3)) (pg_tup (by rfl) (pgs_cons (pg_name (i := 7) sclExt.nd rfl (Or.inl rfl)) (pgs_cons (pg_name (i := 5) sclExt.nd rfl (Or.inl rfl)) pgs_nil))) (pss_one (ps_asg (pe_op op_add (pe_ix ix_list (pe_ix ix_list (pe_fld (pv 0) rfl) (pv 7) (fun _ _ => rfl)) (pv 5) (fun _ _ => rfl)) (pv 6)) (pg_sub (pe_ix ix_list (pe_fld (pv 0) rfl) (pv 7) (fun _ _ => rfl)) (pv 5) set_list))))
  (pss_cons (ps_for PassesOwn.never rfl (pi_list (pv 4)) (pg_tup (by rfl) (pgs_cons (pg_name (i := 7) sclExt.nd rfl (Or.inl rfl)) (pgs_cons (pg_name (i := 5) sclExt.nd rfl (Or.inl rfl)) pgs_nil))) (pss_one (ps_asg (pe_op op_sub (pe_ix ix_list (pe_ix ix_list (pe_fld (pv 0) rfl) (pv 7) (fun _ _ => rfl)) (pv 5) (fun _ _ => rfl)) (pv 6)) (pg_sub (pe_ix ix_list (pe_fld (pv 0) rfl) (pv 7) (fun _ _ => rfl)) (pv 5) set_list))))
  (pss_cons (ps_asg (pe_op op_sub (pe_ix ix_list (pe_fld (pv 0) rfl) (pv 2) (fun _ _ => rfl)) (pv 6)) (pg_sub (pe_fld (pv 0) rfl) (pv 2) set_list))
  (pss_one (ps_asg (pe_op op_sub (pe_ix ix_list (pe_fld (pv 0) rfl) (pv 1) (fun _ _ => rfl)) (pv 6)) (pg_sub (pe_fld (pv 0) rfl) (pv 1) set_list)))))))))), ?_⟩
    have gg8 := g.h8
    have short := ch.short W
    have het : (b.ty.map pV)[e]? = some (V.int (i0 : Int)) := by
      have : (b.ty.map pV)[e]? = some (pV (b.ty.getD e none)) := by
        rw [List.getElem?_map, List.getD_eq_getElem?_getD, List.getElem?_eq_getElem (by rw [W.lt]; exact eR)]; rfl
      rw [this, ety]; rfl
    walk_at "rd"
    refine r_fldV rfl h.hx B.O.cl B.n7 rfl ?_
    walk_at "rd"
    refine r_ixL (SqL.of h.h7) (atI_nat het) ?_
    walk_at "rd"
    refine r_parB ?_
    walk_at "rd"
    refine ⟨by show 2 ≤ sizeLine; decide, fun t0 m0 => ?_⟩
    have u0 := Same.up (o := .tup [V.int (i0 : Int), V.int (e : Int)]) (Same.refl H) m0
    have ht0 : upd H t0 (.tup [V.int (i0 : Int), V.int (e : Int)]) t0 = some (.tup [V.int (i0 : Int), V.int (e : Int)]) := upd_same
    obtain ⟨H1, eH1⟩ : ∃ H1, H1 = upd H t0 (.tup [V.int (i0 : Int), V.int (e : Int)]) := ⟨_, rfl⟩
    rw [← eH1] at u0 ht0 ⊢
    walk_at "rd"
    refine ⟨by show 1 ≤ sizeLine; decide, fun af m1 => ?_⟩
    have u1 := Same.up (o := .lst [V.ref t0]) (Same.refl H1) m1
    have haf : upd H1 af (.lst [V.ref t0]) af = some (.lst [V.ref t0]) := upd_same
    obtain ⟨H2, eH2⟩ : ∃ H2, H2 = upd H1 af (.lst [V.ref t0]) := ⟨_, rfl⟩
    rw [← eH2] at u1 haf ⊢
    walk_at "rd"
    refine ⟨Nat.zero_le _, fun ab m2 => ?_⟩
    have u2 := Same.up (o := .lst []) (Same.refl H2) m2
    have hab : upd H2 ab (.lst []) ab = some (.lst []) := upd_same
    obtain ⟨H3, eH3⟩ : ∃ H3, H3 = upd H2 ab (.lst []) := ⟨_, rfl⟩
    rw [← eH3] at u2 hab ⊢
    have nfb : af ≠ ab := fun z => by rw [← z, haf] at m2; cases m2
    have s3 := u0.trans (u1.trans u2)
    have afO : af ∉ (balL C A b).map (·.1) := h.own.not (u0.free m1)
    have abO : ab ∉ (balL C A b).map (·.1) := h.own.not ((u0.trans u1).free m2)
    have afN : H af = none := u0.free m1
    have abN : H ab = none := (u0.trans u1).free m2
    refine ⟨_, _, rfl, ?_⟩
    dsimp only
    with_reducible refine r_seq ?_
    refine while_rel (fun m σ H' => ∃ (i : Nat) (fd f' bd bk' : List (Nat × Nat)) (us ws : List V) (v5 v6 v7 : Option V), σ = [some (.ref A.x), some (.int (e : Int)), some (.int (i : Int)), some (.ref af), some (.ref ab), v5, v6, v7] ∧ i < R.length ∧ H' af = some (.lst us) ∧ PrT H' us ((i0, e) :: fd) ∧ H' ab = some (.lst ws) ∧ PrT H' ws bd ∧ Chn b.gy b.ty i f' bk' l ∧ fd ++ f' = ff ∧ bd ++ bk' = bk ∧ fd.length = bd.length ∧ BalH K C G H' A R b ∧ (∀ q o, H q = some o → H' q = some o) ∧ bk'.length = m) bk.length
      ⟨i0, [], ff, [], bk, [.ref t0], [], _, _, _, rfl, i0R, u2 _ _ haf, .cons (u2 _ _ (u1 _ _ ht0)) .nil, hab, .nil, ch, rfl, rfl, rfl, h.same s3, s3, rfl⟩ ?_ ?_
    · rintro m σ H4 ⟨i, fd, f', bd, bk', us, ws, v5, v6, v7, rfl, iR, haf4, pf, hab4, pb, ch4, ef, eb, efb, h4, s4, em⟩
      have afl := pf.length
      have abl := pb.length
      have fdl : fd.length ≤ 8 := by
        have : bk.length = bd.length + bk'.length := by rw [← eb, List.length_append]
        omega
      have hg6 : ∀ {v : Int}, b.gy.getD i none = some v → (b.gy.map pV)[i]? = some (V.int v) := fun {v} q => by
        have : (b.gy.map pV)[i]? = some (pV (b.gy.getD i none)) := by
          rw [List.getElem?_map, List.getD_eq_getElem?_getD, List.getElem?_eq_getElem (by rw [W.lg]; exact iR)]; rfl
        rw [this, q]; rfl
      walk_at "rd"
      refine r_fldV rfl h4.hx B.O.cl B.n6 rfl ?_
      walk_at "rd"
      rcases ch4.det with ⟨es, rfl, rfl, rfl⟩ | ⟨j, i2, f2, bk2, ej, ei2, rfl, rfl, ch5⟩
      · refine r_ixL (SqL.of h4.h6) (atI_nat (hg6 es)) ?_
        walk_at "rd"
        refine r_ne rfl ?_
        refine ⟨_, rfl, ifF (by simp) ?_⟩
        rw [List.append_nil] at ef eb
        subst ef
        subst eb
        have hsp : (b.sp.map V.int)[l]? = some (V.int (b.sp.getD l 0)) := by
          rw [List.getElem?_map, List.getD_eq_getElem?_getD, List.getElem?_eq_getElem (by rw [h.d.l1]; exact iR)]; rfl
        have hla : (b.la.map V.int)[e]? = some (V.int (b.la.getD e 0)) := by
          rw [List.getElem?_map, List.getD_eq_getElem?_getD, List.getElem?_eq_getElem (by rw [h.d.l2]; exact eR)]; rfl
        have fb := ch.facts W
        walk_at "rd"
        refine r_fldV rfl h4.hx B.O.cl B.n1 rfl ?_
        walk_at "rd"
        refine r_ixL (SqL.of h4.h1) (atI_nat hsp) ?_
        walk_at "rd"
        refine r_fldV rfl h4.hx B.O.cl B.n2 rfl ?_
        walk_at "rd"
        refine r_ixL (SqL.of h4.h2) (atI_nat hla) ?_
        walk_at "rd"
        refine ⟨by show 2 ≤ sizeLine; decide, fun q1 m3 => ?_⟩
        have w1 := Same.up (o := .lst [V.int (b.sp.getD l 0), V.int (b.la.getD e 0)]) (Same.refl H4) m3
        have hq1 : upd H4 q1 (.lst [V.int (b.sp.getD l 0), V.int (b.la.getD e 0)]) q1 = some (.lst [V.int (b.sp.getD l 0), V.int (b.la.getD e 0)]) := upd_same
        obtain ⟨H5, eH5⟩ : ∃ H5, H5 = upd H4 q1 (.lst [V.int (b.sp.getD l 0), V.int (b.la.getD e 0)]) := ⟨_, rfl⟩
        rw [← eH5] at w1 hq1 ⊢
        have h5 := h4.same w1
        walk_at "rd"
        refine ⟨ab, rfl, ⟨_, SqL.of (w1 _ _ hab4)⟩, fun D nD => lc_it walk_list (fun q H' => Same H5 H' ∧ H' D = some (.lst (((bd.take q).map fun z => sentB b z.1 z.2).map V.int))) ⟨Same.up (Same.refl H5) nD, by rw [upd_same, List.take_zero]; rfl⟩ (fun q H' _ z => SqL.of (z.1 _ _ (w1 _ _ hab4))) ?_ ?_⟩
        · rintro q y H6 H7 hq ⟨s6, hD⟩ ⟨rfl, ey⟩
          obtain ⟨t, z, ez, rfl, ht⟩ := pb.at ey
          have zm := List.mem_of_getElem? ez
          obtain ⟨z1, z2, _⟩ := fb.1 z zm
          have tk : bd.take (q + 1) = bd.take q ++ [z] := by rw [List.take_add_one, ez]; rfl
          have ht7 := s6 _ _ (w1 _ _ ht)
          have h7 := h5.same s6
          obtain ⟨c, ec, hc⟩ := h7.row z1
          have hrow : ((b.S.getD z.1 []).map V.int)[z.2]? = some (V.int (sentB b z.1 z.2)) := by
            have hS : z.1 < b.S.length := by rw [h.d.l3]; exact z1
            have rl : (b.S.getD z.1 []).length = wd R := by
              rw [List.getD_eq_getElem?_getD, List.getElem?_eq_getElem hS]
              exact h.d.l6 _ (List.getElem_mem hS)
            unfold sentB
            rw [List.getElem?_map, List.getD_eq_getElem?_getD (l := b.S.getD z.1 []), List.getElem?_eq_getElem (by rw [rl]; exact z2)]; rfl
          refine r_gtup ⟨t, _, rfl, SqT.of ht7, rfl, _, _, rfl, ?_⟩
          walk_at "rd"
          refine ⟨_, _, rfl, ?_⟩
          walk_at "rd"
          refine ⟨rfl, rfl, ?_⟩
          walk_at "rd"
          refine r_fldV rfl h7.hx B.O.cl B.n3 rfl ?_
          walk_at "rd"
          refine r_ixL (SqL.of h7.h3) (atI_nat ec) ?_
          walk_at "rd"
          refine r_ixL (SqL.of hc) (atI_nat hrow) ?_
          refine ⟨_, hD, Nat.lt_of_le_of_lt (show _ ≤ 8 from by rw [List.length_map, List.length_map, List.length_take]; omega) (by decide), Same.upOff s6 nD, ?_⟩
          rw [upd_same, tk, List.map_append, List.map_append]; rfl
        rintro H6 ⟨s6, hD⟩
        rw [abl, List.take_of_length_le (Nat.le_refl _)] at hD
        walk_at "rd"
        refine r_cat (s6 _ _ hq1) hD (Nat.le_trans (show 2 + _ ≤ 16 from by rw [List.length_map, List.length_map]; omega) (by decide)) fun q2 m4 => ?_
        have w2 := Same.up (o := .lst ([V.int (b.sp.getD l 0), V.int (b.la.getD e 0)] ++ (bd.map fun z => sentB b z.1 z.2).map V.int)) (Same.refl H6) m4
        have hq2 : upd H6 q2 (.lst ([V.int (b.sp.getD l 0), V.int (b.la.getD e 0)] ++ (bd.map fun z => sentB b z.1 z.2).map V.int)) q2 = some (.lst (([b.sp.getD l 0, b.la.getD e 0] ++ bd.map fun z => sentB b z.1 z.2).map V.int)) := by rw [upd_same, List.map_append]; rfl
        obtain ⟨H7, eH7⟩ : ∃ H7, H7 = upd H6 q2 (.lst ([V.int (b.sp.getD l 0), V.int (b.la.getD e 0)] ++ (bd.map fun z => sentB b z.1 z.2).map V.int)) := ⟨_, rfl⟩
        rw [← eH7] at w2 hq2 ⊢
        have s47 := w1.trans (s6.trans w2)
        have h7 := h4.same s47
        walk_at "rd"
        refine ⟨q2, _, rfl, hq2, by simp, ?_⟩
        show _
        obtain ⟨am, eam⟩ : ∃ am, am = amtB b bd l e := ⟨_, rfl⟩
        rw [show leastF ([b.sp.getD l 0, b.la.getD e 0] ++ bd.map fun z => sentB b z.1 z.2) = am from eam.symm]
        walk_at "rd"
        have hcl : A.cs.length = b.S.length := by rw [h.cl, h.d.l3]
        have haf7 := s47 _ _ haf4
        have pf7 := pf.tup fun t xs e => s47 t _ e
        have fall : ∀ z, z ∈ (i0, e) :: fd → z.1 < R.length ∧ z.2 < wd R := fun z hz => by
          rcases List.mem_cons.mp hz with rfl | hz
          · exact ⟨i0R, eR⟩
          · exact ⟨(fb.2.1 z hz).1, (fb.2.1 z hz).2.1⟩
        have tno : ∀ {H' : Hp} {t : Addr} {xs : List V}, H7 t = some (.tup xs) → (∀ q o, q ∉ (balL C A b).map (·.1) → H7 q = some o → H' q = some o) → H' t = some (.tup xs) := fun {H' t xs} e fr => fr _ _ (fun m => by
          obtain ⟨p, hp, ep⟩ := List.mem_map.mp m
          have q := h7.own.at_ p hp
          rw [show p.1 = t from ep, e] at q
          exact own_notup hp xs (Option.some.inj q).symm) e
        refine ⟨af, rfl, ⟨_, SqL.of haf7⟩, for_it walk_list (fun q σ H' => ∃ v5 v7, σ = [some (.ref A.x), some (.int (e : Int)), some (.int (l : Int)), some (.ref af), some (.ref ab), v5, some (.int am), v7] ∧ BalH K C G H' A R ((((i0, e) :: fd).take q).foldl (bumpB am) b) ∧ (∀ q o, q ∉ (balL C A b).map (·.1) → H7 q = some o → H' q = some o)) ⟨_, _, rfl, h7, fun _ _ _ e => e⟩ (fun q σ H' _ z => by obtain ⟨_, _, _, _, z⟩ := z; exact SqL.of (z _ _ afO haf7)) ?_ ?_⟩
        · rintro q y σ H8 H9 hq ⟨v5', v7', rfl, h9, fr9⟩ ⟨rfl, ey⟩
          obtain ⟨t, z, ez, rfl, ht⟩ := pf7.at ey
          obtain ⟨z1, z2⟩ := fall z (List.mem_of_getElem? ez)
          have tk : ((i0, e) :: fd).take (q + 1) = ((i0, e) :: fd).take q ++ [z] := by rw [List.take_add_one, ez]; rfl
          rw [tk, List.foldl_append]
          have sl := bumps_len am (((i0, e) :: fd).take q) b
          generalize (((i0, e) :: fd).take q).foldl (bumpB am) b = bq at h9 sl ⊢
          obtain ⟨c, ec, hc, hv, hl2, cO, up⟩ := bump_at h9 z1 z2
          rw [ad_same hcl (by rw [sl]; exact hcl)] at cO
          refine r_gtup ⟨t, _, rfl, SqT.of (tno ht fr9), rfl, _, _, rfl, ?_⟩
          walk_at "rd"
          refine ⟨_, _, rfl, ?_⟩
          walk_at "rd"
          refine ⟨rfl, ?_⟩
          refine r_asg ?_
          walk_at "rd"
          refine r_fldV rfl h9.hx B.O.cl B.n3 rfl ?_
          walk_at "rd"
          refine r_ixL (SqL.of h9.h3) (atI_nat ec) ?_
          walk_at "rd"
          refine r_ixL (SqL.of hc) (atI_nat hv) ?_
          walk_at "rd"
          refine r_fldV rfl h9.hx B.O.cl B.n3 rfl ?_
          walk_at "rd"
          refine r_ixL (SqL.of h9.h3) (atI_nat ec) ?_
          walk_at "rd"
          refine r_setL hc (ixN_nat hl2) ?_
          exact ⟨_, _, rfl, up am, fun q o n e => by rw [upd_ne (fun z => n (by rw [z]; exact cO))]; exact fr9 q o n e⟩
        · rintro σ H8 ⟨v5', v7', rfl, h8, fr8⟩
          rw [show us.length = ((i0, e) :: fd).length from afl, List.take_of_length_le (Nat.le_refl _)] at h8
          have sl8 := bumps_len am ((i0, e) :: fd) b
          obtain ⟨b8, eb8⟩ : ∃ b8, b8 = ((i0, e) :: fd).foldl (bumpB am) b := ⟨_, rfl⟩
          rw [← eb8] at h8 sl8
          have hab8 := fr8 _ _ abO (s47 _ _ hab4)
          have pb7 := pb.tup fun t xs e => s47 t _ e
          walk_at "rd"
          refine ⟨ab, rfl, ⟨_, SqL.of hab8⟩, for_it walk_list (fun q σ H' => ∃ v5 v7, σ = [some (.ref A.x), some (.int (e : Int)), some (.int (l : Int)), some (.ref af), some (.ref ab), v5, some (.int am), v7] ∧ BalH K C G H' A R ((bd.take q).foldl (bumpB (-am)) b8) ∧ (∀ q o, q ∉ (balL C A b).map (·.1) → H7 q = some o → H' q = some o)) ⟨_, _, rfl, h8, fr8⟩ (fun q σ H' _ z => by obtain ⟨_, _, _, _, z⟩ := z; exact SqL.of (z _ _ abO (s47 _ _ hab4))) ?_ ?_⟩
          · rintro q y σ H8' H9 hq ⟨v5'', v7'', rfl, h9, fr9⟩ ⟨rfl, ey⟩
            obtain ⟨t, z, ez, rfl, ht⟩ := pb7.at ey
            obtain ⟨z1, z2, _⟩ := fb.1 z (List.mem_of_getElem? ez)
            have tk : bd.take (q + 1) = bd.take q ++ [z] := by rw [List.take_add_one, ez]; rfl
            rw [tk, List.foldl_append]
            have sl := bumps_len (-am) (bd.take q) b8
            generalize (bd.take q).foldl (bumpB (-am)) b8 = bq at h9 sl ⊢
            obtain ⟨c, ec, hc, hv, hl2, cO, up⟩ := bump_at h9 z1 z2
            rw [ad_same hcl (by rw [sl, sl8]; exact hcl)] at cO
            refine r_gtup ⟨t, _, rfl, SqT.of (tno ht fr9), rfl, _, _, rfl, ?_⟩
            walk_at "rd"
            refine ⟨_, _, rfl, ?_⟩
            walk_at "rd"
            refine ⟨rfl, ?_⟩
            refine r_asg ?_
            walk_at "rd"
            refine r_fldV rfl h9.hx B.O.cl B.n3 rfl ?_
            walk_at "rd"
            refine r_ixL (SqL.of h9.h3) (atI_nat ec) ?_
            walk_at "rd"
            refine r_ixL (SqL.of hc) (atI_nat hv) ?_
            walk_at "rd"
            refine r_fldV rfl h9.hx B.O.cl B.n3 rfl ?_
            walk_at "rd"
            refine r_ixL (SqL.of h9.h3) (atI_nat ec) ?_
            walk_at "rd"
            refine r_setL hc (ixN_nat hl2) ?_
            rw [Int.sub_eq_add_neg]
            exact ⟨_, _, rfl, up (-am), fun q o n e => by rw [upd_ne (fun z => n (by rw [z]; exact cO))]; exact fr9 q o n e⟩
          · rintro σ H10 ⟨v5'', v7'', rfl, h10, fr10⟩
            rw [show ws.length = bd.length from abl, List.take_of_length_le (Nat.le_refl _)] at h10
            have sl10 := bumps_len (-am) bd b8
            have keepP : ∀ (a : Int) (zs : List (Nat × Nat)) (b : Bal), (zs.foldl (bumpB a) b).sp = b.sp ∧ (zs.foldl (bumpB a) b).la = b.la := fun a zs => by
              induction zs with
              | nil => intro b; exact ⟨rfl, rfl⟩
              | cons z zs ih => intro b; rw [List.foldl_cons]; exact ih (bumpB a b z)
            obtain ⟨b10, eb10⟩ : ∃ b10, b10 = bd.foldl (bumpB (-am)) b8 := ⟨_, rfl⟩
            rw [← eb10] at h10 sl10
            have sp10 : b10.sp = b.sp := by rw [eb10, (keepP (-am) bd b8).1, eb8, (keepP am _ b).1]
            have la10 : b10.la = b.la := by rw [eb10, (keepP (-am) bd b8).2, eb8, (keepP am _ b).2]
            dsimp only
            refine r_seq ?_
            refine r_asg ?_
            walk_at "rd"
            refine r_fldV rfl h10.hx B.O.cl B.n1 rfl ?_
            walk_at "rd"
            refine r_ixL (SqL.of h10.h1) (atI_nat (by rw [sp10]; exact hsp)) ?_
            walk_at "rd"
            refine r_fldV rfl h10.hx B.O.cl B.n1 rfl ?_
            walk_at "rd"
            refine r_setL h10.h1 (ixN_nat (j := l) (by rw [List.length_map, sp10, h.d.l1]; exact iR)) ?_
            have e1 : (b10.sp.map V.int).set l (V.int (b.sp.getD l 0 - am)) = (b.sp.set l (b.sp.getD l 0 - am)).map V.int := by rw [sp10, List.map_set]
            rw [e1]
            have h11 := h10.setSp (sp := b.sp.set l (b.sp.getD l 0 - am)) (by rw [List.length_set]; exact h.d.l1)
            have a1O : A.a1 ∈ (balL C A b).map (·.1) := List.mem_map.mpr ⟨(A.a1, .lst (b.sp.map V.int)), by unfold balL; simp, rfl⟩
            have a2O : A.a2 ∈ (balL C A b).map (·.1) := List.mem_map.mpr ⟨(A.a2, .lst (b.la.map V.int)), by unfold balL; simp, rfl⟩
            have fr11 : ∀ q o, q ∉ (balL C A b).map (·.1) → H7 q = some o → (upd H10 A.a1 (.lst ((b.sp.set l (b.sp.getD l 0 - am)).map V.int))) q = some o := fun q o n e => by rw [upd_ne (fun z => n (by rw [z]; exact a1O))]; exact fr10 q o n e
            obtain ⟨H11, eH11⟩ : ∃ H11, H11 = upd H10 A.a1 (.lst ((b.sp.set l (b.sp.getD l 0 - am)).map V.int)) := ⟨_, rfl⟩
            rw [← eH11] at h11 fr11 ⊢
            dsimp only
            refine r_asg ?_
            walk_at "rd"
            refine r_fldV rfl h11.hx B.O.cl B.n2 rfl ?_
            walk_at "rd"
            refine r_ixL (SqL.of h11.h2) (atI_nat (by show (b10.la.map V.int)[e]? = _; rw [la10]; exact hla)) ?_
            walk_at "rd"
            refine r_fldV rfl h11.hx B.O.cl B.n2 rfl ?_
            walk_at "rd"
            refine r_setL h11.h2 (ixN_nat (j := e) (by show e < (b10.la.map V.int).length; rw [List.length_map, la10, h.d.l2]; exact eR)) ?_
            have e2 : (b10.la.map V.int).set e (V.int (b.la.getD e 0 - am)) = (b.la.set e (b.la.getD e 0 - am)).map V.int := by rw [la10, List.map_set]
            have h12 := h11.setLa (la := b.la.set e (b.la.getD e 0 - am)) (by rw [List.length_set]; exact h.d.l2)
            have efin : ({ b10 with sp := b.sp.set l (b.sp.getD l 0 - am), la := b.la.set e (b.la.getD e 0 - am) } : Bal) = extB b ((i0, e) :: fd) bd l e := by
              unfold extB
              rw [← eam, ← eb8, ← eb10]
            show Q _ (upd H11 A.a2 (.lst ((b10.la.map V.int).set e (V.int (b.la.getD e 0 - am)))))
            rw [e2]
            refine k _ (by rw [← efin]; exact h12) fun q o n e => ?_
            rw [upd_ne (fun z => n (by rw [z]; exact a2O))]
            exact fr11 q o n (s47 _ _ (s4 q o e))
      · refine r_ixL (SqL.of h4.h6) (atI_nat (hg6 ej)) ?_
        walk_at "rd"
        refine r_ne rfl ?_
        refine ⟨_, rfl, ifT (by simp) ?_⟩
        obtain ⟨jR, _, _⟩ := W.back i j ej
        obtain ⟨i2', ei3, i2R, _⟩ := W.fore j _ ei2
        have i2e : i2 = i2' := Int.ofNat.inj ei3
        subst i2e
        walk_at "rd"
        refine r_fldV rfl h4.hx B.O.cl B.n6 rfl ?_
        walk_at "rd"
        refine r_ixL (SqL.of h4.h6) (atI_nat (hg6 ej)) ?_
        walk_at "rd"
        refine r_bm ?_
        walk_at "rd"
        refine ⟨.inl ⟨rfl, _, SqL.of hab4⟩, ?_⟩
        walk_at "rd"
        refine ⟨by show 2 ≤ sizeLine; decide, fun t5 m5 => ?_⟩
        have u5 := Same.up (o := .tup [V.int (i : Int), V.int (j : Int)]) (Same.refl H4) m5
        have ht5 : upd H4 t5 (.tup [V.int (i : Int), V.int (j : Int)]) t5 = some (.tup [V.int (i : Int), V.int (j : Int)]) := upd_same
        obtain ⟨H5, eH5⟩ : ∃ H5, H5 = upd H4 t5 (.tup [V.int (i : Int), V.int (j : Int)]) := ⟨_, rfl⟩
        rw [← eH5] at u5 ht5 ⊢
        walk_at "rd"
        have hab5 := u5 _ _ hab4
        refine ⟨ab, ws, _, rfl, rfl, hab5, Nat.lt_of_le_of_lt (show ws.length ≤ 8 by omega) (by decide), ?_⟩
        have tup6 : ∀ t xs, H5 t = some (.tup xs) → upd H5 ab (.lst (ws ++ [V.ref t5])) t = some (.tup xs) := fun t xs e => by rw [upd_ne (fun z => by rw [z, hab5] at e; cases e)]; exact e
        have h6 : BalH K C G (upd H5 ab (.lst (ws ++ [V.ref t5]))) A R b := (h4.same u5).put abO (h.s.free abN)
        have haf6 : upd H5 ab (.lst (ws ++ [V.ref t5])) af = some (.lst us) := by rw [upd_ne nfb]; exact u5 _ _ haf4
        have s6 : ∀ q o, H q = some o → upd H5 ab (.lst (ws ++ [V.ref t5])) q = some o := fun q o e => by rw [upd_ne (fun z => by rw [z, abN] at e; cases e)]; exact u5 _ _ (s4 q o e)
        have pb6 : PrT (upd H5 ab (.lst (ws ++ [V.ref t5]))) (ws ++ [V.ref t5]) (bd ++ [(i, j)]) := (pb.tup fun t xs e => tup6 t xs (u5 _ _ e)).app (.cons (tup6 _ _ ht5) .nil)
        have pf6 : PrT (upd H5 ab (.lst (ws ++ [V.ref t5]))) us ((i0, e) :: fd) := pf.tup fun t xs e => tup6 t xs (u5 _ _ e)
        obtain ⟨H6, eH6⟩ : ∃ H6, H6 = upd H5 ab (.lst (ws ++ [V.ref t5])) := ⟨_, rfl⟩
        have hab6 : H6 ab = some (.lst (ws ++ [V.ref t5])) := by rw [eH6, upd_same]
        rw [← eH6] at h6 haf6 s6 pb6 pf6 ⊢
        walk_at "rd"
        refine r_fldV rfl h6.hx B.O.cl B.n7 rfl ?_
        walk_at "rd"
        have hty : (b.ty.map pV)[j]? = some (V.int (i2 : Int)) := by
          have : (b.ty.map pV)[j]? = some (pV (b.ty.getD j none)) := by
            rw [List.getElem?_map, List.getD_eq_getElem?_getD, List.getElem?_eq_getElem (by rw [W.lt]; exact jR)]; rfl
          rw [this, ei2]; rfl
        refine r_ixL (SqL.of h6.h7) (atI_nat hty) ?_
        walk_at "rd"
        refine r_bm ?_
        walk_at "rd"
        refine ⟨.inl ⟨rfl, _, SqL.of haf6⟩, ?_⟩
        walk_at "rd"
        refine ⟨by show 2 ≤ sizeLine; decide, fun t7 m7 => ?_⟩
        have u7 := Same.up (o := .tup [V.int (i2 : Int), V.int (j : Int)]) (Same.refl H6) m7
        have ht7 : upd H6 t7 (.tup [V.int (i2 : Int), V.int (j : Int)]) t7 = some (.tup [V.int (i2 : Int), V.int (j : Int)]) := upd_same
        obtain ⟨H7, eH7⟩ : ∃ H7, H7 = upd H6 t7 (.tup [V.int (i2 : Int), V.int (j : Int)]) := ⟨_, rfl⟩
        rw [← eH7] at u7 ht7 ⊢
        walk_at "rd"
        have haf7 := u7 _ _ haf6
        rw [List.length_cons] at afl
        refine ⟨af, us, _, rfl, rfl, haf7, Nat.lt_of_le_of_lt (show us.length ≤ 9 by omega) (by decide), ?_⟩
        have tup8 : ∀ t xs, H7 t = some (.tup xs) → upd H7 af (.lst (us ++ [V.ref t7])) t = some (.tup xs) := fun t xs e => by rw [upd_ne (fun z => by rw [z, haf7] at e; cases e)]; exact e
        refine ⟨bk2.length, by rw [← em, List.length_cons]; omega, i2, fd ++ [(i2, j)], f2, bd ++ [(i, j)], bk2, us ++ [.ref t7], ws ++ [.ref t5], _, _, _, rfl, i2R, upd_same, (pf6.tup fun t xs e => tup8 t xs (u7 _ _ e)).app (.cons (tup8 _ _ ht7) .nil), by rw [upd_ne (Ne.symm nfb)]; exact u7 _ _ hab6, pb6.tup fun t xs e => tup8 t xs (u7 _ _ e), ch5, by rw [List.append_assoc]; exact ef, by rw [List.append_assoc]; exact eb, by rw [List.length_append, List.length_append, efb]; rfl, (h6.same u7).put afO (h.s.free afN), fun q o e => by rw [upd_ne (fun z => by rw [z, afN] at e; cases e)]; exact u7 _ _ (s6 q o e), rfl⟩
    · rintro σ H Q Q' hq ⟨v, e1, a, C1, dx, fs, v', e2, e3, e4, e5, e6, u, e7, p, xs, n, w, e8, e9, hs, he, q⟩
      obtain ⟨q1, c, q2, q3⟩ := q
      exact ⟨v, e1, a, C1, dx, fs, v', e2, e3, e4, e5, e6, u, e7, p, xs, n, w, e8, e9, hs, he, q1, c, q2, hq _ _ q3⟩
end
end Pk
set_option Elab.async false
set_option linter.all false
set_option maxRecDepth 100000
set_option maxHeartbeats 4000000
namespace Pk
open PySem L2
local macro_rules | `(tactic| walk_at "rd") => `(tactic| repeat (first
  | with_reducible refine r_seq ?_ | with_reducible refine r_nxt ?_ | with_reducible refine r_asg ?_ | with_reducible refine r_to ?_ | with_reducible refine r_ret ?_ | with_reducible refine r_for ?_ | with_reducible refine r_lc ?_ | with_reducible refine r_lc2 ?_ | with_reducible refine r_rng1 ?_ | with_reducible refine r_list ?_ | with_reducible refine r_tupI ?_ | with_reducible refine r_drop ?_ | with_reducible refine r_ifs ?_
  | with_reducible refine r_op ?_ | with_reducible refine r_c ?_ | with_reducible refine r_var rfl ?_ | with_reducible refine r_var (by assumption) ?_ | with_reducible refine r_I0 ?_ | with_reducible refine r_un ?_ | with_reducible refine r_U ?_ | with_reducible refine r_make ?_ | with_reducible refine r_makeS ?_ | with_reducible refine r_ifE ?_ | with_reducible refine r_cm ?_ | with_reducible refine r_mkV rfl ?_ | with_reducible refine r_sub ?_
  | with_reducible refine r_nil ?_ | with_reducible refine r_cons ?_ | with_reducible refine r_cb ?_ | with_reducible refine r_sl ?_ | with_reducible refine r_noP ?_ | with_reducible refine r_part ?_ | with_reducible refine r_isI ?_ | with_reducible refine r_lst ?_ | with_reducible refine r_tup ?_ | with_reducible refine r_call ?_ | with_reducible refine r_callS ?_ | with_reducible refine r_sFldU ?_ | with_reducible refine r_chain ?_ | with_reducible refine r_enum ?_ | with_reducible refine r_zip ?_ | with_reducible refine r_rng3 ?_ | with_reducible refine r_gtup ?_ | with_reducible refine r_methU ?_
  | with_reducible refine r_test ?_ | with_reducible refine r_B ?_ | with_reducible refine r_and ?_ | with_reducible refine r_or ?_ | with_reducible refine r_not ?_ | with_reducible refine r_andV ?_ | with_reducible refine r_orV ?_ | with_reducible refine r_notV ?_ | with_reducible refine r_bl ?_ | with_reducible refine r_yes ?_ | with_reducible refine r_int ?_ | with_reducible refine r_is0 ?_ | with_reducible refine r_is1 ?_ | with_reducible refine iteT ?_ | with_reducible refine iteF ?_ | with_reducible refine ite_nF ?_ | with_reducible refine ite_nT ?_
  | with_reducible refine r_mod (by decide) ?_ | with_reducible refine r_div (by decide) (by decide) ?_ | with_reducible refine r_mulR (by decide) (by decide) ?_ | with_reducible refine r_mulL (by decide) (by decide) ?_ | with_reducible refine r_pow (by decide) (by decide) (by decide) ?_))
/-! ### a search as it begins -/
theorem gy0_at (b : Bal) (i : Nat) : (gy0 b).getD i none = if 0 < b.sp.getD i 0 then some (-1) else none := by
  unfold gy0
  rw [List.getD_eq_getElem?_getD, List.getElem?_map, List.getD_eq_getElem?_getD]
  cases e : b.sp[i]? with
  | none => simp
  | some s => rfl
theorem ty0_at (b : Bal) (j : Nat) : (ty0 b).getD j none = none := by
  unfold ty0
  rw [List.getD_eq_getElem?_getD, List.getElem?_map]
  cases b.la[j]? <;> rfl
theorem ways_start {R : Rw} {b : Bal} (d : BalD R b) : WaysB R (bal0 b) := by
  refine ⟨?_, ?_, fun i hi => ?_, fun i e => ?_, fun i j e => ?_, fun j v e => ?_⟩
  · show (gy0 b).length = _
    unfold gy0; rw [List.length_map, d.l1]
  · show (ty0 b).length = _
    unfold ty0; rw [List.length_map, d.l2]
  · have hi : ((gy0 b).getD i none).isSome = true := hi
    rw [gy0_at] at hi
    refine ⟨0, .start ?_⟩
    show (gy0 b).getD i none = _
    rw [gy0_at]
    by_cases c : 0 < b.sp.getD i 0
    · rw [if_pos c]
    · rw [if_neg c] at hi; cases hi
  · have e : (gy0 b).getD i none = some (-1) := e
    rw [gy0_at] at e
    by_cases c : 0 < b.sp.getD i 0
    · exact c
    · rw [if_neg c] at e; cases e
  · have e : (gy0 b).getD i none = some (j : Int) := e
    rw [gy0_at] at e
    by_cases c : 0 < b.sp.getD i 0
    · rw [if_pos c] at e
      have := Option.some.inj e
      omega
    · rw [if_neg c] at e; cases e
  · have e : (ty0 b).getD j none = some v := e
    rw [ty0_at] at e; cases e
theorem reached_mem {ws : List (Option Int)} {i : Nat} : i ∈ reachedF ws ↔ (ws.getD i none).isSome = true := by
  unfold reachedF
  rw [List.mem_filter, List.mem_range]
  refine ⟨fun h => h.2, fun h => ⟨?_, h⟩⟩
  apply Classical.byContradiction
  intro n
  rw [getD_none (by omega)] at h
  cases h
theorem clo_start {R : Rw} {b : Bal} : Clo R (bal0 b) (reachedF (gy0 b)) := by
  refine ⟨fun i hi n => absurd (reached_mem.mpr hi) n, fun j hj => ?_⟩
  have hj : ((ty0 b).getD j none).isSome = true := hj
  rw [ty0_at] at hj; cases hj
/-- a whole search, from its start -/
theorem search_all {R : Rw} {b b' : Bal} {e : Option Nat} (d : BalD R b) (h : SearchR R (bal0 b) (reachedF (gy0 b)) b' e) :
    WaysB R b' ∧ SameL (bal0 b) b' ∧ (∀ j, e = some j → j < wd R ∧ (b'.ty.getD j none).isSome = true ∧ 0 < b'.la.getD j 0) ∧ (e = none → Clo R b' []) := by
  have W := ways_start d
  refine search_ways h W (fun i hi => ?_) clo_start
  refine ⟨?_, reached_mem.mp hi⟩
  have := reached_lt _ i hi
  rwa [show (gy0 b).length = R.length from W.lg] at this
/-- what is reached stays reached: givers with something left are reached -/
theorem search_ext {R : Rw} {b b' : Bal} {gs : List Nat} {e : Option Nat} (h : SearchR R b gs b' e) : b.gy.length = R.length → b.ty.length = wd R → Ext b.gy b'.gy ∧ Ext b.ty b'.ty := by
  induction h with
  | stop b => intro _ _; exact ⟨Ext.refl _, Ext.refl _⟩
  | hit ne f => intro _ h2; exact ⟨Ext.refl _, (takers_inv R _ _ h2).1⟩
  | @go b b' gs e ne f r ih =>
    intro h1 h2
    have t := (takers_inv R b gs h2).1
    have g := (givers_inv R { b with ty := (takersF R b gs).1 } (takersF R b gs).2 h1).1
    obtain ⟨r1, r2⟩ := ih (g.1.symm.trans h1) (t.1.symm.trans h2)
    exact ⟨g.trans r1, t.trans r2⟩
end Pk
set_option Elab.async false
set_option linter.all false
set_option maxRecDepth 100000
set_option maxHeartbeats 4000000
namespace Pk
open PySem L2
local macro_rules | `(tactic| walk_at "rd") => `(tactic| repeat (first
  | with_reducible refine r_seq ?_ | with_reducible refine r_nxt ?_ | with_reducible refine r_asg ?_ | with_reducible refine r_to ?_ | with_reducible refine r_ret ?_ | with_reducible refine r_for ?_ | with_reducible refine r_lc ?_ | with_reducible refine r_lc2 ?_ | with_reducible refine r_rng1 ?_ | with_reducible refine r_list ?_ | with_reducible refine r_tupI ?_ | with_reducible refine r_drop ?_ | with_reducible refine r_ifs ?_
  | with_reducible refine r_op ?_ | with_reducible refine r_c ?_ | with_reducible refine r_var rfl ?_ | with_reducible refine r_var (by assumption) ?_ | with_reducible refine r_I0 ?_ | with_reducible refine r_un ?_ | with_reducible refine r_U ?_ | with_reducible refine r_make ?_ | with_reducible refine r_makeS ?_ | with_reducible refine r_ifE ?_ | with_reducible refine r_cm ?_ | with_reducible refine r_mkV rfl ?_ | with_reducible refine r_sub ?_
  | with_reducible refine r_nil ?_ | with_reducible refine r_cons ?_ | with_reducible refine r_cb ?_ | with_reducible refine r_sl ?_ | with_reducible refine r_noP ?_ | with_reducible refine r_part ?_ | with_reducible refine r_isI ?_ | with_reducible refine r_lst ?_ | with_reducible refine r_tup ?_ | with_reducible refine r_call ?_ | with_reducible refine r_callS ?_ | with_reducible refine r_sFldU ?_ | with_reducible refine r_chain ?_ | with_reducible refine r_enum ?_ | with_reducible refine r_zip ?_ | with_reducible refine r_rng3 ?_ | with_reducible refine r_gtup ?_ | with_reducible refine r_methU ?_
  | with_reducible refine r_test ?_ | with_reducible refine r_B ?_ | with_reducible refine r_and ?_ | with_reducible refine r_or ?_ | with_reducible refine r_not ?_ | with_reducible refine r_andV ?_ | with_reducible refine r_orV ?_ | with_reducible refine r_notV ?_ | with_reducible refine r_bl ?_ | with_reducible refine r_yes ?_ | with_reducible refine r_int ?_ | with_reducible refine r_is0 ?_ | with_reducible refine r_is1 ?_ | with_reducible refine iteT ?_ | with_reducible refine iteF ?_ | with_reducible refine ite_nF ?_ | with_reducible refine ite_nT ?_
  | with_reducible refine r_mod (by decide) ?_ | with_reducible refine r_div (by decide) (by decide) ?_ | with_reducible refine r_mulR (by decide) (by decide) ?_ | with_reducible refine r_mulL (by decide) (by decide) ?_ | with_reducible refine r_pow (by decide) (by decide) (by decide) ?_))
/-! ### the balance: the worths raised -/
theorem inV_nat (m : Nat) : ∀ ms : List Nat, inV (.int (m : Int)) (natV ms) = decide (m ∈ ms)
  | [] => by simp [inV, natV]
  | n :: ms => by
    have ih := inV_nat m ms
    simp only [inV, natV, List.map_cons, List.any_cons] at ih ⊢
    rw [ih, show eqV (.int (n : Int)) (.int (m : Int)) = decide ((n : Int) = (m : Int)) from rfl]
    by_cases e : n = m
    · simp [e]
    · have e2 : ¬ m = n := fun z => e z.symm
      have e3 : ¬ (n : Int) = (m : Int) := by omega
      simp [e3, e2]
def gapsRow (R : Rw) (b : Bal) (i : Nat) (js : List Nat) : List Int := (js.filter fun j => (prc R i j).isSome && !decide (j ∈ reachedF b.ty)).map (gapB R b i)
def gapsL (R : Rw) (b : Bal) : List Int := (reachedF b.gy).flatMap fun i => gapsRow R b i (List.range (wd R))
def addG (st : Int) (a : List Int) (i : Nat) : List Int := a.set i (a.getD i 0 + st)
def raiseB (R : Rw) (b : Bal) : Bal := { b with gw := (reachedF b.gy).foldl (addG (leastF (gapsL R b))) b.gw, tw := (reachedF b.ty).foldl (addG (-(leastF (gapsL R b)))) b.tw }
def spRaise (K : PySem.W.Frag) (C : Addr) : Sp := fun vs H Q _ => ∃ (G : Hp) (A : BalA) (R : Rw) (b : Bal), vs = [.ref A.x] ∧ BalH K C G H A R b ∧ Gt R ∧ b.gy.length = R.length ∧ b.ty.length = wd R ∧
  (gapsL R b = [] → ∀ H' : Hp, Same H H' → Q (.bl false) H') ∧ (gapsL R b ≠ [] → ∀ H' : Hp, BalH K C G H' A R (raiseB R b) → FrameB C A b H H' → Q (.bl true) H')
abbrev slRaise : Stmt := inCls 20 7
section
variable {P : Program} {w : World} {K : PySem.W.Frag} {mg : Str → Option Value} {base : Heap} {C f : Addr} {fd : FuncData}
theorem sclRaise : FnScope ["self", "givers", "takers", "gaps", "step", "i", "j", "price"] ["self"] (defScope slRaise) := ⟨rfl, rfl, rfl, by decide +kernel, rfl, by decide +kernel, by decide +kernel⟩
theorem ok_raise {fR fT fG : Addr} {fdR fdT fdG : FuncData} (F : Fun K "raise_worths" "Balance.raise_worths" slRaise f fd) (T : Bt mg) (B : BalC K C) (DL : Df P w K mg base CX0 "least" 1 ["numbers"] spLeastN)
    (mR : Meth K C "reached_givers" fR) (oR : FnOk P w K mg base CX0 1 fR fdR ["self"] (spReach K C (·.gy))) (bR : Binds K fdR ["self"] [])
    (mT : Meth K C "reached_takers" fT) (oT : FnOk P w K mg base CX0 1 fT fdT ["self"] (spReach K C (·.ty))) (bT : Binds K fdT ["self"] [])
    (mG : Meth K C "gap" fG) (oG : FnOk P w K mg base CX0 1 fG fdG ["self", "i", "j"] (spGap K C)) (bG : Binds K fdG ["self", "i", "j"] []) : FnOk P w K mg base CX0 2 f fd ["self"] (spRaise K C) := by
  refine F.ok sclRaise (fun vs H Q E h => ?_) (fun cdv A0 outer s H vs Q E hr h => ?_)
  · obtain ⟨G, A, R, b, rfl, _⟩ := h
    rfl
  · obtain ⟨G, A, R, b, rfl, h, g, gl, tl, k0, k1⟩ := h
    have hr1 := hr.mono (show 1 ≤ 1 by decide)
    refine ⟨_, (pss_cons (ps_asg (pe_tup (pa_cons (pe_meth0 (pv 0) B.O.cl mR oR hr1 bR .nil pass0) (pa_cons (pe_meth0 (pv 0) B.O.cl mT oT hr1 bT .nil pass0) pa_nil))) (pg_tup (by rfl) (pgs_cons (pg_name (i := 1) sclRaise.nd rfl (Or.inl rfl)) (pgs_cons (pg_name (i := 2) sclRaise.nd rfl (Or.inr rfl)) pgs_nil))))
  (pss_cons (ps_setLc2 (i := 3) (own := [("i", 5), ("j", 6), ("price", 7)]) (vs1 := [6, 7]) (g := gName 5) (tt := tYes) (wi1 := iEnum K (tCons (tOp (rIxL K) (tFld K (tVar 0) "entries") (tVar 5)) tNil)) (g1 := gTup K 2 (gCons (gName 6) (gCons (gName 7) gNil))) (tt1 := tAnd (tTest (tOp rIs1 (tVar 7) (tC .non))) (tTest (tOp (rIn K true) (tVar 6) (tVar 2)))) (te := tMeth C "gap" (spGap K C) [] E0 (tVar 0) (tCons (tVar 5) (tCons (tVar 6) tNil))) rfl sclRaise.nd rfl rfl (sw_true rfl rfl rfl (by decide +kernel)) (pi_list (pv 1)) (blkOk_by (own := [("i", 5), ("j", 6), ("price", 7)]) (N := ["self", "givers", "takers", "gaps", "step", "i", "j", "price"]) (sc := defScope slRaise) (by decide +kernel)) (by decide)
    (fun _ _ _ _ _ => pg_name (i := 5) sclRaise.nd rfl (Or.inl rfl)) (fun _ _ _ _ _ => pts_nil) (fun _ _ _ _ _ => pi_enum (by rfl) T.enumerate (pa_cons (pe_ix ix_list (pe_fld (pv 0) rfl) (pv 5) (fun _ _ => rfl)) pa_nil)) (fun _ _ _ _ _ => pg_tup (by rfl) (pgs_cons (pg_name (i := 6) sclRaise.nd rfl (Or.inl rfl)) (pgs_cons (pg_name (i := 7) sclRaise.nd rfl (Or.inl rfl)) pgs_nil)))
    (fun _ _ _ _ _ => pts_one (PW.pt (pw_and (pt_cmpR op_is1 (pv 7) pe_non (nomark _)) (pw_and1 (pt_cmpR op_notIn_seq (pv 6) (pv 2) (by rfl)))))) (fun _ _ _ _ _ => pe_meth (pv 0) B.O.cl mG oG hr1 bG .nil pass0 (pa_cons (pv 5) (pa_cons (pv 6) pa_nil))))
  (pss_cons (ps_if (pt_not (pt_truth (pv 3) (fun _ => rfl))) (pss_one (ps_ret pe_bl)) pss_nil)
  (pss_cons (ps_set (i := 4) sclRaise.nd rfl (Or.inl rfl) (pe_df DL hr (by decide) (pa_cons (pv 3) pa_nil)))
  (pss_cons (ps_for PassesOwn.never rfl (pi_list (pv 1)) (pg_name (i := 5) sclRaise.nd rfl (Or.inl rfl)) (pss_one (ps_asg (pe_op op_add (pe_ix ix_list (pe_fld (pv 0) rfl) (pv 5) (fun _ _ => rfl)) (pv 4)) (pg_sub (pe_fld (pv 0) rfl) (pv 5) set_list))))
  (pss_cons (ps_for PassesOwn.never rfl (pi_list (pv 2)) (pg_name (i := 6) sclRaise.nd rfl (Or.inl rfl)) (pss_one (ps_asg (pe_op op_sub (pe_ix ix_list (pe_fld (pv 0) rfl) (pv 6) (fun _ _ => rfl)) (pv 4)) (pg_sub (pe_fld (pv 0) rfl) (pv 6) set_list))))
  (pss_one (ps_ret pe_bl)))))))), ?_⟩
    have g8 := g.h8
    have w8 := g.w8
    refine r_seq ?_
    refine r_asg ?_
    walk_at "rd"
    refine ⟨A.x, A.dx, balF A, rfl, h.hx, rfl, ?_⟩
    walk_at "rd"
    refine ⟨G, A, R, b, rfl, h, (by rw [gl]; exact g8), fun ga H1 s1 n1 h1 => ?_⟩
    have hh1 := h.same s1
    walk_at "rd"
    refine ⟨A.x, A.dx, balF A, rfl, hh1.hx, rfl, ?_⟩
    walk_at "rd"
    refine ⟨G, A, R, b, rfl, hh1, (by rw [tl]; exact w8), fun ta H2 s2 n2 h2 => ?_⟩
    have hh2 := hh1.same s2
    walk_at "rd"
    refine ⟨by show 2 ≤ sizeLine; decide, fun t0 m0 => ?_⟩
    have u0 := Same.up (o := .tup [V.ref ga, V.ref ta]) (Same.refl H2) m0
    have ht0 : upd H2 t0 (.tup [V.ref ga, V.ref ta]) t0 = some (.tup [V.ref ga, V.ref ta]) := upd_same
    obtain ⟨H3, eH3⟩ : ∃ H3, H3 = upd H2 t0 (.tup [V.ref ga, V.ref ta]) := ⟨_, rfl⟩
    rw [← eH3] at u0 ht0 ⊢
    refine r_gtup ⟨t0, _, rfl, SqT.of ht0, rfl, _, _, rfl, ?_⟩
    walk_at "rd"
    refine ⟨_, _, rfl, ?_⟩
    walk_at "rd"
    refine ⟨rfl, ?_⟩
    walk_at "rd"
    have hh3 := hh2.same u0
    have s3 := s1.trans (s2.trans u0)
    have hga := u0 _ _ (s2 _ _ h1)
    have hta := u0 _ _ h2
    obtain ⟨gs, egs⟩ : ∃ gs, gs = reachedF b.gy := ⟨_, rfl⟩
    obtain ⟨ts, ets⟩ : ∃ ts, ts = reachedF b.ty := ⟨_, rfl⟩
    have hga : H3 ga = some (.lst (natV gs)) := by rw [egs]; exact hga
    have hta : H3 ta = some (.lst (natV ts)) := by rw [ets]; exact hta
    have gsR : ∀ i, i ∈ gs → i < R.length := fun i hi => by rw [egs] at hi; rw [← gl]; exact reached_lt _ i hi
    have tsR : ∀ j, j ∈ ts → j < wd R := fun j hj => by rw [ets] at hj; rw [← tl]; exact reached_lt _ j hj
    have gs8 : gs.length ≤ 8 := by rw [egs]; exact Nat.le_trans (reached_len _) (by rw [gl]; exact g8)
    obtain ⟨es, rs⟩ := h.ents
    have rs3 := rs.same hh3.s
    have row_le : ∀ (i : Nat) (js : List Nat), (gapsRow R b i js).length ≤ js.length := fun i js => by
      unfold gapsRow; rw [List.length_map]; exact List.length_filter_le _ _
    have all_le : ∀ (l : List Nat), (l.flatMap fun i => gapsRow R b i (List.range (wd R))).length ≤ l.length * 8 := fun l => by
      induction l with
      | nil => exact Nat.le_refl _
      | cons i l ih =>
        rw [List.flatMap_cons, List.length_append, List.length_cons, Nat.succ_mul]
        have := row_le i (List.range (wd R))
        rw [List.length_range] at this
        omega
    refine ⟨ga, rfl, ⟨_, SqL.of hga⟩, fun D nD => ?_⟩
    refine lc_any walk_list (fun q H' => Same H3 H' ∧ H' D = some (.lst (((gs.take q).flatMap fun i => gapsRow R b i (List.range (wd R))).map V.int))) ⟨Same.up (Same.refl H3) nD, by rw [upd_same, List.take_zero]; rfl⟩ (fun q H' _ z => SqL.of (z.1 _ _ hga)) ?_ ?_
    · rintro q y H4 H5 hq ⟨s4, hD⟩ ⟨rfl, ey⟩
      unfold natV at ey
      rw [List.getElem?_map] at ey
      obtain ⟨i, ei, rfl⟩ := Option.map_eq_some_iff.mp ey
      have iR := gsR i (List.mem_of_getElem? ei)
      have tk : gs.take (q + 1) = gs.take q ++ [i] := by rw [List.take_add_one, ei]; rfl
      obtain ⟨rb, er, hrb⟩ := rs3.get iR
      have rowl : ((R.getD i []).map pV).length = wd R := by rw [List.length_map, g.getD iR, g.len iR]
      have h4 := hh3.same s4
      walk_at "rd"
      refine ⟨rfl, ?_⟩
      walk_at "rd"
      refine r_fldV rfl h4.hx B.O.cl B.n0 rfl ?_
      walk_at "rd"
      refine r_ixL (rs3.same s4).at_ (atI_nat er) ?_
      walk_at "rd"
      have ql : (gs.take q).length ≤ 8 := by rw [List.length_take]; omega
      have pre_le := all_le (gs.take q)
      have row_more : ∀ j, j < wd R → gapsRow R b i ((List.range (wd R)).take (j + 1)) = gapsRow R b i ((List.range (wd R)).take j) ++ (if ((prc R i j).isSome && !decide (j ∈ reachedF b.ty)) = true then [gapB R b i j] else []) := fun j hj => by
        unfold gapsRow
        rw [List.take_add_one, List.getElem?_range hj]
        show List.map _ (List.filter _ (_ ++ [j])) = _
        rw [List.filter_append, List.map_append]
        congr 1
        by_cases c : ((prc R i j).isSome && !decide (j ∈ reachedF b.ty)) = true
        · rw [if_pos c, List.filter_cons_of_pos (by exact c)]; rfl
        · rw [if_neg c, List.filter_cons_of_neg (by exact c)]; rfl
      refine ⟨rb, (R.getD i []).map pV, rfl, s4.seq hrb, lc_any walk_enum (fun j H' => Same H3 H' ∧ H' D = some (.lst ((((gs.take q).flatMap fun i => gapsRow R b i (List.range (wd R))) ++ gapsRow R b i ((List.range (wd R)).take j)).map V.int))) ⟨s4, by rw [List.take_zero]; rw [show gapsRow R b i [] = [] from rfl, List.append_nil]; exact hD⟩ (fun j H' _ z => z.1.seq hrb) ?_ ?_⟩
      · rintro j y2 H6 H7 hj ⟨s6, hD6⟩ ⟨t5, i5, y5, rfl, ht5, rfl, e3, e4⟩
        cases (Option.some.inj e3)
        have hjr : j < wd R := by rw [← rowl]; exact hj
        have e4 : ((R.getD i []).map pV)[j]? = some y5 := e4
        have ey5 : y5 = pV (prc R i j) := by
          rw [prc_get g iR hjr] at e4
          exact (Option.some.inj e4).symm
        subst ey5
        refine r_gtup ⟨t5, _, rfl, SqT.of upd_same, rfl, _, _, rfl, ?_⟩
        have u5 := Same.up (o := .tup [V.int (j : Int), pV (prc R i j)]) (Same.refl H6) ht5
        obtain ⟨H7, eH7⟩ : ∃ H7, H7 = upd H6 t5 (.tup [V.int (j : Int), pV (prc R i j)]) := ⟨_, rfl⟩
        rw [← eH7] at u5 ⊢
        have s7 := s6.trans u5
        have hD7 := u5 _ _ hD6
        have h7 := hh3.same s7
        have rl8 := row_le i ((List.range (wd R)).take j)
        rw [List.length_take, List.length_range] at rl8
        walk_at "rd"
        refine ⟨_, _, rfl, ?_⟩
        walk_at "rd"
        refine ⟨rfl, rfl, ?_⟩
        walk_at "rd"
        rw [pV_someB, row_more j hjr]
        by_cases c1 : (prc R i j).isSome = true
        · refine ifT c1 ?_
          walk_at "rd"
          have fl : (natV ts).all flatV = true := by
            rw [List.all_eq_true]
            intro v hv
            obtain ⟨m, _, rfl⟩ := List.mem_map.mp hv
            rfl
          have iv : inV (.int (j : Int)) (natV ts) = decide (j ∈ ts) := inV_nat j ts
          refine ⟨ta, natV ts, rfl, .inl (SqL.of (s7 _ _ hta)), rfl, fl, ?_⟩
          rw [if_pos rfl, iv]
          refine ⟨_, rfl, ?_⟩
          by_cases c2 : j ∈ ts
          · refine ifF (by rw [decide_eq_true c2]; rfl) ?_
            refine ⟨s7, ?_⟩
            have e0 : (if ((prc R i j).isSome && !decide (j ∈ reachedF b.ty)) = true then [gapB R b i j] else []) = [] := if_neg (by rw [← ets, decide_eq_true c2]; simp)
            rw [e0, List.append_nil]
            exact hD7
          · refine ifT (by rw [decide_eq_false c2]; rfl) ?_
            walk_at "rd"
            refine ⟨A.x, A.dx, balF A, rfl, h7.hx, rfl, ?_⟩
            walk_at "rd"
            refine ⟨G, A, R, b, i, j, rfl, h7, g, iR, hjr, c1, ?_⟩
            have e0 : (if ((prc R i j).isSome && !decide (j ∈ reachedF b.ty)) = true then [gapB R b i j] else []) = [gapB R b i j] := if_pos (by rw [← ets, c1, decide_eq_false c2]; rfl)
            refine ⟨_, hD7, Nat.lt_of_le_of_lt (show _ ≤ 80 from by rw [List.length_map, List.length_append]; omega) (by decide), Same.upOff s7 nD, ?_⟩
            rw [upd_same, e0]
            simp only [List.map_append, List.append_assoc]
            rfl
        · refine ifF (by simpa using c1) ?_
          refine ⟨s7, ?_⟩
          have e0 : (if ((prc R i j).isSome && !decide (j ∈ reachedF b.ty)) = true then [gapB R b i j] else []) = [] := if_neg (by simp [c1])
          rw [e0, List.append_nil]
          exact hD7
      · rintro H6 ⟨s6, hD6⟩
        refine ⟨s6, ?_⟩
        rw [rowl, show (List.range (wd R)).take (wd R) = List.range (wd R) from List.take_of_length_le (by rw [List.length_range]; exact Nat.le_refl _)] at hD6
        have e1 : (gs.take (q + 1)).flatMap (fun i => gapsRow R b i (List.range (wd R))) = (gs.take q).flatMap (fun i => gapsRow R b i (List.range (wd R))) ++ gapsRow R b i (List.range (wd R)) := by rw [tk, List.flatMap_append]; simp
        rw [e1]
        exact hD6
    · rintro H4 ⟨s4, hD⟩
      rw [show (natV gs).length = gs.length from by unfold natV; rw [List.length_map], List.take_of_length_le (Nat.le_refl _)] at hD
      have hD : H4 D = some (.lst ((gapsL R b).map V.int)) := by unfold gapsL; rw [← egs]; exact hD
      have h4 := hh3.same s4
      have s34 := s3.trans s4
      walk_at "rd"
      refine ⟨!((gapsL R b).map V.int).isEmpty, .inl ⟨_, SqL.of hD, rfl⟩, ?_⟩
      by_cases ge : gapsL R b = []
      · refine ifT (by rw [ge]; rfl) ?_
        walk_at "rd"
        exact k0 ge H4 s34
      · refine ifF (by cases q : gapsL R b with | nil => exact absurd q ge | cons _ _ => rfl) ?_
        walk_at "rd"
        refine ⟨D, gapsL R b, rfl, hD, ge, ?_⟩
        obtain ⟨st, est⟩ : ∃ st, st = leastF (gapsL R b) := ⟨_, rfl⟩
        rw [← est]
        have add_len : ∀ (st : Int) (l : List Nat) (a : List Int), (l.foldl (addG st) a).length = a.length := fun st l => by
          induction l with
          | nil => intro a; rfl
          | cons i l ih => intro a; rw [List.foldl_cons, ih]; exact List.length_set
        have gaO : ga ∉ (balL C A b).map (·.1) := h.own.not n1
        have taO : ta ∉ (balL C A b).map (·.1) := h.own.not (s1.free n2)
        have a4O : A.a4 ∈ (balL C A b).map (·.1) := List.mem_map.mpr ⟨(A.a4, .lst (b.gw.map V.int)), by unfold balL; simp, rfl⟩
        have a5O : A.a5 ∈ (balL C A b).map (·.1) := List.mem_map.mpr ⟨(A.a5, .lst (b.tw.map V.int)), by unfold balL; simp, rfl⟩
        have ga4 := s4 _ _ hga
        walk_at "rd"
        refine ⟨ga, rfl, ⟨_, SqL.of ga4⟩, for_it walk_list (fun q σ H' => ∃ v5 v6 v7, σ = [some (.ref A.x), some (.ref ga), some (.ref ta), some (.ref D), some (.int st), v5, v6, v7] ∧ BalH K C G H' A R { b with gw := (gs.take q).foldl (addG st) b.gw } ∧ (∀ q o, q ∉ (balL C A b).map (·.1) → H4 q = some o → H' q = some o)) ⟨_, _, _, rfl, h4, fun _ _ _ e => e⟩ (fun q σ H' _ z => by obtain ⟨_, _, _, _, _, z⟩ := z; exact SqL.of (z _ _ gaO ga4)) ?_ ?_⟩
        · rintro q y σ H8 H9 hq ⟨v5, v6, v7, rfl, h9, fr9⟩ ⟨rfl, ey⟩
          unfold natV at ey
          rw [List.getElem?_map] at ey
          obtain ⟨i, ei, rfl⟩ := Option.map_eq_some_iff.mp ey
          have iR := gsR i (List.mem_of_getElem? ei)
          have tk : gs.take (q + 1) = gs.take q ++ [i] := by rw [List.take_add_one, ei]; rfl
          rw [tk, List.foldl_append]
          have al := add_len st (gs.take q) b.gw
          generalize (gs.take q).foldl (addG st) b.gw = gw at h9 al ⊢
          have gwl : gw.length = R.length := al.trans h.d.l4
          have hv : (gw.map V.int)[i]? = some (V.int (gw.getD i 0)) := by
            rw [List.getElem?_map, List.getD_eq_getElem?_getD, List.getElem?_eq_getElem (by rw [gwl]; exact iR)]; rfl
          refine ⟨_, rfl, ?_⟩
          refine ⟨A.x, C, A.dx, balF A, _, rfl, h9.hx, B.O.cl, B.n4, rfl, ?_⟩
          walk_at "rd"
          refine r_ixL (SqL.of h9.h4) (atI_nat hv) ?_
          walk_at "rd"
          refine r_fldV rfl h9.hx B.O.cl B.n4 rfl ?_
          walk_at "rd"
          refine r_setL h9.h4 (ixN_nat (j := i) (by show i < (gw.map V.int).length; rw [List.length_map, gwl]; exact iR)) ?_
          have e1 : (gw.map V.int).set i (V.int (gw.getD i 0 + st)) = (addG st gw i).map V.int := by unfold addG; rw [List.map_set]
          have h10 := h9.setGw (gw := addG st gw i) (by unfold addG; rw [List.length_set]; exact gwl)
          refine ⟨_, _, _, rfl, ?_, fun q o n e => ?_⟩
          · show BalH K C G (upd _ A.a4 (.lst ((gw.map V.int).set i (V.int (gw.getD i 0 + st))))) A R _
            rw [e1]; exact h10
          · rw [upd_ne (fun z => n (by rw [z]; exact a4O))]; exact fr9 q o n e
        · rintro σ H8 ⟨v5, v6, v7, rfl, h8, fr8⟩
          rw [show (natV gs).length = gs.length from by unfold natV; rw [List.length_map], List.take_of_length_le (Nat.le_refl _)] at h8
          obtain ⟨b8, eb8⟩ : ∃ b8 : Bal, b8 = { b with gw := gs.foldl (addG st) b.gw } := ⟨_, rfl⟩
          rw [← eb8] at h8
          have tw8 : b8.tw = b.tw := by rw [eb8]
          have ta4 := s4 _ _ hta
          have ta8 := fr8 _ _ taO ta4
          walk_at "rd"
          refine ⟨ta, rfl, ⟨_, SqL.of ta8⟩, for_it walk_list (fun q σ H' => ∃ v5 v6 v7, σ = [some (.ref A.x), some (.ref ga), some (.ref ta), some (.ref D), some (.int st), v5, v6, v7] ∧ BalH K C G H' A R { b8 with tw := (ts.take q).foldl (addG (-st)) b8.tw } ∧ (∀ q o, q ∉ (balL C A b).map (·.1) → H4 q = some o → H' q = some o)) ⟨_, _, _, rfl, h8, fr8⟩ (fun q σ H' _ z => by obtain ⟨_, _, _, _, _, z⟩ := z; exact SqL.of (z _ _ taO ta4)) ?_ ?_⟩
          · rintro q y σ H8' H9 hq ⟨v5, v6, v7, rfl, h9, fr9⟩ ⟨rfl, ey⟩
            unfold natV at ey
            rw [List.getElem?_map] at ey
            obtain ⟨j, ej, rfl⟩ := Option.map_eq_some_iff.mp ey
            have jR := tsR j (List.mem_of_getElem? ej)
            have tk : ts.take (q + 1) = ts.take q ++ [j] := by rw [List.take_add_one, ej]; rfl
            rw [tk, List.foldl_append]
            have al := add_len (-st) (ts.take q) b8.tw
            generalize (ts.take q).foldl (addG (-st)) b8.tw = tw at h9 al ⊢
            have twl : tw.length = wd R := by rw [al, tw8]; exact h.d.l5
            have hv : (tw.map V.int)[j]? = some (V.int (tw.getD j 0)) := by
              rw [List.getElem?_map, List.getD_eq_getElem?_getD, List.getElem?_eq_getElem (by rw [twl]; exact jR)]; rfl
            refine ⟨_, rfl, ?_⟩
            refine ⟨A.x, C, A.dx, balF A, _, rfl, h9.hx, B.O.cl, B.n5, rfl, ?_⟩
            walk_at "rd"
            refine r_ixL (SqL.of h9.h5) (atI_nat hv) ?_
            walk_at "rd"
            refine r_fldV rfl h9.hx B.O.cl B.n5 rfl ?_
            walk_at "rd"
            refine r_setL h9.h5 (ixN_nat (j := j) (by show j < (tw.map V.int).length; rw [List.length_map, twl]; exact jR)) ?_
            have e1 : (tw.map V.int).set j (V.int (tw.getD j 0 - st)) = (addG (-st) tw j).map V.int := by unfold addG; rw [List.map_set, Int.sub_eq_add_neg]
            have h10 := h9.setTw (tw := addG (-st) tw j) (by unfold addG; rw [List.length_set]; exact twl)
            refine ⟨_, _, _, rfl, ?_, fun q o n e => ?_⟩
            · show BalH K C G (upd _ A.a5 (.lst ((tw.map V.int).set j (V.int (tw.getD j 0 - st))))) A R _
              rw [e1]; exact h10
            · rw [upd_ne (fun z => n (by rw [z]; exact a5O))]; exact fr9 q o n e
          · rintro σ H10 ⟨v5, v6, v7, rfl, h10, fr10⟩
            rw [show (natV ts).length = ts.length from by unfold natV; rw [List.length_map], List.take_of_length_le (Nat.le_refl _)] at h10
            walk_at "rd"
            refine k1 ge H10 ?_ fun q o n e => fr10 q o n (s34 _ _ e)
            have efin : ({ b8 with tw := ts.foldl (addG (-st)) b8.tw } : Bal) = raiseB R b := by
              unfold raiseB
              rw [← est, ← egs, ← ets, tw8, eb8]
            rw [← efin]
            exact h10
end
end Pk
set_option Elab.async false
set_option linter.all false
set_option maxRecDepth 100000
set_option maxHeartbeats 4000000
namespace Pk
open PySem L2
local macro_rules | `(tactic| walk_at "rd") => `(tactic| repeat (first
  | with_reducible refine r_seq ?_ | with_reducible refine r_nxt ?_ | with_reducible refine r_asg ?_ | with_reducible refine r_to ?_ | with_reducible refine r_ret ?_ | with_reducible refine r_for ?_ | with_reducible refine r_lc ?_ | with_reducible refine r_lc2 ?_ | with_reducible refine r_rng1 ?_ | with_reducible refine r_list ?_ | with_reducible refine r_tupI ?_ | with_reducible refine r_drop ?_ | with_reducible refine r_ifs ?_
  | with_reducible refine r_op ?_ | with_reducible refine r_c ?_ | with_reducible refine r_var rfl ?_ | with_reducible refine r_var (by assumption) ?_ | with_reducible refine r_I0 ?_ | with_reducible refine r_un ?_ | with_reducible refine r_U ?_ | with_reducible refine r_make ?_ | with_reducible refine r_makeS ?_ | with_reducible refine r_ifE ?_ | with_reducible refine r_cm ?_ | with_reducible refine r_mkV rfl ?_ | with_reducible refine r_sub ?_
  | with_reducible refine r_nil ?_ | with_reducible refine r_cons ?_ | with_reducible refine r_cb ?_ | with_reducible refine r_sl ?_ | with_reducible refine r_noP ?_ | with_reducible refine r_part ?_ | with_reducible refine r_isI ?_ | with_reducible refine r_lst ?_ | with_reducible refine r_tup ?_ | with_reducible refine r_call ?_ | with_reducible refine r_callS ?_ | with_reducible refine r_sFldU ?_ | with_reducible refine r_chain ?_ | with_reducible refine r_enum ?_ | with_reducible refine r_zip ?_ | with_reducible refine r_rng3 ?_ | with_reducible refine r_gtup ?_ | with_reducible refine r_methU ?_
  | with_reducible refine r_test ?_ | with_reducible refine r_B ?_ | with_reducible refine r_and ?_ | with_reducible refine r_or ?_ | with_reducible refine r_not ?_ | with_reducible refine r_andV ?_ | with_reducible refine r_orV ?_ | with_reducible refine r_notV ?_ | with_reducible refine r_bl ?_ | with_reducible refine r_yes ?_ | with_reducible refine r_int ?_ | with_reducible refine r_is0 ?_ | with_reducible refine r_is1 ?_ | with_reducible refine iteT ?_ | with_reducible refine iteF ?_ | with_reducible refine ite_nF ?_ | with_reducible refine ite_nT ?_
  | with_reducible refine r_mod (by decide) ?_ | with_reducible refine r_div (by decide) (by decide) ?_ | with_reducible refine r_mulR (by decide) (by decide) ?_ | with_reducible refine r_mulL (by decide) (by decide) ?_ | with_reducible refine r_pow (by decide) (by decide) (by decide) ?_))
/-! ### after the worths are raised, a search reaches more -/
theorem addG_at (st : Int) : ∀ (l : List Nat) (a : List Int), l.Nodup → (∀ i, i ∈ l → i < a.length) → ∀ k, (l.foldl (addG st) a).getD k 0 = a.getD k 0 + if k ∈ l then st else 0
  | [], a, _, _, k => by rw [List.foldl_nil, if_neg List.not_mem_nil, Int.add_zero]
  | i :: l, a, nd, h, k => by
    obtain ⟨n1, n2⟩ := List.nodup_cons.mp nd
    have ia := h i (List.mem_cons_self ..)
    rw [List.foldl_cons, addG_at st l (addG st a i) n2 (fun j hj => by unfold addG; rw [List.length_set]; exact h j (List.mem_cons_of_mem _ hj)) k]
    have e : (addG st a i).getD k 0 = a.getD k 0 + if k = i then st else 0 := by
      unfold addG
      rw [List.getD_eq_getElem?_getD, List.getD_eq_getElem?_getD]
      by_cases c : i = k
      · subst c
        rw [if_pos rfl, List.getElem?_set_self ia, List.getD_eq_getElem?_getD]; rfl
      · rw [if_neg (Ne.symm c), List.getElem?_set_ne c, Int.add_zero, List.getD_eq_getElem?_getD]
    rw [e]
    by_cases c : k = i
    · subst c
      rw [if_pos rfl, if_neg n1, if_pos (List.mem_cons_self ..)]; omega
    · rw [if_neg c]
      by_cases m : k ∈ l
      · rw [if_pos m, if_pos (List.mem_cons_of_mem _ m)]; omega
      · rw [if_neg m, if_neg (fun z => (List.mem_cons.mp z).elim c m)]; omega
theorem reached_nd (ws : List (Option Int)) : (reachedF ws).Nodup := List.nodup_range.filter _
theorem raise_gap {R : Rw} {b : Bal} (d : BalD R b) (l1 : b.gy.length = R.length) (l2 : b.ty.length = wd R) (i j : Nat) :
    gapB R (raiseB R b) i j = gapB R b i j - (if i ∈ reachedF b.gy then leastF (gapsL R b) else 0) + (if j ∈ reachedF b.ty then leastF (gapsL R b) else 0) := by
  unfold gapB raiseB
  dsimp only
  rw [addG_at _ _ _ (reached_nd _) (fun i hi => by have := reached_lt _ i hi; rw [d.l4]; omega), addG_at _ _ _ (reached_nd _) (fun j hj => by have := reached_lt _ j hj; rw [d.l5]; omega)]
  by_cases c1 : i ∈ reachedF b.gy
  · by_cases c2 : j ∈ reachedF b.ty
    · simp only [if_pos c1, if_pos c2]; omega
    · simp only [if_pos c1, if_neg c2]; omega
  · by_cases c2 : j ∈ reachedF b.ty
    · simp only [if_neg c1, if_pos c2]; omega
    · simp only [if_neg c1, if_neg c2]; omega
theorem leastF_mem : ∀ {l : List Int}, l ≠ [] → leastF l ∈ l
  | [], h => absurd rfl h
  | n :: ns, _ => by
    show ns.foldl (fun m k => if k < m then k else m) n ∈ n :: ns
    have key : ∀ (ns : List Int) (m : Int), ns.foldl (fun m k => if k < m then k else m) m = m ∨ ns.foldl (fun m k => if k < m then k else m) m ∈ ns := fun ns => by
      induction ns with
      | nil => intro m; exact .inl rfl
      | cons k ns ih =>
        intro m
        rw [List.foldl_cons]
        rcases ih (if k < m then k else m) with h | h
        · by_cases c : k < m
          · rw [if_pos c] at h ⊢; exact .inr (by rw [h]; exact List.mem_cons_self ..)
          · rw [if_neg c] at h ⊢; exact .inl h
        · exact .inr (List.mem_cons_of_mem _ h)
    rcases key ns n with h | h
    · rw [h]; exact List.mem_cons_self ..
    · exact List.mem_cons_of_mem _ h
theorem gapsL_mem {R : Rw} {b : Bal} {x : Int} (h : x ∈ gapsL R b) : ∃ i j, i ∈ reachedF b.gy ∧ j < wd R ∧ (prc R i j).isSome = true ∧ j ∉ reachedF b.ty ∧ x = gapB R b i j := by
  obtain ⟨i, hi, h2⟩ := List.mem_flatMap.mp h
  unfold gapsRow at h2
  obtain ⟨j, hj, rfl⟩ := List.mem_map.mp h2
  obtain ⟨j1, j2⟩ := List.mem_filter.mp hj
  rw [Bool.and_eq_true, Bool.not_eq_true', decide_eq_false_iff_not] at j2
  exact ⟨i, j, hi, List.mem_range.mp j1, j2.1, j2.2, rfl⟩
/-- a search that finds no taker, behind raised worths: all that was reached is reached, and one taker more -/
theorem raise_more {R : Rw} {b b' : Bal} (d : BalD R b) (W : WaysB R b) (ne : gapsL R b ≠ []) (h : SearchR R (bal0 (raiseB R b)) (reachedF (gy0 (raiseB R b))) b' none) :
    (∀ i, (b.gy.getD i none).isSome = true → (b'.gy.getD i none).isSome = true) ∧ (∀ j, (b.ty.getD j none).isSome = true → (b'.ty.getD j none).isSome = true) ∧ ∃ j, j < wd R ∧ (b.ty.getD j none).isSome = false ∧ (b'.ty.getD j none).isSome = true := by
  have addl : ∀ (st : Int) (l : List Nat) (a : List Int), (l.foldl (addG st) a).length = a.length := fun st l => by
    induction l with
    | nil => intro a; rfl
    | cons i l ih => intro a; rw [List.foldl_cons, ih]; exact List.length_set
  have d2 : BalD R (raiseB R b) := ⟨d.l1, d.l2, d.l3, (addl _ _ _).trans d.l4, (addl _ _ _).trans d.l5, d.l6⟩
  obtain ⟨W', S, _, cl⟩ := search_all d2 h
  have cl := cl rfl
  obtain ⟨x1, x2⟩ := search_ext h (ways_start d2).lg (ways_start d2).lt
  have gap' : ∀ i j, gapB R b' i j = gapB R (raiseB R b) i j := fun i j => by
    unfold gapB
    rw [S.gw, S.tw]; rfl
  have sent' : ∀ i j, sentB b' i j = sentB b i j := fun i j => by
    unfold sentB
    rw [S.S]; rfl
  have inR : ∀ {i : Nat}, (b.gy.getD i none).isSome = true → i < R.length := fun {i} e => by
    apply Classical.byContradiction
    intro n
    rw [getD_none (by rw [W.lg]; omega)] at e; cases e
  have inT : ∀ {j : Nat}, (b.ty.getD j none).isSome = true → j < wd R := fun {j} e => by
    apply Classical.byContradiction
    intro n
    rw [getD_none (by rw [W.lt]; omega)] at e; cases e
  have tight : ∀ {i j : Nat}, (b.gy.getD i none).isSome = true → (b.ty.getD j none).isSome = true → gapB R b i j = 0 → gapB R b' i j = 0 := fun {i j} hi hj e => by
    rw [gap', raise_gap d W.lg W.lt, if_pos (reached_mem.mpr hi), if_pos (reached_mem.mpr hj), e]; omega
  have giv : ∀ {i dd : Nat}, Pth b.gy b.ty i dd → (b'.gy.getD i none).isSome = true := fun {i dd} p => by
    induction p with
    | @start i e =>
      have := W.start i e
      refine ext_some x1 ?_
      show ((gy0 (raiseB R b)).getD i none).isSome = true
      rw [gy0_at, if_pos (by exact this)]; rfl
    | @step i j k dd e q r ih =>
      obtain ⟨b1, b2, b3⟩ := W.back i j e
      obtain ⟨k', ek, k1, k2, k3, k4⟩ := W.fore j _ q
      have ek : k = k' := Int.ofNat.inj ek
      subst ek
      have tj := cl.g k ih List.not_mem_nil j b1 k2 (tight k4 b3 k3)
      exact (cl.t j tj).2 i (inR (by rw [e]; rfl)) (by rw [sent']; exact b2)
  have givers : ∀ i, (b.gy.getD i none).isSome = true → (b'.gy.getD i none).isSome = true := fun i hi => by
    obtain ⟨dd, p⟩ := W.path i hi
    exact giv p
  refine ⟨givers, fun j hj => ?_, ?_⟩
  · obtain ⟨v, ev⟩ := Option.isSome_iff_exists.mp hj
    obtain ⟨k, rfl, k1, k2, k3, k4⟩ := W.fore j v ev
    exact cl.g k (givers k k4) List.not_mem_nil j (inT hj) k2 (tight k4 hj k3)
  · obtain ⟨i, j, hi, hj, p, nj, e⟩ := gapsL_mem (leastF_mem ne)
    refine ⟨j, hj, ?_, ?_⟩
    · rw [← Bool.not_eq_true]; exact fun z => nj (reached_mem.mpr z)
    · refine cl.g i (givers i (reached_mem.mp hi)) List.not_mem_nil j hj p ?_
      rw [gap', raise_gap d W.lg W.lt, if_pos hi, if_neg nj, ← e]; omega
theorem nonN_count (ws : List (Option Int)) : nonN ws = ((List.range ws.length).filter fun i => !(ws.getD i none).isSome).length := by
  unfold nonN
  induction ws with
  | nil => rfl
  | cons w ws ih =>
    rw [List.length_cons, List.range_succ_eq_map, List.filter_cons, List.filter_cons]
    have e : ((List.map Nat.succ (List.range ws.length)).filter fun i => !((w :: ws).getD i none).isSome).length = ((List.range ws.length).filter fun i => !(ws.getD i none).isSome).length := by
      rw [List.filter_map, List.length_map]; rfl
    cases w with
    | none =>
      rw [if_pos (show (none : Option Int).isNone = true from rfl), if_pos (show (!((none :: ws).getD 0 none).isSome) = true from rfl), List.length_cons, List.length_cons, e, ih]
    | some v =>
      rw [if_neg (show ¬ (some v).isNone = true by simp), if_neg (show ¬ (!((some v :: ws).getD 0 none).isSome) = true by simp), e, ih]
theorem nonN_lt {a b : List (Option Int)} (l : a.length = b.length) (h : ∀ j, (a.getD j none).isSome = true → (b.getD j none).isSome = true) {j : Nat} (hj : j < a.length) (n : (a.getD j none).isSome = false) (y : (b.getD j none).isSome = true) : nonN b < nonN a := by
  rw [nonN_count, nonN_count, ← l]
  have s := nsub_lenB (xs := j :: (List.range a.length).filter fun i => !(b.getD i none).isSome) (ys := (List.range a.length).filter fun i => !(a.getD i none).isSome) (List.nodup_cons.mpr ⟨(fun m => by
    have := (List.mem_filter.mp m).2
    rw [y] at this
    cases this), List.nodup_range.filter _⟩) fun k hk => by
    rcases List.mem_cons.mp hk with rfl | hk
    · exact List.mem_filter.mpr ⟨List.mem_range.mpr hj, by rw [n]; rfl⟩
    · obtain ⟨k1, k2⟩ := List.mem_filter.mp hk
      refine List.mem_filter.mpr ⟨k1, ?_⟩
      cases e : (a.getD k none).isSome with
      | false => rfl
      | true => rw [h k e] at k2; cases k2
  rw [List.length_cons] at s
  omega
end Pk
set_option Elab.async false
set_option linter.all false
set_option maxRecDepth 100000
set_option maxHeartbeats 4000000
namespace Pk
open PySem L2
local macro_rules | `(tactic| walk_at "rd") => `(tactic| repeat (first
  | with_reducible refine r_seq ?_ | with_reducible refine r_nxt ?_ | with_reducible refine r_asg ?_ | with_reducible refine r_to ?_ | with_reducible refine r_ret ?_ | with_reducible refine r_for ?_ | with_reducible refine r_lc ?_ | with_reducible refine r_lc2 ?_ | with_reducible refine r_rng1 ?_ | with_reducible refine r_list ?_ | with_reducible refine r_tupI ?_ | with_reducible refine r_drop ?_ | with_reducible refine r_ifs ?_
  | with_reducible refine r_op ?_ | with_reducible refine r_c ?_ | with_reducible refine r_var rfl ?_ | with_reducible refine r_var (by assumption) ?_ | with_reducible refine r_I0 ?_ | with_reducible refine r_un ?_ | with_reducible refine r_U ?_ | with_reducible refine r_make ?_ | with_reducible refine r_makeS ?_ | with_reducible refine r_ifE ?_ | with_reducible refine r_cm ?_ | with_reducible refine r_mkV rfl ?_ | with_reducible refine r_sub ?_
  | with_reducible refine r_nil ?_ | with_reducible refine r_cons ?_ | with_reducible refine r_cb ?_ | with_reducible refine r_sl ?_ | with_reducible refine r_noP ?_ | with_reducible refine r_part ?_ | with_reducible refine r_isI ?_ | with_reducible refine r_lst ?_ | with_reducible refine r_tup ?_ | with_reducible refine r_call ?_ | with_reducible refine r_callS ?_ | with_reducible refine r_sFldU ?_ | with_reducible refine r_chain ?_ | with_reducible refine r_enum ?_ | with_reducible refine r_zip ?_ | with_reducible refine r_rng3 ?_ | with_reducible refine r_gtup ?_ | with_reducible refine r_methU ?_
  | with_reducible refine r_test ?_ | with_reducible refine r_B ?_ | with_reducible refine r_and ?_ | with_reducible refine r_or ?_ | with_reducible refine r_not ?_ | with_reducible refine r_andV ?_ | with_reducible refine r_orV ?_ | with_reducible refine r_notV ?_ | with_reducible refine r_bl ?_ | with_reducible refine r_yes ?_ | with_reducible refine r_int ?_ | with_reducible refine r_is0 ?_ | with_reducible refine r_is1 ?_ | with_reducible refine iteT ?_ | with_reducible refine iteF ?_ | with_reducible refine ite_nF ?_ | with_reducible refine ite_nT ?_
  | with_reducible refine r_mod (by decide) ?_ | with_reducible refine r_div (by decide) (by decide) ?_ | with_reducible refine r_mulR (by decide) (by decide) ?_ | with_reducible refine r_mulL (by decide) (by decide) ?_ | with_reducible refine r_pow (by decide) (by decide) (by decide) ?_))
/-! ### the balance settled -/
inductive SettleR (R : Rw) : Bal → Bal → Bool → Prop
  | done {b : Bal} (h : ¬ 0 < b.sp.sum) : SettleR R b b true
  | ext {b b' r : Bal} {x : Bool} {e i0 l : Nat} {f bk : List (Nat × Nat)} (p : 0 < b.sp.sum) (s : SearchR R (bal0 b) (reachedF (gy0 b)) b' (some e)) (t : b'.ty.getD e none = some (i0 : Int)) (c : Chn b'.gy b'.ty i0 f bk l) (n : SettleR R (extB b' ((i0, e) :: f) bk l e) r x) : SettleR R b r x
  | raise {b b' r : Bal} {x : Bool} (p : 0 < b.sp.sum) (s : SearchR R (bal0 b) (reachedF (gy0 b)) b' none) (ne : gapsL R b' ≠ []) (n : SettleR R (raiseB R b') r x) : SettleR R b r x
  | stuck {b b' : Bal} (p : 0 < b.sp.sum) (s : SearchR R (bal0 b) (reachedF (gy0 b)) b' none) (e : gapsL R b' = []) : SettleR R b b' false
theorem sum_set : ∀ {a : List Int} {i : Nat} (v : Int), i < a.length → (a.set i v).sum = a.sum - a.getD i 0 + v
  | [], _, _, h => by simp at h
  | x :: a, 0, v, _ => by
    show (v :: a).sum = (x :: a).sum - x + v
    rw [List.sum_cons, List.sum_cons]; omega
  | x :: a, i + 1, v, h => by
    show (x :: a.set i v).sum = (x :: a).sum - a.getD i 0 + v
    rw [List.sum_cons, List.sum_cons, sum_set v (by simpa using h)]; omega
theorem amt_pos {R : Rw} {b : Bal} (W : WaysB R b) {i0 e l : Nat} {f bk : List (Nat × Nat)} (c : Chn b.gy b.ty i0 f bk l) (he : 0 < b.la.getD e 0) : 0 < amtB b bk l e := by
  obtain ⟨f1, _, f3⟩ := c.facts W
  have m := leastF_mem (l := [b.sp.getD l 0, b.la.getD e 0] ++ bk.map fun z => sentB b z.1 z.2) (by simp)
  show 0 < leastF _
  rcases List.mem_append.mp m with m | m
  · rcases List.mem_cons.mp m with m | m
    · rw [m]; exact f3
    · rw [List.mem_singleton.mp m]; exact he
  · obtain ⟨z, hz, ez⟩ := List.mem_map.mp m
    rw [← ez]
    exact (f1 z hz).2.2
def spSettle (K : PySem.W.Frag) (C : Addr) : Sp := fun vs H Q _ => ∃ (G : Hp) (A : BalA) (R : Rw) (b : Bal), vs = [.ref A.x] ∧ BalH K C G H A R b ∧ Gt R ∧ ∀ (A' : BalA) (b' : Bal) (x : Bool) (H' : Hp), SettleR R b b' x → BalH K C G H' A' R b' → A'.x = A.x → Q (.bl x) H'
abbrev slSettle : Stmt := inCls 20 2
section
variable {P : Program} {w : World} {K : PySem.W.Frag} {mg : Str → Option Value} {base : Heap} {C f : Addr} {fd : FuncData}
theorem sclSettle : FnScope ["self", "end"] ["self"] (defScope slSettle) := ⟨rfl, rfl, rfl, by decide +kernel, rfl, by decide +kernel, by decide +kernel⟩
theorem ok_settle {fS fE fR : Addr} {fdS fdE fdR : FuncData} (F : Fun K "settle" "Balance.settle" slSettle f fd) (T : Bt mg) (tsum : mg "sum" = none) (B : BalC K C)
    (mS : Meth K C "search" fS) (oS : FnOk P w K mg base CX0 3 fS fdS ["self"] (spSearch K C)) (bS : Binds K fdS ["self"] [])
    (mE : Meth K C "extend_to" fE) (oE : FnOk P w K mg base CX0 2 fE fdE ["self", "end"] (spExt K C)) (bE : Binds K fdE ["self", "end"] [])
    (mR : Meth K C "raise_worths" fR) (oR : FnOk P w K mg base CX0 2 fR fdR ["self"] (spRaise K C)) (bR : Binds K fdR ["self"] []) : FnOk P w K mg base CX0 4 f fd ["self"] (spSettle K C) := by
  refine F.ok sclSettle (fun vs H Q E h => ?_) (fun cdv A0 outer s H vs Q E hr h => ?_)
  · obtain ⟨G, A, R, b, rfl, _⟩ := h
    rfl
  · obtain ⟨G, A, R, b, rfl, h, g, k⟩ := h
    have hr3 := hr.mono (show 3 ≤ 3 by decide)
    have hr2 := hr.mono (show 2 ≤ 3 by decide)
    refine ⟨_, (pss_cons (ps_while PassesOwn.never (pt_cmpR op_gt (pe_callB (cr_sum rfl) (by rfl) T.sum (by decide +kernel) (pa_cons (pe_fld (pv 0) rfl) pa_nil)) pe_int (nomark _)) (pss_cons (ps_set (i := 1) sclSettle.nd rfl (Or.inl rfl) (pe_meth0 (pv 0) B.O.cl mS oS hr3 bS .nil pass0))
  (pss_one (ps_if (pt_cmpR op_is1 (pv 1) pe_non (nomark _)) (pss_one (ps_expr (pe_meth (pv 0) B.O.cl mE oE hr2 bE .nil pass0 (pa_cons (pv 1) pa_nil)))) (pss_one (ps_if (pt_not (pt_val (pe_meth0 (pv 0) B.O.cl mR oR hr2 bR .nil pass0))) (pss_one (ps_ret pe_bl)) pss_nil))))))
  (pss_one (ps_ret pe_bl))), ?_⟩
    refine r_seq ?_
    refine while_rel (fun m σ H' => ∃ (A1 : BalA) (b1 : Bal) (v1 : Option V) (c : Nat), σ = [some (.ref A1.x), v1] ∧ A1.x = A.x ∧ BalH K C G H' A1 R b1 ∧ (∀ b' x, SettleR R b1 b' x → SettleR R b b' x) ∧ (∀ b', SearchR R (bal0 b1) (reachedF (gy0 b1)) b' none → nonN b'.ty < c) ∧ b1.sp.sum.toNat * (wd R + 2) + c ≤ m) (b.sp.sum.toNat * (wd R + 2) + (wd R + 1))
      ⟨A, b, _, wd R + 1, rfl, rfl, h, (fun _ _ z => z), (fun b' sr => by
        have W := (search_all h.d sr).1
        have := nonN_le b'.ty
        rw [W.lt] at this
        omega), Nat.le_refl _⟩ ?_ ?_
    · rintro m σ H1 ⟨A1, b1, v1, c, rfl, ex, h1, rel, inv, bound⟩
      walk_at "rd"
      refine r_fldV rfl h1.hx B.O.cl B.n1 rfl ?_
      walk_at "rd"
      refine r_sum (SqL.of h1.h1) ?_
      walk_at "rd"
      by_cases c1 : 0 < b1.sp.sum
      · refine ifT (decide_eq_true c1) ?_
        walk_at "rd"
        refine ⟨A1.x, A1.dx, balF A1, rfl, h1.hx, rfl, ?_⟩
        walk_at "rd"
        refine ⟨G, A1, R, b1, rfl, h1, g, fun A2 b2 e H2 sr h2 ex2 gl2 tl2 _ => ?_⟩
        obtain ⟨W2, S2, hit, clo⟩ := search_all h1.d sr
        have sp2 : b2.sp = b1.sp := S2.sp
        walk_at "rd"
        cases e with
        | some j =>
          obtain ⟨jR, tj, lj⟩ := hit j rfl
          obtain ⟨v, ev⟩ := Option.isSome_iff_exists.mp tj
          obtain ⟨i0, rfl, i0R, _, _, gi⟩ := W2.fore j v ev
          obtain ⟨dd, pth⟩ := W2.path i0 gi
          obtain ⟨f, bk, l, ch, _, _⟩ := pth.chn
          have am := amt_pos W2 ch lj
          have lR : l < b2.sp.length := by
            apply Classical.byContradiction
            intro n
            have := (ch.facts W2).2.2
            rw [List.getD_eq_getElem?_getD, List.getElem?_eq_none (by omega)] at this
            simp at this
          refine ifT rfl ?_
          walk_at "rd"
          rw [← ex2]
          refine ⟨A2.x, A2.dx, balF A2, rfl, h2.hx, rfl, ?_⟩
          walk_at "rd"
          refine ⟨G, A2, R, b2, j, i0, l, f, bk, rfl, h2, g, W2, jR, ev, ch, i0R, fun H3 h3 _ => ?_⟩
          have sm : (extB b2 ((i0, j) :: f) bk l j).sp.sum = b1.sp.sum - amtB b2 bk l j := by
            show (b2.sp.set l (b2.sp.getD l 0 - amtB b2 bk l j)).sum = _
            rw [sum_set _ lR, sp2]; omega
          refine ⟨_, ?_, A2, extB b2 ((i0, j) :: f) bk l j, _, wd R + 1, rfl, ex2.trans ex, h3, (fun b' x z => rel _ _ (.ext c1 sr ev ch z)), (fun b' sr' => by
            have W := (search_all h3.d sr').1
            have := nonN_le b'.ty
            rw [W.lt] at this
            omega), Nat.le_refl _⟩
          rw [sm]
          have t1 : (b1.sp.sum - amtB b2 bk l j).toNat + 1 ≤ b1.sp.sum.toNat := by omega
          have := Nat.mul_le_mul_right (wd R + 2) t1
          rw [Nat.add_mul] at this
          omega
        | none =>
          refine ifF rfl ?_
          walk_at "rd"
          rw [← ex2]
          refine ⟨A2.x, A2.dx, balF A2, rfl, h2.hx, rfl, ?_⟩
          walk_at "rd"
          refine ⟨G, A2, R, b2, rfl, h2, g, gl2, tl2, fun ge H3 s3 => ?_, fun ge H3 h3 _ => ?_⟩
          · refine ⟨_, rfl, ifT rfl ?_⟩
            walk_at "rd"
            exact k A2 b2 false H3 (rel _ _ (.stuck c1 sr ge)) (h2.same s3) (ex2.trans ex)
          · refine ⟨_, rfl, ifF rfl ?_⟩
            have lt := inv b2 sr
            refine ⟨_, ?_, A2, raiseB R b2, _, nonN b2.ty, rfl, ex2.trans ex, h3, (fun b' x z => rel _ _ (.raise c1 sr ge z)), (fun b' sr' => by
              obtain ⟨_, m2, j, jR, n, y⟩ := raise_more h2.d W2 ge sr'
              have W3 := (search_all h3.d sr').1
              exact nonN_lt (W2.lt.trans W3.lt.symm) m2 (by rw [W2.lt]; exact jR) n y), Nat.le_refl _⟩
            have e1 : (raiseB R b2).sp.sum = b1.sp.sum := by show b2.sp.sum = _; rw [sp2]
            rw [e1]
            omega
      · refine ifF (decide_eq_false c1) ?_
        walk_at "rd"
        exact k A1 b1 true H1 (rel _ _ (.done c1)) h1 ex
    · rintro σ H Q Q' hq ⟨v, e1, a, C1, dx, fs, v', e2, e3, e4, e5, e6, l, ns, e7, hs, x, y, e8, e9, c, e10, q⟩
      exact ⟨v, e1, a, C1, dx, fs, v', e2, e3, e4, e5, e6, l, ns, e7, hs, x, y, e8, e9, c, e10, hq _ _ q⟩
end
end Pk
set_option Elab.async false
set_option linter.all false
set_option maxRecDepth 100000
set_option maxHeartbeats 4000000
namespace Pk
open PySem L2
local macro_rules | `(tactic| walk_at "rd") => `(tactic| repeat (first
  | with_reducible refine r_seq ?_ | with_reducible refine r_nxt ?_ | with_reducible refine r_asg ?_ | with_reducible refine r_to ?_ | with_reducible refine r_ret ?_ | with_reducible refine r_for ?_ | with_reducible refine r_lc ?_ | with_reducible refine r_lc2 ?_ | with_reducible refine r_rng1 ?_ | with_reducible refine r_list ?_ | with_reducible refine r_tupI ?_ | with_reducible refine r_drop ?_ | with_reducible refine r_ifs ?_
  | with_reducible refine r_op ?_ | with_reducible refine r_c ?_ | with_reducible refine r_var rfl ?_ | with_reducible refine r_var (by assumption) ?_ | with_reducible refine r_I0 ?_ | with_reducible refine r_un ?_ | with_reducible refine r_U ?_ | with_reducible refine r_make ?_ | with_reducible refine r_makeS ?_ | with_reducible refine r_ifE ?_ | with_reducible refine r_cm ?_ | with_reducible refine r_mkV rfl ?_ | with_reducible refine r_sub ?_
  | with_reducible refine r_nil ?_ | with_reducible refine r_cons ?_ | with_reducible refine r_cb ?_ | with_reducible refine r_sl ?_ | with_reducible refine r_noP ?_ | with_reducible refine r_part ?_ | with_reducible refine r_isI ?_ | with_reducible refine r_lst ?_ | with_reducible refine r_tup ?_ | with_reducible refine r_call ?_ | with_reducible refine r_callS ?_ | with_reducible refine r_sFldU ?_ | with_reducible refine r_chain ?_ | with_reducible refine r_enum ?_ | with_reducible refine r_zip ?_ | with_reducible refine r_rng3 ?_ | with_reducible refine r_gtup ?_ | with_reducible refine r_methU ?_
  | with_reducible refine r_test ?_ | with_reducible refine r_B ?_ | with_reducible refine r_and ?_ | with_reducible refine r_or ?_ | with_reducible refine r_not ?_ | with_reducible refine r_andV ?_ | with_reducible refine r_orV ?_ | with_reducible refine r_notV ?_ | with_reducible refine r_bl ?_ | with_reducible refine r_yes ?_ | with_reducible refine r_int ?_ | with_reducible refine r_is0 ?_ | with_reducible refine r_is1 ?_ | with_reducible refine iteT ?_ | with_reducible refine iteF ?_ | with_reducible refine ite_nF ?_ | with_reducible refine ite_nT ?_
  | with_reducible refine r_mod (by decide) ?_ | with_reducible refine r_div (by decide) (by decide) ?_ | with_reducible refine r_mulR (by decide) (by decide) ?_ | with_reducible refine r_mulL (by decide) (by decide) ?_ | with_reducible refine r_pow (by decide) (by decide) (by decide) ?_))
/-! ### sums over ranges -/
def sm (n : Nat) (f : Nat → Int) : Int := ((List.range n).map f).sum
theorem sm_succ (n : Nat) (f : Nat → Int) : sm (n + 1) f = sm n f + f n := by
  unfold sm
  rw [List.range_succ, List.map_append, List.sum_append]
  simp
theorem sm_congr {n : Nat} {f g : Nat → Int} (h : ∀ i, i < n → f i = g i) : sm n f = sm n g := by
  induction n with
  | zero => rfl
  | succ n ih => rw [sm_succ, sm_succ, ih fun i hi => h i (by omega), h n (by omega)]
theorem sm_add (n : Nat) (f g : Nat → Int) : sm n (fun i => f i + g i) = sm n f + sm n g := by
  induction n with
  | zero => rfl
  | succ n ih => rw [sm_succ, sm_succ, sm_succ, ih]; omega
theorem sm_zero (n : Nat) : sm n (fun _ => 0) = 0 := by
  induction n with
  | zero => rfl
  | succ n ih => rw [sm_succ, ih]; rfl
theorem sm_ite {n i : Nat} (h : i < n) (d : Int) : sm n (fun k => if k = i then d else 0) = d := by
  induction n with
  | zero => omega
  | succ n ih =>
    rw [sm_succ]
    by_cases e : i = n
    · subst e
      rw [sm_congr (g := fun _ => 0) fun k hk => if_neg (by omega), sm_zero, if_pos rfl]; omega
    · rw [ih (by omega), if_neg (fun z => e z.symm)]; omega
theorem sm_le {n : Nat} {f g : Nat → Int} (h : ∀ i, i < n → f i ≤ g i) : sm n f ≤ sm n g := by
  induction n with
  | zero => exact Int.le_refl _
  | succ n ih =>
    have a := ih fun i hi => h i (by omega)
    have b := h n (by omega)
    rw [sm_succ, sm_succ]; omega
theorem sm_ge {n i : Nat} {f : Nat → Int} (h : ∀ i, i < n → 0 ≤ f i) (hi : i < n) : f i ≤ sm n f := by
  have := sm_le (n := n) (f := fun k => if k = i then f i else 0) (g := f) fun k hk => by
    show (if k = i then f i else 0) ≤ f k
    split
    · rename_i e; rw [e]; exact Int.le_refl _
    · exact h k hk
  rw [sm_ite hi] at this
  exact this
theorem sm_nn {n : Nat} {f : Nat → Int} (h : ∀ i, i < n → 0 ≤ f i) : 0 ≤ sm n f := by
  have := sm_le (n := n) (f := fun _ => 0) (g := f) h
  rw [sm_zero] at this
  exact this
theorem sm_other {n i : Nat} {f : Nat → Int} (hi : i < n) (h : f i < sm n f) : ∃ k, k < n ∧ k ≠ i ∧ 0 < f k := by
  apply Classical.byContradiction
  intro no
  have := sm_le (n := n) (f := f) (g := fun k => if k = i then f i else 0) fun k hk => by
    show f k ≤ (if k = i then f i else 0)
    split
    · rename_i e; rw [e]; exact Int.le_refl _
    · rename_i e
      by_cases c : 0 < f k
      · exact absurd ⟨k, hk, e, c⟩ no
      · omega
  rw [sm_ite hi] at this
  omega
theorem sm_swap (n m : Nat) (f : Nat → Nat → Int) : sm n (fun i => sm m fun j => f i j) = sm m (fun j => sm n fun i => f i j) := by
  induction n with
  | zero =>
    show 0 = sm m (fun _ => 0)
    rw [sm_zero]
  | succ n ih =>
    rw [sm_succ, ih, ← sm_add]
    exact sm_congr fun j _ => (sm_succ n fun i => f i j).symm
/-! ### full servings as arrays -/
def bump (x : Nat → Nat → Int) (i j : Nat) (d : Int) : Nat → Nat → Int := fun r s => x r s + (if r = i then (if s = j then d else 0) else 0)
def rsA (w : Nat) (x : Nat → Nat → Int) (r : Nat) : Int := sm w fun s => x r s
def csA (h : Nat) (x : Nat → Nat → Int) (s : Nat) : Int := sm h fun r => x r s
def ctA (h w : Nat) (c x : Nat → Nat → Int) : Int := sm h fun r => sm w fun s => c r s * x r s
theorem rs_bump {w i j : Nat} {x : Nat → Nat → Int} {d : Int} (hj : j < w) (r : Nat) : rsA w (bump x i j d) r = rsA w x r + (if r = i then d else 0) := by
  unfold rsA bump
  rw [sm_add]
  congr 1
  by_cases e : r = i
  · rw [if_pos e]
    rw [sm_congr (g := fun s => if s = j then d else 0) fun s _ => if_pos e]
    exact sm_ite hj d
  · rw [if_neg e]
    rw [sm_congr (g := fun _ => 0) fun s _ => if_neg e]
    exact sm_zero w
theorem cs_bump {h i j : Nat} {x : Nat → Nat → Int} {d : Int} (hi : i < h) (s : Nat) : csA h (bump x i j d) s = csA h x s + (if s = j then d else 0) := by
  unfold csA bump
  rw [sm_add]
  congr 1
  exact sm_ite hi (if s = j then d else 0)
theorem ct_bump {h w i j : Nat} {c x : Nat → Nat → Int} {d : Int} (hi : i < h) (hj : j < w) : ctA h w c (bump x i j d) = ctA h w c x + c i j * d := by
  unfold ctA
  have e : ∀ r, r < h → (sm w fun s => c r s * bump x i j d r s) = (sm w fun s => c r s * x r s) + (if r = i then c i j * d else 0) := fun r _ => by
    rw [show (fun s => c r s * bump x i j d r s) = fun s => c r s * x r s + (if r = i then (if s = j then c i j * d else 0) else 0) from funext fun s => by
      unfold bump
      rw [Int.mul_add]
      congr 1
      by_cases e1 : r = i
      · rw [if_pos e1, if_pos e1]
        by_cases e2 : s = j
        · rw [if_pos e2, if_pos e2, e1, e2]
        · rw [if_neg e2, if_neg e2, Int.mul_zero]
      · rw [if_neg e1, if_neg e1, Int.mul_zero]]
    rw [sm_add]
    congr 1
    by_cases e : r = i
    · rw [if_pos e]
      rw [sm_congr (g := fun s => if s = j then c i j * d else 0) fun s _ => if_pos e]
      exact sm_ite hj _
    · rw [if_neg e]
      rw [sm_congr (g := fun _ => 0) fun s _ => if_neg e]
      exact sm_zero w
  rw [sm_congr e, sm_add]
  congr 1
  exact sm_ite hi _
/-! ### what the balance keeps -/
theorem leastF_le {l : List Int} {x : Int} (h : x ∈ l) : leastF l ≤ x := by
  have key : ∀ (ns : List Int) (m : Int), ns.foldl (fun m k => if k < m then k else m) m ≤ m ∧ ∀ k, k ∈ ns → ns.foldl (fun m k => if k < m then k else m) m ≤ k := fun ns => by
    induction ns with
    | nil => intro m; exact ⟨Int.le_refl _, fun k hk => by cases hk⟩
    | cons n ns ih =>
      intro m
      rw [List.foldl_cons]
      obtain ⟨h1, h2⟩ := ih (if n < m then n else m)
      have q1 : (if n < m then n else m) ≤ m := by split <;> omega
      have q2 : (if n < m then n else m) ≤ n := by split <;> omega
      refine ⟨by omega, fun k hk => ?_⟩
      rcases List.mem_cons.mp hk with rfl | hk
      · omega
      · exact h2 k hk
  cases l with
  | nil => cases h
  | cons n ns =>
    show ns.foldl (fun m k => if k < m then k else m) n ≤ x
    rcases List.mem_cons.mp h with rfl | h
    · exact (key ns x).1
    · exact (key ns n).2 x h
def bumps (a : Int) (zs : List (Nat × Nat)) (x : Nat → Nat → Int) : Nat → Nat → Int := zs.foldl (fun x z => bump x z.1 z.2 a) x
def hitR (a : Int) (zs : List (Nat × Nat)) (r : Nat) : Int := (zs.map fun z => if r = z.1 then a else 0).sum
def hitC (a : Int) (zs : List (Nat × Nat)) (s : Nat) : Int := (zs.map fun z => if s = z.2 then a else 0).sum
theorem bumps_rs {w : Nat} (a : Int) (r : Nat) : ∀ (zs : List (Nat × Nat)) (x : Nat → Nat → Int), (∀ z, z ∈ zs → z.2 < w) → rsA w (bumps a zs x) r = rsA w x r + hitR a zs r
  | [], x, _ => by show rsA w x r = rsA w x r + 0; omega
  | z :: zs, x, h => by
    show rsA w (bumps a zs (bump x z.1 z.2 a)) r = _
    rw [bumps_rs a r zs _ fun y hy => h y (List.mem_cons_of_mem _ hy), rs_bump (h z (List.mem_cons_self ..))]
    show _ = _ + ((if r = z.1 then a else 0) :: zs.map _).sum
    rw [List.sum_cons]
    unfold hitR
    omega
theorem bumps_cs {n : Nat} (a : Int) (s : Nat) : ∀ (zs : List (Nat × Nat)) (x : Nat → Nat → Int), (∀ z, z ∈ zs → z.1 < n) → csA n (bumps a zs x) s = csA n x s + hitC a zs s
  | [], x, _ => by show csA n x s = csA n x s + 0; omega
  | z :: zs, x, h => by
    show csA n (bumps a zs (bump x z.1 z.2 a)) s = _
    rw [bumps_cs a s zs _ fun y hy => h y (List.mem_cons_of_mem _ hy), cs_bump (h z (List.mem_cons_self ..))]
    show _ = _ + ((if s = z.2 then a else 0) :: zs.map _).sum
    rw [List.sum_cons]
    unfold hitC
    omega
theorem bump_at0 (x : Nat → Nat → Int) (a : Int) (z : Nat × Nat) (r s : Nat) : bump x z.1 z.2 a r s = x r s + if (r, s) = z then a else 0 := by
  unfold bump
  by_cases c1 : r = z.1
  · by_cases c2 : s = z.2
    · rw [if_pos c1, if_pos c2, if_pos (Prod.ext c1 c2)]
    · rw [if_pos c1, if_neg c2, if_neg (fun e => c2 (by rw [← e]))]
  · rw [if_neg c1, if_neg (fun e => c1 (by rw [← e]))]
theorem bumps_ge {a : Int} (ha : 0 ≤ a) (r s : Nat) : ∀ (zs : List (Nat × Nat)) (x : Nat → Nat → Int), x r s ≤ bumps a zs x r s
  | [], x => Int.le_refl _
  | z :: zs, x => by
    have := bumps_ge ha r s zs (bump x z.1 z.2 a)
    rw [bump_at0] at this
    show _ ≤ bumps a zs (bump x z.1 z.2 a) r s
    split at this <;> omega
theorem bumps_off (a : Int) (r s : Nat) : ∀ (zs : List (Nat × Nat)) (x : Nat → Nat → Int), (r, s) ∉ zs → bumps a zs x r s = x r s
  | [], x, _ => rfl
  | z :: zs, x, h => by
    show bumps a zs (bump x z.1 z.2 a) r s = _
    rw [bumps_off a r s zs _ fun m => h (List.mem_cons_of_mem _ m), bump_at0, if_neg (fun e => h (by rw [e]; exact List.mem_cons_self ..)), Int.add_zero]
theorem bumps_one (a : Int) (r s : Nat) : ∀ (zs : List (Nat × Nat)) (x : Nat → Nat → Int), zs.Nodup → (r, s) ∈ zs → bumps a zs x r s = x r s + a
  | [], x, _, h => by cases h
  | z :: zs, x, nd, h => by
    obtain ⟨n1, n2⟩ := List.nodup_cons.mp nd
    show bumps a zs (bump x z.1 z.2 a) r s = _
    by_cases c : (r, s) = z
    · rw [bumps_off a r s zs _ (by rw [c]; exact n1), bump_at0, if_pos c]
    · rcases List.mem_cons.mp h with h | h
      · exact absurd h c
      · rw [bumps_one a r s zs _ n2 h, bump_at0, if_neg c, Int.add_zero]
theorem hit_neg (a : Int) (r : Nat) : ∀ zs : List (Nat × Nat), hitR (-a) zs r = -hitR a zs r
  | [] => rfl
  | z :: zs => by
    have ih := hit_neg a r zs
    unfold hitR at ih ⊢
    rw [List.map_cons, List.map_cons, List.sum_cons, List.sum_cons, ih]
    split <;> omega
theorem hitc_neg (a : Int) (r : Nat) : ∀ zs : List (Nat × Nat), hitC (-a) zs r = -hitC a zs r
  | [] => rfl
  | z :: zs => by
    have ih := hitc_neg a r zs
    unfold hitC at ih ⊢
    rw [List.map_cons, List.map_cons, List.sum_cons, List.sum_cons, ih]
    split <;> omega
theorem hitR_cons (a : Int) (r : Nat) (z : Nat × Nat) (zs : List (Nat × Nat)) : hitR a (z :: zs) r = (if r = z.1 then a else 0) + hitR a zs r := by
  unfold hitR; rw [List.map_cons, List.sum_cons]
theorem hitC_cons (a : Int) (r : Nat) (z : Nat × Nat) (zs : List (Nat × Nat)) : hitC a (z :: zs) r = (if r = z.2 then a else 0) + hitC a zs r := by
  unfold hitC; rw [List.map_cons, List.sum_cons]
/-- along a path, what a line is given more it is given less, but at both ends -/
theorem Chn.hits {gy ty : List (Option Int)} {i l : Nat} {f bk : List (Nat × Nat)} (c : Chn gy ty i f bk l) (a : Int) (r : Nat) : hitR a f r + (if r = i then a else 0) = hitR a bk r + (if r = l then a else 0) ∧ hitC a f r = hitC a bk r := by
  induction c with
  | stop e => exact ⟨rfl, rfl⟩
  | @next i j k l f bk e q _ ih =>
    rw [hitR_cons, hitR_cons, hitC_cons, hitC_cons]
    obtain ⟨h1, h2⟩ := ih
    refine ⟨?_, by dsimp only; omega⟩
    dsimp only
    omega
theorem bumpB_d {R : Rw} {b : Bal} (d : BalD R b) (a : Int) {z : Nat × Nat} (h1 : z.1 < R.length) (h2 : z.2 < wd R) : BalD R (bumpB a b z) ∧ ∀ i j, sentB (bumpB a b z) i j = bump (sentB b) z.1 z.2 a i j := by
  have hS : z.1 < b.S.length := by rw [d.l3]; exact h1
  have rl : (b.S.getD z.1 []).length = wd R := by
    rw [List.getD_eq_getElem?_getD, List.getElem?_eq_getElem hS]
    exact d.l6 _ (List.getElem_mem hS)
  refine ⟨⟨d.l1, d.l2, (List.length_set ..).trans d.l3, d.l4, d.l5, fun r hr => ?_⟩, fun i j => ?_⟩
  · rcases List.mem_or_eq_of_mem_set hr with h | rfl
    · exact d.l6 r h
    · rw [List.length_set]; exact rl
  · show ((b.S.set z.1 ((b.S.getD z.1 []).set z.2 (sentB b z.1 z.2 + a))).getD i []).getD j 0 = _
    rw [bump_at0]
    by_cases c : i = z.1
    · subst c
      rw [List.getD_eq_getElem?_getD (l := b.S.set z.1 _), List.getElem?_set_self hS]
      show ((b.S.getD z.1 []).set z.2 (sentB b z.1 z.2 + a)).getD j 0 = _
      by_cases q : j = z.2
      · subst q
        rw [if_pos rfl, List.getD_eq_getElem?_getD, List.getElem?_set_self (by rw [rl]; exact h2)]; rfl
      · rw [if_neg (fun e => q (by rw [← e])), List.getD_eq_getElem?_getD, List.getElem?_set_ne (Ne.symm q), Int.add_zero, ← List.getD_eq_getElem?_getD]; rfl
    · rw [if_neg (fun e => c (by rw [← e])), List.getD_eq_getElem?_getD (l := b.S.set z.1 _), List.getElem?_set_ne (Ne.symm c), Int.add_zero, ← List.getD_eq_getElem?_getD]; rfl
theorem bumpsB {R : Rw} (a : Int) : ∀ (zs : List (Nat × Nat)) (b : Bal), BalD R b → (∀ z, z ∈ zs → z.1 < R.length ∧ z.2 < wd R) → BalD R (zs.foldl (bumpB a) b) ∧ (∀ i j, sentB (zs.foldl (bumpB a) b) i j = bumps a zs (sentB b) i j) ∧ zs.foldl (bumpB a) b = { b with S := (zs.foldl (bumpB a) b).S }
  | [], b, d, _ => ⟨d, fun _ _ => rfl, rfl⟩
  | z :: zs, b, d, h => by
    obtain ⟨d1, e1⟩ := bumpB_d d a (h z (List.mem_cons_self ..)).1 (h z (List.mem_cons_self ..)).2
    obtain ⟨d2, e2, e3⟩ := bumpsB a zs (bumpB a b z) d1 fun y hy => h y (List.mem_cons_of_mem _ hy)
    refine ⟨d2, fun i j => ?_, e3.trans rfl⟩
    rw [List.foldl_cons, e2]
    show bumps a zs (sentB (bumpB a b z)) i j = bumps a zs (bump (sentB b) z.1 z.2 a) i j
    rw [show sentB (bumpB a b z) = bump (sentB b) z.1 z.2 a from funext fun i => funext fun j => e1 i j]
structure InvB (R : Rw) (gs ts : List Int) (b : Bal) : Prop where
  d : BalD R b
  sp0 : ∀ i, 0 ≤ b.sp.getD i 0
  la0 : ∀ j, 0 ≤ b.la.getD j 0
  nn : ∀ i j, 0 ≤ sentB b i j
  on : ∀ i j, 0 < sentB b i j → i < R.length ∧ j < wd R ∧ (prc R i j).isSome = true ∧ gapB R b i j = 0
  gap : ∀ i j, i < R.length → j < wd R → (prc R i j).isSome = true → 0 ≤ gapB R b i j
  tw0 : ∀ j, b.tw.getD j 0 ≤ 0
  tw1 : ∀ j, 0 < b.la.getD j 0 → b.tw.getD j 0 = 0
  row : ∀ i, i < R.length → rsA (wd R) (sentB b) i + b.sp.getD i 0 = gs.getD i 0
  col : ∀ j, j < wd R → csA R.length (sentB b) j + b.la.getD j 0 = ts.getD j 0
theorem InvB.sameL {R : Rw} {gs ts : List Int} {b b' : Bal} (I : InvB R gs ts b) (S : SameL (bal0 b) b') : InvB R gs ts b' := by
  obtain ⟨e1, e2, e3, e4, e5⟩ := S
  have e1 : b'.sp = b.sp := e1
  have e2 : b'.la = b.la := e2
  have e3 : b'.S = b.S := e3
  have e4 : b'.gw = b.gw := e4
  have e5 : b'.tw = b.tw := e5
  have eg : ∀ i j, gapB R b' i j = gapB R b i j := fun i j => by unfold gapB; rw [e4, e5]
  have es : sentB b' = sentB b := funext fun i => funext fun j => by unfold sentB; rw [e3]
  refine ⟨⟨by rw [e1]; exact I.d.l1, by rw [e2]; exact I.d.l2, by rw [e3]; exact I.d.l3, by rw [e4]; exact I.d.l4, by rw [e5]; exact I.d.l5, by rw [e3]; exact I.d.l6⟩, by rw [e1]; exact I.sp0, by rw [e2]; exact I.la0, by rw [es]; exact I.nn, fun i j h => ?_, fun i j h1 h2 h3 => ?_, by rw [e5]; exact I.tw0, by rw [e5, e2]; exact I.tw1, by rw [es, e1]; exact I.row, by rw [es, e2]; exact I.col⟩
  · rw [eg]; rw [es] at h; exact I.on i j h
  · rw [eg]; exact I.gap i j h1 h2 h3
theorem getD_set0 {a : List Int} {i : Nat} {v : Int} (h : i < a.length) (k : Nat) : (a.set i v).getD k 0 = if k = i then v else a.getD k 0 := by
  rw [List.getD_eq_getElem?_getD, List.getD_eq_getElem?_getD]
  by_cases c : i = k
  · subst c
    rw [if_pos rfl, List.getElem?_set_self h]; rfl
  · rw [if_neg (Ne.symm c), List.getElem?_set_ne c]
theorem inv_ext {R : Rw} {gs ts : List Int} {b : Bal} (I : InvB R gs ts b) (W : WaysB R b) {e i0 l : Nat} {f bk : List (Nat × Nat)} (eR : e < wd R) (et : b.ty.getD e none = some (i0 : Int)) (c : Chn b.gy b.ty i0 f bk l) (he : 0 < b.la.getD e 0) : InvB R gs ts (extB b ((i0, e) :: f) bk l e) := by
  obtain ⟨i0', ei, i0R, i0p, i0g, _⟩ := W.fore e _ et
  obtain rfl : i0 = i0' := Int.ofNat.inj ei
  obtain ⟨f1, f2, f3⟩ := c.facts W
  have apos := amt_pos W c he
  obtain ⟨a, ea⟩ : ∃ a, a = amtB b bk l e := ⟨_, rfl⟩
  have asp : a ≤ b.sp.getD l 0 := by rw [ea]; exact leastF_le (List.mem_append_left _ (List.mem_cons_self ..))
  have ala : a ≤ b.la.getD e 0 := by rw [ea]; exact leastF_le (List.mem_append_left _ (List.mem_cons_of_mem _ (List.mem_cons_self ..)))
  have abk : ∀ z, z ∈ bk → a ≤ sentB b z.1 z.2 := fun z hz => by rw [ea]; exact leastF_le (List.mem_append_right _ (List.mem_map.mpr ⟨z, hz, rfl⟩))
  have lR : l < R.length := by
    apply Classical.byContradiction
    intro n
    rw [List.getD_eq_getElem?_getD, List.getElem?_eq_none (by rw [I.d.l1]; omega)] at f3
    simp at f3
  rw [← ea] at apos
  have fr : ∀ z, z ∈ (i0, e) :: f → z.1 < R.length ∧ z.2 < wd R ∧ (prc R z.1 z.2).isSome = true ∧ gapB R b z.1 z.2 = 0 := fun z hz => by
    rcases List.mem_cons.mp hz with rfl | hz
    · exact ⟨i0R, eR, i0p, i0g⟩
    · exact f2 z hz
  obtain ⟨d1, s1, q1⟩ := bumpsB (R := R) a ((i0, e) :: f) b I.d fun z hz => ⟨(fr z hz).1, (fr z hz).2.1⟩
  obtain ⟨b1, eb1⟩ : ∃ b1, b1 = ((i0, e) :: f).foldl (bumpB a) b := ⟨_, rfl⟩
  rw [← eb1] at d1 s1 q1
  obtain ⟨d2, s2, q2⟩ := bumpsB (R := R) (-a) bk b1 d1 fun z hz => ⟨(f1 z hz).1, (f1 z hz).2.1⟩
  obtain ⟨b2, eb2⟩ : ∃ b2, b2 = bk.foldl (bumpB (-a)) b1 := ⟨_, rfl⟩
  rw [← eb2] at d2 s2 q2
  have es1 : sentB b1 = bumps a ((i0, e) :: f) (sentB b) := funext fun i => funext fun j => s1 i j
  have es2 : sentB b2 = bumps (-a) bk (bumps a ((i0, e) :: f) (sentB b)) := by rw [← es1]; exact funext fun i => funext fun j => s2 i j
  have eX : extB b ((i0, e) :: f) bk l e = { b2 with sp := b.sp.set l (b.sp.getD l 0 - a), la := b.la.set e (b.la.getD e 0 - a) } := by
    unfold extB
    rw [← ea, ← eb1, ← eb2]
  have gw2 : b2.gw = b.gw := by rw [q2]; show b1.gw = _; rw [q1]
  have tw2 : b2.tw = b.tw := by rw [q2]; show b1.tw = _; rw [q1]
  rw [eX]
  have eg : ∀ i j, gapB R { b2 with sp := b.sp.set l (b.sp.getD l 0 - a), la := b.la.set e (b.la.getD e 0 - a) } i j = gapB R b i j := fun i j => by
    unfold gapB
    dsimp only
    rw [gw2, tw2]
  have esX : sentB { b2 with sp := b.sp.set l (b.sp.getD l 0 - a), la := b.la.set e (b.la.getD e 0 - a) } = sentB b2 := rfl
  have ll : l < b.sp.length := by rw [I.d.l1]; exact lR
  have el : e < b.la.length := by rw [I.d.l2]; exact eR
  have bnd : bk.Nodup := (List.pairwise_map.mp c.once.1).imp fun h z => h (by rw [z])
  have low : ∀ i j, (i, j) ∉ bk → sentB b2 i j = bumps a ((i0, e) :: f) (sentB b) i j := fun i j n => by rw [es2, bumps_off _ _ _ _ _ n]
  have lowb : ∀ i j, (i, j) ∈ bk → sentB b2 i j = bumps a ((i0, e) :: f) (sentB b) i j - a := fun i j n => by rw [es2, bumps_one _ _ _ _ _ bnd n]; omega
  have ge : ∀ i j, sentB b i j ≤ bumps a ((i0, e) :: f) (sentB b) i j := fun i j => bumps_ge (by omega) i j _ _
  refine ⟨⟨by show (b.sp.set l _).length = _; rw [List.length_set]; exact I.d.l1, by show (b.la.set e _).length = _; rw [List.length_set]; exact I.d.l2, d2.l3, d2.l4, d2.l5, d2.l6⟩, fun i => ?_, fun j => ?_, fun i j => ?_, fun i j h => ?_, fun i j h1 h2 h3 => ?_, fun j => ?_, fun j h => ?_, fun i hi => ?_, fun j hj => ?_⟩
  · show 0 ≤ (b.sp.set l (b.sp.getD l 0 - a)).getD i 0
    rw [getD_set0 ll]
    have := I.sp0 i
    split <;> omega
  · show 0 ≤ (b.la.set e (b.la.getD e 0 - a)).getD j 0
    rw [getD_set0 el]
    have := I.la0 j
    split <;> omega
  · rw [esX]
    have g0 := ge i j
    have n0 := I.nn i j
    by_cases m : (i, j) ∈ bk
    · have := abk _ m
      dsimp only at this
      rw [lowb i j m]; omega
    · rw [low i j m]; omega
  · rw [esX] at h
    rw [eg]
    have h' : 0 < bumps a ((i0, e) :: f) (sentB b) i j := by
      by_cases m : (i, j) ∈ bk
      · rw [lowb i j m] at h; omega
      · rw [low i j m] at h; exact h
    by_cases m : (i, j) ∈ (i0, e) :: f
    · exact fr (i, j) m
    · rw [bumps_off _ _ _ _ _ m] at h'
      exact I.on i j h'
  · rw [eg]; exact I.gap i j h1 h2 h3
  · show b2.tw.getD j 0 ≤ 0
    rw [tw2]; exact I.tw0 j
  · have h : 0 < (b.la.set e (b.la.getD e 0 - a)).getD j 0 := h
    show b2.tw.getD j 0 = 0
    rw [tw2]
    rw [getD_set0 el] at h
    refine I.tw1 j ?_
    split at h
    · rename_i z; rw [z]; exact he
    · exact h
  · rw [esX]
    show _ + (b.sp.set l (b.sp.getD l 0 - a)).getD i 0 = _
    rw [es2, bumps_rs _ _ _ _ fun z hz => (f1 z hz).2.1, bumps_rs _ _ _ _ fun z hz => (fr z hz).2.1, hit_neg, hitR_cons, getD_set0 ll]
    have := (c.hits a i).1
    have r0 := I.row i hi
    dsimp only
    by_cases z : i = l
    · rw [if_pos z] at this ⊢
      rw [← z]
      omega
    · rw [if_neg z] at this ⊢; omega
  · rw [esX]
    show _ + (b.la.set e (b.la.getD e 0 - a)).getD j 0 = _
    rw [es2, bumps_cs _ _ _ _ fun z hz => (f1 z hz).1, bumps_cs _ _ _ _ fun z hz => (fr z hz).1, hitc_neg, hitC_cons, getD_set0 el]
    have := (c.hits a j).2
    have r0 := I.col j hj
    dsimp only
    by_cases z : j = e
    · rw [if_pos z, if_pos z]
      rw [← z]
      omega
    · rw [if_neg z, if_neg z]; omega
theorem inv_raise {R : Rw} {gs ts : List Int} {b : Bal} (I : InvB R gs ts b) (W : WaysB R b) (cl : Clo R b []) (ne : gapsL R b ≠ []) : InvB R gs ts (raiseB R b) := by
  have addl : ∀ (st : Int) (l : List Nat) (a : List Int), (l.foldl (addG st) a).length = a.length := fun st l => by
    induction l with
    | nil => intro a; rfl
    | cons i l ih => intro a; rw [List.foldl_cons, ih]; exact List.length_set
  have rg := raise_gap I.d W.lg W.lt
  have gi : ∀ {i : Nat}, i ∈ reachedF b.gy → i < R.length := fun {i} h => by have := reached_lt _ i h; rw [W.lg] at this; exact this
  have ti : ∀ {j : Nat}, j ∈ reachedF b.ty → j < wd R := fun {j} h => by have := reached_lt _ j h; rw [W.lt] at this; exact this
  have mem : ∀ i j, i ∈ reachedF b.gy → j < wd R → (prc R i j).isSome = true → j ∉ reachedF b.ty → gapB R b i j ∈ gapsL R b := fun i j hi hj hp hn => by
    refine List.mem_flatMap.mpr ⟨i, hi, ?_⟩
    unfold gapsRow
    refine List.mem_map.mpr ⟨j, List.mem_filter.mpr ⟨List.mem_range.mpr hj, ?_⟩, rfl⟩
    rw [hp, decide_eq_false hn]; rfl
  have st0 : 0 ≤ leastF (gapsL R b) := by
    obtain ⟨i, j, hi, hj, p, nj, e⟩ := gapsL_mem (leastF_mem ne)
    rw [e]
    exact I.gap i j (gi hi) hj p
  have twv : ∀ j, (raiseB R b).tw.getD j 0 = b.tw.getD j 0 + if j ∈ reachedF b.ty then -(leastF (gapsL R b)) else 0 := fun j =>
    addG_at _ _ _ (reached_nd _) (fun j hj => by have := reached_lt _ j hj; rw [I.d.l5]; rw [W.lt] at this; exact this) j
  have both : ∀ i j, 0 < sentB b i j → (i ∈ reachedF b.gy ↔ j ∈ reachedF b.ty) := fun i j h => by
    obtain ⟨h1, h2, h3, h4⟩ := I.on i j h
    exact ⟨fun q => reached_mem.mpr (cl.g i (reached_mem.mp q) List.not_mem_nil j h2 h3 h4), fun q => reached_mem.mpr ((cl.t j (reached_mem.mp q)).2 i h1 h)⟩
  have d2 : BalD R (raiseB R b) := ⟨I.d.l1, I.d.l2, I.d.l3, (addl _ _ _).trans I.d.l4, (addl _ _ _).trans I.d.l5, I.d.l6⟩
  refine ⟨d2, I.sp0, I.la0, I.nn, fun i j h => ?_, fun i j h1 h2 h3 => ?_, fun j => ?_, fun j h => ?_, I.row, I.col⟩
  · obtain ⟨h1, h2, h3, h4⟩ := I.on i j h
    refine ⟨h1, h2, h3, ?_⟩
    rw [rg, h4]
    have := both i j h
    by_cases c : i ∈ reachedF b.gy
    · rw [if_pos c, if_pos (this.mp c)]; omega
    · rw [if_neg c, if_neg (fun z => c (this.mpr z))]; omega
  · rw [rg]
    have g0 := I.gap i j h1 h2 h3
    by_cases c : i ∈ reachedF b.gy
    · by_cases q : j ∈ reachedF b.ty
      · rw [if_pos c, if_pos q]; omega
      · rw [if_pos c, if_neg q]
        have := leastF_le (mem i j c h2 h3 q)
        omega
    · rw [if_neg c]
      split <;> omega
  · rw [twv]
    have := I.tw0 j
    split <;> omega
  · have h : 0 < b.la.getD j 0 := h
    rw [twv, if_neg (fun z => by have := (cl.t j (reached_mem.mp z)).1; omega), Int.add_zero]
    exact I.tw1 j h
/-- what is left behind a settling -/
structure StuckB (R : Rw) (b : Bal) : Prop where
  cl : Clo R b []
  w : WaysB R b
  ne : gapsL R b = []
  pos : 0 < b.sp.sum
  spg : ∀ i, 0 < b.sp.getD i 0 → (b.gy.getD i none).isSome = true
theorem settle_inv {R : Rw} {gs ts : List Int} {b b' : Bal} {x : Bool} (h : SettleR R b b' x) : InvB R gs ts b → InvB R gs ts b' ∧ (x = true → b'.sp.sum ≤ 0) ∧ (x = false → StuckB R b') := by
  induction h with
  | done h => intro I; exact ⟨I, (fun _ => by omega), fun e => by cases e⟩
  | @ext b b' r x e i0 l f bk p s t c n ih =>
    intro I
    obtain ⟨W2, S2, hit, clo⟩ := search_all I.d s
    obtain ⟨h1, h2, h3⟩ := hit e rfl
    exact ih (inv_ext (I.sameL S2) W2 h1 t c h3)
  | @raise b b' r x p s ne n ih =>
    intro I
    obtain ⟨W2, S2, hit, clo⟩ := search_all I.d s
    exact ih (inv_raise (I.sameL S2) W2 (clo rfl) ne)
  | @stuck b b' p s e =>
    intro I
    obtain ⟨W2, S2, hit, clo⟩ := search_all I.d s
    refine ⟨I.sameL S2, (fun z => by cases z), fun _ => ⟨clo rfl, W2, e, by rw [show b'.sp = b.sp from S2.sp]; exact p, fun i hi => ?_⟩⟩
    have x1 := (search_ext s (ways_start I.d).lg (ways_start I.d).lt).1
    refine ext_some x1 ?_
    show ((gy0 b).getD i none).isSome = true
    rw [gy0_at, if_pos (by rw [show b.sp = b'.sp from (S2.sp).symm]; exact hi)]; rfl
/-- the first state -/
def startB (R : Rw) (gs ts : List Int) : Bal := ⟨gs, ts, gs.map fun _ => ts.map fun _ => 0, R.map leastP, ts.map fun _ => 0, [], []⟩
theorem start_sent (R : Rw) (gs ts : List Int) (i j : Nat) : sentB (startB R gs ts) i j = 0 := by
  show (((gs.map fun _ => ts.map fun _ => (0 : Int)).getD i []).getD j 0) = 0
  rw [List.getD_eq_getElem?_getD (l := gs.map _), List.getElem?_map]
  cases gs[i]? with
  | none => simp
  | some v =>
    show (ts.map fun _ => (0 : Int)).getD j 0 = 0
    rw [List.getD_eq_getElem?_getD, List.getElem?_map]
    cases ts[j]? <;> rfl
theorem tw_zero (ts : List Int) (j : Nat) : (ts.map fun _ => (0 : Int)).getD j 0 = 0 := by
  rw [List.getD_eq_getElem?_getD, List.getElem?_map]
  cases ts[j]? <;> rfl
theorem start_d {R : Rw} {gs ts : List Int} (l1 : gs.length = R.length) (l2 : ts.length = wd R) : BalD R (startB R gs ts) := by
  refine ⟨l1, l2, ?_, ?_, ?_, fun r hr => ?_⟩
  · show (gs.map _).length = _
    rw [List.length_map]; exact l1
  · show (R.map leastP).length = _
    rw [List.length_map]
  · show (ts.map _).length = _
    rw [List.length_map]; exact l2
  · obtain ⟨_, _, rfl⟩ := List.mem_map.mp hr
    rw [List.length_map]; exact l2
theorem start_inv {R : Rw} (g : Gt R) {gs ts : List Int} (l1 : gs.length = R.length) (l2 : ts.length = wd R) (n1 : ∀ m, m ∈ gs → 0 ≤ m) (n2 : ∀ m, m ∈ ts → 0 ≤ m) : InvB R gs ts (startB R gs ts) := by
  have nn : ∀ {ms : List Int}, (∀ m, m ∈ ms → 0 ≤ m) → ∀ k, 0 ≤ ms.getD k 0 := fun {ms} h k => by
    rw [List.getD_eq_getElem?_getD]
    cases e : ms[k]? with
    | none => exact Int.le_refl _
    | some m => exact h m (List.mem_of_getElem? e)
  have s0 := start_sent R gs ts
  have s1 : sentB (startB R gs ts) = fun _ _ => 0 := funext fun i => funext fun j => s0 i j
  have tz := tw_zero ts
  refine ⟨start_d l1 l2, nn n1, nn n2, fun i j => by rw [s0]; exact Int.le_refl _, fun i j h => by rw [s0] at h; omega, fun i j hi hj hp => ?_, fun j => ?_, fun j _ => tz j, fun i _ => ?_, fun j _ => ?_⟩
  · unfold gapB
    rw [show (startB R gs ts).tw.getD j 0 = 0 from tz j]
    show 0 ≤ (prc R i j).getD 0 - (R.map leastP).getD i 0 - 0
    have e : (R.map leastP).getD i 0 = leastP (R.getD i []) := by
      rw [List.getD_eq_getElem?_getD, List.getElem?_map, List.getD_eq_getElem?_getD, List.getElem?_eq_getElem hi]; rfl
    obtain ⟨p, ep⟩ := Option.isSome_iff_exists.mp hp
    have m : p ∈ pricesL (R.getD i []) := by
      refine List.mem_filterMap.mpr ⟨some p, ?_, rfl⟩
      have ep : (R.getD i []).getD j none = some p := ep
      rw [List.getD_eq_getElem?_getD] at ep
      cases q : (R.getD i [])[j]? with
      | none => rw [q] at ep; cases ep
      | some y =>
        rw [q] at ep
        have ep : y = some p := ep
        rw [ep] at q
        exact List.mem_of_getElem? q
    have := leastF_le m
    rw [e, ep]
    show 0 ≤ p - leastF (pricesL (R.getD i [])) - 0
    omega
  · rw [show (startB R gs ts).tw.getD j 0 = 0 from tz j]; exact Int.le_refl _
  · rw [s1]
    show sm (wd R) (fun _ => 0) + gs.getD i 0 = _
    rw [sm_zero]; omega
  · rw [s1]
    show sm R.length (fun _ => 0) + ts.getD j 0 = _
    rw [sm_zero]; omega
end Pk
set_option Elab.async false
set_option linter.all false
set_option maxRecDepth 100000
set_option maxHeartbeats 4000000
namespace Pk
open PySem L2
local macro_rules | `(tactic| walk_at "rd") => `(tactic| repeat (first
  | with_reducible refine r_seq ?_ | with_reducible refine r_nxt ?_ | with_reducible refine r_asg ?_ | with_reducible refine r_to ?_ | with_reducible refine r_ret ?_ | with_reducible refine r_for ?_ | with_reducible refine r_lc ?_ | with_reducible refine r_lc2 ?_ | with_reducible refine r_rng1 ?_ | with_reducible refine r_list ?_ | with_reducible refine r_tupI ?_ | with_reducible refine r_drop ?_ | with_reducible refine r_ifs ?_
  | with_reducible refine r_op ?_ | with_reducible refine r_c ?_ | with_reducible refine r_var rfl ?_ | with_reducible refine r_var (by assumption) ?_ | with_reducible refine r_I0 ?_ | with_reducible refine r_un ?_ | with_reducible refine r_U ?_ | with_reducible refine r_make ?_ | with_reducible refine r_makeS ?_ | with_reducible refine r_ifE ?_ | with_reducible refine r_cm ?_ | with_reducible refine r_mkV rfl ?_ | with_reducible refine r_sub ?_
  | with_reducible refine r_nil ?_ | with_reducible refine r_cons ?_ | with_reducible refine r_cb ?_ | with_reducible refine r_sl ?_ | with_reducible refine r_noP ?_ | with_reducible refine r_part ?_ | with_reducible refine r_isI ?_ | with_reducible refine r_lst ?_ | with_reducible refine r_tup ?_ | with_reducible refine r_call ?_ | with_reducible refine r_callS ?_ | with_reducible refine r_sFldU ?_ | with_reducible refine r_chain ?_ | with_reducible refine r_enum ?_ | with_reducible refine r_zip ?_ | with_reducible refine r_rng3 ?_ | with_reducible refine r_gtup ?_ | with_reducible refine r_methU ?_
  | with_reducible refine r_test ?_ | with_reducible refine r_B ?_ | with_reducible refine r_and ?_ | with_reducible refine r_or ?_ | with_reducible refine r_not ?_ | with_reducible refine r_andV ?_ | with_reducible refine r_orV ?_ | with_reducible refine r_notV ?_ | with_reducible refine r_bl ?_ | with_reducible refine r_yes ?_ | with_reducible refine r_int ?_ | with_reducible refine r_is0 ?_ | with_reducible refine r_is1 ?_ | with_reducible refine iteT ?_ | with_reducible refine iteF ?_ | with_reducible refine ite_nF ?_ | with_reducible refine ite_nT ?_
  | with_reducible refine r_mod (by decide) ?_ | with_reducible refine r_div (by decide) (by decide) ?_ | with_reducible refine r_mulR (by decide) (by decide) ?_ | with_reducible refine r_mulL (by decide) (by decide) ?_ | with_reducible refine r_pow (by decide) (by decide) (by decide) ?_))
/-! ### a settled balance has no shortage, a stuck one has -/
def metP (R : Rw) (p : Nat → Bool) (j : Nat) : Bool := (List.range R.length).any fun i => p i && (prc R i j).isSome
def pSum (n : Nat) (p : Nat → Bool) (ms : List Int) : Int := sm n fun i => if p i = true then ms.getD i 0 else 0
def heldP (R : Rw) (gs ts : List Int) (p : Nat → Bool) : Int := pSum R.length p gs - pSum (wd R) (metP R p) ts
theorem metP_iff {R : Rw} {p : Nat → Bool} {j : Nat} : metP R p j = true ↔ ∃ i, i < R.length ∧ p i = true ∧ (prc R i j).isSome = true := by
  unfold metP
  rw [List.any_eq_true]
  constructor
  · rintro ⟨i, hi, h⟩
    rw [Bool.and_eq_true] at h
    exact ⟨i, List.mem_range.mp hi, h.1, h.2⟩
  · rintro ⟨i, hi, h1, h2⟩
    exact ⟨i, List.mem_range.mpr hi, by rw [h1, h2]; rfl⟩
theorem sm_neg (n : Nat) (f : Nat → Int) : sm n (fun i => -f i) = -sm n f := by
  have h := sm_add n f fun i => -f i
  rw [sm_congr (g := fun _ => 0) fun i _ => by omega, sm_zero] at h
  omega
theorem sum_range : ∀ ms : List Int, ms.sum = sm ms.length (fun k => ms.getD k 0) := by
  intro ms
  unfold sm
  congr 1
  refine List.ext_getElem? fun i => ?_
  rw [List.getElem?_map]
  by_cases c : i < ms.length
  · rw [List.getElem?_range c, List.getElem?_eq_getElem c]
    show _ = some (ms.getD i 0)
    rw [List.getD_eq_getElem?_getD, List.getElem?_eq_getElem c]; rfl
  · rw [List.getElem?_eq_none (by omega), List.getElem?_eq_none (by rw [List.length_range]; omega)]; rfl
theorem pSum_not (p : Nat → Bool) (ms : List Int) : pSum ms.length p ms + pSum ms.length (fun i => !p i) ms = ms.sum := by
  rw [sum_range]
  unfold pSum
  rw [← sm_add]
  refine sm_congr fun i _ => ?_
  dsimp only
  by_cases c : p i = true
  · rw [if_pos c, if_neg (by rw [c]; exact Bool.false_ne_true)]; omega
  · rw [if_neg c, if_pos (by rw [Bool.not_eq_true] at c; rw [c]; rfl)]; omega
theorem pSum_le {n : Nat} {p q : Nat → Bool} {ms : List Int} (nn : ∀ k, k < n → 0 ≤ ms.getD k 0) (h : ∀ i, i < n → p i = true → q i = true) : pSum n p ms ≤ pSum n q ms := by
  refine sm_le fun i hi => ?_
  have := nn i hi
  by_cases c : p i = true
  · rw [if_pos c, if_pos (h i hi c)]; exact Int.le_refl _
  · rw [if_neg c]; split <;> omega
section
variable {R : Rw} {gs ts : List Int} {b : Bal}
theorem InvB.ts0 (I : InvB R gs ts b) {j : Nat} (hj : j < wd R) : 0 ≤ ts.getD j 0 := by
  rw [← I.col j hj]
  have h1 : 0 ≤ csA R.length (sentB b) j := sm_nn fun i _ => I.nn i j
  have := I.la0 j
  omega
theorem InvB.sp_all (I : InvB R gs ts b) (h : b.sp.sum ≤ 0) (i : Nat) : b.sp.getD i 0 = 0 := by
  by_cases c : i < b.sp.length
  · rw [sum_range] at h
    have h1 := sm_ge (f := fun k => b.sp.getD k 0) (fun k _ => I.sp0 k) c
    have := I.sp0 i
    omega
  · rw [List.getD_eq_getElem?_getD, List.getElem?_eq_none (by omega)]; rfl
theorem fit_held (I : InvB R gs ts b) (h : b.sp.sum ≤ 0) (p : Nat → Bool) : heldP R gs ts p ≤ 0 := by
  have e1 : pSum R.length p gs = sm R.length fun i => sm (wd R) fun j => if p i = true then sentB b i j else 0 := by
    refine sm_congr fun i hi => ?_
    by_cases c : p i = true
    · rw [if_pos c, ← I.row i hi, I.sp_all h i, Int.add_zero]
      exact sm_congr fun j _ => (if_pos c).symm
    · rw [if_neg c, sm_congr (g := fun _ => 0) fun j _ => if_neg c, sm_zero]
  have e2 : pSum R.length p gs ≤ pSum (wd R) (metP R p) ts := by
    rw [e1, sm_swap]
    refine sm_le fun j hj => ?_
    by_cases m : metP R p j = true
    · rw [if_pos m, ← I.col j hj]
      have h1 : sm R.length (fun i => if p i = true then sentB b i j else 0) ≤ csA R.length (sentB b) j := sm_le fun i _ => by
        have := I.nn i j
        split <;> omega
      have := I.la0 j
      omega
    · rw [if_neg m, sm_congr (g := fun _ => 0) fun i hi => ?_, sm_zero]
      · exact Int.le_refl _
      · by_cases c : p i = true
        · rw [if_pos c]
          have n0 := I.nn i j
          apply Classical.byContradiction
          intro ne
          exact m (metP_iff.mpr ⟨i, hi, c, (I.on i j (by omega)).2.2.1⟩)
        · rw [if_neg c]
  unfold heldP
  omega
theorem stuck_held (I : InvB R gs ts b) (S : StuckB R b) : 0 < heldP R gs ts fun i => (b.gy.getD i none).isSome := by
  obtain ⟨gr, egr⟩ : ∃ gr : Nat → Bool, gr = fun i => (b.gy.getD i none).isSome := ⟨_, rfl⟩
  obtain ⟨tr, etr⟩ : ∃ tr : Nat → Bool, tr = fun j => (b.ty.getD j none).isSome := ⟨_, rfl⟩
  rw [← egr]
  have met : ∀ j, j < wd R → metP R gr j = true → tr j = true := fun j hj m => by
    obtain ⟨i, hi, c, pr⟩ := metP_iff.mp m
    rw [egr] at c
    rw [etr]
    apply Classical.byContradiction
    intro n
    have mm : gapB R b i j ∈ gapsL R b := by
      refine List.mem_flatMap.mpr ⟨i, reached_mem.mpr c, ?_⟩
      unfold gapsRow
      refine List.mem_map.mpr ⟨j, List.mem_filter.mpr ⟨List.mem_range.mpr hj, ?_⟩, rfl⟩
      rw [pr, decide_eq_false (fun z => n (reached_mem.mp z))]; rfl
    rw [S.ne] at mm
    cases mm
  have l1 := pSum_le (fun j hj => I.ts0 hj) met
  have l2 : pSum (wd R) tr ts ≤ sm (wd R) fun j => sm R.length fun i => if gr i = true then sentB b i j else 0 := by
    refine sm_le fun j hj => ?_
    by_cases c : tr j = true
    · rw [if_pos c, ← I.col j hj]
      rw [etr] at c
      obtain ⟨c1, c2⟩ := S.cl.t j c
      have la := I.la0 j
      have : csA R.length (sentB b) j = sm R.length fun i => if gr i = true then sentB b i j else 0 := sm_congr fun i hi => by
        by_cases q : gr i = true
        · rw [if_pos q]
        · rw [if_neg q]
          have n0 := I.nn i j
          apply Classical.byContradiction
          intro ne
          refine q ?_
          rw [egr]
          exact c2 i hi (by omega)
      omega
    · rw [if_neg c]
      exact sm_nn fun i _ => by
        have := I.nn i j
        split <;> omega
  have l3 : (sm (wd R) fun j => sm R.length fun i => if gr i = true then sentB b i j else 0) = sm R.length fun i => if gr i = true then rsA (wd R) (sentB b) i else 0 := by
    rw [← sm_swap R.length (wd R) fun i j => if gr i = true then sentB b i j else 0]
    refine sm_congr fun i _ => ?_
    by_cases q : gr i = true
    · rw [if_pos q]
      exact sm_congr fun j _ => if_pos q
    · rw [if_neg q, sm_congr (g := fun _ => 0) fun j _ => if_neg q, sm_zero]
  have l4 : (sm R.length fun i => if gr i = true then rsA (wd R) (sentB b) i else 0) + b.sp.sum = pSum R.length gr gs := by
    rw [sum_range, I.d.l1, ← sm_add]
    refine sm_congr fun i hi => ?_
    by_cases q : gr i = true
    · rw [if_pos q, if_pos q]; exact I.row i hi
    · rw [if_neg q, if_neg q]
      have n0 := I.sp0 i
      have : ¬ 0 < b.sp.getD i 0 := fun z => q (by rw [egr]; exact S.spg i z)
      omega
  have := S.pos
  unfold heldP
  omega
theorem stuck_some (S : StuckB R b) : reachedF b.gy ≠ [] := fun e => by
  have h := S.pos
  have : b.sp.sum ≤ 0 := by
    rw [sum_range]
    have := sm_le (n := b.sp.length) (f := fun k => b.sp.getD k 0) (g := fun _ => 0) fun i _ => by
      apply Classical.byContradiction
      intro n
      have := reached_mem.mpr (S.spg i (by omega))
      rw [e] at this
      cases this
    rw [sm_zero] at this
    exact this
  omega
end
/-- a shortage on one side is one on the other where that holds no less -/
theorem held_turn {R R' : Rw} (l1 : R'.length = wd R) (l2 : wd R' = R.length) (tr : ∀ i j, i < R.length → j < wd R → prc R' j i = prc R i j) {gs ts : List Int} (g1 : gs.length = R.length) (t1 : ts.length = wd R) (n1 : ∀ k, k < R.length → 0 ≤ gs.getD k 0) (p : Nat → Bool) :
    heldP R gs ts p + (ts.sum - gs.sum) ≤ heldP R' ts gs fun j => !metP R p j := by
  have e1 := pSum_not p gs
  have e2 := pSum_not (metP R p) ts
  rw [g1] at e1
  rw [t1] at e2
  have e3 : pSum (wd R') (metP R' fun j => !metP R p j) gs ≤ pSum R.length (fun i => !p i) gs := by
    rw [l2]
    refine pSum_le n1 fun i hi m => ?_
    obtain ⟨j, hj, c, pr⟩ := metP_iff.mp m
    rw [l1] at hj
    rw [tr i j hi hj] at pr
    cases q : p i with
    | false => rfl
    | true =>
      have : metP R p j = true := metP_iff.mpr ⟨i, hi, q, pr⟩
      rw [this] at c
      cases c
  unfold heldP
  rw [l1]
  omega
theorem pSum_list {n : Nat} {ms : List Int} : ∀ {X : List Nat}, X.Nodup → (∀ k, k ∈ X → k < n) → (X.map fun k => ms.getD k 0).sum = pSum n (fun k => decide (k ∈ X)) ms
  | [], _, _ => by
    show 0 = sm n _
    rw [sm_congr (g := fun _ => 0) fun k _ => if_neg (by simp), sm_zero]
  | x :: X, nd, h => by
    obtain ⟨n1, n2⟩ := List.nodup_cons.mp nd
    have ih := pSum_list (ms := ms) n2 fun k hk => h k (List.mem_cons_of_mem _ hk)
    rw [List.map_cons, List.sum_cons, ih]
    have e := sm_ite (h x (List.mem_cons_self ..)) (ms.getD x 0)
    have e2 := sm_add n (fun k => if k = x then ms.getD x 0 else 0) fun k => if decide (k ∈ X) = true then ms.getD k 0 else 0
    rw [e] at e2
    unfold pSum
    rw [← e2]
    refine sm_congr fun k _ => ?_
    by_cases c : k = x
    · subst c
      rw [if_pos rfl, if_neg (by simpa using n1), if_pos (by simp)]; omega
    · by_cases m : k ∈ X
      · rw [if_neg c, if_pos (by simpa using m), if_pos (by simp [m])]; omega
      · rw [if_neg c, if_neg (by simpa using m), if_neg (by simp [m, c])]; omega
end Pk
set_option Elab.async false
set_option linter.all false
set_option maxRecDepth 100000
set_option maxHeartbeats 4000000
namespace Pk
open PySem L2
local macro_rules | `(tactic| walk_at "rd") => `(tactic| repeat (first
  | with_reducible refine r_seq ?_ | with_reducible refine r_nxt ?_ | with_reducible refine r_asg ?_ | with_reducible refine r_to ?_ | with_reducible refine r_ret ?_ | with_reducible refine r_for ?_ | with_reducible refine r_lc ?_ | with_reducible refine r_lc2 ?_ | with_reducible refine r_rng1 ?_ | with_reducible refine r_list ?_ | with_reducible refine r_tupI ?_ | with_reducible refine r_drop ?_ | with_reducible refine r_ifs ?_
  | with_reducible refine r_op ?_ | with_reducible refine r_c ?_ | with_reducible refine r_var rfl ?_ | with_reducible refine r_var (by assumption) ?_ | with_reducible refine r_I0 ?_ | with_reducible refine r_un ?_ | with_reducible refine r_U ?_ | with_reducible refine r_make ?_ | with_reducible refine r_makeS ?_ | with_reducible refine r_ifE ?_ | with_reducible refine r_cm ?_ | with_reducible refine r_mkV rfl ?_ | with_reducible refine r_sub ?_
  | with_reducible refine r_nil ?_ | with_reducible refine r_cons ?_ | with_reducible refine r_cb ?_ | with_reducible refine r_sl ?_ | with_reducible refine r_noP ?_ | with_reducible refine r_part ?_ | with_reducible refine r_isI ?_ | with_reducible refine r_lst ?_ | with_reducible refine r_tup ?_ | with_reducible refine r_call ?_ | with_reducible refine r_callS ?_ | with_reducible refine r_sFldU ?_ | with_reducible refine r_chain ?_ | with_reducible refine r_enum ?_ | with_reducible refine r_zip ?_ | with_reducible refine r_rng3 ?_ | with_reducible refine r_gtup ?_ | with_reducible refine r_methU ?_
  | with_reducible refine r_test ?_ | with_reducible refine r_B ?_ | with_reducible refine r_and ?_ | with_reducible refine r_or ?_ | with_reducible refine r_not ?_ | with_reducible refine r_andV ?_ | with_reducible refine r_orV ?_ | with_reducible refine r_notV ?_ | with_reducible refine r_bl ?_ | with_reducible refine r_yes ?_ | with_reducible refine r_int ?_ | with_reducible refine r_is0 ?_ | with_reducible refine r_is1 ?_ | with_reducible refine iteT ?_ | with_reducible refine iteF ?_ | with_reducible refine ite_nF ?_ | with_reducible refine ite_nT ?_
  | with_reducible refine r_mod (by decide) ?_ | with_reducible refine r_div (by decide) (by decide) ?_ | with_reducible refine r_mulR (by decide) (by decide) ?_ | with_reducible refine r_mulL (by decide) (by decide) ?_ | with_reducible refine r_pow (by decide) (by decide) (by decide) ?_))
/-! ### the balance, made -/
theorem Own2.app {G H H' : Hp} {L M : List (Addr × HO)} (h : Own2 G H L) (s : Same G H) (g : Own2 H H' M) (t : Same H H') : Own2 G H' (L ++ M) := by
  refine ⟨?_, fun p hp => ?_, fun p hp => ?_⟩
  · rw [List.map_append]
    refine List.nodup_append.mpr ⟨h.nd, g.nd, fun a ha b hb e => ?_⟩
    obtain ⟨p, hp, rfl⟩ := List.mem_map.mp ha
    obtain ⟨q, hq, rfl⟩ := List.mem_map.mp hb
    have e1 := h.at_ p hp
    rw [e, g.off q hq] at e1
    cases e1
  · rcases List.mem_append.mp hp with hp | hp
    · exact t _ _ (h.at_ p hp)
    · exact g.at_ p hp
  · rcases List.mem_append.mp hp with hp | hp
    · exact h.off p hp
    · exact s.free (g.off p hp)
theorem Own2.perm {G H : Hp} {L M : List (Addr × HO)} (h : Own2 G H L) (p : L.Perm M) : Own2 G H M :=
  ⟨(p.map (·.1)).nodup_iff.mp h.nd, fun q hq => h.at_ q (p.mem_iff.mpr hq), fun q hq => h.off q (p.mem_iff.mpr hq)⟩
theorem Own2.one {G H : Hp} {a : Addr} {o : HO} (h : H a = some o) (n : G a = none) : Own2 G H [(a, o)] :=
  ⟨List.nodup_cons.mpr ⟨List.not_mem_nil, List.nodup_nil⟩, fun p hp => by rw [List.mem_singleton.mp hp]; exact h, fun p hp => by rw [List.mem_singleton.mp hp]; exact n⟩
/-- the object's field is set to what was made anew -/
theorem own_fld {G H H' : Hp} {L M : List (Addr × HO)} {x C dx : Addr} {fs : List (Str × V)} {u : Str} {v : V} (h : Own2 G H ((x, .ins C dx fs) :: L)) (s : Same G H) (g : Own2 H H' M) (t : Same H H') :
    Own2 G (upd H' x (.ins C dx (putF u v fs))) ((x, .ins C dx (putF u v fs)) :: (L ++ M)) ∧ Same G (upd H' x (.ins C dx (putF u v fs))) ∧ H' x = some (.ins C dx fs) := by
  have a := h.app s g t
  exact ⟨a.set (i := 0) rfl, a.base (s.trans t) (i := 0) rfl, (a.get (i := 0) rfl).1⟩
theorem putF_new {u : Str} {v : V} : ∀ {fs : List (Str × V)} {ks : List Str}, fs.map (·.1) = ks → ks.all (fun a => !(a == u)) = true → putF u v fs = fs ++ [(u, v)]
  | [], _, _, _ => rfl
  | (a, y) :: fs, _, rfl, h => by
    rw [List.map_cons, List.all_cons, Bool.and_eq_true] at h
    have n : a ≠ u := fun e => by
      have h1 := h.1
      rw [e, beq_self_eq_true] at h1
      cases h1
    rw [putF, if_neg n, putF_new rfl h.2]; rfl
/-- a list of rows made anew: all of one kind -/
structure RowsZ (H : Hp) (D : Addr) (o : HO) (i : Nat) (H' : Hp) : Prop where
  s : Same H H'
  r : ∃ cs : List Addr, cs.length = i ∧ Own2 H H' ((D, .lst (cs.map V.ref)) :: cs.map fun c => (c, o))
theorem RowsZ.start {H : Hp} {D : Addr} {o : HO} (nD : H D = none) : RowsZ H D o 0 (upd H D (.lst [])) := ⟨Same.up (Same.refl H) nD, [], rfl, Own2.one upd_same nD⟩
theorem RowsZ.more {H H1 H2 : Hp} {D c : Addr} {o : HO} {i : Nat} (r : RowsZ H D o i H1) (nD : H D = none) (s2 : Same H1 H2) (nc : H1 c = none) (hc : H2 c = some o) : ∃ cs : List Addr, H2 D = some (.lst (cs.map V.ref)) ∧ cs.length = i ∧ RowsZ H D o (i + 1) (upd H2 D (.lst (cs.map V.ref ++ [V.ref c]))) := by
  obtain ⟨s, cs, cl, ow⟩ := r
  have o2 := ow.app s (Own2.one hc nc) s2
  have hD : H2 D = some (.lst (cs.map V.ref)) := (o2.get (i := 0) rfl).1
  refine ⟨cs, hD, cl, Same.upOff (s.trans s2) nD, cs ++ [c], by rw [List.length_append, cl]; rfl, ?_⟩
  rw [List.map_append, List.map_append]
  exact o2.set (i := 0) rfl
def spBalI (K : PySem.W.Frag) (C : Addr) : Sp := fun vs H Q _ => ∃ (x dx e ag at_ : Addr) (es : List V) (G : Hp) (R : Rw) (gs ts : List Int), vs = [.ref x, .ref e, .ref ag, .ref at_] ∧ H x = some (.ins C dx []) ∧ G x = none ∧ Same G H ∧ RS K G e es R ∧ Gt R ∧
  G ag = some (.lst (gs.map V.int)) ∧ G at_ = some (.lst (ts.map V.int)) ∧ gs.length = R.length ∧ ts.length = wd R ∧ ∀ (A : BalA) (H' : Hp), A.x = x → BalH K C G H' A R (startB R gs ts) → Q .non H'
abbrev slBalI : Stmt := inCls 20 0
def asgScopeB : Stmt → Scope
  | .Assign (value := .ListComp (scope := sc) ..) .. => sc
  | s => defScope s
theorem zip_same {α β : Type} (o : β) : ∀ {cs : List α} {gs : List Int} {f : Int → β}, cs.length = gs.length → (∀ m, f m = o) → cs.zip (gs.map f) = cs.map fun c => (c, o)
  | [], _, _, _, _ => rfl
  | _ :: _, [], _, h, _ => by cases h
  | c :: cs, m :: gs, f, h, hf => by
    show (c, f m) :: cs.zip (gs.map f) = (c, o) :: _
    rw [hf, zip_same o (by simpa using h) hf]
section
variable {P : Program} {w : World} {K : PySem.W.Frag} {mg : Str → Option Value} {base : Heap} {C f : Addr} {fd : FuncData}
theorem sclBalI : FnScope ["self", "rows", "gives", "takes", "give", "row", "take"] ["self", "rows", "gives", "takes"] (defScope slBalI) := ⟨rfl, rfl, rfl, by decide +kernel, rfl, by decide +kernel, by decide +kernel⟩
theorem ok_balI (F : Fun K "__init__" "Balance.__init__" slBalI f fd) (T : Bt mg) (B : BalC K C) (DL : Df P w K mg base CX0 "least_price" 2 ["row"] (spLP K)) : FnOk P w K mg base (L2.CX P w) 3 f fd ["self", "rows", "gives", "takes"] (spBalI K C) := by
  refine F.okX sclBalI (fun vs H Q E h => ?_) (fun cdv A' outer s H vs Q E hr h => ?_)
  · obtain ⟨x, dx, e, ag, at_, es, G, R, gs, ts, rfl, _⟩ := h
    rfl
  · obtain ⟨x, dx, e, ag, at_, es, G, R, gs, ts, rfl, hx, nx, sG, rs, g, hag, hat, gl, tl, k⟩ := h
    have g8 := g.h8
    have w8 := g.w8
    refine ⟨_, (pss_cons (ps_fld (pv 0) (pv 1) rfl)
  (pss_cons (ps_fld (pv 0) (pe_callTy (T := "list") (r := rLstOf K) cl_lst (by rfl) T.list (by decide +kernel) (pa_cons (pv 2) pa_nil)) rfl)
  (pss_cons (ps_fld (pv 0) (pe_callTy (T := "list") (r := rLstOf K) cl_lst (by rfl) T.list (by decide +kernel) (pa_cons (pv 3) pa_nil)) rfl)
  (pss_cons (ps_fld (pv 0) (pe_lc (own := [("give", 4)]) (g := gName 4) (te := tLc (iList K (tVar 3)) (gName 6) tYes (tC (.int 0)) [6]) rfl sclBalI.nd (pi_list (pv 2)) (blkOk_by (own := [("give", 4)]) (N := ["self", "rows", "gives", "takes", "give", "row", "take"]) (sc := defScope slBalI) (by decide +kernel)) (fun _ _ _ _ _ => pg_name (i := 4) sclBalI.nd rfl (Or.inl rfl)) (fun _ _ _ _ _ => pts_nil) (fun _ _ _ _ _ => (pe_lc (own := [("take", 6)]) (g := gName 6) rfl sclBalI.nd (pi_list (pv 3)) (blkOk_by (own := [("take", 6)]) (N := ["self", "rows", "gives", "takes", "give", "row", "take"]) (sc := relS (asgScopeB ((defBody slBalI).getD 3 (.Pass ⟨0, 0, 0, 0⟩))) (defScope slBalI)) (by decide +kernel)) (fun _ _ _ _ _ => pg_name (i := 6) sclBalI.nd rfl (Or.inl rfl)) (fun _ _ _ _ _ => pts_nil) (fun _ _ _ _ _ => pe_int)))) rfl)
  (pss_cons (ps_fld (pv 0) (pe_lc (own := [("row", 5)]) (g := gName 5) rfl sclBalI.nd (pi_list (pv 1)) (blkOk_by (own := [("row", 5)]) (N := ["self", "rows", "gives", "takes", "give", "row", "take"]) (sc := defScope slBalI) (by decide +kernel)) (fun _ _ _ _ _ => pg_name (i := 5) sclBalI.nd rfl (Or.inl rfl)) (fun _ _ _ _ _ => pts_nil) (fun _ _ _ _ _ => (pe_df DL hr (by decide) (pa_cons (pv 5) pa_nil)))) rfl)
  (pss_cons (ps_fld (pv 0) (pe_lc (own := [("take", 6)]) (g := gName 6) rfl sclBalI.nd (pi_list (pv 3)) (blkOk_by (own := [("take", 6)]) (N := ["self", "rows", "gives", "takes", "give", "row", "take"]) (sc := defScope slBalI) (by decide +kernel)) (fun _ _ _ _ _ => pg_name (i := 6) sclBalI.nd rfl (Or.inl rfl)) (fun _ _ _ _ _ => pts_nil) (fun _ _ _ _ _ => pe_int)) rfl)
  (pss_cons (ps_fld (pv 0) (pe_lst pa_nil) rfl)
  (pss_one (ps_fld (pv 0) (pe_lst pa_nil) rfl))))))))), ?_⟩
    have o0 : Own2 G H [(x, .ins C dx [])] := Own2.one hx nx
    walk_at "rd"
    refine r_sFld0 (C := C) (dx := dx) (fs := []) hx B.O.cl B.n0 (by decide) ?_
    obtain ⟨o1, s1, _⟩ := own_fld (u := "entries") (v := .ref e) o0 sG (M := []) Own2.nil (Same.refl H)
    rw [putF_new rfl (by decide +kernel)] at o1 s1 ⊢
    generalize upd H x _ = H1 at o1 s1 ⊢
    walk_at "rd"
    refine r_lstOf (SqL.of (s1 _ _ hag)) fun a1 na1 => ?_
    walk_at "rd"
    obtain ⟨o2, s2, x2⟩ := own_fld (u := "spare") (v := .ref a1) o1 s1 (Own2.one (o := .lst (gs.map V.int)) upd_same na1) (Same.up (Same.refl H1) na1)
    refine r_sFld0 (C := C) (dx := dx) x2 B.O.cl B.n1 (by show 1 < 1000; decide) ?_
    rw [putF_new (ks := ["entries"]) rfl (by decide +kernel)] at o2 s2 ⊢
    generalize upd (upd H1 a1 _) x _ = H2 at o2 s2 ⊢
    walk_at "rd"
    refine r_lstOf (SqL.of (s2 _ _ hat)) fun a2 na2 => ?_
    walk_at "rd"
    obtain ⟨o3, s3, x3⟩ := own_fld (u := "lacking") (v := .ref a2) o2 s2 (Own2.one (o := .lst (ts.map V.int)) upd_same na2) (Same.up (Same.refl H2) na2)
    refine r_sFld0 (C := C) (dx := dx) x3 B.O.cl B.n2 (by show 2 < 1000; decide) ?_
    rw [putF_new (ks := ["entries", "spare"]) rfl (by decide +kernel)] at o3 s3 ⊢
    generalize upd (upd H2 a2 _) x _ = H3 at o3 s3 ⊢
    walk_at "rd"
    refine ⟨ag, rfl, ⟨_, SqL.of (s3 _ _ hag)⟩, fun aS nS => lc_it walk_list (RowsZ H3 aS (.lst ((ts.map fun _ => (0 : Int)).map V.int))) (RowsZ.start nS) (fun i H' _ z => SqL.of (z.s _ _ (s3 _ _ hag))) ?_ ?_⟩
    · rintro i y H4 H5 hi r ⟨rfl, ey⟩
      rw [List.length_map] at hi
      walk_at "rd"
      refine ⟨rfl, ?_⟩
      walk_at "rd"
      have hat4 := r.s _ _ (s3 _ _ hat)
      refine ⟨at_, rfl, ⟨_, SqL.of hat4⟩, fun D nD => lc_it walk_list (fun j H' => Same H5 H' ∧ H' D = some (.lst (((ts.take j).map fun _ => (0 : Int)).map V.int))) ⟨Same.up (Same.refl _) nD, upd_same⟩ (fun i H' _ z => SqL.of (z.1 _ _ hat4)) ?_ ?_⟩
      · rintro j y H6 H7 hj ⟨s6, hD⟩ ⟨rfl, ey⟩
        rw [List.getElem?_map] at ey
        obtain ⟨t0, et, rfl⟩ := Option.map_eq_some_iff.mp ey
        have tk : ts.take (j + 1) = ts.take j ++ [t0] := by rw [List.take_add_one, et]; rfl
        walk_at "rd"
        refine ⟨rfl, ?_⟩
        walk_at "rd"
        refine ⟨_, hD, Nat.lt_of_le_of_lt (show _ ≤ 8 from by rw [List.length_map, List.length_map, List.length_take]; omega) (by decide), Same.upOff s6 nD, ?_⟩
        rw [upd_same, tk, List.map_append, List.map_append]; rfl
      · rintro H6 ⟨s6, hD⟩
        rw [List.length_map, List.take_of_length_le (Nat.le_refl _)] at hD
        obtain ⟨cs, hS, cl, r2⟩ := r.more nS s6 nD hD
        walk_at "rd"
        exact ⟨_, hS, Nat.lt_of_le_of_lt (show _ ≤ 8 from by rw [List.length_map]; omega) (by decide), r2⟩
    rintro H4 ⟨s34, cs, cl, oS⟩
    rw [List.length_map] at cl
    walk_at "rd"
    obtain ⟨o4, s4, x4⟩ := own_fld (u := "sent") (v := .ref aS) o3 s3 oS s34
    refine r_sFld0 (C := C) (dx := dx) x4 B.O.cl B.n3 (by show 3 < 1000; decide) ?_
    rw [putF_new (ks := ["entries", "spare", "lacking"]) rfl (by decide +kernel)] at o4 s4 ⊢
    generalize upd H4 x _ = H5 at o4 s4 ⊢
    walk_at "rd"
    have rs5 := rs.same s4
    refine ⟨e, rfl, ⟨_, rs5.at_⟩, fun D nD => lc_it walk_list (fun i H' => Same H5 H' ∧ H' D = some (.lst (((R.take i).map leastP).map V.int))) ⟨Same.up (Same.refl H5) nD, upd_same⟩ (fun i H' _ z => z.1.seq rs5.at_) ?_ ?_⟩
    · rintro i y H6 H7 hi ⟨s6, hD⟩ ⟨rfl, ey⟩
      rw [rs5.len] at hi
      obtain ⟨c, ec, hc⟩ := rs5.get hi
      rw [ec] at ey
      cases (Option.some.inj ey)
      have tk : R.take (i + 1) = R.take i ++ [R.getD i []] := by
        rw [List.take_add_one, List.getD_eq_getElem?_getD, List.getElem?_eq_getElem hi]; rfl
      have rl : (R.getD i []).length ≤ 8 := by
        rw [List.getD_eq_getElem?_getD, List.getElem?_eq_getElem hi]
        have := g.sq _ (List.getElem_mem hi)
        show (R[i]).length ≤ 8
        omega
      walk_at "rd"
      refine ⟨rfl, ?_⟩
      walk_at "rd"
      refine ⟨c, R.getD i [], rfl, s6.seq hc, rl, fun H8 s8 => ?_⟩
      refine ⟨_, s8 _ _ hD, Nat.lt_of_le_of_lt (show _ ≤ 8 from by rw [List.length_map, List.length_map, List.length_take]; omega) (by decide), Same.upOff (s6.trans s8) nD, ?_⟩
      rw [upd_same, tk, List.map_append, List.map_append]; rfl
    rintro H6 ⟨s56, hD⟩
    rw [rs5.len, List.take_of_length_le (Nat.le_refl _)] at hD
    walk_at "rd"
    obtain ⟨o6, s6, x6⟩ := own_fld (u := "giver_worths") (v := .ref D) o4 s4 (Own2.one hD nD) s56
    refine r_sFld0 (C := C) (dx := dx) x6 B.O.cl B.n4 (by show 4 < 1000; decide) ?_
    rw [putF_new (ks := ["entries", "spare", "lacking", "sent"]) rfl (by decide +kernel)] at o6 s6 ⊢
    generalize upd H6 x _ = H7 at o6 s6 ⊢
    walk_at "rd"
    have hat7 := s6 _ _ hat
    refine ⟨at_, rfl, ⟨_, SqL.of hat7⟩, fun a5 n5 => lc_it walk_list (fun j H' => Same H7 H' ∧ H' a5 = some (.lst (((ts.take j).map fun _ => (0 : Int)).map V.int))) ⟨Same.up (Same.refl H7) n5, upd_same⟩ (fun i H' _ z => SqL.of (z.1 _ _ hat7)) ?_ ?_⟩
    · rintro j y H8 H9 hj ⟨s8, h5⟩ ⟨rfl, ey⟩
      rw [List.getElem?_map] at ey
      obtain ⟨t0, et, rfl⟩ := Option.map_eq_some_iff.mp ey
      have tk : ts.take (j + 1) = ts.take j ++ [t0] := by rw [List.take_add_one, et]; rfl
      walk_at "rd"
      refine ⟨rfl, ?_⟩
      walk_at "rd"
      refine ⟨_, h5, Nat.lt_of_le_of_lt (show _ ≤ 8 from by rw [List.length_map, List.length_map, List.length_take]; omega) (by decide), Same.upOff s8 n5, ?_⟩
      rw [upd_same, tk, List.map_append, List.map_append]; rfl
    rintro H8 ⟨s78, h5⟩
    rw [List.length_map, List.take_of_length_le (Nat.le_refl _)] at h5
    walk_at "rd"
    obtain ⟨o8, s8, x8⟩ := own_fld (u := "taker_worths") (v := .ref a5) o6 s6 (Own2.one h5 n5) s78
    refine r_sFld0 (C := C) (dx := dx) x8 B.O.cl B.n5 (by show 5 < 1000; decide) ?_
    rw [putF_new (ks := ["entries", "spare", "lacking", "sent", "giver_worths"]) rfl (by decide +kernel)] at o8 s8 ⊢
    generalize upd H8 x _ = H9 at o8 s8 ⊢
    walk_at "rd"
    refine ⟨Nat.zero_le _, fun a6 n6 => ?_⟩
    walk_at "rd"
    obtain ⟨o9, s9, x9⟩ := own_fld (u := "giver_ways") (v := .ref a6) o8 s8 (Own2.one (o := .lst []) upd_same n6) (Same.up (Same.refl H9) n6)
    refine r_sFld0 (C := C) (dx := dx) x9 B.O.cl B.n6 (by show 6 < 1000; decide) ?_
    rw [putF_new (ks := ["entries", "spare", "lacking", "sent", "giver_worths", "taker_worths"]) rfl (by decide +kernel)] at o9 s9 ⊢
    generalize upd (upd H9 a6 _) x _ = H10 at o9 s9 ⊢
    walk_at "rd"
    refine ⟨Nat.zero_le _, fun a7 n7 => ?_⟩
    walk_at "rd"
    obtain ⟨oA, sA, xA⟩ := own_fld (u := "taker_ways") (v := .ref a7) o9 s9 (Own2.one (o := .lst []) upd_same n7) (Same.up (Same.refl H10) n7)
    refine r_sFld0 (C := C) (dx := dx) xA B.O.cl B.n7 (by show 7 < 1000; decide) ?_
    rw [putF_new (ks := ["entries", "spare", "lacking", "sent", "giver_worths", "taker_worths", "giver_ways"]) rfl (by decide +kernel)] at oA sA ⊢
    generalize upd (upd H10 a7 _) x _ = H11 at oA sA ⊢
    refine k ⟨x, dx, e, a1, a2, aS, D, a5, a6, a7, cs⟩ H11 rfl ⟨oA.perm ?_, sA, ⟨es, rs⟩, start_d gl tl, by show cs.length = R.length; rw [cl, gl]⟩
    have ez : (cs.zip ((gs.map fun _ => ts.map fun _ => (0 : Int)).map fun r => HO.lst (r.map V.int))) = cs.map fun c => (c, HO.lst ((ts.map fun _ => (0 : Int)).map V.int)) := by
      rw [List.map_map]
      exact zip_same _ cl fun _ => rfl
    unfold balL startB
    dsimp only
    rw [ez]
    refine .cons _ (.cons _ (.cons _ (.cons _ ?_)))
    show ((((cs.map fun c => (c, HO.lst ((ts.map fun _ => (0 : Int)).map V.int))) ++ [_]) ++ [_] ++ [_]) ++ [_]).Perm ([_, _, _, _] ++ _)
    rw [List.append_assoc, List.append_assoc, List.append_assoc]
    exact List.perm_append_comm
end
end Pk
set_option Elab.async false
set_option linter.all false
set_option maxRecDepth 100000
set_option maxHeartbeats 4000000
namespace Pk
open PySem L2
local macro_rules | `(tactic| walk_at "rd") => `(tactic| repeat (first
  | with_reducible refine r_seq ?_ | with_reducible refine r_nxt ?_ | with_reducible refine r_asg ?_ | with_reducible refine r_to ?_ | with_reducible refine r_ret ?_ | with_reducible refine r_for ?_ | with_reducible refine r_lc ?_ | with_reducible refine r_lc2 ?_ | with_reducible refine r_rng1 ?_ | with_reducible refine r_list ?_ | with_reducible refine r_tupI ?_ | with_reducible refine r_drop ?_ | with_reducible refine r_ifs ?_
  | with_reducible refine r_op ?_ | with_reducible refine r_c ?_ | with_reducible refine r_var rfl ?_ | with_reducible refine r_var (by assumption) ?_ | with_reducible refine r_I0 ?_ | with_reducible refine r_un ?_ | with_reducible refine r_U ?_ | with_reducible refine r_make ?_ | with_reducible refine r_makeS ?_ | with_reducible refine r_ifE ?_ | with_reducible refine r_cm ?_ | with_reducible refine r_mkV rfl ?_ | with_reducible refine r_sub ?_
  | with_reducible refine r_nil ?_ | with_reducible refine r_cons ?_ | with_reducible refine r_cb ?_ | with_reducible refine r_sl ?_ | with_reducible refine r_noP ?_ | with_reducible refine r_part ?_ | with_reducible refine r_isI ?_ | with_reducible refine r_lst ?_ | with_reducible refine r_tup ?_ | with_reducible refine r_call ?_ | with_reducible refine r_callS ?_ | with_reducible refine r_sFldU ?_ | with_reducible refine r_chain ?_ | with_reducible refine r_enum ?_ | with_reducible refine r_zip ?_ | with_reducible refine r_rng3 ?_ | with_reducible refine r_gtup ?_ | with_reducible refine r_methU ?_
  | with_reducible refine r_test ?_ | with_reducible refine r_B ?_ | with_reducible refine r_and ?_ | with_reducible refine r_or ?_ | with_reducible refine r_not ?_ | with_reducible refine r_andV ?_ | with_reducible refine r_orV ?_ | with_reducible refine r_notV ?_ | with_reducible refine r_bl ?_ | with_reducible refine r_yes ?_ | with_reducible refine r_int ?_ | with_reducible refine r_is0 ?_ | with_reducible refine r_is1 ?_ | with_reducible refine iteT ?_ | with_reducible refine iteF ?_ | with_reducible refine ite_nF ?_ | with_reducible refine ite_nT ?_
  | with_reducible refine r_mod (by decide) ?_ | with_reducible refine r_div (by decide) (by decide) ?_ | with_reducible refine r_mulR (by decide) (by decide) ?_ | with_reducible refine r_mulL (by decide) (by decide) ?_ | with_reducible refine r_pow (by decide) (by decide) (by decide) ?_))
/-! ### whether amounts fit -/
/-- the side with the lesser total gives; if both are equal, the stocks -/
def sdR (R : Rw) (ms ns : List Int) : Rw := if ms.sum - ns.sum ≤ 0 then R else trR R
def sdG (ms ns : List Int) : List Int := if ms.sum - ns.sum ≤ 0 then ms else ns
def sdT (ms ns : List Int) : List Int := if ms.sum - ns.sum ≤ 0 then ns else ms
def wordS (ms ns : List Int) : Str := if ms.sum - ns.sum ≤ 0 then "stock" else "wish"
/-- a shortage: the lines of the side that gives -/
structure ShX (R : Rw) (ms ns : List Int) (X : List Nat) : Prop where
  ne : X ≠ []
  up : X.Pairwise (· < ·)
  lt : ∀ k, k ∈ X → k < (sdR R ms ns).length
  more : 0 < heldP (sdR R ms ns) (sdG ms ns) (sdT ms ns) fun k => decide (k ∈ X)
def NoSh (R : Rw) (ms ns : List Int) : Prop := ∀ p, heldP (sdR R ms ns) (sdG ms ns) (sdT ms ns) p ≤ 0
structure NnA (ms ns : List Int) : Prop where
  m : ∀ m, m ∈ ms → 0 ≤ m
  n : ∀ n, n ∈ ns → 0 ≤ n
theorem sd_gt {R : Rw} {ms ns : List Int} (g : Gt R) (l1 : ms.length = R.length) (l2 : ns.length = wd R) : Gt (sdR R ms ns) ∧ (sdG ms ns).length = (sdR R ms ns).length ∧ (sdT ms ns).length = wd (sdR R ms ns) := by
  unfold sdR sdG sdT
  by_cases c : ms.sum - ns.sum ≤ 0
  · simp only [if_pos c]; exact ⟨g, l1, l2⟩
  · simp only [if_neg c]
    obtain ⟨g2, w2⟩ := trR_gt g
    exact ⟨g2, by rw [trR_len]; exact l2, by rw [w2]; exact l1⟩
theorem sd_nn {ms ns : List Int} (h : NnA ms ns) : (∀ m, m ∈ sdG ms ns → 0 ≤ m) ∧ ∀ m, m ∈ sdT ms ns → 0 ≤ m := by
  unfold sdG sdT
  by_cases c : ms.sum - ns.sum ≤ 0
  · simp only [if_pos c]; exact ⟨h.m, h.n⟩
  · simp only [if_neg c]; exact ⟨h.n, h.m⟩
theorem sd_inv {R : Rw} {ms ns : List Int} (g : Gt R) (l1 : ms.length = R.length) (l2 : ns.length = wd R) (h : NnA ms ns) : InvB (sdR R ms ns) (sdG ms ns) (sdT ms ns) (startB (sdR R ms ns) (sdG ms ns) (sdT ms ns)) := by
  obtain ⟨g2, k1, k2⟩ := sd_gt g l1 l2
  exact start_inv g2 k1 k2 (sd_nn h).1 (sd_nn h).2
theorem stuck_sh {R : Rw} {ms ns : List Int} {b : Bal} (I : InvB (sdR R ms ns) (sdG ms ns) (sdT ms ns) b) (S : StuckB (sdR R ms ns) b) : ShX R ms ns (reachedF b.gy) := by
  refine ⟨stuck_some S, (List.pairwise_lt_range).filter _, fun k hk => ?_, ?_⟩
  · have := reached_lt _ k hk
    rwa [S.w.lg] at this
  · have h := stuck_held I S
    have e : (fun i => (b.gy.getD i none).isSome) = fun k => decide (k ∈ reachedF b.gy) := by
      funext i
      rw [Bool.eq_iff_iff, decide_eq_true_iff]
      exact reached_mem.symm
    rw [e] at h
    exact h
def spBalOf (K : PySem.W.Frag) (C CA CT : Addr) : Sp := fun vs H Q _ => ∃ (t g : Addr) (G : Hp) (R : Rw) (ms ns : List Int), vs = [.ref t, .ref g] ∧ TbX CT G t R ∧ Same G H ∧ AmF CA H g R ms ns ∧
  ∀ (G' : Hp) (A : BalA) (H' : Hp), Same H G' → BalH K C G' H' A (sdR R ms ns) (startB (sdR R ms ns) (sdG ms ns) (sdT ms ns)) → Q (.ref A.x) H'
def spShIn (K : PySem.W.Frag) (C CA : Addr) : Sp := fun vs H Q _ => ∃ (g dx p q : Addr) (ms ns : List Int) (G : Hp) (A : BalA) (R : Rw) (b : Bal), vs = [.ref g, .ref A.x] ∧ AmX CA H g dx p q ms ns ∧ BalH K C G H A R b ∧ b.gy.length ≤ 8 ∧
  ∀ (t l : Addr) (H' : Hp), Same H H' → H t = none → H l = none → t ≠ l → H' t = some (.tup [.str (wordS ms ns), .ref l]) → H' l = some (.lst (natV (reachedF b.gy))) → Q (.ref t) H'
def spShort (CA CT : Addr) : Sp := fun vs H Q _ => ∃ (t g : Addr) (G : Hp) (R : Rw) (ms ns : List Int), vs = [.ref t, .ref g] ∧ TbX CT G t R ∧ Same G H ∧ AmF CA H g R ms ns ∧ NnA ms ns ∧
  (NoSh R ms ns → ∀ H' : Hp, Same H H' → Q .non H') ∧
  ∀ (X : List Nat), ShX R ms ns X → ∀ (t l : Addr) (H' : Hp), Same H H' → H t = none → H l = none → t ≠ l → H' t = some (.tup [.str (wordS ms ns), .ref l]) → H' l = some (.lst (natV X)) → Q (.ref t) H'
def spFits (CA CT : Addr) : Sp := fun vs H Q _ => ∃ (t g : Addr) (G : Hp) (R : Rw) (ms ns : List Int), vs = [.ref t, .ref g] ∧ TbX CT G t R ∧ Same G H ∧ AmF CA H g R ms ns ∧ NnA ms ns ∧
  ∀ (x : Bool) (H' : Hp), (x = true → NoSh R ms ns) → (x = false → ∃ X, ShX R ms ns X) → Same H H' → Q (.bl x) H'
abbrev slBalOf : Stmt := top 22
abbrev slShIn : Stmt := top 23
abbrev slShort : Stmt := top 24
abbrev slFits : Stmt := top 25
section
variable {P : Program} {w : World} {K : PySem.W.Frag} {mg : Str → Option Value} {base : Heap} {C CA CT f : Addr} {fd : FuncData}
theorem sclBalOf : FnScope ["table", "amounts"] ["table", "amounts"] (defScope slBalOf) := ⟨rfl, rfl, rfl, by decide +kernel, rfl, by decide +kernel, by decide +kernel⟩
theorem ok_balOf {fO fM fN fR fT : Addr} {fdO fdM fdN fdR fdT : FuncData} (F : Fun K "balance_of" "balance_of" slBalOf f fd) (A : AmC K CA) (B : TbC K CT)
    (mO : Meth K CA "over" fO) (oO : FnOk P w K mg base CX0 1 fO fdO ["self"] (spAmOver CA)) (bO : Binds K fdO ["self"] [])
    (mM : Meth K CA "stocks" fM) (oM : FnOk P w K mg base CX0 1 fM fdM ["self"] (spGet CA fun ms _ => ms)) (bM : Binds K fdM ["self"] [])
    (mN : Meth K CA "wishes" fN) (oN : FnOk P w K mg base CX0 1 fN fdN ["self"] (spGet CA fun _ ns => ns)) (bN : Binds K fdN ["self"] [])
    (mR : Meth K CT "rows" fR) (oR : FnOk P w K mg base CX0 1 fR fdR ["self"] (spTRws CT)) (bR : Binds K fdR ["self"] [])
    (mT : Meth K CT "turned" fT) (oT : FnOk P w K mg base CX0 10 fT fdT ["self"] (spTTur CT)) (bT : Binds K fdT ["self"] [])
    (DB : Dk P w K mg base (L2.CX P w) "Balance" 3 ["self", "rows", "gives", "takes"] (spBalI K C) C) : FnOk P w K mg base CX0 11 f fd ["table", "amounts"] (spBalOf K C CA CT) := by
  refine F.ok sclBalOf (fun vs H Q E h => ?_) (fun cdv A' outer s H vs Q E hr h => ?_)
  · obtain ⟨t, g, G, R, ms, ns, rfl, _⟩ := h
    rfl
  · obtain ⟨t, g, G, R, ms, ns, rfl, tb, sG, am, k⟩ := h
    have hr1 := hr.mono (show 1 ≤ 10 by decide)
    have hr10 := hr.mono (show 10 ≤ 10 by decide)
    obtain ⟨⟨dx, p, q, a⟩, e1, e2⟩ := am
    obtain ⟨gt, dt, e, u, es, ho, hl, hp⟩ := id tb
    refine ⟨_, (pss_cons (ps_if (pt_cmpR op_le (pe_meth0 (pv 1) A.cls mO oO hr1 bO .nil pass0) pe_int (nomark _)) (pss_one (ps_ret (pe_dkL DB hr (by decide) (pa_cons (pe_meth0 (pv 0) B.O.cl mR oR hr1 bR .nil pass0) (pa_cons (pe_meth0 (pv 1) A.cls mM oM hr1 bM .nil pass0) (pa_cons (pe_meth0 (pv 1) A.cls mN oN hr1 bN .nil pass0) pa_nil)))))) pss_nil)
  (pss_one (ps_ret (pe_dkL DB hr (by decide) (pa_cons (pe_meth0 (pe_meth0 (pv 0) B.O.cl mT oT hr10 bT .nil pass0) B.O.cl mR oR hr1 bR .nil pass0) (pa_cons (pe_meth0 (pv 1) A.cls mN oN hr1 bN .nil pass0) (pa_cons (pe_meth0 (pv 1) A.cls mM oM hr1 bM .nil pass0) pa_nil))))))), ?_⟩
    obtain ⟨g2, k1, k2⟩ := sd_gt gt e1 e2
    walk_at "rd"
    refine ⟨g, dx, _, rfl, a.o, two_no (by decide +kernel) (by decide +kernel), ?_⟩
    walk_at "rd"
    refine ⟨g, dx, p, q, ms, ns, rfl, a, ?_⟩
    walk_at "rd"
    by_cases c : ms.sum - ns.sum ≤ 0
    · refine ifT (decide_eq_true c) ?_
      simp only [sdR, sdG, sdT, if_pos c] at k g2 k1 k2
      walk_at "rd"
      refine ⟨t, dt, _, rfl, sG _ _ ho, two_no (by decide +kernel) (by decide +kernel), ?_⟩
      walk_at "rd"
      refine ⟨t, G, R, rfl, tb, sG, fun r es1 H1 nr => ?_⟩
      obtain ⟨s1, _, rl, _⟩ := nr
      have a1 := a.same s1
      walk_at "rd"
      refine ⟨g, dx, _, rfl, a1.o, two_no (by decide +kernel) (by decide +kernel), ?_⟩
      walk_at "rd"
      refine ⟨g, dx, p, q, ms, ns, rfl, a1, fun r1 n1 => ?_⟩
      have s2 := Same.up (o := .lst (ms.map V.int)) (Same.refl H1) n1
      have h1 : upd H1 r1 (.lst (ms.map V.int)) r1 = some (.lst (ms.map V.int)) := upd_same
      generalize upd H1 r1 (.lst (ms.map V.int)) = H2 at s2 h1 ⊢
      have a2 := a1.same s2
      walk_at "rd"
      refine ⟨g, dx, _, rfl, a2.o, two_no (by decide +kernel) (by decide +kernel), ?_⟩
      walk_at "rd"
      refine ⟨g, dx, p, q, ms, ns, rfl, a2, fun r2 n2 => ?_⟩
      have s3 := Same.up (o := .lst (ns.map V.int)) (Same.refl H2) n2
      have h2 : upd H2 r2 (.lst (ns.map V.int)) r2 = some (.lst (ns.map V.int)) := upd_same
      generalize upd H2 r2 (.lst (ns.map V.int)) = H3 at s3 h2 ⊢
      walk_at "rd"
      intro y dy ny ndy ne
      have sy : Same H3 (upd (upd H3 dy (.own y)) y (.ins C dy [])) := Same.up (Same.up (Same.refl _) ndy) (by rw [upd_ne (Ne.symm ne)]; exact ny)
      refine ⟨y, dy, r, r1, r2, es1, H3, R, ms, ns, rfl, upd_same, ny, sy, rl.rs.same (s2.trans s3), gt, s3 _ _ h1, h2, e1, e2, fun A H' ex hb => ⟨rfl, ?_⟩⟩
      rw [← ex]
      exact k H3 A H' (s1.trans (s2.trans s3)) hb
    · refine ifF (decide_eq_false c) ?_
      simp only [sdR, sdG, sdT, if_neg c] at k g2 k1 k2
      walk_at "rd"
      refine ⟨t, dt, _, rfl, sG _ _ ho, two_no (by decide +kernel) (by decide +kernel), ?_⟩
      walk_at "rd"
      refine ⟨t, G, R, rfl, tb, sG, fun y0 H0 G0 s0 t0 sG0 _ => ?_⟩
      obtain ⟨gt0, dt0, e0, u0, es0, ho0, hl0, hp0⟩ := id t0
      walk_at "rd"
      refine ⟨y0, dt0, _, rfl, sG0 _ _ ho0, two_no (by decide +kernel) (by decide +kernel), ?_⟩
      walk_at "rd"
      refine ⟨y0, G0, trR R, rfl, t0, sG0, fun r es1 H1 nr => ?_⟩
      obtain ⟨s1, _, rl, _⟩ := nr
      have a1 := a.same (s0.trans s1)
      walk_at "rd"
      refine ⟨g, dx, _, rfl, a1.o, two_no (by decide +kernel) (by decide +kernel), ?_⟩
      walk_at "rd"
      refine ⟨g, dx, p, q, ms, ns, rfl, a1, fun r1 n1 => ?_⟩
      have s2 := Same.up (o := .lst (ns.map V.int)) (Same.refl H1) n1
      have h1 : upd H1 r1 (.lst (ns.map V.int)) r1 = some (.lst (ns.map V.int)) := upd_same
      generalize upd H1 r1 (.lst (ns.map V.int)) = H2 at s2 h1 ⊢
      have a2 := a1.same s2
      walk_at "rd"
      refine ⟨g, dx, _, rfl, a2.o, two_no (by decide +kernel) (by decide +kernel), ?_⟩
      walk_at "rd"
      refine ⟨g, dx, p, q, ms, ns, rfl, a2, fun r2 n2 => ?_⟩
      have s3 := Same.up (o := .lst (ms.map V.int)) (Same.refl H2) n2
      have h2 : upd H2 r2 (.lst (ms.map V.int)) r2 = some (.lst (ms.map V.int)) := upd_same
      generalize upd H2 r2 (.lst (ms.map V.int)) = H3 at s3 h2 ⊢
      walk_at "rd"
      intro y dy ny ndy ne
      have sy : Same H3 (upd (upd H3 dy (.own y)) y (.ins C dy [])) := Same.up (Same.up (Same.refl _) ndy) (by rw [upd_ne (Ne.symm ne)]; exact ny)
      refine ⟨y, dy, r, r1, r2, es1, H3, trR R, ns, ms, rfl, upd_same, ny, sy, rl.rs.same (s2.trans s3), g2, s3 _ _ h1, h2, k1, k2, fun A H' ex hb => ⟨rfl, ?_⟩⟩
      rw [← ex]
      exact k H3 A H' (s0.trans (s1.trans (s2.trans s3))) hb
theorem sclShIn : FnScope ["amounts", "balance"] ["amounts", "balance"] (defScope slShIn) := ⟨rfl, rfl, rfl, by decide +kernel, rfl, by decide +kernel, by decide +kernel⟩
theorem ok_shIn {fO fR : Addr} {fdO fdR : FuncData} (F : Fun K "shortage_in" "shortage_in" slShIn f fd) (A : AmC K CA) (B : BalC K C)
    (mO : Meth K CA "over" fO) (oO : FnOk P w K mg base CX0 1 fO fdO ["self"] (spAmOver CA)) (bO : Binds K fdO ["self"] [])
    (mR : Meth K C "reached_givers" fR) (oR : FnOk P w K mg base CX0 1 fR fdR ["self"] (spReach K C (·.gy))) (bR : Binds K fdR ["self"] []) : FnOk P w K mg base CX0 2 f fd ["amounts", "balance"] (spShIn K C CA) := by
  refine F.ok sclShIn (fun vs H Q E h => ?_) (fun cdv A' outer s H vs Q E hr h => ?_)
  · obtain ⟨g, dx, p, q, ms, ns, G, A, R, b, rfl, _⟩ := h
    rfl
  · obtain ⟨g, dx, p, q, ms, ns, G, Ab, R, b, rfl, a, hb, l8, k⟩ := h
    have hr1 := hr.mono (show 1 ≤ 1 by decide)
    refine ⟨_, (pss_one (ps_ret (pe_tup (pa_cons (pe_ifExp (pt_cmpR op_le (pe_meth0 (pv 0) A.cls mO oO hr1 bO .nil pass0) pe_int (nomark _)) pe_str pe_str) (pa_cons (pe_meth0 (pv 1) B.O.cl mR oR hr1 bR .nil pass0) pa_nil))))), ?_⟩
    walk_at "rd"
    refine ⟨g, dx, _, rfl, a.o, two_no (by decide +kernel) (by decide +kernel), ?_⟩
    walk_at "rd"
    refine ⟨g, dx, p, q, ms, ns, rfl, a, ?_⟩
    walk_at "rd"
    by_cases c : ms.sum - ns.sum ≤ 0
    · refine ifT (decide_eq_true c) ?_
      walk_at "rd"
      refine ⟨Ab.x, Ab.dx, balF Ab, rfl, hb.hx, rfl, ?_⟩
      walk_at "rd"
      refine ⟨G, Ab, R, b, rfl, hb, l8, fun r H1 s1 nr hr1 => ?_⟩
      walk_at "rd"
      refine ⟨by show 2 ≤ sizeLine; decide, fun t nt => ?_⟩
      have st := Same.up (o := .tup [.str "stock", .ref r]) (Same.refl H1) nt
      refine k t r _ (s1.trans st) (s1.free nt) nr (fun z => by rw [z, hr1] at nt; cases nt) ?_ (st _ _ hr1)
      unfold wordS
      rw [if_pos c]; exact upd_same
    · refine ifF (decide_eq_false c) ?_
      walk_at "rd"
      refine ⟨Ab.x, Ab.dx, balF Ab, rfl, hb.hx, rfl, ?_⟩
      walk_at "rd"
      refine ⟨G, Ab, R, b, rfl, hb, l8, fun r H1 s1 nr hr1 => ?_⟩
      walk_at "rd"
      refine ⟨by show 2 ≤ sizeLine; decide, fun t nt => ?_⟩
      have st := Same.up (o := .tup [.str "wish", .ref r]) (Same.refl H1) nt
      refine k t r _ (s1.trans st) (s1.free nt) nr (fun z => by rw [z, hr1] at nt; cases nt) ?_ (st _ _ hr1)
      unfold wordS
      rw [if_neg c]; exact upd_same
end
end Pk
set_option Elab.async false
set_option linter.all false
set_option maxRecDepth 100000
set_option maxHeartbeats 4000000
namespace Pk
open PySem L2
local macro_rules | `(tactic| walk_at "rd") => `(tactic| repeat (first
  | with_reducible refine r_seq ?_ | with_reducible refine r_nxt ?_ | with_reducible refine r_asg ?_ | with_reducible refine r_to ?_ | with_reducible refine r_ret ?_ | with_reducible refine r_for ?_ | with_reducible refine r_lc ?_ | with_reducible refine r_lc2 ?_ | with_reducible refine r_rng1 ?_ | with_reducible refine r_list ?_ | with_reducible refine r_tupI ?_ | with_reducible refine r_drop ?_ | with_reducible refine r_ifs ?_
  | with_reducible refine r_op ?_ | with_reducible refine r_c ?_ | with_reducible refine r_var rfl ?_ | with_reducible refine r_var (by assumption) ?_ | with_reducible refine r_I0 ?_ | with_reducible refine r_un ?_ | with_reducible refine r_U ?_ | with_reducible refine r_make ?_ | with_reducible refine r_makeS ?_ | with_reducible refine r_ifE ?_ | with_reducible refine r_cm ?_ | with_reducible refine r_mkV rfl ?_ | with_reducible refine r_sub ?_
  | with_reducible refine r_nil ?_ | with_reducible refine r_cons ?_ | with_reducible refine r_cb ?_ | with_reducible refine r_sl ?_ | with_reducible refine r_noP ?_ | with_reducible refine r_part ?_ | with_reducible refine r_isI ?_ | with_reducible refine r_lst ?_ | with_reducible refine r_tup ?_ | with_reducible refine r_call ?_ | with_reducible refine r_callS ?_ | with_reducible refine r_sFldU ?_ | with_reducible refine r_chain ?_ | with_reducible refine r_enum ?_ | with_reducible refine r_zip ?_ | with_reducible refine r_rng3 ?_ | with_reducible refine r_gtup ?_ | with_reducible refine r_methU ?_
  | with_reducible refine r_test ?_ | with_reducible refine r_B ?_ | with_reducible refine r_and ?_ | with_reducible refine r_or ?_ | with_reducible refine r_not ?_ | with_reducible refine r_andV ?_ | with_reducible refine r_orV ?_ | with_reducible refine r_notV ?_ | with_reducible refine r_bl ?_ | with_reducible refine r_yes ?_ | with_reducible refine r_int ?_ | with_reducible refine r_is0 ?_ | with_reducible refine r_is1 ?_ | with_reducible refine iteT ?_ | with_reducible refine iteF ?_ | with_reducible refine ite_nF ?_ | with_reducible refine ite_nT ?_
  | with_reducible refine r_mod (by decide) ?_ | with_reducible refine r_div (by decide) (by decide) ?_ | with_reducible refine r_mulR (by decide) (by decide) ?_ | with_reducible refine r_mulL (by decide) (by decide) ?_ | with_reducible refine r_pow (by decide) (by decide) (by decide) ?_))
/-! ### shortage and fits -/
section
variable {P : Program} {w : World} {K : PySem.W.Frag} {mg : Str → Option Value} {base : Heap} {C CA CT f : Addr} {fd : FuncData}
theorem sclShort : FnScope ["table", "amounts", "balance"] ["table", "amounts"] (defScope slShort) := ⟨rfl, rfl, rfl, by decide +kernel, rfl, by decide +kernel, by decide +kernel⟩
theorem ok_short {fS : Addr} {fdS : FuncData} (F : Fun K "shortage" "shortage" slShort f fd) (B : BalC K C)
    (DC : Df P w K mg base CX0 "check_size" 3 ["table", "amounts"] (spChS CA CT)) (DB : Df P w K mg base CX0 "balance_of" 11 ["table", "amounts"] (spBalOf K C CA CT)) (DI : Df P w K mg base CX0 "shortage_in" 2 ["amounts", "balance"] (spShIn K C CA))
    (mS : Meth K C "settle" fS) (oS : FnOk P w K mg base CX0 4 fS fdS ["self"] (spSettle K C)) (bS : Binds K fdS ["self"] []) : FnOk P w K mg base CX0 12 f fd ["table", "amounts"] (spShort CA CT) := by
  refine F.ok sclShort (fun vs H Q E h => ?_) (fun cdv A' outer s H vs Q E hr h => ?_)
  · obtain ⟨t, g, G, R, ms, ns, rfl, _⟩ := h
    rfl
  · obtain ⟨t, g, G, R, ms, ns, rfl, tb, sG, am, nn, k0, k1⟩ := h
    have hr4 := hr.mono (show 4 ≤ 11 by decide)
    refine ⟨_, (pss_cons (ps_expr (pe_df DC hr (by decide) (pa_cons (pv 0) (pa_cons (pv 1) pa_nil))))
  (pss_cons (ps_set (i := 2) sclShort.nd rfl (Or.inl rfl) (pe_df DB hr (by decide) (pa_cons (pv 0) (pa_cons (pv 1) pa_nil))))
  (pss_one (ps_ret (pe_ifExp (pt_val (pe_meth0 (pv 2) B.O.cl mS oS hr4 bS .nil pass0)) pe_non (pe_df DI hr (by decide) (pa_cons (pv 1) (pa_cons (pv 2) pa_nil)))))))), ?_⟩
    have I0 := sd_inv tb.g am.m am.n nn
    have g2 := (sd_gt tb.g am.m am.n).1
    walk_at "rd"
    refine ⟨t, g, G, R, ms, ns, rfl, tb, sG, am, ?_⟩
    walk_at "rd"
    refine ⟨t, g, G, R, ms, ns, rfl, tb, sG, am, fun G1 A H1 s1 hb => ?_⟩
    walk_at "rd"
    refine ⟨A.x, A.dx, balF A, rfl, hb.hx, rfl, ?_⟩
    walk_at "rd"
    refine ⟨G1, A, _, _, rfl, hb, g2, fun A2 b2 x H2 sr hb2 ex => ?_⟩
    obtain ⟨I2, f1, f2⟩ := settle_inv sr I0
    have s2 := s1.trans hb2.s
    cases x with
    | true =>
      refine ⟨_, rfl, ifT rfl ?_⟩
      walk_at "rd"
      exact k0 (fun p => fit_held I2 (f1 rfl) p) H2 s2
    | false =>
      have S := f2 rfl
      refine ⟨_, rfl, ifF rfl ?_⟩
      walk_at "rd"
      rw [← ex]
      obtain ⟨dx, p, q, a⟩ := am.o
      refine ⟨g, dx, p, q, ms, ns, G1, A2, _, b2, rfl, a.same s2, hb2, (by rw [S.w.lg]; exact g2.h8), fun t1 l H3 s3 n1 n2 ne h1 h2 => ?_⟩
      exact k1 _ (stuck_sh I2 S) t1 l H3 (s2.trans s3) (s2.free n1) (s2.free n2) ne h1 h2
theorem sclFits : FnScope ["table", "amounts"] ["table", "amounts"] (defScope slFits) := ⟨rfl, rfl, rfl, by decide +kernel, rfl, by decide +kernel, by decide +kernel⟩
theorem ok_fits (F : Fun K "fits" "fits" slFits f fd) (DS : Df P w K mg base CX0 "shortage" 12 ["table", "amounts"] (spShort CA CT)) : FnOk P w K mg base CX0 13 f fd ["table", "amounts"] (spFits CA CT) := by
  refine F.ok sclFits (fun vs H Q E h => ?_) (fun cdv A' outer s H vs Q E hr h => ?_)
  · obtain ⟨t, g, G, R, ms, ns, rfl, _⟩ := h
    rfl
  · obtain ⟨t, g, G, R, ms, ns, rfl, tb, sG, am, nn, k⟩ := h
    refine ⟨_, (pss_one (ps_ret (pe_cmpR op_is0 (pe_df DS hr (by decide) (pa_cons (pv 0) (pa_cons (pv 1) pa_nil))) pe_non (nomark _)))), ?_⟩
    walk_at "rd"
    refine ⟨t, g, G, R, ms, ns, rfl, tb, sG, am, nn, fun no H1 s1 => ?_, fun X sh t1 l H1 s1 n1 n2 ne h1 h2 => ?_⟩
    · walk_at "rd"
      exact k true H1 (fun _ => no) (fun z => by cases z) s1
    · walk_at "rd"
      exact k false H1 (fun z => by cases z) (fun _ => ⟨X, sh⟩) s1
end
end Pk
set_option Elab.async false
set_option linter.all false
set_option maxRecDepth 100000
set_option maxHeartbeats 4000000
namespace Pk
open PySem L2
local macro_rules | `(tactic| walk_at "rd") => `(tactic| repeat (first
  | with_reducible refine r_seq ?_ | with_reducible refine r_nxt ?_ | with_reducible refine r_asg ?_ | with_reducible refine r_to ?_ | with_reducible refine r_ret ?_ | with_reducible refine r_for ?_ | with_reducible refine r_lc ?_ | with_reducible refine r_lc2 ?_ | with_reducible refine r_rng1 ?_ | with_reducible refine r_list ?_ | with_reducible refine r_tupI ?_ | with_reducible refine r_drop ?_ | with_reducible refine r_ifs ?_
  | with_reducible refine r_op ?_ | with_reducible refine r_c ?_ | with_reducible refine r_var rfl ?_ | with_reducible refine r_var (by assumption) ?_ | with_reducible refine r_I0 ?_ | with_reducible refine r_un ?_ | with_reducible refine r_U ?_ | with_reducible refine r_make ?_ | with_reducible refine r_makeS ?_ | with_reducible refine r_ifE ?_ | with_reducible refine r_cm ?_ | with_reducible refine r_mkV rfl ?_ | with_reducible refine r_sub ?_
  | with_reducible refine r_nil ?_ | with_reducible refine r_cons ?_ | with_reducible refine r_cb ?_ | with_reducible refine r_sl ?_ | with_reducible refine r_noP ?_ | with_reducible refine r_part ?_ | with_reducible refine r_isI ?_ | with_reducible refine r_lst ?_ | with_reducible refine r_tup ?_ | with_reducible refine r_call ?_ | with_reducible refine r_callS ?_ | with_reducible refine r_sFldU ?_ | with_reducible refine r_chain ?_ | with_reducible refine r_enum ?_ | with_reducible refine r_zip ?_ | with_reducible refine r_rng3 ?_ | with_reducible refine r_gtup ?_ | with_reducible refine r_methU ?_
  | with_reducible refine r_test ?_ | with_reducible refine r_B ?_ | with_reducible refine r_and ?_ | with_reducible refine r_or ?_ | with_reducible refine r_not ?_ | with_reducible refine r_andV ?_ | with_reducible refine r_orV ?_ | with_reducible refine r_notV ?_ | with_reducible refine r_bl ?_ | with_reducible refine r_yes ?_ | with_reducible refine r_int ?_ | with_reducible refine r_is0 ?_ | with_reducible refine r_is1 ?_ | with_reducible refine iteT ?_ | with_reducible refine iteF ?_ | with_reducible refine ite_nF ?_ | with_reducible refine ite_nT ?_
  | with_reducible refine r_mod (by decide) ?_ | with_reducible refine r_div (by decide) (by decide) ?_ | with_reducible refine r_mulR (by decide) (by decide) ?_ | with_reducible refine r_mulL (by decide) (by decide) ?_ | with_reducible refine r_pow (by decide) (by decide) (by decide) ?_))
/-! ### a set of lines that holds more than all lines it meets -/
theorem r_ipJ {f : Int → Int → Int} {a b : Int} {H : Hp} {Q : VK} (h : Q (.int (f a b)) H) : ipI f (.int a) (.int b) H Q := ⟨a, b, rfl, rfl, h⟩
/-- a list of h rows of w truth values -/
def BS (H : Hp) (u : Addr) (h w : Nat) (f : Nat → Nat → Bool) : Prop := ∃ us, H u = some (.lst us) ∧ us.length = h ∧ ∀ i, i < h → ∃ c, us[i]? = some (.ref c) ∧ H c = some (.lst ((List.range w).map fun j => V.bl (f i j)))
theorem BS.same {H H' : Hp} {u : Addr} {h w : Nat} {f : Nat → Nat → Bool} (b : BS H u h w f) (s : Same H H') : BS H' u h w f := by
  obtain ⟨us, h1, h2, h3⟩ := b
  exact ⟨us, s _ _ h1, h2, fun i hi => by obtain ⟨c, e1, e2⟩ := h3 i hi; exact ⟨c, e1, s _ _ e2⟩⟩
def holdV (f : Nat → Nat → Bool) (w : Nat) (X : List Nat) (own others : List Int) : Int := (X.map fun k => own.getD k 0).sum - sm w fun j => if (X.any fun i => f i j) = true then others.getD j 0 else 0
def spHm : Sp := fun vs H Q _ => ∃ (u xl a b : Addr) (h w : Nat) (f : Nat → Nat → Bool) (X : List Nat) (own others : List Int), vs = [.ref u, .ref xl, .ref a, .ref b] ∧ BS H u h w f ∧ H xl = some (.lst (natV X)) ∧ (∀ k, k ∈ X → k < h) ∧ X.length ≤ 8 ∧ h ≤ 8 ∧ w ≤ 8 ∧
  H a = some (.lst (own.map V.int)) ∧ own.length = h ∧ H b = some (.lst (others.map V.int)) ∧ others.length = w ∧ ∀ H' : Hp, Same H H' → Q (.bl (decide (0 < holdV f w X own others))) H'
abbrev nmHm : List Str := ["_law_usable", "_law_lines", "_law_own", "_law_others", "_law_held", "_law_column", "_law_amount", "_law_k"]
abbrev slHm : Stmt := top 41
section
variable {P : Program} {w : World} {K : PySem.W.Frag} {mg : Str → Option Value} {base : Heap} {f : Addr} {fd : FuncData}
theorem sclHm : FnScope nmHm ["_law_usable", "_law_lines", "_law_own", "_law_others"] (defScope slHm) := ⟨rfl, rfl, rfl, by decide +kernel, rfl, by decide +kernel, by decide +kernel⟩
theorem natV_at {X : List Nat} {i : Nat} {y : V} (h : (natV X)[i]? = some y) : ∃ k, X[i]? = some k ∧ y = .int (k : Int) := by
  unfold natV at h
  rw [List.getElem?_map] at h
  obtain ⟨k, e, q⟩ := Option.map_eq_some_iff.mp h
  exact ⟨k, e, q.symm⟩
theorem natV_len (X : List Nat) : (natV X).length = X.length := by unfold natV; rw [List.length_map]
theorem ok_hm (F : Fun K "_law_holds_more" "_law_holds_more" slHm f fd) (T : Bt mg) (tsum : mg "sum" = none) : FnOk P w K mg base CX0 1 f fd ["_law_usable", "_law_lines", "_law_own", "_law_others"] spHm := by
  refine F.ok sclHm (fun vs H Q E h => ?_) (fun cdv A' outer s H vs Q E hr h => ?_)
  · obtain ⟨u, xl, a, b, h, w, f, X, own, others, rfl, _⟩ := h
    rfl
  · obtain ⟨u, xl, a, b, h, wn, fb, X, own, others, rfl, hu, hx, xh, x8, h8, w8, ha, al, hb, bl, k⟩ := h
    refine ⟨_, (pss_cons (ps_set (i := 4) sclHm.nd rfl (Or.inl rfl) (pe_callB (cr_sum rfl) (by rfl) T.sum (by decide +kernel) (pa_cons (pe_lc (own := [("_law_k", 7)]) (g := gName 7) (te := tOp (rIxL K) (tVar 2) (tVar 7)) rfl sclHm.nd (pi_list (pv 1)) (blkOk_by (own := [("_law_k", 7)]) (N := nmHm) (sc := defScope slHm) (by decide +kernel)) (fun _ _ _ _ _ => pg_name (i := 7) sclHm.nd rfl (Or.inl rfl)) (fun _ _ _ _ _ => pts_nil) (fun _ _ _ _ _ => (pe_ix ix_list (pv 2) (pv 7) (fun _ _ => rfl)))) pa_nil)))
  (pss_cons (ps_for PassesOwn.never rfl (pi_enum (by rfl) T.enumerate (pa_cons (pv 3) pa_nil)) (pg_tup (by rfl) (pgs_cons (pg_name (i := 5) sclHm.nd rfl (Or.inr rfl)) (pgs_cons (pg_name (i := 6) sclHm.nd rfl (Or.inl rfl)) pgs_nil))) (pss_one (ps_if (pt_cmpR op_gt (pe_callB cl_len (by rfl) T.len PySem.boot_len (pa_cons (pe_lc (own := [("_law_k", 7)]) (g := gName 7) (tt := tTest (tOp (rIxL K) (tOp (rIxL K) (tVar 0) (tVar 7)) (tVar 5))) rfl sclHm.nd (pi_list (pv 1)) (blkOk_by (own := [("_law_k", 7)]) (N := nmHm) (sc := defScope slHm) (by decide +kernel)) (fun _ _ _ _ _ => pg_name (i := 7) sclHm.nd rfl (Or.inl rfl)) (fun _ _ _ _ _ => pts_one (pt_val (pe_ix ix_list (pe_ix ix_list (pv 0) (pv 7) (fun _ _ => rfl)) (pv 5) (fun _ _ => rfl)))) (fun _ _ _ _ _ => (pv 7))) pa_nil)) pe_int (nomark _)) (pss_one (ps_aug (i := 4) sclHm.nd rfl (Or.inl rfl) (pv 6) ip_sub)) pss_nil)))
  (pss_one (ps_ret (pe_cmpR op_gt (pv 4) pe_int (nomark _)))))), ?_⟩
    walk_at "rd"
    refine ⟨xl, rfl, ⟨_, SqL.of hx⟩, fun D nD => lc_it walk_list (fun i H' => Same H H' ∧ H' D = some (.lst (((X.take i).map fun k => own.getD k 0).map V.int))) ⟨Same.up (Same.refl H) nD, by rw [upd_same, List.take_zero]; rfl⟩ (fun i H' _ z => SqL.of (z.1 _ _ hx)) ?_ ?_⟩
    · rintro i y H2 H3 hi ⟨s2, hD⟩ ⟨rfl, ey⟩
      obtain ⟨kx, ek, rfl⟩ := natV_at ey
      have kh := xh kx (List.mem_of_getElem? ek)
      have tk : X.take (i + 1) = X.take i ++ [kx] := by rw [List.take_add_one, ek]; rfl
      walk_at "rd"
      refine ⟨rfl, ?_⟩
      walk_at "rd"
      have at1 : (own.map V.int)[kx]? = some (V.int (own.getD kx 0)) := by
        rw [List.getElem?_map, List.getD_eq_getElem?_getD, List.getElem?_eq_getElem (by omega)]; rfl
      refine r_ixL (SqL.of (s2 _ _ ha)) (atI_nat at1) ?_
      refine ⟨_, hD, Nat.lt_of_le_of_lt (show _ ≤ 8 from by rw [List.length_map, List.length_map, List.length_take]; omega) (by decide), Same.upOff s2 nD, ?_⟩
      rw [upd_same, tk, List.map_append, List.map_append]; rfl
    · rintro H2 ⟨s2, hD⟩
      rw [natV_len, List.take_of_length_le (Nat.le_refl _)] at hD
      walk_at "rd"
      refine r_sum (SqL.of hD) ?_
      walk_at "rd"
      have hb2 := s2 _ _ hb
      refine ⟨b, others.map V.int, rfl, SqL.of hb2, for_it walk_enum (fun i σ H' => ∃ v5 v6 v7, σ = [some (.ref u), some (.ref xl), some (.ref a), some (.ref b), some (.int ((X.map fun k => own.getD k 0).sum - sm i fun j => if (X.any fun i => fb i j) = true then others.getD j 0 else 0)), v5, v6, v7] ∧ Same H H')
        ⟨none, none, none, by rw [show sm 0 _ = 0 from rfl, Int.sub_zero]; rfl, s2⟩ (fun i σ H' _ z => by obtain ⟨_, _, _, _, z⟩ := z; exact SqL.of (z _ _ hb)) ?_ ?_⟩
      · rintro j y σ H4 H5 hj ⟨v5, v6, v7, rfl, s4⟩ ⟨t5, i5, y5, rfl, ht5, rfl, e3, e4⟩
        cases (Option.some.inj e3)
        rw [List.length_map] at hj
        have e4 : (others.map V.int)[j]? = some y5 := e4
        have ey : y5 = V.int (others.getD j 0) := by
          rw [List.getElem?_map, List.getElem?_eq_getElem hj] at e4
          rw [List.getD_eq_getElem?_getD, List.getElem?_eq_getElem hj]
          exact (Option.some.inj e4).symm
        subst ey
        refine r_gtup ⟨t5, _, rfl, SqT.of upd_same, rfl, _, _, rfl, ?_⟩
        have s5 := Same.up (o := .tup [V.int (j : Int), V.int (others.getD j 0)]) s4 ht5
        generalize upd H4 t5 _ = H5 at s5 ⊢
        walk_at "rd"
        refine ⟨_, _, rfl, ?_⟩
        walk_at "rd"
        refine ⟨rfl, ?_⟩
        walk_at "rd"
        have hx5 := s5 _ _ hx
        obtain ⟨us, hus, ul, ur⟩ := hu.same s5
        refine ⟨xl, rfl, ⟨_, SqL.of hx5⟩, fun D2 nD2 => lc_it walk_list (fun i H' => Same H5 H' ∧ H' D2 = some (.lst (natV ((X.take i).filter fun i => fb i j)))) ⟨Same.up (Same.refl H5) nD2, by rw [upd_same, List.take_zero]; rfl⟩ (fun i H' _ z => SqL.of (z.1 _ _ hx5)) ?_ ?_⟩
        · rintro i y H6 H7 hi ⟨s6, hD6⟩ ⟨rfl, ey⟩
          obtain ⟨kx, ek, rfl⟩ := natV_at ey
          have kh := xh kx (List.mem_of_getElem? ek)
          have tk : X.take (i + 1) = X.take i ++ [kx] := by rw [List.take_add_one, ek]; rfl
          obtain ⟨c, ec, hc⟩ := ur kx kh
          walk_at "rd"
          refine ⟨rfl, ?_⟩
          walk_at "rd"
          refine r_ixL (SqL.of (s6 _ _ hus)) (atI_nat ec) ?_
          walk_at "rd"
          have at2 : ((List.range wn).map fun j => V.bl (fb kx j))[j]? = some (V.bl (fb kx j)) := by
            rw [List.getElem?_map, List.getElem?_range (by omega)]; rfl
          refine r_ixL (SqL.of (s6 _ _ hc)) (atI_nat at2) ?_
          refine ⟨_, rfl, ?_⟩
          cases fe : fb kx j with
          | false =>
            refine ifF rfl ⟨s6, ?_⟩
            rw [hD6, tk, List.filter_append, List.filter_cons_of_neg (by rw [fe]; exact Bool.false_ne_true), List.filter_nil, List.append_nil]
          | true =>
            refine ifT rfl ?_
            walk_at "rd"
            refine ⟨_, hD6, Nat.lt_of_le_of_lt (show _ ≤ 8 from by
              rw [natV_len]
              have := List.length_filter_le (fun i => fb i j) (X.take i)
              rw [List.length_take] at this
              omega) (by decide), Same.upOff s6 nD2, ?_⟩
            rw [upd_same, tk, List.filter_append, List.filter_cons_of_pos (by exact fe), List.filter_nil]
            unfold natV
            rw [List.map_append]; rfl
        · rintro H6 ⟨s6, hD6⟩
          rw [natV_len, List.take_of_length_le (Nat.le_refl _)] at hD6
          walk_at "rd"
          refine r_lenL (SqL.of hD6) ?_
          rw [natV_len]
          walk_at "rd"
          have s56 := s5.trans s6
          by_cases c : (X.any fun i => fb i j) = true
          · have pos : (0 : Int) < (((X.filter fun i => fb i j).length : Nat) : Int) := by
              obtain ⟨z, hz, fz⟩ := List.any_eq_true.mp c
              have := List.length_pos_of_mem ((List.mem_filter (p := fun i => fb i j)).mpr ⟨hz, fz⟩)
              omega
            refine ifT (decide_eq_true pos) ?_
            refine r_aug rfl ?_
            walk_at "rd"
            refine r_ipJ ?_
            refine ⟨some (.int (j : Int)), some (.int (others.getD j 0)), v7, ?_, s56⟩
            rw [sm_succ, if_pos c]
            rw [show ∀ x y z : Int, x - (y + z) = x - y - z from fun x y z => by omega]
            rfl
          · have zero : ¬ (0 : Int) < (((X.filter fun i => fb i j).length : Nat) : Int) := by
              intro p
              obtain ⟨z, hz⟩ := List.length_pos_iff_exists_mem.mp (show 0 < (X.filter fun i => fb i j).length by omega)
              obtain ⟨z1, z2⟩ := List.mem_filter.mp hz
              exact c (List.any_eq_true.mpr ⟨z, z1, z2⟩)
            refine ifF (decide_eq_false zero) ?_
            refine ⟨some (.int (j : Int)), some (.int (others.getD j 0)), v7, ?_, s56⟩
            rw [sm_succ, if_neg c, Int.add_zero]
            rfl
      · rintro σ H4 ⟨v5, v6, v7, rfl, s4⟩
        rw [show (others.map V.int).length = wn from by rw [List.length_map, bl]]
        walk_at "rd"
        exact k H4 s4
end
end Pk
set_option Elab.async false
set_option linter.all false
set_option maxRecDepth 100000
set_option maxHeartbeats 4000000
namespace Pk
open PySem L2
local macro_rules | `(tactic| walk_at "rd") => `(tactic| repeat (first
  | with_reducible refine r_seq ?_ | with_reducible refine r_nxt ?_ | with_reducible refine r_asg ?_ | with_reducible refine r_to ?_ | with_reducible refine r_ret ?_ | with_reducible refine r_for ?_ | with_reducible refine r_lc ?_ | with_reducible refine r_lc2 ?_ | with_reducible refine r_rng1 ?_ | with_reducible refine r_list ?_ | with_reducible refine r_tupI ?_ | with_reducible refine r_drop ?_ | with_reducible refine r_ifs ?_
  | with_reducible refine r_op ?_ | with_reducible refine r_c ?_ | with_reducible refine r_var rfl ?_ | with_reducible refine r_var (by assumption) ?_ | with_reducible refine r_I0 ?_ | with_reducible refine r_un ?_ | with_reducible refine r_U ?_ | with_reducible refine r_make ?_ | with_reducible refine r_makeS ?_ | with_reducible refine r_ifE ?_ | with_reducible refine r_cm ?_ | with_reducible refine r_mkV rfl ?_ | with_reducible refine r_sub ?_
  | with_reducible refine r_nil ?_ | with_reducible refine r_cons ?_ | with_reducible refine r_cb ?_ | with_reducible refine r_sl ?_ | with_reducible refine r_noP ?_ | with_reducible refine r_part ?_ | with_reducible refine r_isI ?_ | with_reducible refine r_lst ?_ | with_reducible refine r_tup ?_ | with_reducible refine r_call ?_ | with_reducible refine r_callS ?_ | with_reducible refine r_sFldU ?_ | with_reducible refine r_chain ?_ | with_reducible refine r_enum ?_ | with_reducible refine r_zip ?_ | with_reducible refine r_rng3 ?_ | with_reducible refine r_gtup ?_ | with_reducible refine r_methU ?_
  | with_reducible refine r_test ?_ | with_reducible refine r_B ?_ | with_reducible refine r_and ?_ | with_reducible refine r_or ?_ | with_reducible refine r_not ?_ | with_reducible refine r_andV ?_ | with_reducible refine r_orV ?_ | with_reducible refine r_notV ?_ | with_reducible refine r_bl ?_ | with_reducible refine r_yes ?_ | with_reducible refine r_int ?_ | with_reducible refine r_is0 ?_ | with_reducible refine r_is1 ?_ | with_reducible refine iteT ?_ | with_reducible refine iteF ?_ | with_reducible refine ite_nF ?_ | with_reducible refine ite_nT ?_
  | with_reducible refine r_mod (by decide) ?_ | with_reducible refine r_div (by decide) (by decide) ?_ | with_reducible refine r_mulR (by decide) (by decide) ?_ | with_reducible refine r_mulL (by decide) (by decide) ?_ | with_reducible refine r_pow (by decide) (by decide) (by decide) ?_))
/-! ### all sets of lines -/
def allX : Nat → List (List Nat)
  | 0 => [[]]
  | n + 1 => allX n ++ (allX n).map (· ++ [n])
theorem allX_len : ∀ n, (allX n).length = 2 ^ n
  | 0 => rfl
  | n + 1 => by rw [allX, List.length_append, List.length_map, allX_len n, Nat.pow_succ]; omega
theorem allX_lt : ∀ {n : Nat} {X : List Nat}, X ∈ allX n → X.Nodup ∧ X.length ≤ n ∧ ∀ k, k ∈ X → k < n
  | 0, X, h => by
    rw [List.mem_singleton.mp h]
    exact ⟨List.nodup_nil, Nat.le_refl _, fun k hk => by cases hk⟩
  | n + 1, X, h => by
    rcases List.mem_append.mp h with h | h
    · obtain ⟨h1, h2, h3⟩ := allX_lt h
      exact ⟨h1, by omega, fun k hk => by have := h3 k hk; omega⟩
    · obtain ⟨Y, hY, rfl⟩ := List.mem_map.mp h
      obtain ⟨h1, h2, h3⟩ := allX_lt hY
      refine ⟨List.nodup_append.mpr ⟨h1, List.nodup_cons.mpr ⟨List.not_mem_nil, List.nodup_nil⟩, fun a ha b hb e => ?_⟩, by rw [List.length_append]; simp; omega, fun k hk => ?_⟩
      · have := h3 a ha
        have := List.mem_singleton.mp hb
        omega
      · rcases List.mem_append.mp hk with hk | hk
        · have := h3 k hk; omega
        · have := List.mem_singleton.mp hk; omega
theorem allX_fil (p : Nat → Bool) : ∀ n, (List.range n).filter p ∈ allX n
  | 0 => List.mem_singleton.mpr rfl
  | n + 1 => by
    rw [List.range_succ, List.filter_append]
    by_cases c : p n = true
    · rw [List.filter_cons_of_pos c, List.filter_nil]
      exact List.mem_append_right _ (List.mem_map.mpr ⟨_, allX_fil p n, rfl⟩)
    · rw [List.filter_cons_of_neg c, List.filter_nil, List.append_nil]
      exact List.mem_append_left _ (allX_fil p n)
def anyV (f : Nat → Nat → Bool) (h w : Nat) (own others : List Int) : Bool := (allX h).any fun X => decide (0 < holdV f w X own others)
/-- a list of lists of lines -/
def PSet (H : Hp) (s : Addr) (Xs : List (List Nat)) : Prop := ∃ vs, H s = some (.lst vs) ∧ vs.length = Xs.length ∧ ∀ (i : Nat) (v : V), vs[i]? = some v → ∃ c, v = .ref c ∧ H c = some (.lst (natV (Xs.getD i [])))
theorem PSet.same {H H' : Hp} {s : Addr} {Xs : List (List Nat)} (h : PSet H s Xs) (q : Same H H') : PSet H' s Xs := by
  obtain ⟨vs, h1, h2, h3⟩ := h
  exact ⟨vs, q _ _ h1, h2, fun i v e => by obtain ⟨c, e1, e2⟩ := h3 i v e; exact ⟨c, e1, q _ _ e2⟩⟩
/-- such a list, under way -/
def PGrow (H0 : Hp) (D : Addr) (Xs : List (List Nat)) (i : Nat) (H : Hp) : Prop := Same H0 H ∧ ∃ fs, H D = some (.lst fs) ∧ fs.length = i ∧ ∀ (j : Nat) (v : V), fs[j]? = some v → ∃ c, v = .ref c ∧ c ≠ D ∧ H c = some (.lst (natV (Xs.getD j [])))
theorem PGrow.more {H0 H H' : Hp} {D g : Addr} {Xs : List (List Nat)} {i : Nat} {fs : List V} (nD : H0 D = none) (s : Same H0 H) (s2 : Same H H') (fl : fs.length = i) (fr : ∀ (j : Nat) (v : V), fs[j]? = some v → ∃ c, v = .ref c ∧ c ≠ D ∧ H c = some (.lst (natV (Xs.getD j [])))) (ng : g ≠ D) (hg : H' g = some (.lst (natV (Xs.getD i [])))) : PGrow H0 D Xs (i + 1) (upd H' D (.lst (fs ++ [.ref g]))) := by
  refine ⟨Same.upOff (s.trans s2) nD, fs ++ [.ref g], upd_same, by rw [List.length_append, fl]; rfl, fun j v e => ?_⟩
  by_cases c : j < fs.length
  · rw [List.getElem?_append_left c] at e
    obtain ⟨b, rfl, n, hb⟩ := fr j v e
    exact ⟨b, rfl, n, by rw [upd_ne n]; exact s2 _ _ hb⟩
  · rw [List.getElem?_append_right (by omega)] at e
    have : j = i := by
      have := (List.getElem?_eq_some_iff.mp e).1
      simp at this
      omega
    subst this
    rw [fl, Nat.sub_self] at e
    cases e
    exact ⟨g, rfl, ng, by rw [upd_ne ng]; exact hg⟩
def spAny40 : Sp := fun vs H Q _ => ∃ (u a b : Addr) (h w : Nat) (f : Nat → Nat → Bool) (own others : List Int), vs = [.ref u, .ref a, .ref b] ∧ BS H u h w f ∧ h ≤ 8 ∧ w ≤ 8 ∧
  H a = some (.lst (own.map V.int)) ∧ own.length = h ∧ H b = some (.lst (others.map V.int)) ∧ others.length = w ∧ ∀ H' : Hp, Same H H' → Q (.bl (anyV f h w own others)) H'
abbrev nmAny : List Str := ["_law_usable", "_law_own", "_law_others", "_law_sets", "_law_k", "_law_lines"]
abbrev slAny40 : Stmt := top 42
section
variable {P : Program} {w : World} {K : PySem.W.Frag} {mg : Str → Option Value} {base : Heap} {f : Addr} {fd : FuncData}
theorem sclAny40 : FnScope nmAny ["_law_usable", "_law_own", "_law_others"] (defScope slAny40) := ⟨rfl, rfl, rfl, by decide +kernel, rfl, by decide +kernel, by decide +kernel⟩
theorem ok_any40 (F : Fun K "_law_any_holds_more" "_law_any_holds_more" slAny40 f fd) (T : Bt mg) (DH : Df P w K mg base CX0 "_law_holds_more" 1 ["_law_usable", "_law_lines", "_law_own", "_law_others"] spHm) : FnOk P w K mg base CX0 2 f fd ["_law_usable", "_law_own", "_law_others"] spAny40 := by
  refine F.ok sclAny40 (fun vs H Q E h => ?_) (fun cdv A' outer s H vs Q E hr h => ?_)
  · obtain ⟨u, a, b, h, w, f, own, others, rfl, _⟩ := h
    rfl
  · obtain ⟨u, a, b, h, wn, fb, own, others, rfl, hu, h8, w8, ha, al, hb, bl, k⟩ := h
    refine ⟨_, (pss_cons (ps_set (i := 3) sclAny40.nd rfl (Or.inl rfl) (pe_lst (pa_cons (pe_lst pa_nil) pa_nil)))
  (pss_cons (ps_for PassesOwn.never rfl (pi_range1 rfl T.range (pa_cons (pe_callB cl_len (by rfl) T.len PySem.boot_len (pa_cons (pv 1) pa_nil)) pa_nil)) (pg_name (i := 4) sclAny40.nd rfl (Or.inr rfl)) (pss_one (ps_set (i := 3) sclAny40.nd rfl (Or.inl rfl) (pe_op op_cat (pv 3) (pe_lc (own := [("_law_lines", 5)]) (g := gName 5) (te := tOp rCat (tVar 5) (tLst (tCons (tVar 4) tNil))) rfl sclAny40.nd (pi_list (pv 3)) (blkOk_by (own := [("_law_lines", 5)]) (N := nmAny) (sc := defScope slAny40) (by decide +kernel)) (fun _ _ _ _ _ => pg_name (i := 5) sclAny40.nd rfl (Or.inl rfl)) (fun _ _ _ _ _ => pts_nil) (fun _ _ _ _ _ => (pe_op op_cat (pv 5) (pe_lst (pa_cons (pv 4) pa_nil)))))))))
  (pss_cons (ps_for PassesOwn.never rfl (pi_list (pv 3)) (pg_name (i := 5) sclAny40.nd rfl (Or.inl rfl)) (pss_one (ps_if (pt_val (pe_df DH hr (by decide) (pa_cons (pv 0) (pa_cons (pv 5) (pa_cons (pv 1) (pa_cons (pv 2) pa_nil)))))) (pss_one (ps_ret pe_bl)) pss_nil)))
  (pss_one (ps_ret pe_bl))))), ?_⟩
    walk_at "rd"
    refine ⟨Nat.zero_le _, fun c0 n0 => ?_⟩
    have s0 := Same.up (o := .lst []) (Same.refl H) n0
    have hc0 : upd H c0 (.lst []) c0 = some (.lst []) := upd_same
    generalize upd H c0 (.lst []) = H0 at s0 hc0 ⊢
    walk_at "rd"
    refine ⟨by show 1 ≤ sizeLine; decide, fun p0 m0 => ?_⟩
    have s1 := Same.up (o := .lst [V.ref c0]) (Same.refl H0) m0
    have hp0 : upd H0 p0 (.lst [V.ref c0]) p0 = some (.lst [V.ref c0]) := upd_same
    generalize upd H0 p0 (.lst [V.ref c0]) = H1 at s1 hp0 ⊢
    have P0 : PSet H1 p0 (allX 0) := ⟨_, hp0, rfl, fun i v e => by
      cases i with
      | zero => cases e; exact ⟨c0, rfl, s1 _ _ hc0⟩
      | succ i => simp at e⟩
    walk_at "rd"
    refine r_lenL (SqL.of (s1 _ _ (s0 _ _ ha))) ?_
    rw [List.length_map, al]
    walk_at "rd"
    refine ⟨_, rfl, by omega, by omega, for_it walk_range (fun n σ H' => ∃ q v4 v5, σ = [some (.ref u), some (.ref a), some (.ref b), some (.ref q), v4, v5] ∧ Same H H' ∧ PSet H' q (allX n)) ⟨p0, none, none, rfl, s0.trans s1, P0⟩ (fun _ _ _ _ _ => trivial) ?_ ?_⟩
    · rintro n y σ H2 H3 hn ⟨q, v4, v5, rfl, s2, P2⟩ ⟨rfl, rfl⟩
      obtain ⟨vs, hq, vl, vr⟩ := id P2
      have al := allX_len n
      have l256 : (allX n).length ≤ 128 := by
        rw [al]
        have : n ≤ 7 := by simp at hn; omega
        exact Nat.le_trans (Nat.pow_le_pow_right (by decide) this) (by decide)
      walk_at "rd"
      refine ⟨q, rfl, ⟨vs, SqL.of hq⟩, fun D nD => lc_it walk_list (PGrow H3 D ((allX n).map (· ++ [n]))) ⟨Same.up (Same.refl H3) nD, [], upd_same, rfl, fun j v e => by simp at e⟩ (fun i H' _ z => SqL.of (z.1 _ _ hq)) ?_ ?_⟩
      · rintro i y H4 H5 hi ⟨s4, fs, hD, fl, fr⟩ ⟨rfl, ey⟩
        obtain ⟨c, rfl, hc⟩ := vr i y ey
        have il : i < (allX n).length := by rw [← vl]; exact hi
        have Xl := (allX_lt (List.getElem_mem il)).2.1
        have gX : (allX n).getD i [] = (allX n)[i] := by rw [List.getD_eq_getElem?_getD, List.getElem?_eq_getElem il]; rfl
        rw [gX] at hc
        have n8 : n ≤ 8 := by simp at hn; omega
        walk_at "rd"
        refine ⟨rfl, ?_⟩
        walk_at "rd"
        refine ⟨by show 1 ≤ sizeLine; decide, fun e ne => ?_⟩
        have s5 := Same.up (o := .lst [V.int (0 + (n : Int))]) (Same.refl H5) ne
        have he : upd H5 e (.lst [V.int (0 + (n : Int))]) e = some (.lst [V.int (0 + (n : Int))]) := upd_same
        generalize upd H5 e (.lst [V.int (0 + (n : Int))]) = H6 at s5 he ⊢
        walk_at "rd"
        refine r_cat (s5 _ _ (s4 _ _ hc)) he (Nat.le_trans (show _ ≤ 16 by rw [natV_len]; show _ + 1 ≤ 16; omega) (by decide)) fun g ng => ?_
        have s6 := Same.up (o := .lst (natV ((allX n)[i]) ++ [V.int (0 + (n : Int))])) (Same.refl H6) ng
        have hg : upd H6 g (.lst (natV ((allX n)[i]) ++ [V.int (0 + (n : Int))])) g = some (.lst (natV (((allX n).map (· ++ [n])).getD i []))) := by
          rw [upd_same, List.getD_eq_getElem?_getD, List.getElem?_map, List.getElem?_eq_getElem il, Int.zero_add]
          unfold natV
          rw [show ((some (allX n)[i]).map (· ++ [n])).getD [] = (allX n)[i] ++ [n] from rfl, List.map_append]; rfl
        generalize upd H6 g _ = H7 at s6 hg ⊢
        have hD7 := s6 _ _ (s5 _ _ hD)
        refine ⟨fs, hD7, by rw [fl]; exact Nat.lt_of_le_of_lt (show i ≤ 128 by omega) (by decide), PGrow.more nD s4 (s5.trans s6) fl fr ?_ hg⟩
        exact fun z => by rw [z, s5 _ _ hD] at ng; cases ng
      · rintro H4 ⟨s4, fs, hD, fl, fr⟩
        rw [vl] at fl
        walk_at "rd"
        refine r_cat (s4 _ _ hq) hD (by rw [vl, fl]; exact Nat.le_trans (show _ ≤ 256 by omega) (by decide)) fun g ng => ?_
        have s6 := Same.up (o := .lst (vs ++ fs)) (Same.refl H4) ng
        have hg : upd H4 g (.lst (vs ++ fs)) g = some (.lst (vs ++ fs)) := upd_same
        generalize upd H4 g (.lst (vs ++ fs)) = H5 at s6 hg ⊢
        walk_at "rd"
        refine ⟨g, _, _, rfl, s2.trans (s4.trans s6), vs ++ fs, hg, by rw [allX, List.length_append, List.length_append, List.length_map, vl, fl], fun i v e => ?_⟩
        have lE : vs.length = (allX n).length := vl
        by_cases c : i < vs.length
        · rw [List.getElem?_append_left c] at e
          obtain ⟨b, rfl, hb⟩ := vr i v e
          refine ⟨b, rfl, ?_⟩
          rw [allX, List.getD_eq_getElem?_getD, List.getElem?_append_left (by rw [← lE]; exact c), ← List.getD_eq_getElem?_getD]
          exact s6 _ _ (s4 _ _ hb)
        · rw [List.getElem?_append_right (by omega)] at e
          obtain ⟨b, rfl, _, hb⟩ := fr _ v e
          refine ⟨b, rfl, ?_⟩
          rw [allX, List.getD_eq_getElem?_getD, List.getElem?_append_right (by rw [← lE]; omega), ← lE, ← List.getD_eq_getElem?_getD]
          exact s6 _ _ hb
    · rintro σ H2 ⟨q, v4, v5, rfl, s2, P2⟩
      have e8 : (h : Int).toNat = h := by omega
      rw [show (Int.toNat (h : Int)) = h from e8] at P2
      obtain ⟨vs, hq, vl, vr⟩ := id P2
      walk_at "rd"
      refine ⟨q, rfl, ⟨_, SqL.of hq⟩, for_it walk_list (fun i σ H' => ∃ v5, σ = [some (.ref u), some (.ref a), some (.ref b), some (.ref q), v4, v5] ∧ Same H2 H' ∧ (((allX h).take i).any fun X => decide (0 < holdV fb wn X own others)) = false) ⟨_, rfl, Same.refl H2, rfl⟩ (fun i σ H' _ z => by obtain ⟨_, _, z, _⟩ := z; exact SqL.of (z _ _ hq)) ?_ ?_⟩
      · rintro i y σ H3 H4 hi ⟨v5', rfl, s3, none0⟩ ⟨rfl, ey⟩
        obtain ⟨c, rfl, hc⟩ := vr i y ey
        have il : i < (allX h).length := by rw [← vl]; exact hi
        obtain ⟨Xn, Xl, Xh⟩ := allX_lt (List.getElem_mem il)
        have gX : (allX h).getD i [] = (allX h)[i] := by rw [List.getD_eq_getElem?_getD, List.getElem?_eq_getElem il]; rfl
        rw [gX] at hc
        have tk : (allX h).take (i + 1) = (allX h).take i ++ [(allX h)[i]] := by rw [List.take_add_one, List.getElem?_eq_getElem il]; rfl
        have s24 := s2.trans s3
        refine ⟨_, rfl, ?_⟩
        walk_at "rd"
        refine ⟨u, c, a, b, h, wn, fb, (allX h)[i], own, others, rfl, hu.same s24, s3 _ _ hc, Xh, by omega, h8, w8, s24 _ _ ha, al, s24 _ _ hb, bl, fun H5 s5 => ?_⟩
        refine ⟨_, rfl, ?_⟩
        cases e : decide (0 < holdV fb wn (allX h)[i] own others) with
        | true =>
          refine ifT rfl ?_
          walk_at "rd"
          have := k H5 (s24.trans s5)
          rw [show anyV fb h wn own others = true from List.any_eq_true.mpr ⟨_, List.getElem_mem il, e⟩] at this
          exact this
        | false =>
          refine ifF rfl ?_
          refine ⟨_, rfl, s3.trans s5, ?_⟩
          rw [tk, List.any_append, none0, List.any_cons, e]; rfl
      · rintro σ H3 ⟨v5', rfl, s3, none0⟩
        rw [vl, List.take_length] at none0
        walk_at "rd"
        have := k H3 (s2.trans s3)
        rw [show anyV fb h wn own others = false from none0] at this
        exact this
end
end Pk
set_option Elab.async false
set_option linter.all false
set_option maxRecDepth 100000
set_option maxHeartbeats 4000000
namespace Pk
open PySem L2
local macro_rules | `(tactic| walk_at "rd") => `(tactic| repeat (first
  | with_reducible refine r_seq ?_ | with_reducible refine r_nxt ?_ | with_reducible refine r_asg ?_ | with_reducible refine r_to ?_ | with_reducible refine r_ret ?_ | with_reducible refine r_for ?_ | with_reducible refine r_lc ?_ | with_reducible refine r_lc2 ?_ | with_reducible refine r_rng1 ?_ | with_reducible refine r_list ?_ | with_reducible refine r_tupI ?_ | with_reducible refine r_drop ?_ | with_reducible refine r_ifs ?_
  | with_reducible refine r_op ?_ | with_reducible refine r_c ?_ | with_reducible refine r_var rfl ?_ | with_reducible refine r_var (by assumption) ?_ | with_reducible refine r_I0 ?_ | with_reducible refine r_un ?_ | with_reducible refine r_U ?_ | with_reducible refine r_make ?_ | with_reducible refine r_makeS ?_ | with_reducible refine r_ifE ?_ | with_reducible refine r_cm ?_ | with_reducible refine r_mkV rfl ?_ | with_reducible refine r_sub ?_
  | with_reducible refine r_nil ?_ | with_reducible refine r_cons ?_ | with_reducible refine r_cb ?_ | with_reducible refine r_sl ?_ | with_reducible refine r_noP ?_ | with_reducible refine r_part ?_ | with_reducible refine r_isI ?_ | with_reducible refine r_lst ?_ | with_reducible refine r_tup ?_ | with_reducible refine r_call ?_ | with_reducible refine r_callS ?_ | with_reducible refine r_sFldU ?_ | with_reducible refine r_chain ?_ | with_reducible refine r_enum ?_ | with_reducible refine r_zip ?_ | with_reducible refine r_rng3 ?_ | with_reducible refine r_gtup ?_ | with_reducible refine r_methU ?_
  | with_reducible refine r_test ?_ | with_reducible refine r_B ?_ | with_reducible refine r_and ?_ | with_reducible refine r_or ?_ | with_reducible refine r_not ?_ | with_reducible refine r_andV ?_ | with_reducible refine r_orV ?_ | with_reducible refine r_notV ?_ | with_reducible refine r_bl ?_ | with_reducible refine r_yes ?_ | with_reducible refine r_int ?_ | with_reducible refine r_is0 ?_ | with_reducible refine r_is1 ?_ | with_reducible refine iteT ?_ | with_reducible refine iteF ?_ | with_reducible refine ite_nF ?_ | with_reducible refine ite_nT ?_
  | with_reducible refine r_mod (by decide) ?_ | with_reducible refine r_div (by decide) (by decide) ?_ | with_reducible refine r_mulR (by decide) (by decide) ?_ | with_reducible refine r_mulL (by decide) (by decide) ?_ | with_reducible refine r_pow (by decide) (by decide) (by decide) ?_))
/-! ### what is found is judged -/
def spLof : Sp := fun vs H Q _ => ∃ (l : Addr) (X : List Nat) (h : Nat), vs = [.ref l, .int (h : Int)] ∧ H l = some (.lst (natV X)) ∧ X ≠ [] ∧ X.Pairwise (· < ·) ∧ (∀ k, k ∈ X → k < h) ∧ Q (.bl true) H
/-- what is handed in is a shortage as it is told -/
def spJud40 : Sp := fun vs H Q _ => ∃ (t l u v a b : Addr) (z : Str) (X : List Nat) (h w : Nat) (f : Nat → Nat → Bool) (ms ns : List Int), vs = [.ref t, .ref u, .ref v, .ref a, .ref b] ∧ H t = some (.tup [.str z, .ref l]) ∧ H l = some (.lst (natV X)) ∧
  BS H u h w f ∧ BS H v w h (fun i j => f j i) ∧ h ≤ 8 ∧ w ≤ 8 ∧ H a = some (.lst (ms.map V.int)) ∧ ms.length = h ∧ H b = some (.lst (ns.map V.int)) ∧ ns.length = w ∧ X ≠ [] ∧ X.Pairwise (· < ·) ∧
  ((ms.sum - ns.sum ≤ 0 ∧ z = "stock" ∧ (∀ k, k ∈ X → k < h) ∧ 0 < holdV f w X ms ns) ∨ (0 ≤ ms.sum - ns.sum ∧ z = "wish" ∧ (∀ k, k ∈ X → k < w) ∧ 0 < holdV (fun i j => f j i) h X ns ms)) ∧ ∀ H' : Hp, Same H H' → Q (.bl true) H'
abbrev slLof : Stmt := top 43
abbrev slJud40 : Stmt := top 44
section
variable {P : Program} {w : World} {K : PySem.W.Frag} {mg : Str → Option Value} {base : Heap} {f : Addr} {fd : FuncData}
theorem sclLof : FnScope ["_law_found", "_law_size", "_law_last", "_law_k"] ["_law_found", "_law_size"] (defScope slLof) := ⟨rfl, rfl, rfl, by decide +kernel, rfl, by decide +kernel, by decide +kernel⟩
theorem ok_lof (F : Fun K "_law_is_list_of" "_law_is_list_of" slLof f fd) (T : Bt mg) : FnOk P w K mg base CX0 1 f fd ["_law_found", "_law_size"] spLof := by
  refine F.ok sclLof (fun vs H Q E h => ?_) (fun cdv A' outer s H vs Q E hr h => ?_)
  · obtain ⟨l, X, h, rfl, _⟩ := h
    rfl
  · obtain ⟨l, X, h, rfl, hl, ne, up, xh, k⟩ := h
    refine ⟨_, (pss_cons (ps_if (PW.pt (pw_or (pt_not (pt_val (pe_callB call_isi (by rfl) T.isinstance (by decide +kernel) (pa_cons (pv 0) (pa_cons (pe_bltn (v := .ty "list") (by rfl) T.list (by decide +kernel) rfl) pa_nil))))) (pw_or1 (pt_cmpR op_eq (pe_callB cl_len (by rfl) T.len PySem.boot_len (pa_cons (pv 0) pa_nil)) pe_int (nomark _))))) (pss_one (ps_ret pe_bl)) pss_nil)
  (pss_cons (ps_set (i := 2) sclLof.nd rfl (Or.inl rfl) (pe_un un_neg pe_int))
  (pss_cons (ps_for PassesOwn.never rfl (pi_list (pv 0)) (pg_name (i := 3) sclLof.nd rfl (Or.inl rfl)) (pss_cons (ps_if (PW.pt (pw_or (pt_not (pt_val (pe_callB call_isi (by rfl) T.isinstance (by decide +kernel) (pa_cons (pv 3) (pa_cons (pe_bltn (v := .ty "int") (by rfl) T.int (by decide +kernel) rfl) pa_nil))))) (pw_or1 (pt_val (pe_callB call_isi (by rfl) T.isinstance (by decide +kernel) (pa_cons (pv 3) (pa_cons (pe_bltn (v := .ty "bool") (by rfl) T.bool (by decide +kernel) rfl) pa_nil))))))) (pss_one (ps_ret pe_bl)) pss_nil)
  (pss_cons (ps_if (PW.pt (pw_or (pt_cmpR op_le (pv 3) (pv 2) (nomark _)) (pw_or1 (pt_cmpR op_ge (pv 3) (pv 1) (nomark _))))) (pss_one (ps_ret pe_bl)) pss_nil)
  (pss_one (ps_set (i := 2) sclLof.nd rfl (Or.inl rfl) (pv 3))))))
  (pss_one (ps_ret pe_bl))))), ?_⟩
    walk_at "rd"
    refine r_isi (.base (.lst hl)) (kit_l (.list [])) ?_
    walk_at "rd"
    refine ifF rfl ?_
    walk_at "rd"
    refine r_lenL (SqL.of hl) ?_
    rw [natV_len]
    walk_at "rd"
    have lp : ((X.length : Nat) : Int) ≠ 0 := by
      have := List.length_pos_iff.mpr ne
      omega
    refine r_eq rfl ?_
    rw [decide_eq_false (fun z => lp (V.int.inj z))]
    walk_at "rd"
    refine ⟨l, rfl, ⟨_, SqL.of hl⟩, for_it walk_list (fun i σ H' => ∃ last v3, σ = [some (.ref l), some (.int (h : Int)), some (.int last), v3] ∧ H' = H ∧ ∀ k, k ∈ X.drop i → last < (k : Int)) ⟨-1, none, rfl, rfl, fun k _ => by omega⟩ (fun i σ H' _ z => by obtain ⟨_, _, _, rfl, _⟩ := z; exact SqL.of hl) ?_ ?_⟩
    · rintro i y σ H2 H3 hi ⟨last, v3, rfl, rfl, lo⟩ ⟨rfl, ey⟩
      obtain ⟨kx, ek, rfl⟩ := natV_at ey
      have kh := xh kx (List.mem_of_getElem? ek)
      obtain ⟨hi', ek'⟩ := List.getElem?_eq_some_iff.mp ek
      have dr : X.drop i = kx :: X.drop (i + 1) := by rw [List.drop_eq_getElem_cons hi', ek']
      have l1 := lo kx (by rw [dr]; exact List.mem_cons_self ..)
      have up2 : (kx :: X.drop (i + 1)).Pairwise (· < ·) := by rw [← dr]; exact up.sublist (List.drop_sublist _ _)
      refine ⟨_, rfl, ?_⟩
      walk_at "rd"
      refine r_isi (.base (.int _)) (kit_i (.int 0)) ?_
      walk_at "rd"
      refine ifF rfl ?_
      walk_at "rd"
      refine r_isi (.base (.int _)) (kit_b (.int 0)) ?_
      walk_at "rd"
      refine ifF rfl ?_
      walk_at "rd"
      refine ifF (decide_eq_false (by omega)) ?_
      walk_at "rd"
      refine ifF (decide_eq_false (by omega)) ?_
      walk_at "rd"
      refine ⟨(kx : Int), _, rfl, rfl, fun k hk => ?_⟩
      have := (List.pairwise_cons.mp up2).1 k hk
      omega
    · rintro σ H2 ⟨last, v3, rfl, rfl, lo⟩
      walk_at "rd"
      exact k
theorem sclJud40 : FnScope ["_law_found", "_law_usable", "_law_turned", "_law_stocks", "_law_wishes", "_law_over", "_law_good"] ["_law_found", "_law_usable", "_law_turned", "_law_stocks", "_law_wishes"] (defScope slJud40) := ⟨rfl, rfl, rfl, by decide +kernel, rfl, by decide +kernel, by decide +kernel⟩
theorem ok_jud40 (F : Fun K "_law_judged" "_law_judged" slJud40 f fd) (T : Bt mg) (tsum : mg "sum" = none) (DL : Df P w K mg base CX0 "_law_is_list_of" 1 ["_law_found", "_law_size"] spLof) (DH : Df P w K mg base CX0 "_law_holds_more" 1 ["_law_usable", "_law_lines", "_law_own", "_law_others"] spHm) :
    FnOk P w K mg base CX0 2 f fd ["_law_found", "_law_usable", "_law_turned", "_law_stocks", "_law_wishes"] spJud40 := by
  refine F.ok sclJud40 (fun vs H Q E h => ?_) (fun cdv A' outer s H vs Q E hr h => ?_)
  · obtain ⟨t, l, u, v, a, b, z, X, h, w, f, ms, ns, rfl, _⟩ := h
    rfl
  · obtain ⟨t, l, u, v, a, b, z, X, h, wn, fb, ms, ns, rfl, ht, hl, hu, hv, h8, w8, ha, al, hb, bl, ne, up, good, k⟩ := h
    refine ⟨_, (pss_cons (ps_if (PW.pt (pw_or (pt_not (pt_val (pe_callB call_isi (by rfl) T.isinstance (by decide +kernel) (pa_cons (pv 0) (pa_cons (pe_bltn (v := .ty "tuple") (by rfl) T.tuple (by decide +kernel) rfl) pa_nil))))) (pw_or1 (pt_cmpR op_ne (pe_callB cl_len (by rfl) T.len PySem.boot_len (pa_cons (pv 0) pa_nil)) pe_int (nomark _))))) (pss_one (ps_ret pe_bl)) pss_nil)
  (pss_cons (ps_set (i := 5) sclJud40.nd rfl (Or.inl rfl) (pe_op op_sub (pe_callB (cr_sum rfl) (by rfl) T.sum (by decide +kernel) (pa_cons (pv 3) pa_nil)) (pe_callB (cr_sum rfl) (by rfl) T.sum (by decide +kernel) (pa_cons (pv 4) pa_nil))))
  (pss_cons (ps_if (PW.pt (pw_and (pt_cmpR op_eq (pe_ix ix_tup (pv 0) pe_int (fun _ _ => rfl)) pe_str (nomark _)) (pw_and1 (pt_cmpR op_le (pv 5) pe_int (nomark _))))) (pss_cons (ps_set (i := 6) sclJud40.nd rfl (Or.inl rfl) (pe_df DL hr (by decide) (pa_cons (pe_ix ix_tup (pv 0) pe_int (fun _ _ => rfl)) (pa_cons (pe_callB cl_len (by rfl) T.len PySem.boot_len (pa_cons (pv 3) pa_nil)) pa_nil))))
  (pss_one (ps_ret (pe_and (pv 6) (pe_one (pe_df DH hr (by decide) (pa_cons (pv 1) (pa_cons (pe_ix ix_tup (pv 0) pe_int (fun _ _ => rfl)) (pa_cons (pv 3) (pa_cons (pv 4) pa_nil)))))))))) pss_nil)
  (pss_cons (ps_if (PW.pt (pw_and (pt_cmpR op_eq (pe_ix ix_tup (pv 0) pe_int (fun _ _ => rfl)) pe_str (nomark _)) (pw_and1 (pt_cmpR op_ge (pv 5) pe_int (nomark _))))) (pss_cons (ps_set (i := 6) sclJud40.nd rfl (Or.inl rfl) (pe_df DL hr (by decide) (pa_cons (pe_ix ix_tup (pv 0) pe_int (fun _ _ => rfl)) (pa_cons (pe_callB cl_len (by rfl) T.len PySem.boot_len (pa_cons (pv 4) pa_nil)) pa_nil))))
  (pss_one (ps_ret (pe_and (pv 6) (pe_one (pe_df DH hr (by decide) (pa_cons (pv 2) (pa_cons (pe_ix ix_tup (pv 0) pe_int (fun _ _ => rfl)) (pa_cons (pv 4) (pa_cons (pv 3) pa_nil)))))))))) pss_nil)
  (pss_one (ps_ret pe_bl)))))), ?_⟩
    have x8 : ∀ n, n ≤ 8 → (∀ k, k ∈ X → k < n) → X.length ≤ 8 := fun n n8 q => by
      have nd : X.Nodup := up.imp fun h => Nat.ne_of_lt h
      have := List.Nodup.length_le_of_subset nd (l₂ := List.range n) fun k hk => List.mem_range.mpr (q k hk)
      rw [List.length_range] at this
      omega
    walk_at "rd"
    refine r_isi (.base (.tup ht)) (kit_t (.tuple [])) ?_
    walk_at "rd"
    refine ifF rfl ?_
    walk_at "rd"
    refine r_lenT (SqT.of ht) ?_
    walk_at "rd"
    refine r_ne rfl ?_
    walk_at "rd"
    refine ifF rfl ?_
    walk_at "rd"
    refine r_sum (SqL.of ha) ?_
    walk_at "rd"
    refine r_sum (SqL.of hb) ?_
    walk_at "rd"
    obtain ⟨ov, eov⟩ : ∃ ov, ov = ms.sum - ns.sum := ⟨_, rfl⟩
    rw [← eov] at good ⊢
    refine r_ixT (SqT.of ht) (atI_nat (j := 0) rfl) ?_
    walk_at "rd"
    refine r_eq rfl ?_
    rcases good with ⟨c, rfl, xh, hold⟩ | ⟨c, rfl, xh, hold⟩
    · rw [decide_eq_true (rfl : V.str "stock" = V.str "stock")]
      walk_at "rd"
      refine ifT (decide_eq_true c) ?_
      walk_at "rd"
      refine r_ixT (SqT.of ht) (atI_nat (j := 1) rfl) ?_
      walk_at "rd"
      refine r_lenL (SqL.of ha) ?_
      rw [List.length_map, al]
      walk_at "rd"
      refine ⟨l, X, h, rfl, hl, ne, up, xh, ?_⟩
      walk_at "rd"
      refine r_ixT (SqT.of ht) (atI_nat (j := 1) rfl) ?_
      walk_at "rd"
      refine ⟨u, l, a, b, h, wn, fb, X, ms, ns, rfl, hu, hl, xh, x8 h h8 xh, h8, w8, ha, al, hb, bl, fun H' s => ?_⟩
      rw [decide_eq_true hold]
      exact k H' s
    · rw [decide_eq_false (show ¬ V.str "wish" = V.str "stock" from fun z => by cases z)]
      walk_at "rd"
      refine r_ixT (SqT.of ht) (atI_nat (j := 0) rfl) ?_
      walk_at "rd"
      refine r_eq rfl ?_
      rw [decide_eq_true (rfl : V.str "wish" = V.str "wish")]
      walk_at "rd"
      refine ifT (decide_eq_true c) ?_
      walk_at "rd"
      refine r_ixT (SqT.of ht) (atI_nat (j := 1) rfl) ?_
      walk_at "rd"
      refine r_lenL (SqL.of hb) ?_
      rw [List.length_map, bl]
      walk_at "rd"
      refine ⟨l, X, wn, rfl, hl, ne, up, xh, ?_⟩
      walk_at "rd"
      refine r_ixT (SqT.of ht) (atI_nat (j := 1) rfl) ?_
      walk_at "rd"
      refine ⟨v, l, b, a, wn, h, _, X, ns, ms, rfl, hv, hl, xh, x8 wn w8 xh, w8, h8, hb, bl, ha, al, fun H' s => ?_⟩
      rw [decide_eq_true hold]
      exact k H' s
end
end Pk
set_option Elab.async false
set_option linter.all false
set_option maxRecDepth 100000
set_option maxHeartbeats 4000000
namespace Pk
open PySem L2
local macro_rules | `(tactic| walk_at "rd") => `(tactic| repeat (first
  | with_reducible refine r_seq ?_ | with_reducible refine r_nxt ?_ | with_reducible refine r_asg ?_ | with_reducible refine r_to ?_ | with_reducible refine r_ret ?_ | with_reducible refine r_for ?_ | with_reducible refine r_lc ?_ | with_reducible refine r_lc2 ?_ | with_reducible refine r_rng1 ?_ | with_reducible refine r_list ?_ | with_reducible refine r_tupI ?_ | with_reducible refine r_drop ?_ | with_reducible refine r_ifs ?_
  | with_reducible refine r_op ?_ | with_reducible refine r_c ?_ | with_reducible refine r_var rfl ?_ | with_reducible refine r_var (by assumption) ?_ | with_reducible refine r_I0 ?_ | with_reducible refine r_un ?_ | with_reducible refine r_U ?_ | with_reducible refine r_make ?_ | with_reducible refine r_makeS ?_ | with_reducible refine r_ifE ?_ | with_reducible refine r_cm ?_ | with_reducible refine r_mkV rfl ?_ | with_reducible refine r_sub ?_
  | with_reducible refine r_nil ?_ | with_reducible refine r_cons ?_ | with_reducible refine r_cb ?_ | with_reducible refine r_sl ?_ | with_reducible refine r_noP ?_ | with_reducible refine r_part ?_ | with_reducible refine r_isI ?_ | with_reducible refine r_lst ?_ | with_reducible refine r_tup ?_ | with_reducible refine r_call ?_ | with_reducible refine r_callS ?_ | with_reducible refine r_sFldU ?_ | with_reducible refine r_chain ?_ | with_reducible refine r_enum ?_ | with_reducible refine r_zip ?_ | with_reducible refine r_rng3 ?_ | with_reducible refine r_gtup ?_ | with_reducible refine r_methU ?_
  | with_reducible refine r_test ?_ | with_reducible refine r_B ?_ | with_reducible refine r_and ?_ | with_reducible refine r_or ?_ | with_reducible refine r_not ?_ | with_reducible refine r_andV ?_ | with_reducible refine r_orV ?_ | with_reducible refine r_notV ?_ | with_reducible refine r_bl ?_ | with_reducible refine r_yes ?_ | with_reducible refine r_int ?_ | with_reducible refine r_is0 ?_ | with_reducible refine r_is1 ?_ | with_reducible refine iteT ?_ | with_reducible refine iteF ?_ | with_reducible refine ite_nF ?_ | with_reducible refine ite_nT ?_
  | with_reducible refine r_mod (by decide) ?_ | with_reducible refine r_div (by decide) (by decide) ?_ | with_reducible refine r_mulR (by decide) (by decide) ?_ | with_reducible refine r_mulL (by decide) (by decide) ?_ | with_reducible refine r_pow (by decide) (by decide) (by decide) ?_))
/-! ### the law's shortage is the program's -/
def fR (R : Rw) (i j : Nat) : Bool := (prc R i j).isSome
def shortB (R : Rw) (ms ns : List Int) : Bool := if ms.sum < ns.sum then anyV (fR R) R.length (wd R) ms ns else anyV (fun i j => fR R j i) (wd R) R.length ns ms
theorem holdV_congr {f f' : Nat → Nat → Bool} {w : Nat} {X : List Nat} {own others : List Int} (h : ∀ i, i ∈ X → ∀ j, j < w → f i j = f' i j) : holdV f w X own others = holdV f' w X own others := by
  unfold holdV
  congr 1
  refine sm_congr fun j hj => ?_
  have : (X.any fun i => f i j) = X.any fun i => f' i j := by
    rw [Bool.eq_iff_iff, List.any_eq_true, List.any_eq_true]
    exact ⟨fun ⟨i, hi, e⟩ => ⟨i, hi, by rw [← h i hi j hj]; exact e⟩, fun ⟨i, hi, e⟩ => ⟨i, hi, by rw [h i hi j hj]; exact e⟩⟩
  rw [this]
theorem holdV_held {R : Rw} {gs ts : List Int} {X : List Nat} (nd : X.Nodup) (lt : ∀ k, k ∈ X → k < R.length) : holdV (fR R) (wd R) X gs ts = heldP R gs ts fun k => decide (k ∈ X) := by
  unfold holdV heldP
  rw [pSum_list nd lt]
  congr 1
  refine sm_congr fun j _ => ?_
  have : (X.any fun i => fR R i j) = metP R (fun k => decide (k ∈ X)) j := by
    rw [Bool.eq_iff_iff, List.any_eq_true, metP_iff]
    exact ⟨fun ⟨i, hi, e⟩ => ⟨i, lt i hi, decide_eq_true hi, e⟩, fun ⟨i, _, c, e⟩ => ⟨i, of_decide_eq_true c, e⟩⟩
  rw [this]
theorem pSum_congr {n : Nat} {p q : Nat → Bool} {ms : List Int} (h : ∀ k, k < n → p k = q k) : pSum n p ms = pSum n q ms := sm_congr fun k hk => by rw [h k hk]
theorem heldP_congr {R : Rw} {gs ts : List Int} {p q : Nat → Bool} (h : ∀ k, k < R.length → p k = q k) : heldP R gs ts p = heldP R gs ts q := by
  unfold heldP
  rw [pSum_congr h, pSum_congr (p := metP R p) (q := metP R q) fun j _ => ?_]
  rw [Bool.eq_iff_iff, metP_iff, metP_iff]
  exact ⟨fun ⟨i, hi, c, e⟩ => ⟨i, hi, by rw [← h i hi]; exact c, e⟩, fun ⟨i, hi, c, e⟩ => ⟨i, hi, by rw [h i hi]; exact c, e⟩⟩
theorem anyV_iff {R : Rw} {gs ts : List Int} : anyV (fR R) R.length (wd R) gs ts = true ↔ ∃ p, 0 < heldP R gs ts p := by
  unfold anyV
  rw [List.any_eq_true]
  constructor
  · rintro ⟨X, hX, e⟩
    obtain ⟨h1, h2, h3⟩ := allX_lt hX
    have e := of_decide_eq_true e
    rw [holdV_held h1 h3] at e
    exact ⟨_, e⟩
  · rintro ⟨p, e⟩
    refine ⟨_, allX_fil p R.length, decide_eq_true ?_⟩
    obtain ⟨h1, h2, h3⟩ := allX_lt (allX_fil p R.length)
    rw [holdV_held h1 h3, heldP_congr (q := p) fun k hk => ?_]
    · exact e
    · rw [Bool.eq_iff_iff, decide_eq_true_iff, List.mem_filter, List.mem_range]
      exact ⟨fun z => z.2, fun z => ⟨hk, z⟩⟩
theorem tr_fR {R : Rw} {i j : Nat} (hi : i < wd R) (hj : j < R.length) : fR (trR R) i j = fR R j i := by unfold fR; rw [trR_prc hj hi]
theorem anyV_tr {R : Rw} (g : Gt R) {gs ts : List Int} : anyV (fun i j => fR R j i) (wd R) R.length gs ts = anyV (fR (trR R)) (trR R).length (wd (trR R)) gs ts := by
  rw [trR_len, (trR_gt g).2]
  unfold anyV
  rw [Bool.eq_iff_iff, List.any_eq_true, List.any_eq_true]
  have e : ∀ X, X ∈ allX (wd R) → holdV (fun i j => fR R j i) R.length X gs ts = holdV (fR (trR R)) R.length X gs ts := fun X hX => holdV_congr fun i hi j hj => (tr_fR ((allX_lt hX).2.2 i hi) hj).symm
  exact ⟨fun ⟨X, h1, h2⟩ => ⟨X, h1, by rw [← e X h1]; exact h2⟩, fun ⟨X, h1, h2⟩ => ⟨X, h1, by rw [e X h1]; exact h2⟩⟩
section
variable {R : Rw} {ms ns : List Int}
theorem short_iff (g : Gt R) (l1 : ms.length = R.length) (l2 : ns.length = wd R) (nn : NnA ms ns) : shortB R ms ns = true ↔ ∃ p, 0 < heldP (sdR R ms ns) (sdG ms ns) (sdT ms ns) p := by
  obtain ⟨g2, w2⟩ := trR_gt g
  have nnk : ∀ {xs : List Int}, (∀ x, x ∈ xs → 0 ≤ x) → ∀ k, 0 ≤ xs.getD k 0 := fun {xs} h k => by
    rw [List.getD_eq_getElem?_getD]
    cases e : xs[k]? with
    | none => exact Int.le_refl _
    | some x => exact h x (List.mem_of_getElem? e)
  unfold shortB sdR sdG sdT
  by_cases c : ms.sum < ns.sum
  · rw [if_pos c]
    simp only [if_pos (show ms.sum - ns.sum ≤ 0 by omega)]
    exact anyV_iff
  · rw [if_neg c, anyV_tr g, anyV_iff]
    by_cases d : ms.sum - ns.sum ≤ 0
    · simp only [if_pos d]
      constructor
      · rintro ⟨p, e⟩
        have h := held_turn (R := trR R) (R' := R) (gs := ns) (ts := ms) w2.symm (trR_len R).symm (fun i j hi hj => (trR_prc (by rw [w2] at hj; exact hj) (by rw [trR_len] at hi; exact hi)).symm) (by rw [trR_len]; exact l2) (by rw [w2]; exact l1) (fun k _ => nnk nn.n k) p
        exact ⟨_, Int.lt_of_lt_of_le (by omega) h⟩
      · rintro ⟨p, e⟩
        have h := held_turn (R := R) (R' := trR R) (gs := ms) (ts := ns) (trR_len R) w2 (fun i j hi hj => trR_prc hi hj) l1 l2 (fun k _ => nnk nn.m k) p
        exact ⟨_, Int.lt_of_lt_of_le (by omega) h⟩
    · simp only [if_neg d]
theorem no_short (g : Gt R) (l1 : ms.length = R.length) (l2 : ns.length = wd R) (nn : NnA ms ns) (h : NoSh R ms ns) : shortB R ms ns = false := by
  cases e : shortB R ms ns with
  | false => rfl
  | true =>
    obtain ⟨p, q⟩ := (short_iff g l1 l2 nn).mp e
    have := h p
    omega
theorem is_short (g : Gt R) (l1 : ms.length = R.length) (l2 : ns.length = wd R) (nn : NnA ms ns) {X : List Nat} (h : ShX R ms ns X) : shortB R ms ns = true := (short_iff g l1 l2 nn).mpr ⟨_, h.more⟩
theorem sh_good (g : Gt R) {X : List Nat} (h : ShX R ms ns X) : (ms.sum - ns.sum ≤ 0 ∧ wordS ms ns = "stock" ∧ (∀ k, k ∈ X → k < R.length) ∧ 0 < holdV (fR R) (wd R) X ms ns) ∨ (0 ≤ ms.sum - ns.sum ∧ wordS ms ns = "wish" ∧ (∀ k, k ∈ X → k < wd R) ∧ 0 < holdV (fun i j => fR R j i) R.length X ns ms) := by
  obtain ⟨ne, up, lt, more⟩ := h
  have nd : X.Nodup := up.imp fun h => Nat.ne_of_lt h
  rw [← holdV_held nd lt] at more
  unfold sdR sdG sdT at more
  unfold sdR at lt
  unfold wordS
  by_cases c : ms.sum - ns.sum ≤ 0
  · simp only [if_pos c] at lt more ⊢
    exact .inl ⟨c, trivial, lt, more⟩
  · simp only [if_neg c] at lt more ⊢
    rw [trR_len] at lt
    refine .inr ⟨by omega, trivial, lt, ?_⟩
    rw [(trR_gt g).2] at more
    rw [holdV_congr (f' := fR (trR R)) fun i hi j hj => (tr_fR (lt i hi) hj).symm]
    exact more
end
end Pk
set_option Elab.async false
set_option linter.all false
set_option maxRecDepth 100000
set_option maxHeartbeats 4000000
namespace Pk
open PySem L2
local macro_rules | `(tactic| walk_at "rd") => `(tactic| repeat (first
  | with_reducible refine r_seq ?_ | with_reducible refine r_nxt ?_ | with_reducible refine r_asg ?_ | with_reducible refine r_to ?_ | with_reducible refine r_ret ?_ | with_reducible refine r_for ?_ | with_reducible refine r_lc ?_ | with_reducible refine r_lc2 ?_ | with_reducible refine r_rng1 ?_ | with_reducible refine r_list ?_ | with_reducible refine r_tupI ?_ | with_reducible refine r_drop ?_ | with_reducible refine r_ifs ?_
  | with_reducible refine r_op ?_ | with_reducible refine r_c ?_ | with_reducible refine r_var rfl ?_ | with_reducible refine r_var (by assumption) ?_ | with_reducible refine r_I0 ?_ | with_reducible refine r_un ?_ | with_reducible refine r_U ?_ | with_reducible refine r_make ?_ | with_reducible refine r_makeS ?_ | with_reducible refine r_ifE ?_ | with_reducible refine r_cm ?_ | with_reducible refine r_mkV rfl ?_ | with_reducible refine r_sub ?_
  | with_reducible refine r_nil ?_ | with_reducible refine r_cons ?_ | with_reducible refine r_cb ?_ | with_reducible refine r_sl ?_ | with_reducible refine r_noP ?_ | with_reducible refine r_part ?_ | with_reducible refine r_isI ?_ | with_reducible refine r_lst ?_ | with_reducible refine r_tup ?_ | with_reducible refine r_call ?_ | with_reducible refine r_callS ?_ | with_reducible refine r_sFldU ?_ | with_reducible refine r_chain ?_ | with_reducible refine r_enum ?_ | with_reducible refine r_zip ?_ | with_reducible refine r_rng3 ?_ | with_reducible refine r_gtup ?_ | with_reducible refine r_methU ?_
  | with_reducible refine r_test ?_ | with_reducible refine r_B ?_ | with_reducible refine r_and ?_ | with_reducible refine r_or ?_ | with_reducible refine r_not ?_ | with_reducible refine r_andV ?_ | with_reducible refine r_orV ?_ | with_reducible refine r_notV ?_ | with_reducible refine r_bl ?_ | with_reducible refine r_yes ?_ | with_reducible refine r_int ?_ | with_reducible refine r_is0 ?_ | with_reducible refine r_is1 ?_ | with_reducible refine iteT ?_ | with_reducible refine iteF ?_ | with_reducible refine ite_nF ?_ | with_reducible refine ite_nT ?_
  | with_reducible refine r_mod (by decide) ?_ | with_reducible refine r_div (by decide) (by decide) ?_ | with_reducible refine r_mulR (by decide) (by decide) ?_ | with_reducible refine r_mulL (by decide) (by decide) ?_ | with_reducible refine r_pow (by decide) (by decide) (by decide) ?_))
/-! ### the law -/
abbrev nmLaw : List Str := ["_law_script", "_law_head", "_law_m", "_law_n", "_law_grid_here", "_law_stocks", "_law_wishes", "_law_usable", "_law_turned", "_law_short", "_law_table", "_law_amounts_here", "_law_turn", "_law_answer", "_law_found", "_law_row", "_law_j", "_law_price"]
abbrev slaw : Stmt := top 45
theorem sclaw : FnScope nmLaw ["_law_script"] (defScope slaw) := ⟨rfl, rfl, rfl, by decide +kernel, rfl, by decide +kernel, by decide +kernel⟩
def spLaw (K : PySem.W.Frag) : Sp := fun vs H Q _ => ∃ (l : Addr) (ns : List Int), vs = [.ref l] ∧ SqL K H l (ns.map V.int) ∧ ns.length ≤ 63 ∧ ∀ H' : Hp, Q (.bl true) H'
abbrev xLaw (P : Program) (w : World) (K : PySem.W.Frag) (mg : Str → Option Value) (base : Heap) (f : Addr) (cdv : Value) (A : Around) (outer : List Env) (s : Shared) (H0 : Hp) (E : XK) : Cx := (cxOf CX0 P w K mg base nmLaw "law" (defScope slaw) f cdv A outer s H0 E).nox
structure LD (P : Program) (w : World) (K : PySem.W.Frag) (mg : Str → Option Value) (base : Heap) (C CE CA CEA : Addr) : Prop where
  lDraws : Df P w K mg base CX0 "_law_draws" 2 ["_law_script", "_law_spot", "_law_sizes"] (spDraws K)
  lGrid : Df P w K mg base CX0 "_law_grid" 3 ["_law_script", "_law_spot", "_law_m", "_law_n", "_law_style", "_law_share"] (spGrid K)
  lCopy : Df P w K mg base CX0 "_law_copy" 1 ["_law_grid_here"] (spLCpy K)
  lAmts : Df P w K mg base CX0 "_law_amounts" 3 ["_law_script", "_law_spot", "_law_m", "_law_n", "_law_many", "_law_level"] (spAmts K)
  lAny : Df P w K mg base CX0 "_law_any_holds_more" 2 ["_law_usable", "_law_own", "_law_others"] spAny40
  lJud : Df P w K mg base CX0 "_law_judged" 2 ["_law_found", "_law_usable", "_law_turned", "_law_stocks", "_law_wishes"] spJud40
  short : Df P w K mg base CX0 "shortage" 12 ["table", "amounts"] (spShort CA C)
  fits : Df P w K mg base CX0 "fits" 13 ["table", "amounts"] (spFits CA C)
  made : Dk P w K mg base (L2.CX P w) "Table" 8 ["self", "rows"] (spTbI K C CE) C
  mkA : Dk P w K mg base (L2.CX P w) "Amounts" 8 ["self", "stocks", "wishes"] (spAmG K CA CEA) CA
  A : AmC K CA
  B : TbC K C
  mM : ∃ f fd, Meth K CA "stocks" f ∧ FnOk P w K mg base CX0 1 f fd ["self"] (spGet CA fun ms _ => ms) ∧ Binds K fd ["self"] []
  mR : ∃ f fd, Meth K C "rows" f ∧ FnOk P w K mg base CX0 1 f fd ["self"] (spTRws C) ∧ Binds K fd ["self"] []
structure St40 (K : PySem.W.Frag) (CA C : Addr) (H : Hp) (ra a b u v x g : Addr) (G : Hp) (R : Rw) (ms ns : List Int) : Prop where
  tb : TbX C G x R
  sG : Same G H
  am : AmF CA H g R ms ns
  nn : NnA ms ns
  bu : BS H u R.length (wd R) (fR R)
  bv : BS H v (wd R) R.length fun i j => fR R j i
  ha : H a = some (.lst (ms.map V.int))
  hb : H b = some (.lst (ns.map V.int))
  rs : ∃ es, RS K H ra es R
theorem St40.same {K : PySem.W.Frag} {CA C : Addr} {H H' : Hp} {ra a b u v x g : Addr} {G : Hp} {R : Rw} {ms ns : List Int} (h : St40 K CA C H ra a b u v x g G R ms ns) (s : Same H H') : St40 K CA C H' ra a b u v x g G R ms ns :=
  ⟨h.tb, h.sG.trans s, h.am.same s, h.nn, h.bu.same s, h.bv.same s, s _ _ h.ha, s _ _ h.hb, by obtain ⟨es, r⟩ := h.rs; exact ⟨es, r.same s⟩⟩
section
variable {P : Program} {w : World} {K : PySem.W.Frag} {mg : Str → Option Value} {base : Heap} {C CE CA CEA : Addr} {f : Addr} {fd : FuncData} {cdv : Value} {A : Around} {outer : List Env} {s : Shared} {H0 : Hp} {E : XK}
theorem seg10 (hr : Room 39 (xLaw P w K mg base f cdv A outer s H0 E).A) (T : Bt mg) (D : LD P w K mg base C CE CA CEA) : ∃ u : TS, PSs (xLaw P w K mg base f cdv A outer s H0 E) ((defBody slaw).drop 10) u ∧
    ∀ {ra a b u0 v0 x g : Addr} {G : Hp} {R : Rw} {ms ns : List Int} {sh : Bool} (En : Ends) (H : Hp) (v0' v1 v2 v3 v12 v13 v14 v15 v16 v17 : Option V), St40 K CA C H ra a b u0 v0 x g G R ms ns → (NoSh R ms ns → sh = false) → (∀ X, ShX R ms ns X → sh = true) → (∀ H', En.rt (.bl true) H') →
      u En [v0', v1, v2, v3, some (.ref ra), some (.ref a), some (.ref b), some (.ref u0), some (.ref v0), some (.bl sh), some (.ref x), some (.ref g), v12, v13, v14, v15, v16, v17] H := by
  obtain ⟨fM, fdM, mM, oM, bM⟩ := D.mM
  obtain ⟨fRw, fdRw, mR, oR, bR⟩ := D.mR
  have hr1 := hr.mono (show 1 ≤ 39 by decide)
  refine ⟨_, (pss_cons (ps_for PassesOwn.never rfl (pi_range1 rfl T.range (pa_cons pe_int pa_nil)) (pg_name (i := 12) sclaw.nd rfl (Or.inl rfl)) (pss_cons (ps_set (i := 13) sclaw.nd rfl (Or.inl rfl) (pe_df D.fits hr (by decide) (pa_cons (pv 10) (pa_cons (pv 11) pa_nil))))
  (pss_cons (ps_if (PW.pt (pw_or (pt_not (pt_val (pe_callB call_isi (by rfl) T.isinstance (by decide +kernel) (pa_cons (pv 13) (pa_cons (pe_bltn (v := .ty "bool") (by rfl) T.bool (by decide +kernel) rfl) pa_nil))))) (pw_or1 (pt_cmpR op_eq (pv 13) (pv 9) (nomark _))))) (pss_one (ps_ret pe_bl)) pss_nil)
  (pss_cons (ps_set (i := 14) sclaw.nd rfl (Or.inl rfl) (pe_df D.short hr (by decide) (pa_cons (pv 10) (pa_cons (pv 11) pa_nil))))
  (pss_cons (ps_if (PW.pt (pw_and (pt_not (pt_val (pv 9))) (pw_and1 (pt_cmpR op_is1 (pv 14) pe_non (nomark _))))) (pss_one (ps_ret pe_bl)) pss_nil)
  (pss_one (ps_if (pt_val (pv 9)) (pss_cons (ps_if (pt_not (pt_val (pe_df D.lJud hr (by decide) (pa_cons (pv 14) (pa_cons (pv 7) (pa_cons (pv 8) (pa_cons (pv 5) (pa_cons (pv 6) pa_nil)))))))) (pss_one (ps_ret pe_bl)) pss_nil)
  (pss_one (ps_expr (pe_bm PySem.F.plainAttrs_list PySem.F.slot_list_append PySem.F.type_list_append mt_append (pe_ix ix_tup (pv 14) pe_int (fun _ _ => rfl)) (pa_cons pe_int pa_nil))))) pss_nil)))))))
  (pss_one (ps_ret (pe_and (pe_cmpR (op_eqD hr.units) (pe_meth0 (pv 11) D.A.cls mM oM hr1 bM .nil pass0) (pv 5) (nomark _)) (pe_one (pe_cmpR (op_eqD hr.units) (pe_meth0 (pv 10) D.B.O.cl mR oR hr1 bR .nil pass0) (pv 4) (nomark _))))))), ?_⟩
  intro ra a b u0 v0 x g G R ms ns sh En H v0' v1 v2 v3 v12 v13 v14 v15 v16 v17 S hno hsh k
  have g8 := S.tb.g.h8
  have w8 := S.tb.g.w8
  walk_at "rd"
  refine ⟨_, rfl, by omega, by omega, for_it walk_range (fun n σ H' => ∃ v12 v13 v14, σ = [v0', v1, v2, v3, some (.ref ra), some (.ref a), some (.ref b), some (.ref u0), some (.ref v0), some (.bl sh), some (.ref x), some (.ref g), v12, v13, v14, v15, v16, v17] ∧ Same H H') ⟨_, _, _, rfl, Same.refl H⟩ (fun _ _ _ _ _ => trivial) ?_ ?_⟩
  · rintro n y σ H1 H2 hn ⟨x12, x13, x14, rfl, s2⟩ ⟨rfl, rfl⟩
    have S2 := S.same s2
    refine ⟨_, rfl, ?_⟩
    walk_at "rd"
    refine ⟨x, g, G, R, ms, ns, rfl, S2.tb, S2.sG, S2.am, S2.nn, fun ans H3 a1 a0 s3 => ?_⟩
    have S3 := S2.same s3
    walk_at "rd"
    refine r_isi (.base (.bl _)) (kit_b (.bool ans)) ?_
    walk_at "rd"
    refine ifF rfl ?_
    walk_at "rd"
    have ne : ans ≠ sh := by
      cases ans with
      | true => rw [hno (a1 rfl)]; exact fun z => by cases z
      | false => obtain ⟨X, h⟩ := a0 rfl; rw [hsh X h]; exact fun z => by cases z
    refine r_eq rfl ?_
    rw [decide_eq_false (fun z => ne (V.bl.inj z))]
    walk_at "rd"
    refine ⟨x, g, G, R, ms, ns, rfl, S3.tb, S3.sG, S3.am, S3.nn, fun no H4 s4 => ?_, fun X hX t l H4 s4 nt nl tl ht hl => ?_⟩
    · have e := hno no
      subst e
      walk_at "rd"
      refine ifF (show (!decide (V.non = V.non)) = false by rw [decide_eq_true rfl]; rfl) ?_
      walk_at "rd"
      exact ⟨_, _, _, rfl, s2.trans (s3.trans s4)⟩
    · have e := hsh X hX
      subst e
      have S4 := S3.same s4
      walk_at "rd"
      refine ⟨t, l, u0, v0, a, b, wordS ms ns, X, R.length, wd R, Pk.fR R, ms, ns, rfl, ht, hl, S4.bu, S4.bv, g8, w8, S4.ha, S4.am.m, S4.hb, S4.am.n, hX.ne, hX.up, sh_good S4.tb.g hX, fun H5 s5 => ?_⟩
      refine ⟨_, rfl, ifF rfl ?_⟩
      walk_at "rd"
      refine r_bm ?_
      walk_at "rd"
      have ht5 := s5 _ _ ht
      have hl5 := s5 _ _ hl
      refine r_ixT (SqT.of ht5) (atI_nat (j := 1) rfl) ?_
      refine ⟨.inl ⟨rfl, _, SqL.of hl5⟩, ?_⟩
      walk_at "rd"
      refine ⟨l, natV X, _, rfl, rfl, hl5, Nat.lt_of_le_of_lt (show _ ≤ 8 from ?_) (by decide), _, _, _, rfl, ?_⟩
      · rw [natV_len]
        have nd : X.Nodup := hX.up.imp fun h => Nat.ne_of_lt h
        have := List.Nodup.length_le_of_subset nd (l₂ := List.range (sdR R ms ns).length) fun k hk => List.mem_range.mpr (hX.lt k hk)
        rw [List.length_range] at this
        have := (sd_gt S.tb.g S.am.m S.am.n).1.h8
        omega
      · exact Same.upOff (s2.trans (s3.trans (s4.trans s5))) ((s2.trans s3).free nl)
  · rintro σ H1 ⟨x12, x13, x14, rfl, s2⟩
    have S2 := S.same s2
    obtain ⟨dg, p, q, am⟩ := S2.am.o
    obtain ⟨gt, dt, e, u, es, ho, hl, hp⟩ := id S2.tb
    walk_at "rd"
    refine ⟨g, dg, _, rfl, am.o, two_no (by decide +kernel) (by decide +kernel), ?_⟩
    walk_at "rd"
    refine ⟨g, dg, p, q, ms, ns, rfl, am, fun r1 n1 => ?_⟩
    have t1 := Same.up (o := .lst (ms.map V.int)) (Same.refl H1) n1
    have h1 : upd H1 r1 (.lst (ms.map V.int)) r1 = some (.lst (ms.map V.int)) := upd_same
    generalize upd H1 r1 (.lst (ms.map V.int)) = H2 at t1 h1 ⊢
    have S3 := S2.same t1
    walk_at "rd"
    refine r_eqL (SqL.of h1) (SqL.of S3.ha) ?_
    rw [decide_eq_true rfl]
    walk_at "rd"
    refine ⟨x, dt, _, rfl, S3.sG _ _ ho, two_no (by decide +kernel) (by decide +kernel), ?_⟩
    walk_at "rd"
    refine ⟨x, G, R, rfl, S3.tb, S3.sG, fun r2 es2 H3 nr => ?_⟩
    obtain ⟨s3, _, rl, _⟩ := nr
    obtain ⟨es0, rs⟩ := (S3.same s3).rs
    walk_at "rd"
    refine ⟨rowsD R, rowsD R, rl.dp, rs.dp, (Ni.rows (n := 0) R).shaped (by decide), (Ni.rows (n := 0) R).shaped (by decide), ?_⟩
    · rw [eqv_plain (rows_plain R)]
      exact k H3
end
end Pk
set_option Elab.async false
set_option linter.all false
set_option maxRecDepth 100000
set_option maxHeartbeats 4000000
namespace Pk
open PySem L2
local macro_rules | `(tactic| walk_at "rd") => `(tactic| repeat (first
  | with_reducible refine r_seq ?_ | with_reducible refine r_nxt ?_ | with_reducible refine r_asg ?_ | with_reducible refine r_to ?_ | with_reducible refine r_ret ?_ | with_reducible refine r_for ?_ | with_reducible refine r_lc ?_ | with_reducible refine r_lc2 ?_ | with_reducible refine r_rng1 ?_ | with_reducible refine r_list ?_ | with_reducible refine r_tupI ?_ | with_reducible refine r_drop ?_ | with_reducible refine r_ifs ?_
  | with_reducible refine r_op ?_ | with_reducible refine r_c ?_ | with_reducible refine r_var rfl ?_ | with_reducible refine r_var (by assumption) ?_ | with_reducible refine r_I0 ?_ | with_reducible refine r_un ?_ | with_reducible refine r_U ?_ | with_reducible refine r_make ?_ | with_reducible refine r_makeS ?_ | with_reducible refine r_ifE ?_ | with_reducible refine r_cm ?_ | with_reducible refine r_mkV rfl ?_ | with_reducible refine r_sub ?_
  | with_reducible refine r_nil ?_ | with_reducible refine r_cons ?_ | with_reducible refine r_cb ?_ | with_reducible refine r_sl ?_ | with_reducible refine r_noP ?_ | with_reducible refine r_part ?_ | with_reducible refine r_isI ?_ | with_reducible refine r_lst ?_ | with_reducible refine r_tup ?_ | with_reducible refine r_call ?_ | with_reducible refine r_callS ?_ | with_reducible refine r_sFldU ?_ | with_reducible refine r_chain ?_ | with_reducible refine r_enum ?_ | with_reducible refine r_zip ?_ | with_reducible refine r_rng3 ?_ | with_reducible refine r_gtup ?_ | with_reducible refine r_methU ?_
  | with_reducible refine r_test ?_ | with_reducible refine r_B ?_ | with_reducible refine r_and ?_ | with_reducible refine r_or ?_ | with_reducible refine r_not ?_ | with_reducible refine r_andV ?_ | with_reducible refine r_orV ?_ | with_reducible refine r_notV ?_ | with_reducible refine r_bl ?_ | with_reducible refine r_yes ?_ | with_reducible refine r_int ?_ | with_reducible refine r_is0 ?_ | with_reducible refine r_is1 ?_ | with_reducible refine iteT ?_ | with_reducible refine iteF ?_ | with_reducible refine ite_nF ?_ | with_reducible refine ite_nT ?_
  | with_reducible refine r_mod (by decide) ?_ | with_reducible refine r_div (by decide) (by decide) ?_ | with_reducible refine r_mulR (by decide) (by decide) ?_ | with_reducible refine r_mulL (by decide) (by decide) ?_ | with_reducible refine r_pow (by decide) (by decide) (by decide) ?_))
/-! ### the law, from its head -/
theorem six {α : Type} : ∀ {l : List α}, l.length = 6 → ∃ a b c d e f, l = [a, b, c, d, e, f]
  | [a, b, c, d, e, f], _ => ⟨a, b, c, d, e, f, rfl⟩
  | [], h | [_], h | [_, _], h | [_, _, _], h | [_, _, _, _], h | [_, _, _, _, _], h => by cases h
  | _ :: _ :: _ :: _ :: _ :: _ :: _ :: _, h => by simp at h
theorem mk_tb2 {K : PySem.W.Frag} {C CE : Addr} {H1 : Hp} {x dx : Addr} {v : V} {R : Rw} {Q : Hp → Prop} {E : XK} (nx : H1 x = none) (nd : H1 dx = none) (ne : dx ≠ x) (hv : Dp K H1 v (rowsD R)) (g : Gt R)
    (k : ∀ (H' G : Hp), Same H1 H' → TbX C G x R → Same G H' → Fresh H1 G → Q H') : spTbI K C CE [.ref x, v] (upd (upd H1 dx (.own x)) x (.ins C dx [])) (fun v H2 => v = .non ∧ Q H2) E := mk_tb (Q := fun _ H => Q H) nx nd ne hv g k
/-- rows of truth values, under way -/
def BGrow (H0 : Hp) (D : Addr) (w : Nat) (f : Nat → Nat → Bool) (i : Nat) (H : Hp) : Prop := Same H0 H ∧ ∃ us, H D = some (.lst us) ∧ us.length = i ∧ ∀ k, k < i → ∃ c, us[k]? = some (.ref c) ∧ c ≠ D ∧ H c = some (.lst ((List.range w).map fun j => V.bl (f k j)))
theorem BGrow.start {H : Hp} {D : Addr} {w : Nat} {f : Nat → Nat → Bool} (nD : H D = none) : BGrow H D w f 0 (upd H D (.lst [])) := ⟨Same.up (Same.refl H) nD, [], upd_same, rfl, fun k hk => by omega⟩
theorem BGrow.more {H0 H H' : Hp} {D g : Addr} {w : Nat} {f : Nat → Nat → Bool} {i : Nat} (h : BGrow H0 D w f i H) (nD : H0 D = none) (s2 : Same H H') (ng : H g = none) (hg : H' g = some (.lst ((List.range w).map fun j => V.bl (f i j)))) : ∃ us, H' D = some (.lst us) ∧ us.length = i ∧ BGrow H0 D w f (i + 1) (upd H' D (.lst (us ++ [.ref g]))) := by
  obtain ⟨s, us, hD, ul, ur⟩ := h
  have gD : g ≠ D := fun z => by rw [z, hD] at ng; cases ng
  refine ⟨us, s2 _ _ hD, ul, Same.upOff (s.trans s2) nD, us ++ [.ref g], upd_same, by rw [List.length_append, ul]; rfl, fun k hk => ?_⟩
  by_cases c : k < i
  · obtain ⟨b, e, n, hb⟩ := ur k c
    exact ⟨b, by rw [List.getElem?_append_left (by omega)]; exact e, n, by rw [upd_ne n]; exact s2 _ _ hb⟩
  · obtain rfl : k = i := by omega
    exact ⟨g, by rw [List.getElem?_append_right (by omega), ul, Nat.sub_self]; rfl, gD, by rw [upd_ne gD]; exact hg⟩
theorem BGrow.bs {H0 H : Hp} {D : Addr} {w : Nat} {f : Nat → Nat → Bool} {h : Nat} (b : BGrow H0 D w f h H) : BS H D h w f := by
  obtain ⟨_, us, hD, ul, ur⟩ := b
  exact ⟨us, hD, ul, fun i hi => by obtain ⟨c, e, _, hc⟩ := ur i hi; exact ⟨c, e, hc⟩⟩
section
variable {P : Program} {w : World} {K : PySem.W.Frag} {mg : Str → Option Value} {base : Heap} {C CE CA CEA : Addr} {f : Addr} {fd : FuncData}
theorem ok_law (F : Fun K "law" "law" slaw f fd) (D : LD P w K mg base C CE CA CEA) (T : Bt mg) (tsum : mg "sum" = none) : FnOk P w K mg base CX0 40 f fd ["_law_script"] (spLaw K) := by
  refine F.ok sclaw (fun vs H Q E h => ?_) (fun cdv A outer s H vs Q E hr h => ?_)
  · obtain ⟨l, ns, rfl, _⟩ := h
    rfl
  · obtain ⟨l, sc, rfl, hl, h63, kE⟩ := h
    obtain ⟨u10, d10, h10⟩ := seg10 (f := f) (cdv := cdv) (outer := outer) (s := s) (H0 := H) (E := E) hr T D
    refine ⟨_, (pss_cons (ps_set (i := 1) sclaw.nd rfl (Or.inl rfl) (pe_df D.lDraws hr (by decide) (pa_cons (pv 0) (pa_cons pe_int (pa_cons (pe_lst (pa_cons pe_int (pa_cons pe_int (pa_cons pe_int (pa_cons pe_int (pa_cons pe_int (pa_cons pe_int pa_nil))))))) pa_nil)))))
  (pss_cons (ps_set (i := 2) sclaw.nd rfl (Or.inl rfl) (pe_op op_add pe_int (pe_ix ix_list (pv 1) pe_int (fun _ _ => rfl))))
  (pss_cons (ps_set (i := 3) sclaw.nd rfl (Or.inl rfl) (pe_op op_add pe_int (pe_ix ix_list (pv 1) pe_int (fun _ _ => rfl))))
  (pss_cons (ps_set (i := 4) sclaw.nd rfl (Or.inl rfl) (pe_df D.lGrid hr (by decide) (pa_cons (pv 0) (pa_cons pe_int (pa_cons (pv 2) (pa_cons (pv 3) (pa_cons (pe_ix ix_list (pv 1) pe_int (fun _ _ => rfl)) (pa_cons (pe_ix ix_list (pe_lst (pa_cons pe_int (pa_cons pe_int (pa_cons pe_int (pa_cons pe_int pa_nil))))) (pe_ix ix_list (pv 1) pe_int (fun _ _ => rfl)) (fun _ _ => rfl)) pa_nil))))))))
  (pss_cons (ps_asg (pe_df D.lAmts hr (by decide) (pa_cons (pv 0) (pa_cons pe_int (pa_cons (pv 2) (pa_cons (pv 3) (pa_cons (pe_ix ix_list (pv 1) pe_int (fun _ _ => rfl)) (pa_cons (pe_cmpR op_eq (pe_ix ix_list (pv 1) pe_int (fun _ _ => rfl)) pe_int (nomark _)) pa_nil))))))) (pg_tup (by rfl) (pgs_cons (pg_name (i := 5) sclaw.nd rfl (Or.inl rfl)) (pgs_cons (pg_name (i := 6) sclaw.nd rfl (Or.inl rfl)) pgs_nil))))
  (pss_cons (ps_set (i := 7) sclaw.nd rfl (Or.inr rfl) (pe_lc (own := [("_law_row", 15)]) (g := gName 15) (te := tLc (iList K (tVar 15)) (gName 17) tYes (tOp rIs1 (tVar 17) (tC .non)) [17]) rfl sclaw.nd (pi_list (pv 4)) (blkOk_by (own := [("_law_row", 15)]) (N := nmLaw) (sc := defScope slaw) (by decide +kernel)) (fun _ _ _ _ _ => pg_name (i := 15) sclaw.nd rfl (Or.inl rfl)) (fun _ _ _ _ _ => pts_nil) (fun _ _ _ _ _ => (pe_lc (own := [("_law_price", 17)]) (g := gName 17) rfl sclaw.nd (pi_list (pv 15)) (blkOk_by (own := [("_law_price", 17)]) (N := nmLaw) (sc := relS (asgScopeB ((defBody slaw).getD 5 (.Pass ⟨0, 0, 0, 0⟩))) (defScope slaw)) (by decide +kernel)) (fun _ _ _ _ _ => pg_name (i := 17) sclaw.nd rfl (Or.inl rfl)) (fun _ _ _ _ _ => pts_nil) (fun _ _ _ _ _ => (pe_cmpR op_is1 (pv 17) pe_non (nomark _)))))))
  (pss_cons (ps_setLc (i := 8) (own := [("_law_j", 16)]) (g := gName 16) (te := tLc (iList K (tVar 7)) (gName 15) tYes (tOp (rIxL K) (tVar 15) (tVar 16)) [15]) rfl sclaw.nd rfl rfl (sw_true rfl rfl rfl (by decide +kernel)) (pi_range1 rfl T.range (pa_cons (pv 3) pa_nil)) (blkOk_by (own := [("_law_j", 16)]) (N := nmLaw) (sc := defScope slaw) (by decide +kernel)) (fun _ _ _ _ _ => pg_name (i := 16) sclaw.nd rfl (Or.inr rfl)) (fun _ _ _ _ _ => pts_nil) (fun _ _ _ _ _ => (pe_lc (own := [("_law_row", 15)]) (g := gName 15) rfl sclaw.nd (pi_list (pv 7)) (blkOk_by (own := [("_law_row", 15)]) (N := nmLaw) (sc := relS (asgScopeB ((defBody slaw).getD 6 (.Pass ⟨0, 0, 0, 0⟩))) (defScope slaw)) (by decide +kernel)) (fun _ _ _ _ _ => pg_name (i := 15) sclaw.nd rfl (Or.inl rfl)) (fun _ _ _ _ _ => pts_nil) (fun _ _ _ _ _ => (pe_ix ix_list (pv 15) (pv 16) (fun _ _ => rfl))))))
  (pss_cons (ps_if (pt_cmpR op_lt (pe_callB (cr_sum rfl) (by rfl) T.sum (by decide +kernel) (pa_cons (pv 5) pa_nil)) (pe_callB (cr_sum rfl) (by rfl) T.sum (by decide +kernel) (pa_cons (pv 6) pa_nil)) (nomark _)) (pss_one (ps_set (i := 9) sclaw.nd rfl (Or.inl rfl) (pe_df D.lAny hr (by decide) (pa_cons (pv 7) (pa_cons (pv 5) (pa_cons (pv 6) pa_nil)))))) (pss_one (ps_set (i := 9) sclaw.nd rfl (Or.inl rfl) (pe_df D.lAny hr (by decide) (pa_cons (pv 8) (pa_cons (pv 6) (pa_cons (pv 5) pa_nil)))))))
  (pss_cons (ps_set (i := 10) sclaw.nd rfl (Or.inl rfl) (pe_dkL D.made hr (by decide) (pa_cons (pe_df D.lCopy hr (by decide) (pa_cons (pv 4) pa_nil)) pa_nil)))
  (pss_cons (ps_set (i := 11) sclaw.nd rfl (Or.inl rfl) (pe_dkL D.mkA hr (by decide) (pa_cons (pe_callTy (T := "list") (r := rLstOf K) cl_lst (by rfl) T.list (by decide +kernel) (pa_cons (pv 5) pa_nil)) (pa_cons (pe_callTy (T := "list") (r := rLstOf K) cl_lst (by rfl) T.list (by decide +kernel) (pa_cons (pv 6) pa_nil)) pa_nil)))) d10)))))))))), ?_⟩
    walk_at "rd"
    refine ⟨by show 6 ≤ sizeLine; decide, fun p np => ?_⟩
    have s1 := Same.up (o := .lst [V.int 8, V.int 8, V.int 8, V.int 4, V.int 4, V.int 2]) (Same.refl H) np
    have hp1 : upd H p (.lst [V.int 8, V.int 8, V.int 8, V.int 4, V.int 4, V.int 2]) p = some (.lst [V.int 8, V.int 8, V.int 8, V.int 4, V.int 4, V.int 2]) := upd_same
    generalize upd H p (.lst [V.int 8, V.int 8, V.int 8, V.int 4, V.int 4, V.int 2]) = H1 at s1 hp1 ⊢
    walk_at "rd"
    have pos : ∀ z, z ∈ ([8, 8, 8, 4, 4, 2] : List Int) → 0 < z := by decide
    refine ⟨l, p, sc, [8, 8, 8, 4, 4, 2], 0, rfl, s1.seq hl, hp1, fun z hz => ?_, by decide, fun h H2 s2' nh hh => ?_⟩
    · have : 0 < z ∧ z ≤ 65 := by
        revert z
        decide
      exact szd this.1 (by omega)
    obtain ⟨d0, d1, d2, d3, d4, d5, ed⟩ := six (drawsF_len sc 0 [8, 8, 8, 4, 4, 2])
    obtain ⟨_, e0, p0, q0⟩ := drawsF_get (ns := sc) (sp := 0) pos (i := 0) rfl
    obtain ⟨_, e1, p1, q1⟩ := drawsF_get (ns := sc) (sp := 0) pos (i := 1) rfl
    obtain ⟨_, e2, p2, q2⟩ := drawsF_get (ns := sc) (sp := 0) pos (i := 2) rfl
    obtain ⟨_, e3, p3, q3⟩ := drawsF_get (ns := sc) (sp := 0) pos (i := 3) rfl
    obtain ⟨_, e4, p4, q4⟩ := drawsF_get (ns := sc) (sp := 0) pos (i := 4) rfl
    rw [ed] at e0 e1 e2 e3 e4 hh
    cases e0; cases e1; cases e2; cases e3; cases e4
    have hh : H2 h = some (.lst [V.int d0, V.int d1, V.int d2, V.int d3, V.int d4, V.int d5]) := hh
    have s2 := s1.trans s2'
    walk_at "rd"
    refine r_ixL (SqL.of hh) (atI_nat (j := 0) rfl) ?_
    walk_at "rd"
    refine r_ixL (SqL.of hh) (atI_nat (j := 1) rfl) ?_
    walk_at "rd"
    refine r_ixL (SqL.of hh) (atI_nat (j := 2) rfl) ?_
    walk_at "rd"
    refine ⟨by show 4 ≤ sizeLine; decide, fun l3 nl3 => ?_⟩
    have s3' := Same.up (o := .lst [V.int 0, V.int 6, V.int 3, V.int 2]) (Same.refl H2) nl3
    have hl3 : upd H2 l3 (.lst [V.int 0, V.int 6, V.int 3, V.int 2]) l3 = some (.lst [V.int 0, V.int 6, V.int 3, V.int 2]) := upd_same
    generalize upd H2 l3 (.lst [V.int 0, V.int 6, V.int 3, V.int 2]) = H3 at s3' hl3 ⊢
    have hh3 := s3' _ _ hh
    walk_at "rd"
    refine r_ixL (SqL.of hh3) (atI_nat (j := 3) rfl) ?_
    obtain ⟨k3, rfl⟩ : ∃ k : Nat, d3 = (k : Int) := ⟨d3.toNat, by omega⟩
    obtain ⟨sh, sh0, sh8, esh⟩ : ∃ c : Int, 0 ≤ c ∧ c ≤ 8 ∧ [V.int 0, V.int 6, V.int 3, V.int 2][k3]? = some (.int c) := by
      match k3, (by omega : k3 < 4) with
      | 0, _ => exact ⟨0, by decide, by decide, rfl⟩
      | 1, _ => exact ⟨6, by decide, by decide, rfl⟩
      | 2, _ => exact ⟨3, by decide, by decide, rfl⟩
      | 3, _ => exact ⟨2, by decide, by decide, rfl⟩
    refine r_ixL (SqL.of hl3) (atI_nat esh) ?_
    obtain ⟨m, em⟩ : ∃ m : Nat, 1 + d0 = (m : Int) := ⟨(1 + d0).toNat, by omega⟩
    obtain ⟨n, en⟩ : ∃ n : Nat, 1 + d1 = (n : Int) := ⟨(1 + d1).toNat, by omega⟩
    rw [em, en]
    have s3 := s2.trans s3'
    walk_at "rd"
    refine ⟨l, sc, 1, m, n, d2, sh, rfl, s3.seq hl, by omega, by omega, by omega, by omega, p2, q2, sh0, sh8, fun ra es R H4 s4' gk nra g Rm Rn _ => ?_⟩
    have s4 := s3.trans s4'
    have rs4 := gk.rl.rs (K := K)
    have hh4 := s4' _ _ hh3
    have g8 := g.h8
    have w8 := g.w8
    have g0 := g.h0
    have w0 := g.w0
    walk_at "rd"
    refine r_ixL (SqL.of hh4) (atI_nat (j := 4) rfl) ?_
    walk_at "rd"
    refine r_ixL (SqL.of hh4) (atI_nat (j := 5) rfl) ?_
    walk_at "rd"
    refine r_eq rfl ?_
    walk_at "rd"
    obtain ⟨k4, rfl⟩ : ∃ k : Nat, d4 = (k : Int) := ⟨d4.toNat, by omega⟩
    refine ⟨l, sc, 2, m, n, k4, _, rfl, s4.seq hl, by omega, by omega, by omega, by omega, by omega, fun t5 a b ms ns H5 s5' ml nl mn nn nt5 na nb ab ta tb ht5 ha hb => ?_⟩
    have s5 := s4.trans s5'
    walk_at "rd"
    refine ⟨t5, _, rfl, SqT.of ht5, rfl, ?_⟩
    refine ⟨_, _, rfl, ?_⟩
    walk_at "rd"
    refine ⟨_, _, rfl, ?_⟩
    walk_at "rd"
    refine ⟨rfl, ?_⟩
    have rs5 := rs4.same s5'
    walk_at "rd"
    refine ⟨ra, rfl, ⟨_, rs5.at_⟩, fun D1 nD1 => lc_it walk_list (BGrow H5 D1 (wd R) (Pk.fR R)) (BGrow.start nD1) (fun i H' _ z => z.1.seq rs5.at_) ?_ ?_⟩
    · rintro i y H6 H7 hi bg ⟨rfl, ey⟩
      rw [rs5.len] at hi
      obtain ⟨c, ec, hc⟩ := rs5.get hi
      rw [ec] at ey
      cases (Option.some.inj ey)
      have hc6 := bg.1.seq hc
      have rl : (R.getD i []).length = wd R := by
        rw [List.getD_eq_getElem?_getD, List.getElem?_eq_getElem hi]
        exact g.sq _ (List.getElem_mem hi)
      walk_at "rd"
      refine ⟨rfl, ?_⟩
      walk_at "rd"
      refine ⟨c, rfl, ⟨_, hc6⟩, fun D2 nD2 => lc_it walk_list (fun j H' => Same H7 H' ∧ H' D2 = some (.lst (((List.range (wd R)).take j).map fun j => V.bl (Pk.fR R i j)))) ⟨Same.up (Same.refl H7) nD2, upd_same⟩ (fun i H' _ z => z.1.seq hc6) ?_ ?_⟩
      · rintro j y H8 H9 hj ⟨s8, hD⟩ ⟨rfl, ey⟩
        rw [List.length_map, rl] at hj
        rw [prc_get g hi hj] at ey
        cases (Option.some.inj ey)
        have tk : (List.range (wd R)).take (j + 1) = (List.range (wd R)).take j ++ [j] := by rw [List.take_add_one, List.getElem?_range hj]; rfl
        walk_at "rd"
        refine ⟨rfl, ?_⟩
        walk_at "rd"
        rw [pV_someB]
        refine ⟨_, hD, Nat.lt_of_le_of_lt (show _ ≤ 8 from by rw [List.length_map, List.length_take]; omega) (by decide), Same.upOff s8 nD2, ?_⟩
        rw [upd_same, tk, List.map_append]; rfl
      · rintro H8 ⟨s8, hD⟩
        rw [List.length_map, rl, List.take_of_length_le (by rw [List.length_range]; exact Nat.le_refl _)] at hD
        obtain ⟨us, hD1, ul, b2⟩ := bg.more nD1 s8 nD2 hD
        exact ⟨us, hD1, by rw [ul]; exact Nat.lt_of_le_of_lt (show i ≤ 8 by omega) (by decide), b2⟩
    rintro H6 bg
    rw [rs5.len] at bg
    have bu := bg.bs
    have s56 := bg.1
    obtain ⟨us, hus, ul, ur⟩ := id bu
    walk_at "rd"
    refine ⟨_, rfl, by omega, by omega, fun D3 nD3 => lc_it walk_range (BGrow H6 D3 R.length fun i j => Pk.fR R j i) (BGrow.start nD3) (fun _ _ _ _ => trivial) ?_ ?_⟩
    · rintro j y H7 H8 hj bg2 ⟨rfl, rfl⟩
      have hj : j < wd R := by rw [Rn]; simpa using hj
      show gName 16 (V.int (0 + (j : Int))) _ _ _
      rw [Int.zero_add]
      have hus7 := bg2.1 _ _ hus
      walk_at "rd"
      refine ⟨rfl, ?_⟩
      walk_at "rd"
      refine ⟨D1, rfl, ⟨_, SqL.of hus7⟩, fun D4 nD4 => lc_it walk_list (fun i H' => Same H8 H' ∧ H' D4 = some (.lst (((List.range R.length).take i).map fun i => V.bl (Pk.fR R i j)))) ⟨Same.up (Same.refl H8) nD4, upd_same⟩ (fun i H' _ z => SqL.of (z.1 _ _ hus7)) ?_ ?_⟩
      · rintro i y H9 H10 hi ⟨s8, hD⟩ ⟨rfl, ey⟩
        rw [ul] at hi
        obtain ⟨c, ec, hc⟩ := ur i hi
        rw [ec] at ey
        cases (Option.some.inj ey)
        have hc9 := s8 _ _ (bg2.1 _ _ hc)
        have tk : (List.range R.length).take (i + 1) = (List.range R.length).take i ++ [i] := by rw [List.take_add_one, List.getElem?_range hi]; rfl
        walk_at "rd"
        refine ⟨rfl, ?_⟩
        walk_at "rd"
        have at2 : ((List.range (wd R)).map fun j => V.bl (Pk.fR R i j))[j]? = some (V.bl (Pk.fR R i j)) := by
          rw [List.getElem?_map, List.getElem?_range hj]; rfl
        refine r_ixL (SqL.of hc9) (atI_nat at2) ?_
        refine ⟨_, hD, Nat.lt_of_le_of_lt (show _ ≤ 8 from by rw [List.length_map, List.length_take]; omega) (by decide), Same.upOff s8 nD4, ?_⟩
        rw [upd_same, tk, List.map_append]; rfl
      · rintro H9 ⟨s8, hD⟩
        rw [ul, List.take_of_length_le (by rw [List.length_range]; exact Nat.le_refl _)] at hD
        obtain ⟨us2, hD3, ul2, b2⟩ := bg2.more nD3 s8 nD4 hD
        exact ⟨us2, hD3, by rw [ul2]; exact Nat.lt_of_le_of_lt (show j ≤ 8 by omega) (by decide), b2⟩
    rintro H7 bg2
    rw [show ((n : Int)).toNat = wd R by omega] at bg2
    have bv := bg2.bs
    have s67 := bg2.1
    have bu7 := bu.same s67
    have s57 := s56.trans s67
    have ha7 := s57 _ _ ha
    have hb7 := s57 _ _ hb
    have lm : ms.length = R.length := by omega
    have ln : ns.length = wd R := by omega
    refine r_to ?_
    dsimp only
    with_reducible refine r_seq ?_
    refine ifs_cutA (fun σ' H' => σ' = [some (.ref l), some (.ref h), some (.int (m : Int)), some (.int (n : Int)), some (.ref ra), some (.ref a), some (.ref b), some (.ref D1), some (.ref D3), some (.bl (shortB R ms ns)), none, none, none, none, none, none, none, none] ∧ Same H7 H') (fun N hN => ?_) ?_
    · walk_at "rd"
      refine r_sum (SqL.of ha7) ?_
      walk_at "rd"
      refine r_sum (SqL.of hb7) ?_
      walk_at "rd"
      by_cases c : ms.sum < ns.sum
      · refine ifT (decide_eq_true c) ?_
        walk_at "rd"
        refine ⟨D1, a, b, R.length, wd R, Pk.fR R, ms, ns, rfl, bu7, g8, w8, ha7, lm, hb7, ln, fun H8 s8 => ?_⟩
        refine hN _ _ ⟨?_, s8⟩
        unfold shortB
        rw [if_pos c]; rfl
      · refine ifF (decide_eq_false c) ?_
        walk_at "rd"
        refine ⟨D3, b, a, wd R, R.length, fun i j => Pk.fR R j i, ns, ms, rfl, bv, w8, g8, hb7, ln, ha7, lm, fun H8 s8 => ?_⟩
        refine hN _ _ ⟨?_, s8⟩
        unfold shortB
        rw [if_neg c]; rfl
    · rintro σ' H8 ⟨rfl, s8⟩
      have s58 := s57.trans s8
      walk_at "rd"
      refine ⟨ra, es, R, rfl, rs5.same s58, g8, fun q10 gs H10 s10' nq10 lq _ => ?_⟩
      walk_at "rd"
      intro x dx nx nd ne
      show spTbI K C CE [V.ref x, V.ref q10] _ _ _
      refine mk_tb2 nx nd ne lq.dp g fun H11 G s11' tx sG fG => ?_
      have s511 := s58.trans (s10'.trans s11')
      walk_at "rd"
      refine r_lstOf (SqL.of (s511 _ _ ha)) fun q12 nq12 => ?_
      have s12' := Same.up (o := .lst (ms.map V.int)) (Same.refl H11) nq12
      have hq12 : upd H11 q12 (.lst (ms.map V.int)) q12 = some (.lst (ms.map V.int)) := upd_same
      generalize upd H11 q12 (.lst (ms.map V.int)) = H12 at s12' hq12 ⊢
      walk_at "rd"
      refine r_lstOf (SqL.of (s12' _ _ (s511 _ _ hb))) fun q13 nq13 => ?_
      have s13' := Same.up (o := .lst (ns.map V.int)) (Same.refl H12) nq13
      have hq13 : upd H12 q13 (.lst (ns.map V.int)) q13 = some (.lst (ns.map V.int)) := upd_same
      generalize upd H12 q13 (.lst (ns.map V.int)) = H13 at s13' hq13 ⊢
      walk_at "rd"
      intro g1 dg ng ndg neg
      have gm : Gd ms := ⟨by omega, by omega, mn⟩
      have gn : Gd ns := ⟨by omega, by omega, nn⟩
      refine mk_amG ng ndg neg (.lst (SqL.of (s13' _ _ hq12)) (dp_ints _)) (.lst (SqL.of hq13) (dp_ints _)) gm gn fun H14 p1 p2 np1 np2 np12 amx s14' => ?_
      have s1114 := s12'.trans (s13'.trans s14')
      have s514 := s511.trans s1114
      have s714 := (s8.trans (s10'.trans s11')).trans s1114
      have NN : NnA ms ns := ⟨mn, nn⟩
      have S : St40 K CA C H14 ra a b D1 D3 x g1 G R ms ns := ⟨tx, sG.trans s1114, ⟨⟨dg, p1, p2, amx⟩, lm, ln⟩, NN, bu7.same s714, bv.same s714, s514 _ _ ha, s514 _ _ hb, _, rs5.same s514⟩
      exact h10 _ H14 _ _ _ _ _ _ _ _ _ _ S (fun no => no_short g lm ln NN no) (fun X hX => Pk.is_short g lm ln NN hX) kE
end
end Pk
set_option Elab.async false
set_option linter.all false
set_option maxRecDepth 100000
set_option maxHeartbeats 4000000
namespace Pk
open PySem L2
local macro_rules | `(tactic| walk_at "rd") => `(tactic| repeat (first
  | with_reducible refine r_seq ?_ | with_reducible refine r_nxt ?_ | with_reducible refine r_asg ?_ | with_reducible refine r_to ?_ | with_reducible refine r_ret ?_ | with_reducible refine r_for ?_ | with_reducible refine r_lc ?_ | with_reducible refine r_lc2 ?_ | with_reducible refine r_rng1 ?_ | with_reducible refine r_list ?_ | with_reducible refine r_tupI ?_ | with_reducible refine r_drop ?_ | with_reducible refine r_ifs ?_
  | with_reducible refine r_op ?_ | with_reducible refine r_c ?_ | with_reducible refine r_var rfl ?_ | with_reducible refine r_var (by assumption) ?_ | with_reducible refine r_I0 ?_ | with_reducible refine r_un ?_ | with_reducible refine r_U ?_ | with_reducible refine r_make ?_ | with_reducible refine r_makeS ?_ | with_reducible refine r_ifE ?_ | with_reducible refine r_cm ?_ | with_reducible refine r_mkV rfl ?_ | with_reducible refine r_sub ?_
  | with_reducible refine r_nil ?_ | with_reducible refine r_cons ?_ | with_reducible refine r_cb ?_ | with_reducible refine r_sl ?_ | with_reducible refine r_noP ?_ | with_reducible refine r_part ?_ | with_reducible refine r_isI ?_ | with_reducible refine r_lst ?_ | with_reducible refine r_tup ?_ | with_reducible refine r_call ?_ | with_reducible refine r_callS ?_ | with_reducible refine r_sFldU ?_ | with_reducible refine r_chain ?_ | with_reducible refine r_enum ?_ | with_reducible refine r_zip ?_ | with_reducible refine r_rng3 ?_ | with_reducible refine r_gtup ?_ | with_reducible refine r_methU ?_
  | with_reducible refine r_test ?_ | with_reducible refine r_B ?_ | with_reducible refine r_and ?_ | with_reducible refine r_or ?_ | with_reducible refine r_not ?_ | with_reducible refine r_andV ?_ | with_reducible refine r_orV ?_ | with_reducible refine r_notV ?_ | with_reducible refine r_bl ?_ | with_reducible refine r_yes ?_ | with_reducible refine r_int ?_ | with_reducible refine r_is0 ?_ | with_reducible refine r_is1 ?_ | with_reducible refine iteT ?_ | with_reducible refine iteF ?_ | with_reducible refine ite_nF ?_ | with_reducible refine ite_nT ?_
  | with_reducible refine r_mod (by decide) ?_ | with_reducible refine r_div (by decide) (by decide) ?_ | with_reducible refine r_mulR (by decide) (by decide) ?_ | with_reducible refine r_mulL (by decide) (by decide) ?_ | with_reducible refine r_pow (by decide) (by decide) (by decide) ?_))
/-! ### the errors -/
section
variable {P : Program} {w : World} {K : PySem.W.Frag} {mg : Str → Option Value} {base : Heap} {C fI cc fc : Addr} {fdc : FuncData}
abbrev slIT : Stmt := inCls 4 0
abbrev nfIT (cc c : Addr) : NdefX.NF := { name := "__init__", qual := "InvalidTable.__init__", params := defArgs slIT, body := defBody slIT, scope := defScope slIT, cl := [(("__class__" : Str), cc)], c := c }
theorem ok_IT {c : Addr} {n : Nat} (T : ErrC K C) (J : InitFn P K C fI cc (nfIT cc c)) (B : Bt mg) (G : FnOk P w K mg base CX0 (n + 1) fc fdc ["value"] (spCopy K n)) (mc : mg "own_copy" = some (.ref fc)) (kc : PySem.W.keepIn K (.ref fc) = true)
    (bc : Binds K fdc ["value"] []) (free : PySem.W.findIn K (.ref C) "at" = some none) : ErrOk P w K mg base (n + 2) C fI (spErr1 K n C "at") := by
  exact err_one (F := nfIT cc c) T J B.super G mc kc bc (NdefX.nscope_by (by show NdefX.nscB _ _ _ (defScope slIT) = true; decide +kernel)) rfl rfl rfl free (fun _ _ _ _ _ us hl => match us, hl with | [_, _], _ => rfl) (fun env => rfl) (by decide) (by decide)
end
theorem fi_of {K : PySem.W.Frag} {C f0 : Addr} {m : Str} (h1 : PySem.W.findIn K (.ref C) m = some (some (.ref f0))) (h2 : PySem.W.fnIn K f0 = true) : ∀ f, PySem.W.findIn K (.ref C) m = some (some (.ref f)) → PySem.W.fnIn K f = true := fun f e => by
  rw [h1] at e
  have z := Value.ref.inj (Option.some.inj (Option.some.inj e))
  rw [← z]
  exact h2
section
variable {P : Program} {w : World} {K : PySem.W.Frag} {mg : Str → Option Value} {base : Heap} {C fI cc fc : Addr} {fdc : FuncData}
abbrev slIA : Stmt := inCls 5 0
abbrev nfIA (cc c : Addr) : NdefX.NF := { name := "__init__", qual := "InvalidAmounts.__init__", params := defArgs slIA, body := defBody slIA, scope := defScope slIA, cl := [(("__class__" : Str), cc)], c := c }
theorem ok_IA {c : Addr} {n : Nat} (T : ErrC K C) (J : InitFn P K C fI cc (nfIA cc c)) (B : Bt mg) (G : FnOk P w K mg base CX0 (n + 1) fc fdc ["value"] (spCopy K n)) (mc : mg "own_copy" = some (.ref fc)) (kc : PySem.W.keepIn K (.ref fc) = true)
    (bc : Binds K fdc ["value"] []) (free : PySem.W.findIn K (.ref C) "word" = some none) (free2 : PySem.W.findIn K (.ref C) "at" = some none) : ErrOk P w K mg base (n + 2) C fI (spErr2 K n C "word" "at") := by
  exact err_two (F := nfIA cc c) T J B.super G mc kc bc (NdefX.nscope_by (by show NdefX.nscB _ _ _ (defScope slIA) = true; decide +kernel)) rfl rfl rfl free free2 (fun _ _ _ _ _ us hl => match us, hl with | [_, _, _], _ => rfl) (fun env => rfl) (by decide) (by decide) (by decide) (by decide)
end

open PySem.W
theorem all_mk {l : PySem.W.OpenLaw} {w : World} {K : PySem.W.Frag} {h : Heap} {mg : Str → Option Value} {fa : Addr} (X : K.In h) (G : h.Ns mainGlobals mg) (hfa : mg "law" = some (.ref fa)) {CET fIET ccET cET CEA fIEA ccEA cEA CT CA CB : Addr}
    (bt : BtIn K)
    (top : (l.prog.main.scope.names.lookup ("super" : Str)).isSome = false)
    (d_own : DefAt K "own_copy" sCopy)
    (e_ET : ErrAt1 l.prog K "InvalidTable" "InvalidTable.__init__" slIT CET fIET ccET cET)
    (fr_ET_at : PySem.W.findIn K (.ref CET) "at" = some none)
    (e_EA : ErrAt1 l.prog K "InvalidAmounts" "InvalidAmounts.__init__" slIA CEA fIEA ccEA cEA)
    (fr_EA_word : PySem.W.findIn K (.ref CEA) "word" = some none)
    (fr_EA_at : PySem.W.findIn K (.ref CEA) "at" = some none)
    (d_DI : DefAt K "is_integer" slIsInt)
    {tk_aL : Tok}
    (a_aL : PySem.W.nsIn K mainGlobals "MOST_LINES" = some (some (.int 8 tk_aL)))
    (b_all : PySem.W.nsIn K mainGlobals "all" = some none)
    (d_DPr : DefAt K "is_price" slPrice)
    (d_DRo : DefAt K "is_row" slRow)
    (d_DC : DefAt K "check_rows" slChkR)
    (d_DCa : DefAt K "check_line_amounts" slChk)
    (a_CT : PySem.W.nsIn K mainGlobals "Table" = some (some (.ref CT)))
    (me_i : MethAt K CT "__init__" "Table.__init__" slTbI)
    (me_r : MethAt K CT "rows" "Table.rows" slTRws)
    (me_t : MethAt K CT "turned" "Table.turned" slTTur)
    (me_s : MethAt K CT "stocks" "Table.stocks" slTStk)
    (me_w : MethAt K CT "wishes" "Table.wishes" slTWsh)
    (O_CT : OwnC K CT)
    (mk_CT : PySem.W.makesIn K CT = true)
    (kc_CT : PySem.W.keepIn K (.ref CT) = true)
    (no_CT_entries : PySem.W.findIn K (.ref CT) "entries" = some none)
    (no_CT_used : PySem.W.findIn K (.ref CT) "used" = some none)
    (a_CA : PySem.W.nsIn K mainGlobals "Amounts" = some (some (.ref CA)))
    (me_xi : MethAt K CA "__init__" "Amounts.__init__" slAmI)
    (me_xs : MethAt K CA "stocks" "Amounts.stocks" slStocks)
    (me_xw : MethAt K CA "wishes" "Amounts.wishes" slWishes)
    (me_xf : MethAt K CA "fits_size" "Amounts.fits_size" slFit)
    (me_xo : MethAt K CA "over" "Amounts.over" slOver)
    (O_CA : OwnC K CA)
    (mk_CA : PySem.W.makesIn K CA = true)
    (kc_CA : PySem.W.keepIn K (.ref CA) = true)
    (no_CA_held : PySem.W.findIn K (.ref CA) "held" = some none)
    (no_CA_wished : PySem.W.findIn K (.ref CA) "wished" = some none)
    {tk_aS : Tok}
    (a_aS : PySem.W.nsIn K mainGlobals "START" = some (some (.int (-1) tk_aS)))
    (d_DLe : DefAt K "least" slLeastN)
    (d_DLp : DefAt K "least_price" slLP)
    (a_CB : PySem.W.nsIn K mainGlobals "Balance" = some (some (.ref CB)))
    (me_bi : MethAt K CB "__init__" "Balance.__init__" slBalI)
    (me_bg : MethAt K CB "gap" "Balance.gap" slGap)
    (me_bs : MethAt K CB "settle" "Balance.settle" slSettle)
    (me_bq : MethAt K CB "search" "Balance.search" slSearch)
    (me_bt : MethAt K CB "takers_after" "Balance.takers_after" slTA)
    (me_bv : MethAt K CB "givers_after" "Balance.givers_after" slGA)
    (me_be : MethAt K CB "extend_to" "Balance.extend_to" slExt)
    (me_br : MethAt K CB "raise_worths" "Balance.raise_worths" slRaise)
    (me_brg : MethAt K CB "reached_givers" "Balance.reached_givers" slRG)
    (me_brt : MethAt K CB "reached_takers" "Balance.reached_takers" slRT)
    (O_CB : OwnC K CB)
    (mk_CB : PySem.W.makesIn K CB = true)
    (kc_CB : PySem.W.keepIn K (.ref CB) = true)
    (no_CB_entries : PySem.W.findIn K (.ref CB) "entries" = some none)
    (no_CB_spare : PySem.W.findIn K (.ref CB) "spare" = some none)
    (no_CB_lacking : PySem.W.findIn K (.ref CB) "lacking" = some none)
    (no_CB_sent : PySem.W.findIn K (.ref CB) "sent" = some none)
    (no_CB_giver_worths : PySem.W.findIn K (.ref CB) "giver_worths" = some none)
    (no_CB_taker_worths : PySem.W.findIn K (.ref CB) "taker_worths" = some none)
    (no_CB_giver_ways : PySem.W.findIn K (.ref CB) "giver_ways" = some none)
    (no_CB_taker_ways : PySem.W.findIn K (.ref CB) "taker_ways" = some none)
    (d_DCS : DefAt K "check_size" slChS)
    (d_DBO : DefAt K "balance_of" slBalOf)
    (d_DSI : DefAt K "shortage_in" slShIn)
    (d_DSh : DefAt K "shortage" slShort)
    (d_DFt : DefAt K "fits" slFits)
    (d_L1 : DefAt K "_law_cell" slCell2)
    (d_L2x : DefAt K "_law_mixed" slMix2)
    (d_L3 : DefAt K "_law_draws" slDraws)
    (d_L4 : DefAt K "_law_grid" slGrid)
    (d_L6 : DefAt K "_law_copy" slLCpy)
    (d_LAm : DefAt K "_law_amounts" slAmts)
    (d_LHm : DefAt K "_law_holds_more" slHm)
    (d_LAn : DefAt K "_law_any_holds_more" slAny40)
    (d_LLo : DefAt K "_law_is_list_of" slLof)
    (d_LJu : DefAt K "_law_judged" slJud40)
    (d_law : DefAt K "law" slaw) :
    ∃ fd : FuncData, (∀ (s : Shared) (u : Value), BindsTo s fd ⟨[u], []⟩ [("_law_script", u)]) ∧ ∀ base : Heap, K.In base → base.Ns mainGlobals mg → FnOk l.prog w K mg base CX0 40 fa fd ["_law_script"] (spLaw K) := by
  have T := bt.bt X G
  obtain ⟨f1, fd1, F1, m1⟩ := d_own.fn X G
  obtain ⟨f_DI, fd_DI, F_DI, m_DI⟩ := d_DI.fn X G
  obtain ⟨f_DPr, fd_DPr, F_DPr, m_DPr⟩ := d_DPr.fn X G
  obtain ⟨f_DRo, fd_DRo, F_DRo, m_DRo⟩ := d_DRo.fn X G
  obtain ⟨f_DC, fd_DC, F_DC, m_DC⟩ := d_DC.fn X G
  obtain ⟨f_DCa, fd_DCa, F_DCa, m_DCa⟩ := d_DCa.fn X G
  obtain ⟨g_i, gd_i, G_i, n_i⟩ := me_i.fn
  obtain ⟨g_r, gd_r, G_r, n_r⟩ := me_r.fn
  obtain ⟨g_t, gd_t, G_t, n_t⟩ := me_t.fn
  obtain ⟨g_s, gd_s, G_s, n_s⟩ := me_s.fn
  obtain ⟨g_w, gd_w, G_w, n_w⟩ := me_w.fn
  obtain ⟨g_xi, gd_xi, G_xi, n_xi⟩ := me_xi.fn
  obtain ⟨g_xs, gd_xs, G_xs, n_xs⟩ := me_xs.fn
  obtain ⟨g_xw, gd_xw, G_xw, n_xw⟩ := me_xw.fn
  obtain ⟨g_xf, gd_xf, G_xf, n_xf⟩ := me_xf.fn
  obtain ⟨g_xo, gd_xo, G_xo, n_xo⟩ := me_xo.fn
  obtain ⟨f_DLe, fd_DLe, F_DLe, m_DLe⟩ := d_DLe.fn X G
  obtain ⟨f_DLp, fd_DLp, F_DLp, m_DLp⟩ := d_DLp.fn X G
  obtain ⟨g_bi, gd_bi, G_bi, n_bi⟩ := me_bi.fn
  obtain ⟨g_bg, gd_bg, G_bg, n_bg⟩ := me_bg.fn
  obtain ⟨g_bs, gd_bs, G_bs, n_bs⟩ := me_bs.fn
  obtain ⟨g_bq, gd_bq, G_bq, n_bq⟩ := me_bq.fn
  obtain ⟨g_bt, gd_bt, G_bt, n_bt⟩ := me_bt.fn
  obtain ⟨g_bv, gd_bv, G_bv, n_bv⟩ := me_bv.fn
  obtain ⟨g_be, gd_be, G_be, n_be⟩ := me_be.fn
  obtain ⟨g_br, gd_br, G_br, n_br⟩ := me_br.fn
  obtain ⟨g_brg, gd_brg, G_brg, n_brg⟩ := me_brg.fn
  obtain ⟨g_brt, gd_brt, G_brt, n_brt⟩ := me_brt.fn
  obtain ⟨f_DCS, fd_DCS, F_DCS, m_DCS⟩ := d_DCS.fn X G
  obtain ⟨f_DBO, fd_DBO, F_DBO, m_DBO⟩ := d_DBO.fn X G
  obtain ⟨f_DSI, fd_DSI, F_DSI, m_DSI⟩ := d_DSI.fn X G
  obtain ⟨f_DSh, fd_DSh, F_DSh, m_DSh⟩ := d_DSh.fn X G
  obtain ⟨f_DFt, fd_DFt, F_DFt, m_DFt⟩ := d_DFt.fn X G
  obtain ⟨f_L1, fd_L1, F_L1, m_L1⟩ := d_L1.fn X G
  obtain ⟨f_L2x, fd_L2x, F_L2x, m_L2x⟩ := d_L2x.fn X G
  obtain ⟨f_L3, fd_L3, F_L3, m_L3⟩ := d_L3.fn X G
  obtain ⟨f_L4, fd_L4, F_L4, m_L4⟩ := d_L4.fn X G
  obtain ⟨f_L6, fd_L6, F_L6, m_L6⟩ := d_L6.fn X G
  obtain ⟨f_LAm, fd_LAm, F_LAm, m_LAm⟩ := d_LAm.fn X G
  obtain ⟨f_LHm, fd_LHm, F_LHm, m_LHm⟩ := d_LHm.fn X G
  obtain ⟨f_LAn, fd_LAn, F_LAn, m_LAn⟩ := d_LAn.fn X G
  obtain ⟨f_LLo, fd_LLo, F_LLo, m_LLo⟩ := d_LLo.fn X G
  obtain ⟨f_LJu, fd_LJu, F_LJu, m_LJu⟩ := d_LJu.fn X G
  obtain ⟨f_law, fd_law, F_law, m_law⟩ := d_law.fn X G
  cases hfa.symm.trans m_law
  have b_law : ∀ (s : Shared) (u : Value), BindsTo s fd_law ⟨[u], []⟩ [("_law_script", u)] := fun s u => by
    obtain ⟨oc, od, kV, doc, pm, an, cdv, ct, osl, rfl, lk, hcd⟩ := F_law.ex
    exact .of_eq rfl
  refine ⟨fd_law, b_law, fun base _ _ => ?_⟩
  have mk1 : ∀ {fd x st f ps sp n}, Fun K x x st f fd → mg x = some (.ref f) → Binds K fd ps [] → FnOk l.prog w K mg base CX0 n f fd ps sp → Df l.prog w K mg base CX0 x n ps sp := fun F m b o => ⟨_, _, m, F.kp, b, o⟩
  have mkL : ∀ {fd x st f ps sp n}, Fun K x x st f fd → mg x = some (.ref f) → Binds K fd ps [] → FnOk l.prog w K mg base (L2.CX l.prog w) n f fd ps sp → Df l.prog w K mg base (L2.CX l.prog w) x n ps sp := fun F m b o => ⟨_, _, m, F.kp, b, o⟩
  have B1 : Binds K fd1 ["value"] [] := F1.binds fun _ _ _ _ _ _ us hl => match us, hl with | [_], _ => rfl
  have G1 := ok_copy (P := l.prog) (w := w) (base := base) F1 T m1 1
  have ET : De l.prog w K mg base "InvalidTable" 3 (spErr1 K 1 CET "at") CET := e_ET.de X G (ok_IT e_ET.errC (e_ET.init top ⟨_, rfl⟩) T G1 m1 F1.kp B1 fr_ET_at)
  have EA : De l.prog w K mg base "InvalidAmounts" 3 (spErr2 K 1 CEA "word" "at") CEA := e_EA.de X G (ok_IA e_EA.errC (e_EA.init top ⟨_, rfl⟩) T G1 m1 F1.kp B1 fr_EA_word fr_EA_at)
  have DI := mk1 F_DI m_DI (ps := ["value"]) (F_DI.binds fun _ _ _ _ _ _ us hl => match us, hl with | [_], _ => rfl) (ok_isInt F_DI T)
  have aL := PySem.W.mg_of X G a_aL
  have tall := PySem.W.mg_none_of X G b_all
  have DPr := mk1 F_DPr m_DPr (ps := ["value"]) (F_DPr.binds fun _ _ _ _ _ _ us hl => match us, hl with | [_], _ => rfl) (ok_price F_DPr DI)
  have DRo := mk1 F_DRo m_DRo (ps := ["value", "first"]) (F_DRo.binds fun _ _ _ _ _ _ us hl => match us, hl with | [_, _], _ => rfl) (ok_row F_DRo T tall aL DPr)
  have DC := mkL F_DC m_DC (ps := ["rows"]) (F_DC.binds fun _ _ _ _ _ _ us hl => match us, hl with | [_], _ => rfl) (ok_chkR F_DC T aL DRo ET)
  have DCa := mkL F_DCa m_DCa (ps := ["word", "numbers"]) (F_DCa.binds fun _ _ _ _ _ _ us hl => match us, hl with | [_, _], _ => rfl) (ok_chkA F_DCa T aL DI EA)
  have b_i : Binds K gd_i ["self", "rows"] [] := G_i.binds fun _ _ _ _ _ _ us hl => match us, hl with | [_, _], _ => rfl
  have b_r : Binds K gd_r ["self"] [] := G_r.binds fun _ _ _ _ _ _ us hl => match us, hl with | [_], _ => rfl
  have b_t : Binds K gd_t ["self"] [] := G_t.binds fun _ _ _ _ _ _ us hl => match us, hl with | [_], _ => rfl
  have b_s : Binds K gd_s ["self"] [] := G_s.binds fun _ _ _ _ _ _ us hl => match us, hl with | [_], _ => rfl
  have b_w : Binds K gd_w ["self"] [] := G_w.binds fun _ _ _ _ _ _ us hl => match us, hl with | [_], _ => rfl
  have g_CT := PySem.W.mg_of X G a_CT
  have b_xi : Binds K gd_xi ["self", "stocks", "wishes"] [] := G_xi.binds fun _ _ _ _ _ _ us hl => match us, hl with | [_, _, _], _ => rfl
  have b_xs : Binds K gd_xs ["self"] [] := G_xs.binds fun _ _ _ _ _ _ us hl => match us, hl with | [_], _ => rfl
  have b_xw : Binds K gd_xw ["self"] [] := G_xw.binds fun _ _ _ _ _ _ us hl => match us, hl with | [_], _ => rfl
  have b_xf : Binds K gd_xf ["self", "table"] [] := G_xf.binds fun _ _ _ _ _ _ us hl => match us, hl with | [_, _], _ => rfl
  have b_xo : Binds K gd_xo ["self"] [] := G_xo.binds fun _ _ _ _ _ _ us hl => match us, hl with | [_], _ => rfl
  have g_CA := PySem.W.mg_of X G a_CA
  have aS := PySem.W.mg_of X G a_aS
  have DLe := mk1 F_DLe m_DLe (ps := ["numbers"]) (F_DLe.binds fun _ _ _ _ _ _ us hl => match us, hl with | [_], _ => rfl) (ok_leastN F_DLe)
  have DLp := mk1 F_DLp m_DLp (ps := ["row"]) (F_DLp.binds fun _ _ _ _ _ _ us hl => match us, hl with | [_], _ => rfl) (ok_LP F_DLp DLe)
  have b_bi : Binds K gd_bi ["self", "rows", "gives", "takes"] [] := G_bi.binds fun _ _ _ _ _ _ us hl => match us, hl with | [_, _, _, _], _ => rfl
  have b_bg : Binds K gd_bg ["self", "i", "j"] [] := G_bg.binds fun _ _ _ _ _ _ us hl => match us, hl with | [_, _, _], _ => rfl
  have b_bs : Binds K gd_bs ["self"] [] := G_bs.binds fun _ _ _ _ _ _ us hl => match us, hl with | [_], _ => rfl
  have b_bq : Binds K gd_bq ["self"] [] := G_bq.binds fun _ _ _ _ _ _ us hl => match us, hl with | [_], _ => rfl
  have b_bt : Binds K gd_bt ["self", "givers"] [] := G_bt.binds fun _ _ _ _ _ _ us hl => match us, hl with | [_, _], _ => rfl
  have b_bv : Binds K gd_bv ["self", "takers"] [] := G_bv.binds fun _ _ _ _ _ _ us hl => match us, hl with | [_, _], _ => rfl
  have b_be : Binds K gd_be ["self", "end"] [] := G_be.binds fun _ _ _ _ _ _ us hl => match us, hl with | [_, _], _ => rfl
  have b_br : Binds K gd_br ["self"] [] := G_br.binds fun _ _ _ _ _ _ us hl => match us, hl with | [_], _ => rfl
  have b_brg : Binds K gd_brg ["self"] [] := G_brg.binds fun _ _ _ _ _ _ us hl => match us, hl with | [_], _ => rfl
  have b_brt : Binds K gd_brt ["self"] [] := G_brt.binds fun _ _ _ _ _ _ us hl => match us, hl with | [_], _ => rfl
  have g_CB := PySem.W.mg_of X G a_CB
  have A : TbC K CT := ⟨O_CT, no_CT_entries, no_CT_used⟩
  have oS := ok_tStk (P := l.prog) (w := w) (mg := mg) (base := base) G_s T A
  have oW := ok_tWsh (P := l.prog) (w := w) (mg := mg) (base := base) G_w T A
  have oR := ok_tRws (P := l.prog) (w := w) (mg := mg) (base := base) G_r T A
  have DTb : Dk l.prog w K mg base (L2.CX l.prog w) "Table" 8 ["self", "rows"] (spTbI K CT CET) CT := ⟨_, _, g_CT, ⟨mk_CT, n_i.at_, n_i.fn, kc_CT⟩, b_i, ok_tbI G_i T A DC⟩
  have oTu := ok_tTur (P := l.prog) (w := w) (mg := mg) (base := base) G_t T A n_w oW b_w DTb
  have AA : AmC K CA := ⟨O_CA.cl, no_CA_held, no_CA_wished⟩
  have DA : Dk l.prog w K mg base (L2.CX l.prog w) "Amounts" 8 ["self", "stocks", "wishes"] (spAmG K CA CEA) CA := ⟨_, _, g_CA, ⟨mk_CA, n_xi.at_, n_xi.fn, kc_CA⟩, b_xi, ok_amG G_xi T AA DCa⟩
  have oXS := ok_stocks (P := l.prog) (w := w) (mg := mg) (base := base) G_xs T AA
  have oXW := ok_wishes (P := l.prog) (w := w) (mg := mg) (base := base) G_xw T AA
  have oXO := ok_over (P := l.prog) (w := w) (mg := mg) (base := base) G_xo T AA
  have oXF := ok_fit (P := l.prog) (w := w) (mg := mg) (base := base) G_xf T AA A n_s oS b_s n_w oW b_w

  have BC : BalC K CB := ⟨O_CB, no_CB_entries, no_CB_spare, no_CB_lacking, no_CB_sent, no_CB_giver_worths, no_CB_taker_worths, no_CB_giver_ways, no_CB_taker_ways⟩
  have oGap := ok_gap (P := l.prog) (w := w) (mg := mg) (base := base) G_bg BC
  have oTA := ok_TA (P := l.prog) (w := w) (mg := mg) (base := base) G_bt T BC n_bg oGap b_bg
  have oGA := ok_GA (P := l.prog) (w := w) (mg := mg) (base := base) G_bv T BC
  have oRG := ok_RG (P := l.prog) (w := w) (mg := mg) (base := base) G_brg T BC
  have oRT := ok_RT (P := l.prog) (w := w) (mg := mg) (base := base) G_brt T BC
  have oSea := ok_search (P := l.prog) (w := w) (mg := mg) (base := base) G_bq T aS BC n_brg oRG b_brg n_bt oTA b_bt n_bv oGA b_bv
  have oExt := ok_ext (P := l.prog) (w := w) (mg := mg) (base := base) G_be T aS BC DLe
  have oRai := ok_raise (P := l.prog) (w := w) (mg := mg) (base := base) G_br T BC DLe n_brg oRG b_brg n_brt oRT b_brt n_bg oGap b_bg
  have oSet := ok_settle (P := l.prog) (w := w) (mg := mg) (base := base) G_bs T T.sum BC n_bq oSea b_bq n_be oExt b_be n_br oRai b_br
  have DBl : Dk l.prog w K mg base (L2.CX l.prog w) "Balance" 3 ["self", "rows", "gives", "takes"] (spBalI K CB) CB := ⟨_, _, g_CB, ⟨mk_CB, n_bi.at_, n_bi.fn, kc_CB⟩, b_bi, ok_balI G_bi T BC DLp⟩

  have DCS := mk1 F_DCS m_DCS (ps := ["table", "amounts"]) (F_DCS.binds fun _ _ _ _ _ _ us hl => match us, hl with | [_, _], _ => rfl) (ok_chS (CT := CT) F_DCS T O_CA g_CA n_xf oXF b_xf)
  have DBO := mk1 F_DBO m_DBO (ps := ["table", "amounts"]) (F_DBO.binds fun _ _ _ _ _ _ us hl => match us, hl with | [_, _], _ => rfl) (ok_balOf F_DBO AA A n_xo oXO b_xo n_xs oXS b_xs n_xw oXW b_xw n_r oR b_r n_t oTu b_t DBl)
  have DSI := mk1 F_DSI m_DSI (ps := ["amounts", "balance"]) (F_DSI.binds fun _ _ _ _ _ _ us hl => match us, hl with | [_, _], _ => rfl) (ok_shIn F_DSI AA BC n_xo oXO b_xo n_brg oRG b_brg)
  have DSh := mk1 F_DSh m_DSh (ps := ["table", "amounts"]) (F_DSh.binds fun _ _ _ _ _ _ us hl => match us, hl with | [_, _], _ => rfl) (ok_short F_DSh BC DCS DBO DSI n_bs oSet b_bs)
  have DFt := mk1 F_DFt m_DFt (ps := ["table", "amounts"]) (F_DFt.binds fun _ _ _ _ _ _ us hl => match us, hl with | [_, _], _ => rfl) (ok_fits F_DFt DSh)
  have L1 := mk1 F_L1 m_L1 (ps := ["_law_script", "_law_k"]) (F_L1.binds fun _ _ _ _ _ _ us hl => match us, hl with | [_, _], _ => rfl) (ok_cell2 F_L1 T)
  have L2x := mk1 F_L2x m_L2x (ps := ["_law_cell_here", "_law_k"]) (F_L2x.binds fun _ _ _ _ _ _ us hl => match us, hl with | [_, _], _ => rfl) (ok_mix2 F_L2x T)
  have L3 := mk1 F_L3 m_L3 (ps := ["_law_script", "_law_spot", "_law_sizes"]) (F_L3.binds fun _ _ _ _ _ _ us hl => match us, hl with | [_, _, _], _ => rfl) (ok_draws F_L3 T L1 L2x)
  have L4 := mk1 F_L4 m_L4 (ps := ["_law_script", "_law_spot", "_law_m", "_law_n", "_law_style", "_law_share"]) (F_L4.binds fun _ _ _ _ _ _ us hl => match us, hl with | [_, _, _, _, _, _], _ => rfl) (ok_grid F_L4 T L3)
  have L6 := mk1 F_L6 m_L6 (ps := ["_law_grid_here"]) (F_L6.binds fun _ _ _ _ _ _ us hl => match us, hl with | [_], _ => rfl) (ok_lCpy F_L6 T)
  have LAm := mk1 F_LAm m_LAm (ps := ["_law_script", "_law_spot", "_law_m", "_law_n", "_law_many", "_law_level"]) (F_LAm.binds fun _ _ _ _ _ _ us hl => match us, hl with | [_, _, _, _, _, _], _ => rfl) (ok_amts F_LAm T T.sum L3)
  have LHm := mk1 F_LHm m_LHm (ps := ["_law_usable", "_law_lines", "_law_own", "_law_others"]) (F_LHm.binds fun _ _ _ _ _ _ us hl => match us, hl with | [_, _, _, _], _ => rfl) (ok_hm F_LHm T T.sum)
  have LAn := mk1 F_LAn m_LAn (ps := ["_law_usable", "_law_own", "_law_others"]) (F_LAn.binds fun _ _ _ _ _ _ us hl => match us, hl with | [_, _, _], _ => rfl) (ok_any40 F_LAn T LHm)
  have LLo := mk1 F_LLo m_LLo (ps := ["_law_found", "_law_size"]) (F_LLo.binds fun _ _ _ _ _ _ us hl => match us, hl with | [_, _], _ => rfl) (ok_lof F_LLo T)
  have LJu := mk1 F_LJu m_LJu (ps := ["_law_found", "_law_usable", "_law_turned", "_law_stocks", "_law_wishes"]) (F_LJu.binds fun _ _ _ _ _ _ us hl => match us, hl with | [_, _, _, _, _], _ => rfl) (ok_jud40 F_LJu T T.sum LLo LHm)
  exact ok_law (CE := CET) (CEA := CEA) F_law ⟨L3, L4, L6, LAm, LAn, LJu, DSh, DFt, DTb, DA, AA, A, ⟨_, _, n_xs, oXS, b_xs⟩, ⟨_, _, n_r, oR, b_r⟩⟩ T T.sum
end Pk
set_option Elab.async false
set_option linter.all false
set_option maxRecDepth 100000
set_option maxHeartbeats 0
namespace Pk
open PySem L2 PySem.Spec PyProof.Rows PySem.W
theorem hkFacts {w : World} {K : PySem.W.Frag} {h : Heap} {mg : Str → Option Value} {fa : Addr} (X : K.In h) (G : h.Ns mainGlobals mg) (hfa : mg "law" = some (.ref fa)) (c : obsP hkFn hkEx K = valP hkFn) :
    ∃ fd : FuncData, (∀ (s : Shared) (u : Value), BindsTo s fd ⟨[u], []⟩ [("_law_script", u)]) ∧ ∀ base : Heap, K.In base → base.Ns mainGlobals mg → FnOk PySem.Challenge.rw_pairorder_k40_whole_fits_or_shortage.prog w K mg base CX0 40 fa fd ["_law_script"] (spLaw K) := by
  have hx := saysP_ex c
  obtain ⟨hy, hx⟩ := bb hx
  obtain ⟨x0, hy⟩ := bb hy
  obtain ⟨x1, hy⟩ := bb hy
  obtain ⟨x2, hy⟩ := bb hy
  obtain ⟨x3, hy⟩ := bb hy
  obtain ⟨x4, hy⟩ := bb hy
  obtain ⟨x5, hy⟩ := bb hy
  obtain ⟨x6, hy⟩ := bb hy
  obtain ⟨x7, hy⟩ := bb hy
  obtain ⟨x8, hy⟩ := bb hy
  obtain ⟨x9, hy⟩ := bb hy
  obtain ⟨x10, hy⟩ := bb hy
  obtain ⟨x11, hy⟩ := bb hy
  obtain ⟨x12, hy⟩ := bb hy
  obtain ⟨x13, hy⟩ := bb hy
  obtain ⟨x14, hy⟩ := bb hy
  obtain ⟨x15, hy⟩ := bb hy
  obtain ⟨hy, hx⟩ := bb hx
  obtain ⟨x16, hy⟩ := bb hy
  obtain ⟨x17, hy⟩ := bb hy
  obtain ⟨x18, hy⟩ := bb hy
  obtain ⟨x19, hy⟩ := bb hy
  obtain ⟨x20, hy⟩ := bb hy
  obtain ⟨x21, hy⟩ := bb hy
  obtain ⟨x22, hy⟩ := bb hy
  obtain ⟨x23, hy⟩ := bb hy
  obtain ⟨x24, hy⟩ := bb hy
  obtain ⟨x25, hy⟩ := bb hy
  obtain ⟨x26, hy⟩ := bb hy
  obtain ⟨x27, hy⟩ := bb hy
  obtain ⟨x28, hy⟩ := bb hy
  obtain ⟨x29, hy⟩ := bb hy
  obtain ⟨x30, hy⟩ := bb hy
  obtain ⟨x31, hy⟩ := bb hy
  obtain ⟨hy, hx⟩ := bb hx
  obtain ⟨x32, hy⟩ := bb hy
  obtain ⟨x33, hy⟩ := bb hy
  obtain ⟨x34, hy⟩ := bb hy
  obtain ⟨x35, hy⟩ := bb hy
  obtain ⟨x36, hy⟩ := bb hy
  obtain ⟨x37, hy⟩ := bb hy
  obtain ⟨x38, hy⟩ := bb hy
  obtain ⟨x39, hy⟩ := bb hy
  obtain ⟨x40, hy⟩ := bb hy
  obtain ⟨x41, hy⟩ := bb hy
  obtain ⟨x42, hy⟩ := bb hy
  obtain ⟨x43, hy⟩ := bb hy
  obtain ⟨x44, hy⟩ := bb hy
  obtain ⟨x45, hy⟩ := bb hy
  obtain ⟨x46, hy⟩ := bb hy
  obtain ⟨x47, hy⟩ := bb hy
  obtain ⟨hy, hx⟩ := bb hx
  obtain ⟨x48, hy⟩ := bb hy
  obtain ⟨x49, hy⟩ := bb hy
  obtain ⟨x50, hy⟩ := bb hy
  obtain ⟨x51, hy⟩ := bb hy
  obtain ⟨x52, hy⟩ := bb hy
  obtain ⟨x53, hy⟩ := bb hy
  obtain ⟨x54, hy⟩ := bb hy
  obtain ⟨x55, hy⟩ := bb hy
  obtain ⟨x56, hy⟩ := bb hy
  obtain ⟨x57, hy⟩ := bb hy
  obtain ⟨x58, hy⟩ := bb hy
  obtain ⟨x59, hy⟩ := bb hy
  obtain ⟨x60, hy⟩ := bb hy
  obtain ⟨x61, hy⟩ := bb hy
  obtain ⟨x62, hy⟩ := bb hy
  obtain ⟨x63, hy⟩ := bb hy
  have hy := hx
  obtain ⟨x64, hy⟩ := bb hy
  obtain ⟨x65, hy⟩ := bb hy
  obtain ⟨x66, hy⟩ := bb hy
  obtain ⟨x67, hy⟩ := bb hy
  obtain ⟨x68, hy⟩ := bb hy
  obtain ⟨x69, hy⟩ := bb hy
  obtain ⟨x70, hy⟩ := bb hy
  obtain ⟨x71, hy⟩ := bb hy
  obtain ⟨x72, hy⟩ := bb hy
  obtain ⟨x73, hy⟩ := bb hy
  obtain ⟨x74, hy⟩ := bb hy
  obtain ⟨x75, hy⟩ := bb hy
  obtain ⟨x76, hy⟩ := bb hy
  obtain ⟨tk_aL, y_a_aL⟩ := hk_int x8
  obtain ⟨tk_aS, y_a_aS⟩ := hk_int x36
  exact all_mk (l := PySem.Challenge.rw_pairorder_k40_whole_fits_or_shortage) X G hfa (bt := hk_bt x0) (top := rfl) (d_own := hk_def (saysP_fn c 0 rfl) x1) (e_ET := hk_err (saysP_fn c 1 rfl) x2) (fr_ET_at := eqB_ok x3) (e_EA := hk_err (saysP_fn c 2 rfl) x4) (fr_EA_word := eqB_ok x5) (fr_EA_at := eqB_ok x6) (d_DI := hk_def (saysP_fn c 3 rfl) x7) (a_aL := y_a_aL) (b_all := eqB_ok x9) (d_DPr := hk_def (saysP_fn c 4 rfl) x10) (d_DRo := hk_def (saysP_fn c 5 rfl) x11) (d_DC := hk_def (saysP_fn c 6 rfl) x12) (d_DCa := hk_def (saysP_fn c 7 rfl) x13) (a_CT := chG_ok x14) (me_i := hk_meth (saysP_fn c 8 rfl) x15) (me_r := hk_meth (saysP_fn c 9 rfl) x16) (me_t := hk_meth (saysP_fn c 10 rfl) x17) (me_s := hk_meth (saysP_fn c 11 rfl) x18) (me_w := hk_meth (saysP_fn c 12 rfl) x19) (O_CT := hk_own x20) (mk_CT := x21) (kc_CT := x22) (no_CT_entries := eqB_ok x23) (no_CT_used := eqB_ok x24) (a_CA := chG_ok x25) (me_xi := hk_meth (saysP_fn c 13 rfl) x26) (me_xs := hk_meth (saysP_fn c 14 rfl) x27) (me_xw := hk_meth (saysP_fn c 15 rfl) x28) (me_xf := hk_meth (saysP_fn c 16 rfl) x29) (me_xo := hk_meth (saysP_fn c 17 rfl) x30) (O_CA := hk_own x31) (mk_CA := x32) (kc_CA := x33) (no_CA_held := eqB_ok x34) (no_CA_wished := eqB_ok x35) (a_aS := y_a_aS) (d_DLe := hk_def (saysP_fn c 18 rfl) x37) (d_DLp := hk_def (saysP_fn c 19 rfl) x38) (a_CB := chG_ok x39) (me_bi := hk_meth (saysP_fn c 20 rfl) x40) (me_bg := hk_meth (saysP_fn c 21 rfl) x41) (me_bs := hk_meth (saysP_fn c 22 rfl) x42) (me_bq := hk_meth (saysP_fn c 23 rfl) x43) (me_bt := hk_meth (saysP_fn c 24 rfl) x44) (me_bv := hk_meth (saysP_fn c 25 rfl) x45) (me_be := hk_meth (saysP_fn c 26 rfl) x46) (me_br := hk_meth (saysP_fn c 27 rfl) x47) (me_brg := hk_meth (saysP_fn c 28 rfl) x48) (me_brt := hk_meth (saysP_fn c 29 rfl) x49) (O_CB := hk_own x50) (mk_CB := x51) (kc_CB := x52) (no_CB_entries := eqB_ok x53) (no_CB_spare := eqB_ok x54) (no_CB_lacking := eqB_ok x55) (no_CB_sent := eqB_ok x56) (no_CB_giver_worths := eqB_ok x57) (no_CB_taker_worths := eqB_ok x58) (no_CB_giver_ways := eqB_ok x59) (no_CB_taker_ways := eqB_ok x60) (d_DCS := hk_def (saysP_fn c 30 rfl) x61) (d_DBO := hk_def (saysP_fn c 31 rfl) x62) (d_DSI := hk_def (saysP_fn c 32 rfl) x63) (d_DSh := hk_def (saysP_fn c 33 rfl) x64) (d_DFt := hk_def (saysP_fn c 34 rfl) x65) (d_L1 := hk_def (saysP_fn c 35 rfl) x66) (d_L2x := hk_def (saysP_fn c 36 rfl) x67) (d_L3 := hk_def (saysP_fn c 37 rfl) x68) (d_L4 := hk_def (saysP_fn c 38 rfl) x69) (d_L6 := hk_def (saysP_fn c 39 rfl) x70) (d_LAm := hk_def (saysP_fn c 40 rfl) x71) (d_LHm := hk_def (saysP_fn c 41 rfl) x72) (d_LAn := hk_def (saysP_fn c 42 rfl) x73) (d_LLo := hk_def (saysP_fn c 43 rfl) x74) (d_LJu := hk_def (saysP_fn c 44 rfl) x75) (d_law := hk_def (saysP_fn c 45 rfl) x76)
end Pk
open PySem PySem.W PySem.Calls PyProof.Rows in
theorem PySem.Challenge.cw_pairorder_k40_whole_fits_or_shortage_holds : PySem.Challenge.rw_pairorder_k40_whole_fits_or_shortage.Holds := by
  w_on; o_law
  refine HandSHeadRun.head_any (r := OpenLaw.row PySem.Challenge.rw_pairorder_k40_whole_fits_or_shortage) (q := view (OpenLaw.row PySem.Challenge.rw_pairorder_k40_whole_fits_or_shortage).prog [45]) (H := Pk.hkH) (ob := Pk.hkOb) (M := 12000) (loose := Pk.hkNames) (d := HandSHeadRun.topDef (OpenLaw.row PySem.Challenge.rw_pairorder_k40_whole_fits_or_shortage).prog 45) (kwd := []) Pk.hkOb_eq
    (by kernel_rfl) (fun s => by kernel_rfl) Pk.hkRun (by kernel_rfl) (by kernel_rfl) (by kernel_rfl) (by rfl) (by first | assumption | decide +kernel) (by decide +kernel) ⟨rfl, rfl, rfl, rfl, rfl, by decide +kernel⟩ ?hw ?hc
  case hw => w_witness2
  case hc =>
    refine L2.walk_ofE (l := PySem.Challenge.rw_pairorder_k40_whole_fits_or_shortage) (n := 63) (k := 40) (x := "_law_script") (CX := L2.CX0) rfl (by decide) (by kernel_rfl) ⟨rfl, by decide, by decide⟩ ?F (fun _ _ _ _ z => z)
    intro w mg fa h Y G hmg0
    obtain ⟨K, KX, c⟩ := Y
    have hmg : mg ("law" : PySem.Str) = some (.ref fa) := by
      have e : (HandSHeadRun.topDef (OpenLaw.row PySem.Challenge.rw_pairorder_k40_whole_fits_or_shortage).prog 45).name = ("law" : PySem.Str) := by kernel_rfl
      rw [← e]
      exact hmg0
    obtain ⟨fd, hb, hF⟩ := Pk.hkFacts (w := w) KX G hmg c
    exact ⟨K, fd, Pk.spLaw K, KX, hb, fun H a ns hl _ hS => ⟨a, ns, rfl, hS, hl, fun _ => rfl⟩, hF⟩
