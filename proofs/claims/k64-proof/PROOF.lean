import PyProof.Rows.All
import Wide.All
import OpenK.AllK
import Wide.FinOn
import HandS.ForMost
import HandS.Exc
import HandS.TryOnly
import HandS.WordsExc
import HandS.IsInst
import HandS.ExcInit
import HandS.ExcSuper
import HandS.ExcField
import HandS.Nested
import KE.KExcSuper
import HandS.Defaults
import HandS.CallSlots
import HandS.MakeKwOnly
import HandS.OwnEq
import HandS.SlotsOwn
import HandS.More
import HandS.Walk
import KE.Datum
import HandS.Wide
import HandS.Head0
import HandS.Head1
import HandS.Head2
import HandS.HeadEnd
import HandS.HeadHook1
import HandS.HeadHook2
import KE.KStateDown
import KE.DataCmp
import HandS.Deep
import HandS.Codes
import HandS.DictComp
import HandS.Iter
import HandS.TryMany
import KE.DatumOrd
import HandS.SetFor
import HandS.Style
import HandS.Flow
import HandS.Dict
import HandS.Conv
import HandS.TupLen
import PySem.Challenge.RW_pairorder_k64_whole_minimal_lots
set_option Elab.async false
set_option linter.all false
set_option maxRecDepth 100000
/-! What the laws of this program share: the reading's steps, the heap but for one object, the pool of draws. -/
namespace Pk
open PySem L2

/-! ### steps of a reading -/
section
variable {K : PySem.W.Frag} {σ : L2.St} {H : Hp} {Q : VK} {D : Ends} {ta tb te to ti : TE} {t u : TS} {tt tu : TT} {tr : TA} {i j : Nat} {v w : V} {a b : Int}
theorem r_seq (h : t { D with nx := u D } σ H) : tSeq t u D σ H := h
theorem r_nxt (h : D.nx σ H) : tNext D σ H := h
theorem r_asg {g : TG} (h : te σ H fun x H1 => g x σ H1 D.nx) : tAsg te g D σ H := h
theorem r_to {P : L2.St → Hp → Prop} (h : P (σ.set i (some v)) H) : gName i v σ H P := h
theorem r_for {wi : TI} {g : TG} (h : wi σ H fun J H1 => ∃ W : Nat → Nat → L2.St → Hp → Prop, (∃ m, W 0 m σ H1) ∧ ∀ i m σ H, W i m σ H →
    (J.stop i H ∧ D.nx σ H) ∨ (J.go i H ∧ ∃ N : L2.St → Hp → Prop, (∀ σ' H', N σ' H' → ∃ m', m' < m ∧ W (i + 1) m' σ' H') ∧ ∀ x H', J.yld i H x H' → g x σ H' fun σ2 H2 => t { D with nx := N, ct := N, bk := D.nx } σ2 H2)) : tFor wi g t D σ H := h
theorem r_lc {wi : TI} {g : TG} {vs : List Nat} (h : wi σ H fun J H1 => ∀ D, H1 D = none → ∃ W : Nat → Nat → Hp → Prop, (∃ m, W 0 m (upd H1 D (.lst []))) ∧ ∀ i m H, W i m H →
    (J.stop i H ∧ Q (.ref D) H) ∨ (J.go i H ∧ ∃ Nx : Hp → Prop, (∀ H', Nx H' → ∃ m', m' < m ∧ W (i + 1) m' H') ∧ ∀ x H', J.yld i H x H' → g x (wipe σ vs) H' fun σ2 H2 => wipe σ2 vs = wipe σ vs ∧ tt σ2 H2 fun b H3 =>
      if b = true then te σ2 H3 fun y H4 => ∃ acc, H4 D = some (.lst acc) ∧ acc.length < sizeLine ∧ Nx (upd H4 D (.lst (acc ++ [y]))) else Nx H3)) : tLc wi g tt te vs σ H Q := h
theorem r_tupI {R : It → Hp → Prop} (h : te σ H fun x H1 => ∃ l, x = .ref l ∧ (∃ xs, SqT K H1 l xs) ∧ R (Itt K l) H1) : iTup K te σ H R := h
theorem r_yes {P : Bool → Hp → Prop} (h : P true H) : tYes σ H P := h
theorem r_B {P : Bool → Hp → Prop} (h : te σ H fun x H1 => ∃ c, x = .bl c ∧ P c H1) : tB te σ H P := h
theorem r_rng1 {R : It → Hp → Prop} (h : tr σ H fun vs H1 => ∃ j : Int, vs = [.int j] ∧ -(2 ^ 62) ≤ j ∧ j < 2 ^ 62 ∧ R (Itr 0 j.toNat) H1) : iRng1 tr σ H R := h
theorem r_list {R : It → Hp → Prop} (h : te σ H fun x H1 => ∃ l, x = .ref l ∧ (∃ xs, SqL K H1 l xs) ∧ R (Itl K l) H1) : iList K te σ H R := h
theorem r_ret (h : te σ H D.rt) : tRet te D σ H := h
theorem r_drop (h : te σ H fun _ H1 => D.nx σ H1) : tDrop te D σ H := h
theorem r_ifs (h : tt σ H fun c H1 => if c = true then t D σ H1 else u D σ H1) : tIfS tt t u D σ H := h
theorem r_var (e : σ[i]? = some (some v)) (h : Q v H) : tVar i σ H Q := ⟨v, e, h⟩
theorem r_c (h : Q v H) : tC v σ H Q := h
theorem r_op {r : R2} (h : ta σ H fun x H1 => tb σ H1 fun y H2 => r x y H2 Q) : tOp r ta tb σ H Q := h
theorem r_un {r : V → Hp → VK → Prop} (h : ta σ H fun x H1 => r x H1 Q) : tUn r ta σ H Q := h
theorem r_U {g : Int → V} (h : Q (g a) H) : rU g (.int a) H Q := ⟨a, rfl, h⟩
theorem r_make {C : Addr} {sp : Sp} {dvs : List V} {E : XK} (h : tr σ H fun vs H1 => ∀ x dx, H1 x = none → H1 dx = none → dx ≠ x → sp (.ref x :: (vs ++ dvs)) (upd (upd H1 dx (.own x)) x (.ins C dx [])) (fun v H2 => v = .non ∧ Q (.ref x) H2) E) : tMake C sp dvs E tr σ H Q := h
theorem r_cat {l m : Addr} {xs zs : List V} (hl : H l = some (.lst xs)) (hm : H m = some (.lst zs)) (hz : xs.length + zs.length ≤ sizeLine) (h : ∀ p, H p = none → Q (.ref p) (upd H p (.lst (xs ++ zs)))) : rCat (.ref l) (.ref m) H Q := ⟨l, m, xs, zs, rfl, rfl, hl, hm, hz, h⟩
theorem r_sum {l : Addr} {ns : List Int} (hl : SqL K H l (ns.map V.int)) (h : Q (.int ns.sum) H) : rSum K [.ref l] H Q := ⟨l, ns, rfl, hl, h⟩
theorem r_I0 {g : Int → Int → V} (h : Q (g a b) H) : rI0 g (.int a) (.int b) H Q := ⟨a, b, rfl, rfl, h⟩
theorem r_I {C : Int → Int → Prop} {g : Int → Int → V} (c : C a b) (h : Q (g a b) H) : rI C g (.int a) (.int b) H Q := ⟨a, b, rfl, rfl, c, h⟩
theorem r_mod (c : 0 < b) (h : Q (.int (a % b)) H) : rI (fun _ j => 0 < j) (fun i j => .int (i % j)) (.int a) (.int b) H Q := r_I c h
theorem r_div (c : 0 < b) (d : b < 1073741824) (h : Q (.int (a / b)) H) : rI CDiv (fun i j => .int (i / j)) (.int a) (.int b) H Q := r_I ⟨c, d⟩ h
theorem r_mulL (c : -(2 ^ 64) < a) (d : a < 2 ^ 64) (h : Q (.int (a * b)) H) : rI CMul (fun i j => .int (i * j)) (.int a) (.int b) H Q := r_I (.inl ⟨c, d⟩) h
theorem r_mulR (c : -(2 ^ 64) < b) (d : b < 2 ^ 64) (h : Q (.int (a * b)) H) : rI CMul (fun i j => .int (i * j)) (.int a) (.int b) H Q := r_I (.inr ⟨c, d⟩) h
theorem r_pow (c : 0 ≤ b) (d : b ≤ 1000000) (e : a.natAbs < 2 ^ 64) (h : Q (.int (a ^ b.toNat)) H) : rI CPow (fun i j => .int (i ^ j.toNat)) (.int a) (.int b) H Q := r_I ⟨c, d, e⟩ h
theorem r_ixL {p : Addr} {xs : List V} (hs : SqL K H p xs) (he : atI xs a = some v) (h : Q v H) : rIxL K (.ref p) (.int a) H Q := ⟨p, xs, a, v, rfl, rfl, hs, he, h⟩
theorem r_ixT {p : Addr} {xs : List V} (hs : SqT K H p xs) (he : atI xs a = some v) (h : Q v H) : rIxT K (.ref p) (.int a) H Q := ⟨p, xs, a, v, rfl, rfl, hs, he, h⟩
theorem r_sub {s : TSet} {P : L2.St → Hp → Prop} (h : to σ H fun o H1 => ti σ H1 fun k H2 => s o k v H2 fun H3 => P σ H3) : gSub to ti s v σ H P := h
theorem r_setL {p : Addr} {xs : List V} {P : Hp → Prop} (hp : H p = some (.lst xs)) (hj : ixN xs.length a = some j) (h : P (upd H p (.lst (xs.set j v)))) : rSetL (.ref p) (.int a) v H P := ⟨p, xs, a, j, rfl, rfl, hp, hj, h⟩
theorem r_nil {R : List V → Hp → Prop} (h : R [] H) : tNil σ H R := h
theorem r_cons {R : List V → Hp → Prop} (h : ta σ H fun x H1 => tr σ H1 fun xs H2 => R (x :: xs) H2) : tCons ta tr σ H R := h
theorem r_cb {r : List V → Hp → VK → Prop} (h : tr σ H fun vs H1 => r vs H1 Q) : tCB r tr σ H Q := h
theorem r_call {sp : Sp} {dvs : List V} {E : XK} (h : tr σ H fun vs H1 => sp (vs ++ dvs) H1 Q E) : tCall sp dvs E tr σ H Q := h
theorem r_sl {r : V → Option Int → Option Int → Hp → VK → Prop} {tl th : TO} (h : te σ H fun x H1 => tl σ H1 fun l H2 => th σ H2 fun u H3 => r x l u H3 Q) : tSl r te tl th σ H Q := h
theorem r_noP {P : Option Int → Hp → Prop} (h : P none H) : tNoPart σ H P := h
theorem r_part {P : Option Int → Hp → Prop} (h : te σ H fun x H1 => ∃ i, x = .int i ∧ P (some i) H1) : tPart te σ H P := h
theorem r_isI {P : Int → Prop} (h : P a) : ∃ i, V.int a = .int i ∧ P i := ⟨a, rfl, h⟩
theorem r_lst (h : tr σ H fun xs H1 => xs.length ≤ sizeLine ∧ ∀ p, H1 p = none → Q (.ref p) (upd H1 p (.lst xs))) : tLst tr σ H Q := h
theorem r_tup (h : tr σ H fun xs H1 => xs.length ≤ sizeLine ∧ ∀ p, H1 p = none → Q (.ref p) (upd H1 p (.tup xs))) : tTup tr σ H Q := h
theorem r_test {P : Bool → Hp → Prop} (h : te σ H fun x H' => ∃ k, x = .bl k ∧ P k H') : tTest te σ H P := h
theorem r_and {P : Bool → Hp → Prop} (h : tt σ H fun c H1 => if c = true then tu σ H1 P else P false H1) : tAnd tt tu σ H P := h
theorem r_or {P : Bool → Hp → Prop} (h : tt σ H fun c H1 => if c = true then P true H1 else tu σ H1 P) : tOr tt tu σ H P := h
theorem r_not {P : Bool → Hp → Prop} (h : tt σ H fun c H1 => P (!c) H1) : tNot tt σ H P := h
theorem r_bl {P : Bool → Prop} {k : Bool} (h : P k) : ∃ c, V.bl k = .bl c ∧ P c := ⟨k, rfl, h⟩
theorem r_eq (hs : scal v w = true) (h : Q (.bl (decide (v = w))) H) : rEq v w H Q := ⟨hs, h⟩
theorem r_eqT (hs : scal v v = true) (h : Q (.bl true) H) : rEq v v H Q := ⟨hs, by rw [decide_eq_true (rfl : v = v)]; exact h⟩
theorem r_andV (h : ta σ H fun x H1 => ∃ c, x = .bl c ∧ if c = true then tb σ H1 Q else Q (.bl false) H1) : tAndV ta tb σ H Q := h
theorem r_orV (h : ta σ H fun x H1 => ∃ c, x = .bl c ∧ if c = true then Q (.bl true) H1 else tb σ H1 Q) : tOrV ta tb σ H Q := h
theorem r_notV (h : ta σ H fun x H1 => ∃ c, x = .bl c ∧ Q (.bl (!c)) H1) : tNotV ta σ H Q := h
theorem r_ne (hs : scal v w = true) (h : Q (.bl (!decide (v = w))) H) : rNe v w H Q := ⟨hs, h⟩
theorem ite_nF {A B : Prop} (h : A) : if (!false) = true then A else B := by rw [show (!false) = true from rfl, if_pos rfl]; exact h
theorem ite_nT {A B : Prop} (h : B) : if (!true) = true then A else B := by rw [show (!true) = false from rfl, if_neg Bool.false_ne_true]; exact h
theorem ite_no {c : Prop} [Decidable c] {A B : Prop} (h1 : c → A) (h2 : ¬ c → B) : if (!decide c) = true then B else A := by
  by_cases h : c
  · rw [decide_eq_true h]; exact h1 h
  · rw [decide_eq_false h]; exact h2 h
theorem ite_dec {c : Prop} [Decidable c] {A B : Prop} (h1 : c → A) (h2 : ¬ c → B) : if decide c = true then A else B := by
  by_cases h : c
  · rw [decide_eq_true h, if_pos rfl]; exact h1 h
  · rw [decide_eq_false h, if_neg Bool.false_ne_true]; exact h2 h
end

/-! ### built-ins by readings with a name -/
def rIs0 : R2 := fun x y H Q => y = .non ∧ Q (.bl (decide (x = .non))) H
def rIs1 : R2 := fun x y H Q => y = .non ∧ Q (.bl (!decide (x = .non))) H
theorem op_is0 {X : Cx} : OpR X (compareOp .Is) rIs0 := op_isN
theorem op_is1 {X : Cx} : OpR X (compareOp .IsNot) rIs1 := op_notN
theorem r_is0 {x : V} {H : Hp} {Q : VK} (h : Q (.bl (decide (x = .non))) H) : rIs0 x .non H Q := ⟨rfl, h⟩
theorem r_is1 {x : V} {H : Hp} {Q : VK} (h : Q (.bl (!decide (x = .non))) H) : rIs1 x .non H Q := ⟨rfl, h⟩
def rInt : List V → Hp → VK → Prop := fun xs H Q => ∃ n, xs = [.int n] ∧ Q (.int n) H
def rIntB : List V → Hp → VK → Prop := fun xs H Q => ∃ b, xs = [.bl b] ∧ Q (.int (if b then 1 else 0)) H
def rLen (K : PySem.W.Frag) : List V → Hp → VK → Prop := fun xs H Q => ∃ l ys, xs = [.ref l] ∧ (SqL K H l ys ∨ SqT K H l ys) ∧ Q (.int ys.length) H
theorem cl_int {X : Cx} : CallR X (.type "int") rInt := fun pins s σ H xs us Q I r h => by
  obtain ⟨n, e, q⟩ := h
  exact call_int1 pins s σ H xs us Q I r (.inl ⟨n, e, q⟩)
theorem cl_intB {X : Cx} : CallR X (.type "int") rIntB := fun pins s σ H xs us Q I r h => by
  obtain ⟨b, e, q⟩ := h
  exact call_int1 pins s σ H xs us Q I r (.inr ⟨b, e, q⟩)
def rTupOf (K : PySem.W.Frag) : List V → Hp → VK → Prop := fun xs H Q => ∃ l ys, xs = [.ref l] ∧ SqL K H l ys ∧ ∀ q, H q = none → Q (.ref q) (upd H q (.tup ys))
def rLstOf (K : PySem.W.Frag) : List V → Hp → VK → Prop := fun xs H Q => ∃ l ys, xs = [.ref l] ∧ (SqL K H l ys ∨ SqT K H l ys) ∧ ∀ q, H q = none → Q (.ref q) (upd H q (.lst ys))
theorem cl_tup {X : Cx} : CallR X (.type "tuple") (rTupOf X.K) := fun pins s σ H xs us Q I r h => by
  obtain ⟨l, ys, e, hs, q⟩ := h
  exact call_tuple_of pins s σ H xs us Q I r ⟨l, ys, e, .inl ⟨hs, q⟩⟩
theorem cl_lst {X : Cx} : CallR X (.type "list") (rLstOf X.K) := fun pins s σ H xs us Q I r h => call_list_of pins s σ H xs us Q I r h
theorem cl_len {X : Cx} : CallR X (.builtin "len") (rLen X.K) := fun pins s σ H xs us Q I r h => call_len_seq pins s σ H xs us Q I r h
section
variable {K : PySem.W.Frag} {H : Hp} {Q : VK} {l : Addr} {ys : List V}
theorem r_int {n : Int} (h : Q (.int n) H) : rInt [.int n] H Q := ⟨n, rfl, h⟩
theorem r_intB {b : Bool} (h : Q (.int (if b then 1 else 0)) H) : rIntB [.bl b] H Q := ⟨b, rfl, h⟩
theorem r_tupOf (hs : SqL K H l ys) (h : ∀ q, H q = none → Q (.ref q) (upd H q (.tup ys))) : rTupOf K [.ref l] H Q := ⟨l, ys, rfl, hs, h⟩
theorem r_lstOf (hs : SqL K H l ys) (h : ∀ q, H q = none → Q (.ref q) (upd H q (.lst ys))) : rLstOf K [.ref l] H Q := ⟨l, ys, rfl, .inl hs, h⟩
theorem r_lenL (hs : SqL K H l ys) (h : Q (.int ys.length) H) : rLen K [.ref l] H Q := ⟨l, ys, rfl, .inl hs, h⟩
theorem r_lenT (hs : SqT K H l ys) (h : Q (.int ys.length) H) : rLen K [.ref l] H Q := ⟨l, ys, rfl, .inr hs, h⟩
end

/-! ### the heap but for one object -/
/-- all that was tracked, the object at p aside, is as it was -/
def Keep (p : Addr) (H H' : Hp) : Prop := ∀ b o, b ≠ p → H b = some o → H' b = some o
section
variable {p q : Addr} {H H' H1 H2 : Hp} {o u : HO}
theorem Keep.refl : Keep p H H := fun _ _ _ h => h
theorem Keep.trans (a : Keep p H H1) (b : Keep p H1 H2) : Keep p H H2 := fun c o n h => b c o n (a c o n h)
theorem Keep.own (a : Keep p H H1) : Keep p H (upd H1 p o) := fun c v n h => by rw [upd_ne n]; exact a c v n h
theorem Keep.new (a : Keep p H H1) (hq : H1 q = none) : Keep p H (upd H1 q o) := fun c v n h => by
  have e := a c v n h
  rw [upd_ne (ne_of_none e hq)]; exact e
theorem Keep.same (s : Same H H1) : Keep p H H1 := fun c v _ h => s c v h
theorem Keep.seq {K : PySem.W.Frag} (a : Keep p H H1) {l : Addr} {xs : List V} (n : l ≠ p) (h : SqL K H l xs) : SqL K H1 l xs := by
  rcases h with (h | ⟨v, h⟩) | h
  · exact .inl (.inl (a l _ n h))
  · exact .inl (.inr ⟨v, a l _ n h⟩)
  · exact .inr h
theorem Same.up (s : Same H H1) (hq : H1 q = none) : Same H (upd H1 q o) := fun c v h => by
  have e := s c v h
  rw [upd_ne (ne_of_none e hq)]; exact e
end

/-! ### the pool of draws: at p a list of the cells' list (at c) and four ints -/
def PoolAt (H : Hp) (p c : Addr) (ns : List Int) : Prop :=
  ∃ a b s n : Int, 0 ≤ a ∧ H p = some (.lst [.ref c, .int a, .int b, .int s, .int n]) ∧ H c = some (.lst (ns.map V.int))
theorem PoolAt.ne {H : Hp} {p c : Addr} {ns : List Int} (h : PoolAt H p c ns) : c ≠ p := by
  obtain ⟨a, b, s, n, _, h1, h2⟩ := h
  intro e
  rw [e, h1] at h2
  cases ns with
  | nil => cases h2
  | cons x r =>
    have z := HO.lst.inj (Option.some.inj h2)
    rw [List.map_cons] at z
    cases (List.cons.inj z).1
/-- a store into one of its places -/
theorem PoolAt.put {H : Hp} {p c : Addr} {ns : List Int} {a b s n : Int} (ha : 0 ≤ a) (hc : H c = some (.lst (ns.map V.int))) (ne : c ≠ p) :
    PoolAt (upd H p (.lst [.ref c, .int a, .int b, .int s, .int n])) p c ns := ⟨a, b, s, n, ha, upd_same, by rw [upd_ne ne]; exact hc⟩

theorem later {H : Hp} {a q : Addr} {o u : HO} (h : H a = some o) (hq : H q = none) : upd H q u a = some o := by
  rw [upd_ne (ne_of_none h hq)]; exact h
theorem PoolAt.new {H : Hp} {p c q : Addr} {ns : List Int} {o : HO} (h : PoolAt H p c ns) (hq : H q = none) : PoolAt (upd H q o) p c ns := by
  obtain ⟨a, b, z, n, ha, hP, hC⟩ := h
  exact ⟨a, b, z, n, ha, later hP hq, later hC hq⟩
theorem PoolAt.apart {H : Hp} {p c q : Addr} {ns : List Int} (h : PoolAt H p c ns) (hq : H q = none) : q ≠ p := by
  obtain ⟨a, b, z, n, ha, hP, hC⟩ := h
  exact fun e => by rw [e, hP] at hq; cases hq
theorem PoolAt.apartC {H : Hp} {p c q : Addr} {ns : List Int} (h : PoolAt H p c ns) (hq : H q = none) : q ≠ c := by
  obtain ⟨a, b, z, n, ha, hP, hC⟩ := h
  exact fun e => by rw [e, hC] at hq; cases hq
theorem log_small {i : Int} (h : -8 < i ∧ i < 8) : i.natAbs.log2 < 1920 := by
  have e : i.natAbs < 8 := by omega
  exact Nat.lt_of_le_of_lt (Nat.log2_le_self _) (by omega)
/-- _law_mixed(pool, cell) -/
def spMix : Sp := fun vs H Q _ => ∃ (p c : Addr) (ns : List Int) (x : Int), vs = [.ref p, .int x] ∧ PoolAt H p c ns ∧
  ∀ (r : Int) (H' : Hp), 0 ≤ r → Keep p H H' → PoolAt H' p c ns → Q (.int r) H'
/-- _law_draw(pool, size) -/
def spDraw : Sp := fun vs H Q _ => ∃ (p c : Addr) (ns : List Int) (z : Int), vs = [.ref p, .int z] ∧ PoolAt H p c ns ∧ 0 < z ∧ z < 1073741824 ∧
  ∀ (r : Int) (H' : Hp), 0 ≤ r → r < z → Keep p H H' → PoolAt H' p c ns → Q (.int r) H'
/-- _law_number(pool, parts) -/
def spNum : Sp := fun vs H Q _ => ∃ (p c : Addr) (ns : List Int) (k : Int), vs = [.ref p, .int k] ∧ PoolAt H p c ns ∧ 0 ≤ k ∧ k ≤ 1000 ∧
  ∀ (r : Int) (H' : Hp), 0 ≤ r → r < 1000000 ^ k.toNat → Keep p H H' → PoolAt H' p c ns → Q (.int r) H'
/-- _law_pool(script) -/
def spPool (K : PySem.W.Frag) : Sp := fun vs H Q _ => ∃ (l : Addr) (ns : List Int), vs = [.ref l] ∧ SqL K H l (ns.map V.int) ∧ ns.length ≤ 63 ∧
  ∀ (p c : Addr) (H' : Hp), H p = none → H c = none → Same H H' → PoolAt H' p c ns → Q (.ref p) H'
theorem take_snoc {α : Type} : ∀ {l : List α} {i : Nat} {x : α}, l[i]? = some x → l.take (i + 1) = l.take i ++ [x]
  | [], i, x, h => by simp at h
  | a :: l, 0, x, h => by
    have e : a = x := Option.some.inj h
    rw [e]; rfl
  | a :: l, i + 1, x, h => by
    have ih := take_snoc (l := l) (i := i) (x := x) h
    rw [List.take_succ_cons, ih]; rfl
theorem ixN_last {α : Type} (xs : List α) (v : α) : ixN (xs ++ [v]).length (-1) = some xs.length := by
  have hl : (xs ++ [v]).length = xs.length + 1 := by simp
  unfold ixN
  rw [hl, if_neg (by decide), if_pos (by omega)]
  congr 1
  omega
theorem ixN_nat {n j : Nat} (h : j < n) : ixN n (j : Int) = some j := by
  unfold ixN
  rw [if_pos (by omega), if_pos (by omega)]
  simp
theorem set_last {α : Type} (xs : List α) (v u : α) : (xs ++ [v]).set xs.length u = xs ++ [u] := by simp
theorem cut_all {xs : List V} {n : Nat} (h : xs.length ≤ n) : cutV xs none (some (n : Int)) = xs := by
  have e1 : HT.sIx xs.length 0 none = 0 := rfl
  have e2 : HT.sIx xs.length xs.length (some (n : Int)) = xs.length := by
    rw [HT.sIx_nat]
    exact Nat.min_eq_right h
  unfold cutV
  rw [e1, e2, Nat.sub_zero, List.drop_zero, List.take_length]
end Pk
set_option Elab.async false
set_option linter.all false
set_option maxRecDepth 100000
set_option maxHeartbeats 1000000
/-! Error classes two steps below ArithmeticError, made by an __init__ that calls super().__init__ first and then stores fields. -/
namespace Pk
open PySem L2 PySem.Spec PyProof.Rows
abbrev arT : List Value := [.type "ArithmeticError", .type "Exception", .type "BaseException", .type "object"]
theorem arT_has {C pe : Addr} {z : String} (h : arT.contains (.type z) = true) : (Value.ref C :: .ref pe :: arT).contains (.type z) = true := by
  rw [List.contains_cons, List.contains_cons, h, Bool.or_true, Bool.or_true]
theorem arT_same {pe : Addr} (z : String) : (Value.ref pe :: arT).contains (.type z) = arT.contains (.type z) := by
  rw [List.contains_cons]
  simp
section
open PySem.W PySem.Calls Builtin Builtin.ObjectAttr
variable {prog : Program} {w : World} {A : Around} {R : Result → Shared → Prop} {hp : Heap} {g : Array GenState} {dn : Drawn} {tk : Nat} {os : OsState} {K : W.Frag} {nm : Str} {nt : Tok} {v : Value} {x C pe : Addr} {cd : ClassData}
/-- object.__setattr__ of such an error, up to the store in its own dict -/
theorem sa_head {ox : Obj} {od : Option Obj} (kin : K.In hp) (inst : W.InstAt hp x ox C od) (hcd : W.clsIn K C = some cd) (mro : cd.mro = .ref C :: .ref pe :: arT) (free : W.findIn K (.ref C) nm = some none)
    (go : wpAny (model prog w) A.in1 (storeInOwnDict (.ref x) (.ref C) (.str nm nt) nm v false) (fun fn st => match fn with
        | .done r => R (.ok r) st
        | .again c => c.quiet = true ∧ codeAny (model prog w) A c R st) (fun er st => R (.error er) st) ⟨hp, g, dn, tk, os⟩) :
    codeAny (model prog w) A (.call (.builtin "object.__setattr__") ⟨[.ref x, .str nm nt, v], []⟩) R ⟨hp, g, dn, tk, os⟩ := by
  have so := PySem.F.store_object
  have isO : W.mroIn K C (.type "object") = some true := by
    unfold W.mroIn
    rw [hcd, Option.bind_some, mro, if_neg (show ¬ (List.isEmpty (Value.ref C :: .ref pe :: arT) = true) from Bool.false_ne_true), arT_has (by decide +kernel)]
  have below : W.Looks (model prog w) hp (isInstance (.ref x) (.type "object")) true := inst.type.andThen (W.looks_mroIn kin isO)
  have line : W.Looks (model prog w) hp (mroOf (.ref C)) cd.mro := (W.looks_clsIn kin hcd).andThen .now
  have loop : refuseLoop (.ref x) "__setattr__" cd.mro = pure () := by
    rw [mro, refuseLoop_ref, refuseLoop_ref]
    exact PySem.F.store_ArithmeticError.passes _
  have no3 : W.Looks (model prog w) hp (storeTaker? none) none := .now
  refine codeAny_call_builtin so.slot.plain so.entry (@W.check_slot (model prog w) _ _ ⟨hp, g, dn, tk, os⟩ "object.__setattr__" "object" "__setattr__" (.ref x) [.str nm nt, v] [] _ so.kind so.split below (so.args (.ref x) (.str nm nt) v) ?_)
  rw [W.osa_eq, refuse_eq]
  refine wpAny_bind (wpAny_bind (inst.type.at (wpAny_bind (line.at ?_)))); rw [loop]
  exact wpAny_pure (wpAny_bind (inst.type.at (wpAny_bind ((W.looks_findIn kin free).at (wpAny_bind (no3.at go))))))
/-- the first field: the dict is made -/
theorem sa_first {fv : Array Value} (kin : K.In hp) (hx : hp.get? x = some { cls := .ref C, data := .fields fv }) (hcd : W.clsIn K C = some cd) (mro : cd.mro = .ref C :: .ref pe :: arT) (hasD : cd.hasDict = true) (free : W.findIn K (.ref C) nm = some none)
    (done : ∀ h2 t2 dx, (∀ b o, b ≠ x → hp.get? b = some o → h2.get? b = some o) → hp.objs.size ≤ dx → dx ≠ x → h2.get? x = some { cls := .ref C, dict := some dx, data := .fields fv } →
      h2.Ns1 dx (fun y => if y = nm then some v else none) → R (.ok (.ret .none)) ⟨h2, g, dn, t2, os⟩) :
    codeAny (model prog w) A (.call (.builtin "object.__setattr__") ⟨[.ref x, .str nm nt, v], []⟩) R ⟨hp, g, dn, tk, os⟩ := by
  have away : x ≠ hp.objs.size := Nat.ne_of_lt (Heap.lt_size hx)
  refine sa_head kin (ox := { cls := .ref C, data := .fields fv }) (od := none) ⟨hx, rfl, rfl, trivial⟩ hcd mro free ?_
  have look : W.Looks (model prog w) hp (classData C) cd := W.looks_clsIn kin hcd
  obtain ⟨c1, c2, c3, c4, c5, hd, c7, c8, c9, c10, c11⟩ := cd
  dsimp only at hasD
  subst hasD
  unfold storeInOwnDict ownDictForStores
  repeat (first | with_reducible refine HandSPX.store_in_new ?_ ?_ | with_reducible refine wpAny_loadPart_at hx ?_ | with_reducible refine look.at ?_ | wp_step)
  · exact ⟨_, #[], _, (Heap.get?_update_ne _ _ _ _ away.symm).trans (Heap.get?_push_at rfl rfl), rfl, fun e he => absurd he (by simp), fun _ => rfl⟩
  · intro h2 t2 ns sb
    have pushed : (hp.push { cls := .type "dict", data := .dict #[] }).get? x = some { cls := .ref C, data := .fields fv } := Heap.get?_push_of_some _ hx
    exact done h2 t2 hp.objs.size (fun b o hb ho => (sb.2 b (Nat.ne_of_lt (Heap.lt_size ho))).trans ((Heap.get?_update_ne _ _ _ _ hb).trans (Heap.get?_push_of_some _ ho))) (Nat.le_refl _) away.symm ((sb.2 x away).trans (Heap.get?_update_self _ pushed rfl)) ns
/-- a further field -/
theorem sa_more {fv : Array Value} {dx : Addr} {m0 : Str → Option Value} {nl : List Str} (kin : K.In hp) (hx : hp.get? x = some { cls := .ref C, dict := some dx, data := .fields fv }) (ns : hp.Ns1 dx m0) (wi : Within m0 nl) (few : nl.length ≤ 1000)
    (hcd : W.clsIn K C = some cd) (mro : cd.mro = .ref C :: .ref pe :: arT) (hasD : cd.hasDict = true) (free : W.findIn K (.ref C) nm = some none)
    (done : ∀ h2 t2, (∀ b o, b ≠ dx → hp.get? b = some o → h2.get? b = some o) → h2.Ns1 dx (fun y => if y = nm then some v else m0 y) → R (.ok (.ret .none)) ⟨h2, g, dn, t2, os⟩) :
    codeAny (model prog w) A (.call (.builtin "object.__setattr__") ⟨[.ref x, .str nm nt, v], []⟩) R ⟨hp, g, dn, tk, os⟩ := by
  obtain ⟨oD, _, _, hoD, _, _⟩ := ns.count wi
  refine sa_head kin (ox := { cls := .ref C, dict := some dx, data := .fields fv }) (od := some oD) ⟨hx, rfl, rfl, hoD⟩ hcd mro free ?_
  have look : W.Looks (model prog w) hp (classData C) cd := W.looks_clsIn kin hcd
  obtain ⟨c1, c2, c3, c4, c5, hd, c7, c8, c9, c10, c11⟩ := cd
  dsimp only at hasD
  subst hasD
  unfold storeInOwnDict ownDictForStores
  repeat (first | with_reducible refine PySem.ESX.store_in_old ns wi few ?_ | with_reducible refine wpAny_loadPart_at hx ?_ | with_reducible refine look.at ?_ | wp_step)
  exact fun h2 t2 n2 sb => done h2 t2 (fun b o hb ho => (sb.2 b hb).trans ho) n2
end

/-- what the written part says of an error class at C -/
structure ErrC (K : PySem.W.Frag) (C : Addr) : Prop where
  cls : ∃ pe nm q N bs sn sub ab col dd k0 k1 k2 k3 k5, K.lookup C = some (excClassObj nm q C N bs (.ref pe :: arT) true sn sub ab col dd k0 k1 k2 k3 k5 "ArithmeticError.__new__")
  sa : PySem.W.findIn K (.ref C) "__setattr__" = some (some (.builtin "object.__setattr__"))
  exB : PySem.W.subIn K (.ref C) (.type "BaseException") = some true
  exA : PySem.W.subIn K (.ref C) (.type "ArithmeticError") = some true
  ty : PySem.W.typeIn K (.ref C) = some (.type "type")
  kp : PySem.W.keepIn K (.ref C) = true
section
variable {X : Cx} {pins : List (Addr × Obj)} {σ : L2.St} {H : Hp} {s : Shared} {a C dx : Addr} {f : Str} {y : V} {u : Value} {fs : List (Str × V)} {Q : Unit → Shared → Prop} {E : Value → Shared → Prop} {A : Around}
theorem ErrC.data {K : PySem.W.Frag} (T : ErrC K C) : ∃ pe cd, PySem.W.clsIn K C = some cd ∧ cd.mro = .ref C :: .ref pe :: arT ∧ cd.hasDict = true := by
  obtain ⟨pe, nm, q, N, bs, sn, sub, ab, col, dd, k0, k1, k2, k3, k5, hC⟩ := T.cls
  exact ⟨pe, { name := nm, bases := bs, mro := .ref C :: .ref pe :: arT, ns := N, qualname := q, hasDict := true, slotNames := sn, subclasses := sub, abstract := ab, collection := col, hasDel := false }, by unfold PySem.W.clsIn; rw [hC] <;> rfl, rfl, rfl⟩
theorem not_at {H : Hp} {b c : Addr} {o : HO} (h : H b = some o) (n : H c = none) : c ≠ b := fun z => by
  rw [z, h] at n
  cases n
/-- self.f = y where the error has no dict as yet -/
theorem err_first (T : ErrC X.K C) (I : Inv X pins σ H s) (e : H a = some (exo a C none)) (free : PySem.W.findIn X.K (.ref C) f = some none) (ry : RelV y u)
    (go : ∀ dx st, H dx = none → dx ≠ a → Inv X pins σ (upd (upd H dx (exd dx [(f, y)])) a (exo a C (some dx))) st → Q () st) : wpAny (model X.prog X.w) A (setAttr (.ref a) f u) Q E s := by
  obtain ⟨pe, cd, hcl, hm, hh⟩ := T.data
  obtain ⟨t1, ho⟩ := exo_at I.hok e
  obtain ⟨hp, g, d, t, os⟩ := s
  refine PySem.W.set_plain I.kIn (od := none) (ox := { cls := .ref C, dict := none, data := .fields #[.ref t1, .none, .none, .none, .bool false, .none] }) ⟨ho, rfl, rfl, trivial⟩ T.sa (sa_first I.kIn ho hcl hm hh free fun h2 t2 dx k lt ne hx hn => ?_)
  have hnd : H dx = none := I.hok.fresh lt
  have old : ∀ {b : Addr} {o : Obj}, hp.get? b = some o → b ≠ dx := fun {b o} q => Nat.ne_of_lt (Nat.lt_of_lt_of_le (Heap.lt_size q) lt)
  have stay : ∀ {b : Addr} {o : HO}, H b = some o → exo a C none ≠ o → upd (upd H dx (exd dx [(f, y)])) a (exo a C (some dx)) b = some o := fun {b o} q ne => by
    rw [upd_ne (at_ne e q ne), upd_ne (ne_of_none q hnd)]; exact q
  have U : Un X.fs [] H (upd (upd H dx (exd dx [(f, y)])) a (exo a C (some dx))) hp h2 := {
    keep := fun b o q n _ _ => k b o (not_at e n) q
    slot := fun b o q n _ _ => ⟨o.slots, k b o (not_at e n) q⟩
    free := fun b o q n _ => by rw [upd_ne (not_at e n), upd_ne (old q)]; exact n
    there := fun b o q _ => by
      by_cases hb : b = a
      · exact ⟨_, hb ▸ hx⟩
      · exact ⟨o, k b o hb q⟩
    tups := fun b xs q => stay q exo_tup
    frzs := fun b o v q => stay q exo_frz
    tbls := fun b ps q => ⟨#[], by rw [stay q exo_tbl]; simp⟩ }
  refine go dx _ hnd ne (I.un (t' := t2) U fun b o q => ?_)
  by_cases hb : b = a
  · subst hb; rw [upd_same] at q; cases q; exact exo_ok hx
  · rw [upd_ne hb] at q
    by_cases hd : b = dx
    · subst hd; rw [upd_same] at q; cases q
      exact exd_ok hn (relO_put (fs := []) ry fun _ => True.intro)
    · rw [upd_ne hd] at q
      refine (I.hok b o q).stay (fun c v hc z => k c v ?_ z) (fun c hc => stay hc exo_own) fun c xs hc => stay hc exo_tup
      rcases hc with hc | hc
      · exact hc ▸ hb
      · exact at_ne e hc exo_own
/-- self.f = y, a further field -/
theorem err_more (T : ErrC X.K C) (I : Inv X pins σ H s) (e : H a = some (exo a C (some dx))) (ed : H dx = some (exd dx fs)) (few : fs.length ≤ 900) (free : PySem.W.findIn X.K (.ref C) f = some none) (ry : RelV y u)
    (go : ∀ st, Inv X pins σ (upd H dx (exd dx ((f, y) :: fs))) st → Q () st) : wpAny (model X.prog X.w) A (setAttr (.ref a) f u) Q E s := by
  obtain ⟨pe, cd, hcl, hm, hh⟩ := T.data
  obtain ⟨t1, ho⟩ := exo_at I.hok e
  obtain ⟨mA, hns, rel⟩ := exd_at I.hok ed
  have hw := within_of rel
  obtain ⟨hp, g, d, t, os⟩ := s
  obtain ⟨oD, _, _, hoD, _, _⟩ := hns.count hw
  refine PySem.W.set_plain I.kIn (od := some oD) (ox := { cls := .ref C, dict := some dx, data := .fields #[.ref t1, .none, .none, .none, .bool false, .none] }) ⟨ho, rfl, rfl, hoD⟩ T.sa (sa_more I.kIn ho hns hw (by rw [List.length_map]; omega) hcl hm hh free fun h2 t2 k hn => ?_)
  have there : ∃ o, h2.get? dx = some o := ⟨_, hn.choose_spec.choose_spec.choose_spec.1⟩
  exact go _ (I.write (t' := t2) (x := dx) (e := dx) (o := exd dx ((f, y) :: fs)) (by rw [ed]; exact True.intro) (.inl rfl) k there (exd_ok hn (relO_put ry rel)))
end
/-- self.f = e in the __init__ of such an error -/
def tErrSet (K : PySem.W.Frag) (f : Str) (to te : TE) : TS := fun D σ H => te σ H fun y H1 => to σ H1 fun x H2 => ∃ a C : Addr, x = .ref a ∧ ErrC K C ∧ PySem.W.findIn K (.ref C) f = some none ∧
  ((H2 a = some (exo a C none) ∧ ∀ dx, H2 dx = none → dx ≠ a → D.nx σ (upd (upd H2 dx (exd dx [(f, y)])) a (exo a C (some dx)))) ∨
   (∃ (dx : Addr) (fs : List (Str × V)), H2 a = some (exo a C (some dx)) ∧ H2 dx = some (exd dx fs) ∧ fs.length ≤ 900 ∧ D.nx σ (upd H2 dx (exd dx ((f, y) :: fs)))))
theorem ps_errSet {X : Cx} {o e : Expr} {to te : TE} {f : Str} {p' pos : Pos} (ho : PE X o to) (he : PE X e te) (hs : swapsWith e (some (.Attribute o f p')) pos.line X.env = pure false := by rfl) : PS X (.Assign [.Attribute o f p'] e pos) (tErrSet X.K f to te) := by
  refine ⟨fun pins s σ H D I h => plainObj_wpAny_Assign_Attribute (thn (he.run pins s σ H _ I h) fun v s1 ⟨y, H1, I1, r1, q1⟩ => thn (ho.run pins s1 σ H1 _ I1 q1) fun u s2 ⟨x, H2, I2, r2, a, C, ex, T, free, q⟩ => ?_) hs⟩
  subst ex
  obtain rfl : u = Value.ref a := r2
  rcases q with ⟨ea, q⟩ | ⟨dx, fs, ea, ed, few, q⟩
  · exact err_first T I2 ea free r1 fun dx st n ne J => ⟨σ, _, J, q dx n ne⟩
  · exact err_more T I2 ea ed few free r1 fun st J => ⟨σ, _, J, q⟩
end Pk
set_option Elab.async false
set_option linter.all false
set_option maxRecDepth 100000
set_option maxHeartbeats 1000000
namespace Pk
open PySem L2 PySem.Spec PyProof.Rows
/-- the __init__ at fI of the error class at C: F its words, cc the cell of the class -/
structure InitFn (P : Program) (K : PySem.W.Frag) (C fI cc : Addr) (F : NdefX.NF) : Prop where
  fn : ∃ (oc : Value) (od : Option Addr) (kV doc pm : Value) (an : Option Addr) (ct : Value) (osl : Array (Option Value)), K.lookup fI = some ⟨oc, od, .func (PySem.W.fnX F.name F.qual F.params F.body F.scope F.cl .none kV doc pm an (.ref F.c) ct), osl⟩
  code : PySem.W.codeIn K (.ref F.c) F.qual = true
  cl : F.cl = [(("__class__" : Str), cc)]
  cell : ∃ (a : Value) (b : Option Addr) (c : Array (Option Value)), K.lookup cc = some ⟨a, b, .cell (some (.ref C)), c⟩
  file : ∃ (a : Value) (b : Option Addr) (vs : Array Value) (c : Array (Option Value)) (f : Str) (t : Tok), K.lookup F.c = some ⟨a, b, .fields vs, c⟩ ∧ vs[2]? = some (.str f t) ∧ ((P.main.file : Str) == f) = true
  top : (P.main.scope.names.lookup ("super" : Str)).isSome = false
  opq : PySem.W.nsIn K cStatics "thirdparty.any" = some none
  self : ∃ q, (F.params.posonlyargs ++ F.params.args).head? = some { arg := "self", annotation := none, pos := q }
  sup : PySem.W.ks_superIn K C C "__init__" = some (some (.builtin "ArithmeticError.__init__"))
  below : PySem.W.mroIn K C (.ref C) = some true
section
open PySem.W PySem.Calls
variable {P : Program} {w : World} {K : PySem.W.Frag} {mg : Str → Option Value} {base : Heap} {CX : CXT} {C fI cc : Addr} {F : NdefX.NF} {N ps : List Str} {A : Around} {outer : List Env} {s : Shared} {H : Hp} {Q : VK} {E : XK} {k : Nat}
/-- super().__init__(text): the error's own arguments are laid anew, nothing else is changed -/
theorem sup_init {X : Cx} {pins : List (Addr × Obj)} {σ : L2.St} {H : Hp} {s : Shared} {x u : Addr} {us : List Value} {Qv : Value → Shared → Prop} (T : ErrC X.K C) (I : Inv X pins σ H s) (ex : H x = some (exo x C none)) (hu : s.heap.get? u = some (kxs_mw "ArithmeticError.__init__" x)) (hz : us.length ≤ sizeLine)
    (go : ∀ st, Inv X pins σ H st → Qv .none st) : wpAny (model X.prog X.w) X.A (call (.ref u) us) Qv X.xe s := by
  obtain ⟨pe, nm, q, NN, bs, sn, sub, ab, col, dd, k0, k1, k2, k3, k5, hC⟩ := T.cls
  obtain ⟨t1, ho⟩ := exo_at I.hok ex
  have hC' := I.kIn _ _ hC
  have hE := PySem.F.excBase_ArithmeticError
  have fin : ∀ h2, (∀ b o, b ≠ x → s.heap.get? b = some o → h2.get? b = some o) → h2.get? x = some (excObj C s.heap.objs.size none .none) → Qv .none { s with heap := h2 } := fun h2 keep hx => by
    have J := I.write (t' := s.toks) (x := x) (e := x) (o := exo x C none) (by rw [ex]; exact True.intro) (.inl rfl) keep ⟨_, hx⟩ (exo_ok hx)
    have e2 : upd H x (exo x C none) = H := by
      funext b
      by_cases hb : b = x
      · rw [hb, upd_same, ex]
      · rw [upd_ne hb]
    rw [e2] at J
    exact go _ J
  obtain ⟨hp, g, d, tk, os⟩ := s
  refine wpAny_call (codeAny_of_tree ?_)
  show wpAny _ X.A.in1 (callAny (.ref u) ⟨us, []⟩) _ _ _
  simp only [callAny]
  refine wpAny_bind (wpAny_load hu ?_)
  simp only [kxs_mw, show (Value.type "method-wrapper" == Value.type "method" || Value.type "method-wrapper" == Value.type "builtin_function_or_method" || Value.type "method-wrapper" == Value.type "method-wrapper") = true from by decide, if_true]
  refine KFB.if_so (by decide) (wpAny_bind (check_bound_init hE.toExcCallFacts hC' ho rfl (wpAny_bind (wpAny_pure (wpAny_pure ⟨plainId_quiet hE.init.plain _, codeAny_builtin hE.initEntry ?_⟩)))))
  exact exc_init_tree (cls := .ref C) (t0 := t1) (dv := none) (c2 := .none) (c3 := .none) (b4 := .bool false) ho hz fun h2 keep hx _ => fin h2 keep hx

/-- THE RULE of such an __init__: behind its first row the rest of its body runs as a def's body does, the class in its cell -/
theorem init_run {msg : Str} {kd : Nat} {p0 p1 p2 p3 p4 p5 : Pos} {rest : List Stmt} {us : List Value} {vs : List V} {x : Addr} (T : ErrC K C) (J : InitFn P K C fI cc F) (ms : mg "super" = none) (S : NdefX.NScope N ps ["__class__"] F.scope)
    (hB : F.body = .Expr (.Call (.Attribute (.Call (.Name "super" p0) [] [] p1) "__init__" p2) [.Constant (.str msg) kd p3] [] p4) p5 :: rest) (hsg : F.scope.names.lookup ("super" : Str) = some .globalImplicit)
    (hsl : F.scope.names.lookup ("self" : Str) = some .local) (hr : Room (k + 1) A) (e0 : Env0 P w K mg base A outer s H)
    (hb : ∀ (kV doc pm ct : Value) (an : Option Addr), BindsTo s (PySem.W.fnX F.name F.qual F.params F.body F.scope F.cl .none kV doc pm an (.ref F.c) ct) ⟨us, []⟩ (ps.zip us)) (r : Vals vs us) (hl : vs.length = ps.length)
    (hs0 : ps[0]? = some ("self" : Str)) (hv0 : vs[0]? = some (.ref x)) (ex : H x = some (exo x C none))
    {pl : Sem Bool} (he : ∀ env : Env, eval (.Call (.Attribute (.Call (.Name "super" p0) [] [] p1) "__init__" p2) [.Constant (.str msg) kd p3] [] p4) env = (do
      let ov ← attributeBase (.Call (.Name "super" p0) [] [] p1) "__init__" env (eval (.Call (.Name "super" p0) [] [] p1) env)
      standAt p2.atName
      let (f, first) ← holding [ov] (getMethod ov "__init__" pl)
      callWith p4 f first (backTo p4 (starEach [.Constant (.str msg) kd p3] env)) []))
    (hq : Room k (A.deeper (NdefX.envF F fI s.heap.objs.size)) → ∃ t, PSs (NdefX.ncx CX P w K mg base N F fI A outer s H E) rest t ∧ t { nx := fun _ H' => Q .non H', rt := Q } (NdefX.startF N vs [some (.ref C)]) H) :
    codeAny (model P w) A (.call (.ref fI) ⟨us, []⟩) (CR CX outer P w H s Q E) s := by
  obtain ⟨oc, od, kV, doc, pm, an, ct, osl, lk⟩ := J.fn
  obtain ⟨ca, cb, ccs, hcell⟩ := J.cell
  obtain ⟨fa, fb, fvs, fc, ff, ft, hcode, hvs, hfile⟩ := J.file
  obtain ⟨aq, hself⟩ := J.self
  obtain ⟨pe, cd, hcd, hmro, hhd⟩ := T.data
  have kin0 : K.In s.heap := e0.mod.kin.keeps fun b o e => (e0.bs b o e).1
  have lim : s.heap.NoLimit := e0.mod.nolimit.keeps fun b o e => (e0.bs b o e).1
  have cells : NdefX.CellsAt F.cl ["__class__"] [some (.ref C)] s.heap H := by
    have there : s.heap.IsCell cc (some (.ref C)) := ⟨_, kin0 _ _ hcell, rfl⟩
    have one : ∀ (y : Str) (c : Addr), F.cl.lookup y = some c → y = "__class__" ∧ c = cc := fun y c e => by
      rw [J.cl] at e
      have m := PySem.mem_of_lookup e
      simp only [List.mem_singleton, Prod.mk.injEq] at m
      exact m
    refine ⟨rfl, fun y c e => ?_, fun y z c e1 e2 => (one y c e1).1.trans (one z c e2).1.symm, fun i y e => ?_⟩
    · obtain ⟨_, rfl⟩ := one y c e
      exact ⟨(e0.bs _ _ (e0.mod.kin _ _ hcell)).2, _, there⟩
    · have ey : y = "__class__" := by
        match i, e with
        | 0, e => exact (Option.some.inj e).symm
        | i + 1, e => simp at e
      subst ey
      refine ⟨cc, by rw [J.cl]; simp [List.lookup], fun v e => ?_⟩
      match i, e with
      | 0, e => exact ⟨.ref C, by have z := Option.some.inj (Option.some.inj e); subst z; rfl, there⟩
      | i + 1, e => simp at e
  have ndP : ps.Nodup := by
    have q := S.nd.sublist (List.take_sublist (ps.length + [("__class__" : Str)].length) N)
    rw [S.pre] at q
    exact (List.nodup_append.mp q).1
  have hu0 : us[0]? = some (.ref x) := by
    obtain ⟨u, hu, ru⟩ := r.get hv0
    rw [hu]
    exact congrArg some ru
  refine ks_codeAny_call_defAt (fd := PySem.W.fnX F.name F.qual F.params F.body F.scope F.cl .none kV doc pm an (.ref F.c) ct) (body := F.body) (binds := ps.zip us) hr.depth (kin0 _ _ lk) rfl lim (PySem.W.codeRec_of kin0 J.code) rfl (hb kV doc pm ct an) S.nocell
    (fun ⟨n, v⟩ hy => S.par n (List.of_mem_zip hy).1) (fun h₁ hns hk₁ => ?_) S.co S.gen S.kind
  have I : Inv (NdefX.ncx CX P w K mg base N F fI A outer s H E) [] (NdefX.startF N vs [some (.ref C)]) H { s with heap := h₁, toks := s.toks + (ps.zip us).length } := NdefX.inv_startN S hr.hd e0 hl r cells hns hk₁
  obtain ⟨t, ht, hgo⟩ := hq (hr.deeper _)
  show PySem.wpAt _ (A.deeper (NdefX.envF F fI s.heap.objs.size)) (.func F.body (NdefX.envF F fI s.heap.objs.size)) (execs F.body (NdefX.envF F fI s.heap.objs.size)) _ _ _
  rw [hB]
  have hx1 : ∃ t1, h₁.get? x = some (excObj C t1 none .none) := exo_at I.hok ex
  obtain ⟨t1, hx1⟩ := hx1
  have kin1 : K.In h₁ := I.kIn
  obtain ⟨oD, hD1, hD2⟩ : ∃ oD, h₁.get? C = some oD ∧ oD.data = .cls cd := by
    have q := hcd
    unfold PySem.W.clsIn at q
    split at q
    · rename_i c' d' cd' sl' ho
      cases q
      exact ⟨_, kin1 _ _ ho, rfl⟩
    · cases q
  have fin : ∀ st, Inv (NdefX.ncx CX P w K mg base N F fI A outer s H E) [] (NdefX.startF N vs [some (.ref C)]) H st →
      wpAny (model P w) (A.deeper (NdefX.envF F fI s.heap.objs.size)) (execs rest (NdefX.envF F fI s.heap.objs.size)) (fun f s' => CR CX outer P w H s Q E (.ok (.ret (match f with | .ret v => v | _ => .none))) s')
        (fun e s' => wpAny (model P w) (A.deeper (NdefX.envF F fI s.heap.objs.size)) (leaving (NdefX.envF F fI s.heap.objs.size) e) (fun _ s'' => CR CX outer P w H s Q E (.error e) s'') (fun e' s'' => CR CX outer P w H s Q E (.error e') s'') s') st := fun st I2 => by
    refine wpAny_mono (ht.run [] st _ H _ I2 hgo) (fun fl s' hs => ?_) fun e s' hs => hs
    have close : ∀ {σ' : L2.St} {H' : Hp} {v : V} {u : Value}, Inv (NdefX.ncx CX P w K mg base N F fI A outer s H E) [] σ' H' s' → L2.RelV v u → Q v H' → CE outer P w H s Q u s' := fun {σ' H' v u} Z rv q => ⟨v, H', Z.os, Z.bare, Z.base, Z.hok, rv, q⟩
    cases fl with
    | ret u =>
      obtain ⟨v, σ', H', Z, rv, q⟩ := hs
      exact close Z rv q
    | next =>
      obtain ⟨σ', H', Z, q⟩ := hs
      exact close (v := V.non) (u := Value.none) Z rfl q
    | brk => exact (hs.choose_spec.choose_spec.2 : False).elim
    | cont => exact (hs.choose_spec.choose_spec.2 : False).elim
  refine ks_wpAt_execs_cons (ks_wpAt_Expr_any (ks_wpAt_MethodCall (ks_wpAt_super_base (cc := F.c) (f := fI) (ar := { arg := "self", annotation := none, pos := aq }) hsg (S.frk _ (by simp)) (by decide) rfl (kin1 _ _ lk) rfl hself rfl (kin1 _ _ hcode) rfl hvs hfile J.top ?_) (he _)) I.quiet ?sw)
  case sw => rfl
  obtain ⟨mb, hm1, hm2⟩ := e0.mod.blt
  refine ks_loadName_global S.kind hsg (loadGlobal_builtin (env := NdefX.envF F fI s.heap.objs.size) (e0.mod.glob.keeps I.bk) ms (hm1.keeps I.bk) ((hm2 "super" (by decide)).trans (by decide +kernel)) ⟨rfl, ?_⟩)
  refine wpAny_loadName_free S.kind (S.frk _ (by simp)) (show F.cl.lookup ("__class__" : Str) = some cc by rw [J.cl]; simp [List.lookup]) ⟨_, kin1 _ _ hcell, rfl⟩ ?_
  refine wpAny_loadName_local S.kind hsl hns (NdefX.zip_look ndP hs0 hu0) (ks_wpAny_isType_cls hD1 hD2 ⟨rfl, ?_⟩)
  have nocls : ∀ c, (excObj C t1 none .none).data ≠ .cls c := fun c z => by cases z
  refine ks_wpAny_call_super hD1 hD2 hx1 rfl nocls (PySem.W.looks_mroIn kin1 J.below) (fun h2 eso k2 => ?_)
  have I2 := I.kept (t' := s.toks + (ps.zip us).length) k2
  have kin2 : K.In h2 := I2.kIn
  have inst : PySem.W.InstAt h2 x (excObj C t1 none .none) C none := ⟨k2 _ _ hx1, rfl, rfl, trivial⟩
  have along : PySem.W.alongIn K "__init__" ((cd.mro.dropWhile (· != .ref C)).drop 1) = some (some (.builtin "ArithmeticError.__init__")) := by
    have q := J.sup
    unfold PySem.W.ks_superIn at q
    rw [hcd] at q
    exact q
  refine kxs_getMethod kxs_ArithmeticError eso (PySem.W.looks_opaque kin2 J.opq) ((PySem.W.looks_clsIn kin2 hcd).andThen .now) rfl kin2 along (inst.type.andThen (PySem.W.looks_subIn kin2 T.exA)) (PySem.W.ks_ne kin2 inst hcd) (by decide) ?_
  refine kxs_callWith (i := "ArithmeticError.__init__") (x := x) rfl ?_
  have hu : (h2.push (kxs_mw "ArithmeticError.__init__" x)).get? h2.objs.size = some (kxs_mw "ArithmeticError.__init__" x) := Heap.get?_push_at rfl rfl
  have fr : H h2.objs.size = none := I2.hok.fresh (Nat.le_refl _)
  have I3 := I2.kept (t' := s.toks + (ps.zip us).length + 1) (h' := h2.push (kxs_mw "ArithmeticError.__init__" x)) fun b o e => Heap.get?_push_of_some _ e
  have I4 : Inv (NdefX.ncx CX P w K mg base N F fI A outer s H E) [(h2.objs.size, kxs_mw "ArithmeticError.__init__" x)] (NdefX.startF N vs [some (.ref C)]) H { s with heap := h2.push (kxs_mw "ArithmeticError.__init__" x), toks := s.toks + (ps.zip us).length + 1 } :=
    ⟨I3.ok, I3.os, I3.bare, I3.base, I3.loc, I3.cell, I3.free, I3.freeC, fun p hp => by
      have e : p = (h2.objs.size, kxs_mw "ArithmeticError.__init__" x) := by
        have q : p ∈ [] ++ [(h2.objs.size, kxs_mw "ArithmeticError.__init__" x)] := hp
        simpa using q
      subst e
      exact ⟨hu, fr, Nat.ne_of_gt I2.lt, I2.nofs (Nat.le_refl _), fun v z => by cases z⟩, I3.hok, I3.len⟩
  have arg : PA (NdefX.ncx CX P w K mg base N F fI A outer s H E) [.Constant (.str msg) kd p3] (tCons (tC (.str msg)) tNil) := pa_cons pe_str pa_nil
  refine evalArgs_plain (thn (arg.run p4 _ _ _ H (fun us2 H2 => us2 = [.str msg] ∧ H2 = H) I4 ⟨rfl, rfl⟩) fun us2 s3 h3 => ?_)
  obtain ⟨vs2, H3, I5, r5, rfl, rfl⟩ := h3
  have mu : s3.heap.get? h2.objs.size = some (kxs_mw "ArithmeticError.__init__" x) := (I5.pin (h2.objs.size, kxs_mw "ArithmeticError.__init__" x) (List.mem_append_right _ (List.mem_singleton.mpr rfl))).1
  have one : us2.length ≤ sizeLine := by
    have z := Paired.length r5
    rw [← z, sizeLine_eq]
    show 1 ≤ 16777216
    decide
  refine ⟨mu, sup_init (us := us2) T I5 ex mu one fun st I6 => ?_⟩
  refine wpAt_of_wpAny (fin st ⟨I6.ok, I6.os, I6.bare, I6.base, I6.loc, I6.cell, I6.free, I6.freeC, fun p hp => I6.pin p (List.mem_append_left _ ?_), I6.hok, I6.len⟩)
  have q : p ∈ [] ++ [] := hp
  simpa using q
end
end Pk
set_option Elab.async false
set_option linter.all false
set_option maxRecDepth 100000
set_option maxHeartbeats 1000000
/-! Data of lists and tuples of bounded depth; copies of it that share no list. -/
namespace Pk
open PySem L2
/-- nested at most n deep, no list or tuple longer than 1000 -/
inductive Deep : Nat → PyData → Prop
  | non {n : Nat} : Deep n .none
  | bl {n : Nat} (b : Bool) : Deep n (.bool b)
  | int {n : Nat} (i : Int) : Deep n (.int i)
  | str {n : Nat} (z : Str) : Deep n (.str z)
  | lst {n : Nat} {ds : List PyData} (h : ∀ d ∈ ds, Deep n d) (z : ds.length ≤ 1000) : Deep (n + 1) (.list ds)
  | tup {n : Nat} {ds : List PyData} (h : ∀ d ∈ ds, Deep n d) (z : ds.length ≤ 1000) : Deep (n + 1) (.tuple ds)
theorem Deep.mono {n m : Nat} {d : PyData} (h : Deep n d) (l : n ≤ m) : Deep m d := by
  induction h generalizing m with
  | non => exact .non
  | bl b => exact .bl b
  | int i => exact .int i
  | str z => exact .str z
  | lst h z ih =>
    obtain ⟨k, rfl⟩ : ∃ k, m = k + 1 := ⟨m - 1, by omega⟩
    exact .lst (fun d hd => ih d hd (by omega)) z
  | tup h z ih =>
    obtain ⟨k, rfl⟩ : ∃ k, m = k + 1 := ⟨m - 1, by omega⟩
    exact .tup (fun d hd => ih d hd (by omega)) z
/-- v is the data d in H, and every list and tuple of it is new: not tracked in H0 -/
inductive Own (H0 H : Hp) : V → PyData → Prop
  | non : Own H0 H .non .none
  | bl (b : Bool) : Own H0 H (.bl b) (.bool b)
  | int (i : Int) : Own H0 H (.int i) (.int i)
  | str (z : Str) : Own H0 H (.str z) (.str z)
  | lst {a : Addr} {xs : List V} {ds : List PyData} (n : H0 a = none) (h : H a = some (.lst xs)) (hl : xs.length = ds.length) (hs : ∀ (i : Nat) (v : V) (d : PyData), xs[i]? = some v → ds[i]? = some d → Own H0 H v d) : Own H0 H (.ref a) (.list ds)
  | tup {a : Addr} {xs : List V} {ds : List PyData} (n : H0 a = none) (h : H a = some (.tup xs)) (hl : xs.length = ds.length) (hs : ∀ (i : Nat) (v : V) (d : PyData), xs[i]? = some v → ds[i]? = some d → Own H0 H v d) : Own H0 H (.ref a) (.tuple ds)
theorem Own.mono {H0 H H0' H' : Hp} {v : V} {d : PyData} (o : Own H0 H v d) (f : ∀ a, H0 a = none → H a ≠ none → H0' a = none) (k : ∀ a u, H0 a = none → H a = some u → (∃ xs, u = .lst xs ∨ u = .tup xs) → H' a = some u) : Own H0' H' v d := by
  induction o with
  | non => exact .non
  | bl b => exact .bl b
  | int i => exact .int i
  | str z => exact .str z
  | lst n h hl _ ih => exact .lst (f _ n (by rw [h]; exact Option.some_ne_none _)) (k _ _ n h ⟨_, .inl rfl⟩) hl fun i v d e1 e2 => ih i v d e1 e2
  | tup n h hl _ ih => exact .tup (f _ n (by rw [h]; exact Option.some_ne_none _)) (k _ _ n h ⟨_, .inr rfl⟩) hl fun i v d e1 e2 => ih i v d e1 e2
theorem Own.later {H0 H H' : Hp} {v : V} {d : PyData} (o : Own H0 H v d) (s : Same H H') : Own H0 H' v d := o.mono (fun _ n _ => n) fun a u _ h _ => s a u h
/-- made later than H0, so also later than what H0 has grown from -/
theorem Own.back {H0 H1 H : Hp} {v : V} {d : PyData} (o : Own H1 H v d) (s : Same H0 H1) : Own H0 H v d := by
  induction o with
  | non => exact .non
  | bl b => exact .bl b
  | int i => exact .int i
  | str z => exact .str z
  | lst n h hl _ ih => exact .lst (s.free n) h hl ih
  | tup n h hl _ ih => exact .tup (s.free n) h hl ih
theorem dpAll_of {K : PySem.W.Frag} {H : Hp} : ∀ {xs : List V} {ds : List PyData}, xs.length = ds.length → (∀ (i : Nat) (v : V) (d : PyData), xs[i]? = some v → ds[i]? = some d → Dp K H v d) → DpAll K H xs ds
  | [], [], _, _ => .nil
  | [], _ :: _, h, _ => by cases h
  | _ :: _, [], h, _ => by cases h
  | x :: xs, d :: ds, h, k => .cons (k 0 x d rfl rfl) (dpAll_of (Nat.succ.inj h) fun i v e e1 e2 => k (i + 1) v e e1 e2)
theorem dpAll_len {K : PySem.W.Frag} {H : Hp} : ∀ {xs : List V} {ds : List PyData}, DpAll K H xs ds → xs.length = ds.length
  | _, _, .nil => rfl
  | _, _, .cons _ t => congrArg Nat.succ (dpAll_len t)
theorem dpAll_at {K : PySem.W.Frag} {H : Hp} : ∀ {xs : List V} {ds : List PyData} {i : Nat} {v : V}, DpAll K H xs ds → xs[i]? = some v → ∃ d, ds[i]? = some d ∧ Dp K H v d
  | _, _, _, _, .nil, e => by simp at e
  | _, _, 0, _, .cons h _, e => ⟨_, rfl, by have z := Option.some.inj e; subst z; exact h⟩
  | _, _, i + 1, _, .cons _ t, e => dpAll_at (i := i) t e
theorem Own.dp {K : PySem.W.Frag} {H0 H : Hp} {v : V} {d : PyData} (o : Own H0 H v d) : Dp K H v d := by
  induction o with
  | non => exact .non
  | bl b => exact .bl b
  | int i => exact .int i
  | str z => exact .str z
  | lst n h hl _ ih => exact .lst (SqL.of h) (dpAll_of hl ih)
  | tup n h hl _ ih => exact .tup (SqT.of h) (dpAll_of hl ih)
/-- lists, tuples and what is locked -/
def IsLT (u : HO) : Prop := (∃ xs, u = .lst xs) ∨ (∃ xs, u = .tup xs) ∨ ∃ o z, u = .frz o z
/-- these are as they were -/
def SameD (H H' : Hp) : Prop := ∀ a u, IsLT u → H a = some u → H' a = some u
theorem SameD.of {H H' : Hp} (s : Same H H') : SameD H H' := fun a u _ h => s a u h
theorem SameD.trans {H H1 H2 : Hp} (a : SameD H H1) (b : SameD H1 H2) : SameD H H2 := fun c u l h => b c u l (a c u l h)
theorem SameD.seqL {K : PySem.W.Frag} {H H' : Hp} (s : SameD H H') {a : Addr} {xs : List V} (h : SqL K H a xs) : SqL K H' a xs := by
  rcases h with (h | ⟨o, h⟩) | h
  · exact .inl (.inl (s _ _ (.inl ⟨_, rfl⟩) h))
  · exact .inl (.inr ⟨o, s _ _ (.inr (.inr ⟨_, _, rfl⟩)) h⟩)
  · exact .inr h
theorem SameD.seqT {K : PySem.W.Frag} {H H' : Hp} (s : SameD H H') {a : Addr} {xs : List V} (h : SqT K H a xs) : SqT K H' a xs := by
  rcases h with (h | ⟨o, h⟩) | h
  · exact .inl (.inl (s _ _ (.inr (.inl ⟨_, rfl⟩)) h))
  · exact .inl (.inr ⟨o, s _ _ (.inr (.inr ⟨_, _, rfl⟩)) h⟩)
  · exact .inr h
mutual
theorem Dp.laterD {K : PySem.W.Frag} {H H' : Hp} (s : SameD H H') : ∀ {v : V} {d : PyData}, Dp K H v d → Dp K H' v d
  | _, _, .non => .non
  | _, _, .bl b => .bl b
  | _, _, .int i => .int i
  | _, _, .str z => .str z
  | _, _, .lst h t => .lst (s.seqL h) (DpAll.laterD s t)
  | _, _, .tup h t => .tup (s.seqT h) (DpAll.laterD s t)
theorem DpAll.laterD {K : PySem.W.Frag} {H H' : Hp} (s : SameD H H') : ∀ {xs : List V} {ds : List PyData}, DpAll K H xs ds → DpAll K H' xs ds
  | _, _, .nil => .nil
  | _, _, .cons h t => .cons (Dp.laterD s h) (DpAll.laterD s t)
end
theorem Dp.later {K : PySem.W.Frag} {H H' : Hp} (s : Same H H') {v : V} {d : PyData} (h : Dp K H v d) : Dp K H' v d := Dp.laterD (.of s) h
theorem DpAll.later {K : PySem.W.Frag} {H H' : Hp} (s : Same H H') {xs : List V} {ds : List PyData} (h : DpAll K H xs ds) : DpAll K H' xs ds := DpAll.laterD (.of s) h
/-- the built-in class of a piece of data -/
def kindOf : PyData → String
  | .none => "NoneType" | .bool _ => "bool" | .int _ => "int" | .str _ => "str" | .list _ => "list" | .tuple _ => "tuple" | _ => "object"
theorem Dp.kind {K : PySem.W.Frag} {H : Hp} {v : V} {d : PyData} (h : Dp K H v d) : TyX K H v (.type (kindOf d)) := by
  cases h with
  | non => exact .base .non
  | bl b => exact .base (.bl b)
  | int i => exact .base (.int i)
  | str z => exact .base (.str z)
  | lst h _ =>
    rcases h with (h | ⟨o, h⟩) | ⟨o, its, n, h, c, _⟩
    · exact .base (.lst h)
    · exact .base (.frz h)
    · exact .kList h c
  | tup h _ =>
    rcases h with (h | ⟨o, h⟩) | ⟨o, its, n, h, c, _⟩
    · exact .base (.tup h)
    · exact .fTuple h
    · exact .kTuple h c
/-- isinstance(x, T), T a built-in class -/
theorem r_isi {K : PySem.W.Frag} {H : Hp} {Q : VK} {x : V} {a b : String} {r : Bool} (t : TyX K H x (.type a)) (e : kitB a b = some r) (h : Q (.bl r) H) : rIsi K [x, .ty b] H Q := ⟨x, .ty b, _, _, r, rfl, .ty b, t, kit_ty e, h⟩
/-- own_copy(value), for data at most n deep -/
def spCopy (K : PySem.W.Frag) (n : Nat) : Sp := fun vs H Q _ => ∃ (v : V) (d : PyData), vs = [v] ∧ Dp K H v d ∧ Deep n d ∧ ∀ (v' : V) (H' : Hp), Same H H' → Own H H' v' d → Q v' H'
/-- _law_same(a, b) of two values that are the same data -/
def spSame (K : PySem.W.Frag) (n : Nat) : Sp := fun vs H Q _ => ∃ (a b : V) (d : PyData), vs = [a, b] ∧ Dp K H a d ∧ Dp K H b d ∧ Deep n d ∧ Q (.bl true) H
theorem kit_list (d : PyData) : ∃ r, kitB (kindOf d) "list" = some r ∧ (r = true ↔ ∃ ds, d = .list ds) := by
  cases d with
  | none => exact ⟨false, (by decide +kernel : kitB "NoneType" "list" = some false), ⟨(fun z => by cases z), (fun z => by obtain ⟨_, z⟩ := z; cases z)⟩⟩
  | bool b => exact ⟨false, (by decide +kernel : kitB "bool" "list" = some false), ⟨(fun z => by cases z), (fun z => by obtain ⟨_, z⟩ := z; cases z)⟩⟩
  | int i => exact ⟨false, (by decide +kernel : kitB "int" "list" = some false), ⟨(fun z => by cases z), (fun z => by obtain ⟨_, z⟩ := z; cases z)⟩⟩
  | str z => exact ⟨false, (by decide +kernel : kitB "str" "list" = some false), ⟨(fun z => by cases z), (fun z => by obtain ⟨_, z⟩ := z; cases z)⟩⟩
  | list ds => exact ⟨true, (by decide +kernel : kitB "list" "list" = some true), ⟨fun _ => ⟨ds, rfl⟩, fun _ => rfl⟩⟩
  | tuple ds => exact ⟨false, (by decide +kernel : kitB "tuple" "list" = some false), ⟨(fun z => by cases z), (fun z => by obtain ⟨_, z⟩ := z; cases z)⟩⟩
  | dict kv => exact ⟨false, (by decide +kernel : kitB "object" "list" = some false), ⟨(fun z => by cases z), (fun z => by obtain ⟨_, z⟩ := z; cases z)⟩⟩
theorem kit_tuple (d : PyData) : ∃ r, kitB (kindOf d) "tuple" = some r ∧ (r = true ↔ ∃ ds, d = .tuple ds) := by
  cases d with
  | none => exact ⟨false, (by decide +kernel : kitB "NoneType" "tuple" = some false), ⟨(fun z => by cases z), (fun z => by obtain ⟨_, z⟩ := z; cases z)⟩⟩
  | bool b => exact ⟨false, (by decide +kernel : kitB "bool" "tuple" = some false), ⟨(fun z => by cases z), (fun z => by obtain ⟨_, z⟩ := z; cases z)⟩⟩
  | int i => exact ⟨false, (by decide +kernel : kitB "int" "tuple" = some false), ⟨(fun z => by cases z), (fun z => by obtain ⟨_, z⟩ := z; cases z)⟩⟩
  | str z => exact ⟨false, (by decide +kernel : kitB "str" "tuple" = some false), ⟨(fun z => by cases z), (fun z => by obtain ⟨_, z⟩ := z; cases z)⟩⟩
  | list ds => exact ⟨false, (by decide +kernel : kitB "list" "tuple" = some false), ⟨(fun z => by cases z), (fun z => by obtain ⟨_, z⟩ := z; cases z)⟩⟩
  | tuple ds => exact ⟨true, (by decide +kernel : kitB "tuple" "tuple" = some true), ⟨fun _ => ⟨ds, rfl⟩, fun _ => rfl⟩⟩
  | dict kv => exact ⟨false, (by decide +kernel : kitB "object" "tuple" = some false), ⟨(fun z => by cases z), (fun z => by obtain ⟨_, z⟩ := z; cases z)⟩⟩
theorem kit_dict {n : Nat} {d : PyData} (h : Deep n d) : kitB (kindOf d) "dict" = some false := by
  cases h with
  | non => exact (by decide +kernel : kitB "NoneType" "dict" = some false)
  | bl b => exact (by decide +kernel : kitB "bool" "dict" = some false)
  | int i => exact (by decide +kernel : kitB "int" "dict" = some false)
  | str z => exact (by decide +kernel : kitB "str" "dict" = some false)
  | lst h z => exact (by decide +kernel : kitB "list" "dict" = some false)
  | tup h z => exact (by decide +kernel : kitB "tuple" "dict" = some false)
end Pk
set_option Elab.async false
set_option linter.all false
set_option maxRecDepth 100000
set_option maxHeartbeats 1000000
namespace Pk
open PySem L2 PySem.Spec PyProof.Rows
/-- the __init__ at fI keeps sp, its first argument an error that is being made -/
structure ErrOk (P : Program) (w : World) (K : PySem.W.Frag) (mg : Str → Option Value) (base : Heap) (k : Nat) (C fI : Addr) (sp : Sp) : Prop where
  run : ∀ (A : Around) (outer : List Env) (s : Shared) (H : Hp) (us : List Value) (vs : List V) (x : Addr) (Q : VK), Room k A → Env0 P w K mg base A outer s H → Vals (.ref x :: vs) us → H x = some (exo x C none) → sp (.ref x :: vs) H Q (fun _ _ _ => False) →
    codeAny (model P w) A (.call (.ref fI) ⟨us, []⟩) (CR CX0 outer P w H s Q (fun _ _ _ => False)) s
/-- C(e, ..) -/
def tMkErr (C : Addr) (sp : Sp) (ta : TA) : L2.St → Hp → XK → Prop := fun σ H Q => ta σ H fun vs H1 => vs.length ≤ 1000 ∧ ∀ x, H1 x = none →
  sp (.ref x :: vs) (upd H1 x (exo x C none)) (fun v H2 => v = .non ∧ ∃ (d : Addr) (fs : List (Str × V)), H2 x = some (exo x C (some d)) ∧ H2 d = some (exd d fs) ∧ H1 d = none ∧ Q (.ref C) (some d) (upd (del H2 x) d (.xd fs))) (fun _ _ _ => False)
theorem pmk_err {X : Cx} {x : Str} {C fI : Addr} {k : Nat} {sp : Sp} {p pos : Pos} {e : Expr} {es : List Expr} {ta : TA} (T : ErrC X.K C) (iC : PySem.W.findIn X.K (.ref C) "__init__" = some (some (.ref fI))) (tI : PySem.W.typeIn X.K (.ref fI) = some (.type "function"))
    (G : ErrOk X.prog X.w X.K X.mg X.base k C fI sp) (hr : Room (k + 1) X.A) (hg : Gl X x) (hm : X.mg x = some (.ref C)) (ha : PA X (e :: es) ta)
    (hdb : (x == ("__debug__" : Str)) = false := by decide) (he : starEach (e :: es) X.env = (false, eval e X.env) :: starEach es X.env := by rfl) (hpl : (backTo pos (starEach es X.env)).any (·.1) = false := by rfl) : PMk X (.Call (.Name x p) (e :: es) [] pos) (tMkErr C sp ta) := by
  intro pins s σ H Q I h
  obtain ⟨pe, nm, q, N, bs, sn, sub, ab, col, dd, k0, k1, k2, k3, k5, hC⟩ := T.cls
  refine wpAny_Call_Name_kw (ld_glob I hg hm (PySem.W.callWith_K (h₀ := X.base) I.ok.mod.kin T.kp (thn (ha.run pos pins s σ H _ I h) fun us s1 ⟨vs, H1, I1, r1, hz, q1⟩ => ⟨I1.kIn, ?_⟩) he hpl) hdb)
  show wpAny _ _ (call (.ref C) us) _ _ _
  obtain ⟨hp, g, dr, tk, os⟩ := s1
  have up := Nat.le_succ hp.objs.size
  have hq := q1 (hp.objs.size + 1) (I1.hok.fresh up)
  have kk : ∀ b o, hp.get? b = some o → ((hp.push (PySem.W.kdv_tup us)).push (PySem.HandSPX.excO C hp.objs.size)).get? b = some o := fun b o z => Heap.get?_push_of_some _ (Heap.get?_push_of_some _ z)
  have made : ((hp.push (PySem.W.kdv_tup us)).push (PySem.HandSPX.excO C hp.objs.size)).get? (hp.objs.size + 1) = some (PySem.HandSPX.excO C hp.objs.size) := by heap_get
  have I2 := I1.laid (t' := tk) (a := hp.objs.size + 1) (o := exo (hp.objs.size + 1) C none) kk up (exo_ok made)
  have short : us.length ≤ sizeLine := by
    rw [← Paired.length r1, sizeLine_eq]; omega
  refine wpAny_call (PySem.HandSPX.call_own PySem.F.excBase_ArithmeticError arT_same (I1.kIn _ _ hC) (PySem.W.looks_findIn I1.kIn iC) (fun z => PySem.W.bind_fn I1.kIn z tI) short
    (codeAny_mono (G.run _ X.stack _ _ (Value.ref (hp.objs.size + 1) :: us) vs (hp.objs.size + 1) _ (hr.make C us []) (I2.env0.make C us []) (.cons rfl r1) upd_same hq) fun r st z => ?_))
  cases r with
  | error er => exact (show False from z).elim
  | ok fl =>
    cases fl with
    | ret u =>
      obtain ⟨v, H2, os2, bare2, un2, hok2, rv, ev, d, fs, ea, ed, hd1, q2⟩ := z
      subst ev
      obtain ⟨h2, g2, d2, t2, os'⟩ := st
      exact ⟨rv, mk_end (raises_own T.exB T.ty) I1 up kk un2 hok2 os2 bare2 ea ed hd1 q2⟩
    | next => exact False.elim z
    | brk => exact False.elim z
    | cont => exact False.elim z

theorem r_errSet {K : PySem.W.Frag} {f : Str} {to te : TE} {D : Ends} {σ : L2.St} {H : Hp} (h : te σ H fun y H1 => to σ H1 fun x H2 => ∃ a C : Addr, x = .ref a ∧ ErrC K C ∧ PySem.W.findIn K (.ref C) f = some none ∧
  ((H2 a = some (exo a C none) ∧ ∀ dx, H2 dx = none → dx ≠ a → D.nx σ (upd (upd H2 dx (exd dx [(f, y)])) a (exo a C (some dx)))) ∨
   (∃ (dx : Addr) (fs : List (Str × V)), H2 a = some (exo a C (some dx)) ∧ H2 dx = some (exd dx fs) ∧ fs.length ≤ 900 ∧ D.nx σ (upd H2 dx (exd dx ((f, y) :: fs)))))) : tErrSet K f to te D σ H := h
/-- an __init__ of one field, a copy of what it is passed -/
def spErr1 (K : PySem.W.Frag) (n : Nat) (C : Addr) (f : Str) : Sp := fun vs H Q _ => ∃ (x : Addr) (v : V) (d : PyData), vs = [.ref x, v] ∧ H x = some (exo x C none) ∧ Dp K H v d ∧ Deep n d ∧
  ∀ (dx : Addr) (v' : V) (H' : Hp), H' x = some (exo x C (some dx)) → H' dx = some (exd dx [(f, v')]) → H dx = none → dx ≠ x → Keep x H H' → Own H H' v' d → Q .non H'
/-- .. of two fields, in this sequence -/
def spErr2 (K : PySem.W.Frag) (n : Nat) (C : Addr) (f g : Str) : Sp := fun vs H Q _ => ∃ (x : Addr) (v u : V) (d e : PyData), vs = [.ref x, v, u] ∧ H x = some (exo x C none) ∧ Dp K H v d ∧ Deep n d ∧ Dp K H u e ∧ Deep n e ∧
  ∀ (dx : Addr) (v' u' : V) (H' : Hp), H' x = some (exo x C (some dx)) → H' dx = some (exd dx [(g, u'), (f, v')]) → H dx = none → dx ≠ x → Keep x H H' → Own H H' v' d → Own H H' u' e → Q .non H'
theorem exd_lt {dx : Addr} {fs : List (Str × V)} {u : HO} (h : ∃ xs, u = .lst xs ∨ u = .tup xs) : exd dx fs ≠ u := fun z => by
  obtain ⟨xs, e | e⟩ := h
  · rw [e] at z; cases (show HO.ext _ = HO.lst xs from z)
  · rw [e] at z; cases (show HO.ext _ = HO.tup xs from z)
/-- what is new stays so when the error, which is known, and its new dict are written -/
theorem Own.stored {H H1 : Hp} {v : V} {d : PyData} {x dx : Addr} {o u : HO} (w : Own H H1 v d) (hx : H x ≠ none) (hd : H1 dx = none) : Own H (upd (upd H1 dx o) x u) v d :=
  w.mono (fun _ n _ => n) fun a z n q _ => by
    have na : a ≠ x := fun e => hx (e ▸ n)
    rw [upd_ne na, upd_ne (ne_of_none q hd)]
    exact q
section
variable {P : Program} {w : World} {K : PySem.W.Frag} {mg : Str → Option Value} {base : Heap} {C fI cc fc : Addr} {fdc : FuncData} {F : NdefX.NF} {n : Nat} {f g : Str}
theorem err_one {msg : Str} {kd : Nat} {p0 p1 p2 p3 p4 p5 q0 q1 q2 q3 q4 q5 : Pos} (T : ErrC K C) (J : InitFn P K C fI cc F) (ms : mg "super" = none) (G : FnOk P w K mg base CX0 (n + 1) fc fdc ["value"] (spCopy K n)) (mc : mg "own_copy" = some (.ref fc)) (kc : PySem.W.keepIn K (.ref fc) = true)
    (bc : Binds K fdc ["value"] []) (S : NdefX.NScope ["self", f, "__class__"] ["self", f] ["__class__"] F.scope)
    (hB : F.body = .Expr (.Call (.Attribute (.Call (.Name "super" p0) [] [] p1) "__init__" p2) [.Constant (.str msg) kd p3] [] p4) p5 :: [.Assign [.Attribute (.Name "self" q0) f q1] (.Call (.Name "own_copy" q2) [.Name f q3] [] q4) q5])
    (hsg : F.scope.names.lookup ("super" : Str) = some .globalImplicit) (hog : F.scope.names.lookup ("own_copy" : Str) = some .globalImplicit) (free : PySem.W.findIn K (.ref C) f = some none)
    (hb : ∀ (kV doc pm ct : Value) (an : Option Addr) (us : List Value), us.length = 2 → bindArgs (PySem.W.fnX F.name F.qual F.params F.body F.scope F.cl .none kV doc pm an (.ref F.c) ct) ⟨us, []⟩ = pure ((["self", f] : List Str).zip us))
    {pl : Sem Bool} (he : ∀ env : Env, eval (.Call (.Attribute (.Call (.Name "super" p0) [] [] p1) "__init__" p2) [.Constant (.str msg) kd p3] [] p4) env = (do
      let ov ← attributeBase (.Call (.Name "super" p0) [] [] p1) "__init__" env (eval (.Call (.Name "super" p0) [] [] p1) env)
      standAt p2.atName
      let (f, first) ← holding [ov] (getMethod ov "__init__" pl)
      callWith p4 f first (backTo p4 (starEach [.Constant (.str msg) kd p3] env)) []))
    (fd : (f == ("__debug__" : Str)) = false) (fcd : (f == ("__classdict__" : Str)) = false) : ErrOk P w K mg base (n + 2) C fI (spErr1 K n C f) := by
  refine ⟨fun A outer s H us vs x Q hr e0 r ex hsp => ?_⟩
  obtain ⟨x', v, d, evs, _, hv, hd, k⟩ := hsp
  obtain ⟨rfl, rfl⟩ : x = x' ∧ vs = [v] := by
    have z := List.cons.inj evs
    exact ⟨V.ref.inj z.1, z.2⟩
  have lu : us.length = 2 := by rw [← r.length]; rfl
  refine init_run (k := n + 1) (rest := [.Assign [.Attribute (.Name "self" q0) f q1] (.Call (.Name "own_copy" q2) [.Name f q3] [] q4) q5]) (x := x) T J ms S hB hsg (S.par _ (by simp)) hr e0 (fun kV doc pm ct an => BindsTo.of_eq (hb kV doc pm ct an us lu)) r rfl rfl rfl ex he fun hr' => ?_
  refine ⟨_, pss_one (ps_errSet (pe_var (i := 0) rfl (.inl (S.par _ (by simp)))) (pe_call G hr' hog mc kc bc .nil pass0 (pa_cons (pe_var (i := 1) rfl (.inl (S.par _ (by simp))) fd fcd) pa_nil)) ?sw), ?_⟩
  case sw => rfl
  refine r_errSet ?_
  refine r_call ?_
  refine r_cons ?_
  refine r_var rfl ?_
  refine r_nil ?_
  refine ⟨v, d, rfl, hv, hd, fun v' H1 s1 o1 => ?_⟩
  refine r_var rfl ?_
  refine ⟨x, C, rfl, T, free, .inl ⟨s1 _ _ ex, fun dx hdx ne => ?_⟩⟩
  refine k dx v' _ upd_same (by rw [upd_ne ne, upd_same]) (s1.free hdx) ne (Keep.own (Keep.new (Keep.same s1) hdx)) (o1.stored (by rw [ex]; exact Option.some_ne_none _) hdx)

theorem exo_lt {x : Addr} {C : Addr} {d : Option Addr} {u : HO} (h : IsLT u) : exo x C d ≠ u := fun z => by
  rcases h with ⟨_, e⟩ | ⟨_, e⟩ | ⟨_, _, e⟩
  · rw [e] at z; exact exo_lt' z
  · exact exo_tup (z.trans e)
  · exact exo_frz (z.trans e)
where exo_lt' {x C : Addr} {d : Option Addr} {xs : List V} (z : exo x C d = .lst xs) : False := by cases (show HO.ext _ = HO.lst xs from z)
/-- behind the stores into the error at x lists and tuples are as they were -/
theorem sameD_err {H : Hp} {x C dx : Addr} {d : Option Addr} {o u : HO} (hx : H x = some (exo x C d)) (hd : H dx = none) : SameD H (upd (upd H dx o) x u) := fun a z l h => by
  rw [upd_ne (at_ne hx h (exo_lt l)), upd_ne (ne_of_none h hd)]
  exact h
theorem err_two {msg : Str} {kd : Nat} {p0 p1 p2 p3 p4 p5 q0 q1 q2 q3 q4 q5 z0 z1 z2 z3 z4 z5 : Pos} (T : ErrC K C) (J : InitFn P K C fI cc F) (ms : mg "super" = none) (G : FnOk P w K mg base CX0 (n + 1) fc fdc ["value"] (spCopy K n)) (mc : mg "own_copy" = some (.ref fc)) (kc : PySem.W.keepIn K (.ref fc) = true)
    (bc : Binds K fdc ["value"] []) (S : NdefX.NScope ["self", f, g, "__class__"] ["self", f, g] ["__class__"] F.scope)
    (hB : F.body = .Expr (.Call (.Attribute (.Call (.Name "super" p0) [] [] p1) "__init__" p2) [.Constant (.str msg) kd p3] [] p4) p5 ::
      [.Assign [.Attribute (.Name "self" q0) f q1] (.Call (.Name "own_copy" q2) [.Name f q3] [] q4) q5, .Assign [.Attribute (.Name "self" z0) g z1] (.Call (.Name "own_copy" z2) [.Name g z3] [] z4) z5])
    (hsg : F.scope.names.lookup ("super" : Str) = some .globalImplicit) (hog : F.scope.names.lookup ("own_copy" : Str) = some .globalImplicit) (free : PySem.W.findIn K (.ref C) f = some none) (freeg : PySem.W.findIn K (.ref C) g = some none)
    (hb : ∀ (kV doc pm ct : Value) (an : Option Addr) (us : List Value), us.length = 3 → bindArgs (PySem.W.fnX F.name F.qual F.params F.body F.scope F.cl .none kV doc pm an (.ref F.c) ct) ⟨us, []⟩ = pure ((["self", f, g] : List Str).zip us))
    {pl : Sem Bool} (he : ∀ env : Env, eval (.Call (.Attribute (.Call (.Name "super" p0) [] [] p1) "__init__" p2) [.Constant (.str msg) kd p3] [] p4) env = (do
      let ov ← attributeBase (.Call (.Name "super" p0) [] [] p1) "__init__" env (eval (.Call (.Name "super" p0) [] [] p1) env)
      standAt p2.atName
      let (f, first) ← holding [ov] (getMethod ov "__init__" pl)
      callWith p4 f first (backTo p4 (starEach [.Constant (.str msg) kd p3] env)) []))
    (fd : (f == ("__debug__" : Str)) = false) (fcd : (f == ("__classdict__" : Str)) = false) (gd : (g == ("__debug__" : Str)) = false) (gcd : (g == ("__classdict__" : Str)) = false) : ErrOk P w K mg base (n + 2) C fI (spErr2 K n C f g) := by
  refine ⟨fun A outer s H us vs x Q hr e0 r ex hsp => ?_⟩
  obtain ⟨x', v, u, d, e, evs, _, hv, hd, hu, hde, k⟩ := hsp
  obtain ⟨rfl, rfl⟩ : x = x' ∧ vs = [v, u] := by
    have z := List.cons.inj evs
    exact ⟨V.ref.inj z.1, z.2⟩
  have lu : us.length = 3 := by rw [← r.length]; rfl
  refine init_run (k := n + 1) (rest := [.Assign [.Attribute (.Name "self" q0) f q1] (.Call (.Name "own_copy" q2) [.Name f q3] [] q4) q5, .Assign [.Attribute (.Name "self" z0) g z1] (.Call (.Name "own_copy" z2) [.Name g z3] [] z4) z5]) (x := x) T J ms S hB hsg (S.par _ (by simp)) hr e0
    (fun kV doc pm ct an => BindsTo.of_eq (hb kV doc pm ct an us lu)) r rfl rfl rfl ex he fun hr' => ?_
  refine ⟨_, pss_cons (ps_errSet (pe_var (i := 0) rfl (.inl (S.par _ (by simp)))) (pe_call G hr' hog mc kc bc .nil pass0 (pa_cons (pe_var (i := 1) rfl (.inl (S.par _ (by simp))) fd fcd) pa_nil)) ?sw)
    (pss_one (ps_errSet (pe_var (i := 0) rfl (.inl (S.par _ (by simp)))) (pe_call G hr' hog mc kc bc .nil pass0 (pa_cons (pe_var (i := 2) rfl (.inl (S.par _ (by simp))) gd gcd) pa_nil)) ?sv)), ?_⟩
  case sw => rfl
  case sv => rfl
  refine r_seq ?_
  refine r_errSet ?_
  refine r_call ?_
  refine r_cons ?_
  refine r_var rfl ?_
  refine r_nil ?_
  refine ⟨v, d, rfl, hv, hd, fun v' H1 s1 o1 => ?_⟩
  refine r_var rfl ?_
  refine ⟨x, C, rfl, T, free, .inl ⟨s1 _ _ ex, fun dx hdx ne => ?_⟩⟩
  have o2 := o1.stored (o := exd dx [(f, v')]) (u := exo x C (some dx)) (by rw [ex]; exact Option.some_ne_none _) hdx
  have sd : SameD H (upd (upd H1 dx (exd dx [(f, v')])) x (exo x C (some dx))) := (SameD.of s1).trans (sameD_err (s1 _ _ ex) hdx)
  show tErrSet K g (tVar 0) (tCall (spCopy K n) [] E0 (tCons (tVar 2) tNil)) { nx := fun _ H2 => Q .non H2, rt := Q } _ _
  refine r_errSet ?_
  refine r_call ?_
  refine r_cons ?_
  refine r_var rfl ?_
  refine r_nil ?_
  refine ⟨u, e, rfl, Dp.laterD sd hu, hde, fun u' H2 s2 o3 => ?_⟩
  refine r_var rfl ?_
  have ed2 : H2 dx = some (exd dx [(f, v')]) := s2 _ _ (by rw [upd_ne ne, upd_same])
  refine ⟨x, C, rfl, T, freeg, .inr ⟨dx, [(f, v')], s2 _ _ upd_same, ed2, by show 1 ≤ 900; decide, ?_⟩⟩
  have hdx0 : H dx = none := s1.free hdx
  have kp : Keep x H H2 := (Keep.own (Keep.new (Keep.same s1) hdx)).trans (Keep.same s2)
  have ndx : ∀ {a : Addr} {z : HO}, (∃ xs, z = .lst xs ∨ z = .tup xs) → H2 a = some z → a ≠ dx := fun {a z} l h => at_ne ed2 h (exd_lt l)
  refine k dx v' u' _ (by rw [upd_ne (Ne.symm ne)]; exact s2 _ _ upd_same) upd_same hdx0 ne (fun b o nb hbo => ?_) ((o2.later s2).mono (fun _ n _ => n) fun a z n q l => by rw [upd_ne (ndx l q)]; exact q) ?_
  · rw [upd_ne (ne_of_none hbo hdx0)]
    exact kp b o nb hbo
  · refine o3.mono (fun a n _ => ?_) fun a z n q l => by rw [upd_ne (ndx l q)]; exact q
    have na : a ≠ x := fun z => by rw [z, upd_same] at n; cases n
    have nd : a ≠ dx := fun z => by rw [z, upd_ne ne, upd_same] at n; cases n
    rw [upd_ne na, upd_ne nd] at n
    exact s1.free n
/-- C(e) in the raiser's heap: a new dict with a copy -/
theorem r_err1 {σ : L2.St} {H : Hp} {Q : XK} {v : V} {d : PyData} (hv : Dp K H v d) (hd : Deep n d) (q : ∀ (dd : Addr) (v' : V) (H' : Hp), Same H H' → H dd = none → H' dd = some (.xd [(f, v')]) → Own H H' v' d → Q (.ref C) (some dd) H') :
    [v].length ≤ 1000 ∧ ∀ x, H x = none → spErr1 K n C f (.ref x :: [v]) (upd H x (exo x C none)) (fun v H2 => v = .non ∧ ∃ (d : Addr) (fs : List (Str × V)), H2 x = some (exo x C (some d)) ∧ H2 d = some (exd d fs) ∧ H d = none ∧ Q (.ref C) (some d) (upd (del H2 x) d (.xd fs))) (fun _ _ _ => False) := by
  refine ⟨by show 1 ≤ 1000; decide, fun x hx => ?_⟩
  have s0 : Same H (upd H x (exo x C none)) := Same.up (Same.refl H) hx
  refine ⟨x, v, d, rfl, upd_same, Dp.later s0 hv, hd, fun dx v' H' h1 h2 h3 ne h4 h5 => ⟨rfl, dx, _, h1, h2, ?_, ?_⟩⟩
  · rw [upd_ne ne] at h3; exact h3
  · rw [upd_ne ne] at h3
    refine q dx v' _ (fun b o e => ?_) h3 upd_same (h5.mono (fun a n _ => s0.free n) fun a z n e l => ?_)
    · have nb : b ≠ x := ne_of_none e hx
      rw [upd_ne (ne_of_none e h3), del_ne nb]
      exact h4 b o nb (s0 b o e)
    · have na : a ≠ x := fun z => by rw [z, upd_same] at n; cases n
      rw [upd_ne (at_ne h2 e (exd_lt l)), del_ne na]
      exact e
theorem r_err2 {σ : L2.St} {H : Hp} {Q : XK} {v u : V} {d e : PyData} (hv : Dp K H v d) (hd : Deep n d) (hu : Dp K H u e) (he : Deep n e)
    (q : ∀ (dd : Addr) (v' u' : V) (H' : Hp), Same H H' → H dd = none → H' dd = some (.xd [(g, u'), (f, v')]) → Own H H' v' d → Own H H' u' e → Q (.ref C) (some dd) H') :
    [v, u].length ≤ 1000 ∧ ∀ x, H x = none → spErr2 K n C f g (.ref x :: [v, u]) (upd H x (exo x C none)) (fun v H2 => v = .non ∧ ∃ (d : Addr) (fs : List (Str × V)), H2 x = some (exo x C (some d)) ∧ H2 d = some (exd d fs) ∧ H d = none ∧ Q (.ref C) (some d) (upd (del H2 x) d (.xd fs))) (fun _ _ _ => False) := by
  refine ⟨by show 2 ≤ 1000; decide, fun x hx => ?_⟩
  have s0 : Same H (upd H x (exo x C none)) := Same.up (Same.refl H) hx
  refine ⟨x, v, u, d, e, rfl, upd_same, Dp.later s0 hv, hd, Dp.later s0 hu, he, fun dx v' u' H' h1 h2 h3 ne h4 h5 h6 => ⟨rfl, dx, _, h1, h2, ?_, ?_⟩⟩
  · rw [upd_ne ne] at h3; exact h3
  · rw [upd_ne ne] at h3
    have keep : ∀ a z, upd H x (exo x C none) a = none → H' a = some z → (∃ xs, z = .lst xs ∨ z = .tup xs) → upd (del H' x) dx (.xd [(g, u'), (f, v')]) a = some z := fun a z n e l => by
      have na : a ≠ x := fun z => by rw [z, upd_same] at n; cases n
      rw [upd_ne (at_ne h2 e (exd_lt l)), del_ne na]
      exact e
    refine q dx v' u' _ (fun b o e => ?_) h3 upd_same (h5.mono (fun a n _ => s0.free n) keep) (h6.mono (fun a n _ => s0.free n) keep)
    have nb : b ≠ x := ne_of_none e hx
    rw [upd_ne (ne_of_none e h3), del_ne nb]
    exact h4 b o nb (s0 b o e)
end
end Pk
set_option Elab.async false
set_option linter.all false
set_option maxRecDepth 100000
set_option maxHeartbeats 1000000
namespace Pk
open PySem L2 PySem.Spec PyProof.Rows
/-- a def x of the text, at f, with its promise -/
structure Df1 (P : Program) (w : World) (K : PySem.W.Frag) (mg : Str → Option Value) (base : Heap) (CX : CXT) (x : Str) (k : Nat) (ps : List Str) (sp : Sp) (f : Addr) (fd : FuncData) : Prop where
  at_ : mg x = some (.ref f)
  kp : PySem.W.keepIn K (.ref f) = true
  bd : Binds K fd ps []
  ok : FnOk P w K mg base CX k f fd ps sp
/-- an error class x of the text, at C, with the promise of its __init__ -/
structure De1 (P : Program) (w : World) (K : PySem.W.Frag) (mg : Str → Option Value) (base : Heap) (x : Str) (k : Nat) (sp : Sp) (C fI : Addr) : Prop where
  at_ : mg x = some (.ref C)
  cls : ErrC K C
  ini : PySem.W.findIn K (.ref C) "__init__" = some (some (.ref fI))
  fn : PySem.W.typeIn K (.ref fI) = some (.type "function")
  ok : ErrOk P w K mg base k C fI sp
  xf : XfC K C
  xm : PySem.W.exmOne K (.ref C) (.ref C) = some true
abbrev Df (P : Program) (w : World) (K : PySem.W.Frag) (mg : Str → Option Value) (base : Heap) (CX : CXT) (x : Str) (k : Nat) (ps : List Str) (sp : Sp) : Prop := ∃ f fd, Df1 P w K mg base CX x k ps sp f fd
abbrev De (P : Program) (w : World) (K : PySem.W.Frag) (mg : Str → Option Value) (base : Heap) (x : Str) (k : Nat) (sp : Sp) (C : Addr) : Prop := ∃ fI, De1 P w K mg base x k sp C fI
section
variable {X : Cx} {CX : CXT} {x : Str} {k j : Nat} {ps : List Str} {sp : Sp} {e : Expr} {es : List Expr} {t : TA} {p pos : Pos} {W : WX} {C : Addr}
/-- a call of what raises nothing -/
theorem pe_df (D : Df X.prog X.w X.K X.mg X.base CX0 x k ps sp) (hr : Room j X.A) (l : k ≤ j) (ha : PA X (e :: es) t) (hg : Gl X x := by rfl) (hdb : (x == ("__debug__" : Str)) = false := by decide)
    (he : starEach (e :: es) X.env = (false, eval e X.env) :: starEach es X.env := by rfl) (hpl : (backTo pos (starEach es X.env)).any (·.1) = false := by rfl) : PE X (.Call (.Name x p) (e :: es) [] pos) (tCall sp [] E0 t) :=
  let ⟨_, _, D⟩ := D; pe_call D.ok (hr.mono l) hg D.at_ D.kp D.bd .nil pass0 ha hdb he hpl
/-- .. of what may raise, and does not here -/
theorem pe_dfL (D : Df X.prog X.w X.K X.mg X.base (L2.CX X.prog X.w) x k ps sp) (hr : Room j X.A) (l : k ≤ j) (ha : PA X (e :: es) t) (hg : Gl X x := by rfl) (hdb : (x == ("__debug__" : Str)) = false := by decide)
    (he : starEach (e :: es) X.env = (false, eval e X.env) :: starEach es X.env := by rfl) (hpl : (backTo pos (starEach es X.env)).any (·.1) = false := by rfl) : PE X (.Call (.Name x p) (e :: es) [] pos) (tCall sp [] E0 t) :=
  let ⟨_, _, D⟩ := D; pe_call D.ok (hr.mono l) hg D.at_ D.kp D.bd .nil passL ha hdb he hpl
/-- .. where what is raised is taken: within a try, or by a def that lets it out -/
theorem pe_dfS (tk : Takes X W) (D : Df X.prog X.w X.K X.mg X.base (L2.CX X.prog X.w) x k ps sp) (hr : Room j X.A) (l : k ≤ j) (ha : PA X (e :: es) t) (hg : Gl X x := by rfl) (hdb : (x == ("__debug__" : Str)) = false := by decide)
    (he : starEach (e :: es) X.env = (false, eval e X.env) :: starEach es X.env := by rfl) (hpl : (backTo pos (starEach es X.env)).any (·.1) = false := by rfl) : PE X (.Call (.Name x p) (e :: es) [] pos) (tCallS sp (WE W) t) :=
  let ⟨_, _, D⟩ := D; pe_callS D.ok (hr.mono l) hg D.at_ D.kp D.bd (fun σ => passAt tk σ) ha hdb he hpl
/-- raise x(e, ..) -/
theorem ps_rse {spos : Pos} (hc : X.calm = true) (tk : Takes X W) (D : De X.prog X.w X.K X.mg X.base x k sp C) (hr : Room j X.A) (l : k + 1 ≤ j) (ha : PA X (e :: es) t) (hg : Gl X x := by rfl) (hdb : (x == ("__debug__" : Str)) = false := by decide)
    (he : starEach (e :: es) X.env = (false, eval e X.env) :: starEach es X.env := by rfl) (hpl : (backTo pos (starEach es X.env)).any (·.1) = false := by rfl) :
    PS X (.Raise (some (.Call (.Name x p) (e :: es) [] pos)) none spos) (fun _ σ H => tMkErr C sp t σ H fun cls d H' => W cls d σ H') := let ⟨_, D⟩ := D; ps_raise hc tk (pmk_err D.cls D.ini D.fn D.ok (hr.mono l) hg D.at_ ha hdb he hpl)
end
section
variable {σ : L2.St} {H : Hp} {Q : VK} {ta tk : TA} {sp : Sp} {E : L2.St → XK} {D : Ends}
theorem r_callS (h : ta σ H fun vs H1 => sp vs H1 Q (E σ)) : tCallS sp E ta σ H Q := h
theorem r_callN {n m : Nat} {gV : List V → List V → List V} {E : XK} (h : ta σ H fun vs H1 => tk σ H1 fun zs H2 => vs.length = n ∧ zs.length = m ∧ sp (gV vs zs) H2 Q E) : tCallN n m sp gV E ta tk σ H Q := h
theorem r_mkErr {C : Addr} {R : XK} (h : ta σ H fun vs H1 => vs.length ≤ 1000 ∧ ∀ x, H1 x = none →
  sp (.ref x :: vs) (upd H1 x (exo x C none)) (fun v H2 => v = .non ∧ ∃ (d : Addr) (fs : List (Str × V)), H2 x = some (exo x C (some d)) ∧ H2 d = some (exd d fs) ∧ H1 d = none ∧ R (.ref C) (some d) (upd (del H2 x) d (.xd fs))) (fun _ _ _ => False)) : tMkErr C sp ta σ H R := h
theorem r_xf {a : Addr} {C dd : Addr} {f : Str} {te : TE} {fs : List (Str × V)} {v : V} (h : te σ H fun x H1 => x = .ref a ∧ Value.ref C = .ref C ∧ ∃ (d2 : Addr) (fs : List (Str × V)) (v : V), some dd = some d2 ∧ H1 d2 = some (.xd fs) ∧ fs.lookup f = some v ∧ Q v H1) : tXf a (.ref C) (some dd) C f te σ H Q := h
end
/-- f(e, .., k = v, ..) where what is raised is wished for at the caller's slots -/
def tKwS (n m : Nat) (sp : Sp) (gV : List V → List V → List V) (E : L2.St → XK) (t tk : TA) : TE := fun σ H Q => t σ H fun vs H1 => tk σ H1 fun zs H2 => vs.length = n ∧ zs.length = m ∧ sp (gV vs zs) H2 Q (E σ)
theorem r_kwS {σ : L2.St} {H : Hp} {Q : VK} {ta tk : TA} {sp : Sp} {n m : Nat} {gV : List V → List V → List V} {E : L2.St → XK} (h : ta σ H fun vs H1 => tk σ H1 fun zs H2 => vs.length = n ∧ zs.length = m ∧ sp (gV vs zs) H2 Q (E σ)) : tKwS n m sp gV E ta tk σ H Q := h
theorem pe_kwS {X : Cx} {CX : CXT} {k n : Nat} {f : Addr} {fd : FuncData} {ps ks : List Str} {sp : Sp} {E : L2.St → XK} {x : Str} {p pos : Pos} {e : Expr} {es : List Expr} {kws : List Keyword} {t tk : TA} {g : List Value → List Value → List Value} {gV : List V → List V → List V}
    (F : FnOk X.prog X.w X.K X.mg X.base CX k f fd ps sp) (hr : Room k X.A) (hm : X.mg x = some (.ref f)) (hk : PySem.W.keepIn X.K (.ref f) = true) (hb : KBn X.K fd ps n ks g gV) (hx : ∀ σ, PassesAt CX X σ (E σ)) (ha : PA X (e :: es) t) (hkw : PK X kws tk) (hg : Gl X x := by rfl)
    (hall : (backToKw pos (keywordEach kws X.env)).all (·.1.isSome) = true := by rfl) (hks : (backToKw pos (keywordEach kws X.env)).filterMap (·.1) = ks := by rfl) (hdb : (x == ("__debug__" : Str)) = false := by decide)
    (he : starEach (e :: es) X.env = (false, eval e X.env) :: starEach es X.env := by rfl) (hpl : ((backTo pos (starEach (e :: es) X.env)).any (·.1) || (backToKw pos (keywordEach kws X.env)).any (·.1.isNone)) = false := by rfl) :
    PE X (.Call (.Name x p) (e :: es) kws pos) (tKwS n ks.length sp gV E t tk) := by
  refine ⟨fun pins s σ H Q I h => wpAny_Call_Name_kw (ld_glob I hg hm (PySem.W.callWith_KW (h₀ := X.base) I.ok.mod.kin hk hall (thn (ha.run pos pins s σ H _ I h) fun us s1 ⟨vs, H1, I1, r, q⟩ => thn (hkw.run pos pins s1 σ H1 _ I1 q) fun ws s2 ⟨zs, H2, I2, rz, l1, l2, q2⟩ => ⟨I2.kIn, ?_⟩) hpl he) hdb)⟩
  rw [hks]
  refine wpAny_call (codeAny_mono (F.run X.A X.stack s2 H2 ⟨us, ks.zip ws⟩ (g us ws) (gV vs zs) Q (E σ) hr I2.env0 (hb.to s2 us ws I2.kIn (r.length.symm.trans l1) (rz.length.symm.trans l2)) (hb.rel r rz) q2) fun r s' hq => ?_)
  cases r with
  | error er => exact hx σ pins H2 s2 er s' I2 hq
  | ok fl =>
    cases fl with
    | ret u => exact I2.after hq
    | next => exact False.elim hq
    | brk => exact False.elim hq
    | cont => exact False.elim hq
/-- an own class x of the text, made by its __init__ -/
structure Dk1 (P : Program) (w : World) (K : PySem.W.Frag) (mg : Str → Option Value) (base : Heap) (CX : CXT) (x : Str) (k : Nat) (ps : List Str) (sp : Sp) (C fI : Addr) (fd : FuncData) : Prop where
  at_ : mg x = some (.ref C)
  mkc : Mk K C fI
  bd : Binds K fd ps []
  ok : FnOk P w K mg base CX k fI fd ps sp
abbrev Dk (P : Program) (w : World) (K : PySem.W.Frag) (mg : Str → Option Value) (base : Heap) (CX : CXT) (x : Str) (k : Nat) (ps : List Str) (sp : Sp) (C : Addr) : Prop := ∃ fI fd, Dk1 P w K mg base CX x k ps sp C fI fd
theorem pe_dkL {X : Cx} {x : Str} {k j : Nat} {ps : List Str} {sp : Sp} {e : Expr} {es : List Expr} {t : TA} {p pos : Pos} {C : Addr} (D : Dk X.prog X.w X.K X.mg X.base (L2.CX X.prog X.w) x k ps sp C) (hr : Room j X.A) (l : k + 1 ≤ j) (ha : PA X (e :: es) t) (hg : Gl X x := by rfl)
    (hdb : (x == ("__debug__" : Str)) = false := by decide) (he : starEach (e :: es) X.env = (false, eval e X.env) :: starEach es X.env := by rfl) (hpl : (backTo pos (starEach es X.env)).any (·.1) = false := by rfl) : PE X (.Call (.Name x p) (e :: es) [] pos) (tMake C sp [] E0 t) :=
  let ⟨_, _, D⟩ := D; pe_make D.mkc D.ok (hr.mono l) hg D.at_ D.bd .nil passL ha hdb he hpl
theorem look1 (f : Str) (v : V) : List.lookup f [(f, v)] = some v := by simp [List.lookup]
theorem look2 (f g : Str) (v u : V) (h : (f == g) = false) : List.lookup f [(g, u), (f, v)] = some v := by simp [List.lookup, h]
theorem look2' (f g : Str) (v u : V) : List.lookup g [(g, u), (f, v)] = some u := by simp [List.lookup]
/-- built-ins that the text does not name anew -/
structure Bt (mg : Str → Option Value) : Prop where
  int : mg "int" = none
  str : mg "str" = none
  bool : mg "bool" = none
  list : mg "list" = none
  tuple : mg "tuple" = none
  dict : mg "dict" = none
  len : mg "len" = none
  range : mg "range" = none
  isinstance : mg "isinstance" = none
  sum : mg "sum" = none
  max : mg "max" = none
  min : mg "min" = none
  sorted : mg "sorted" = none
  set : mg "set" = none
  super : mg "super" = none
  enumerate : mg "enumerate" = none
  zip : mg "zip" = none
  abs : mg "abs" = none
end Pk
set_option Elab.async false
set_option linter.all false
set_option maxRecDepth 100000
set_option maxHeartbeats 1000000
namespace Pk
open PySem L2 PySem.Spec PyProof.Rows PySem.W
/-- what the top holds of a def x -/
def DefAt (K : PySem.W.Frag) (x : Str) (st : Stmt) : Prop := ∃ (f : Addr) (oc : Value) (od : Option Addr) (kV dc pm : Value) (an : Option Addr) (cd ct : Value) (sl : Array (Option Value)),
  PySem.W.nsIn K mainGlobals x = some (some (.ref f)) ∧ K.lookup f = some ⟨oc, od, .func (PySem.W.fnOf x x (defArgs st) (defBody st) (defScope st) .none kV dc pm an cd ct), sl⟩ ∧ PySem.W.codeIn K cd x = true ∧ PySem.W.keepIn K (.ref f) = true
theorem DefAt.fn {K : PySem.W.Frag} {h : Heap} {mg : Str → Option Value} {x : Str} {st : Stmt} (X : K.In h) (G : h.Ns mainGlobals mg) (d : DefAt K x st) : ∃ f fd, Fun K x x st f fd ∧ mg x = some (.ref f) := by
  obtain ⟨f, oc, od, kV, dc, pm, an, cd, ct, sl, a, l, c, k⟩ := d
  exact ⟨f, _, fun_mk (st := st) l c k, PySem.W.mg_of X G a⟩
/-- .. of a method x of the class at C -/
def MethAt (K : PySem.W.Frag) (C : Addr) (x q : Str) (st : Stmt) : Prop := ∃ (f : Addr) (oc : Value) (od : Option Addr) (kV dc pm : Value) (an : Option Addr) (cd ct : Value) (sl : Array (Option Value)),
  PySem.W.findIn K (.ref C) x = some (some (.ref f)) ∧ K.lookup f = some ⟨oc, od, .func (PySem.W.fnOf x q (defArgs st) (defBody st) (defScope st) .none kV dc pm an cd ct), sl⟩ ∧ PySem.W.codeIn K cd q = true ∧ PySem.W.keepIn K (.ref f) = true ∧ PySem.W.isFn K (.ref f) = true
theorem MethAt.fn {K : PySem.W.Frag} {C : Addr} {x q : Str} {st : Stmt} (d : MethAt K C x q st) : ∃ f fd, Fun K x q st f fd ∧ Meth K C x f := by
  obtain ⟨f, oc, od, kV, dc, pm, an, cd, ct, sl, a, l, c, k, i⟩ := d
  exact ⟨f, _, fun_mk (st := st) l c k, ⟨a, i, k⟩⟩
/-- .. of a def x with one keyword-only default, a text -/
def DefAtK (K : PySem.W.Frag) (x k : Str) (z : Str) (st : Stmt) : Prop := ∃ (f D : Addr) (oc : Value) (od : Option Addr) (dc pm : Value) (an : Option Addr) (cd ct : Value) (sl : Array (Option Value)) (t : Tok),
  PySem.W.nsIn K mainGlobals x = some (some (.ref f)) ∧ K.lookup f = some ⟨oc, od, .func (PySem.W.fnOf x x (defArgs st) (defBody st) (defScope st) .none (.ref D) dc pm an cd ct), sl⟩ ∧ PySem.W.codeIn K cd x = true ∧ PySem.W.keepIn K (.ref f) = true ∧ PySem.W.nsIn K D k = some (some (.str z t))
theorem DefAtK.fn {K : PySem.W.Frag} {h : Heap} {mg : Str → Option Value} {x k z : Str} {st : Stmt} (X : K.In h) (G : h.Ns mainGlobals mg) (d : DefAtK K x k z st) : ∃ f fd, FunD K x x (defArgs st) (defBody st) (defScope st) [] [(k, .str z)] f fd ∧ mg x = some (.ref f) := by
  obtain ⟨f, D, oc, od, dc, pm, an, cd, ct, sl, t, a, l, c, kp, n⟩ := d
  refine ⟨f, _, ⟨⟨oc, od, .none, .ref D, dc, pm, an, cd, ct, sl, rfl, l, c, .inl ⟨rfl, rfl⟩, .inr ⟨D, rfl, fun q hq => ?_⟩⟩, kp⟩, PySem.W.mg_of X G a⟩
  rw [List.mem_singleton.mp hq]
  exact ⟨_, n, t, rfl⟩
/-- what the top holds of an error class x with an __init__ of its own (st) -/
structure ErrAt1 (P : Program) (K : PySem.W.Frag) (x q : Str) (st : Stmt) (C fI cc c : Addr) : Prop where
  at_ : PySem.W.nsIn K mainGlobals x = some (some (.ref C))
  cls : ∃ pe nm qn N bs sn sub ab col dd k0 k1 k2 k3 k5, K.lookup C = some (excClassObj nm qn C N bs (.ref pe :: arT) true sn sub ab col dd k0 k1 k2 k3 k5 "ArithmeticError.__new__")
  sa : PySem.W.findIn K (.ref C) "__setattr__" = some (some (.builtin "object.__setattr__"))
  exB : PySem.W.subIn K (.ref C) (.type "BaseException") = some true
  exA : PySem.W.subIn K (.ref C) (.type "ArithmeticError") = some true
  ty : PySem.W.typeIn K (.ref C) = some (.type "type")
  kp : PySem.W.keepIn K (.ref C) = true
  ini : PySem.W.findIn K (.ref C) "__init__" = some (some (.ref fI))
  fnt : PySem.W.typeIn K (.ref fI) = some (.type "function")
  fn : ∃ (oc : Value) (od : Option Addr) (kV doc pm : Value) (an : Option Addr) (ct : Value) (osl : Array (Option Value)), K.lookup fI = some ⟨oc, od, .func (PySem.W.fnX "__init__" q (defArgs st) (defBody st) (defScope st) [(("__class__" : Str), cc)] .none kV doc pm an (.ref c) ct), osl⟩
  code : PySem.W.codeIn K (.ref c) q = true
  cell : ∃ (a : Value) (b : Option Addr) (d : Array (Option Value)), K.lookup cc = some ⟨a, b, .cell (some (.ref C)), d⟩
  file : ∃ (a : Value) (b : Option Addr) (vs : Array Value) (d : Array (Option Value)) (f : Str) (t : Tok), K.lookup c = some ⟨a, b, .fields vs, d⟩ ∧ vs[2]? = some (.str f t) ∧ ((P.main.file : Str) == f) = true
  opq : PySem.W.nsIn K cStatics "thirdparty.any" = some none
  sup : PySem.W.ks_superIn K C C "__init__" = some (some (.builtin "ArithmeticError.__init__"))
  below : PySem.W.mroIn K C (.ref C) = some true
  ga : PySem.W.findIn K (.ref C) "__getattribute__" = some (some (.builtin "BaseException.__getattribute__"))
  gg : PySem.W.findIn K (.ref C) "__getattr__" = some none
  hd : PySem.W.hasDictIn K C = true
  isC : PySem.W.isClsIn K C = true
  own : PySem.W.subIn K (.ref C) (.ref C) = some true
theorem err_self {K : PySem.W.Frag} {S : Addr} (h1 : PySem.W.subIn K (.ref S) (.type "BaseException") = some true) (h2 : PySem.W.isClsIn K S = true) (h3 : PySem.W.typeIn K (.ref S) = some (.type "type")) (h4 : PySem.W.subIn K (.ref S) (.ref S) = some true) : PySem.W.exmOne K (.ref S) (.ref S) = some true := by
  have h5 : (PySem.W.clsIn K S).isSome = true := h2
  unfold PySem.W.exmOne PySem.W.kitCls
  simp only [h1, h3, h4, h5]
  rfl
section
variable {P : Program} {w : World} {K : PySem.W.Frag} {h : Heap} {mg : Str → Option Value} {base : Heap} {x q : Str} {st : Stmt} {C fI cc c : Addr}
theorem ErrAt1.errC (e : ErrAt1 P K x q st C fI cc c) : ErrC K C := ⟨e.cls, e.sa, e.exB, e.exA, e.ty, e.kp⟩
theorem ErrAt1.init (e : ErrAt1 P K x q st C fI cc c) (top : (P.main.scope.names.lookup ("super" : Str)).isSome = false) (self : ∃ q, ((defArgs st).posonlyargs ++ (defArgs st).args).head? = some { arg := "self", annotation := none, pos := q }) :
    InitFn P K C fI cc { name := "__init__", qual := q, params := defArgs st, body := defBody st, scope := defScope st, cl := [(("__class__" : Str), cc)], c := c } :=
  ⟨e.fn, e.code, rfl, e.cell, e.file, top, e.opq, self, e.sup, e.below⟩
theorem ErrAt1.de {k : Nat} {sp : Sp} (e : ErrAt1 P K x q st C fI cc c) (X : K.In h) (G : h.Ns mainGlobals mg) (o : ErrOk P w K mg base k C fI sp) : De P w K mg base x k sp C :=
  ⟨fI, PySem.W.mg_of X G e.at_, e.errC, e.ini, e.fnt, o, ⟨e.ga, e.gg, e.exB, e.hd⟩, err_self e.exB e.isC e.ty e.own⟩
end
def BtIn (K : PySem.W.Frag) : Prop := ∀ x, x ∈ (["int", "str", "bool", "list", "tuple", "dict", "len", "range", "isinstance", "sum", "max", "min", "sorted", "set", "super", "enumerate", "zip", "abs"] : List Str) → PySem.W.nsIn K mainGlobals x = some none
theorem BtIn.bt {K : PySem.W.Frag} {h : Heap} {mg : Str → Option Value} (X : K.In h) (G : h.Ns mainGlobals mg) (b : BtIn K) : Bt mg := by
  have g : ∀ x, x ∈ (["int", "str", "bool", "list", "tuple", "dict", "len", "range", "isinstance", "sum", "max", "min", "sorted", "set", "super", "enumerate", "zip", "abs"] : List Str) → mg x = none := fun x hx => PySem.W.mg_none_of X G (b x hx)
  constructor <;> exact g _ (by decide)
theorem DefAt.of {K : PySem.W.Frag} {x : Str} {st : Stmt} {f : Addr} {oc : Value} {od : Option Addr} {kV dc pm : Value} {an : Option Addr} {cd ct : Value} {sl : Array (Option Value)} (a : PySem.W.nsIn K mainGlobals x = some (some (.ref f)))
    (l : K.lookup f = some ⟨oc, od, .func (PySem.W.fnOf x x (defArgs st) (defBody st) (defScope st) .none kV dc pm an cd ct), sl⟩) (c : PySem.W.codeIn K cd x = true) (k : PySem.W.keepIn K (.ref f) = true) : DefAt K x st := ⟨_, _, _, _, _, _, _, _, _, _, a, l, c, k⟩
theorem DefAtK.of {K : PySem.W.Frag} {x y z : Str} {st : Stmt} {f D : Addr} {oc : Value} {od : Option Addr} {dc pm : Value} {an : Option Addr} {cd ct : Value} {sl : Array (Option Value)} {t : Tok} (a : PySem.W.nsIn K mainGlobals x = some (some (.ref f)))
    (l : K.lookup f = some ⟨oc, od, .func (PySem.W.fnOf x x (defArgs st) (defBody st) (defScope st) .none (.ref D) dc pm an cd ct), sl⟩) (c : PySem.W.codeIn K cd x = true) (k : PySem.W.keepIn K (.ref f) = true) (n : PySem.W.nsIn K D y = some (some (.str z t))) : DefAtK K x y z st := ⟨_, _, _, _, _, _, _, _, _, _, _, a, l, c, k, n⟩
theorem MethAt.of {K : PySem.W.Frag} {C : Addr} {x q : Str} {st : Stmt} {f : Addr} {oc : Value} {od : Option Addr} {kV dc pm : Value} {an : Option Addr} {cd ct : Value} {sl : Array (Option Value)} (a : PySem.W.findIn K (.ref C) x = some (some (.ref f)))
    (l : K.lookup f = some ⟨oc, od, .func (PySem.W.fnOf x q (defArgs st) (defBody st) (defScope st) .none kV dc pm an cd ct), sl⟩) (c : PySem.W.codeIn K cd q = true) (k : PySem.W.keepIn K (.ref f) = true) (i : PySem.W.isFn K (.ref f) = true) : MethAt K C x q st := ⟨_, _, _, _, _, _, _, _, _, _, a, l, c, k, i⟩
theorem ErrAt1.of {P : Program} {K : PySem.W.Frag} {x q : Str} {st : Stmt} {C fI cc c pe : Addr} {nm qn : Str} {N : Addr} {bs sn sub ab col dd k0 k1 k2 k3 k5} {oc1 : Value} {od1 : Option Addr} {kV dc pm : Value} {an : Option Addr} {ct : Value} {sl1 sl2 sl3 : Array (Option Value)} {v2 v3 : Value} {o2 o3 : Option Addr} {vs : Array Value} {fl : Str} {t : Tok}
    (at_ : PySem.W.nsIn K mainGlobals x = some (some (.ref C))) (cls : K.lookup C = some (excClassObj nm qn C N bs (.ref pe :: arT) true sn sub ab col dd k0 k1 k2 k3 k5 "ArithmeticError.__new__"))
    (sa : PySem.W.findIn K (.ref C) "__setattr__" = some (some (.builtin "object.__setattr__"))) (exB : PySem.W.subIn K (.ref C) (.type "BaseException") = some true) (exA : PySem.W.subIn K (.ref C) (.type "ArithmeticError") = some true) (ty : PySem.W.typeIn K (.ref C) = some (.type "type")) (kp : PySem.W.keepIn K (.ref C) = true)
    (ini : PySem.W.findIn K (.ref C) "__init__" = some (some (.ref fI))) (fnt : PySem.W.typeIn K (.ref fI) = some (.type "function")) (fn : K.lookup fI = some ⟨oc1, od1, .func (PySem.W.fnX "__init__" q (defArgs st) (defBody st) (defScope st) [(("__class__" : Str), cc)] .none kV dc pm an (.ref c) ct), sl1⟩)
    (code : PySem.W.codeIn K (.ref c) q = true) (cell : K.lookup cc = some ⟨v2, o2, .cell (some (.ref C)), sl2⟩) (file : K.lookup c = some ⟨v3, o3, .fields vs, sl3⟩) (file2 : vs[2]? = some (.str fl t)) (file3 : ((P.main.file : Str) == fl) = true) (opq : PySem.W.nsIn K cStatics "thirdparty.any" = some none)
    (sup : PySem.W.ks_superIn K C C "__init__" = some (some (.builtin "ArithmeticError.__init__"))) (below : PySem.W.mroIn K C (.ref C) = some true) (ga : PySem.W.findIn K (.ref C) "__getattribute__" = some (some (.builtin "BaseException.__getattribute__"))) (gg : PySem.W.findIn K (.ref C) "__getattr__" = some none)
    (hd : PySem.W.hasDictIn K C = true) (isC : PySem.W.isClsIn K C = true) (own : PySem.W.subIn K (.ref C) (.ref C) = some true) : ErrAt1 P K x q st C fI cc c :=
  ⟨at_, ⟨_, _, _, _, _, _, _, _, _, _, _, _, _, _, _, cls⟩, sa, exB, exA, ty, kp, ini, fnt, ⟨_, _, _, _, _, _, _, _, fn⟩, code, ⟨_, _, _, cell⟩, ⟨_, _, _, _, _, _, file, file2, file3⟩, opq, sup, below, ga, gg, hd, isC, own⟩
end Pk
set_option Elab.async false
set_option linter.all false
set_option maxRecDepth 100000
set_option maxHeartbeats 1000000
namespace Pk
open PySem L2 PySem.Spec PyProof.Rows
/-! ### operators of an own class, by its own methods -/
section
variable {X : Cx} {CX : CXT} {pins : List (Addr × Obj)} {σ : L2.St} {H : Hp} {s : Shared} {k : Nat} {f C : Addr} {fd : FuncData} {ps : List Str} {sp : Sp} {E : L2.St → XK} {Q : VK} {us : List Value} {vs : List V} {A' : Around}
/-- the run of a method in a room around -/
theorem own_run (F : FnOk X.prog X.w X.K X.mg X.base CX k f fd ps sp) (hr : Room k A') (e0 : Env0 X.prog X.w X.K X.mg X.base A' X.stack s H) (hb : Binds X.K fd ps []) (hx : PassesAt CX X σ (E σ)) (I : Inv X pins σ H s) (r : Vals vs us) (h : sp vs H Q (E σ)) :
    wpAny (model X.prog X.w) A' (call (.ref f) us) (EP X pins σ Q) X.xe s := by
  have n : us.length = ps.length := r.length ▸ F.len _ _ _ _ h
  have b := hb s us I.kIn (by simpa using n)
  rw [List.append_nil] at b
  refine wpAny_call (codeAny_mono (F.run A' X.stack s H ⟨us, []⟩ us vs Q (E σ) hr e0 b r h) ?_)
  intro z s' hz
  rcases z with e | fl
  · exact hx pins H s e s' I hz
  · cases fl with
    | ret u => exact I.after hz
    | next => exact hz.elim
    | brk => exact hz.elim
    | cont => exact hz.elim
/-- the instance that stands at a -/
theorem own_at {a dx : Addr} {fs : List (Str × V)} (I : Inv X pins σ H s) (ha : H a = some (.ins C dx fs)) : ∃ ox od, PySem.W.InstAt s.heap a ox C (some od) := by
  obtain ⟨mA, J, _⟩ := ins_get I.hok ha
  obtain ⟨od, J, _⟩ := J.look
  exact ⟨_, od, J⟩
/-- e1 ⊕ e2, at the slots -/
def tOp2 (r : (L2.St → XK) → L2.St → V → V → Hp → VK → Prop) (E : L2.St → XK) (ta tb : TE) : TE := fun σ H Q => ta σ H fun x H1 => tb σ H1 fun y H2 => r E σ x y H2 Q
/-- the method's promise, of the instance x of C and y -/
def rOwn2 (C : Addr) (sp : Sp) : (L2.St → XK) → L2.St → V → V → Hp → VK → Prop := fun E σ x y H Q => ∃ a dx fs, x = .ref a ∧ H a = some (.ins C dx fs) ∧ sp [x, y] H Q (E σ)
/-- .. and the two are of the one class, or y is of a class that C is no base of -/
def OtherT (K : PySem.W.Frag) (C : Addr) (H : Hp) (y : V) : Prop := (∃ b dy gs, y = .ref b ∧ H b = some (.ins C dy gs)) ∨ (∃ T : String, TyX K H y (.type T) ∧ PySem.W.subIn K (.type T) (.ref C) = some false)
theorem ty_looks {y : V} {u t : Value} {M : Model} (I : Inv X pins σ H s) (ry : RelV y u) (ty : TyX X.K H y t) : PySem.W.Looks M s.heap (typeOf u) t := by
  obtain ⟨P, kx, hp, _⟩ := kit_of I ry ty
  exact kx.ty M s.heap I.kIn hp
theorem other_looks {y : V} {u : Value} {M : Model} (I : Inv X pins σ H s) (ry : RelV y u) (o : OtherT X.K C H y) (one : ∀ b dy gs, y = .ref b → H b = some (.ins C dy gs) → True) : ∃ tb, PySem.W.Looks M s.heap (typeOf u) tb ∧ PySem.W.notFirst X.K C tb = true := by
  rcases o with ⟨b, dy, gs, rfl, hb⟩ | ⟨T, ty, hs⟩
  · cases ry
    obtain ⟨ox, od, J⟩ := own_at I hb
    exact ⟨.ref C, J.type, by simp [PySem.W.notFirst]⟩
  · exact ⟨.type T, ty_looks I ry ty, by simp [PySem.W.notFirst, hs]⟩
/-- what an own method of two places must be -/
structure Two (X : Cx) (CX : CXT) (k : Nat) (C : Addr) (m : Str) (sp : Sp) : Prop where
  ex : ∃ (f : Addr) (fd : FuncData) (ps : List Str), Meth X.K C m f ∧ FnOk X.prog X.w X.K X.mg X.base CX k f fd ps sp ∧ Binds X.K fd ps []
/-- x == y, x < y, .. by the own method -/
def rOwnC (K : PySem.W.Frag) (C : Addr) (sp : Sp) : (L2.St → XK) → L2.St → V → V → Hp → VK → Prop := fun E σ x y H Q => ∃ a dx fs, x = .ref a ∧ H a = some (.ins C dx fs) ∧ OtherT K C H y ∧ sp [x, y] H Q (E σ)
theorem pe_cmpOwn {op : CmpOp} {a b : Expr} {ta tb : TE} {pos : Pos} (hop : ∀ a b, compareOp op a b = richCompare op a b) (F : Two X CX k C (cmpInfo op).2.1 sp) (hr : Room k X.A) (hx : ∀ σ, PassesAt CX X σ (E σ)) (ha : PE X a ta) (hb : PE X b tb) (hm : behindInMarks op b = false) :
    PE X (.Compare a [op] [b] pos) (tOp2 (rOwnC X.K C sp) E ta tb) := by
  obtain ⟨f, fd, ps, M, F, B⟩ := F.ex
  refine ⟨fun pins s σ H Q I h => ?_⟩
  refine wpAny_Compare1 (binT ha hb I h fun v u s2 x y H2 I2 rx ry q => ?_) hm
  obtain ⟨a, dx, fs, rfl, e, o, q⟩ := q
  cases rx
  obtain ⟨ox, od, J⟩ := own_at I2 e
  obtain ⟨tb, L, nf⟩ := other_looks (M := model X.prog X.w) I2 ry o fun _ _ _ _ _ => trivial
  obtain ⟨m, hF⟩ := I2.fr
  rw [hop]
  refine PySem.W.cmp_K (op := op) hr.units0 hF I2.ok.mod.kin J L nf M.at_ M.fn ?_
  refine wpAny_mono (own_run (us := [.ref a, u]) (vs := [.ref a, y]) F hr I2.env0 B (hx σ) I2 (.cons rfl (.cons ry .nil)) q) (fun w s' z => ?_) fun _ _ z => z
  obtain ⟨z, H3, I3, rz, qz⟩ := z
  exact SlX.cmpback rz ⟨z, H3, I3, rz, qz⟩
/-- y in x by the own __contains__ -/
def rOwnIn (C : Addr) (sp : Sp) (neg : Bool) : (L2.St → XK) → L2.St → V → V → Hp → VK → Prop := fun E σ y x H Q => ∃ a dx fs, x = .ref a ∧ H a = some (.ins C dx fs) ∧ sp [x, y] H (fun z H' => ∃ c, z = .bl c ∧ Q (.bl (if neg then !c else c)) H') (E σ)
theorem pe_inOwn {a b : Expr} {ta tb : TE} {pos : Pos} (F : Two X CX k C "__contains__" sp) (hr : Room k X.A) (hx : ∀ σ, PassesAt CX X σ (E σ)) (ha : PE X a ta) (hb : PE X b tb) (hm : behindInMarks .In b = false) :
    PE X (.Compare a [.In] [b] pos) (tOp2 (rOwnIn C sp false) E ta tb) := by
  obtain ⟨f, fd, ps, M, F, B⟩ := F.ex
  refine ⟨fun pins s σ H Q I h => ?_⟩
  refine wpAny_Compare1 (binT ha hb I h fun v u s2 y x H2 I2 ry rx q => ?_) hm
  obtain ⟨a, dx, fs, rfl, e, q⟩ := q
  cases rx
  obtain ⟨ox, od, J⟩ := own_at I2 e
  obtain ⟨m, hF⟩ := I2.fr
  refine PySem.W.in_K hF I2.ok.mod.kin J M.at_ M.fn ?_
  refine wpAny_mono (own_run (us := [.ref a, v]) (vs := [.ref a, y]) F hr I2.env0 B (hx σ) I2 (.cons rfl (.cons ry .nil)) q) (fun w s' z => ?_) fun _ _ z => z
  obtain ⟨z, H3, I3, rz, c, rfl, qz⟩ := z
  cases (show w = Value.bool c from rz)
  exact wpAny_pure ⟨.bl c, H3, I3, rfl, qz⟩
/-- len(x) by the own __len__ -/
def rOwnLen (C : Addr) (sp : Sp) : (L2.St → XK) → L2.St → List V → Hp → VK → Prop := fun E σ xs H Q => ∃ a dx fs, xs = [.ref a] ∧ H a = some (.ins C dx fs) ∧ sp xs H (fun z H' => ∃ n : Nat, z = .int n ∧ n < 2 ^ 63 ∧ Q (.int n) H') (E σ)
theorem call_lenOwn {D : XK} (F : Two X CX k C "__len__" sp) (hr : Room (k + 1) X.A) (hx : Passes CX X D) : CallR X (.builtin "len") (rOwnLen C sp (fun _ => D) []) := by
  obtain ⟨f, fd, ps, M, F, B⟩ := F.ex
  intro pins s σ H xs us Q I r q
  obtain ⟨a, dx, fs, rfl, e, q⟩ := q
  cases r with
  | cons r1 r2 =>
    cases r2
    cases r1
    obtain ⟨ox, od, J⟩ := own_at I e
    obtain ⟨m, hF⟩ := I.fr
    refine PySem.W.len_K hF I.ok.mod.kin J M.at_ M.fn ?_
    refine wpAny_mono (own_run (us := [.ref a]) (vs := [.ref a]) (E := fun _ => D) F hr.in1 I.env0.in1 B (fun pins H s e s' I z => hx pins σ H s e s' I z) I (.cons rfl .nil) q) (fun w s' z => ?_) fun _ _ z => z
    obtain ⟨z, H3, I3, rz, n, rfl, hn, qz⟩ := z
    obtain ⟨t, rfl⟩ := (show ∃ t, w = Value.int n t from rz)
    refine ⟨⟨by omega, by omega⟩, ?_⟩
    exact ⟨.int n, H3, I3.tok _, ⟨_, rfl⟩, qz⟩
/-- x[y] by the own __getitem__ -/
theorem pe_ixOwn {a b : Expr} {ta tb : TE} {pos : Pos} (F : Two X CX k C "__getitem__" sp) (fi : ∀ f, PySem.W.findIn X.K (.ref C) "__getitem__" = some (some (.ref f)) → PySem.W.fnIn X.K f = true) (hr : Room (k + 1) X.A) (hx : ∀ σ, PassesAt CX X σ (E σ)) (ha : PE X a ta) (hb : PE X b tb)
    (hs : ∀ x i, subscripted b true (.ref x) i = runValue (.builtin "lifetime.subscript" ⟨[.ref x, i], []⟩)) :
    PE X (.Subscript a b pos) (tOp2 (rOwn2 C sp) E ta tb) := by
  obtain ⟨f, fd, ps, M, F, B⟩ := F.ex
  refine ⟨fun pins s σ H Q I h => ?_⟩
  refine Subscript_ (binT ha hb I h fun v u s2 x y H2 I2 rx ry q => ?_)
  obtain ⟨c, dx, fs, rfl, e, q⟩ := q
  cases rx
  obtain ⟨ox, od, J⟩ := own_at I2 e
  obtain ⟨m, hF⟩ := I2.fr
  refine PySem.W.sub_K hF I2.ok.mod.kin J M.at_ (fi f M.at_) M.fn ?_ (hs _ _)
  exact own_run (us := [.ref c, u]) (vs := [.ref c, y]) F hr.in1 I2.env0.in1 B (hx σ) I2 (.cons rfl (.cons ry .nil)) q
end
section
open PySem.W PySem.Calls
variable {prog : Program} {w : World} {A : Around} {E : Value → Shared → Prop} {s : Shared} {K : Frag} {x f C : Addr} {ox : Obj} {od : Option Obj}
/-- x ⊕ b by the own method: b is of the one class, or of a built-in one -/
theorem bin_by_own {op : Operator} {b tb : Value} {Q : Value → Shared → Prop} (X : K.In s.heap) (I : InstAt s.heap x ox C od) (hb : Looks (model prog w) s.heap (typeOf b) tb) (hc : selfFirst K C = true)
    (hs : findIn K (.ref C) (PySem.dunder op.info.2) = some (some (.ref f))) (hf : isFn K (.ref f) = true) (hr : ∃ rc, findIn K (.ref C) (dunderR op.info.2) = some rc ∧ (rc = none ∨ ∃ g : Addr, rc = some (.ref g)))
    (ht : tb = .ref C ∨ ∃ (T : String) (fo ro : Option Value), tb = .type T ∧ findIn K (.type T) (PySem.dunder op.info.2) = some fo ∧ findIn K (.type T) (dunderR op.info.2) = some ro ∧ subIn K (.type T) (.ref C) = some false)
    (h : wpAny (model prog w) A (call (.ref f) [.ref x, b]) (PySem.W.CmpBack Q) E s) : wpAny (model prog w) A (binaryOp op (.ref x) b) Q E s := by
  obtain ⟨cd, rest, hcd, hm⟩ := ksp_first hc
  obtain ⟨rc, hr, hp⟩ := hr
  rcases hi : op.info with ⟨sym, nm'⟩
  rw [hi] at hs hr ht
  dsimp only at hs hr ht
  have one := ksp_try X I hs hf h
  obtain ⟨hh, g, d, tt, os⟩ := s
  have a1 : Looks (model prog w) hh (typeOf (.ref x)) (.ref C) := I.type
  have a2 : Looks (model prog w) hh (typeOf b) tb := hb
  have a3 : Looks (model prog w) hh (fillsNumberSlot (.ref C) nm') true := fills_K X hcd hm hs
  have a6 : Looks (model prog w) hh (numberSlotInPython (.ref C) nm') true := ksp_inPy X hs hr hp
  simp only [binaryOp, hi]
  refine wpAny_holding (wpAny_bind ?_)
  unfold binaryOp1
  refine wpAny_bind (a1.at (wpAny_bind (a2.at (wpAny_bind (a3.at ?_)))))
  rcases ht with rfl | ⟨T, fo, ro, rfl, h1, h2, hsub⟩
  · simp only [beq_self_eq_true, if_true]
    ksp_lk
    refine wpAny_mono one (fun r s' hr' => ?_) fun _ _ e => e
    obtain ⟨v, rfl, hq⟩ := hr'
    ksp_lk
    exact hq
  · have a4 := ksp_fillsT (M := model prog w) X h1 h2
    have a5 : Looks (model prog w) hh (isSubtype (.type T) (.ref C)) false := looks_subIn X hsub
    have a7 : Looks (model prog w) hh (numberSlotInPython (.type T) nm') false := Looks.of_pure rfl
    have a8 : Looks (model prog w) hh (typeLookup (.type T) (dunderR nm')) ro := looks_findIn X h2
    generalize ((fo.isSome && !isSeqSlot fo) || (ro.isSome && !isSeqSlot ro)) = right at a4
    have ne : (Value.ref C == Value.type T) = false := Bool.eq_false_iff.mpr fun q => by cases beq_iff_eq.mp q
    simp only [ne, Bool.false_eq_true, if_false]
    cases right with
    | false =>
      ksp_lk
      refine wpAny_mono one (fun r s' hr' => ?_) fun _ _ e => e
      obtain ⟨v, rfl, hq⟩ := hr'
      ksp_lk
      exact hq
    | true =>
      ksp_lk
      refine wpAny_mono one (fun r s' hr' => ?_) fun _ _ e => e
      obtain ⟨v, rfl, hq⟩ := hr'
      ksp_lk
      exact hq
end
section
variable {X : Cx} {CX : CXT} {k : Nat} {C : Addr} {sp : Sp} {E : L2.St → XK}
/-- what the other one may be in x ⊕ y -/
def OtherB (K : PySem.W.Frag) (C : Addr) (H : Hp) (nm : String) (y : V) : Prop := (∃ b dy gs, y = .ref b ∧ H b = some (.ins C dy gs)) ∨
  (∃ (T : String) (fo ro : Option Value), TyX K H y (.type T) ∧ PySem.W.findIn K (.type T) (PySem.dunder nm) = some fo ∧ PySem.W.findIn K (.type T) (dunderR nm) = some ro ∧ PySem.W.subIn K (.type T) (.ref C) = some false)
def rOwnB (K : PySem.W.Frag) (C : Addr) (nm : String) (sp : Sp) : (L2.St → XK) → L2.St → V → V → Hp → VK → Prop := fun E σ x y H Q => ∃ a dx fs, x = .ref a ∧ H a = some (.ins C dx fs) ∧ OtherB K C H nm y ∧ sp [x, y] H Q (E σ)
/-- x ⊕ y by the own method -/
theorem pe_binOwn {op : Operator} {a b : Expr} {ta tb : TE} {pos : Pos} (F : Two X CX k C (PySem.dunder op.info.2) sp) (hc : PySem.W.selfFirst X.K C = true) (hrc : ∃ rc, PySem.W.findIn X.K (.ref C) (dunderR op.info.2) = some rc ∧ (rc = none ∨ ∃ g : Addr, rc = some (.ref g)))
    (hr : Room k X.A) (hx : ∀ σ, PassesAt CX X σ (E σ)) (ha : PE X a ta) (hb : PE X b tb) : PE X (.BinOp a op b pos) (tOp2 (rOwnB X.K C op.info.2 sp) E ta tb) := by
  obtain ⟨f, fd, ps, M, F, B⟩ := F.ex
  refine ⟨fun pins s σ H Q I h => ?_⟩
  refine wpAny_BinOp (binT ha hb I h fun v u s2 x y H2 I2 rx ry q => ?_)
  obtain ⟨a, dx, fs, rfl, e, o, q⟩ := q
  cases rx
  obtain ⟨ox, od, J⟩ := own_at I2 e
  have run := wpAny_mono (own_run (us := [.ref a, u]) (vs := [.ref a, y]) F hr I2.env0 B (hx σ) I2 (.cons rfl (.cons ry .nil)) q) (Q' := PySem.W.CmpBack (EP X pins σ Q)) (fun w s' z => by
    obtain ⟨z, H3, I3, rz, qz⟩ := z
    exact SlX.cmpback rz ⟨z, H3, I3, rz, qz⟩) fun _ _ z => z
  rcases o with ⟨b, dy, gs, rfl, eb⟩ | ⟨T, fo, ro, ty, h1, h2, h3⟩
  · cases ry
    obtain ⟨oy, oe, J'⟩ := own_at I2 eb
    exact bin_by_own I2.kIn J J'.type hc M.at_ M.fn hrc (.inl rfl) run
  · exact bin_by_own I2.kIn J (ty_looks I2 ry ty) hc M.at_ M.fn hrc (.inr ⟨T, fo, ro, rfl, h1, h2, h3⟩) run
/-- what raises nothing here -/
theorem passN (hx : Passes CX X E0) : ∀ σ, PassesAt CX X σ ((fun _ => E0 : L2.St → XK) σ) := fun σ pins H s e s' I c => hx pins σ H s e s' I c
end
section
open PySem.W PySem.Calls
variable {prog : Program} {w : World} {A : Around} {E : Value → Shared → Prop} {s : Shared} {K : Frag} {x f C : Addr} {ox : Obj} {od : Option Obj} {b tb : Value}
/-- what object's != does where an own == stands -/
theorem ne_body (hu : A.units < cLine) (X : K.In s.heap) (I : InstAt s.heap x ox C od) (he : findIn K (.ref C) "__eq__" = some (some (.ref f))) (hf : isFn K (.ref f) = true) {Q : Fin → Shared → Prop}
    (h : wpAny (model prog w) A (call (.ref f) [.ref x, b]) (fun v s' => ∃ c, v = .bool c ∧ Q (.done (.ret (.bool (!c)))) s') E s) : wpAny (model prog w) A (Builtin.«object.__ne__» ⟨[.ref x, b], []⟩) Q E s := by
  unfold Builtin.«object.__ne__»
  repeat (first
    | with_reducible refine wpAny_cRoomFor hu ?_
    | (refine wpAny_bind (m := callSpecialIfBound? (.ref x) (Str.ofString "__eq__") [b]) (ifBound_K X I he hf (wpAny_mono h (fun r s' hr => by
          obtain ⟨c, rfl, hq⟩ := hr
          repeat (first | exact hq | exact wpAny_pure hq | exact wpAny_truthy_bool hq | (refine wpAny_bind (m := truthy (.bool _)) (wpAny_truthy_bool ?_)) | wp_step)) fun _ _ e => e)))
    | wp_step)
/-- x != b by the own == -/
theorem ne_by_eq (hu : A.in1.units < cLine) (hu0 : A.units < cLine) (X : K.In s.heap) (I : InstAt s.heap x ox C od) (hb : Looks (model prog w) s.heap (typeOf b) tb) (hn : notFirst K C tb = true) (hm : mroIn K C (.type "object") = some true)
    (hs : findIn K (.ref C) "__ne__" = some (some (.builtin "object.__ne__"))) (he : findIn K (.ref C) "__eq__" = some (some (.ref f))) (hf : isFn K (.ref f) = true) {Q : Value → Shared → Prop}
    (h : wpAny (model prog w) A.in1 (call (.ref f) [.ref x, b]) (fun v s' => ∃ c, v = .bool c ∧ Q (.bool (!c)) s') E s) : wpAny (model prog w) A (richCompare .NotEq (.ref x) b) Q E s := by
  have inner : ∀ {R : Value → Shared → Prop}, (∀ c s', Q (.bool c) s' → R (.bool c) s') → wpAny (model prog w) A (call (.builtin "object.__ne__") [.ref x, b]) R E s := fun {R} hR =>
    wpAny_call (codeAny_call_builtin F.cmp_object.ne.plain F.cmpEntry_ne (check_slot F.cmpKind_ne F.cmpSplit_ne (I.type.andThen (looks_mroIn X hm)) (F.cmpArgs_ne _ _)
      (ne_body hu X I he hf (wpAny_mono h (fun v s' z => by
        obtain ⟨c, e, q⟩ := z
        exact ⟨c, e, hR _ _ q⟩) fun _ _ e => e))))
  have one : wpAny (model prog w) A (tryCompare (.ref x) "__ne__" b) (fun r s' => ∃ v, r = some v ∧ Q v s') E s := by
    unfold tryCompare
    simp only [callSpecialIfBound?, bindSpecialIfBound?]
    refine wpAny_bind (wpAny_holding (wpAny_bind (wpAny_bind (wpAny_bind (I.type.here ((looks_findIn X hs).here ?_))))))
    refine wpAny_bind (wpAny_askSetting (wpAny_ite ?_))
    have fin := inner (R := fun v s' => wpAny (model prog w) A (pure (some v)) (fun r s'' => wpAny (model prog w) A (match r with | some .notImplemented | none => pure none | some v => pure (some v)) (fun r s' => ∃ v, r = some v ∧ Q v s') E s'') E s') (fun c s' q => wpAny_pure (wpAny_pure ⟨_, rfl, q⟩))
    split
    · exact wpAny_bind (wpAny_of_eq (F.cmp_object.ne.bind _) (wpAny_pure (by exact wpAny_bind fin)))
    · exact wpAny_tryCatch (wpAny_bind (wpAny_of_eq (F.cmp_object.ne.bind _) (wpAny_pure (by exact wpAny_bind fin))))
  unfold richCompare
  simp only [oneThing_ref]
  refine wpAny_holding (wpAny_bind (wpAny_cRoomFor hu0 ?_))
  refine wpAny_bind (I.type.here (wpAny_bind (hb.here ?_)))
  split
  · rename_i q
    have e : subIn K tb (.ref C) = some false := by
      rcases Bool.or_eq_true_iff.mp hn with e | e
      · rw [beq_iff_eq.mp e] at q; simp at q
      · exact beq_iff_eq.mp e
    refine wpAny_bind ((looks_subIn X e).here ?_)
    simp only [Bool.false_eq_true, if_false]
    refine wpAny_bind (wpAny_mono one (fun r s' z => ?_) fun _ _ e => e)
    obtain ⟨v, rfl, hq⟩ := z
    exact wpAny_pure hq
  · refine wpAny_bind (wpAny_pure ?_)
    simp only [Bool.false_eq_true, if_false]
    refine wpAny_bind (wpAny_mono one (fun r s' z => ?_) fun _ _ e => e)
    obtain ⟨v, rfl, hq⟩ := z
    exact wpAny_pure hq
end
section
variable {X : Cx} {CX : CXT} {k : Nat} {C : Addr} {sp : Sp} {E : L2.St → XK}
/-- x != y, where the class has an == of its own and no != -/
def rOwnNe (K : PySem.W.Frag) (C : Addr) (sp : Sp) : (L2.St → XK) → L2.St → V → V → Hp → VK → Prop := fun E σ x y H Q => ∃ a dx fs, x = .ref a ∧ H a = some (.ins C dx fs) ∧ OtherT K C H y ∧ sp [x, y] H (fun z H' => ∃ c, z = .bl c ∧ Q (.bl (!c)) H') (E σ)
theorem pe_neOwn {a b : Expr} {ta tb : TE} {pos : Pos} (F : Two X CX k C "__eq__" sp) (hs : PySem.W.findIn X.K (.ref C) "__ne__" = some (some (.builtin "object.__ne__"))) (ho : PySem.W.mroIn X.K C (.type "object") = some true) (hr : Room (k + 1) X.A) (hx : ∀ σ, PassesAt CX X σ (E σ)) (ha : PE X a ta) (hb : PE X b tb) (hm : behindInMarks .NotEq b = false) :
    PE X (.Compare a [.NotEq] [b] pos) (tOp2 (rOwnNe X.K C sp) E ta tb) := by
  obtain ⟨f, fd, ps, M, F, B⟩ := F.ex
  refine ⟨fun pins s σ H Q I h => ?_⟩
  refine wpAny_Compare1 (binT ha hb I h fun v u s2 x y H2 I2 rx ry q => ?_) hm
  obtain ⟨a, dx, fs, rfl, e, o, q⟩ := q
  cases rx
  obtain ⟨ox, od, J⟩ := own_at I2 e
  obtain ⟨tb, L, nf⟩ := other_looks (M := model X.prog X.w) I2 ry o fun _ _ _ _ _ => trivial
  show wpAny _ _ (richCompare .NotEq _ _) _ _ _
  refine ne_by_eq hr.in1.units0 hr.units0 I2.kIn J L nf ho hs M.at_ M.fn ?_
  refine wpAny_mono (own_run (us := [.ref a, u]) (vs := [.ref a, y]) F hr.in1 I2.env0.in1 B (hx σ) I2 (.cons rfl (.cons ry .nil)) q) (fun w s' z => ?_) fun _ _ z => z
  obtain ⟨z, H3, I3, rz, c, rfl, qz⟩ := z
  cases (show w = Value.bool c from rz)
  exact ⟨c, rfl, .bl (!c), H3, I3, rfl, qz⟩
end
/-! readings, step by step -/
section
variable {K : PySem.W.Frag} {C a dx : Addr} {fs : List (Str × V)} {sp : Sp} {E : L2.St → XK} {σ : L2.St} {y : V} {H : Hp} {Q : VK} {nm : String}
theorem r_op2 {r : (L2.St → XK) → L2.St → V → V → Hp → VK → Prop} {ta tb : TE} (h : ta σ H fun x H1 => tb σ H1 fun y H2 => r E σ x y H2 Q) : tOp2 r E ta tb σ H Q := h
theorem r_own2 (e : H a = some (.ins C dx fs)) (h : sp [.ref a, y] H Q (E σ)) : rOwn2 C sp E σ (.ref a) y H Q := ⟨a, dx, fs, rfl, e, h⟩
theorem r_ownC (e : H a = some (.ins C dx fs)) (o : OtherT K C H y) (h : sp [.ref a, y] H Q (E σ)) : rOwnC K C sp E σ (.ref a) y H Q := ⟨a, dx, fs, rfl, e, o, h⟩
theorem r_ownB (e : H a = some (.ins C dx fs)) (o : OtherB K C H nm y) (h : sp [.ref a, y] H Q (E σ)) : rOwnB K C nm sp E σ (.ref a) y H Q := ⟨a, dx, fs, rfl, e, o, h⟩
theorem r_ownNe (e : H a = some (.ins C dx fs)) (o : OtherT K C H y) (h : sp [.ref a, y] H (fun z H' => ∃ c, z = .bl c ∧ Q (.bl (!c)) H') (E σ)) : rOwnNe K C sp E σ (.ref a) y H Q := ⟨a, dx, fs, rfl, e, o, h⟩
theorem r_ownIn (e : H a = some (.ins C dx fs)) (h : sp [.ref a, y] H (fun z H' => ∃ c, z = .bl c ∧ Q (.bl c) H') (E σ)) : rOwnIn C sp false E σ y (.ref a) H Q := ⟨a, dx, fs, rfl, e, h⟩
theorem r_ownLen (e : H a = some (.ins C dx fs)) (h : sp [.ref a] H (fun z H' => ∃ n : Nat, z = .int n ∧ n < 2 ^ 63 ∧ Q (.int n) H') (E σ)) : rOwnLen C sp E σ [.ref a] H Q := ⟨a, dx, fs, rfl, e, h⟩
end
end Pk
set_option Elab.async false
set_option linter.all false
set_option maxRecDepth 100000
set_option maxHeartbeats 200000
namespace Pk
open PySem L2 PySem.Spec PyProof.Rows
section
open PySem.W PySem.Calls
variable {prog : Program} {w : World} {A : Around} {E : Value → Shared → Prop} {s : Shared} {K : Frag} {x f C : Addr} {ox : Obj} {od : Option Obj} {i : Int} {t : Tok}
/-- int's product with an instance: declined -/
theorem mul_no {c : Value} {dd : Option Addr} {sl : Array (Option Value)} {Q : Value → Shared → Prop} (hx : s.heap.get? x = some ⟨c, dd, .plain, sl⟩) (h : Q .notImplemented s) : wpAny (model prog w) A (call (.builtin "int.__mul__") [.int i t, .ref x]) Q E s := by
  refine wpAny_call (codeAny_call_builtin F.slot_int_mul.plain F.entry_int_mul (F.slot_int_mul.check _ _ _ _ _ _ _ _ (typeIs_int s i t) (F.args_int_mul_2 _ _) ?_))
  obtain ⟨hp, g, d, tk, os⟩ := s
  unfold Builtin.«int.__mul__» Builtin.Int.intBinary
  repeat (first
    | exact h
    | with_reducible refine wpAny_load hx ?_
    | wp_step)
theorem try_mul_int {nm : Str} {c : Value} {dd : Option Addr} {sl : Array (Option Value)} {Q : Option Value → Shared → Prop} (L : Slot "int" nm "int.__mul__") (hx : s.heap.get? x = some ⟨c, dd, .plain, sl⟩) (h : Q none s) : wpAny (model prog w) A (tryMethod (.int i t) nm (.ref x)) Q E s :=
  wpAny_tryMethod_declines (typeIs_int s i t) L (mul_no hx ⟨rfl, h⟩)
/-- a ⊕ x by x's own reflected method, a of a built-in class that has none of its own, or declines -/
theorem bin_back {op : Operator} {a : Value} {T : String} {lb : Bool} {g0 : Addr} {Q : Value → Shared → Prop} (X : K.In s.heap) (I : InstAt s.heap x ox C od) (hta : typeOf a = pure (.type T)) (hl : fillsNumberSlot (.type T) op.info.2 = pure lb) (hc : selfFirst K C = true)
    (hs : findIn K (.ref C) (PySem.dunder op.info.2) = some (some (.ref g0))) (hr : findIn K (.ref C) (dunderR op.info.2) = some (some (.ref f))) (hf : isFn K (.ref f) = true) (hsub : subIn K (.ref C) (.type T) = some false)
    (no : lb = true → ∀ {R : Option Value → Shared → Prop}, R none s → wpAny (model prog w) A (tryMethod a (PySem.dunder op.info.2) (.ref x)) R E s)
    (h : wpAny (model prog w) A (call (.ref f) [.ref x, a]) (PySem.W.CmpBack Q) E s) : wpAny (model prog w) A (binaryOp op a (.ref x)) Q E s := by
  obtain ⟨cd, rest, hcd, hm⟩ := ksp_first hc
  rcases hi : op.info with ⟨sym, nm'⟩
  rw [hi] at hs hr hl no
  dsimp only at hs hr hl no
  have one := ksp_try X I hr hf h
  obtain ⟨hh, g, d, tt, os⟩ := s
  have a1 : Looks (model prog w) hh (typeOf (.ref x)) (.ref C) := I.type
  have a2 : Looks (model prog w) hh (typeOf a) (.type T) := Looks.of_pure hta
  have a3 : Looks (model prog w) hh (fillsNumberSlot (.ref C) nm') true := fills_K X hcd hm hs
  have a4 : Looks (model prog w) hh (fillsNumberSlot (.type T) nm') lb := Looks.of_pure hl
  have a5 : Looks (model prog w) hh (isSubtype (.ref C) (.type T)) false := looks_subIn X hsub
  have a7 : Looks (model prog w) hh (numberSlotInPython (.type T) nm') false := Looks.of_pure rfl
  have ne : (Value.type T == Value.ref C) = false := Bool.eq_false_iff.mpr fun q => by cases beq_iff_eq.mp q
  simp only [binaryOp, hi]
  refine wpAny_holding (wpAny_bind ?_)
  unfold binaryOp1
  refine wpAny_bind (a2.at (wpAny_bind (a1.at (wpAny_bind (a4.at ?_)))))
  simp only [ne, Bool.false_eq_true, if_false]
  cases lb with
  | false =>
    ksp_lk
    refine wpAny_mono one (fun r s' hr' => ?_) fun _ _ e => e
    obtain ⟨v, rfl, hq⟩ := hr'
    ksp_lk
    exact hq
  | true =>
    ksp_lk
    refine no rfl ?_
    ksp_lk
    refine wpAny_mono one (fun r s' hr' => ?_) fun _ _ e => e
    obtain ⟨v, rfl, hq⟩ := hr'
    ksp_lk
    exact hq
end
theorem slot_mul_lit : Slot "int" ("__mul__" : Str) "int.__mul__" := by
  have e : PySem.dunder "mul" = ("__mul__" : Str) := by decide +kernel
  rw [← e]
  exact PySem.F.slot_int_mul
section
variable {X : Cx} {CX : CXT} {k : Nat} {C g0 : Addr} {sp : Sp} {E : L2.St → XK}
/-- i * x by the own __rmul__, i an int -/
def rMulBack (C : Addr) (sp : Sp) : (L2.St → XK) → L2.St → V → V → Hp → VK → Prop := fun E σ y x H Q => ∃ a dx fs i, x = .ref a ∧ y = .int i ∧ H a = some (.ins C dx fs) ∧ sp [x, y] H Q (E σ)
theorem pe_mulBack {op : Operator} {a b : Expr} {ta tb : TE} {pos : Pos} (hop : op = .Mult) (F : Two X CX k C "__rmul__" sp) (hc : PySem.W.selfFirst X.K C = true) (hs : PySem.W.findIn X.K (.ref C) "__mul__" = some (some (.ref g0))) (hsub : PySem.W.subIn X.K (.ref C) (.type "int") = some false)
    (hr : Room k X.A) (hx : ∀ σ, PassesAt CX X σ (E σ)) (ha : PE X a ta) (hb : PE X b tb) : PE X (.BinOp a op b pos) (tOp2 (rMulBack C sp) E ta tb) := by
  obtain ⟨f, fd, ps, M, F, B⟩ := F.ex
  refine ⟨fun pins s σ H Q I h => ?_⟩
  refine wpAny_BinOp (binT ha hb I h fun v u s2 y x H2 I2 ry rx q => ?_)
  obtain ⟨a, dx, fs, i, rfl, rfl, e, q⟩ := q
  cases rx
  obtain ⟨t, rfl⟩ := (show ∃ t, v = Value.int i t from ry)
  obtain ⟨mA, J0, _⟩ := ins_get I2.hok e
  obtain ⟨od, J, _⟩ := J0.look
  have run := wpAny_mono (own_run (us := [.ref a, .int i t]) (vs := [.ref a, .int i]) F hr I2.env0 B (hx σ) I2 (.cons rfl (.cons ⟨t, rfl⟩ .nil)) q) (Q' := PySem.W.CmpBack (EP X pins σ Q)) (fun w s' z => by
    obtain ⟨z, H3, I3, rz, qz⟩ := z
    exact SlX.cmpback rz ⟨z, H3, I3, rz, qz⟩) fun _ _ z => z
  have e0 : op.info.2 = "mul" := by rw [hop]; rfl
  have e1 : PySem.dunder op.info.2 = ("__mul__" : Str) := by rw [e0]; decide +kernel
  have e2 : dunderR op.info.2 = ("__rmul__" : Str) := by rw [e0]; decide +kernel
  have k1 : PySem.W.findIn X.K (.ref C) (PySem.dunder op.info.2) = some (some (.ref g0)) := by rw [e1]; exact hs
  have k2 : PySem.W.findIn X.K (.ref C) (dunderR op.info.2) = some (some (.ref f)) := by rw [e2]; exact M.at_
  have k3 : fillsNumberSlot (.type "int") op.info.2 = pure true := by rw [e0]; exact PySem.F.fills_int_mul
  have k5 : Slot "int" (PySem.dunder op.info.2) "int.__mul__" := by rw [e1]; exact slot_mul_lit
  have kT : typeOf (.int i t) = pure (.type "int") := rfl
  exact bin_back I2.kIn J kT k3 hc k1 k2 M.fn hsub (fun _ {R} hR => try_mul_int k5 J0.obj hR) run
theorem r_mulBack {σ : L2.St} {H : Hp} {Q : VK} {a dx : Addr} {fs : List (Str × V)} {i : Int} (e : H a = some (.ins C dx fs)) (h : sp [.ref a, .int i] H Q (E σ)) : rMulBack C sp E σ (.int i) (.ref a) H Q := ⟨a, dx, fs, i, rfl, rfl, e, h⟩
end
section
open PySem.W PySem.Calls
variable {prog : Program} {w : World} {A : Around} {E : Value → Shared → Prop} {s : Shared} {x : Addr} {b : Bool}
/-- a bool's product with an instance: declined -/
theorem mul_noB {c : Value} {dd : Option Addr} {sl : Array (Option Value)} {Q : Value → Shared → Prop} (hx : s.heap.get? x = some ⟨c, dd, .plain, sl⟩) (h : Q .notImplemented s) : wpAny (model prog w) A (call (.builtin "int.__mul__") [.bool b, .ref x]) Q E s := by
  refine wpAny_call (codeAny_call_builtin PySem.F.slot_int_mul.plain PySem.F.entry_int_mul (PySem.F.slot_bool_mul.check _ _ _ _ _ _ _ _ (PySem.typeIs_bool s b) (PySem.F.args_int_mul_2 _ _) ?_))
  obtain ⟨hp, g, d, tk, os⟩ := s
  unfold Builtin.«int.__mul__» Builtin.Int.intBinary
  repeat (first
    | exact h
    | with_reducible refine wpAny_load hx ?_
    | wp_step)
theorem try_mul_bool {nm : Str} {c : Value} {dd : Option Addr} {sl : Array (Option Value)} {Q : Option Value → Shared → Prop} (L : Slot "bool" nm "int.__mul__") (hx : s.heap.get? x = some ⟨c, dd, .plain, sl⟩) (h : Q none s) : wpAny (model prog w) A (tryMethod (.bool b) nm (.ref x)) Q E s :=
  wpAny_tryMethod_declines (PySem.typeIs_bool s b) L (mul_noB hx ⟨rfl, h⟩)
theorem slot_mul_litB : Slot "bool" ("__mul__" : Str) "int.__mul__" := by
  have e : PySem.dunder "mul" = ("__mul__" : Str) := by decide +kernel
  rw [← e]
  exact PySem.F.slot_bool_mul
end
section
variable {X : Cx} {CX : CXT} {k : Nat} {C g0 : Addr} {sp : Sp} {E : L2.St → XK}
/-- y * x by the own __rmul__, y a number, a truth, a text or none -/
def Plain1 (y : V) : Prop := (∃ i, y = .int i) ∨ (∃ b, y = .bl b) ∨ (∃ z, y = .str z) ∨ y = .non
def rMulAny (C : Addr) (sp : Sp) : (L2.St → XK) → L2.St → V → V → Hp → VK → Prop := fun E σ y x H Q => ∃ a dx fs, x = .ref a ∧ Plain1 y ∧ H a = some (.ins C dx fs) ∧ sp [x, y] H Q (E σ)
theorem none_mul : fillsNumberSlot (.type "NoneType") "mul" = pure false := by
  unfold fillsNumberSlot
  have a : typeLookup (.type "NoneType") (PySem.dunder "mul") = pure none := by rw [typeLookup_type, builtinLookup_eq_fast]; kernel_rfl
  have b : typeLookup (.type "NoneType") (dunderR "mul") = pure none := by rw [typeLookup_type, builtinLookup_eq_fast]; kernel_rfl
  simp only [a, b, pure_bind]
  rfl
theorem pe_mulAny {op : Operator} {a b : Expr} {ta tb : TE} {pos : Pos} (hop : op = .Mult) (F : Two X CX k C "__rmul__" sp) (hc : PySem.W.selfFirst X.K C = true) (hs : PySem.W.findIn X.K (.ref C) "__mul__" = some (some (.ref g0)))
    (hi : PySem.W.subIn X.K (.ref C) (.type "int") = some false) (hbo : PySem.W.subIn X.K (.ref C) (.type "bool") = some false) (hst : PySem.W.subIn X.K (.ref C) (.type "str") = some false) (hno : PySem.W.subIn X.K (.ref C) (.type "NoneType") = some false)
    (hr : Room k X.A) (hx : ∀ σ, PassesAt CX X σ (E σ)) (ha : PE X a ta) (hb : PE X b tb) : PE X (.BinOp a op b pos) (tOp2 (rMulAny C sp) E ta tb) := by
  obtain ⟨f, fd, ps, M, F, B⟩ := F.ex
  refine ⟨fun pins s σ H Q I h => ?_⟩
  refine wpAny_BinOp (binT ha hb I h fun v u s2 y x H2 I2 ry rx q => ?_)
  obtain ⟨a, dx, fs, rfl, py, e, q⟩ := q
  cases rx
  obtain ⟨mA, J0, _⟩ := ins_get I2.hok e
  obtain ⟨od, J, _⟩ := J0.look
  have run := wpAny_mono (own_run (us := [.ref a, v]) (vs := [.ref a, y]) F hr I2.env0 B (hx σ) I2 (.cons rfl (.cons ry .nil)) q) (Q' := PySem.W.CmpBack (EP X pins σ Q)) (fun w s' z => by
    obtain ⟨z, H3, I3, rz, qz⟩ := z
    exact SlX.cmpback rz ⟨z, H3, I3, rz, qz⟩) fun _ _ z => z
  have e0 : op.info.2 = "mul" := by rw [hop]; rfl
  have e1 : PySem.dunder op.info.2 = ("__mul__" : Str) := by rw [e0]; decide +kernel
  have e2 : dunderR op.info.2 = ("__rmul__" : Str) := by rw [e0]; decide +kernel
  have k1 : PySem.W.findIn X.K (.ref C) (PySem.dunder op.info.2) = some (some (.ref g0)) := by rw [e1]; exact hs
  have k2 : PySem.W.findIn X.K (.ref C) (dunderR op.info.2) = some (some (.ref f)) := by rw [e2]; exact M.at_
  rcases py with ⟨i, rfl⟩ | ⟨i, rfl⟩ | ⟨i, rfl⟩ | rfl
  · obtain ⟨t, rfl⟩ := (show ∃ t, v = Value.int i t from ry)
    have k3 : fillsNumberSlot (.type "int") op.info.2 = pure true := by rw [e0]; exact PySem.F.fills_int_mul
    have k5 : Slot "int" (PySem.dunder op.info.2) "int.__mul__" := by rw [e1]; exact slot_mul_lit
    have kT : typeOf (.int i t) = pure (.type "int") := rfl
    exact bin_back I2.kIn J kT k3 hc k1 k2 M.fn hi (fun _ {R} hR => try_mul_int k5 J0.obj hR) run
  · cases (show v = Value.bool i from ry)
    have k3 : fillsNumberSlot (.type "bool") op.info.2 = pure true := by rw [e0]; exact PySem.F.fills_bool_mul
    have k5 : Slot "bool" (PySem.dunder op.info.2) "int.__mul__" := by rw [e1]; exact slot_mul_litB
    have kT : typeOf (.bool i) = pure (.type "bool") := rfl
    exact bin_back I2.kIn J kT k3 hc k1 k2 M.fn hbo (fun _ {R} hR => try_mul_bool k5 J0.obj hR) run
  · obtain ⟨t, rfl⟩ := (show ∃ t, v = Value.str i t from ry)
    have k3 : fillsNumberSlot (.type "str") op.info.2 = pure false := by rw [e0]; exact noFill_str_mul
    have kT : typeOf (.str i t) = pure (.type "str") := rfl
    exact bin_back I2.kIn J kT k3 hc k1 k2 M.fn hst (fun z => Bool.noConfusion z) run
  · cases (show v = Value.none from ry)
    have k3 : fillsNumberSlot (.type "NoneType") op.info.2 = pure false := by rw [e0]; exact none_mul
    have kT : typeOf .none = pure (.type "NoneType") := rfl
    exact bin_back I2.kIn J kT k3 hc k1 k2 M.fn hno (fun z => Bool.noConfusion z) run
theorem r_mulAny {σ : L2.St} {H : Hp} {Q : VK} {a dx : Addr} {fs : List (Str × V)} {y : V} (e : H a = some (.ins C dx fs)) (py : Plain1 y) (h : sp [.ref a, y] H Q (E σ)) : rMulAny C sp E σ y (.ref a) H Q := ⟨a, dx, fs, rfl, py, e, h⟩
end
end Pk
set_option Elab.async false
set_option linter.all false
set_option maxRecDepth 100000
set_option maxHeartbeats 1000000
namespace Pk
open PySem L2
section
variable {K : PySem.W.Frag} {σ : L2.St} {H : Hp} {Q : VK} {D : Ends} {a C dx : Addr} {fs : List (Str × V)} {f g : Str} {v u : V} {i : Nat} {ta tv : TE}
/-- an attribute is read -/
theorem r_fldU (h : ta σ H fun x H1 => ∃ a C dx fs v, x = .ref a ∧ H1 a = some (.ins C dx fs) ∧ Cls K C ∧ NoAttr K C f ∧ fs.lookup f = some v ∧ Q v H1) : tFld K ta f σ H Q := h
theorem r_fld0 (o : H a = some (.ins C dx fs)) (c : Cls K C) (n : NoAttr K C f) (l : fs.lookup f = some v) (h : Q v H) : ∃ b C dx fs v, V.ref a = .ref b ∧ H b = some (.ins C dx fs) ∧ Cls K C ∧ NoAttr K C f ∧ fs.lookup f = some v ∧ Q v H := ⟨a, C, dx, fs, v, rfl, o, c, n, l, h⟩
theorem r_fldV (e : σ[i]? = some (some (.ref a))) (o : H a = some (.ins C dx fs)) (c : Cls K C) (n : NoAttr K C f) (l : fs.lookup f = some v) (h : Q v H) : tFld K (tVar i) f σ H Q := ⟨.ref a, e, a, C, dx, fs, v, rfl, o, c, n, l, h⟩
/-- .. is set -/
theorem r_sFldU (h : tv σ H fun y H1 => ta σ H1 fun x H2 => ∃ a C dx fs, x = .ref a ∧ H2 a = some (.ins C dx fs) ∧ Cls K C ∧ NoAttr K C f ∧ fs.length < 1000 ∧ D.nx σ (upd H2 a (.ins C dx (putF f y fs)))) : sFld K ta tv f D σ H := h
theorem r_sFld0 {P : Hp → Prop} {y : V} (o : H a = some (.ins C dx fs)) (c : Cls K C) (n : NoAttr K C f) (l : fs.length < 1000) (h : P (upd H a (.ins C dx (putF f y fs)))) :
    ∃ b C dx fs, V.ref a = .ref b ∧ H b = some (.ins C dx fs) ∧ Cls K C ∧ NoAttr K C f ∧ fs.length < 1000 ∧ P (upd H b (.ins C dx (putF f y fs))) := ⟨a, C, dx, fs, rfl, o, c, n, l, h⟩
/-- a method of an own class is called -/
theorem r_methU {m : Str} {sp : Sp} {dvs : List V} {E : XK} {t : TA} (h : ta σ H fun x H1 => ∃ a dx fs, x = .ref a ∧ H1 a = some (.ins C dx fs) ∧ fs.lookup m = none ∧ t σ H1 fun vs H2 => sp (x :: (vs ++ dvs)) H2 Q E) : tMeth C m sp dvs E ta t σ H Q := h
/-- a < b < c -/
theorem r_chain {r r' : R2} {tc : TE} (h : ta σ H fun x H1 => tv σ H1 fun y H2 => r x y H2 fun z H3 => ∃ k, z = .bl k ∧ (if k = true then tc σ H3 fun w H4 => r' y w H4 Q else Q (.bl false) H3)) : tChain r r' ta tv tc σ H Q := h
theorem ifT {c : Bool} {A B : Prop} (hc : c = true) (h : A) : if c = true then A else B := by rw [if_pos hc]; exact h
theorem ifF {c : Bool} {A B : Prop} (hc : c = false) (h : B) : if c = true then A else B := by rw [hc, if_neg Bool.false_ne_true]; exact h
/-- enumerate(list) in a for -/
theorem r_enum {ta : TA} {R : It → Hp → Prop} (h : ta σ H fun vs H1 => ∃ a xs, vs = [.ref a] ∧ SqL K H1 a xs ∧ R (Ite K a) H1) : iEnum K ta σ H R := h
theorem r_zip {ta : TA} {R : It → Hp → Prop} (h : ta σ H fun vs H1 => ∃ a b xs ys, vs = [.ref a, .ref b] ∧ SqL K H1 a xs ∧ SqL K H1 b ys ∧ R (Itz K a b) H1) : iZip K ta σ H R := h
theorem r_gtup {n : Nat} {t : TGs} {R : L2.St → Hp → Prop} (h : ∃ a xs, v = .ref a ∧ SqT K H a xs ∧ xs.length = n ∧ t xs σ H R) : gTup K n t v σ H R := h
theorem int_at {ms : List Int} {i : Nat} {y : V} (h : (ms.map V.int)[i]? = some y) : ∃ m, m ∈ ms ∧ y = .int m := by
  rw [List.getElem?_map] at h
  cases e : ms[i]? with
  | none => rw [e] at h; cases h
  | some m => rw [e] at h; exact ⟨m, List.mem_of_getElem? e, (Option.some.inj h).symm⟩
theorem int_get {ms : List Int} {i : Nat} {y : V} (h : (ms.map V.int)[i]? = some y) : y = .int (ms.getD i 0) := by
  rw [List.getElem?_map] at h
  cases e : ms[i]? with
  | none => rw [e] at h; cases h
  | some m => rw [e] at h; rw [List.getD_eq_getElem?_getD, e]; exact (Option.some.inj h).symm
/-- two attributes -/
theorem two_put (hfg : (f == g) = false) (e : ¬ f = g) : putF g u (putF f v []) = [(f, v), (g, u)] := by
  show putF g u [(f, v)] = _
  rw [show putF g u [(f, v)] = (f, v) :: putF g u [] from if_neg e]
  rfl
theorem two_fst : List.lookup f [(f, v), (g, u)] = some v := by simp [List.lookup]
theorem two_snd (hfg : (g == f) = false) : List.lookup g [(f, v), (g, u)] = some u := by simp [List.lookup, hfg]
theorem two_no {m : Str} (h1 : (m == f) = false) (h2 : (m == g) = false) : List.lookup m [(f, v), (g, u)] = none := by simp [List.lookup, h1, h2]
theorem ite_and {c d : Bool} {A B : Prop} (h : if (c && d) = true then A else B) : if c = true then (if d = true then A else B) else B := by
  cases c <;> cases d <;> simpa using h
end
/-- what isinstance asks of an own class -/
structure OwnC (K : PySem.W.Frag) (C : Addr) : Prop where
  cl : Cls K C
  ha : PySem.W.findIn K (.ref C) "__class__" = some (some (.builtin "object.__class__"))
  hn : PySem.W.specialIn K (.builtin "object.__class__") "__get__" = some (some (.builtin "getset_descriptor.__get__"))
  htk : PySem.W.takesIn K (.builtin "object.__class__") = some true
  hm : PySem.W.mroIn K C (.type "object") = some true
  isC : PySem.W.isClsIn K C = true
  ty : PySem.W.typeIn K (.ref C) = some (.type "type")
  sub : ∀ T : String, T ∈ (["NoneType", "int", "bool", "str", "list", "tuple", "dict"] : List String) → PySem.W.subIn K (.type T) (.ref C) = some false
theorem OwnC.of {K : PySem.W.Frag} {C : Addr} (pg : PySem.W.plainGet K C Str.empty = true) (hd : PySem.W.hasDictIn K C = true) (po : PySem.W.plainOver K C = true) (sa : PySem.W.findIn K (.ref C) "__setattr__" = some (some (.builtin "object.__setattr__")))
    (ha : PySem.W.findIn K (.ref C) "__class__" = some (some (.builtin "object.__class__"))) (hn : PySem.W.specialIn K (.builtin "object.__class__") "__get__" = some (some (.builtin "getset_descriptor.__get__"))) (htk : PySem.W.takesIn K (.builtin "object.__class__") = some true)
    (hm : PySem.W.mroIn K C (.type "object") = some true) (isC : PySem.W.isClsIn K C = true) (ty : PySem.W.typeIn K (.ref C) = some (.type "type")) (s1 : PySem.W.subIn K (.type "NoneType") (.ref C) = some false) (s2 : PySem.W.subIn K (.type "int") (.ref C) = some false)
    (s3 : PySem.W.subIn K (.type "bool") (.ref C) = some false) (s4 : PySem.W.subIn K (.type "str") (.ref C) = some false) (s5 : PySem.W.subIn K (.type "list") (.ref C) = some false) (s6 : PySem.W.subIn K (.type "tuple") (.ref C) = some false) (s7 : PySem.W.subIn K (.type "dict") (.ref C) = some false) : OwnC K C :=
  ⟨⟨pg, hd, po, sa⟩, ha, hn, htk, hm, isC, ty, fun T h => by
    simp only [List.mem_cons, List.not_mem_nil, or_false] at h
    rcases h with rfl | rfl | rfl | rfl | rfl | rfl | rfl
    · exact s1
    · exact s2
    · exact s3
    · exact s4
    · exact s5
    · exact s6
    · exact s7⟩
section
variable {K : PySem.W.Frag} {C a dx : Addr} {fs : List (Str × V)} {H : Hp} {Q : VK} {x : V} {T : String}
theorem OwnC.tyx (c : OwnC K C) (e : H a = some (.ins C dx fs)) : TyX K H (.ref a) (.ref C) := .base (.ins e c.cl c.ha c.hn c.htk c.hm)
/-- isinstance(x, the own class) -/
theorem r_isiSelf (c : OwnC K C) (e : H a = some (.ins C dx fs)) (h : Q (.bl true) H) : rIsi K [.ref a, .ref C] H Q :=
  ⟨.ref a, .ref C, _, _, true, rfl, .own C, c.tyx e, by unfold PySem.W.kitOne; rw [if_pos (by simp)], h⟩
theorem OwnC.kit (c : OwnC K C) (h : T ∈ (["NoneType", "int", "bool", "str", "list", "tuple", "dict"] : List String)) : PySem.W.kitOne K (.type T) (.ref C) = some false := by
  unfold PySem.W.kitOne PySem.W.kitCls
  have h1 : (PySem.W.clsIn K C).isSome = true := c.isC
  simp only [h1, c.ty, c.sub T h]
  rfl
theorem r_isiNo (c : OwnC K C) (t : TyX K H x (.type T)) (m : T ∈ (["NoneType", "int", "bool", "str", "list", "tuple", "dict"] : List String)) (h : Q (.bl false) H) : rIsi K [x, .ref C] H Q :=
  ⟨x, .ref C, _, _, false, rfl, .own C, t, c.kit m, h⟩
end
/-! ### lists of ints are compared -/
section
variable {K : PySem.W.Frag} {H : Hp} {Q : VK} {a b : Addr} {ms ns : List Int}
theorem ints_all (ns : List Int) : DpAll K H (ns.map V.int) (ns.map PyData.int) := by
  induction ns with
  | nil => exact .nil
  | cons n r ih => exact .cons (.int n) ih
theorem Dp.ints (h : SqL K H a (ns.map V.int)) : Dp K H (.ref a) (.list (ns.map PyData.int)) := .lst h (ints_all ns)
theorem eqv_ints : PyData.eqv (.list (ms.map PyData.int)) (.list (ns.map PyData.int)) = decide (ms = ns) := by
  have h := PySem.W.eqvAll_map ms ns
  rw [PyData.eqv]
  exact h
theorem r_eqL (h1 : SqL K H a (ms.map V.int)) (h2 : SqL K H b (ns.map V.int)) (h : Q (.bl (decide (ms = ns))) H) : rEqD K (.ref a) (.ref b) H Q :=
  ⟨_, _, Dp.ints h1, Dp.ints h2, PySem.W.ke_shaped_ints ms, PySem.W.ke_shaped_ints ns, by rw [eqv_ints]; exact h⟩
theorem r_neL (h1 : SqL K H a (ms.map V.int)) (h2 : SqL K H b (ns.map V.int)) (h : Q (.bl (!decide (ms = ns))) H) : rNeD K (.ref a) (.ref b) H Q :=
  ⟨_, _, Dp.ints h1, Dp.ints h2, PySem.W.ke_shaped_ints ms, PySem.W.ke_shaped_ints ns, by rw [eqv_ints]; exact h⟩
end
/-! ### a comprehension: the list at D, by its turns -/
def Out (H1 : Hp) (D : Addr) (out : Nat → V) (i : Nat) (H' : Hp) : Prop := Same H1 H' ∧ H' D = some (.lst ((List.range i).map out))
theorem Out.start {H1 : Hp} {D : Addr} {out : Nat → V} (hD : H1 D = none) : Out H1 D out 0 (upd H1 D (.lst [])) := ⟨Same.up (Same.refl H1) hD, upd_same⟩
theorem Out.more {H1 H H4 : Hp} {D : Addr} {out : Nat → V} {i : Nat} (hD : H1 D = none) (o : Out H1 D out i H) (s : Same H H4) (hi : i < sizeLine) :
    ∃ acc, H4 D = some (.lst acc) ∧ acc.length < sizeLine ∧ Out H1 D out (i + 1) (upd H4 D (.lst (acc ++ [out i]))) := by
  refine ⟨_, s _ _ o.2, by simpa using hi, fun c u e => ?_, ?_⟩
  · have n : c ≠ D := fun z => by rw [z, hD] at e; cases e
    rw [upd_ne n]
    exact s _ _ (o.1 _ _ e)
  · rw [upd_same, List.range_succ, List.map_append]
    rfl
/-! ### x ⊕ y by the own method, the other one no number of ours -/
structure BinC (K : PySem.W.Frag) (C : Addr) (nm : String) (Ts : List String) : Prop where
  sf : PySem.W.selfFirst K C = true
  rc : ∃ rc, PySem.W.findIn K (.ref C) (PySem.dunderR nm) = some rc ∧ (rc = none ∨ ∃ g : Addr, rc = some (.ref g))
  oth : ∀ T : String, T ∈ Ts → ∃ fo ro : Option Value, PySem.W.findIn K (.type T) (PySem.dunder nm) = some fo ∧ PySem.W.findIn K (.type T) (PySem.dunderR nm) = some ro
theorem BinC.other {K : PySem.W.Frag} {C : Addr} {nm T : String} {Ts : List String} {H : Hp} {y : V} (b : BinC K C nm Ts) (O : OwnC K C) (t : TyX K H y (.type T)) (m : T ∈ Ts) (m2 : T ∈ (["NoneType", "int", "bool", "str", "list", "tuple", "dict"] : List String)) : OtherB K C H nm y := by
  obtain ⟨fo, ro, h1, h2⟩ := b.oth T m
  exact .inr ⟨T, fo, ro, t, h1, h2, O.sub T m2⟩
theorem Plain1.ty {K : PySem.W.Frag} {H : Hp} {y : V} (h : Plain1 y) : ∃ T : String, TyX K H y (.type T) ∧ T ∈ (["NoneType", "int", "bool", "str"] : List String) := by
  rcases h with ⟨i, rfl⟩ | ⟨b, rfl⟩ | ⟨z, rfl⟩ | rfl
  · exact ⟨"int", .base (.int i), by simp⟩
  · exact ⟨"bool", .base (.bl b), by simp⟩
  · exact ⟨"str", .base (.str z), by simp⟩
  · exact ⟨"NoneType", .base .non, by simp⟩
end Pk
set_option Elab.async false
set_option linter.all false
set_option maxRecDepth 100000
set_option maxHeartbeats 2000000
/-! What the top holds, read off the heap by a Hook: facts in place of a heap written out. -/
namespace Pk
open PySem L2 PySem.Spec PyProof.Rows PySem.W
/-! ### function objects -/
abbrev FnP : Type := Option (Str × Str × Arguments × FuncBody × Scope × Addr × List Str × Value × Addr)
def fnP (K : PySem.W.Frag) (p : Str × Option Str) : FnP := match K.lookup (He.fAd K p) with
  | some ⟨_, _, .func fd, _⟩ => some (fd.name, fd.qualname, fd.params, fd.body, fd.scope, fd.globals, fd.closure.map (·.1), fd.defaults, fd.builtins)
  | _ => none
structure FdP where
  at_ : Str × Option Str
  name : Str
  qual : Str
  st : Stmt
  cl : List Str
def FdP.val (d : FdP) : FnP := some (d.name, d.qual, defArgs d.st, .stmts (defBody d.st), defScope d.st, mainGlobals, d.cl, .none, builtinsNs)
def codeP (K : PySem.W.Frag) (p : Str × Option Str) (q : Str) : Bool := match K.lookup (He.fAd K p) with
  | some ⟨_, _, .func fd, _⟩ => PySem.W.codeIn K fd.code q
  | _ => false
theorem fnP_ok {K : PySem.W.Frag} {p : Str × Option Str} {nm q : Str} {st : Stmt} (e : fnP K p = FdP.val ⟨p, nm, q, st, []⟩) (c : codeP K p q = true) :
    ∃ oc od osl kV doc pm an cdv ct, K.lookup (He.fAd K p) = some ⟨oc, od, .func (PySem.W.fnOf nm q (defArgs st) (defBody st) (defScope st) .none kV doc pm an cdv ct), osl⟩ ∧ PySem.W.codeIn K cdv q = true := by
  unfold fnP FdP.val at e
  unfold codeP at c
  cases h : K.lookup (He.fAd K p) with
  | none =>
    rw [h] at c
    cases c
  | some o =>
    obtain ⟨oc, od, dt, osl⟩ := o
    rw [h] at c e
    cases dt with
    | func fd =>
      obtain ⟨n1, n2, n3, n4, n5, n6, n7, n8, n9, n10, n11, n12, n13, n14, n15⟩ := fd
      have e2 : (some (n1, n2, n3, n4, n5, n6, n7.map (·.1), n8, n15) : FnP) = some (nm, q, defArgs st, .stmts (defBody st), defScope st, mainGlobals, [], .none, builtinsNs) := e
      simp only [Option.some.injEq, Prod.mk.injEq, List.map_eq_nil_iff] at e2
      obtain ⟨h1, h2, h3, h4, h5, h6, h7, h8, h9⟩ := e2
      subst h1 h2 h3 h4 h5 h6 h7 h8 h9
      exact ⟨oc, od, osl, n9, n10, n11, n12, n13, n14, rfl, c⟩
    | _ => cases c
/-! ### the Hook -/
def asP (g : Addr → Option Obj) : Nat → List Addr
  | 0 => [mainGlobals, cStatics]
  | n + 1 => He.growD g (asP g n)
def obsP (fn : List FdP) (ex : PySem.W.Frag → Bool) (K : PySem.W.Frag) : Bool × List FnP := (ex K, fn.map fun d => fnP K d.at_)
def valP (fn : List FdP) : Bool × List FnP := (true, fn.map FdP.val)
def obsPG (n : Nat) (fn : List FdP) (ex : PySem.W.Frag → Bool) (g : Addr → Option Obj) : Bool × List FnP := obsP fn ex (He.frG g (asP g n))
def hookP (n : Nat) (fn : List FdP) (ex : PySem.W.Frag → Bool) : PySem.W.Hook where
  α := Bool × List FnP
  obs := fun s => obsPG n fn ex s.heap.get?
  val := fun _ => valP fn
  says := fun _ h => ∃ K : PySem.W.Frag, K.In h ∧ obsP fn ex K = valP fn
  of := fun _ _ e => ⟨_, He.frG_in, e⟩
  keeps := fun _ _ _ ⟨K, hK, c⟩ k => ⟨K, PySem.W.Frag.In.keeps hK k, c⟩
theorem obsPG_eq {n : Nat} {fn : List FdP} {ex : PySem.W.Frag → Bool} {g : Addr → Option Obj} {s : Shared} (h : ∀ a, g a = s.heap.get? a) : obsPG n fn ex g = (hookP n fn ex).obs s := by
  have e : g = s.heap.get? := funext h
  rw [e] <;> rfl
section
variable {fn : List FdP} {ex : PySem.W.Frag → Bool} {K : PySem.W.Frag}
theorem saysP_ex (c : obsP fn ex K = valP fn) : ex K = true := congrArg (fun z => z.1) c
theorem saysP_fn (c : obsP fn ex K = valP fn) (i : Nat) {d : FdP} (h : fn[i]? = some d) : fnP K d.at_ = d.val := by
  have e : fn.map (fun d => fnP K d.at_) = fn.map FdP.val := congrArg (fun z : Bool × List FnP => z.2) c
  have e2 : (fn.map fun d => fnP K d.at_)[i]? = (fn.map FdP.val)[i]? := by rw [e]
  rw [List.getElem?_map, List.getElem?_map, h] at e2
  exact Option.some.inj e2
end
/-! ### checks -/
def eqB (a b : Option (Option Value)) : Bool := decide (a = b)
def chG (x : Str) (K : PySem.W.Frag) : Bool := eqB (PySem.W.nsIn K mainGlobals x) (some (some (.ref (He.ga K x))))
def chD (x : Str) (K : PySem.W.Frag) : Bool := chG x K && (PySem.W.keepIn K (.ref (He.ga K x)) && codeP K (x, none) x)
def chM (C m q : Str) (K : PySem.W.Frag) : Bool := eqB (PySem.W.findIn K (.ref (He.ga K C)) m) (some (some (.ref (He.ma K (He.ga K C) m)))) && (PySem.W.isFn K (.ref (He.ma K (He.ga K C) m)) && (PySem.W.keepIn K (.ref (He.ma K (He.ga K C) m)) && codeP K (C, some m) q))
def kwV (K : PySem.W.Frag) (k z : Str) : Value → Bool
  | .ref D => (match PySem.W.nsIn K D k with
    | some (some (.str y _)) => decide (y = z)
    | _ => false)
  | _ => false
def kwP (x k z : Str) (K : PySem.W.Frag) : Bool := match K.lookup (He.ga K x) with
  | some ⟨_, _, .func fd, _⟩ => kwV K k z fd.kwdefaults
  | _ => false
def chI (x : Str) (i : Int) (K : PySem.W.Frag) : Bool := match PySem.W.nsIn K mainGlobals x with
  | some (some (.int j _)) => decide (j = i)
  | _ => false
def btNames : List Str := ["int", "str", "bool", "list", "tuple", "dict", "len", "range", "isinstance", "sum", "max", "min", "sorted", "set", "super", "enumerate", "zip", "abs"]
def chBt (K : PySem.W.Frag) : Bool := btNames.all fun x => eqB (PySem.W.nsIn K mainGlobals x) (some none)
def chO (C : Str) (K : PySem.W.Frag) : Bool := PySem.W.plainGet K (He.ga K C) Str.empty && (PySem.W.hasDictIn K (He.ga K C) && (PySem.W.plainOver K (He.ga K C) && (eqB (PySem.W.findIn K (.ref (He.ga K C)) "__setattr__") (some (some (.builtin "object.__setattr__"))) &&
  (eqB (PySem.W.findIn K (.ref (He.ga K C)) "__class__") (some (some (.builtin "object.__class__"))) && (eqB (PySem.W.specialIn K (.builtin "object.__class__") "__get__") (some (some (.builtin "getset_descriptor.__get__"))) && (decide (PySem.W.takesIn K (.builtin "object.__class__") = some true) &&
  (decide (PySem.W.mroIn K (He.ga K C) (.type "object") = some true) && (PySem.W.isClsIn K (He.ga K C) && (decide (PySem.W.typeIn K (.ref (He.ga K C)) = some (.type "type")) &&
  (["NoneType", "int", "bool", "str", "list", "tuple", "dict"] : List String).all fun T => decide (PySem.W.subIn K (.type T) (.ref (He.ga K C)) = some false))))))))))
def chF (C m : Str) (K : PySem.W.Frag) : Bool := PySem.W.fnIn K (He.ma K (He.ga K C) m)
def chB (C : Str) (nm : String) (Ts : List String) (K : PySem.W.Frag) : Bool := PySem.W.selfFirst K (He.ga K C) && ((match PySem.W.findIn K (.ref (He.ga K C)) (PySem.dunderR nm) with
  | some none => true
  | some (some (.ref _)) => true
  | _ => false) && Ts.all fun T => (PySem.W.findIn K (.type T) (PySem.dunder nm)).isSome && (PySem.W.findIn K (.type T) (PySem.dunderR nm)).isSome)
section
variable {K : PySem.W.Frag}
theorem bb {a b : Bool} (h : (a && b) = true) : a = true ∧ b = true := Bool.and_eq_true_iff.mp h
theorem eqB_ok {a b : Option (Option Value)} (h : eqB a b = true) : a = b := of_decide_eq_true h
theorem chG_ok {x : Str} (c : chG x K = true) : PySem.W.nsIn K mainGlobals x = some (some (.ref (He.ga K x))) := eqB_ok c
theorem hk_def {x : Str} {st : Stmt} (e : fnP K (x, none) = FdP.val ⟨(x, none), x, x, st, []⟩) (c : chD x K = true) : DefAt K x st := by
  obtain ⟨c1, c⟩ := bb c
  obtain ⟨c2, c3⟩ := bb c
  obtain ⟨oc, od, osl, kV, doc, pm, an, cdv, ct, l, cc⟩ := fnP_ok e c3
  exact DefAt.of (chG_ok c1) l cc c2
theorem hk_meth {C m q : Str} {st : Stmt} (e : fnP K (C, some m) = FdP.val ⟨(C, some m), m, q, st, []⟩) (c : chM C m q K = true) : MethAt K (He.ga K C) m q st := by
  obtain ⟨c1, c⟩ := bb c
  obtain ⟨c2, c⟩ := bb c
  obtain ⟨c3, c4⟩ := bb c
  obtain ⟨oc, od, osl, kV, doc, pm, an, cdv, ct, l, cc⟩ := fnP_ok e c4
  exact MethAt.of (eqB_ok c1) l cc c3 c2
theorem kwV_ok {k z : Str} {v : Value} (c : kwV K k z v = true) : ∃ D t, v = .ref D ∧ PySem.W.nsIn K D k = some (some (.str z t)) := by
  cases v with
  | ref D =>
    have w : (match PySem.W.nsIn K D k with
      | some (some (.str y _)) => decide (y = z)
      | _ => false) = true := c
    cases h : PySem.W.nsIn K D k with
    | none => rw [h] at w; cases w
    | some o =>
      cases o with
      | none => rw [h] at w; cases w
      | some v =>
        cases v with
        | str y t =>
          rw [h] at w
          have w : y = z := of_decide_eq_true w
          exact ⟨D, t, rfl, by rw [h, w]⟩
        | _ => rw [h] at w; cases w
  | _ => cases c
theorem hk_defK {x k z : Str} {st : Stmt} (e : fnP K (x, none) = FdP.val ⟨(x, none), x, x, st, []⟩) (c : chD x K = true) (w : kwP x k z K = true) : DefAtK K x k z st := by
  obtain ⟨c1, c⟩ := bb c
  obtain ⟨c2, c3⟩ := bb c
  obtain ⟨oc, od, osl, kV, doc, pm, an, cdv, ct, l, cc⟩ := fnP_ok e c3
  have l' : K.lookup (He.ga K x) = some ⟨oc, od, .func (PySem.W.fnOf x x (defArgs st) (defBody st) (defScope st) .none kV doc pm an cdv ct), osl⟩ := l
  unfold kwP at w
  rw [l'] at w
  obtain ⟨D, t, e, h⟩ := kwV_ok (v := kV) w
  subst e
  exact DefAtK.of (chG_ok c1) l' cc c2 h
theorem hk_int {x : Str} {i : Int} (c : chI x i K = true) : ∃ t, PySem.W.nsIn K mainGlobals x = some (some (.int i t)) := by
  unfold chI at c
  cases h : PySem.W.nsIn K mainGlobals x with
  | none => rw [h] at c; cases c
  | some o =>
    cases o with
    | none => rw [h] at c; cases c
    | some v =>
      cases v with
      | int j t =>
        rw [h] at c
        have c : j = i := of_decide_eq_true c
        exact ⟨t, by rw [c]⟩
      | _ => rw [h] at c; cases c
theorem hk_bt (c : chBt K = true) : BtIn K := fun x hx => eqB_ok (List.all_eq_true.mp c x hx)
theorem hk_own {C : Str} (c : chO C K = true) : OwnC K (He.ga K C) := by
  obtain ⟨c1, c⟩ := bb c
  obtain ⟨c2, c⟩ := bb c
  obtain ⟨c3, c⟩ := bb c
  obtain ⟨c4, c⟩ := bb c
  obtain ⟨c5, c⟩ := bb c
  obtain ⟨c6, c⟩ := bb c
  obtain ⟨c7, c⟩ := bb c
  obtain ⟨c8, c⟩ := bb c
  obtain ⟨c9, c⟩ := bb c
  obtain ⟨c10, c⟩ := bb c
  have s : ∀ T : String, T ∈ (["NoneType", "int", "bool", "str", "list", "tuple", "dict"] : List String) → PySem.W.subIn K (.type T) (.ref (He.ga K C)) = some false := fun T h => of_decide_eq_true (List.all_eq_true.mp c T h)
  exact ⟨⟨c1, c2, c3, eqB_ok c4⟩, eqB_ok c5, eqB_ok c6, of_decide_eq_true c7, of_decide_eq_true c8, c9, of_decide_eq_true c10, s⟩
theorem hk_fi {C m q : Str} (c : chM C m q K = true) (d : chF C m K = true) : ∀ f, PySem.W.findIn K (.ref (He.ga K C)) m = some (some (.ref f)) → PySem.W.fnIn K f = true := fun f e => by
  have c1 := eqB_ok (bb c).1
  rw [c1] at e
  have z := Value.ref.inj (Option.some.inj (Option.some.inj e))
  rw [← z]
  exact d
theorem hk_bin {C : Str} {nm : String} {Ts : List String} (c : chB C nm Ts K = true) : BinC K (He.ga K C) nm Ts := by
  obtain ⟨c1, c⟩ := bb c
  obtain ⟨c2, c3⟩ := bb c
  refine ⟨c1, ?_, fun T h => ?_⟩
  · cases e : PySem.W.findIn K (.ref (He.ga K C)) (PySem.dunderR nm) with
    | none => rw [e] at c2; cases c2
    | some o =>
      cases o with
      | none => exact ⟨_, rfl, .inl rfl⟩
      | some v =>
        cases v with
        | ref g => exact ⟨_, rfl, .inr ⟨g, rfl⟩⟩
        | _ => rw [e] at c2; cases c2
  · obtain ⟨a, b⟩ := bb (List.all_eq_true.mp c3 T h)
    obtain ⟨x, hx⟩ := Option.isSome_iff_exists.mp a
    obtain ⟨y, hy⟩ := Option.isSome_iff_exists.mp b
    exact ⟨x, y, hx, hy⟩
end
/-! ### error classes -/
def inA (K : PySem.W.Frag) (x : Str) : Addr := He.ma K (He.ga K x) "__init__"
def ccA (K : PySem.W.Frag) (x : Str) : Addr := match K.lookup (inA K x) with
  | some ⟨_, _, .func fd, _⟩ => (match fd.closure with
    | [(_, a)] => a
    | _ => 0)
  | _ => 0
def cdA (K : PySem.W.Frag) (x : Str) : Addr := match K.lookup (inA K x) with
  | some ⟨_, _, .func fd, _⟩ => (match fd.code with
    | .ref a => a
    | _ => 0)
  | _ => 0
def codeIsRef : Value → Bool
  | .ref _ => true
  | _ => false
def fnE (x : Str) (K : PySem.W.Frag) : Bool := match K.lookup (inA K x) with
  | some ⟨_, _, .func fd, _⟩ => codeIsRef fd.code
  | _ => false
def clsE (C : Addr) (K : PySem.W.Frag) : Bool := match K.lookup C with
  | some ⟨.type "type", _, .cls cd, sl⟩ => (match cd.mro, sl.toList with
    | .ref C' :: .ref _ :: bm, [_, _, _, _, some (.builtin n), _] => C' == C && (n == "ArithmeticError.__new__" && (!cd.hasDel && (cd.hasDict && decide (bm = arT))))
    | _, _ => false)
  | _ => false
def cellE (C cc : Addr) (K : PySem.W.Frag) : Bool := match K.lookup cc with
  | some ⟨_, _, .cell (some (.ref D)), _⟩ => decide (D = C)
  | _ => false
def fileE (fl : Str) (c : Addr) (K : PySem.W.Frag) : Bool := match K.lookup c with
  | some ⟨_, _, .fields vs, _⟩ => (match (vs[2]? : Option Value) with
    | some (Value.str f _) => fl == f
    | _ => false)
  | _ => false
def chE (fl x q : Str) (K : PySem.W.Frag) : Bool := chG x K && (clsE (He.ga K x) K && (eqB (PySem.W.findIn K (.ref (He.ga K x)) "__setattr__") (some (some (.builtin "object.__setattr__"))) && (decide (PySem.W.subIn K (.ref (He.ga K x)) (.type "BaseException") = some true) && (decide (PySem.W.subIn K (.ref (He.ga K x)) (.type "ArithmeticError") = some true) &&
  (decide (PySem.W.typeIn K (.ref (He.ga K x)) = some (.type "type")) && (PySem.W.keepIn K (.ref (He.ga K x)) && (eqB (PySem.W.findIn K (.ref (He.ga K x)) "__init__") (some (some (.ref (inA K x)))) && (decide (PySem.W.typeIn K (.ref (inA K x)) = some (.type "function")) && (fnE x K && (PySem.W.codeIn K (.ref (cdA K x)) q &&
  (cellE (He.ga K x) (ccA K x) K && (fileE fl (cdA K x) K && (eqB (PySem.W.nsIn K cStatics "thirdparty.any") (some none) && (eqB (PySem.W.ks_superIn K (He.ga K x) (He.ga K x) "__init__") (some (some (.builtin "ArithmeticError.__init__"))) && (decide (PySem.W.mroIn K (He.ga K x) (.ref (He.ga K x)) = some true) &&
  (eqB (PySem.W.findIn K (.ref (He.ga K x)) "__getattribute__") (some (some (.builtin "BaseException.__getattribute__"))) && (eqB (PySem.W.findIn K (.ref (He.ga K x)) "__getattr__") (some none) && (PySem.W.hasDictIn K (He.ga K x) && (PySem.W.isClsIn K (He.ga K x) && decide (PySem.W.subIn K (.ref (He.ga K x)) (.ref (He.ga K x)) = some true))))))))))))))))))))
section
variable {K : PySem.W.Frag}
theorem clsE_ok {C : Addr} (c : clsE C K = true) : ∃ pe nm qn N bs sn sub ab col dd k0 k1 k2 k3 k5, K.lookup C = some (excClassObj nm qn C N bs (.ref pe :: arT) true sn sub ab col dd k0 k1 k2 k3 k5 "ArithmeticError.__new__") := by
  unfold clsE at c
  split at c
  · rename_i dd cd sl ho
    split at c
    · rename_i C' pe bm k0 k1 k2 k3 n k5 hm hs
      simp only [Bool.and_eq_true, beq_iff_eq, Bool.not_eq_true', decide_eq_true_eq] at c
      obtain ⟨rfl, rfl, hdel, hdict, rfl⟩ := c
      obtain ⟨nm, bs, mro, ns, qn, hd, sn, sub, ab, col, del⟩ := cd
      dsimp only at hm hdel hdict
      subst hm hdel hdict
      have hsl : sl = #[k0, k1, k2, k3, some (.builtin "ArithmeticError.__new__"), k5] := by
        obtain ⟨l⟩ := sl
        simp only at hs
        rw [hs]
      subst hsl
      exact ⟨pe, nm, qn, ns, bs, sn, sub, ab, col, dd, k0, k1, k2, k3, k5, ho⟩
    · cases c
  · cases c
theorem hk_err {P : Program} {x q : Str} {st : Stmt} (e : fnP K (x, some "__init__") = FdP.val ⟨(x, some "__init__"), "__init__", q, st, ["__class__"]⟩) (c : chE P.main.file x q K = true) : ErrAt1 P K x q st (He.ga K x) (inA K x) (ccA K x) (cdA K x) := by
  obtain ⟨a1, c⟩ := bb c
  obtain ⟨a2, c⟩ := bb c
  obtain ⟨a3, c⟩ := bb c
  obtain ⟨a4, c⟩ := bb c
  obtain ⟨a5, c⟩ := bb c
  obtain ⟨a6, c⟩ := bb c
  obtain ⟨a7, c⟩ := bb c
  obtain ⟨a8, c⟩ := bb c
  obtain ⟨a9, c⟩ := bb c
  obtain ⟨b0, c⟩ := bb c
  obtain ⟨b1, c⟩ := bb c
  obtain ⟨b2, c⟩ := bb c
  obtain ⟨b3, c⟩ := bb c
  obtain ⟨b4, c⟩ := bb c
  obtain ⟨b5, c⟩ := bb c
  obtain ⟨b6, c⟩ := bb c
  obtain ⟨b7, c⟩ := bb c
  obtain ⟨b8, c⟩ := bb c
  obtain ⟨b9, c⟩ := bb c
  obtain ⟨d0, d1⟩ := bb c
  refine ⟨chG_ok a1, clsE_ok a2, eqB_ok a3, of_decide_eq_true a4, of_decide_eq_true a5, of_decide_eq_true a6, a7, eqB_ok a8, of_decide_eq_true a9, ?_, b1, ?_, ?_, eqB_ok b4, eqB_ok b5, of_decide_eq_true b6, eqB_ok b7, eqB_ok b8, b9, d0, of_decide_eq_true d1⟩
  · have e : fnP K (x, some "__init__") = FdP.val ⟨(x, some "__init__"), "__init__", q, st, ["__class__"]⟩ := e
    unfold fnP FdP.val at e
    unfold fnE at b0
    have ei : He.fAd K (x, some "__init__") = inA K x := rfl
    rw [ei] at e
    cases h : K.lookup (inA K x) with
    | none => rw [h] at b0; cases b0
    | some o =>
      obtain ⟨oc, od, dt, osl⟩ := o
      rw [h] at e b0
      cases dt with
      | func fd =>
        obtain ⟨n1, n2, n3, n4, n5, n6, n7, n8, n9, n10, n11, n12, n13, n14, n15⟩ := fd
        have e2 : (some (n1, n2, n3, n4, n5, n6, n7.map (·.1), n8, n15) : FnP) = some (("__init__" : Str), q, defArgs st, .stmts (defBody st), defScope st, mainGlobals, (["__class__"] : List Str), .none, builtinsNs) := e
        simp only [Option.some.injEq, Prod.mk.injEq] at e2
        obtain ⟨h1, h2, h3, h4, h5, h6, h7, h8, h9⟩ := e2
        subst h1 h2 h3 h4 h5 h6 h8 h9
        have b0 : codeIsRef n13 = true := b0
        cases n13 with
        | ref c0 =>
          match n7, h7 with
          | [(y, cc0)], h7 =>
            have h7 : y = "__class__" := by simpa using h7
            subst h7
            have q1 : ccA K x = cc0 := by unfold ccA; rw [h]
            have q2 : cdA K x = c0 := by unfold cdA; rw [h]
            rw [q1, q2]
            exact ⟨oc, od, n9, n10, n11, n12, n14, osl, rfl⟩
        | _ => cases b0
      | _ => cases b0
  · unfold cellE at b2
    split at b2
    · rename_i a b D d h
      have : D = He.ga K x := of_decide_eq_true b2
      rw [this] at h
      exact ⟨a, b, d, h⟩
    · cases b2
  · unfold fileE at b3
    split at b3
    · rename_i a b vs d h
      split at b3
      · rename_i f t hv
        exact ⟨a, b, vs, d, f, t, h, hv, b3⟩
      · cases b3
    · cases b3
end
/-! ### a run's equation from its parts -/
section
variable {α β γ : Type} {o : Option α}
theorem map_pair {f : α → β} {g : α → γ} {a : β} {b : γ} (h1 : o.map f = some a) (h2 : o.map g = some b) : o.map (fun s => (f s, g s)) = some (a, b) := by
  cases o with
  | none => cases h1
  | some s =>
    have h1 : some (f s) = some a := h1
    have h2 : some (g s) = some b := h2
    show some (f s, g s) = some (a, b)
    rw [Option.some.inj h1, Option.some.inj h2]
theorem map_and {f g : α → Bool} (h1 : o.map f = some true) (h2 : o.map g = some true) : o.map (fun s => f s && g s) = some true := by
  cases o with
  | none => cases h1
  | some s =>
    have h1 : some (f s) = some true := h1
    have h2 : some (g s) = some true := h2
    show some (f s && g s) = some true
    rw [Option.some.inj h1, Option.some.inj h2]
    rfl
theorem map_app {L1 L2 : List β} {F : α → β → γ} {v : β → γ} (h1 : o.map (fun s => L1.map (F s)) = some (L1.map v)) (h2 : o.map (fun s => L2.map (F s)) = some (L2.map v)) : o.map (fun s => (L1 ++ L2).map (F s)) = some ((L1 ++ L2).map v) := by
  cases o with
  | none => cases h1
  | some s =>
    have h1 : some (L1.map (F s)) = some (L1.map v) := h1
    have h2 : some (L2.map (F s)) = some (L2.map v) := h2
    show some ((L1 ++ L2).map (F s)) = some ((L1 ++ L2).map v)
    rw [List.map_append, List.map_append, Option.some.inj h1, Option.some.inj h2]
end
end Pk
set_option Elab.async false
set_option linter.all false
set_option maxRecDepth 100000
set_option maxHeartbeats 1000000
namespace Pk
open PySem L2
def top (i : Nat) : Stmt := PySem.Challenge.pw_pairorder_k64_whole_minimal_lots.main.body.getD i (.Pass ⟨0, 0, 0, 0⟩)
end Pk
set_option Elab.async false
set_option linter.all false
set_option maxRecDepth 100000
set_option maxHeartbeats 0
namespace Pk
open PySem L2 PySem.Spec PyProof.Rows PySem.W PySem.Calls
/-! ### the head: what is looked at -/
def hkCls (i j : Nat) : Stmt := match top i with
  | .ClassDef (body := b) .. => b.getD j (.Pass ⟨0, 0, 0, 0⟩)
  | _ => .Pass ⟨0, 0, 0, 0⟩
def hkFn0 : List FdP := [⟨("own_copy", none), "own_copy", "own_copy", (top 2), []⟩, ⟨("InvalidTable", some "__init__"), "__init__", "InvalidTable.__init__", (hkCls 4 0), ["__class__"]⟩, ⟨("InvalidBound", some "__init__"), "__init__", "InvalidBound.__init__", (hkCls 6 0), ["__class__"]⟩, ⟨("LimitExceeded", some "__init__"), "__init__", "LimitExceeded.__init__", (hkCls 7 0), ["__class__"]⟩, ⟨("is_kind", none), "is_kind", "is_kind", (top 10), []⟩, ⟨("check_kind", none), "check_kind", "check_kind", (top 11), []⟩, ⟨("is_integer", none), "is_integer", "is_integer", (top 14), []⟩, ⟨("is_between", none), "is_between", "is_between", (top 15), []⟩, ⟨("are_lines", none), "are_lines", "are_lines", (top 17), []⟩, ⟨("is_price", none), "is_price", "is_price", (top 44), []⟩, ⟨("is_row", none), "is_row", "is_row", (top 45), []⟩, ⟨("check_rows", none), "check_rows", "check_rows", (top 46), []⟩, ⟨("Table", some "__init__"), "__init__", "Table.__init__", (hkCls 49 0), []⟩, ⟨("Table", some "pairs"), "pairs", "Table.pairs", (hkCls 49 11), []⟩, ⟨("Table", some "stocks"), "stocks", "Table.stocks", (hkCls 49 12), []⟩, ⟨("Table", some "wishes"), "wishes", "Table.wishes", (hkCls 49 13), []⟩, ⟨("Table", some "rows"), "rows", "Table.rows", (hkCls 49 14), []⟩, ⟨("Table", some "without"), "without", "Table.without", (hkCls 49 17), []⟩, ⟨("has_columns", none), "has_columns", "has_columns", (top 26), []⟩, ⟨("has_rows", none), "has_rows", "has_rows", (top 27), []⟩, ⟨("stocks_behind", none), "stocks_behind", "stocks_behind", (top 21), []⟩, ⟨("wishes_behind", none), "wishes_behind", "wishes_behind", (top 22), []⟩, ⟨("is_cross", none), "is_cross", "is_cross", (top 20), []⟩, ⟨("marks", none), "marks", "marks", (top 19), []⟩, ⟨("crosses", none), "crosses", "crosses", (top 23), []⟩, ⟨("columns", none), "columns", "columns", (top 24), []⟩, ⟨("lines", none), "lines", "lines", (top 25), []⟩, ⟨("faults_of", none), "faults_of", "faults_of", (top 28), []⟩, ⟨("least_free", none), "least_free", "least_free", (top 30), []⟩, ⟨("grown", none), "grown", "grown", (top 31), []⟩, ⟨("stuck", none), "stuck", "stuck", (top 32), []⟩, ⟨("has_order", none), "has_order", "has_order", (top 33), []⟩, ⟨("lines_of", none), "lines_of", "lines_of", (top 36), []⟩, ⟨("lots_of", none), "lots_of", "lots_of", (top 37), []⟩, ⟨("numbers_in", none), "numbers_in", "numbers_in", (top 38), []⟩, ⟨("leaves_some", none), "leaves_some", "leaves_some", (top 39), []⟩, ⟨("is_enough", none), "is_enough", "is_enough", (top 40), []⟩, ⟨("contains_one", none), "contains_one", "contains_one", (top 41), []⟩, ⟨("leave_outs", none), "leave_outs", "leave_outs", (top 42), []⟩, ⟨("_law_cell", none), "_law_cell", "_law_cell", (top 51), []⟩, ⟨("_law_mixed", none), "_law_mixed", "_law_mixed", (top 52), []⟩, ⟨("_law_draws", none), "_law_draws", "_law_draws", (top 53), []⟩, ⟨("_law_grid", none), "_law_grid", "_law_grid", (top 54), []⟩, ⟨("_law_spots", none), "_law_spots", "_law_spots", (top 55), []⟩, ⟨("_law_copy", none), "_law_copy", "_law_copy", (top 56), []⟩, ⟨("_law_cross", none), "_law_cross", "_law_cross", (top 57), []⟩, ⟨("_law_needs_of", none), "_law_needs_of", "_law_needs_of", (top 58), []⟩, ⟨("_law_needs", none), "_law_needs", "_law_needs", (top 59), []⟩]
def hkFn1 : List FdP := [⟨("_law_met", none), "_law_met", "_law_met", (top 60), []⟩, ⟨("_law_open", none), "_law_open", "_law_open", (top 61), []⟩, ⟨("_law_walk", none), "_law_walk", "_law_walk", (top 63), []⟩, ⟨("_law_rest", none), "_law_rest", "_law_rest", (top 64), []⟩, ⟨("_law_is_enough", none), "_law_is_enough", "_law_is_enough", (top 65), []⟩, ⟨("_law_contains", none), "_law_contains", "_law_contains", (top 66), []⟩, ⟨("_law_is_lot", none), "_law_is_lot", "_law_is_lot", (top 67), []⟩, ⟨("_law_is_sorted", none), "_law_is_sorted", "_law_is_sorted", (top 68), []⟩, ⟨("law", none), "law", "law", (top 69), []⟩]
def hkFn : List FdP := hkFn0 ++ (hkFn1)
def hkEx0 (K : PySem.W.Frag) : Bool := chBt K && (chD "own_copy" K && (chE PySem.Challenge.rw_pairorder_k64_whole_minimal_lots.prog.main.file "InvalidTable" "InvalidTable.__init__" K && (eqB (PySem.W.findIn K (.ref (He.ga K "InvalidTable")) "at") (some none) && (chE PySem.Challenge.rw_pairorder_k64_whole_minimal_lots.prog.main.file "InvalidBound" "InvalidBound.__init__" K && (eqB (PySem.W.findIn K (.ref (He.ga K "InvalidBound")) "name") (some none) && (chE PySem.Challenge.rw_pairorder_k64_whole_minimal_lots.prog.main.file "LimitExceeded" "LimitExceeded.__init__" K && (eqB (PySem.W.findIn K (.ref (He.ga K "LimitExceeded")) "limit") (some none) && (chG "KINDS" K && (He.tupB K "KINDS" [.str "even", .str "stock", .str "wish", .str "any"] && (chD "is_kind" K && (chD "check_kind" K && (chD "is_integer" K && (chD "is_between" K && (chI "MOST_LINES" 8 K && (chI "MOST_LOT_LINES" 8 K && (true))))))))))))))))
def hkEx1 (K : PySem.W.Frag) : Bool := eqB (PySem.W.nsIn K mainGlobals "all") (some none) && (eqB (PySem.W.nsIn K mainGlobals "any") (some none) && (chD "are_lines" K && (chD "is_price" K && (chD "is_row" K && (chD "check_rows" K && (chG "Table" K && (chM "Table" "__init__" "Table.__init__" K && (chM "Table" "pairs" "Table.pairs" K && (chM "Table" "stocks" "Table.stocks" K && (chM "Table" "wishes" "Table.wishes" K && (chM "Table" "rows" "Table.rows" K && (chM "Table" "without" "Table.without" K && (chO "Table" K && (PySem.W.makesIn K (He.ga K "Table") && (PySem.W.keepIn K (.ref (He.ga K "Table")) && (true))))))))))))))))
def hkEx2 (K : PySem.W.Frag) : Bool := eqB (PySem.W.findIn K (.ref (He.ga K "Table")) "entries") (some none) && (eqB (PySem.W.findIn K (.ref (He.ga K "Table")) "used") (some none) && (chD "has_columns" K && (chD "has_rows" K && (chD "stocks_behind" K && (chD "wishes_behind" K && (chD "is_cross" K && (chD "marks" K && (chD "crosses" K && (chD "columns" K && (chD "lines" K && (chD "faults_of" K && (chD "least_free" K && (chD "grown" K && (chD "stuck" K && (kwP "stuck" "kind" "even" K && (true))))))))))))))))
def hkEx3 (K : PySem.W.Frag) : Bool := chD "has_order" K && (kwP "has_order" "kind" "even" K && (chD "lines_of" K && (chD "lots_of" K && (chD "numbers_in" K && (chD "leaves_some" K && (chD "is_enough" K && (chD "contains_one" K && (chD "leave_outs" K && (kwP "leave_outs" "kind" "even" K && (chD "_law_cell" K && (chD "_law_mixed" K && (chD "_law_draws" K && (chD "_law_grid" K && (chD "_law_spots" K && (chD "_law_copy" K && (true))))))))))))))))
def hkEx4 (K : PySem.W.Frag) : Bool := chD "_law_cross" K && (chD "_law_needs_of" K && (chD "_law_needs" K && (chD "_law_met" K && (chD "_law_open" K && (chD "_law_walk" K && (chD "_law_rest" K && (chD "_law_is_enough" K && (chD "_law_contains" K && (chD "_law_is_lot" K && (chD "_law_is_sorted" K && (chD "law" K && (true))))))))))))
def hkEx (K : PySem.W.Frag) : Bool := hkEx0 K && (hkEx1 K && (hkEx2 K && (hkEx3 K && (hkEx4 K))))
def hkNames0 : List Str := ["_wall", "__name__", "own_copy", "PairError", "InvalidTable", "InvalidPair", "InvalidBound", "LimitExceeded", "KINDS", "is_kind"]
def hkNames1 : List Str := ["check_kind", "MOST_LINES", "is_integer", "is_between", "is_two", "are_lines", "marks", "is_cross", "stocks_behind", "wishes_behind"]
def hkNames2 : List Str := ["crosses", "columns", "lines", "has_columns", "has_rows", "faults_of", "least_free", "grown", "stuck", "has_order"]
def hkNames3 : List Str := ["MOST_LOT_LINES", "lines_of", "lots_of", "numbers_in", "leaves_some", "is_enough", "contains_one", "leave_outs", "is_price", "is_row"]
def hkNames4 : List Str := ["check_rows", "price_sum", "price_times", "Table", "_law_cell", "_law_mixed", "_law_draws", "_law_grid", "_law_spots", "_law_copy"]
def hkNames5 : List Str := ["_law_cross", "_law_needs_of", "_law_needs", "_law_met", "_law_open", "_law_is_right", "_law_walk", "_law_rest", "_law_is_enough", "_law_contains"]
def hkNames6 : List Str := ["_law_is_lot", "_law_is_sorted"]
def hkNames : List Str := hkNames0 ++ (hkNames1 ++ (hkNames2 ++ (hkNames3 ++ (hkNames4 ++ (hkNames5 ++ (hkNames6))))))
abbrev hkR : PySem.W.OpenRow := PySem.W.OpenLaw.row PySem.Challenge.rw_pairorder_k64_whole_minimal_lots
abbrev hkH : PySem.W.Hook := hookP 4 hkFn hkEx
def hkOb (s : PySem.W.SharedT) : Bool × List FnP := obsPG 4 hkFn hkEx (HandSHeadRun.getT s)
theorem hkOb_eq (s : PySem.W.SharedT) : hkOb s = hkH.obs s.abs := obsPG_eq (HandSHeadRun.getT_eq s)
noncomputable abbrev hkS (w : World) (os : OsState) : Option PySem.W.SharedT := HandSHeadRun.endF (HandSHeadRun.stepQ (HandSHeadRun.denQ HandSHeadRun.tabQ) hkR.prog w) 12000 hkR.prog w os
def hkK (s : PySem.W.SharedT) : PySem.W.Frag := He.frG (HandSHeadRun.getT s) (asP (HandSHeadRun.getT s) 4)
theorem hkRunA (w : World) (os : OsState) : (hkS w os).map (fun s => (HandSHeadRun.looksF hkR.prog (boot_heap w.params) s.abs, HandSHeadRun.seenQ (PySem.W.view hkR.prog [69]) hkNames (importedModules hkR.prog.main.body) (fun s => PySem.W.xlAt (PySem.W.view hkR.prog [69]) [] s && PySem.W.recOk hkR.toRowW.records s) s.abs)) = some (true, PySem.W.openGood (PySem.W.view hkR.prog [69]) hkNames) := by kernel_rfl
theorem hkE0 (w : World) (os : OsState) : (hkS w os).map (fun s => hkEx0 (hkK s)) = some true := by kernel_rfl
theorem hkE1 (w : World) (os : OsState) : (hkS w os).map (fun s => hkEx1 (hkK s)) = some true := by kernel_rfl
theorem hkE2 (w : World) (os : OsState) : (hkS w os).map (fun s => hkEx2 (hkK s)) = some true := by kernel_rfl
theorem hkE3 (w : World) (os : OsState) : (hkS w os).map (fun s => hkEx3 (hkK s)) = some true := by kernel_rfl
theorem hkE4 (w : World) (os : OsState) : (hkS w os).map (fun s => hkEx4 (hkK s)) = some true := by kernel_rfl
theorem hkF0 (w : World) (os : OsState) : (hkS w os).map (fun s => hkFn0.map fun d => fnP (hkK s) d.at_) = some (hkFn0.map FdP.val) := by kernel_rfl
theorem hkF1 (w : World) (os : OsState) : (hkS w os).map (fun s => hkFn1.map fun d => fnP (hkK s) d.at_) = some (hkFn1.map FdP.val) := by kernel_rfl
theorem hkRun (w : World) : HandSHeadRun.RunEq hkR (PySem.W.view hkR.prog [69]) hkH hkOb 12000 hkNames w := by
  intro os
  have a := hkRunA w os
  have e : (hkS w os).map (fun s => hkEx (hkK s)) = some true := map_and (hkE0 w os) (map_and (hkE1 w os) (map_and (hkE2 w os) (map_and (hkE3 w os) (hkE4 w os))))
  have f : (hkS w os).map (fun s => hkFn.map fun d => fnP (hkK s) d.at_) = some (hkFn.map FdP.val) := map_app (hkF0 w os) (hkF1 w os)
  have o : (hkS w os).map hkOb = some (valP hkFn) := map_pair e f
  cases q : hkS w os with
  | none => rw [q] at a; cases a
  | some s =>
    rw [q] at a o
    have a := Option.some.inj (show some (_, _) = some (_, _) from a)
    have o : hkOb s = valP hkFn := Option.some.inj o
    show (hkS w os).map _ = _
    rw [q]
    show some (_, _, hkOb s) = some (true, _, valP hkFn)
    rw [o, (Prod.mk.inj a).1, (Prod.mk.inj a).2]
end Pk
set_option Elab.async false
set_option linter.all false
set_option maxRecDepth 100000
set_option maxHeartbeats 1000000
namespace Pk
open PySem L2 PySem.Spec PyProof.Rows
/-! ### <, <=, >, >= and in, over data -/
section
variable {X : Cx}
/-- two data that may be compared, of no great depth -/
def Cmpr (K : PySem.W.Frag) (H : Hp) (x y : V) (d e : PyData) : Prop := Dp K H x d ∧ Dp K H y e ∧ PySem.W.alike d e = true ∧ d ≠ .none ∧ d.depth ≤ 32
def rCmpD (K : PySem.W.Frag) (g : PyData → PyData → Bool) : R2 := fun x y H Q => ∃ d e, Cmpr K H x y d e ∧ Q (.bl (g d e)) H
theorem op_ltD (hu : X.A.units + 64 < cLine) : OpR X (compareOp .Lt) (rCmpD X.K fun d e => PySem.W.dataLt d e) := by
  intro pins s σ H x y v u Q I rx ry h
  obtain ⟨d, e, ⟨hd, he, al, nn, dl⟩, q⟩ := h
  obtain ⟨as, r1⟩ := Dp.reads I d x v hd rx
  obtain ⟨bs, r2⟩ := Dp.reads I e y u he ry
  exact PySem.W.lt_data r1 r2 al nn (by omega) ⟨.bl _, H, I, rfl, q⟩
theorem op_gtD (hu : X.A.units + 64 < cLine) : OpR X (compareOp .Gt) (rCmpD X.K fun d e => PySem.W.dataLt e d) := by
  intro pins s σ H x y v u Q I rx ry h
  obtain ⟨d, e, ⟨hd, he, al, nn, dl⟩, q⟩ := h
  obtain ⟨as, r1⟩ := Dp.reads I d x v hd rx
  obtain ⟨bs, r2⟩ := Dp.reads I e y u he ry
  exact PySem.W.gt_data r1 r2 al nn (by omega) ⟨.bl _, H, I, rfl, q⟩
theorem op_leD (hu : X.A.units + 64 < cLine) : OpR X (compareOp .LtE) (rCmpD X.K fun d e => !PySem.W.dataLt e d) := by
  intro pins s σ H x y v u Q I rx ry h
  obtain ⟨d, e, ⟨hd, he, al, nn, dl⟩, q⟩ := h
  obtain ⟨as, r1⟩ := Dp.reads I d x v hd rx
  obtain ⟨bs, r2⟩ := Dp.reads I e y u he ry
  exact PySem.W.le_data r1 r2 al nn (by omega) ⟨.bl _, H, I, rfl, q⟩
theorem op_geD (hu : X.A.units + 64 < cLine) : OpR X (compareOp .GtE) (rCmpD X.K fun d e => !PySem.W.dataLt d e) := by
  intro pins s σ H x y v u Q I rx ry h
  obtain ⟨d, e, ⟨hd, he, al, nn, dl⟩, q⟩ := h
  obtain ⟨as, r1⟩ := Dp.reads I d x v hd rx
  obtain ⟨bs, r2⟩ := Dp.reads I e y u he ry
  exact PySem.W.ge_data r1 r2 al nn (by omega) ⟨.bl _, H, I, rfl, q⟩
end
/-! ### lists of pairs of ints -/
abbrev Pr := Int × Int
def prD (z : Pr) : PyData := .tuple [.int z.1, .int z.2]
def prsD (zs : List Pr) : PyData := .list (zs.map prD)
/-- one pair goes ahead of another -/
def prLt (x y : Pr) : Bool := decide (x.1 < y.1) || (decide (x.1 = y.1) && decide (x.2 < y.2))
def lexB : List Pr → List Pr → Bool
  | [], [] => false
  | [], _ :: _ => true
  | _ :: _, [] => false
  | x :: xs, y :: ys => if x = y then lexB xs ys else prLt x y
theorem pr_alike (x y : Pr) : PySem.W.alike (prD x) (prD y) = true := rfl
theorem prs_alike : ∀ xs ys : List Pr, PySem.W.alikeAll (xs.map prD) (ys.map prD) = true
  | [], _ => by cases ‹List Pr› <;> rfl
  | _ :: _, [] => rfl
  | x :: xs, y :: ys => by
    show (PySem.W.alike (prD x) (prD y) && PySem.W.alikeAll (xs.map prD) (ys.map prD)) = true
    rw [pr_alike, prs_alike xs ys]
    rfl
theorem pr_eqv (x y : Pr) : PyData.eqv (prD x) (prD y) = decide (x = y) := PySem.W.Datum.eqv (α := Int × Int) x y
theorem prs_eqv (xs ys : List Pr) : PyData.eqv (prsD xs) (prsD ys) = decide (xs = ys) := PySem.W.Datum.eqv (α := List (Int × Int)) xs ys
theorem pr_lt (x y : Pr) (n : x ≠ y) : PySem.W.dataLt (prD x) (prD y) = prLt x y := by
  obtain ⟨a, b⟩ := x
  obtain ⟨c, d⟩ := y
  show PySem.W.dataLt (.tuple [.int a, .int b]) (.tuple [.int c, .int d]) = _
  rw [PySem.W.dataLt_tuple]
  by_cases e : a = c
  · subst e
    rw [PySem.W.dataLt_all_yes rfl (by simp [PyData.eqv])]
    have e2 : b ≠ d := fun z => n (by rw [z])
    rw [PySem.W.dataLt_all_no rfl (by simp [PyData.eqv, e2]), PySem.W.dataLt_int]
    simp [prLt]
  · rw [PySem.W.dataLt_all_no rfl (by simp [PyData.eqv, e]), PySem.W.dataLt_int]
    simp [prLt, e]
theorem prs_lt : ∀ xs ys : List Pr, PyProof.Rows.lexLt PyProof.Rows.itemOrd (PySem.W.keyToksAll (xs.map prD)) (PySem.W.keyToksAll (ys.map prD)) = lexB xs ys
  | [], [] => by decide +kernel
  | [], y :: ys => (PyProof.Rows.lex_diff (O := PyProof.Rows.itemOrd) (x := .inl 0) (y := .inl 1) (by decide)).trans rfl
  | x :: xs, [] => (PyProof.Rows.lex_diff (O := PyProof.Rows.itemOrd) (x := .inl 1) (y := .inl 0) (by decide)).trans rfl
  | x :: xs, y :: ys => by
    rw [List.map_cons, List.map_cons, lexB]
    by_cases e : x = y
    · rw [if_pos e, PySem.W.dataLt_all_yes (pr_alike x y) (by rw [pr_eqv, decide_eq_true e]), prs_lt xs ys]
    · rw [if_neg e, PySem.W.dataLt_all_no (pr_alike x y) (by rw [pr_eqv, decide_eq_false e]), pr_lt x y e]
theorem prsLt (xs ys : List Pr) : PySem.W.dataLt (prsD xs) (prsD ys) = lexB xs ys := by
  rw [prsD, prsD, PySem.W.dataLt_list]
  exact prs_lt xs ys
end Pk
set_option Elab.async false
set_option linter.all false
set_option maxRecDepth 100000
set_option maxHeartbeats 1000000
namespace Pk
open PySem L2 PySem.Spec PyProof.Rows
theorem pr_depth (z : Pr) : (prD z).depth ≤ 1 := by
  obtain ⟨a, b⟩ := z
  simp [prD, PyData.depth, PyData.depthAll]
theorem prs_depthAll : ∀ zs : List Pr, PyData.depthAll (zs.map prD) ≤ 1
  | [] => by simp [PyData.depthAll]
  | z :: zs => by
    have h1 := prs_depthAll zs
    have h2 := pr_depth z
    simp only [List.map_cons, PyData.depthAll]
    omega
theorem prs_depth (zs : List Pr) : (prsD zs).depth ≤ 2 := by
  have h := prs_depthAll zs
  simp only [prsD, PyData.depth]
  omega
theorem pr_lay (z : Pr) : (prD z).canLay0 = true := by
  obtain ⟨a, b⟩ := z
  simp [prD, PyData.canLay0, PyData.canLayAll0]
theorem prs_layAll : ∀ zs : List Pr, PyData.canLayAll0 (zs.map prD) = true
  | [] => by simp [PyData.canLayAll0]
  | z :: zs => by simp [PyData.canLayAll0, prs_layAll zs, pr_lay z]
theorem pr_shaped (z : Pr) : SeqAt.shaped (prD z) = true := by
  have h := pr_depth z
  simp only [SeqAt.shaped, pr_lay z, Bool.true_and]
  exact decide_eq_true (by omega)
theorem prs_shaped (zs : List Pr) : SeqAt.shaped (prsD zs) = true := by
  have h := prs_depth zs
  have e : (prsD zs).canLay0 = true := by simp only [prsD, PyData.canLay0]; exact prs_layAll zs
  simp only [SeqAt.shaped, e, Bool.true_and]
  exact decide_eq_true (by omega)
theorem pr_plain (z : Pr) : (prD z).plain = true := PySem.W.Datum.plain (α := Int × Int) z
theorem prs_plainAll (zs : List Pr) : PyData.plainAll (zs.map prD) = true := PySem.W.plainAll_map (α := Int × Int) zs
/-- x in a list of pairs -/
def rInP (K : PySem.W.Frag) : R2 := fun x y H Q => ∃ z zs, Dp K H x (prD z) ∧ Dp K H y (prsD zs) ∧ Q (.bl (decide (z ∈ zs))) H
theorem op_inP {X : Cx} (hu : X.A.units + 64 < cLine) : OpR X (compareOp .In) (rInP X.K) := by
  intro pins s σ H x y v u Q I rx ry h
  obtain ⟨z, zs, hd, he, q⟩ := h
  obtain ⟨as, r1⟩ := Dp.reads I _ x v hd rx
  obtain ⟨bs, r2⟩ := Dp.reads I _ y u he ry
  have h1 := prs_depthAll zs
  refine SeqAt.in_list_data r2 r1 (prs_plainAll zs) (pr_plain z) (by omega) ⟨.bl _, H, I, rfl, ?_⟩
  have e := PySem.W.any_datum (α := Int × Int) zs z
  rw [show ((zs.map prD).any fun y => PyData.eqv y (prD z)) = decide (z ∈ zs) from e.trans (decide_eq_decide.mpr Iff.rfl)]
  exact q
/-! ### pairs on the heap -/
/-- the pair z, none of the pool's -/
def PrAt (p : Addr) (H : Hp) (v : V) (z : Pr) : Prop := ∃ t, v = .ref t ∧ t ≠ p ∧ H t = some (.tup [.int z.1, .int z.2])
inductive PrsAt (p : Addr) (H : Hp) : List V → List Pr → Prop
  | nil : PrsAt p H [] []
  | cons {v : V} {z : Pr} {vs : List V} {zs : List Pr} (h : PrAt p H v z) (r : PrsAt p H vs zs) : PrsAt p H (v :: vs) (z :: zs)
section
variable {p : Addr} {H H' : Hp} {v : V} {z : Pr} {vs us : List V} {zs ys : List Pr} {K : PySem.W.Frag} {i : Nat}
theorem PrAt.keep (h : PrAt p H v z) (k : Keep p H H') : PrAt p H' v z := by
  obtain ⟨t, e, n, h⟩ := h
  exact ⟨t, e, n, k _ _ n h⟩
theorem PrsAt.keep (h : PrsAt p H vs zs) (k : Keep p H H') : PrsAt p H' vs zs := by
  induction h with
  | nil => exact .nil
  | cons h _ ih => exact .cons (h.keep k) ih
theorem PrsAt.mono (h : PrsAt p H vs zs) (k : ∀ t xs, H t = some (.tup xs) → H' t = some (.tup xs)) : PrsAt p H' vs zs := by
  induction h with
  | nil => exact .nil
  | cons h _ ih =>
    obtain ⟨t, e, n, h⟩ := h
    exact .cons ⟨t, e, n, k _ _ h⟩ ih
theorem PrsAt.mono2 (h : PrsAt p H vs zs) (k : ∀ t xs, t ≠ p → H t = some (.tup xs) → H' t = some (.tup xs)) : PrsAt p H' vs zs := by
  induction h with
  | nil => exact .nil
  | cons h _ ih =>
    obtain ⟨t, e, n, h⟩ := h
    exact .cons ⟨t, e, n, k _ _ n h⟩ ih
theorem r_rng3 {σ : L2.St} {ta : TA} {R : It → Hp → Prop} (h : ta σ H fun vs H1 => ∃ (i j c : Int) (n : Nat), vs = [.int i, .int j, .int c] ∧ RgC i j c n ∧ R (Itc i c n) H1) : iRng3 ta σ H R := h
theorem PrsAt.length (h : PrsAt p H vs zs) : vs.length = zs.length := by
  induction h with
  | nil => rfl
  | cons _ _ ih => rw [List.length_cons, List.length_cons, ih]
theorem PrAt.dp (h : PrAt p H v z) : Dp K H v (prD z) := by
  obtain ⟨t, rfl, n, h⟩ := h
  exact .tup (SqT.of h) (.cons (.int _) (.cons (.int _) .nil))
theorem PrsAt.dp (h : PrsAt p H vs zs) : DpAll K H vs (zs.map prD) := by
  induction h with
  | nil => exact .nil
  | cons h _ ih => exact .cons h.dp ih
theorem PrsAt.at (h : PrsAt p H vs zs) : ∀ {i : Nat} {v : V}, vs[i]? = some v → ∃ z, zs[i]? = some z ∧ PrAt p H v z := by
  induction h with
  | nil => intro i v e; simp at e
  | cons h _ ih =>
    intro i v e
    cases i with
    | zero => exact ⟨_, rfl, by cases (Option.some.inj e); exact h⟩
    | succ i => exact ih (by simpa using e)
theorem PrsAt.get (h : PrsAt p H vs zs) : ∀ {i : Nat} {z : Pr}, zs[i]? = some z → ∃ v, vs[i]? = some v ∧ PrAt p H v z := by
  induction h with
  | nil => intro i v e; simp at e
  | cons h _ ih =>
    intro i v e
    cases i with
    | zero => exact ⟨_, rfl, by cases (Option.some.inj e); exact h⟩
    | succ i => exact ih (by simpa using e)
theorem PrsAt.take (h : PrsAt p H vs zs) : ∀ n, PrsAt p H (vs.take n) (zs.take n) := by
  induction h with
  | nil => intro n; cases n <;> exact .nil
  | cons h _ ih =>
    intro n
    cases n with
    | zero => exact .nil
    | succ n => exact .cons h (ih n)
theorem PrsAt.drop (h : PrsAt p H vs zs) : ∀ n, PrsAt p H (vs.drop n) (zs.drop n) := by
  induction h with
  | nil => intro n; cases n <;> exact .nil
  | cons h r ih =>
    intro n
    cases n with
    | zero => exact .cons h r
    | succ n => exact ih n
theorem PrsAt.app (h : PrsAt p H vs zs) (g : PrsAt p H us ys) : PrsAt p H (vs ++ us) (zs ++ ys) := by
  induction h with
  | nil => exact g
  | cons h _ ih => exact .cons h ih
theorem PrsAt.set (h : PrsAt p H vs zs) (g : PrAt p H v z) : ∀ i, PrsAt p H (vs.set i v) (zs.set i z) := by
  induction h with
  | nil => intro i; exact .nil
  | cons h r ih =>
    intro i
    cases i with
    | zero => exact .cons g r
    | succ i => exact .cons h (ih i)
end
/-- a list of pairs, none of the pool's -/
structure PL (p : Addr) (H : Hp) (a : Addr) (zs : List Pr) : Prop where
  ne : a ≠ p
  ex : ∃ vs, H a = some (.lst vs) ∧ PrsAt p H vs zs
section
variable {p a : Addr} {H H' : Hp} {zs : List Pr} {K : PySem.W.Frag}
theorem PL.keep (h : PL p H a zs) (k : Keep p H H') : PL p H' a zs := by
  obtain ⟨n, vs, e, r⟩ := h
  exact ⟨n, vs, k _ _ n e, r.keep k⟩
theorem PL.same (h : PL p H a zs) (k : Same H H') : PL p H' a zs := h.keep (Keep.same k)
theorem PL.dp (h : PL p H a zs) : Dp K H (.ref a) (prsD zs) := by
  obtain ⟨n, vs, e, r⟩ := h
  exact .lst (SqL.of e) r.dp
end
/-! ### the order of lists of pairs -/
theorem prLt_tri (x y : Pr) (n : x ≠ y) : prLt x y = !prLt y x := by
  obtain ⟨a, b⟩ := x
  obtain ⟨c, d⟩ := y
  simp only [prLt]
  by_cases h1 : a < c
  · have : ¬ c < a := by omega
    have : ¬ c = a := by omega
    simp [h1, *]
  · by_cases h2 : a = c
    · subst h2
      have : b ≠ d := fun z => n (by rw [z])
      by_cases h3 : b < d
      · have : ¬ d < b := by omega
        simp [h3, this]
      · have : d < b := by omega
        simp [h3, this]
    · have : c < a := by omega
      simp [h1, h2, this]
theorem prLt_trans {x y z : Pr} (h : prLt x y = true) (g : prLt y z = true) : prLt x z = true := by
  simp only [prLt, Bool.or_eq_true, Bool.and_eq_true, decide_eq_true_eq] at *
  omega
theorem prLt_irr (x : Pr) : prLt x x = false := by simp [prLt]
theorem lexB_self : ∀ xs : List Pr, lexB xs xs = false
  | [] => rfl
  | x :: xs => by rw [lexB, if_pos rfl, lexB_self xs]
theorem lexB_tri : ∀ xs ys : List Pr, xs ≠ ys → lexB xs ys = !lexB ys xs
  | [], [], n => absurd rfl n
  | [], _ :: _, _ => rfl
  | _ :: _, [], _ => rfl
  | x :: xs, y :: ys, n => by
    rw [lexB, lexB]
    by_cases e : x = y
    · subst e
      rw [if_pos rfl, if_pos rfl]
      exact lexB_tri xs ys fun z => n (by rw [z])
    · rw [if_neg e, if_neg (Ne.symm e)]
      exact prLt_tri x y e
theorem lexB_trans : ∀ xs ys zs : List Pr, lexB xs ys = true → lexB ys zs = true → lexB xs zs = true
  | [], [], _, h, _ => by cases h
  | [], _ :: _, [], _, g => by cases g
  | [], _ :: _, _ :: _, _, _ => rfl
  | _ :: _, [], _, h, _ => by cases h
  | _ :: _, _ :: _, [], _, g => by cases g
  | x :: xs, y :: ys, z :: zs, h, g => by
    rw [lexB] at h g ⊢
    by_cases e : x = y
    · subst e
      rw [if_pos rfl] at h
      by_cases e2 : x = z
      · subst e2
        rw [if_pos rfl] at g ⊢
        exact lexB_trans xs ys zs h g
      · rw [if_neg e2] at g ⊢
        exact g
    · rw [if_neg e] at h
      by_cases e2 : y = z
      · subst e2
        rw [if_neg e]
        exact h
      · rw [if_neg e2] at g
        have t := prLt_trans h g
        have : x ≠ z := fun q => by rw [q, prLt_irr] at t; cases t
        rw [if_neg this]
        exact t
end Pk
set_option Elab.async false
set_option linter.all false
set_option maxRecDepth 100000
set_option maxHeartbeats 1000000
namespace Pk
open PySem L2 PySem.Spec PyProof.Rows
/-! ### what kind of data -/
def isID : PyData → Bool | .int _ => true | _ => false
def isIB : PyData → Bool | .int _ => true | .bool _ => true | _ => false
def isBD : PyData → Bool | .bool _ => true | _ => false
def isTD : PyData → Bool | .tuple _ => true | _ => false
def isLD : PyData → Bool | .list _ => true | _ => false
theorem kit_i (d : PyData) : kitB (kindOf d) "int" = some (isIB d) := by
  cases d with
  | none => exact (by decide +kernel : kitB "NoneType" "int" = some false)
  | bool b => exact (by decide +kernel : kitB "bool" "int" = some true)
  | int i => exact (by decide +kernel : kitB "int" "int" = some true)
  | str z => exact (by decide +kernel : kitB "str" "int" = some false)
  | list ds => exact (by decide +kernel : kitB "list" "int" = some false)
  | tuple ds => exact (by decide +kernel : kitB "tuple" "int" = some false)
  | dict kv => exact (by decide +kernel : kitB "object" "int" = some false)
theorem kit_b (d : PyData) : kitB (kindOf d) "bool" = some (isBD d) := by
  cases d with
  | none => exact (by decide +kernel : kitB "NoneType" "bool" = some false)
  | bool b => exact (by decide +kernel : kitB "bool" "bool" = some true)
  | int i => exact (by decide +kernel : kitB "int" "bool" = some false)
  | str z => exact (by decide +kernel : kitB "str" "bool" = some false)
  | list ds => exact (by decide +kernel : kitB "list" "bool" = some false)
  | tuple ds => exact (by decide +kernel : kitB "tuple" "bool" = some false)
  | dict kv => exact (by decide +kernel : kitB "object" "bool" = some false)
theorem kit_t (d : PyData) : kitB (kindOf d) "tuple" = some (isTD d) := by
  cases d with
  | none => exact (by decide +kernel : kitB "NoneType" "tuple" = some false)
  | bool b => exact (by decide +kernel : kitB "bool" "tuple" = some false)
  | int i => exact (by decide +kernel : kitB "int" "tuple" = some false)
  | str z => exact (by decide +kernel : kitB "str" "tuple" = some false)
  | list ds => exact (by decide +kernel : kitB "list" "tuple" = some false)
  | tuple ds => exact (by decide +kernel : kitB "tuple" "tuple" = some true)
  | dict kv => exact (by decide +kernel : kitB "object" "tuple" = some false)
theorem kit_l (d : PyData) : kitB (kindOf d) "list" = some (isLD d) := by
  cases d with
  | none => exact (by decide +kernel : kitB "NoneType" "list" = some false)
  | bool b => exact (by decide +kernel : kitB "bool" "list" = some false)
  | int i => exact (by decide +kernel : kitB "int" "list" = some false)
  | str z => exact (by decide +kernel : kitB "str" "list" = some false)
  | list ds => exact (by decide +kernel : kitB "list" "list" = some true)
  | tuple ds => exact (by decide +kernel : kitB "tuple" "list" = some false)
  | dict kv => exact (by decide +kernel : kitB "object" "list" = some false)
section
variable {K : PySem.W.Frag} {H : Hp} {Q : VK} {v : V} {d : PyData} {ds : List PyData}
theorem r_isDI (h : Dp K H v d) (q : Q (.bl (isIB d)) H) : rIsi K [v, .ty "int"] H Q := r_isi (Dp.kind h) (kit_i d) q
theorem r_isDB (h : Dp K H v d) (q : Q (.bl (isBD d)) H) : rIsi K [v, .ty "bool"] H Q := r_isi (Dp.kind h) (kit_b d) q
theorem r_isDT (h : Dp K H v d) (q : Q (.bl (isTD d)) H) : rIsi K [v, .ty "tuple"] H Q := r_isi (Dp.kind h) (kit_t d) q
theorem r_isDL (h : Dp K H v d) (q : Q (.bl (isLD d)) H) : rIsi K [v, .ty "list"] H Q := r_isi (Dp.kind h) (kit_l d) q
theorem Dp.tupAt (h : Dp K H v (.tuple ds)) : ∃ t vs, v = .ref t ∧ SqT K H t vs ∧ DpAll K H vs ds := by
  cases h with
  | tup h1 h2 => exact ⟨_, _, rfl, h1, h2⟩
theorem Dp.lstAt (h : Dp K H v (.list ds)) : ∃ t vs, v = .ref t ∧ SqL K H t vs ∧ DpAll K H vs ds := by
  cases h with
  | lst h1 h2 => exact ⟨_, _, rfl, h1, h2⟩
theorem DpAll.len : ∀ {vs : List V} {ds : List PyData}, DpAll K H vs ds → vs.length = ds.length
  | _, _, .nil => rfl
  | _, _, .cons _ t => by rw [List.length_cons, List.length_cons, DpAll.len t]
theorem DpAll.at : ∀ {vs : List V} {ds : List PyData}, DpAll K H vs ds → ∀ {i : Nat} {v : V}, vs[i]? = some v → ∃ d, ds[i]? = some d ∧ Dp K H v d
  | _, _, .nil, i, v, e => by simp at e
  | _, _, .cons h t, 0, v, e => ⟨_, rfl, by cases (Option.some.inj e); exact h⟩
  | _, _, .cons h t, i + 1, v, e => DpAll.at t (by simpa using e)
theorem DpAll.get : ∀ {vs : List V} {ds : List PyData}, DpAll K H vs ds → ∀ {i : Nat} {d : PyData}, ds[i]? = some d → ∃ v, vs[i]? = some v ∧ Dp K H v d
  | _, _, .nil, i, v, e => by simp at e
  | _, _, .cons h t, 0, v, e => ⟨_, rfl, by cases (Option.some.inj e); exact h⟩
  | _, _, .cons h t, i + 1, v, e => DpAll.get t (by simpa using e)
theorem DpAll.take : ∀ {vs : List V} {ds : List PyData}, DpAll K H vs ds → ∀ n, DpAll K H (vs.take n) (ds.take n)
  | _, _, .nil, n => by cases n <;> exact .nil
  | _, _, .cons h t, 0 => .nil
  | _, _, .cons h t, n + 1 => .cons h (DpAll.take t n)
theorem DpAll.drop : ∀ {vs : List V} {ds : List PyData}, DpAll K H vs ds → ∀ n, DpAll K H (vs.drop n) (ds.drop n)
  | _, _, .nil, n => by cases n <;> exact .nil
  | _, _, .cons h t, 0 => .cons h t
  | _, _, .cons h t, n + 1 => DpAll.drop t n
theorem DpAll.app : ∀ {vs us : List V} {ds es : List PyData}, DpAll K H vs ds → DpAll K H us es → DpAll K H (vs ++ us) (ds ++ es)
  | _, _, _, _, .nil, g => g
  | _, _, _, _, .cons h t, g => .cons h (DpAll.app t g)
end
/-! ### in a list, over data; a list of data that can be compared -/
structure Small (ds : List PyData) : Prop where
  plain : PyData.plainAll ds = true
  deep : PyData.depthAll ds ≤ 8
def rInD (K : PySem.W.Frag) (neg : Bool) : R2 := fun x y H Q => ∃ d ds, Dp K H x d ∧ Dp K H y (.list ds) ∧ d.plain = true ∧ Small ds ∧ Q (.bl (if neg then !(ds.any fun e => PyData.eqv e d) else ds.any fun e => PyData.eqv e d)) H
theorem op_inD {X : Cx} (hu : X.A.units + 64 < cLine) : OpR X (compareOp .In) (rInD X.K false) := by
  intro pins s σ H x y v u Q I rx ry h
  obtain ⟨d, ds, hd, he, pd, sm, q⟩ := h
  obtain ⟨as, r1⟩ := Dp.reads I _ x v hd rx
  obtain ⟨bs, r2⟩ := Dp.reads I _ y u he ry
  have h1 := sm.deep
  exact SeqAt.in_list_data r2 r1 sm.plain pd (by omega) ⟨.bl _, H, I, rfl, q⟩
end Pk
set_option Elab.async false
set_option linter.all false
set_option maxRecDepth 100000
set_option maxHeartbeats 1000000
namespace Pk
open PySem L2 PySem.Spec PyProof.Rows
/-! ### an object is made where what is raised is wished for at the caller's slots -/
def tMakeS (C : Addr) (sp : Sp) (E : L2.St → XK) (t : TA) : TE := fun σ H Q => t σ H fun zs H1 => ∀ y dy, H1 y = none → H1 dy = none → dy ≠ y →
  sp (.ref y :: zs) (upd (upd H1 dy (.own y)) y (.ins C dy [])) (fun r H2 => r = .non ∧ Q (.ref y) H2) (E σ)
theorem r_makeS {C : Addr} {sp : Sp} {E : L2.St → XK} {t : TA} {σ : L2.St} {H : Hp} {Q : VK} (h : t σ H fun zs H1 => ∀ y dy, H1 y = none → H1 dy = none → dy ≠ y → sp (.ref y :: zs) (upd (upd H1 dy (.own y)) y (.ins C dy [])) (fun r H2 => r = .non ∧ Q (.ref y) H2) (E σ)) : tMakeS C sp E t σ H Q := h
section
variable {X : Cx} {CX : CXT} {k : Nat} {f C : Addr} {fd : FuncData} {ps : List Str} {sp : Sp} {E : L2.St → XK}
theorem made_at {pins : List (Addr × Obj)} {τ : L2.St} {G : Hp} {sh : Shared} {R : VK} {as : List Value} {zs : List V} (mk : Mk X.K C f) (ok : FnOk X.prog X.w X.K X.mg X.base CX k f fd ps sp) (room : Room (k + 1) X.A) (bd : Binds X.K fd ps []) (px : PassesAt CX X τ (E τ)) (J : Inv X pins τ G sh) (rl : Vals zs as)
    (want : ∀ y dy, G y = none → G dy = none → dy ≠ y → sp (.ref y :: zs) (upd (upd G dy (.own y)) y (.ins C dy [])) (fun r H2 => r = .non ∧ R (.ref y) H2) (E τ)) : wpAny (model X.prog X.w) X.A (call (.ref C) as) (EP X pins τ R) X.xe sh := by
  have w1 := want (sh.heap.objs.size + 1) sh.heap.objs.size (J.hok.fresh (Nat.le_succ _)) (J.hok.fresh (Nat.le_refl _)) (Nat.ne_of_lt (Nat.lt_succ_self _))
  have J2 := Inv.made (C := C) J
  have rl2 : Vals (V.ref (sh.heap.objs.size + 1) :: zs) (Value.ref (sh.heap.objs.size + 1) :: as) := .cons rfl rl
  have len : (Value.ref (sh.heap.objs.size + 1) :: as ++ []).length = ps.length := by
    rw [List.append_nil]
    exact rl2.length.symm.trans (ok.len _ _ _ _ w1)
  have b2 := bd _ (Value.ref (sh.heap.objs.size + 1) :: as) J2.kIn len
  rw [List.append_nil] at b2
  refine wpAny_call (make_map (f := f) J.kIn mk.makes mk.init (beq_iff_eq.mp mk.fn) (codeAny_mono (ok.run _ X.stack _ _ ⟨Value.ref (sh.heap.objs.size + 1) :: as, []⟩
    (Value.ref (sh.heap.objs.size + 1) :: as) _ _ (E τ) (room.make C as []) (J2.env0.make C as []) b2 rl2 w1) fun fin t ht => ?_))
  rcases fin with er | fl
  · exact px pins _ _ er t J2 ht
  · cases fl with
    | ret u =>
      obtain ⟨r, G', J3, rr, er, q3⟩ := J2.after ht
      subst er
      exact ⟨rr, ⟨V.ref (sh.heap.objs.size + 1), G', J3, rfl, q3⟩⟩
    | next => exact ht.elim
    | brk => exact ht.elim
    | cont => exact ht.elim
end
theorem pe_dkS {X : Cx} {W : WX} {x : Str} {k j : Nat} {ps : List Str} {sp : Sp} {e : Expr} {es : List Expr} {t : TA} {p pos : Pos} {C : Addr} (tk : Takes X W) (D : Dk X.prog X.w X.K X.mg X.base (L2.CX X.prog X.w) x k ps sp C) (hr : Room j X.A) (l : k + 1 ≤ j) (ha : PA X (e :: es) t) (hg : Gl X x := by rfl)
    (hdb : (x == ("__debug__" : Str)) = false := by decide) (he : starEach (e :: es) X.env = (false, eval e X.env) :: starEach es X.env := by rfl) (hpl : (backTo pos (starEach es X.env)).any (·.1) = false := by rfl) : PE X (.Call (.Name x p) (e :: es) [] pos) (tMakeS C sp (WE W) t) := by
  obtain ⟨_, _, D⟩ := D
  refine ⟨fun pins s σ H Q J h => ?_⟩
  refine wpAny_Call_Name_kw (ld_glob J hg D.at_ ?_ hdb)
  refine PySem.W.callWith_K (h₀ := X.base) J.ok.mod.kin D.mkc.kp (thn (ha.run pos pins s σ H _ J h) fun us s1 ⟨vs, H1, J1, r, q⟩ => ⟨J1.kIn, ?_⟩) he hpl
  exact made_at D.mkc D.ok (hr.mono l) D.bd (passAt tk σ) J1 r q
end Pk
set_option Elab.async false
set_option linter.all false
set_option maxRecDepth 100000
set_option maxHeartbeats 1000000
namespace Pk
open PySem L2 PySem.Spec PyProof.Rows
/-! ### loops, whatever stands in them -/
theorem lc_any {J : It} {n : Nat} {G : Hp → Prop} {Y : Nat → Hp → V → Hp → Prop} (w : Walk J n G Y) {B : (Hp → Prop) → V → Hp → Prop} {H0 : Hp} {Qd : Hp → Prop} (Pv : Nat → Hp → Prop) (h0 : Pv 0 H0) (hG : ∀ i H, i ≤ n → Pv i H → G H)
    (hs : ∀ i x H H', i < n → Pv i H → Y i H x H' → B (Pv (i + 1)) x H') (hd : ∀ H, Pv n H → Qd H) : ∃ W : Nat → Nat → Hp → Prop, (∃ m, W 0 m H0) ∧ ∀ i m H, W i m H →
      (J.stop i H ∧ Qd H) ∨ (J.go i H ∧ ∃ Nx : Hp → Prop, (∀ H', Nx H' → ∃ m', m' < m ∧ W (i + 1) m' H') ∧ ∀ x H', J.yld i H x H' → B Nx x H') := by
  refine ⟨fun i m H => m = n - i ∧ i ≤ n ∧ Pv i H, ⟨n, (Nat.sub_zero n).symm, Nat.zero_le _, h0⟩, fun i m H hw => ?_⟩
  obtain ⟨rfl, hi, p⟩ := hw
  rcases Nat.lt_or_ge i n with lt | ge
  · refine .inr ⟨w.goes i H lt (hG i H hi p), Pv (i + 1), fun H' p' => ⟨n - (i + 1), by omega, rfl, lt, p'⟩, fun x H' y => ?_⟩
    exact hs i x H H' lt p (w.yields i H x H' lt (hG i H hi p) y)
  · obtain rfl : i = n := Nat.le_antisymm hi ge
    exact .inl ⟨w.stops H (hG _ H hi p), hd H p⟩
theorem r_lc2 {wi wi1 : TI} {g g1 : TG} {tt tt1 : TT} {te : TE} {vs vs1 : List Nat} {σ : L2.St} {H : Hp} {Q : VK} (h : wi σ H fun J H1 => ∀ D, H1 D = none → ∃ W : Nat → Nat → Hp → Prop, (∃ m, W 0 m (upd H1 D (.lst []))) ∧ ∀ i m H, W i m H →
  (J.stop i H ∧ Q (.ref D) H) ∨ (J.go i H ∧ ∃ Nx : Hp → Prop, (∀ H', Nx H' → ∃ m', m' < m ∧ W (i + 1) m' H') ∧ ∀ x H', J.yld i H x H' → g x (wipe σ vs) H' fun σ2 H2 => wipe σ2 vs = wipe σ vs ∧ tt σ2 H2 fun b H3 =>
    if b = true then wi1 σ2 H3 fun J1 H4 => ∃ W1 : Nat → Nat → Hp → Prop, (∃ m, W1 0 m H4) ∧ ∀ j k H, W1 j k H →
      (J1.stop j H ∧ Nx H) ∨ (J1.go j H ∧ ∃ Nx1 : Hp → Prop, (∀ H', Nx1 H' → ∃ k', k' < k ∧ W1 (j + 1) k' H') ∧ ∀ x H', J1.yld j H x H' → g1 x (wipe σ2 vs1) H' fun σ3 H5 => wipe σ3 vs1 = wipe σ2 vs1 ∧ tt1 σ3 H5 fun b H6 =>
        if b = true then te σ3 H6 fun y H7 => ∃ acc, H7 D = some (.lst acc) ∧ acc.length < sizeLine ∧ Nx1 (upd H7 D (.lst (acc ++ [y]))) else Nx1 H6)
    else Nx H3)) : tLc2 wi g tt wi1 g1 tt1 te vs vs1 σ H Q := h
/-! ### a part of the heap -/
/-- all of G was not tracked in H -/
def Fresh (H G : Hp) : Prop := ∀ a o, G a = some o → H a = none
theorem Fresh.off {H G : Hp} {b : Addr} {o : HO} (f : Fresh H G) (h : H b = some o) : G b = none := by
  cases e : G b with
  | none => rfl
  | some u => rw [f b u e] at h; cases h
theorem Fresh.back {H0 H G : Hp} (f : Fresh H G) (s : Same H0 H) : Fresh H0 G := fun a o e => s.free (f a o e)
theorem Same.part {G H H' : Hp} {b : Addr} (s : Same G H) (n : G b = none) (k : Keep b H H') : Same G H' := fun a o e => k a o (fun z => by rw [z, n] at e; cases e) (s a o e)
theorem Same.upOff {G H : Hp} {b : Addr} {o : HO} (s : Same G H) (n : G b = none) : Same G (upd H b o) := fun a u e => by
  rw [upd_ne (fun z => by rw [z, n] at e; cases e)]
  exact s a u e
/-! ### tables -/
abbrev Rw := List (List (Option Int))
def pV : Option Int → V
  | .none => .non
  | .some i => .int i
def pD : Option Int → PyData
  | .none => .none
  | .some i => .int i
def rowD (r : List (Option Int)) : PyData := .list (r.map pD)
def rowsD (R : Rw) : PyData := .list (R.map rowD)
def wd (R : Rw) : Nat := (R.headD []).length
def prc (R : Rw) (i j : Nat) : Option Int := (R.getD i []).getD j none
/-- the pairs, in ascending order -/
def cells (R : Rw) : List Pr := (List.range R.length).flatMap fun i => ((List.range (wd R)).filter fun j => (prc R i j).isSome).map fun (j : Nat) => (((i : Nat) : Int), (j : Int))
structure Gt (R : Rw) : Prop where
  h0 : 0 < R.length
  h8 : R.length ≤ 8
  w0 : 0 < wd R
  w8 : wd R ≤ 8
  sq : ∀ r, r ∈ R → r.length = wd R
instance : PySem.W.Datum (Option Int) where
  toD := pD
  plain z := by cases z <;> rfl
  eqv a b := by cases a <;> cases b <;> simp [pD, PyData.eqv, PySem.W.beq_decide]
  depth := 0
  depth_le z := by cases z <;> simp [pD, PyData.depth]
theorem rows_eqv (R S : Rw) : PyData.eqv (rowsD R) (rowsD S) = decide (R = S) := PySem.W.Datum.eqv (α := List (List (Option Int))) R S
theorem row_depthAll : ∀ r : List (Option Int), PyData.depthAll (r.map pD) = 0
  | [] => by simp [PyData.depthAll]
  | z :: r => by cases z <;> simp [PyData.depthAll, PyData.depth, pD, row_depthAll r]
theorem row_depth (r : List (Option Int)) : (rowD r).depth = 1 := by simp [rowD, PyData.depth, row_depthAll r]
theorem rows_depthAll : ∀ R : Rw, PyData.depthAll (R.map rowD) ≤ 1
  | [] => by simp [PyData.depthAll]
  | r :: R => by
    have h1 := rows_depthAll R
    simp only [List.map_cons, PyData.depthAll, row_depth]
    omega
theorem rows_depth (R : Rw) : (rowsD R).depth ≤ 2 := by
  have h := rows_depthAll R
  simp only [rowsD, PyData.depth]
  omega
theorem row_layAll : ∀ r : List (Option Int), PyData.canLayAll0 (r.map pD) = true
  | [] => by simp [PyData.canLayAll0]
  | z :: r => by cases z <;> simp [PyData.canLayAll0, PyData.canLay0, pD, row_layAll r]
theorem row_lay (r : List (Option Int)) : (rowD r).canLay0 = true := by simp [rowD, PyData.canLay0, row_layAll r]
theorem rows_layAll : ∀ R : Rw, PyData.canLayAll0 (R.map rowD) = true
  | [] => by simp [PyData.canLayAll0]
  | r :: R => by simp [PyData.canLayAll0, rows_layAll R, row_lay r]
theorem rows_shaped (R : Rw) : SeqAt.shaped (rowsD R) = true := by
  have h := rows_depth R
  have e : (rowsD R).canLay0 = true := by simp only [rowsD, PyData.canLay0]; exact rows_layAll R
  simp only [SeqAt.shaped, e, Bool.true_and]
  exact decide_eq_true (by omega)
theorem rows_plain (R : Rw) : (rowsD R).plain = true := PySem.W.Datum.plain (α := List (List (Option Int))) R
theorem pV_dp {K : PySem.W.Frag} {H : Hp} (z : Option Int) : Dp K H (pV z) (pD z) := by
  cases z
  · exact .non
  · exact .int _
theorem row_dp {K : PySem.W.Frag} {H : Hp} (r : List (Option Int)) : DpAll K H (r.map pV) (r.map pD) := by
  induction r with
  | nil => exact .nil
  | cons z r ih => exact .cons (pV_dp z) ih
theorem deep_pD (z : Option Int) {n : Nat} : Deep n (pD z) := by
  cases z
  · exact .non
  · exact .int _
theorem deep_row {r : List (Option Int)} (h : r.length ≤ 1000) : Deep 1 (rowD r) := .lst (fun d hd => by
  obtain ⟨z, _, rfl⟩ := List.mem_map.mp hd
  exact deep_pD z) (by rw [List.length_map]; exact h)
theorem Gt.len {R : Rw} (g : Gt R) {i : Nat} (h : i < R.length) : R[i].length = wd R := g.sq _ (List.getElem_mem h)
theorem Gt.getD {R : Rw} (g : Gt R) {i : Nat} (h : i < R.length) : R.getD i [] = R[i] := by
  rw [List.getD_eq_getElem?_getD, List.getElem?_eq_getElem h]
  rfl
theorem deep_rows {R : Rw} (g : Gt R) : Deep 2 (rowsD R) := .lst (fun d hd => by
  obtain ⟨r, hr, rfl⟩ := List.mem_map.mp hd
  have h1 := g.sq r hr
  have h2 := g.w8
  exact deep_row (by omega)) (by rw [List.length_map]; have := g.h8; omega)
/-- a list of rows, each a list of its own -/
structure RL (G : Hp) (e : Addr) (es : List V) (R : Rw) : Prop where
  at_ : G e = some (.lst es)
  len : es.length = R.length
  row : ∀ i v, es[i]? = some v → ∃ a, v = .ref a ∧ G a = some (.lst ((R.getD i []).map pV))
theorem RL.same {G H : Hp} {e : Addr} {es : List V} {R : Rw} (l : RL G e es R) (s : Same G H) : RL H e es R := ⟨s _ _ l.at_, l.len, fun i v h => by
  obtain ⟨a, e1, e2⟩ := l.row i v h
  exact ⟨a, e1, s _ _ e2⟩⟩
theorem RL.get {G : Hp} {e : Addr} {es : List V} {R : Rw} (l : RL G e es R) {i : Nat} (h : i < R.length) : ∃ a, es[i]? = some (.ref a) ∧ G a = some (.lst ((R.getD i []).map pV)) := by
  have hi : i < es.length := by rw [l.len]; exact h
  obtain ⟨a, e1, e2⟩ := l.row i _ (List.getElem?_eq_getElem hi)
  exact ⟨a, by rw [List.getElem?_eq_getElem hi, e1], e2⟩
theorem RL.all {K : PySem.W.Frag} {G : Hp} {e : Addr} {es : List V} {R : Rw} (l : RL G e es R) : DpAll K G es (R.map rowD) := by
  refine dpAll_of (by rw [List.length_map]; exact l.len) fun i v d hv hd => ?_
  obtain ⟨a, rfl, h⟩ := l.row i v hv
  rw [List.getElem?_map] at hd
  cases q : R[i]? with
  | none => rw [q] at hd; cases hd
  | some r =>
    rw [q] at hd
    cases (Option.some.inj hd)
    rw [List.getD_eq_getElem?_getD, q] at h
    exact .lst (SqL.of h) (row_dp r)
theorem RL.dp {K : PySem.W.Frag} {G : Hp} {e : Addr} {es : List V} {R : Rw} (l : RL G e es R) : Dp K G (.ref e) (rowsD R) := .lst (SqL.of l.at_) l.all
/-- the table at x, whose parts are all in G -/
structure TbX (C : Addr) (G : Hp) (x : Addr) (R : Rw) : Prop where
  g : Gt R
  ex : ∃ dx e u es, G x = some (.ins C dx [("entries", .ref e), ("used", .ref u)]) ∧ RL G e es R ∧ PL x G u (cells R)
theorem pr_at {R : Rw} {i j : Nat} (hi : i < R.length) (hj : j < wd R) : (R.getD i []).length = R[i].length := by
  rw [List.getD_eq_getElem?_getD, List.getElem?_eq_getElem hi]
  rfl
theorem prc_get {R : Rw} (g : Gt R) {i j : Nat} (hi : i < R.length) (hj : j < wd R) : ((R.getD i []).map pV)[j]? = some (pV (prc R i j)) := by
  have l : j < (R.getD i []).length := by rw [g.getD hi, g.len hi]; exact hj
  rw [List.getElem?_map, List.getElem?_eq_getElem l, prc, List.getD_eq_getElem?_getD (l := R.getD i []), List.getElem?_eq_getElem l]
  rfl
/-! ### over data -/
def priceD : PyData → Bool
  | .none => true
  | .int _ => true
  | _ => false
theorem price_inv {d : PyData} (h : priceD d = true) : ∃ z, d = pD z := by
  cases d with
  | none => exact ⟨none, rfl⟩
  | int i => exact ⟨some i, rfl⟩
  | _ => cases h
/-- a list of 1 to 8 prices, as many as the other list has entries -/
def rowOk : PyData → PyData → Bool
  | .list ds, .list es => decide (1 ≤ ds.length) && decide (ds.length ≤ 8) && decide (ds.length = es.length) && ds.all priceD
  | _, _ => false
def firstRow (ds : List PyData) : Option Nat := (List.range ds.length).find? fun i => !rowOk (ds.getD i .none) (ds.getD 0 .none)
/-- what is told of a value as rows: none where it is good -/
def badT : PyData → Option Int
  | .list ds => if ds.length = 0 ∨ 8 < ds.length then some (-1) else (firstRow ds).map Int.ofNat
  | _ => some (-1)
theorem badT_no {d : PyData} (h : isLD d = false) : badT d = some (-1) := by
  cases d with
  | list ds => cases h
  | _ => rfl
theorem firstRow_some {ds : List PyData} {i : Nat} (hi : i < ds.length) (h : ∀ j, j < i → rowOk (ds.getD j .none) (ds.getD 0 .none) = true) (b : rowOk (ds.getD i .none) (ds.getD 0 .none) = false) : firstRow ds = some i := by
  unfold firstRow
  rw [List.find?_range_eq_some]
  exact ⟨by rw [b]; rfl, by simpa using hi, fun j hj => by rw [h j hj]; rfl⟩
theorem firstRow_none {ds : List PyData} (h : ∀ j, j < ds.length → rowOk (ds.getD j .none) (ds.getD 0 .none) = true) : firstRow ds = none := by
  unfold firstRow
  rw [List.find?_eq_none]
  intro j hj
  rw [h j (by simpa using hj)]
  decide
theorem firstRow_all {ds : List PyData} (h : firstRow ds = none) {j : Nat} (hj : j < ds.length) : rowOk (ds.getD j .none) (ds.getD 0 .none) = true := by
  unfold firstRow at h
  rw [List.find?_eq_none] at h
  have := h j (by simpa using hj)
  simpa using this
theorem all_prices {r : List (Option Int)} : (r.map pD).all priceD = true := by
  rw [List.all_map, List.all_eq_true]
  intro z _
  cases z <;> rfl
theorem prices_inv {ds : List PyData} (h : ds.all priceD = true) : ∃ r : List (Option Int), ds = r.map pD := by
  induction ds with
  | nil => exact ⟨[], rfl⟩
  | cons d ds ih =>
    rw [List.all_cons, Bool.and_eq_true] at h
    obtain ⟨z, rfl⟩ := price_inv h.1
    obtain ⟨r, rfl⟩ := ih h.2
    exact ⟨z :: r, rfl⟩
theorem row_okD {R : Rw} (g : Gt R) {i : Nat} (hi : i < R.length) : rowOk ((R.map rowD).getD i .none) ((R.map rowD).getD 0 .none) = true := by
  have e : ∀ k (hk : k < R.length), (R.map rowD).getD k .none = rowD R[k] := fun k hk => by
    rw [List.getD_eq_getElem?_getD, List.getElem?_map, List.getElem?_eq_getElem hk]
    rfl
  rw [e i hi, e 0 g.h0]
  have l1 := g.len hi
  have l2 := g.len g.h0
  have h1 := g.w0
  have h2 := g.w8
  simp only [rowD, rowOk, List.length_map, l1, l2, all_prices, Bool.and_eq_true, decide_eq_true_eq, and_true]
  omega
theorem badT_good {R : Rw} (g : Gt R) : badT (rowsD R) = none := by
  have h0 := g.h0
  have h8 := g.h8
  show (if (R.map rowD).length = 0 ∨ 8 < (R.map rowD).length then some (-1) else (firstRow (R.map rowD)).map Int.ofNat) = none
  rw [if_neg (by rw [List.length_map]; omega), firstRow_none (fun j hj => row_okD g (by simpa using hj))]
  rfl
/-- what is good is a table's rows -/
theorem badT_inv {d : PyData} (h : badT d = none) : ∃ R, d = rowsD R ∧ Gt R := by
  cases d with
  | list ds =>
    by_cases c : ds.length = 0 ∨ 8 < ds.length
    · have : badT (.list ds) = some (-1) := if_pos c
      rw [this] at h
      cases h
    · have hb : badT (.list ds) = (firstRow ds).map Int.ofNat := if_neg c
      rw [hb] at h
      have hf : firstRow ds = none := by
        cases e : firstRow ds with
        | none => rfl
        | some k => rw [e] at h; cases h
      have all := fun {j} (hj : j < ds.length) => firstRow_all hf hj
      have rows : ∀ d, d ∈ ds → ∃ r : List (Option Int), d = rowD r ∧ 1 ≤ r.length ∧ r.length ≤ 8 ∧ ∀ es, ds.getD 0 .none = .list es → r.length = es.length := by
        intro d hd
        obtain ⟨j, hj, rfl⟩ := List.getElem_of_mem hd
        have a := all hj
        rw [List.getD_eq_getElem?_getD (l := ds) (i := j), List.getElem?_eq_getElem hj] at a
        simp only [Option.getD_some] at a
        cases e1 : ds[j] with
        | list xs =>
          cases e2 : ds.getD 0 .none with
          | list es =>
            rw [e1, e2] at a
            simp only [rowOk, Bool.and_eq_true, decide_eq_true_eq] at a
            obtain ⟨⟨⟨a1, a2⟩, a3⟩, a4⟩ := a
            obtain ⟨r, rfl⟩ := prices_inv a4
            rw [List.length_map] at a1 a2 a3
            exact ⟨r, rfl, a1, a2, fun fs q => by cases q; exact a3⟩
          | _ => rw [e1, e2] at a; cases a
        | _ => rw [e1] at a; cases a
      have ex : ∃ R : Rw, ds = R.map rowD := by
        have : ∀ es : List PyData, (∀ d, d ∈ es → ∃ r : List (Option Int), d = rowD r) → ∃ R : Rw, es = R.map rowD := by
          intro es
          induction es with
          | nil => intro _; exact ⟨[], rfl⟩
          | cons d es ih =>
            intro k
            obtain ⟨r, rfl⟩ := k d List.mem_cons_self
            obtain ⟨R, rfl⟩ := ih fun e he => k e (List.mem_cons_of_mem _ he)
            exact ⟨r :: R, rfl⟩
        exact this ds fun d hd => by
          obtain ⟨r, e, _⟩ := rows d hd
          exact ⟨r, e⟩
      obtain ⟨R, rfl⟩ := ex
      rw [List.length_map] at c
      refine ⟨R, rfl, ?_⟩
      have hR : 0 < R.length := by omega
      have e0 : (R.map rowD).getD 0 .none = rowD R[0] := by
        rw [List.getD_eq_getElem?_getD, List.getElem?_map, List.getElem?_eq_getElem hR]
        rfl
      have w : wd R = R[0].length := by
        cases R with
        | nil => cases hR
        | cons r R => rfl
      have one : ∀ r, r ∈ R → 1 ≤ r.length ∧ r.length ≤ 8 ∧ r.length = wd R := by
        intro r hr
        obtain ⟨r', e, b1, b2, b3⟩ := rows (rowD r) (List.mem_map.mpr ⟨r, hr, rfl⟩)
        have l : r.length = r'.length := by
          have := PyData.list.inj e
          have := congrArg List.length this
          simpa using this
        have := b3 _ e0
        rw [List.length_map] at this
        exact ⟨by omega, by omega, by omega⟩
      have o := one _ (List.getElem_mem hR)
      exact ⟨hR, by omega, by omega, by omega, fun r hr => (one r hr).2.2⟩
  | _ => cases h
/-- a tuple of two ints -/
def twoD : PyData → Bool
  | .tuple [.int _, .int _] => true
  | _ => false
theorem twoD_inv {d : PyData} (h : twoD d = true) : ∃ a b, d = .tuple [.int a, .int b] := by
  unfold twoD at h
  split at h
  · exact ⟨_, _, rfl⟩
  · cases h
/-- a cell of the table -/
def cellD (R : Rw) : PyData → Bool
  | .tuple [.int a, .int b] => decide (0 ≤ a) && decide (a < R.length) && decide (0 ≤ b) && decide (b < wd R)
  | _ => false
theorem cellD_no {R : Rw} {d : PyData} (h : twoD d = false) : cellD R d = false := by
  unfold cellD
  split
  · rename_i a b
    exact absurd (show twoD (.tuple [.int a, .int b]) = true from rfl) (by rw [h]; decide)
  · rfl
theorem cellD_inv {R : Rw} {d : PyData} (h : cellD R d = true) : ∃ i j : Nat, d = prD ((i : Int), (j : Int)) ∧ i < R.length ∧ j < wd R := by
  unfold cellD at h
  split at h
  · rename_i a b
    simp only [Bool.and_eq_true, decide_eq_true_eq] at h
    obtain ⟨⟨⟨h1, h2⟩, h3⟩, h4⟩ := h
    refine ⟨a.toNat, b.toNat, ?_, by omega, by omega⟩
    rw [show ((a.toNat : Nat) : Int) = a by omega, show ((b.toNat : Nat) : Int) = b by omega]
    rfl
  · cases h
/-- its price, where it is a cell -/
def cellP (R : Rw) : PyData → Option Int
  | .tuple [.int a, .int b] => prc R a.toNat b.toNat
  | _ => none
theorem mem_cells {R : Rw} {i j : Nat} : ((i : Int), (j : Int)) ∈ cells R ↔ i < R.length ∧ j < wd R ∧ (prc R i j).isSome = true := by
  simp only [cells, List.mem_flatMap, List.mem_range, List.mem_map, List.mem_filter, Prod.mk.injEq]
  constructor
  · rintro ⟨a, ha, b, ⟨hb, hp⟩, e1, e2⟩
    have : a = i := by omega
    have : b = j := by omega
    subst_vars
    exact ⟨ha, hb, hp⟩
  · rintro ⟨ha, hb, hp⟩
    exact ⟨i, ha, j, ⟨hb, hp⟩, rfl, rfl⟩
end Pk
set_option Elab.async false
set_option linter.all false
set_option maxRecDepth 100000
set_option maxHeartbeats 1000000
namespace Pk
open PySem L2 PySem.Spec PyProof.Rows
/-! ### a cut behind a statement -/
theorem r_cut {t u : TS} {D : Ends} {σ : L2.St} {H : Hp} (Mid : L2.St → Hp → Prop) (h1 : t { D with nx := Mid } σ H) (h2 : ∀ σ' H', Mid σ' H' → u D σ' H') : C8.tCut t u D σ H := ⟨Mid, h1, h2⟩
/-! ### the pool, further -/
theorem PoolAt.sameS {H H' : Hp} {p c : Addr} {ns : List Int} (h : PoolAt H p c ns) (s : Same H H') : PoolAt H' p c ns := by
  obtain ⟨a, b, z, n, h0, hP, hC⟩ := h
  exact ⟨a, b, z, n, h0, s _ _ hP, s _ _ hC⟩
theorem PoolAt.off {H : Hp} {p c D : Addr} {ns : List Int} {o : HO} (h : PoolAt H p c ns) (n1 : D ≠ p) (n2 : D ≠ c) : PoolAt (upd H D o) p c ns := by
  obtain ⟨a, b, z, n, h0, hP, hC⟩ := h
  exact ⟨a, b, z, n, h0, by rw [upd_ne (Ne.symm n1)]; exact hP, by rw [upd_ne (Ne.symm n2)]; exact hC⟩
theorem PoolAt.ex {H : Hp} {p c : Addr} {ns : List Int} (h : PoolAt H p c ns) : ∃ o, H p = some o := by
  obtain ⟨a, b, z, n, h0, hP, hC⟩ := h
  exact ⟨_, hP⟩
theorem PoolAt.exC {H : Hp} {p c : Addr} {ns : List Int} (h : PoolAt H p c ns) : ∃ o, H c = some o := by
  obtain ⟨a, b, z, n, h0, hP, hC⟩ := h
  exact ⟨_, hC⟩
theorem Keep.free {p a : Addr} {H H' : Hp} (k : Keep p H H') (n : H' a = none) (np : a ≠ p) : H a = none := by
  cases e : H a with
  | none => rfl
  | some o => rw [k a o np e] at n; cases n
theorem Keep.put {p D : Addr} {H H' : Hp} {o : HO} (k : Keep p H H') (n : H D = none) : Keep p H (upd H' D o) := fun b u nb e => by
  rw [upd_ne (fun z => by rw [z, n] at e; cases e)]
  exact k b u nb e
/-! ### prices that are drawn -/
def Sb (i : Int) : Prop := i.natAbs < 2 ^ 100
def Sz (i : Int) : Prop := i.natAbs < 2 ^ 204
theorem Sb.mul {a b : Int} (h : Sb a) (g : Sb b) : (a * b).natAbs < 2 ^ 200 := by
  rw [Int.natAbs_mul]
  have := Nat.mul_lt_mul'' h g
  exact Nat.lt_of_lt_of_le this (by decide)
theorem Sb.wide {a b : Int} (h : Sb a) (g : Sb b) : CMulW a b := wide_mul h g (by decide) (by decide) (by decide)
def Bd (R : Rw) : Prop := ∀ r, r ∈ R → ∀ i : Int, some i ∈ r → Sz i
/-- tops: pairs of prices -/
structure TL (p D : Addr) (tv : List V) (H : Hp) : Prop where
  ne : D ≠ p
  at_ : H D = some (.lst tv)
  all : ∀ (j : Nat) (v : V), tv[j]? = some v → ∃ (t : Addr) (b y : Int), v = .ref t ∧ t ≠ p ∧ H t = some (.tup [.int b, .int y]) ∧ Sb b ∧ Sb y
theorem TL.keep {p D : Addr} {tv : List V} {H H' : Hp} (l : TL p D tv H) (k : Keep p H H') : TL p D tv H' := ⟨l.ne, k _ _ l.ne l.at_, fun j v e => by
  obtain ⟨t, b, y, e1, n, h, h1, h2⟩ := l.all j v e
  exact ⟨t, b, y, e1, n, k _ _ n h, h1, h2⟩⟩
theorem TL.put {p D L : Addr} {tv ws : List V} {H : Hp} {o : HO} (l : TL p D tv H) (hL : H L = some (.lst ws)) (n : D ≠ L) : TL p D tv (upd H L o) := ⟨l.ne, by rw [upd_ne n]; exact l.at_, fun j v e => by
  obtain ⟨t, b, y, e1, m, h, h1, h2⟩ := l.all j v e
  exact ⟨t, b, y, e1, m, by rw [upd_ne (fun z => by rw [z, hL] at h; cases h)]; exact h, h1, h2⟩⟩
/-- no list stands twice -/
def Dist (es : List V) : Prop := ∀ (i j : Nat) (a : Addr), es[i]? = some (V.ref a) → es[j]? = some (V.ref a) → i = j
theorem Dist.nil : Dist [] := fun i j a e _ => by simp at e
theorem Dist.more {es : List V} {b : Addr} (h : Dist es) (m : ∀ (j : Nat) (v : V), es[j]? = some v → v ≠ .ref b) : Dist (es ++ [.ref b]) := fun i j a e1 e2 => by
  have side : ∀ {k : Nat}, (es ++ [V.ref b])[k]? = some (.ref a) → (k < es.length ∧ es[k]? = some (.ref a)) ∨ (k = es.length ∧ a = b) := fun {k} e => by
    by_cases c : k < es.length
    · rw [List.getElem?_append_left c] at e
      exact .inl ⟨c, e⟩
    · rw [List.getElem?_append_right (by omega)] at e
      have : k - es.length = 0 := by
        have := (List.getElem?_eq_some_iff.mp e).1
        simp at this
        omega
      rw [this] at e
      cases (Option.some.inj e)
      exact .inr ⟨by omega, rfl⟩
  rcases side e1 with ⟨c1, f1⟩ | ⟨c1, f1⟩ <;> rcases side e2 with ⟨c2, f2⟩ | ⟨c2, f2⟩
  · exact h i j a f1 f2
  · exact absurd (by rw [f2]) (m i _ f1)
  · exact absurd (by rw [f1]) (m j _ f2)
  · omega
/-- the rows made so far -/
structure RK (p : Addr) (H0 H : Hp) (L : Addr) (es : List V) (R : Rw) : Prop where
  ne : L ≠ p
  nw : H0 L = none
  at_ : H L = some (.lst es)
  len : es.length = R.length
  row : ∀ (j : Nat) (v : V), es[j]? = some v → ∃ a, v = .ref a ∧ a ≠ p ∧ a ≠ L ∧ H0 a = none ∧ H a = some (.lst ((R.getD j []).map pV))
  dist : Dist es
theorem RK.keep {p L : Addr} {H0 H H' : Hp} {es : List V} {R : Rw} (l : RK p H0 H L es R) (k : Keep p H H') : RK p H0 H' L es R := ⟨l.ne, l.nw, k _ _ l.ne l.at_, l.len, fun j v e => by
  obtain ⟨a, e1, n1, n2, n3, h⟩ := l.row j v e
  exact ⟨a, e1, n1, n2, n3, k _ _ n1 h⟩, l.dist⟩
theorem RK.put {p L b : Addr} {H0 H : Hp} {es : List V} {R : Rw} {o : HO} (l : RK p H0 H L es R) (n : L ≠ b) (m : ∀ (j : Nat) (v : V), es[j]? = some v → v ≠ .ref b) : RK p H0 (upd H b o) L es R := ⟨l.ne, l.nw, by rw [upd_ne n]; exact l.at_, l.len, fun j v e => by
  obtain ⟨a, e1, n1, n2, n3, h⟩ := l.row j v e
  exact ⟨a, e1, n1, n2, n3, by rw [upd_ne (fun z => m j v e (by rw [e1, z]))]; exact h⟩, l.dist⟩
theorem RK.more {p L b : Addr} {H0 H : Hp} {es : List V} {R : Rw} {r : List (Option Int)} (l : RK p H0 H L es R) (h1 : b ≠ p) (h2 : b ≠ L) (h3 : H0 b = none) (h4 : H b = some (.lst (r.map pV))) (m : ∀ (j : Nat) (v : V), es[j]? = some v → v ≠ .ref b) : RK p H0 (upd H L (.lst (es ++ [.ref b]))) L (es ++ [.ref b]) (R ++ [r]) := by
  refine ⟨l.ne, l.nw, upd_same, by rw [List.length_append, List.length_append, l.len]; rfl, fun j v e => ?_, l.dist.more m⟩
  by_cases ji : j < es.length
  · rw [List.getElem?_append_left ji] at e
    obtain ⟨a, e1, n1, n2, n3, h⟩ := l.row j v e
    refine ⟨a, e1, n1, n2, n3, ?_⟩
    rw [upd_ne n2, h, List.getD_eq_getElem?_getD, List.getD_eq_getElem?_getD, List.getElem?_append_left (by rw [← l.len]; exact ji)]
  · rw [List.getElem?_append_right (by omega)] at e
    have : j = es.length := by
      have := (List.getElem?_eq_some_iff.mp e).1
      simp at this
      omega
    subst this
    rw [Nat.sub_self] at e
    cases (Option.some.inj e)
    refine ⟨b, rfl, h1, h2, h3, ?_⟩
    rw [upd_ne h2, h4, l.len, List.getD_eq_getElem?_getD, List.getElem?_append_right (Nat.le_refl _), Nat.sub_self]
    rfl
/-- a list of rows, new since H, the pool aside -/
structure NewK (p : Addr) (H H' : Hp) (r : Addr) (es : List V) (R : Rw) : Prop where
  ne : r ≠ p
  nw : H r = none
  rl : RL H' r es R
  rows : ∀ (i : Nat) (c : Addr), es[i]? = some (V.ref c) → H c = none ∧ c ≠ r ∧ c ≠ p
  dist : Dist es
theorem RK.new {p L : Addr} {H0 H : Hp} {es : List V} {R : Rw} (l : RK p H0 H L es R) : NewK p H0 H L es R := ⟨l.ne, l.nw, ⟨l.at_, l.len, fun i v e => by
  obtain ⟨a, e1, n1, n2, n3, h⟩ := l.row i v e
  exact ⟨a, e1, h⟩⟩, fun i c e => by
  obtain ⟨a, e1, n1, n2, n3, h⟩ := l.row i _ e
  cases e1
  exact ⟨n3, n2, n1⟩, l.dist⟩
theorem RL.keepK {p : Addr} {G H : Hp} {e : Addr} {es : List V} {R : Rw} (l : RL G e es R) (k : Keep p G H) (n : e ≠ p) (m : ∀ (i : Nat) (a : Addr), es[i]? = some (V.ref a) → a ≠ p) : RL H e es R := ⟨k _ _ n l.at_, l.len, fun i v h => by
  obtain ⟨a, e1, e2⟩ := l.row i v h
  exact ⟨a, e1, k _ _ (m i a (by rw [h, e1])) e2⟩⟩
abbrev hpOf {H H' : Hp} (_ : Same H H') : Hp := H'
/-- rows that may be read, tracked or written -/
structure RS (K : PySem.W.Frag) (G : Hp) (e : Addr) (es : List V) (R : Rw) : Prop where
  at_ : SqL K G e es
  len : es.length = R.length
  row : ∀ (i : Nat) (v : V), es[i]? = some v → ∃ a, v = .ref a ∧ SqL K G a ((R.getD i []).map pV)
theorem RL.rs {K : PySem.W.Frag} {G : Hp} {e : Addr} {es : List V} {R : Rw} (l : RL G e es R) : RS K G e es R := ⟨SqL.of l.at_, l.len, fun i v h => by
  obtain ⟨a, e1, e2⟩ := l.row i v h
  exact ⟨a, e1, SqL.of e2⟩⟩
theorem RS.get {K : PySem.W.Frag} {G : Hp} {e : Addr} {es : List V} {R : Rw} (l : RS K G e es R) {i : Nat} (h : i < R.length) : ∃ a, es[i]? = some (.ref a) ∧ SqL K G a ((R.getD i []).map pV) := by
  have hi : i < es.length := by rw [l.len]; exact h
  obtain ⟨a, e1, e2⟩ := l.row i _ (List.getElem?_eq_getElem hi)
  exact ⟨a, by rw [List.getElem?_eq_getElem hi, e1], e2⟩
theorem RS.same {K : PySem.W.Frag} {G H : Hp} {e : Addr} {es : List V} {R : Rw} (l : RS K G e es R) (s : Same G H) : RS K H e es R := ⟨s.seq l.at_, l.len, fun i v h => by
  obtain ⟨a, e1, e2⟩ := l.row i v h
  exact ⟨a, e1, s.seq e2⟩⟩
theorem RS.all {K : PySem.W.Frag} {G : Hp} {e : Addr} {es : List V} {R : Rw} (l : RS K G e es R) : DpAll K G es (R.map rowD) := by
  refine dpAll_of (by rw [List.length_map]; exact l.len) fun i v d hv hd => ?_
  obtain ⟨a, rfl, h⟩ := l.row i v hv
  rw [List.getElem?_map] at hd
  cases q : R[i]? with
  | none => rw [q] at hd; cases hd
  | some r =>
    rw [q] at hd
    cases (Option.some.inj hd)
    rw [List.getD_eq_getElem?_getD, q] at h
    exact .lst h (row_dp r)
theorem RS.dp {K : PySem.W.Frag} {G : Hp} {e : Addr} {es : List V} {R : Rw} (l : RS K G e es R) : Dp K G (.ref e) (rowsD R) := .lst l.at_ l.all
theorem dp_pV {K : PySem.W.Frag} {H : Hp} {v : V} {z : Option Int} (h : Dp K H v (pD z)) : v = pV z := by
  cases z with
  | none => cases h; rfl
  | some i => cases h; rfl
theorem dp_pVs {K : PySem.W.Frag} {H : Hp} : ∀ {vs : List V} {r : List (Option Int)}, DpAll K H vs (r.map pD) → vs = r.map pV
  | [], [], _ => rfl
  | _ :: _, [], h => by cases h
  | [], _ :: _, h => by cases h
  | v :: vs, z :: r, h => by
    cases h with
    | cons h1 h2 => rw [dp_pV h1, dp_pVs h2]; rfl
theorem RS.of {K : PySem.W.Frag} {G : Hp} {v : V} {R : Rw} (h : Dp K G v (rowsD R)) : ∃ e es, v = .ref e ∧ RS K G e es R := by
  obtain ⟨e, es, rfl, he, ha⟩ := Dp.lstAt h
  refine ⟨e, es, rfl, he, by have := DpAll.len ha; rwa [List.length_map] at this, fun i v hv => ?_⟩
  obtain ⟨d, hd, pd⟩ := DpAll.at ha hv
  rw [List.getElem?_map] at hd
  cases q : R[i]? with
  | none => rw [q] at hd; cases hd
  | some r =>
    rw [q] at hd
    cases (Option.some.inj hd)
    obtain ⟨a, vs, rfl, h1, h2⟩ := Dp.lstAt pd
    rw [dp_pVs h2] at h1
    exact ⟨a, rfl, by rw [List.getD_eq_getElem?_getD, q]; exact h1⟩
/-! ### small data that can be laid and compared -/
structure Ni (n : Nat) (d : PyData) : Prop where
  lay : d.canLay0 = true
  deep : d.depth ≤ n
  plain : d.plain = true
theorem Ni.mono {n m : Nat} {d : PyData} (h : Ni n d) (l : n ≤ m) : Ni m d := ⟨h.lay, Nat.le_trans h.deep l, h.plain⟩
theorem ni_all {n : Nat} : ∀ {ds : List PyData}, (∀ d, d ∈ ds → Ni n d) → PyData.canLayAll0 ds = true ∧ PyData.depthAll ds ≤ n ∧ PyData.plainAll ds = true
  | [], _ => ⟨by simp [PyData.canLayAll0], by simp [PyData.depthAll], rfl⟩
  | d :: ds, h => by
    obtain ⟨a, b, c⟩ := ni_all (ds := ds) fun e he => h e (List.mem_cons_of_mem _ he)
    have k := h d List.mem_cons_self
    refine ⟨by simp [PyData.canLayAll0, k.lay, a], ?_, by simp [PyData.plainAll, k.plain, c]⟩
    rw [PyData.depthAll]
    exact Nat.max_le.mpr ⟨k.deep, b⟩
theorem Ni.list {n : Nat} {ds : List PyData} (h : ∀ d, d ∈ ds → Ni n d) : Ni (n + 1) (.list ds) := by
  obtain ⟨a, b, c⟩ := ni_all h
  exact ⟨by simp only [PyData.canLay0]; exact a, by simp only [PyData.depth]; omega, by simp only [PyData.plain]; exact c⟩
theorem Ni.tuple {n : Nat} {ds : List PyData} (h : ∀ d, d ∈ ds → Ni n d) : Ni (n + 1) (.tuple ds) := by
  obtain ⟨a, b, c⟩ := ni_all h
  exact ⟨by simp only [PyData.canLay0]; exact a, by simp only [PyData.depth]; omega, by simp only [PyData.plain]; exact c⟩
theorem Ni.int {n : Nat} (i : Int) : Ni n (.int i) := ⟨by simp [PyData.canLay0], by simp [PyData.depth], rfl⟩
theorem Ni.non {n : Nat} : Ni n .none := ⟨by simp [PyData.canLay0], by simp [PyData.depth], rfl⟩
theorem Ni.bl {n : Nat} (b : Bool) : Ni n (.bool b) := ⟨by simp [PyData.canLay0], by simp [PyData.depth], rfl⟩
theorem Ni.pD {n : Nat} (z : Option Int) : Ni n (pD z) := by
  cases z
  · exact .non
  · exact .int _
theorem Ni.row {n : Nat} (r : List (Option Int)) : Ni (n + 1) (rowD r) := Ni.list fun d hd => by
  obtain ⟨z, _, rfl⟩ := List.mem_map.mp hd
  exact .pD z
theorem Ni.rows {n : Nat} (R : Rw) : Ni (n + 2) (rowsD R) := Ni.list fun d hd => by
  obtain ⟨r, _, rfl⟩ := List.mem_map.mp hd
  exact .row r
theorem Ni.shaped {n : Nat} {d : PyData} (h : Ni n d) (l : n ≤ 30) : SeqAt.shaped d = true := by
  have := h.deep
  simp only [SeqAt.shaped, h.lay, Bool.true_and]
  exact decide_eq_true (by omega)
theorem eqv_plain {d : PyData} (h : d.plain = true) : PyData.eqv d d = true := PySem.SeqAt.eqv_refl_plain d h
def spPrc : Sp := fun vs H Q _ => ∃ (p c : Addr) (ns : List Int) (z : Int), vs = [.ref p, .int z] ∧ PoolAt H p c ns ∧ ∀ (r : Int) (H' : Hp), Sb r → Keep p H H' → PoolAt H' p c ns → Q (.int r) H'
def spEnt : Sp := fun vs H Q _ => ∃ st q a b x y : Int, vs = [.int st, .int q, .int a, .int b, .int x, .int y] ∧ Sb q ∧ Sb a ∧ Sb b ∧ Sb x ∧ Sb y ∧ ∀ r : Int, Sz r → Q (.int r) H
/-- _law_rows(pool, most) -/
def spLRws : Sp := fun vs H Q _ => ∃ (p c : Addr) (ns : List Int) (m : Int), vs = [.ref p, .int m] ∧ PoolAt H p c ns ∧ 0 < m ∧ m ≤ 8 ∧
  ∀ (r : Addr) (es : List V) (R : Rw) (H' : Hp), Keep p H H' → PoolAt H' p c ns → NewK p H H' r es R → Gt R → Bd R → (R.length : Int) ≤ m → (wd R : Int) ≤ m → Q (.ref r) H'
/-- _law_copy(rows) -/
def spLCpy (K : PySem.W.Frag) : Sp := fun vs H Q _ => ∃ (a : Addr) (es : List V) (R : Rw), vs = [.ref a] ∧ RS K H a es R ∧ R.length ≤ 8 ∧ ∀ (r : Addr) (fs : List V) (H' : Hp), Same H H' → H r = none → RL H' r fs R → (∀ (i : Nat) (c : Addr), fs[i]? = some (V.ref c) → H c = none ∧ c ≠ r) → Q (.ref r) H'
/-- _law_pairs(rows) -/
def spLPrs (K : PySem.W.Frag) : Sp := fun vs H Q _ => ∃ (a : Addr) (es : List V) (R : Rw), vs = [.ref a] ∧ RS K H a es R ∧ Gt R ∧ ∀ (r : Addr) (us : List V) (H' : Hp), Same H H' → H r = none → H' r = some (.lst us) → PrsAt r H' us (cells R) → Q (.ref r) H'
end Pk
set_option Elab.async false
set_option linter.all false
set_option maxRecDepth 100000
set_option maxHeartbeats 1000000
namespace Pk
open PySem L2 PySem.Spec PyProof.Rows
/-! ### an own comparison as a test -/
section
variable {X : Cx} {CX : CXT} {k : Nat} {C : Addr} {sp : Sp} {E : L2.St → XK} {a b : Expr} {ta tb : TE} {pos : Pos}
theorem core_cmpOwn {op : CmpOp} (hop : ∀ a b, compareOp op a b = richCompare op a b) (F : Two X CX k C (cmpInfo op).2.1 sp) (hr : Room k X.A) (hx : ∀ σ, PassesAt CX X σ (E σ))
    {pins : List (Addr × Obj)} {σ : L2.St} {H2 : Hp} {s2 : Shared} {x y : V} {v u : Value} {Q : VK} (I2 : Inv X pins σ H2 s2) (rx : RelV x v) (ry : RelV y u) (q : rOwnC X.K C sp E σ x y H2 Q) :
    wpAny (model X.prog X.w) X.A (compareOp op v u) (EP X pins σ Q) X.xe s2 := by
  obtain ⟨f, fd, ps, M, F, B⟩ := F.ex
  obtain ⟨a, dx, fs, rfl, e, o, q⟩ := q
  cases rx
  obtain ⟨ox, od, J⟩ := own_at I2 e
  obtain ⟨tb, L, nf⟩ := other_looks (M := model X.prog X.w) I2 ry o fun _ _ _ _ _ => trivial
  obtain ⟨m, hF⟩ := I2.fr
  rw [hop]
  refine PySem.W.cmp_K (op := op) hr.units0 hF I2.ok.mod.kin J L nf M.at_ M.fn ?_
  refine wpAny_mono (own_run (us := [.ref a, u]) (vs := [.ref a, y]) F hr I2.env0 B (hx σ) I2 (.cons rfl (.cons ry .nil)) q) (fun w s' z => ?_) fun _ _ z => z
  obtain ⟨z, H3, I3, rz, qz⟩ := z
  exact SlX.cmpback rz ⟨z, H3, I3, rz, qz⟩
theorem pt_cmpOwn {op : CmpOp} (hop : ∀ a b, compareOp op a b = richCompare op a b) (F : Two X CX k C (cmpInfo op).2.1 sp) (hr : Room k X.A) (hx : ∀ σ, PassesAt CX X σ (E σ)) (ha : PE X a ta) (hb : PE X b tb) (hm : behindInMarks op b = false) :
    PT X (.Compare a [op] [b] pos) (tTest (tOp2 (rOwnC X.K C sp) E ta tb)) := by
  refine ⟨fun pins s σ H Q I h => ?_⟩
  refine wpAny_isTrue_Compare1 (binT ha hb I h fun v u s2 x y H2 I2 rx ry q => ?_) hm
  refine thn (core_cmpOwn hop F hr hx I2 rx ry q) fun c s3 ⟨z, H3, I3, r3, k, e, q3⟩ => ?_
  subst e
  cases r3
  exact wpAny_truthy_bool ⟨H3, I3, q3⟩
theorem core_neOwn (F : Two X CX k C "__eq__" sp) (hs : PySem.W.findIn X.K (.ref C) "__ne__" = some (some (.builtin "object.__ne__"))) (ho : PySem.W.mroIn X.K C (.type "object") = some true) (hr : Room (k + 1) X.A) (hx : ∀ σ, PassesAt CX X σ (E σ))
    {pins : List (Addr × Obj)} {σ : L2.St} {H2 : Hp} {s2 : Shared} {x y : V} {v u : Value} {Q : VK} (I2 : Inv X pins σ H2 s2) (rx : RelV x v) (ry : RelV y u) (q : rOwnNe X.K C sp E σ x y H2 Q) :
    wpAny (model X.prog X.w) X.A (compareOp .NotEq v u) (EP X pins σ Q) X.xe s2 := by
  obtain ⟨f, fd, ps, M, F, B⟩ := F.ex
  obtain ⟨a, dx, fs, rfl, e, o, q⟩ := q
  cases rx
  obtain ⟨ox, od, J⟩ := own_at I2 e
  obtain ⟨tb, L, nf⟩ := other_looks (M := model X.prog X.w) I2 ry o fun _ _ _ _ _ => trivial
  show wpAny _ _ (richCompare .NotEq _ _) _ _ _
  refine ne_by_eq hr.in1.units0 hr.units0 I2.kIn J L nf ho hs M.at_ M.fn ?_
  refine wpAny_mono (own_run (us := [.ref a, u]) (vs := [.ref a, y]) F hr.in1 I2.env0.in1 B (hx σ) I2 (.cons rfl (.cons ry .nil)) q) (fun w s' z => ?_) fun _ _ z => z
  obtain ⟨z, H3, I3, rz, c, rfl, qz⟩ := z
  cases (show w = Value.bool c from rz)
  exact ⟨c, rfl, .bl (!c), H3, I3, rfl, qz⟩
theorem pt_neOwn (F : Two X CX k C "__eq__" sp) (hs : PySem.W.findIn X.K (.ref C) "__ne__" = some (some (.builtin "object.__ne__"))) (ho : PySem.W.mroIn X.K C (.type "object") = some true) (hr : Room (k + 1) X.A) (hx : ∀ σ, PassesAt CX X σ (E σ)) (ha : PE X a ta) (hb : PE X b tb) (hm : behindInMarks .NotEq b = false) :
    PT X (.Compare a [.NotEq] [b] pos) (tTest (tOp2 (rOwnNe X.K C sp) E ta tb)) := by
  refine ⟨fun pins s σ H Q I h => ?_⟩
  refine wpAny_isTrue_Compare1 (binT ha hb I h fun v u s2 x y H2 I2 rx ry q => ?_) hm
  refine thn (core_neOwn F hs ho hr hx I2 rx ry q) fun c s3 ⟨z, H3, I3, r3, k, e, q3⟩ => ?_
  subst e
  cases r3
  exact wpAny_truthy_bool ⟨H3, I3, q3⟩
end
end Pk
set_option Elab.async false
set_option linter.all false
set_option maxRecDepth 100000
set_option maxHeartbeats 1000000
namespace Pk
open PySem L2 PySem.Spec PyProof.Rows
/-! ### either promise of a def -/
def spOr (a b : Sp) : Sp := fun vs H Q E => a vs H Q E ∨ b vs H Q E
theorem _root_.L2.FnOk.or {P : Program} {w : World} {K : PySem.W.Frag} {mg : Str → Option Value} {base : Heap} {CX : CXT} {k : Nat} {f : Addr} {fd : FuncData} {ps : List Str} {a b : Sp} (A : FnOk P w K mg base CX k f fd ps a) (B : FnOk P w K mg base CX k f fd ps b) : FnOk P w K mg base CX k f fd ps (spOr a b) :=
  ⟨fun vs H Q E h => h.elim (A.len vs H Q E) (B.len vs H Q E), fun A' outer s H args us vs Q E hr he hb hv hs => hs.elim (A.run A' outer s H args us vs Q E hr he hb hv) (B.run A' outer s H args us vs Q E hr he hb hv)⟩
theorem ErrOk.or {P : Program} {w : World} {K : PySem.W.Frag} {mg : Str → Option Value} {base : Heap} {k : Nat} {C fI : Addr} {a b : Sp} (A : ErrOk P w K mg base k C fI a) (B : ErrOk P w K mg base k C fI b) : ErrOk P w K mg base k C fI (spOr a b) :=
  ⟨fun A' outer s H us vs x Q hr he hv hx hs => hs.elim (A.run A' outer s H us vs x Q hr he hv hx) (B.run A' outer s H us vs x Q hr he hv hx)⟩
/-! ### the dict {0: 1} -/
abbrev kvs01 : List (Key × V) := [(.inl 0, .int 1)]
def D01 (H : Hp) (v : V) : Prop := ∃ a : Addr, v = .ref a ∧ H a = some (.dK kvs01)
theorem D01.later {H H' : Hp} {v : V} (s : Same H H') (h : D01 H v) : D01 H' v := let ⟨a, e, q⟩ := h; ⟨a, e, s _ _ q⟩
theorem D01.ty {K : PySem.W.Frag} {H : Hp} {v : V} (h : D01 H v) : TyX K H v (.type "dict") := by
  obtain ⟨a, rfl, q⟩ := h
  exact .base (.dK q)
/-- .. new since H0 -/
def D01n (H0 H : Hp) (v : V) : Prop := ∃ a : Addr, v = .ref a ∧ H0 a = none ∧ H a = some (.dK kvs01)
theorem D01n.at_ {H0 H : Hp} {v : V} (h : D01n H0 H v) : D01 H v := let ⟨a, e, _, q⟩ := h; ⟨a, e, q⟩
/-- own_copy of it -/
def spCopyD : Sp := fun vs H Q _ => ∃ v : V, vs = [v] ∧ D01 H v ∧ ∀ (v' : V) (H' : Hp), Same H H' → D01n H H' v' → Q v' H'
/-- an __init__ of one field, a copy of such a dict -/
def spErrD (K : PySem.W.Frag) (C : Addr) (f : Str) : Sp := fun vs H Q _ => ∃ (x : Addr) (v : V), vs = [.ref x, v] ∧ H x = some (exo x C none) ∧ D01 H v ∧
  ∀ (dx : Addr) (v' : V) (H' : Hp), H' x = some (exo x C (some dx)) → H' dx = some (exd dx [(f, v')]) → H dx = none → dx ≠ x → Keep x H H' → D01n H H' v' → Q .non H'
theorem exd_dk {dx : Addr} {fs : List (Str × V)} {kvs : List (Key × V)} : exd dx fs ≠ .dK kvs := fun z => by cases (show HO.ext _ = HO.dK kvs from z)
theorem dc_it {J : It} {n : Nat} {G : Hp → Prop} {Y : Nat → Hp → V → Hp → Prop} (w : Walk J n G Y) {g : TG} {tt : TT} {tk tv : TE} {vs : List Nat} {σ : L2.St} {H1 : Hp} {D : Addr} {Qd : Hp → Prop} (Pv : Nat → Hp → Prop) (h0 : Pv 0 (upd H1 D (.dK []))) (hG : ∀ i H, i ≤ n → Pv i H → G H)
    (hs : ∀ i x H H', i < n → Pv i H → Y i H x H' → g x (wipe σ vs) H' fun σ2 H2 => wipe σ2 vs = wipe σ vs ∧ tt σ2 H2 fun b H3 =>
      if b = true then tk σ2 H3 fun y H4 => tv σ2 H4 fun z H5 => ∃ kvs k, y = kV k ∧ H5 D = some (.dK kvs) ∧ kvs.length < sizeLine ∧ Pv (i + 1) (upd H5 D (.dK (putK kvs k z))) else Pv (i + 1) H3) (hd : ∀ H, Pv n H → Qd H) :
    ∃ W : Nat → Nat → Hp → Prop, (∃ m, W 0 m (upd H1 D (.dK []))) ∧ ∀ i m H, W i m H →
      (J.stop i H ∧ Qd H) ∨ (J.go i H ∧ ∃ Nx : Hp → Prop, (∀ H', Nx H' → ∃ m', m' < m ∧ W (i + 1) m' H') ∧ ∀ x H', J.yld i H x H' → g x (wipe σ vs) H' fun σ2 H2 => wipe σ2 vs = wipe σ vs ∧ tt σ2 H2 fun b H3 =>
        if b = true then tk σ2 H3 fun y H4 => tv σ2 H4 fun z H5 => ∃ kvs k, y = kV k ∧ H5 D = some (.dK kvs) ∧ kvs.length < sizeLine ∧ Nx (upd H5 D (.dK (putK kvs k z))) else Nx H3) :=
  lc_any w (B := fun Nx x H' => g x (wipe σ vs) H' fun σ2 H2 => wipe σ2 vs = wipe σ vs ∧ tt σ2 H2 fun b H3 => if b = true then tk σ2 H3 fun y H4 => tv σ2 H4 fun z H5 => ∃ kvs k, y = kV k ∧ H5 D = some (.dK kvs) ∧ kvs.length < sizeLine ∧ Nx (upd H5 D (.dK (putK kvs k z))) else Nx H3) Pv h0 hG hs hd
section
variable {P : Program} {w : World} {K : PySem.W.Frag} {mg : Str → Option Value} {base : Heap} {C fI cc fc : Addr} {fdc : FuncData} {F : NdefX.NF} {n : Nat} {f g : Str}
theorem err_oneD {msg : Str} {kd : Nat} {p0 p1 p2 p3 p4 p5 q0 q1 q2 q3 q4 q5 : Pos} (T : ErrC K C) (J : InitFn P K C fI cc F) (ms : mg "super" = none) (G : FnOk P w K mg base CX0 (n + 1) fc fdc ["value"] spCopyD) (mc : mg "own_copy" = some (.ref fc)) (kc : PySem.W.keepIn K (.ref fc) = true)
    (bc : Binds K fdc ["value"] []) (S : NdefX.NScope ["self", f, "__class__"] ["self", f] ["__class__"] F.scope)
    (hB : F.body = .Expr (.Call (.Attribute (.Call (.Name "super" p0) [] [] p1) "__init__" p2) [.Constant (.str msg) kd p3] [] p4) p5 :: [.Assign [.Attribute (.Name "self" q0) f q1] (.Call (.Name "own_copy" q2) [.Name f q3] [] q4) q5])
    (hsg : F.scope.names.lookup ("super" : Str) = some .globalImplicit) (hog : F.scope.names.lookup ("own_copy" : Str) = some .globalImplicit) (free : PySem.W.findIn K (.ref C) f = some none)
    (hb : ∀ (kV doc pm ct : Value) (an : Option Addr) (us : List Value), us.length = 2 → bindArgs (PySem.W.fnX F.name F.qual F.params F.body F.scope F.cl .none kV doc pm an (.ref F.c) ct) ⟨us, []⟩ = pure ((["self", f] : List Str).zip us))
    {pl : Sem Bool} (he : ∀ env : Env, eval (.Call (.Attribute (.Call (.Name "super" p0) [] [] p1) "__init__" p2) [.Constant (.str msg) kd p3] [] p4) env = (do
      let ov ← attributeBase (.Call (.Name "super" p0) [] [] p1) "__init__" env (eval (.Call (.Name "super" p0) [] [] p1) env)
      standAt p2.atName
      let (f, first) ← holding [ov] (getMethod ov "__init__" pl)
      callWith p4 f first (backTo p4 (starEach [.Constant (.str msg) kd p3] env)) []))
    (fd : (f == ("__debug__" : Str)) = false) (fcd : (f == ("__classdict__" : Str)) = false) : ErrOk P w K mg base (n + 2) C fI (spErrD K C f) := by
  refine ⟨fun A outer s H us vs x Q hr e0 r ex hsp => ?_⟩
  obtain ⟨x', v, evs, _, hv, k⟩ := hsp
  obtain ⟨rfl, rfl⟩ : x = x' ∧ vs = [v] := by
    have z := List.cons.inj evs
    exact ⟨V.ref.inj z.1, z.2⟩
  have lu : us.length = 2 := by rw [← r.length]; rfl
  refine init_run (k := n + 1) (rest := [.Assign [.Attribute (.Name "self" q0) f q1] (.Call (.Name "own_copy" q2) [.Name f q3] [] q4) q5]) (x := x) T J ms S hB hsg (S.par _ (by simp)) hr e0 (fun kV doc pm ct an => BindsTo.of_eq (hb kV doc pm ct an us lu)) r rfl rfl rfl ex he fun hr' => ?_
  refine ⟨_, pss_one (ps_errSet (pe_var (i := 0) rfl (.inl (S.par _ (by simp)))) (pe_call G hr' hog mc kc bc .nil pass0 (pa_cons (pe_var (i := 1) rfl (.inl (S.par _ (by simp))) fd fcd) pa_nil)) ?sw), ?_⟩
  case sw => rfl
  refine r_errSet ?_
  refine r_call ?_
  refine r_cons ?_
  refine r_var rfl ?_
  refine r_nil ?_
  refine ⟨v, rfl, hv, fun v' H1 s1 o1 => ?_⟩
  refine r_var rfl ?_
  refine ⟨x, C, rfl, T, free, .inl ⟨s1 _ _ ex, fun dx hdx ne => ?_⟩⟩
  obtain ⟨b, e1, n1, h1⟩ := o1
  refine k dx v' _ upd_same (by rw [upd_ne ne, upd_same]) (s1.free hdx) ne (Keep.own (Keep.new (Keep.same s1) hdx)) ⟨b, e1, n1, ?_⟩
  have nx : b ≠ x := fun z => by rw [z, ex] at n1; cases n1
  have nd : b ≠ dx := fun z => by rw [z, hdx] at h1; cases h1
  rw [upd_ne nx, upd_ne nd]
  exact h1
theorem r_errD {σ : L2.St} {H : Hp} {Q : XK} {v : V} (hv : D01 H v) (q : ∀ (dd : Addr) (v' : V) (H' : Hp), Same H H' → H dd = none → H' dd = some (.xd [(f, v')]) → D01n H H' v' → Q (.ref C) (some dd) H') :
    [v].length ≤ 1000 ∧ ∀ x, H x = none → spErrD K C f (.ref x :: [v]) (upd H x (exo x C none)) (fun v H2 => v = .non ∧ ∃ (d : Addr) (fs : List (Str × V)), H2 x = some (exo x C (some d)) ∧ H2 d = some (exd d fs) ∧ H d = none ∧ Q (.ref C) (some d) (upd (del H2 x) d (.xd fs))) (fun _ _ _ => False) := by
  refine ⟨by show 1 ≤ 1000; decide, fun x hx => ?_⟩
  have s0 : Same H (upd H x (exo x C none)) := Same.up (Same.refl H) hx
  refine ⟨x, v, rfl, upd_same, hv.later s0, fun dx v' H' h1 h2 h3 ne h4 h5 => ⟨rfl, dx, _, h1, h2, ?_, ?_⟩⟩
  · rw [upd_ne ne] at h3; exact h3
  · rw [upd_ne ne] at h3
    obtain ⟨b, e1, n1, hb⟩ := h5
    have nx : b ≠ x := fun z => by rw [z, upd_same] at n1; cases n1
    have nd : b ≠ dx := fun z => by
      rw [z, h2] at hb
      exact exd_dk (Option.some.inj hb)
    refine q dx v' _ (fun b o e => ?_) h3 upd_same ⟨b, e1, s0.free n1, ?_⟩
    · have nb : b ≠ x := ne_of_none e hx
      rw [upd_ne (ne_of_none e h3), del_ne nb]
      exact h4 b o nb (s0 b o e)
    · rw [upd_ne nd, del_ne nx]
      exact hb
end
end Pk
set_option Elab.async false
set_option linter.all false
set_option maxRecDepth 100000
set_option maxHeartbeats 1000000
namespace Pk
open PySem L2 PySem.Spec PyProof.Rows
/-- a clause's ends: its name is gone behind it -/
def goneAt (i : Nat) (D : Ends) : Ends := { nx := fun τ G => D.nx (τ.set i none) G, rt := D.rt, bk := fun τ G => D.bk (τ.set i none) G, ct := fun τ G => D.ct (τ.set i none) G }
abbrev Cl := Value × Nat × (Addr → Value → Option Addr → TS)
/-- what several clauses 'except c as n' wish of an exception of the body, one behind another -/
def wAsMany (K : PySem.W.Frag) (Wout : WX) (D : Ends) : List Cl → WX
  | [] => Wout
  | (c, i, ts) :: r => fun k d τ G => ∃ b, PySem.W.exmOne K k c = some b ∧ (b = true → ∀ a, G a = none → ts a k d (goneAt i D) (τ.set i (some (.ref a))) G) ∧ (b = false → wAsMany K Wout D r k d τ G)
inductive ClsOk (X : Cx) : List ExceptHandler → List Cl → Prop
  | nil : ClsOk X [] []
  | cons {x n : Str} {c : Value} {i : Nat} {ts : Addr → Value → Option Addr → TS} {b₀ : Stmt} {su : List Stmt} {np ps : Pos} {hds : List ExceptHandler} {l : List Cl} (hc : Names X x c) (hi : X.N[i]? = some n) (hk : X.env.kindOf n = some .local)
      (hsu : ∀ (a : Addr) (oe : Obj) (k : Value) (d : Option Addr) (pn : List (Addr × Obj)), Zc k d oe → (∃ vs, oe.data = .fields vs) → PSs (X.suite a ((a, oe) :: pn)) (b₀ :: su) (ts a k d)) (r : ClsOk X hds l) :
      ClsOk X (.ExceptHandler (some (.Name x np)) (some n) (b₀ :: su) ps :: hds) ((c, i, ts) :: l)
  /-- a clause that nothing comes to -/
  | never {x : Str} {nm : Option Str} {c : Value} {su : List Stmt} {np ps : Pos} {hds : List ExceptHandler} {l : List Cl} (hc : Names X x c) (r : ClsOk X hds l) :
      ClsOk X (.ExceptHandler (some (.Name x np)) nm su ps :: hds) ((c, 0, fun _ _ _ _ _ _ => False) :: l)
section
variable {X : Cx} {body : List Stmt} {h₀ : ExceptHandler} {hds : List ExceptHandler} {l : List Cl} {pos : Pos} {tb : WX → TS} {Wout : WX}
theorem ps_try_asMany (hs : X.stack = X.env :: X.outer) (hf : X.env.frame = some X.env.locals) (hN : X.N.Nodup) (tk : Takes X Wout)
    (hb : ∀ (W : WX) (pn : List (Addr × Obj)) (xe : Value → Shared → Prop), Takes (X.tr pn xe) W → PassesOwn (model X.prog X.w) X.A X.env xe → PSs (X.tr pn xe) body (tb W)) (hh : ClsOk X (h₀ :: hds) l) :
    PS X (.Try body (h₀ :: hds) [] [] pos) (fun D τ G => tb (wAsMany X.K Wout D l) D τ G) := by
  refine ⟨fun pins s τ G D I h => ?_⟩
  have oki := I.ok
  have frm : X.A.frames = some (X.env :: X.outer) := oki.frames.trans (congrArg some hs)
  refine wpAny_Try_except (wpAny_mono ((hb (wAsMany X.K Wout D l) (X.pn ++ pins) (fun e s₁ => wpAny (model X.prog X.w) X.A (noteFrame e X.env) (fun _ s₂ => wpAny (model X.prog X.w) X.A (setFlight e none)
    (fun _ s₃ => wpAny (model X.prog X.w) X.A (handleBy e X.env (h₀ :: hds)) (SP X pins D) X.xe s₃) X.xe s₂) X.xe s₁) (fun u st xx => ?caught) PassesOwn.looking).run [] s τ G D (I.toTry _) h) (fun fl st hsp => ?through) (fun e st he => he))
  case through =>
    cases fl with
    | next => obtain ⟨τ', G', J, q⟩ := hsp; exact wpAny_execs_nil ⟨τ', G', J.ofTry oki, q⟩
    | brk => obtain ⟨τ', G', J, q⟩ := hsp; exact ⟨τ', G', J.ofTry oki, q⟩
    | cont => obtain ⟨τ', G', J, q⟩ := hsp; exact ⟨τ', G', J.ofTry oki, q⟩
    | ret u => obtain ⟨v, τ', G', J, r, q⟩ := hsp; exact ⟨v, τ', G', J.ofTry oki, r, q⟩
  case caught =>
    obtain ⟨a, B, sI, pins', τ', G', k, d, rfl, J', nb, up, sky, na, os, ag, w⟩ := xx
    have J : Inv X pins τ' G' sI := J'.ofTry oki
    have skyB : Sky B (X.env :: X.outer) a (Zc k d) X.env.locals st.heap := hs ▸ sky
    show wpAny (model X.prog X.w) X.A (noteFrame (.ref a) X.env) _ _ _
    refine Sky.land Zc.steady frm hf skyB fun h3 fl3 up3 => ?_
    have J3 : Inv X pins τ' G' { st with heap := h3 } := J.landed nb fl3.1 (up.trans up3) os ag
    obtain ⟨oe3, vs3, he3, hz3, hd3⟩ := fl3.there
    have off : a ∉ frs (X.env :: X.outer) := fun hm => by
      obtain ⟨_, o', e', hnf⟩ := fl3.2.2.1.mem hm
      cases he3.symm.trans e'; exact hnf _ hd3
    have nL : a ≠ X.env.locals := fun z => off (List.mem_filterMap.mpr ⟨X.env, List.mem_cons_self, by rw [hf, z]⟩)
    have nF : a ∉ X.fs := fun hm => let ⟨e, he, q⟩ := List.mem_filterMap.mp hm; off (List.mem_filterMap.mpr ⟨e, List.mem_cons_of_mem _ he, q⟩)
    have S3 := J3.suite he3 hd3 na nL nF
    suffices go : ∀ {ks : List ExceptHandler} {m : List Cl}, ClsOk X ks m → wAsMany X.K Wout D m k d τ' G' → wpAny (model X.prog X.w) X.A (handleBy (.ref a) X.env ks) (SP X pins D) X.xe { st with heap := h3 } from go hh w
    intro ks m hk
    induction hk with
    | nil =>
      intro w; refine wpAny_handleBy_nil ?_
      obtain ⟨_, _, _, oe, vs, T, oT, tz, he, hz, hd, h1, hr⟩ := id fl3
      unfold PySem.passOn
      refine wpAny_bind (wpAny_field he hd h1 ?_)
      rw [if_neg (by simp : ¬ ((Value.ref T == Value.none) = true))]
      have out : wpAny (model X.prog X.w) X.A (setFlight (.ref a) X.env.frame) (fun _ s4 => wpAny (model X.prog X.w) X.A (throw (.ref a) : Sem Flow) (SP X pins D) X.xe s4) X.xe { st with heap := h3 } := by
        rw [hf]; refine HandSPX.setFlight_upZ fl3 fun h4 hh4 up4 => wpAny_throw (tk _ _ ?_)
        exact ⟨a, B, sI, pins, τ', G', k, d, rfl, J, nb, (up.trans up3).trans up4, .inr (.inr (hs.symm ▸ hh4)), na, os, ag, w⟩
      first | exact wpAny_bind (wpAny_pure (wpAny_bind out)) | exact wpAny_bind out
    | @never x nm c su np ps hds2 l2 hc r ih =>
      intro w
      obtain ⟨b, hb1, yes, no⟩ := w
      refine wpAny_handleBy_cons (codeAny_handlers_test ?_) (by intro q; cases q)
      have tyL : PySem.W.Looks (model X.prog X.w) h3 (typeOf (.ref a)) k := fun A Q E s kk q => wpAny_typeOf_ref (kk _ _ he3) (hz3.1.symm ▸ q)
      have mt := PySem.W.exm_one (M := model X.prog X.w) (J3.kIn) tyL hb1
      have ask : ∀ {Q : Value → Shared → Prop} {E : Value → Shared → Prop}, Q c { st with heap := h3 } → wpAny (model X.prog X.w) (X.A.mark (some (.ref a))) (eval (.Name x np) X.env) Q E { st with heap := h3 } := fun {Q E} q => by
        obtain ⟨hg, hdb, g | ⟨g, hv, hnn⟩⟩ := hc
        · exact ld_glob (X := X.suite a ((a, oe3) :: (X.pn ++ pins))) S3 hg g q hdb
        · exact ld_blt (X := X.suite a ((a, oe3) :: (X.pn ++ pins))) S3 hg g hv q hnn hdb
      refine ask (mt.here ?_)
      cases b with
      | false => show wpAny _ X.A (handleBy (.ref a) X.env hds2) _ _ _; exact ih (no rfl)
      | true => exact (yes rfl a na).elim
    | @cons x n c i ts b₀ su np ps hds2 l2 hc hi hln hsu r ih =>
      intro w
      obtain ⟨b, hb1, yes, no⟩ := w
      refine wpAny_handleBy_cons (codeAny_handlers_test ?_) (by intro q; cases q)
      have tyL : PySem.W.Looks (model X.prog X.w) h3 (typeOf (.ref a)) k := fun A Q E s kk q => wpAny_typeOf_ref (kk _ _ he3) (hz3.1.symm ▸ q)
      have mt := PySem.W.exm_one (M := model X.prog X.w) (J3.kIn) tyL hb1
      have ask : ∀ {Q : Value → Shared → Prop} {E : Value → Shared → Prop}, Q c { st with heap := h3 } → wpAny (model X.prog X.w) (X.A.mark (some (.ref a))) (eval (.Name x np) X.env) Q E { st with heap := h3 } := fun {Q E} q => by
        obtain ⟨hg, hdb, g | ⟨g, hv, hnn⟩⟩ := hc
        · exact ld_glob (X := X.suite a ((a, oe3) :: (X.pn ++ pins))) S3 hg g q hdb
        · exact ld_blt (X := X.suite a ((a, oe3) :: (X.pn ++ pins))) S3 hg g hv q hnn hdb
      refine ask (mt.here ?_)
      cases b with
      | false => show wpAny _ X.A (handleBy (.ref a) X.env hds2) _ _ _; exact ih (no rfl)
      | true =>
        refine codeAny_handlers_suite_as (HandSPX.lands_againZ fl3 fun h4 fl4 up4 => ?_)
        have J4 : Inv X pins τ' G' { st with heap := h4 } := J.landed nb fl4.1 ((up.trans up3).trans up4) os ag
        obtain ⟨oe4, vs4, he4, hz4, hd4⟩ := fl4.there
        have S4 := J4.suite he4 hd4 na nL nF
        refine store_ok (X := X.suite a ((a, oe4) :: (X.pn ++ pins))) (v := .ref a) S4 hN hi (.inl hln) rfl (fun s5 S5 => ?_) (.inr hln)
        refine wpAny_mono ((hsu a oe4 k d (X.pn ++ pins) hz4 ⟨_, hd4⟩).run [] s5 _ G' _ S5 (yes rfl a na)) (fun f s6 hsp => ?_) (fun _ _ z => False.elim z)
        have fin : ∀ {τ6 : L2.St} {G6 : Hp} {Q : Shared → Prop}, Inv (X.suite a ((a, oe4) :: (X.pn ++ pins))) [] τ6 G6 s6 → (∀ s7, Inv X pins (τ6.set i none) G6 s7 → Q s7) →
            wpAny (model X.prog X.w) X.A (do bindName X.env n .none; unbindBehindTheSuite X.env n ps) (fun _ s7 => Q s7) X.xe s6 := fun {τ6 G6 Q} S6 hq => gone_ok (S6.unsuite oki) hN hi hln hq
        cases f with
        | next => obtain ⟨τ6, G6, S6, q6⟩ := hsp; exact fin S6 fun s7 J7 => ⟨_, _, J7, q6⟩
        | brk => obtain ⟨τ6, G6, S6, q6⟩ := hsp; exact fin S6 fun s7 J7 => ⟨_, _, J7, q6⟩
        | cont => obtain ⟨τ6, G6, S6, q6⟩ := hsp; exact fin S6 fun s7 J7 => ⟨_, _, J7, q6⟩
        | ret u => obtain ⟨v6, τ6, G6, S6, r6, q6⟩ := hsp; exact fin S6 fun s7 J7 => ⟨_, _, _, J7, r6, q6⟩
end
end Pk
set_option Elab.async false
set_option linter.all false
set_option maxRecDepth 100000
set_option maxHeartbeats 1000000
namespace Pk
open PySem L2 PySem.Spec PyProof.Rows
/-! ### a method is called where what it raises is wished for at the caller's slots -/
def tMethT (C : Addr) (m : Str) (sp : Sp) (E : L2.St → XK) (ta : TE) (t : TA) : TE := fun σ H Q => ta σ H fun x H1 => ∃ a dx fs, x = .ref a ∧ H1 a = some (.ins C dx fs) ∧ fs.lookup m = none ∧ t σ H1 fun vs H2 => sp (x :: vs) H2 Q (E σ)
theorem r_methT {C : Addr} {m : Str} {sp : Sp} {E : L2.St → XK} {ta : TE} {t : TA} {σ : L2.St} {H : Hp} {Q : VK} (h : ta σ H fun x H1 => ∃ a dx fs, x = .ref a ∧ H1 a = some (.ins C dx fs) ∧ fs.lookup m = none ∧ t σ H1 fun vs H2 => sp (x :: vs) H2 Q (E σ)) : tMethT C m sp E ta t σ H Q := h
theorem pe_methT {X : Cx} {CX : CXT} {k : Nat} {f C : Addr} {fd : FuncData} {ps : List Str} {sp : Sp} {E : L2.St → XK} {m : Str} {pos apos : Pos} {o e : Expr} {es : List Expr} {ta : TE} {t : TA} {pl : Sem Bool} (he : PE X o ta) (c : Cls X.K C) (hm : Meth X.K C m f)
    (F : FnOk X.prog X.w X.K X.mg X.base CX k f fd ps sp) (hr : Room k X.A) (hb : Binds X.K fd ps []) (hx : ∀ σ, PassesAt CX X σ (E σ)) (ha : PA X (e :: es) t)
    (hst : starEach (e :: es) X.env = (false, eval e X.env) :: starEach es X.env := by rfl) (hpl : (backTo pos (starEach es X.env)).any (·.1) = false := by rfl)
    (ht : eval (.Call (.Attribute o m apos) (e :: es) [] pos) X.env = (do
      let ov ← eval o X.env
      standAt apos.atName
      let (f, first) ← holding [ov] (getMethod ov m pl)
      callWith pos f first (backTo pos (starEach (e :: es) X.env)) (backToKw pos (keywordEach [] X.env))) := by rfl) :
    PE X (.Call (.Attribute o m apos) (e :: es) [] pos) (tMethT C m sp E ta t) := by
  refine ⟨fun pins s σ H Q I h => ?_⟩
  refine PySem.W.methodCall_KW (pl := pl) (thn (he.run pins s σ H _ I h) fun u s1 ⟨x, H1, I1, rx, a, dx, fs, ex, ea, l, q⟩ => ?_) ht
  subst ex
  obtain rfl : u = Value.ref a := rx
  refine getmeth_ok I1 ea c hm l ?_
  refine PySem.W.callWith_K (first := [.ref a]) (h₀ := X.base) I.ok.mod.kin hm.kp (thn (ha.run pos pins s1 σ H1 _ I1 q) fun us s2 ⟨vs, H2, I2, r, q2⟩ => ⟨I2.kIn, ?_⟩) hst hpl
  exact run_fnS (us := .ref a :: us) (vs := .ref a :: vs) F hr hb (hx σ) I2 (.cons rfl r) q2
end Pk
set_option Elab.async false
set_option linter.all false
set_option maxRecDepth 100000
set_option maxHeartbeats 1000000
namespace Pk
open PySem L2 PySem.Spec PyProof.Rows
/-- x not in a list of pairs -/
def rNotInP (K : PySem.W.Frag) : R2 := fun x y H Q => ∃ z zs, Dp K H x (prD z) ∧ Dp K H y (prsD zs) ∧ Q (.bl (!decide (z ∈ zs))) H
theorem op_notInP {X : Cx} (room : X.A.units + 64 < cLine) : OpR X (compareOp .NotIn) (rNotInP X.K) := by
  intro pn sh τ G a b va vb R J ra rb want
  obtain ⟨z, zs, da, db, q⟩ := want
  obtain ⟨as, r1⟩ := Dp.reads J _ a va da ra
  obtain ⟨bs, r2⟩ := Dp.reads J _ b vb db rb
  have deep := prs_depthAll zs
  have e := PySem.W.any_datum (α := Int × Int) zs z
  refine SeqAt.notIn_list_data r2 r1 (prs_plainAll zs) (pr_plain z) (by omega) ⟨.bl _, G, J, rfl, ?_⟩
  rw [show ((zs.map prD).any fun y => PyData.eqv y (prD z)) = decide (z ∈ zs) from e.trans (decide_eq_decide.mpr Iff.rfl)]
  exact q
section
variable {X : Cx} {CX : CXT} {k : Nat} {C : Addr} {sp : Sp} {E : L2.St → XK} {a b : Expr} {ta tb : TE} {pos : Pos}
/-- y not in x, x of an own class -/
theorem pt_notIn2 (F : Two X CX k C "__contains__" sp) (hr : Room k X.A) (hx : ∀ σ, PassesAt CX X σ (E σ)) (ha : PE X a ta) (hb : PE X b tb) (hm : behindInMarks .NotIn b = false) :
    PT X (.Compare a [.NotIn] [b] pos) (tTest (tOp2 (rOwnIn C sp true) E ta tb)) := by
  obtain ⟨f, fd, ps, M, F, B⟩ := F.ex
  refine ⟨fun pins s σ H Q I h => ?_⟩
  refine wpAny_isTrue_Compare1 (binT ha hb I h fun v u s2 y x H2 I2 ry rx q => ?_) hm
  obtain ⟨a, dx, fs, rfl, e, q⟩ := q
  cases rx
  obtain ⟨ox, od, J⟩ := own_at I2 e
  obtain ⟨m, hF⟩ := I2.fr
  refine PySem.W.notIn_K hF I2.ok.mod.kin J M.at_ M.fn ?_
  refine wpAny_mono (own_run (us := [.ref a, v]) (vs := [.ref a, y]) F hr I2.env0 B (hx σ) I2 (.cons rfl (.cons ry .nil)) q) (fun w s' z => ?_) fun _ _ z => z
  obtain ⟨z, H3, I3, rz, c, rfl, qz⟩ := z
  cases (show w = Value.bool c from rz)
  obtain ⟨k2, e2, q2⟩ := qz
  cases e2
  exact wpAny_pure (wpAny_truthy_bool ⟨H3, I3, q2⟩)
end
theorem cutAt {vs : List V} {i : Nat} (h : i ≤ vs.length) : cutV vs none (some (i : Int)) = vs.take i := by
  have e : min (i : Int).toNat vs.length = i := by simp; omega
  have n : ¬ (i : Int) < 0 := by omega
  simp only [cutV, HT.sIx, if_neg n, e, List.drop_zero, Nat.sub_zero]
theorem notBefore {zs : List Pr} {z : Pr} {i : Nat} (nd : zs.Nodup) (h : zs[i]? = some z) : z ∉ zs.take i := by
  intro m
  obtain ⟨j, hj, e⟩ := List.getElem_of_mem m
  rw [List.length_take] at hj
  rw [List.getElem_take] at e
  obtain ⟨hi, e2⟩ := List.getElem?_eq_some_iff.mp h
  exact (List.pairwise_iff_getElem.mp nd) j i (by omega) hi (by omega) (by rw [e, e2])
end Pk
set_option Elab.async false
set_option linter.all false
set_option maxRecDepth 100000
set_option maxHeartbeats 1000000
namespace Pk
open PySem L2 PySem.Spec PyProof.Rows
/-- how often a pair is in a list of pairs -/
def rCountP (K : PySem.W.Frag) : V → List V → Hp → VK → Prop := fun x xs H Q => ∃ (a : Addr) (y : V) (z : Pr) (zs : List Pr), x = V.ref a ∧ xs = [y] ∧ Dp K H (V.ref a) (prsD zs) ∧ Dp K H y (prD z) ∧ Q (.int ((zs.countP fun u => decide (u = z) : Nat) : Int)) H
theorem mt_countP {X : Cx} (hu : X.A.units + 64 < cLine) : MtR X "list.count" (rCountP X.K) := by
  intro pins s σ H x xs v us Q I rx rxs h
  obtain ⟨a, y, z, zs, rfl, rfl, hl, hy, q⟩ := h
  cases rx
  cases rxs with
  | cons ry rt =>
    rename_i uy ut
    cases rt
    obtain ⟨bs, r1⟩ := Dp.reads I (prD z) y uy hy ry
    cases hl with
    | lst hs ha =>
      obtain ⟨its, rv, ⟨⟨cls, dd, data, sls⟩, n, ho, hc, hdn, hdt⟩, hlen⟩ := I.list hs
      simp only at hc hdt
      subst hc hdt
      obtain ⟨as, h4⟩ := Dp.readsAll I _ _ its ha rv
      have e : ((zs.map prD).countP fun y => PyData.eqv y (prD z)) = zs.countP fun u => decide (u = z) := PySem.W.count_datum (α := Int × Int) zs z
      have dp := prs_depthAll zs
      refine SeqAt.count_list_data (vs := its.toArray) ⟨_, ho, rfl, n, rfl⟩ (by simpa using h4) r1 (prs_plainAll zs) (pr_plain z) (by omega) ?_
      rw [e]
      exact ⟨.int _, H, I.tok _, ⟨_, rfl⟩, q⟩
theorem cutDrop {vs : List V} {i : Nat} (h : i ≤ vs.length) : cutV vs (some (i : Int)) none = vs.drop i := by
  have e : min (i : Int).toNat vs.length = i := by simp; omega
  have n : ¬ (i : Int) < 0 := by omega
  have e2 : min vs.length vs.length = vs.length := by omega
  simp only [cutV, HT.sIx, if_neg n, e]
  first | rfl | (rw [List.take_of_length_le (by rw [List.length_drop]; omega)]) | simp
/-- a def with one keyword-only parameter, called with it -/
structure Dkw1 (P : Program) (w : World) (K : PySem.W.Frag) (mg : Str → Option Value) (base : Heap) (CX : CXT) (x : Str) (k : Nat) (ps : List Str) (n : Nat) (kw : Str) (sp : Sp) (f : Addr) (fd : FuncData) : Prop where
  at_ : mg x = some (.ref f)
  kp : PySem.W.keepIn K (.ref f) = true
  ok : FnOk P w K mg base CX k f fd ps sp
  kb : KBn K fd ps n [kw] (fun us ws => us ++ ws) (fun vs zs => vs ++ zs)
  dd : ∃ ds, Vals [V.str "even"] ds ∧ Binds K fd ps ds
abbrev Dkw (P : Program) (w : World) (K : PySem.W.Frag) (mg : Str → Option Value) (base : Heap) (CX : CXT) (x : Str) (k : Nat) (ps : List Str) (n : Nat) (kw : Str) (sp : Sp) : Prop := ∃ f fd, Dkw1 P w K mg base CX x k ps n kw sp f fd
theorem pe_kd {X : Cx} {k j n : Nat} {ps : List Str} {kw : Str} {sp : Sp} {x : Str} {p pos : Pos} {e : Expr} {es : List Expr} {kws : List Keyword} {t tk : TA}
    (D : Dkw X.prog X.w X.K X.mg X.base CX0 x k ps n kw sp) (hr : Room j X.A) (l : k ≤ j) (ha : PA X (e :: es) t) (hkw : PK X kws tk) (hg : Gl X x := by rfl)
    (hall : (backToKw pos (keywordEach kws X.env)).all (·.1.isSome) = true := by rfl) (hks : (backToKw pos (keywordEach kws X.env)).filterMap (·.1) = [kw] := by rfl) (hdb : (x == ("__debug__" : Str)) = false := by decide)
    (he : starEach (e :: es) X.env = (false, eval e X.env) :: starEach es X.env := by rfl) (hpl : ((backTo pos (starEach (e :: es) X.env)).any (·.1) || (backToKw pos (keywordEach kws X.env)).any (·.1.isNone)) = false := by rfl) :
    PE X (.Call (.Name x p) (e :: es) kws pos) (tKwS n [kw].length sp (fun vs zs => vs ++ zs) (fun _ => E0) t tk) := by
  obtain ⟨f, fd, D⟩ := D
  exact pe_kwS D.ok (hr.mono l) D.at_ D.kp D.kb (passN pass0) ha hkw hg hall hks hdb he hpl
end Pk
set_option Elab.async false
set_option linter.all false
set_option maxRecDepth 100000
set_option maxHeartbeats 1000000
namespace Pk
open PySem L2
local macro_rules | `(tactic| walk_at "rd") => `(tactic| repeat (first
  | with_reducible refine r_seq ?_ | with_reducible refine r_nxt ?_ | with_reducible refine r_asg ?_ | with_reducible refine r_to ?_ | with_reducible refine r_ret ?_ | with_reducible refine r_for ?_ | with_reducible refine r_lc ?_ | with_reducible refine r_rng1 ?_ | with_reducible refine r_list ?_ | with_reducible refine r_tupI ?_ | with_reducible refine r_drop ?_ | with_reducible refine r_ifs ?_
  | with_reducible refine r_op ?_ | with_reducible refine r_c ?_ | with_reducible refine r_var rfl ?_ | with_reducible refine r_I0 ?_ | with_reducible refine r_un ?_ | with_reducible refine r_U ?_ | with_reducible refine r_make ?_ | with_reducible refine r_sub ?_
  | with_reducible refine r_nil ?_ | with_reducible refine r_cons ?_ | with_reducible refine r_cb ?_ | with_reducible refine r_sl ?_ | with_reducible refine r_noP ?_ | with_reducible refine r_part ?_ | with_reducible refine r_isI ?_ | with_reducible refine r_lst ?_ | with_reducible refine r_tup ?_ | with_reducible refine r_call ?_
  | with_reducible refine r_test ?_ | with_reducible refine r_B ?_ | with_reducible refine r_and ?_ | with_reducible refine r_or ?_ | with_reducible refine r_not ?_ | with_reducible refine r_andV ?_ | with_reducible refine r_orV ?_ | with_reducible refine r_notV ?_ | with_reducible refine r_bl ?_ | with_reducible refine r_yes ?_ | with_reducible refine r_int ?_ | with_reducible refine r_is0 ?_ | with_reducible refine r_is1 ?_ | with_reducible refine iteT ?_ | with_reducible refine iteF ?_ | with_reducible refine ite_nF ?_ | with_reducible refine ite_nT ?_
  | with_reducible refine r_mod (by decide) ?_ | with_reducible refine r_div (by decide) (by decide) ?_ | with_reducible refine r_mulR (by decide) (by decide) ?_ | with_reducible refine r_mulL (by decide) (by decide) ?_ | with_reducible refine r_pow (by decide) (by decide) (by decide) ?_))
abbrev sCopy : Stmt := top 2
section
variable {P : Program} {w : World} {K : PySem.W.Frag} {mg : Str → Option Value} {base : Heap}
/-- the copies made so far stand in the list at D -/
def Copied (H : Hp) (D : Addr) (ds : List PyData) (i : Nat) (H' : Hp) : Prop :=
  ∃ ys, H' D = some (.lst ys) ∧ ys.length = i ∧ Same H H' ∧ ∀ (j : Nat) (v : V) (d : PyData), ys[j]? = some v → ds[j]? = some d → Own (upd H D (.lst [])) H' v d
theorem Copied.start {H : Hp} {D : Addr} {ds : List PyData} (hD : H D = none) : Copied H D ds 0 (upd H D (.lst [])) :=
  ⟨[], upd_same, rfl, fun b o e => by rw [upd_ne (ne_of_none e hD)]; exact e, fun j v d e => by simp at e⟩
theorem Copied.more {H H1 H2 : Hp} {D : Addr} {ds : List PyData} {i : Nat} {v : V} {d : PyData} (hD : H D = none) (c : Copied H D ds i H1) (s : Same H1 H2) (o : Own H1 H2 v d) (hd : ds[i]? = some d) :
    ∃ acc, H2 D = some (.lst acc) ∧ acc.length = i ∧ Copied H D ds (i + 1) (upd H2 D (.lst (acc ++ [v]))) := by
  obtain ⟨ys, h1, h2, h3, h4⟩ := c
  have nD : ∀ {a : Addr}, upd H D (.lst []) a = none → a ≠ D := fun {a} n z => by rw [z, upd_same] at n; cases n
  refine ⟨ys, s _ _ h1, h2, ys ++ [v], upd_same, by rw [List.length_append, h2]; rfl, fun b o e => ?_, fun j u e e1 e2 => ?_⟩
  · have n : b ≠ D := ne_of_none e hD
    rw [upd_ne n]
    exact s _ _ (h3 _ _ e)
  · by_cases hj : j < ys.length
    · rw [List.getElem?_append_left hj] at e1
      exact ((h4 j u e e1 e2).later s).mono (fun a n _ => n) fun a z n q _ => by rw [upd_ne (nD n)]; exact q
    · have ej : j = i := by
        have z := (List.getElem?_eq_some_iff.mp e1).1
        rw [List.length_append, List.length_singleton] at z
        omega
      subst ej
      rw [List.getElem?_append_right (by omega), h2, Nat.sub_self] at e1
      have eu : v = u := Option.some.inj e1
      have ee : d = e := Option.some.inj (hd.symm.trans e2)
      subst eu ee
      refine o.mono (fun a n _ => ?_) fun a z n q _ => ?_
      · have na : a ≠ D := fun z => by rw [z, h1] at n; cases n
        rw [upd_ne na]
        exact h3.free n
      · have na : a ≠ D := fun z => by rw [z, h1] at n; cases n
        rw [upd_ne na]
        exact q
theorem Copied.done {H H' : Hp} {D : Addr} {ds : List PyData} (hD : H D = none) (c : Copied H D ds ds.length H') : ∃ ys, H' D = some (.lst ys) ∧ ys.length = ds.length ∧ Same H H' ∧ ∀ (j : Nat) (v : V) (d : PyData), ys[j]? = some v → ds[j]? = some d → Own H H' v d := by
  obtain ⟨ys, h1, h2, h3, h4⟩ := c
  refine ⟨ys, h1, h2, h3, fun j v d e1 e2 => (h4 j v d e1 e2).mono (fun a n _ => ?_) fun a u _ q _ => q⟩
  have na : a ≠ D := fun z => by rw [z, upd_same] at n; cases n
  rw [upd_ne na] at n
  exact n

theorem scCopy : FnScope ["value", "entry"] ["value"] (defScope sCopy) := ⟨rfl, rfl, rfl, by decide +kernel, rfl, by decide +kernel, by decide +kernel⟩
theorem ok_copy {f : Addr} {fd : FuncData} (F : Fun K "own_copy" "own_copy" sCopy f fd) (T : Bt mg) (me : mg "own_copy" = some (.ref f)) : ∀ n : Nat, FnOk P w K mg base CX0 (n + 1) f fd ["value"] (spCopy K n)
  | 0 => by
    refine F.ok scCopy (fun vs H Q E h => ?_) (fun cdv A outer s H vs Q E hr h => ?_)
    · obtain ⟨v, d, rfl, _⟩ := h
      rfl
    · obtain ⟨v, d, rfl, hv, hd, k⟩ := h
      refine ⟨_, pss_cons (ps_if (pt_val (pe_callB call_isi (by rfl) T.isinstance (by decide +kernel) (pa_cons (pv 0) (pa_cons (pe_bltn (v := .ty "list") (by rfl) T.list (by decide +kernel) rfl) pa_nil)))) pss_never pss_nil)
        (pss_cons (ps_if (pt_val (pe_callB call_isi (by rfl) T.isinstance (by decide +kernel) (pa_cons (pv 0) (pa_cons (pe_bltn (v := .ty "tuple") (by rfl) T.tuple (by decide +kernel) rfl) pa_nil)))) pss_never pss_nil)
        (pss_cons (ps_if (pt_val (pe_callB call_isi (by rfl) T.isinstance (by decide +kernel) (pa_cons (pv 0) (pa_cons (pe_bltn (v := .ty "dict") (by rfl) T.dict (by decide +kernel) rfl) pa_nil)))) pss_never pss_nil)
        (pss_one (ps_ret (pv 0))))), ?_⟩
      obtain ⟨r1, e1, f1⟩ := kit_list d
      obtain ⟨r2, e2, f2⟩ := kit_tuple d
      have n1 : r1 = false := by
        cases r1 with
        | false => rfl
        | true => obtain ⟨ds, rfl⟩ := f1.mp rfl; cases hd
      have n2 : r2 = false := by
        cases r2 with
        | false => rfl
        | true => obtain ⟨ds, rfl⟩ := f2.mp rfl; cases hd
      subst n1 n2
      walk_at "rd"
      refine r_isi (Dp.kind hv) e1 ?_
      walk_at "rd"
      refine r_isi (Dp.kind hv) e2 ?_
      walk_at "rd"
      refine r_isi (Dp.kind hv) (kit_dict hd) ?_
      walk_at "rd"
      refine k v H (Same.refl H) ?_
      cases hd with
      | non => cases hv; exact .non
      | bl b => cases hv; exact .bl b
      | int i => cases hv; exact .int i
      | str z => cases hv; exact .str z
  | n + 1 => by
    have G := ok_copy F T me n
    have b : Binds K fd ["value"] [] := F.binds fun _ _ _ _ _ _ us hl => match us, hl with | [_], _ => rfl
    refine F.ok scCopy (fun vs H Q E h => ?_) (fun cdv A outer s H vs Q E hr h => ?_)
    · obtain ⟨v, d, rfl, _⟩ := h
      rfl
    · obtain ⟨v, d, rfl, hv, hd, k⟩ := h
      refine ⟨_, pss_cons (ps_if (pt_val (pe_callB call_isi (by rfl) T.isinstance (by decide +kernel) (pa_cons (pv 0) (pa_cons (pe_bltn (v := .ty "list") (by rfl) T.list (by decide +kernel) rfl) pa_nil))))
          (pss_one (ps_ret (pe_lc (own := [("entry", 1)]) (g := gName 1) rfl scCopy.nd (pi_list (pv 0)) (blkOk_by (own := [("entry", 1)]) (N := ["value", "entry"]) (sc := defScope sCopy) (by decide +kernel)) (fun _ _ _ _ _ => pg_name (i := 1) scCopy.nd rfl (Or.inl rfl)) (fun _ _ _ _ _ => pts_nil)
            (fun _ _ _ _ _ => pe_call G hr rfl me F.kp b .nil pass0 (pa_cons (pv 1) pa_nil))))) pss_nil)
        (pss_cons (ps_if (pt_val (pe_callB call_isi (by rfl) T.isinstance (by decide +kernel) (pa_cons (pv 0) (pa_cons (pe_bltn (v := .ty "tuple") (by rfl) T.tuple (by decide +kernel) rfl) pa_nil))))
          (pss_one (ps_ret (pe_callTy cl_tup (by rfl) T.tuple (by decide +kernel) (pa_cons (pe_lc (own := [("entry", 1)]) (g := gName 1) rfl scCopy.nd (pi_tup (pv 0)) (blkOk_by (own := [("entry", 1)]) (N := ["value", "entry"]) (sc := defScope sCopy) (by decide +kernel)) (fun _ _ _ _ _ => pg_name (i := 1) scCopy.nd rfl (Or.inl rfl)) (fun _ _ _ _ _ => pts_nil)
            (fun _ _ _ _ _ => pe_call G hr rfl me F.kp b .nil pass0 (pa_cons (pv 1) pa_nil))) pa_nil)))) pss_nil)
        (pss_cons (ps_if (pt_val (pe_callB call_isi (by rfl) T.isinstance (by decide +kernel) (pa_cons (pv 0) (pa_cons (pe_bltn (v := .ty "dict") (by rfl) T.dict (by decide +kernel) rfl) pa_nil)))) pss_never pss_nil)
        (pss_one (ps_ret (pv 0))))), ?_⟩
      obtain ⟨r1, e1, f1⟩ := kit_list d
      obtain ⟨r2, e2, f2⟩ := kit_tuple d
      walk_at "rd"
      refine r_isi (Dp.kind hv) e1 ?_
      walk_at "rd"
      cases r1 with
      | true =>
        obtain ⟨ds, rfl⟩ := f1.mp rfl
        cases hd with
        | lst hds hz =>
          cases hv with
          | @lst a xs _ hS hA =>
            have ln := dpAll_len hA
            walk_at "rd"
            refine ⟨a, rfl, ⟨_, hS⟩, fun D hD => lc_list (K := K) (a := a) (xs := xs) (Copied H D ds) (Copied.start hD) (fun i H' _ c => c.choose_spec.2.2.1.seq hS) (fun i x H' hi c => ?_) (fun H' c => ?_)⟩
            · obtain ⟨d, hd, hx⟩ := dpAll_at hA hi
              have s1 : Same H H' := c.choose_spec.2.2.1
              walk_at "rd"
              refine ⟨rfl, ?_⟩
              walk_at "rd"
              refine ⟨x, d, rfl, Dp.later s1 hx, hds d (List.mem_of_getElem? hd), fun v' H2 s2 o => ?_⟩
              obtain ⟨acc, h1, h2, h3⟩ := c.more hD s2 o hd
              refine ⟨acc, h1, Nat.lt_of_lt_of_le ?_ (show 1001 ≤ sizeLine by decide), h3⟩
              have := (List.getElem?_eq_some_iff.mp hd).1
              omega
            · rw [ln] at c
              obtain ⟨ys, h1, h2, h3, h4⟩ := Copied.done hD c
              exact k _ _ h3 (.lst hD h1 h2 h4)
      | false =>
        walk_at "rd"
        refine r_isi (Dp.kind hv) e2 ?_
        walk_at "rd"
        cases r2 with
        | true =>
          obtain ⟨ds, rfl⟩ := f2.mp rfl
          cases hd with
          | tup hds hz =>
            cases hv with
            | @tup a xs _ hS hA =>
              have ln := dpAll_len hA
              walk_at "rd"
              refine ⟨a, rfl, ⟨_, hS⟩, fun D hD => lc_tup (K := K) (a := a) (xs := xs) (Copied H D ds) (Copied.start hD) (fun i H' _ c => ?_) (fun i x H' hi c => ?_) (fun H' c => ?_)⟩
              · have s1 : Same H H' := c.choose_spec.2.2.1
                rcases hS with (h | ⟨o, h⟩) | h
                · exact .inl (.inl (s1 _ _ h))
                · exact .inl (.inr ⟨o, s1 _ _ h⟩)
                · exact .inr h
              · obtain ⟨d, hd, hx⟩ := dpAll_at hA hi
                have s1 : Same H H' := c.choose_spec.2.2.1
                walk_at "rd"
                refine ⟨rfl, ?_⟩
                walk_at "rd"
                refine ⟨x, d, rfl, Dp.later s1 hx, hds d (List.mem_of_getElem? hd), fun v' H2 s2 o => ?_⟩
                obtain ⟨acc, h1, h2, h3⟩ := c.more hD s2 o hd
                refine ⟨acc, h1, Nat.lt_of_lt_of_le ?_ (show 1001 ≤ sizeLine by decide), h3⟩
                have := (List.getElem?_eq_some_iff.mp hd).1
                omega
              · rw [ln] at c
                obtain ⟨ys, h1, h2, h3, h4⟩ := Copied.done hD c
                walk_at "rd"
                refine r_tupOf (SqL.of h1) fun q hq => ?_
                have s2 : Same H (upd H' q (.tup ys)) := Same.up h3 hq
                exact k _ _ s2 (.tup (h3.free hq) upd_same h2 fun j v d e1 e2 => (h4 j v d e1 e2).later (Same.up (Same.refl H') hq))
        | false =>
          walk_at "rd"
          refine r_isi (Dp.kind hv) (kit_dict hd) ?_
          walk_at "rd"
          refine k v H (Same.refl H) ?_
          cases hd with
          | non => cases hv; exact .non
          | bl b => cases hv; exact .bl b
          | int i => cases hv; exact .int i
          | str z => cases hv; exact .str z
          | lst h z => exact absurd (f1.mpr ⟨_, rfl⟩) Bool.false_ne_true
          | tup h z => exact absurd (f2.mpr ⟨_, rfl⟩) Bool.false_ne_true
end
end Pk
set_option Elab.async false
set_option linter.all false
set_option maxRecDepth 100000
set_option maxHeartbeats 4000000
namespace Pk
open PySem L2
local macro_rules | `(tactic| walk_at "rd") => `(tactic| repeat (first
  | with_reducible refine r_seq ?_ | with_reducible refine r_nxt ?_ | with_reducible refine r_asg ?_ | with_reducible refine r_to ?_ | with_reducible refine r_ret ?_ | with_reducible refine r_for ?_ | with_reducible refine r_lc ?_ | with_reducible refine r_lc2 ?_ | with_reducible refine r_rng1 ?_ | with_reducible refine r_list ?_ | with_reducible refine r_tupI ?_ | with_reducible refine r_drop ?_ | with_reducible refine r_ifs ?_
  | with_reducible refine r_op ?_ | with_reducible refine r_c ?_ | with_reducible refine r_var rfl ?_ | with_reducible refine r_var (by assumption) ?_ | with_reducible refine r_I0 ?_ | with_reducible refine r_un ?_ | with_reducible refine r_U ?_ | with_reducible refine r_make ?_ | with_reducible refine r_makeS ?_ | with_reducible refine r_ifE ?_ | with_reducible refine r_cm ?_ | with_reducible refine r_mkV rfl ?_ | with_reducible refine r_sub ?_
  | with_reducible refine r_nil ?_ | with_reducible refine r_cons ?_ | with_reducible refine r_cb ?_ | with_reducible refine r_sl ?_ | with_reducible refine r_noP ?_ | with_reducible refine r_part ?_ | with_reducible refine r_isI ?_ | with_reducible refine r_lst ?_ | with_reducible refine r_tup ?_ | with_reducible refine r_call ?_ | with_reducible refine r_callS ?_ | with_reducible refine r_sFldU ?_ | with_reducible refine r_chain ?_ | with_reducible refine r_enum ?_ | with_reducible refine r_zip ?_ | with_reducible refine r_rng3 ?_ | with_reducible refine r_gtup ?_ | with_reducible refine r_methU ?_
  | with_reducible refine r_test ?_ | with_reducible refine r_B ?_ | with_reducible refine r_and ?_ | with_reducible refine r_or ?_ | with_reducible refine r_not ?_ | with_reducible refine r_andV ?_ | with_reducible refine r_orV ?_ | with_reducible refine r_notV ?_ | with_reducible refine r_bl ?_ | with_reducible refine r_yes ?_ | with_reducible refine r_int ?_ | with_reducible refine r_is0 ?_ | with_reducible refine r_is1 ?_ | with_reducible refine iteT ?_ | with_reducible refine iteF ?_ | with_reducible refine ite_nF ?_ | with_reducible refine ite_nT ?_
  | with_reducible refine r_mod (by decide) ?_ | with_reducible refine r_div (by decide) (by decide) ?_ | with_reducible refine r_mulR (by decide) (by decide) ?_ | with_reducible refine r_mulL (by decide) (by decide) ?_ | with_reducible refine r_pow (by decide) (by decide) (by decide) ?_))
/-! ### is_integer, is_between, is_two -/
theorem one_fst {f : Str} {v : V} : List.lookup f [(f, v)] = some v := by simp [List.lookup]
theorem one_no {m f : Str} {v : V} (h : (m == f) = false) : List.lookup m [(f, v)] = none := by simp [List.lookup, h]
theorem cut_take {vs : List V} {i : Nat} (h : i ≤ vs.length) : cutV vs none (some (i : Int)) = vs.take i := by
  have e : min (i : Int).toNat vs.length = i := by simp; omega
  have n : ¬ (i : Int) < 0 := by omega
  simp only [cutV, HT.sIx, if_neg n, e, List.drop_zero, Nat.sub_zero]
theorem cut_drop {vs : List V} {i : Nat} (h : i ≤ vs.length) : cutV vs (some (i : Int)) none = vs.drop i := by
  have e : min (i : Int).toNat vs.length = i := by simp; omega
  have n : ¬ (i : Int) < 0 := by omega
  simp only [cutV, HT.sIx, if_neg n, e]
  exact List.take_of_length_le (by rw [List.length_drop]; omega)
theorem two_eq {x y : PyData} (h : isID x = true) : twoD (.tuple [x, y]) = isID y := by
  cases x <;> cases h
  cases y <;> rfl
theorem two_noD {x y : PyData} (h : isID x = false) : twoD (.tuple [x, y]) = false := by
  cases x <;> first | rfl | cases h
theorem len2 {ds : List PyData} (h : ds.length = 2) : ∃ d1 d2, ds = [d1, d2] := by
  match ds, h with
  | [a, b], _ => exact ⟨a, b, rfl⟩
theorem all2 {K : PySem.W.Frag} {H : Hp} {vs : List V} {x y : PyData} (h : DpAll K H vs [x, y]) : ∃ v u, vs = [v, u] ∧ Dp K H v x ∧ Dp K H u y := by
  cases h with
  | cons h1 r => cases r with
    | cons h2 r2 => cases r2; exact ⟨_, _, rfl, h1, h2⟩
def betD (lo hi : Int) : PyData → Bool
  | .int i => decide (lo ≤ i) && decide (i ≤ hi)
  | _ => false
def spIntD (K : PySem.W.Frag) : Sp := fun vs H Q _ => ∃ (v : V) (d : PyData), vs = [v] ∧ Dp K H v d ∧ Q (.bl (isID d)) H
def spTwoD (K : PySem.W.Frag) : Sp := fun vs H Q _ => ∃ (v : V) (d : PyData), vs = [v] ∧ Dp K H v d ∧ Q (.bl (twoD d)) H
def spBetD (K : PySem.W.Frag) : Sp := fun vs H Q _ => ∃ (v : V) (d : PyData) (lo hi : Int), vs = [v, .int lo, .int hi] ∧ Dp K H v d ∧ Q (.bl (betD lo hi d)) H
/-- the def within a class's text -/
def inCls (i j : Nat) : Stmt := match top i with
  | .ClassDef (body := b) .. => b.getD j (.Pass ⟨0, 0, 0, 0⟩)
  | _ => .Pass ⟨0, 0, 0, 0⟩
abbrev slIsInt : Stmt := top 14
abbrev slTwo : Stmt := top 16
section
variable {P : Program} {w : World} {K : PySem.W.Frag} {mg : Str → Option Value} {base : Heap} {C CE f : Addr} {fd : FuncData}
theorem sclIsInt : FnScope ["value"] ["value"] (defScope slIsInt) := ⟨rfl, rfl, rfl, by decide +kernel, rfl, by decide +kernel, by decide +kernel⟩
theorem ok_isInt (F : Fun K "is_integer" "is_integer" slIsInt f fd) (T : Bt mg) : FnOk P w K mg base CX0 1 f fd ["value"] (spIntD K) := by
  refine F.ok sclIsInt (fun vs H Q E h => ?_) (fun cdv A outer s H vs Q E hr h => ?_)
  · obtain ⟨v, d, rfl, _⟩ := h
    rfl
  · obtain ⟨v, d, rfl, hd, k⟩ := h
    refine ⟨_, (pss_one (ps_ret (pe_and (pe_callB call_isi (by rfl) T.isinstance (by decide +kernel) (pa_cons (pv 0) (pa_cons (pe_bltn (v := .ty "int") (by rfl) T.int (by decide +kernel) rfl) pa_nil))) (pe_one (pe_not (pe_callB call_isi (by rfl) T.isinstance (by decide +kernel) (pa_cons (pv 0) (pa_cons (pe_bltn (v := .ty "bool") (by rfl) T.bool (by decide +kernel) rfl) pa_nil)))))))), ?_⟩
    walk_at "rd"
    refine r_isDI hd ?_
    walk_at "rd"
    by_cases e : isIB d = true
    · refine ifT e ?_
      walk_at "rd"
      refine r_isDB hd ?_
      walk_at "rd"
      rw [show isID d = !isBD d from by cases d <;> first | rfl | cases e] at k
      exact k
    · refine ifF (Bool.eq_false_iff.mpr e) ?_
      rw [show isID d = false from by cases d <;> first | exact absurd rfl e | rfl] at k
      exact k
theorem sclTwo : FnScope ["value"] ["value"] (defScope slTwo) := ⟨rfl, rfl, rfl, by decide +kernel, rfl, by decide +kernel, by decide +kernel⟩
theorem ok_two (F : Fun K "is_two" "is_two" slTwo f fd) (T : Bt mg) (DI : Df P w K mg base CX0 "is_integer" 1 ["value"] (spIntD K)) : FnOk P w K mg base CX0 2 f fd ["value"] (spTwoD K) := by
  refine F.ok sclTwo (fun vs H Q E h => ?_) (fun cdv A outer s H vs Q E hr h => ?_)
  · obtain ⟨v, d, rfl, _⟩ := h
    rfl
  · obtain ⟨v, d, rfl, hd, k⟩ := h
    refine ⟨_, (pss_one (ps_ret (pe_and (pe_callB call_isi (by rfl) T.isinstance (by decide +kernel) (pa_cons (pv 0) (pa_cons (pe_bltn (v := .ty "tuple") (by rfl) T.tuple (by decide +kernel) rfl) pa_nil))) (pe_and (pe_cmpR op_eq (pe_callB cl_len (by rfl) T.len PySem.boot_len (pa_cons (pv 0) pa_nil)) pe_int (nomark _)) (pe_and (pe_df DI hr (by decide) (pa_cons (pe_ix ix_tup (pv 0) pe_int (fun _ _ => rfl)) pa_nil)) (pe_one (pe_df DI hr (by decide) (pa_cons (pe_ix ix_tup (pv 0) pe_int (fun _ _ => rfl)) pa_nil)))))))), ?_⟩
    walk_at "rd"
    refine r_isDT hd ?_
    walk_at "rd"
    by_cases e : isTD d = true
    · refine ifT e ?_
      obtain ⟨ds, rfl⟩ : ∃ ds, d = .tuple ds := by cases d <;> first | exact ⟨_, rfl⟩ | cases e
      obtain ⟨t, vs, rfl, ht, hv⟩ := Dp.tupAt hd
      have vl := DpAll.len hv
      walk_at "rd"
      refine r_lenT ht ?_
      walk_at "rd"
      refine r_eq rfl ?_
      walk_at "rd"
      rw [show decide (V.int (vs.length : Int) = V.int 2) = decide (ds.length = 2) from decide_eq_decide.mpr ⟨fun h => by have := V.int.inj h; omega, fun h => by rw [vl, h]; rfl⟩]
      by_cases e2 : ds.length = 2
      · refine ifT (decide_eq_true e2) ?_
        obtain ⟨d1, d2, rfl⟩ : ∃ d1 d2, ds = [d1, d2] := len2 e2
        obtain ⟨v1, v2, rfl, h1, h2⟩ := all2 hv
        walk_at "rd"
        refine r_ixT ht (atI_nat (j := 0) rfl) ?_
        walk_at "rd"
        refine ⟨_, d1, rfl, h1, ?_⟩
        walk_at "rd"
        by_cases e3 : isID d1 = true
        · refine ifT e3 ?_
          walk_at "rd"
          refine r_ixT ht (atI_nat (j := 1) rfl) ?_
          walk_at "rd"
          refine ⟨_, d2, rfl, h2, ?_⟩
          rw [two_eq e3] at k
          exact k
        · refine ifF (Bool.eq_false_iff.mpr e3) ?_
          rw [two_noD (Bool.eq_false_iff.mpr e3)] at k
          exact k
      · refine ifF (decide_eq_false e2) ?_
        have : twoD (.tuple ds) = false := by
          cases q : twoD (.tuple ds) with
          | false => rfl
          | true =>
            obtain ⟨a, b, z⟩ := twoD_inv q
            cases z
            exact absurd rfl e2
        rw [this] at k
        exact k
    · refine ifF (Bool.eq_false_iff.mpr e) ?_
      rw [show twoD d = false from by cases d <;> first | exact absurd rfl e | rfl] at k
      exact k
theorem Dp.intV {H : Hp} {v : V} {i : Int} (h : Dp K H v (.int i)) : v = .int i := by
  cases h
  rfl
end
abbrev slBet : Stmt := top 15
section
variable {P : Program} {w : World} {K : PySem.W.Frag} {mg : Str → Option Value} {base : Heap} {C CE f : Addr} {fd : FuncData}
theorem sclBet : FnScope ["value", "low", "high"] ["value", "low", "high"] (defScope slBet) := ⟨rfl, rfl, rfl, by decide +kernel, rfl, by decide +kernel, by decide +kernel⟩
theorem ok_bet (F : Fun K "is_between" "is_between" slBet f fd) (DI : Df P w K mg base CX0 "is_integer" 1 ["value"] (spIntD K)) : FnOk P w K mg base CX0 2 f fd ["value", "low", "high"] (spBetD K) := by
  refine F.ok sclBet (fun vs H Q E h => ?_) (fun cdv A outer s H vs Q E hr h => ?_)
  · obtain ⟨v, d, lo, hi, rfl, _⟩ := h
    rfl
  · obtain ⟨v, d, lo, hi, rfl, hd, k⟩ := h
    refine ⟨_, (pss_one (ps_ret (pe_and (pe_df DI hr (by decide) (pa_cons (pv 0) pa_nil)) (pe_one (pe_chain op_le op_le (pv 1) (pv 0) (pv 2)))))), ?_⟩
    walk_at "rd"
    refine ⟨v, d, rfl, hd, ?_⟩
    walk_at "rd"
    by_cases e : isID d = true
    · refine ifT e ?_
      obtain ⟨i, rfl⟩ : ∃ i, d = .int i := by
        cases d with
        | int i => exact ⟨i, rfl⟩
        | _ => cases e
      obtain rfl := Dp.intV hd
      walk_at "rd"
      by_cases c : lo ≤ i
      · refine ifT (decide_eq_true c) ?_
        rw [betD, decide_eq_true c, Bool.true_and] at k
        walk_at "rd"
        exact k
      · refine ifF (decide_eq_false c) ?_
        rw [betD, decide_eq_false c, Bool.false_and] at k
        exact k
    · refine ifF (Bool.eq_false_iff.mpr e) ?_
      rw [show betD lo hi d = false from by cases d <;> first | rfl | exact absurd rfl e] at k
      exact k
end
/-! ### a table is made -/
theorem pV_of {K : PySem.W.Frag} {H : Hp} {v : V} {z : Option Int} (h : Dp K H v (pD z)) : v = pV z := by
  cases z with
  | none => cases h; rfl
  | some i => cases h; rfl
theorem pVs_of {K : PySem.W.Frag} {H : Hp} : ∀ {vs : List V} {r : List (Option Int)}, DpAll K H vs (r.map pD) → vs = r.map pV
  | [], [], _ => rfl
  | _ :: _, [], h => by cases h
  | [], _ :: _, h => by cases h
  | v :: vs, z :: r, h => by
    cases h with
    | cons h1 h2 => rw [pV_of h1, pVs_of h2]; rfl
def isND : PyData → Bool
  | .none => true
  | _ => false
theorem non_iff {K : PySem.W.Frag} {H : Hp} {v : V} {d : PyData} (h : Dp K H v d) : decide (v = .non) = isND d := by
  cases h <;> rfl
def spPrice (K : PySem.W.Frag) : Sp := fun vs H Q _ => ∃ (v : V) (d : PyData), vs = [v] ∧ Dp K H v d ∧ Q (.bl (priceD d)) H
def spRow (K : PySem.W.Frag) : Sp := fun vs H Q _ => ∃ (v u : V) (d e : PyData), vs = [v, u] ∧ Dp K H v d ∧ Dp K H u e ∧ (isLD d = true → isLD e = true) ∧ ∀ H' : Hp, Same H H' → Q (.bl (rowOk d e)) H'
def spChkR (K : PySem.W.Frag) (CE : Addr) : Sp := fun vs H Q E => ∃ (v : V) (d : PyData), vs = [v] ∧ Dp K H v d ∧ (badT d = none → ∀ H' : Hp, Same H H' → Q .non H') ∧
  (∀ k, badT d = some k → ∀ (dd : Addr) (H' : Hp), Same H H' → H dd = none → H' dd = some (.xd [("at", .int k)]) → E (.ref CE) (some dd) H')
/-- Table.__init__ -/
def spTbI (K : PySem.W.Frag) (C CE : Addr) : Sp := fun vs H Q E => ∃ (x dx : Addr) (v : V) (d : PyData), vs = [.ref x, v] ∧ H x = some (.ins C dx []) ∧ H dx = some (.own x) ∧ dx ≠ x ∧ Dp K H v d ∧
  (∀ R, d = rowsD R → Gt R → ∀ (H' G : Hp), TbX C G x R → Same G H' → (∀ a o, G a = some o → a = x ∨ H a = none) → (∀ a o, a ≠ x → H a = some o → H' a = some o) → Q .non H') ∧
  (∀ k, badT d = some k → ∀ (dd : Addr) (H' : Hp), Same H H' → H dd = none → H' dd = some (.xd [("at", .int k)]) → E (.ref CE) (some dd) H')
abbrev slPrice : Stmt := top 44
abbrev slRow : Stmt := top 45
abbrev slChkR : Stmt := top 46
abbrev slTbI : Stmt := inCls 49 0
structure TbC (K : PySem.W.Frag) (C : Addr) : Prop where
  O : OwnC K C
  e : NoAttr K C "entries"
  u : NoAttr K C "used"
section
variable {P : Program} {w : World} {K : PySem.W.Frag} {mg : Str → Option Value} {base : Heap} {C CE f : Addr} {fd : FuncData}
theorem sclPrice : FnScope ["value"] ["value"] (defScope slPrice) := ⟨rfl, rfl, rfl, by decide +kernel, rfl, by decide +kernel, by decide +kernel⟩
theorem ok_price (F : Fun K "is_price" "is_price" slPrice f fd) (DI : Df P w K mg base CX0 "is_integer" 1 ["value"] (spIntD K)) : FnOk P w K mg base CX0 2 f fd ["value"] (spPrice K) := by
  refine F.ok sclPrice (fun vs H Q E h => ?_) (fun cdv A outer s H vs Q E hr h => ?_)
  · obtain ⟨v, d, rfl, _⟩ := h
    rfl
  · obtain ⟨v, d, rfl, hd, k⟩ := h
    refine ⟨_, (pss_one (ps_ret (pe_or (pe_cmpR op_is0 (pv 0) pe_non (nomark _)) (pe_one (pe_df DI hr (by decide) (pa_cons (pv 0) pa_nil)))))), ?_⟩
    walk_at "rd"
    rw [non_iff hd]
    by_cases e : isND d = true
    · refine ifT e ?_
      rw [show priceD d = true from by cases d <;> first | rfl | cases e] at k
      exact k
    · refine ifF (Bool.eq_false_iff.mpr e) ?_
      walk_at "rd"
      refine ⟨v, d, rfl, hd, ?_⟩
      rw [show priceD d = isID d from by cases d <;> first | rfl | exact absurd rfl e] at k
      exact k
theorem sclRow : FnScope ["value", "first", "entry"] ["value", "first"] (defScope slRow) := ⟨rfl, rfl, rfl, by decide +kernel, rfl, by decide +kernel, by decide +kernel⟩
theorem ok_row (F : Fun K "is_row" "is_row" slRow f fd) (T : Bt mg) (tall : mg "all" = none) {tk : Tok} (hM : mg "MOST_LINES" = some (.int 8 tk)) (DP : Df P w K mg base CX0 "is_price" 2 ["value"] (spPrice K)) : FnOk P w K mg base CX0 3 f fd ["value", "first"] (spRow K) := by
  refine F.ok sclRow (fun vs H Q E h => ?_) (fun cdv A outer s H vs Q E hr h => ?_)
  · obtain ⟨v, u, d, e, rfl, _⟩ := h
    rfl
  · obtain ⟨v, u, d, e, rfl, hd, he, hl, k⟩ := h
    refine ⟨_, (pss_cons (ps_if (PW.pt (pw_or (pt_not (pt_val (pe_callB call_isi (by rfl) T.isinstance (by decide +kernel) (pa_cons (pv 0) (pa_cons (pe_bltn (v := .ty "list") (by rfl) T.list (by decide +kernel) rfl) pa_nil))))) (pw_or (pt_not (pt_chain op_le op_le pe_int (pe_callB cl_len (by rfl) T.len PySem.boot_len (pa_cons (pv 0) pa_nil)) (pe_glob (v := .int 8) (by rfl) hM ⟨tk, rfl⟩))) (pw_or1 (pt_cmpR op_ne (pe_callB cl_len (by rfl) T.len PySem.boot_len (pa_cons (pv 0) pa_nil)) (pe_callB cl_len (by rfl) T.len PySem.boot_len (pa_cons (pv 1) pa_nil)) (nomark _)))))) (pss_one (ps_ret pe_bl)) pss_nil)
  (pss_one (ps_ret (pe_callB (cr_all rfl) (by rfl) tall (by decide +kernel) (pa_cons (pe_lc (own := [("entry", 2)]) (g := gName 2) rfl sclRow.nd (pi_list (pv 0)) (blkOk_by (own := [("entry", 2)]) (N := ["value", "first", "entry"]) (sc := defScope slRow) (by decide +kernel)) (fun _ _ _ _ _ => pg_name (i := 2) sclRow.nd rfl (Or.inl rfl)) (fun _ _ _ _ _ => pts_nil) (fun _ _ _ _ _ => (pe_df DP hr (by decide) (pa_cons (pv 2) pa_nil)))) pa_nil))))), ?_⟩
    have no : rowOk d e = false → Q (.bl false) H := fun z => by
      have := k H (Same.refl H)
      rw [z] at this
      exact this
    walk_at "rd"
    refine r_isDL hd ?_
    walk_at "rd"
    by_cases c0 : isLD d = true
    · refine ifF (by rw [c0]; rfl) ?_
      obtain ⟨ds, rfl⟩ : ∃ ds, d = .list ds := by
        cases d with
        | list ds => exact ⟨ds, rfl⟩
        | _ => cases c0
      obtain ⟨es, rfl⟩ : ∃ es, e = .list es := by
        have := hl c0
        cases e with
        | list ds => exact ⟨ds, rfl⟩
        | _ => cases this
      obtain ⟨a, vs, rfl, ha, hv⟩ := Dp.lstAt hd
      obtain ⟨b, us, rfl, hb, hu⟩ := Dp.lstAt he
      have vl := DpAll.len hv
      have ul := DpAll.len hu
      walk_at "rd"
      refine r_lenL ha ?_
      walk_at "rd"
      by_cases c1 : 1 ≤ ds.length
      · refine ifT (decide_eq_true (by omega)) ?_
        walk_at "rd"
        by_cases c2 : ds.length ≤ 8
        · refine ifF (by rw [decide_eq_true (by omega)]; rfl) ?_
          walk_at "rd"
          refine r_lenL ha ?_
          walk_at "rd"
          refine r_lenL hb ?_
          walk_at "rd"
          refine r_ne rfl ?_
          walk_at "rd"
          by_cases c3 : ds.length = es.length
          · refine ifF (by rw [decide_eq_true (by rw [vl, ul, c3])]; rfl) ?_
            walk_at "rd"
            refine ⟨a, rfl, ⟨_, ha⟩, fun D nD => lc_it walk_list (Out H D fun i => V.bl (priceD (ds.getD i .none))) (Out.start nD) (fun i H1 _ o => o.1.seq ha) ?_ ?_⟩
            · rintro i y H1 H2 hi o ⟨rfl, e1⟩
              obtain ⟨dy, hdy, py⟩ := DpAll.at hv e1
              walk_at "rd"
              refine ⟨rfl, ?_⟩
              walk_at "rd"
              refine ⟨y, dy, rfl, Dp.later o.1 py, ?_⟩
              have ey : V.bl (priceD dy) = (fun i => V.bl (priceD (ds.getD i .none))) i := by
                show _ = V.bl (priceD (ds.getD i .none))
                rw [List.getD_eq_getElem?_getD, hdy]
                rfl
              rw [ey]
              exact o.more nD (Same.refl _) (Nat.lt_of_lt_of_le (show i < 9 by omega) (by decide))
            · rintro H1 ⟨s1, hD⟩
              walk_at "rd"
              refine ⟨D, ds.map priceD, rfl, SqL.of (hD.trans ?_), ?_⟩
              · congr 2
                apply List.ext_getElem
                · simp [vl]
                · intro n h1 h2
                  have hn : n < ds.length := by simpa using h2
                  simp [List.getElem?_eq_getElem hn]
              · rw [show ((ds.map priceD).all id) = rowOk (.list ds) (.list es) from by
                  simp only [rowOk, List.all_map]
                  rw [decide_eq_true c1, decide_eq_true c2, decide_eq_true c3]
                  rfl]
                exact k H1 s1
          · refine ifT (by rw [decide_eq_false (fun z => c3 (by have := V.int.inj z; omega))]; rfl) ?_
            walk_at "rd"
            exact no (by simp [rowOk, c3])
        · refine ifT (by rw [decide_eq_false (by omega)]; rfl) ?_
          walk_at "rd"
          exact no (by simp [rowOk, c2])
      · refine ifF (decide_eq_false (by omega)) ?_
        walk_at "rd"
        exact no (by simp [rowOk, c1])
    · refine ifT (by rw [Bool.eq_false_iff.mpr c0]; rfl) ?_
      walk_at "rd"
      exact no (by
        cases d with
        | list ds => exact absurd rfl c0
        | _ => rfl)
theorem sclChkR : FnScope ["rows", "i", "row"] ["rows"] (defScope slChkR) := ⟨rfl, rfl, rfl, by decide +kernel, rfl, by decide +kernel, by decide +kernel⟩
theorem ok_chkR (F : Fun K "check_rows" "check_rows" slChkR f fd) (T : Bt mg) {tk : Tok} (hM : mg "MOST_LINES" = some (.int 8 tk)) (DR : Df P w K mg base CX0 "is_row" 3 ["value", "first"] (spRow K)) (ET : De P w K mg base "InvalidTable" 3 (spErr1 K 1 CE "at") CE) :
    FnOk P w K mg base (L2.CX P w) 6 f fd ["rows"] (spChkR K CE) := by
  refine F.okX sclChkR (fun vs H Q E h => ?_) (fun cdv A outer s H vs Q E hr h => ?_)
  · obtain ⟨v, d, rfl, _⟩ := h
    rfl
  · obtain ⟨v, d, rfl, hd, k1, k2⟩ := h
    refine ⟨_, (pss_cons (ps_if (PW.pt (pw_or (pt_not (pt_val (pe_callB call_isi (by rfl) T.isinstance (by decide +kernel) (pa_cons (pv 0) (pa_cons (pe_bltn (v := .ty "list") (by rfl) T.list (by decide +kernel) rfl) pa_nil))))) (pw_or1 (pt_not (pt_chain op_le op_le pe_int (pe_callB cl_len (by rfl) T.len PySem.boot_len (pa_cons (pv 0) pa_nil)) (pe_glob (v := .int 8) (by rfl) hM ⟨tk, rfl⟩)))))) (pss_one (ps_rse rfl (takes_of rfl rfl rfl rfl) ET hr (by decide) (pa_cons (pe_un un_neg pe_int) pa_nil))) pss_nil)
  (pss_one (ps_for (passes_of rfl) rfl (pi_enum (by rfl) T.enumerate (pa_cons (pv 0) pa_nil)) (pg_tup (by rfl) (pgs_cons (pg_name (i := 1) sclChkR.nd rfl (Or.inl rfl)) (pgs_cons (pg_name (i := 2) sclChkR.nd rfl (Or.inl rfl)) pgs_nil))) (pss_one (ps_if (pt_not (pt_val (pe_df DR hr (by decide) (pa_cons (pv 2) (pa_cons (pe_ix ix_list (pv 0) pe_int (fun _ _ => rfl)) pa_nil))))) (pss_one (ps_rse rfl (takes_of rfl rfl rfl rfl) ET hr (by decide) (pa_cons (pv 1) pa_nil))) pss_nil))))), ?_⟩
    have raise1 : badT d = some (-1) → tMkErr CE (spErr1 K 1 CE "at") (tCons (tUn (rU fun i => .int (-i)) (tC (.int 1))) tNil) [some v, none, none] H (fun cls d H' => E cls d H') := fun b => by
      refine r_mkErr ?_
      walk_at "rd"
      refine r_err1 (σ := []) (.int _) (.int _) fun dd v' H' s1 h1 h2 o1 => ?_
      cases o1
      exact k2 (-1) b dd H' s1 h1 h2
    walk_at "rd"
    refine r_isDL hd ?_
    walk_at "rd"
    by_cases e : isLD d = true
    · refine ifF (by rw [e]; rfl) ?_
      obtain ⟨ds, rfl⟩ : ∃ ds, d = .list ds := by
        cases d with
        | list ds => exact ⟨ds, rfl⟩
        | _ => cases e
      obtain ⟨a, vs, rfl, ha, hv⟩ := Dp.lstAt hd
      have vl := DpAll.len hv
      walk_at "rd"
      refine r_lenL ha ?_
      walk_at "rd"
      by_cases c1 : 1 ≤ ds.length
      · refine ifT (decide_eq_true (by omega)) ?_
        walk_at "rd"
        by_cases c2 : ds.length ≤ 8
        · refine ifF (by rw [decide_eq_true (by omega)]; rfl) ?_
          have bd : badT (.list ds) = (firstRow ds).map Int.ofNat := if_neg (by omega)
          have e0 := List.getElem?_eq_getElem (l := vs) (i := 0) (by omega)
          obtain ⟨d0, hd0, p0⟩ := DpAll.at hv e0
          have g0 : ds.getD 0 .none = d0 := by rw [List.getD_eq_getElem?_getD, hd0]; rfl
          walk_at "rd"
          refine ⟨a, _, rfl, ha, for_it walk_enum (fun i σ H' => ∃ u v, σ = [some (.ref a), u, v] ∧ Same H H' ∧ ∀ j, j < i → rowOk (ds.getD j .none) (ds.getD 0 .none) = true) ⟨none, none, rfl, Same.refl H, fun j hj => by cases hj⟩ (fun i σ H' _ ⟨_, _, _, s, _⟩ => s.seq ha) ?_ ?_⟩
          · rintro i x σ H1 H2 hi ⟨u, v, rfl, s1, prev⟩ ⟨t, i', y, rfl, ht, rfl, e1, e2⟩
            obtain ⟨dy, hdy, py⟩ := DpAll.at hv e2
            cases (Option.some.inj e1)
            have gd : ds.getD i .none = dy := by rw [List.getD_eq_getElem?_getD, hdy]; rfl
            have st : Same H (upd H1 t (.tup [.int (i : Int), y])) := Same.up s1 ht
            refine r_gtup ⟨t, _, rfl, SqT.of upd_same, rfl, _, _, rfl, ?_⟩
            walk_at "rd"
            refine ⟨_, _, rfl, ?_⟩
            walk_at "rd"
            refine ⟨rfl, ?_⟩
            walk_at "rd"
            refine r_ixL (st.seq ha) (atI_nat (j := 0) e0) ?_
            walk_at "rd"
            refine ⟨y, _, dy, d0, rfl, Dp.later st py, Dp.later st p0, fun z => ?_, fun H3 s3 => ?_⟩
            · by_cases i0 : i = 0
              · subst i0
                rw [gd] at g0
                rw [← g0]
                exact z
              · have a0 := prev 0 (by omega)
                rw [g0] at a0
                cases d0 with
                | list es => rfl
                | _ => cases a0
            · walk_at "rd"
              by_cases o : rowOk dy d0 = true
              · refine ifF (by rw [o]; rfl) ?_
                walk_at "rd"
                refine ⟨_, _, rfl, st.trans s3, fun j hj => ?_⟩
                by_cases ji : j < i
                · exact prev j ji
                · have : j = i := by omega
                  rw [this, gd, g0]
                  exact o
              · refine ifT (by rw [Bool.eq_false_iff.mpr o]; rfl) ?_
                walk_at "rd"
                refine r_mkErr ?_
                walk_at "rd"
                refine r_err1 (σ := []) (.int _) (.int _) fun dd v' H' s4 h1 h2 o1 => ?_
                cases o1
                exact k2 (i : Int) (by rw [bd, firstRow_some (by omega) prev (by rw [gd, g0]; exact Bool.eq_false_iff.mpr o)]; rfl) dd H' ((st.trans s3).trans s4) ((st.trans s3).free h1) h2
          · rintro σ H1 ⟨u, v, rfl, s1, prev⟩
            exact k1 (by rw [bd, firstRow_none (fun j hj => prev j (by omega))]; rfl) H1 s1
        · refine ifT (by rw [decide_eq_false (by omega)]; rfl) ?_
          exact raise1 (if_pos (by omega))
      · refine ifF (decide_eq_false (by omega)) ?_
        walk_at "rd"
        exact raise1 (if_pos (by omega))
    · refine ifT (by rw [Bool.eq_false_iff.mpr e]; rfl) ?_
      exact raise1 (badT_no (Bool.eq_false_iff.mpr e))
end
end Pk
set_option Elab.async false
set_option linter.all false
set_option maxRecDepth 100000
set_option maxHeartbeats 4000000
namespace Pk
open PySem L2
local macro_rules | `(tactic| walk_at "rd") => `(tactic| repeat (first
  | with_reducible refine r_seq ?_ | with_reducible refine r_nxt ?_ | with_reducible refine r_asg ?_ | with_reducible refine r_to ?_ | with_reducible refine r_ret ?_ | with_reducible refine r_for ?_ | with_reducible refine r_lc ?_ | with_reducible refine r_lc2 ?_ | with_reducible refine r_rng1 ?_ | with_reducible refine r_list ?_ | with_reducible refine r_tupI ?_ | with_reducible refine r_drop ?_ | with_reducible refine r_ifs ?_
  | with_reducible refine r_op ?_ | with_reducible refine r_c ?_ | with_reducible refine r_var rfl ?_ | with_reducible refine r_var (by assumption) ?_ | with_reducible refine r_I0 ?_ | with_reducible refine r_un ?_ | with_reducible refine r_U ?_ | with_reducible refine r_make ?_ | with_reducible refine r_makeS ?_ | with_reducible refine r_ifE ?_ | with_reducible refine r_cm ?_ | with_reducible refine r_mkV rfl ?_ | with_reducible refine r_sub ?_
  | with_reducible refine r_nil ?_ | with_reducible refine r_cons ?_ | with_reducible refine r_cb ?_ | with_reducible refine r_sl ?_ | with_reducible refine r_noP ?_ | with_reducible refine r_part ?_ | with_reducible refine r_isI ?_ | with_reducible refine r_lst ?_ | with_reducible refine r_tup ?_ | with_reducible refine r_call ?_ | with_reducible refine r_callS ?_ | with_reducible refine r_sFldU ?_ | with_reducible refine r_chain ?_ | with_reducible refine r_enum ?_ | with_reducible refine r_zip ?_ | with_reducible refine r_rng3 ?_ | with_reducible refine r_gtup ?_ | with_reducible refine r_methU ?_
  | with_reducible refine r_test ?_ | with_reducible refine r_B ?_ | with_reducible refine r_and ?_ | with_reducible refine r_or ?_ | with_reducible refine r_not ?_ | with_reducible refine r_andV ?_ | with_reducible refine r_orV ?_ | with_reducible refine r_notV ?_ | with_reducible refine r_bl ?_ | with_reducible refine r_yes ?_ | with_reducible refine r_int ?_ | with_reducible refine r_is0 ?_ | with_reducible refine r_is1 ?_ | with_reducible refine iteT ?_ | with_reducible refine iteF ?_ | with_reducible refine ite_nF ?_ | with_reducible refine ite_nT ?_
  | with_reducible refine r_mod (by decide) ?_ | with_reducible refine r_div (by decide) (by decide) ?_ | with_reducible refine r_mulR (by decide) (by decide) ?_ | with_reducible refine r_mulL (by decide) (by decide) ?_ | with_reducible refine r_pow (by decide) (by decide) (by decide) ?_))
/-! ### Table.__init__ -/
theorem SameD.ofKeep {x C dx : Addr} {fs : List (Str × V)} {H H' : Hp} (k : Keep x H H') (hx : H x = some (.ins C dx fs)) : SameD H H' := fun a u l h => k a u (fun z => by
  rw [z, hx] at h
  cases (Option.some.inj h)
  rcases l with ⟨_, l⟩ | ⟨_, l⟩ | ⟨_, _, l⟩ <;> cases l) h
/-- what is new since H, and x -/
def part (x : Addr) (H H' : Hp) : Hp := fun a => if a = x then H' a else match H a with
  | .none => H' a
  | .some _ => .none
theorem part_sub {x : Addr} {H H' : Hp} : Same (part x H H') H' := fun a o e => by
  unfold part at e
  split at e
  · exact e
  · split at e
    · exact e
    · cases e
theorem part_new {x a : Addr} {H H' : Hp} (n : H a = none) : part x H H' a = H' a := by
  unfold part
  rw [n]
  simp
theorem part_x {x : Addr} {H H' : Hp} : part x H H' x = H' x := by simp [part]
theorem part_off {x : Addr} {H H' : Hp} : ∀ a o, part x H H' a = some o → a = x ∨ H a = none := fun a o e => by
  unfold part at e
  split at e
  · rename_i h; exact .inl h
  · split at e
    · rename_i h; exact .inr h
    · cases e
theorem PrsAt.part {x : Addr} {H H3 H' : Hp} {us : List V} {zs : List Pr} (h : PrsAt x H3 us zs) (fr : ∀ v, v ∈ us → ∀ t, v = .ref t → H t = none) (k : Keep x H3 H') : PrsAt x (Pk.part x H H') us zs := by
  induction h with
  | nil => exact .nil
  | cons h _ ih =>
    obtain ⟨t, rfl, n, h⟩ := h
    refine .cons ⟨t, rfl, n, ?_⟩ (ih fun v hv => fr v (List.mem_cons_of_mem _ hv))
    rw [part_new (fr _ List.mem_cons_self t rfl)]
    exact k _ _ n h
def crow (R : Rw) (i j : Nat) : List Pr := ((List.range j).filter fun j => (prc R i j).isSome).map fun (j : Nat) => (((i : Nat) : Int), (j : Int))
def cpre (R : Rw) (i : Nat) : List Pr := (List.range i).flatMap fun i => crow R i (wd R)
theorem crow_more (R : Rw) (i j : Nat) : crow R i (j + 1) = crow R i j ++ (if (prc R i j).isSome = true then [((i : Int), (j : Int))] else []) := by
  unfold crow
  rw [List.range_succ, List.filter_append, List.map_append]
  congr 1
  cases h : (prc R i j).isSome <;> simp [h]
theorem cpre_more (R : Rw) (i : Nat) : cpre R (i + 1) = cpre R i ++ crow R i (wd R) := by
  unfold cpre
  rw [List.range_succ, List.flatMap_append]
  simp
theorem crow_len (R : Rw) (i : Nat) : ∀ j, (crow R i j).length ≤ j
  | 0 => by simp [crow]
  | j + 1 => by
    have := crow_len R i j
    rw [crow_more, List.length_append]
    split <;> simp <;> omega
theorem cpre_len (R : Rw) : ∀ i, (cpre R i).length ≤ i * wd R
  | 0 => by simp [cpre]
  | i + 1 => by
    have h1 := cpre_len R i
    have h2 := crow_len R i (wd R)
    rw [cpre_more, List.length_append, Nat.succ_mul]
    omega
section
variable {P : Program} {w : World} {K : PySem.W.Frag} {mg : Str → Option Value} {base : Heap} {C CE f : Addr} {fd : FuncData}
theorem sclTbI : FnScope ["self", "rows", "row", "price", "j", "i"] ["self", "rows"] (defScope slTbI) := ⟨rfl, rfl, rfl, by decide +kernel, rfl, by decide +kernel, by decide +kernel⟩
theorem ok_tbI (F : Fun K "__init__" "Table.__init__" slTbI f fd) (T : Bt mg) (A : TbC K C) (DC : Df P w K mg base (L2.CX P w) "check_rows" 6 ["rows"] (spChkR K CE)) : FnOk P w K mg base (L2.CX P w) 8 f fd ["self", "rows"] (spTbI K C CE) := by
  refine F.okX sclTbI (fun vs H Q E h => ?_) (fun cdv A' outer s H vs Q E hr h => ?_)
  · obtain ⟨x, dx, v, d, rfl, _⟩ := h
    rfl
  · obtain ⟨x, dx, v, d, rfl, hx, hdx, ne, hd, kgood, kbad⟩ := h
    refine ⟨_, (pss_cons (ps_expr (pe_dfS (takes_of rfl rfl rfl rfl) DC hr (by decide) (pa_cons (pv 1) pa_nil)))
  (pss_cons (ps_fld (pv 0) (pe_lc (own := [("row", 2)]) (g := gName 2) rfl sclTbI.nd (pi_list (pv 1)) (blkOk_by (own := [("row", 2)]) (N := ["self", "rows", "row", "price", "j", "i"]) (sc := defScope slTbI) (by decide +kernel)) (fun _ _ _ _ _ => pg_name (i := 2) sclTbI.nd rfl (Or.inl rfl)) (fun _ _ _ _ _ => pts_nil) (fun _ _ _ _ _ => (pe_callTy (T := "list") (r := rLstOf K) cl_lst (by rfl) T.list (by decide +kernel) (pa_cons (pv 2) pa_nil)))) rfl)
  (pss_one (ps_fld (pv 0) (pe_lc2 (own := [("i", 5), ("row", 2), ("j", 4), ("price", 3)]) (vs1 := [4, 3]) (g := gTup K 2 (gCons (gName 5) (gCons (gName 2) gNil))) (tt := tYes) (wi1 := iEnum K (tCons (tVar 2) tNil)) (g1 := gTup K 2 (gCons (gName 4) (gCons (gName 3) gNil))) (tt1 := tTest (tOp rIs1 (tVar 3) (tC .non))) (te := tTup (tCons (tVar 5) (tCons (tVar 4) tNil))) rfl sclTbI.nd (pi_enum (by rfl) T.enumerate (pa_cons (pv 1) pa_nil)) (blkOk_by (own := [("i", 5), ("row", 2), ("j", 4), ("price", 3)]) (N := ["self", "rows", "row", "price", "j", "i"]) (sc := defScope slTbI) (by decide +kernel)) (by decide)
    (fun _ _ _ _ _ => pg_tup (by rfl) (pgs_cons (pg_name (i := 5) sclTbI.nd rfl (Or.inl rfl)) (pgs_cons (pg_name (i := 2) sclTbI.nd rfl (Or.inl rfl)) pgs_nil))) (fun _ _ _ _ _ => pts_nil) (fun _ _ _ _ _ => pi_enum (by rfl) T.enumerate (pa_cons (pv 2) pa_nil)) (fun _ _ _ _ _ => pg_tup (by rfl) (pgs_cons (pg_name (i := 4) sclTbI.nd rfl (Or.inl rfl)) (pgs_cons (pg_name (i := 3) sclTbI.nd rfl (Or.inl rfl)) pgs_nil)))
    (fun _ _ _ _ _ => pts_one (pt_cmpR op_is1 (pv 3) pe_non (nomark _))) (fun _ _ _ _ _ => (pe_tup (pa_cons (pv 5) (pa_cons (pv 4) pa_nil))))) rfl)))), ?_⟩
    walk_at "rd"
    refine ⟨v, d, rfl, hd, fun b H1 s1 => ?_, fun k e dd H' s1 h1 h2 => kbad k e dd H' s1 h1 h2⟩
    obtain ⟨R, rfl, g⟩ := badT_inv b
    obtain ⟨a, vs, rfl, ha, hv⟩ := Dp.lstAt hd
    have vl : vs.length = R.length := by have := DpAll.len hv; rwa [List.length_map] at this
    have g8 := g.h8
    have w8 := g.w8
    walk_at "rd"
    refine ⟨a, rfl, ⟨_, s1.seq ha⟩, fun D nD => lc_it walk_list (fun i H' => Same H1 H' ∧ ∃ es, H' D = some (.lst es) ∧ es.length = i ∧ ∀ j v, es[j]? = some v → ∃ c, v = .ref c ∧ c ≠ D ∧ H1 c = none ∧ H' c = some (.lst ((R.getD j []).map pV))) ⟨Same.up (Same.refl H1) nD, [], upd_same, rfl, fun j v e => by simp at e⟩ (fun i H2 _ z => z.1.seq (s1.seq ha)) ?_ ?_⟩
    · rintro i y H2 H3 hi ⟨s2, es, hD, el, er⟩ ⟨rfl, e1⟩
      obtain ⟨dy, hdy, py⟩ := DpAll.at hv e1
      have hi' : i < R.length := by omega
      rw [List.getElem?_map, List.getElem?_eq_getElem hi'] at hdy
      cases (Option.some.inj hdy)
      obtain ⟨b, ws, rfl, hb, hw⟩ := Dp.lstAt py
      obtain rfl := pVs_of hw
      walk_at "rd"
      refine ⟨rfl, ?_⟩
      walk_at "rd"
      refine r_lstOf ((s1.trans s2).seq hb) fun c nc => ?_
      have sc := Same.up (o := .lst (R[i].map pV)) (Same.refl H3) nc
      have cD : c ≠ D := fun z => by rw [z, hD] at nc; cases nc
      refine ⟨es, sc _ _ hD, by rw [el]; exact Nat.lt_of_lt_of_le (show i < 9 by omega) (by decide), fun b o e => ?_, es ++ [.ref c], upd_same, by rw [List.length_append, el]; rfl, fun j v e => ?_⟩
      · have n : b ≠ D := fun z => by rw [z, nD] at e; cases e
        rw [upd_ne n]
        exact sc _ _ (s2 _ _ e)
      · by_cases ji : j < es.length
        · rw [List.getElem?_append_left ji] at e
          obtain ⟨c', rfl, n1, n2, n3⟩ := er j v e
          exact ⟨c', rfl, n1, n2, by rw [upd_ne n1]; exact sc _ _ n3⟩
        · rw [List.getElem?_append_right (by omega)] at e
          have : j = i := by
            have := (List.getElem?_eq_some_iff.mp e).1
            simp at this
            omega
          subst this
          rw [el, Nat.sub_self] at e
          cases (Option.some.inj e)
          exact ⟨c, rfl, cD, s2.free nc, by rw [upd_ne cD, upd_same, g.getD hi']⟩
    · rintro H2 ⟨s2, es, hD, el, er⟩
      have hx2 := s2 _ _ (s1 _ _ hx)
      have xD : x ≠ D := fun z => by rw [← z, s1 _ _ hx] at nD; cases nD
      walk_at "rd"
      refine r_sFld0 (C := C) (dx := dx) (fs := []) hx2 A.O.cl A.e (by decide) ?_
      have kx : Keep x H2 (upd H2 x (.ins C dx (putF "entries" (.ref D) []))) := Keep.refl.own
      have sd : SameD H (upd H2 x (.ins C dx (putF "entries" (.ref D) []))) := (SameD.of (s1.trans s2)).trans (SameD.ofKeep kx hx2)
      obtain ⟨Hx, eHx⟩ : ∃ Hx, Hx = upd H2 x (.ins C dx (putF "entries" (.ref D) [])) := ⟨_, rfl⟩
      rw [← eHx] at kx sd ⊢
      have hxx : Hx x = some (.ins C dx [("entries", .ref D)]) := by rw [eHx, upd_same]; rfl
      have fx : ∀ b, Hx b = none → H b = none := fun b e => by
        by_cases z : b = x
        · rw [z, hxx] at e; cases e
        · cases q : H b with
          | none => rfl
          | some o => rw [kx b o z ((s1.trans s2) _ _ q)] at e; cases e
      have hvx := DpAll.laterD sd hv
      walk_at "rd"
      refine ⟨a, vs, rfl, sd.seqL ha, fun D2 nD2 => lc_any walk_enum (fun i H' => Same Hx H' ∧ ∃ us, H' D2 = some (.lst us) ∧ PrsAt x H' us (cpre R i) ∧ ∀ v, v ∈ us → ∀ t, v = .ref t → Hx t = none ∧ t ≠ D2) ⟨Same.up (Same.refl Hx) nD2, [], upd_same, .nil, fun v hv => by cases hv⟩ (fun i H' _ z => z.1.seq (sd.seqL ha)) ?_ ?_⟩
      · rintro i y H3 H4 hi ⟨s3, us, hD2, hu, fr⟩ ⟨t, i', y', rfl, ht, rfl, e1, e2⟩
        cases (Option.some.inj e1)
        obtain ⟨dy, hdy, py⟩ := DpAll.at hvx e2
        have hi' : i < R.length := by omega
        rw [List.getElem?_map, List.getElem?_eq_getElem hi'] at hdy
        cases (Option.some.inj hdy)
        obtain ⟨b, ws, rfl, hb, hw⟩ := Dp.lstAt py
        obtain rfl := pVs_of hw
        have s4 : Same Hx (upd H3 t (.tup [.int (i : Int), .ref b])) := Same.up s3 ht
        have tD2 : t ≠ D2 := fun z => by rw [z, hD2] at ht; cases ht
        have wl : (R[i].map pV).length = wd R := by rw [List.length_map, g.len hi']
        refine r_gtup ⟨t, _, rfl, SqT.of upd_same, rfl, _, _, rfl, ?_⟩
        walk_at "rd"
        refine ⟨_, _, rfl, ?_⟩
        walk_at "rd"
        refine ⟨rfl, rfl, ?_⟩
        walk_at "rd"
        refine ⟨b, _, rfl, s4.seq hb, lc_any walk_enum (fun j H' => Same Hx H' ∧ ∃ us, H' D2 = some (.lst us) ∧ PrsAt x H' us (cpre R i ++ crow R i j) ∧ ∀ v, v ∈ us → ∀ t, v = .ref t → Hx t = none ∧ t ≠ D2) ⟨s4, us, later hD2 ht, by rw [show crow R i 0 = [] from rfl, List.append_nil]; exact hu.keep (Keep.same (Same.up (Same.refl H3) ht)), fr⟩ (fun j H' _ z => z.1.seq hb) ?_ ?_⟩
        · rintro j y2 H5 H6 hj ⟨s5, us5, hD5, hu5, fr5⟩ ⟨t2, j', z', rfl, ht2, rfl, f1, f2⟩
          cases (Option.some.inj f1)
          have hj' : j < wd R := by omega
          have ez := prc_get g hi' hj'
          rw [g.getD hi', show (R[i].map pV)[j]? = some z' from f2] at ez
          cases (Option.some.inj ez)
          have s6 : Same H5 (upd H5 t2 (.tup [.int (j : Int), pV (prc R i j)])) := Same.up (Same.refl H5) ht2
          refine r_gtup ⟨t2, _, rfl, SqT.of upd_same, rfl, _, _, rfl, ?_⟩
          walk_at "rd"
          refine ⟨_, _, rfl, ?_⟩
          walk_at "rd"
          refine ⟨rfl, rfl, ?_⟩
          walk_at "rd"
          cases q : prc R i j with
          | none =>
            refine ifF rfl ⟨s5.trans ?_, us5, ?_, ?_, fr5⟩
            · rw [q] at s6; exact s6
            · rw [q] at s6; exact s6 _ _ hD5
            · rw [crow_more, q, if_neg (by simp), List.append_nil]
              rw [q] at s6
              exact hu5.keep (Keep.same s6)
          | some m =>
            rw [q] at s6
            refine ifT rfl ?_
            walk_at "rd"
            refine ⟨by show 2 ≤ sizeLine; decide, fun r nr => ?_⟩
            have sr := Same.up (o := .tup [.int (i : Int), .int (j : Int)]) s6 nr
            have r5 : H5 r = none := s6.free nr
            have rx : Hx r = none := s5.free r5
            have rD2 : r ≠ D2 := fun z => by rw [z, hD5] at r5; cases r5
            have xr : r ≠ x := fun z => by rw [z, hxx] at rx; cases rx
            have ul := hu5.length
            have l1 := cpre_len R i
            have l2 := crow_len R i j
            have l3 : i * wd R ≤ 7 * 8 := Nat.mul_le_mul (by omega) w8
            refine ⟨us5, sr _ _ hD5, by rw [ul, List.length_append]; exact Nat.lt_of_lt_of_le (show _ < 65 by omega) (by decide), fun c o e => ?_, us5 ++ [.ref r], upd_same, ?_, fun v hv t' et => ?_⟩
            · have n : c ≠ D2 := fun z => by rw [z, nD2] at e; cases e
              rw [upd_ne n]
              exact sr _ _ (s5 _ _ e)
            · rw [crow_more, q, if_pos (show (some m).isSome = true from rfl), ← List.append_assoc]
              have kD : ∀ c xs, (upd (upd H5 t2 (.tup [.int (j : Int), pV (some m)])) r (.tup [.int (i : Int), .int (j : Int)])) c = some (.tup xs) → (upd (upd (upd H5 t2 (.tup [.int (j : Int), pV (some m)])) r (.tup [.int (i : Int), .int (j : Int)])) D2 (.lst (us5 ++ [.ref r]))) c = some (.tup xs) := fun c xs e => by
                have n : c ≠ D2 := fun z => by rw [z, sr _ _ hD5] at e; cases e
                rw [upd_ne n]
                exact e
              exact ((hu5.keep (Keep.same sr)).mono kD).app (.cons ⟨r, rfl, xr, kD _ _ upd_same⟩ .nil)
            · rcases List.mem_append.mp hv with h | h
              · exact fr5 v h t' et
              · rw [List.mem_singleton] at h
                rw [h] at et
                cases et
                exact ⟨rx, rD2⟩
        · rintro H5 ⟨s5, us5, hD5, hu5, fr5⟩
          rw [wl] at hu5
          exact ⟨s5, us5, hD5, by rw [cpre_more]; exact hu5, fr5⟩
      · rintro H3 ⟨s3, us, hD2, hu, fr⟩
        rw [vl] at hu
        have hx3 := s3 _ _ hxx
        walk_at "rd"
        refine r_sFld0 (C := C) (dx := dx) hx3 A.O.cl A.u (by show 1 < 1000; decide) ?_
        rw [show putF "used" (V.ref D2) [("entries", V.ref D)] = ([("entries", V.ref D), ("used", V.ref D2)] : List (Str × V)) from two_put (f := "entries") (g := "used") (v := .ref D) (u := .ref D2) (by decide +kernel) (by decide +kernel)]
        have x2 : x ≠ D2 := fun z => by rw [← z, hxx] at nD2; cases nD2
        have kf : Keep x H (upd H3 x (.ins C dx [("entries", .ref D), ("used", .ref D2)])) := (((Keep.same (s1.trans s2)).trans kx).trans (Keep.same s3)).own
        have k2 : Keep x H2 (upd H3 x (.ins C dx [("entries", .ref D), ("used", .ref D2)])) := (kx.trans (Keep.same s3)).own
        have nDH : H D = none := s1.free nD
        refine kgood R rfl g _ (part x H (upd H3 x (.ins C dx [("entries", .ref D), ("used", .ref D2)]))) ⟨g, dx, D, D2, es, by rw [part_x, upd_same], ⟨?_, by rw [el, vl], fun i v e => ?_⟩, ⟨Ne.symm x2, us, ?_, hu.part (fun v hv t e => fx t (fr v hv t e).1) Keep.refl.own⟩⟩ part_sub part_off (fun c o n e => kf c o n e)
        · rw [part_new nDH]
          exact k2 _ _ (Ne.symm xD) hD
        · obtain ⟨c, rfl, n1, n2, n3⟩ := er i v e
          have cx : c ≠ x := fun z => by rw [z, s1 _ _ hx] at n2; cases n2
          exact ⟨c, rfl, by rw [part_new (s1.free n2)]; exact k2 _ _ cx n3⟩
        · rw [part_new (fx _ nD2), upd_ne (Ne.symm x2)]
          exact hD2
end
theorem r_ifE {t : TT} {ta tb : TE} {σ : L2.St} {H : Hp} {Q : VK} (h : t σ H fun c H1 => if c = true then ta σ H1 Q else tb σ H1 Q) : tIf t ta tb σ H Q := h
theorem r_bm {K : PySem.W.Frag} {T : String} {r : V → List V → Hp → VK → Prop} {to : TE} {t : TA} {σ : L2.St} {H : Hp} {Q : VK} (h : to σ H fun x H1 => tyV K T x H1 ∧ t σ H1 fun xs H2 => r x xs H2 Q) : tBM K T r to t σ H Q := h
theorem rows_inj {R S : Rw} (h : rowsD R = rowsD S) : R = S := by
  have e := rows_eqv R S
  rw [h, eqv_plain (rows_plain S)] at e
  exact of_decide_eq_true e.symm
/-- a good table is made -/
theorem mk_tb {K : PySem.W.Frag} {C CE : Addr} {H1 : Hp} {x dx : Addr} {v : V} {R : Rw} {Q : VK} {E : XK} (nx : H1 x = none) (nd : H1 dx = none) (ne : dx ≠ x) (hv : Dp K H1 v (rowsD R)) (g : Gt R)
    (k : ∀ (H' G : Hp), Same H1 H' → TbX C G x R → Same G H' → Fresh H1 G → Q (.ref x) H') : spTbI K C CE [.ref x, v] (upd (upd H1 dx (.own x)) x (.ins C dx [])) (fun v H2 => v = .non ∧ Q (.ref x) H2) E := by
  have sy : Same H1 (upd (upd H1 dx (.own x)) x (.ins C dx [])) := fun d o e => by
    have n1 : d ≠ x := fun z => by rw [z, nx] at e; cases e
    have n2 : d ≠ dx := fun z => by rw [z, nd] at e; cases e
    rw [upd_ne n1, upd_ne n2]
    exact e
  refine ⟨x, dx, v, rowsD R, rfl, upd_same, by rw [upd_ne ne, upd_same], ne, Dp.later sy hv, fun R' eR g' H' G t sG fG kp => ⟨rfl, ?_⟩, fun k1 e1 => by rw [badT_good g] at e1; cases e1⟩
  obtain rfl := rows_inj eR
  refine k H' G (fun d o e => kp _ _ (fun z => by rw [z, nx] at e; cases e) (sy _ _ e)) t sG fun a o e => ?_
  rcases fG a o e with z | z
  · rw [z]; exact nx
  · exact sy.free z
def spTStk (C : Addr) : Sp := fun vs H Q _ => ∃ (x : Addr) (G : Hp) (R : Rw), vs = [.ref x] ∧ TbX C G x R ∧ Same G H ∧ Q (.int (R.length : Int)) H
abbrev slTStk : Stmt := inCls 49 12
section
variable {P : Program} {w : World} {K : PySem.W.Frag} {mg : Str → Option Value} {base : Heap} {C CE CP f : Addr} {fd : FuncData}
theorem sclTStk : FnScope ["self"] ["self"] (defScope slTStk) := ⟨rfl, rfl, rfl, by decide +kernel, rfl, by decide +kernel, by decide +kernel⟩
theorem ok_tStk (F : Fun K "stocks" "Table.stocks" slTStk f fd) (T : Bt mg) (A : TbC K C) : FnOk P w K mg base CX0 1 f fd ["self"] (spTStk C) := by
  refine F.ok sclTStk (fun vs H Q E h => ?_) (fun cdv A' outer s H vs Q E hr h => ?_)
  · obtain ⟨x, G, R, rfl, _⟩ := h
    rfl
  · obtain ⟨x, G, R, rfl, ⟨g, dx, e, u, es, ho, hl, hp⟩, sG, k⟩ := h
    refine ⟨_, (pss_one (ps_ret (pe_callB cl_len (by rfl) T.len PySem.boot_len (pa_cons (pe_fld (pv 0) rfl) pa_nil)))), ?_⟩
    walk_at "rd"
    refine r_fldV rfl (sG _ _ ho) A.O.cl A.e two_fst ?_
    walk_at "rd"
    refine r_lenL (SqL.of (sG _ _ hl.at_)) ?_
    rw [hl.len]
    exact k
end
def spTWsh (C : Addr) : Sp := fun vs H Q _ => ∃ (x : Addr) (G : Hp) (R : Rw), vs = [.ref x] ∧ TbX C G x R ∧ Same G H ∧ Q (.int (wd R : Int)) H
abbrev slTWsh : Stmt := inCls 49 13
section
variable {P : Program} {w : World} {K : PySem.W.Frag} {mg : Str → Option Value} {base : Heap} {C CE CP f : Addr} {fd : FuncData}
theorem wd_row {R : Rw} (g : Gt R) {i : Nat} (h : i < R.length) : ((R.getD i []).map pV).length = wd R := by rw [List.length_map, g.getD h, g.len h]
theorem sclTWsh : FnScope ["self"] ["self"] (defScope slTWsh) := ⟨rfl, rfl, rfl, by decide +kernel, rfl, by decide +kernel, by decide +kernel⟩
theorem ok_tWsh (F : Fun K "wishes" "Table.wishes" slTWsh f fd) (T : Bt mg) (A : TbC K C) : FnOk P w K mg base CX0 1 f fd ["self"] (spTWsh C) := by
  refine F.ok sclTWsh (fun vs H Q E h => ?_) (fun cdv A' outer s H vs Q E hr h => ?_)
  · obtain ⟨x, G, R, rfl, _⟩ := h
    rfl
  · obtain ⟨x, G, R, rfl, ⟨g, dx, e, u, es, ho, hl, hp⟩, sG, k⟩ := h
    refine ⟨_, (pss_one (ps_ret (pe_callB cl_len (by rfl) T.len PySem.boot_len (pa_cons (pe_ix ix_list (pe_fld (pv 0) rfl) pe_int (fun _ _ => rfl)) pa_nil)))), ?_⟩
    obtain ⟨a, ea, ha⟩ := hl.get g.h0
    walk_at "rd"
    refine r_fldV rfl (sG _ _ ho) A.O.cl A.e two_fst ?_
    walk_at "rd"
    refine r_ixL (SqL.of (sG _ _ hl.at_)) (atI_nat (j := 0) ea) ?_
    walk_at "rd"
    refine r_lenL (SqL.of (sG _ _ ha)) ?_
    rw [wd_row g g.h0]
    exact k
end
/-- a list of rows, new since H -/
def NewRL (H H' : Hp) (r : Addr) (es : List V) (R : Rw) : Prop := Same H H' ∧ H r = none ∧ RL H' r es R ∧ ∀ (i : Nat) (c : Addr), es[i]? = some (V.ref c) → H c = none ∧ c ≠ r
def spTRws (C : Addr) : Sp := fun vs H Q _ => ∃ (x : Addr) (G : Hp) (R : Rw), vs = [.ref x] ∧ TbX C G x R ∧ Same G H ∧ ∀ r es H', NewRL H H' r es R → Q (.ref r) H'
abbrev slTRws : Stmt := inCls 49 14
section
variable {P : Program} {w : World} {K : PySem.W.Frag} {mg : Str → Option Value} {base : Heap} {C CE CP f : Addr} {fd : FuncData}
theorem sclTRws : FnScope ["self", "row"] ["self"] (defScope slTRws) := ⟨rfl, rfl, rfl, by decide +kernel, rfl, by decide +kernel, by decide +kernel⟩
theorem rl_more {H1 H : Hp} {D c : Addr} {es : List V} {R : Rw} {i : Nat} (nD : H1 D = none) (s2 : Same H1 H) (hD : H D = some (.lst es)) (el : es.length = i) (er : ∀ (j : Nat) (v : V), es[j]? = some v → ∃ c, v = .ref c ∧ c ≠ D ∧ H1 c = none ∧ H c = some (.lst ((R.getD j []).map pV)))
    (nc : H c = none) : Same H1 (upd (upd H c (.lst ((R.getD i []).map pV))) D (.lst (es ++ [V.ref c]))) ∧ ∃ fs : List V, (upd (upd H c (.lst ((R.getD i []).map pV))) D (.lst (es ++ [V.ref c]))) D = some (.lst fs) ∧ fs.length = i + 1 ∧
      ∀ (j : Nat) (v : V), fs[j]? = some v → ∃ b, v = .ref b ∧ b ≠ D ∧ H1 b = none ∧ (upd (upd H c (.lst ((R.getD i []).map pV))) D (.lst (es ++ [V.ref c]))) b = some (.lst ((R.getD j []).map pV)) := by
  have sc := Same.up (o := .lst ((R.getD i []).map pV)) (Same.refl H) nc
  have cD : c ≠ D := fun z => by rw [z, hD] at nc; cases nc
  refine ⟨fun b o e => ?_, es ++ [.ref c], upd_same, by rw [List.length_append, el]; rfl, fun j v e => ?_⟩
  · have n : b ≠ D := fun z => by rw [z, nD] at e; cases e
    rw [upd_ne n]
    exact sc _ _ (s2 _ _ e)
  · by_cases ji : j < es.length
    · rw [List.getElem?_append_left ji] at e
      obtain ⟨b, rfl, n1, n2, n3⟩ := er j v e
      exact ⟨b, rfl, n1, n2, by rw [upd_ne n1]; exact sc _ _ n3⟩
    · rw [List.getElem?_append_right (by omega)] at e
      have : j = i := by
        have := (List.getElem?_eq_some_iff.mp e).1
        simp at this
        omega
      subst this
      rw [el, Nat.sub_self] at e
      cases (Option.some.inj e)
      exact ⟨c, rfl, cD, s2.free nc, by rw [upd_ne cD, upd_same]⟩
theorem ok_tRws (F : Fun K "rows" "Table.rows" slTRws f fd) (T : Bt mg) (A : TbC K C) : FnOk P w K mg base CX0 1 f fd ["self"] (spTRws C) := by
  refine F.ok sclTRws (fun vs H Q E h => ?_) (fun cdv A' outer s H vs Q E hr h => ?_)
  · obtain ⟨x, G, R, rfl, _⟩ := h
    rfl
  · obtain ⟨x, G, R, rfl, ⟨g, dx, e, u, es, ho, hl, hp⟩, sG, k⟩ := h
    have hl := hl.same sG
    have g8 := g.h8
    refine ⟨_, (pss_one (ps_ret (pe_lc (own := [("row", 1)]) (g := gName 1) rfl sclTRws.nd (pi_list (pe_fld (pv 0) rfl)) (blkOk_by (own := [("row", 1)]) (N := ["self", "row"]) (sc := defScope slTRws) (by decide +kernel)) (fun _ _ _ _ _ => pg_name (i := 1) sclTRws.nd rfl (Or.inl rfl)) (fun _ _ _ _ _ => pts_nil) (fun _ _ _ _ _ => (pe_callTy (T := "list") (r := rLstOf K) cl_lst (by rfl) T.list (by decide +kernel) (pa_cons (pv 1) pa_nil)))))), ?_⟩
    walk_at "rd"
    refine r_fldV rfl (sG _ _ ho) A.O.cl A.e two_fst ?_
    refine ⟨e, rfl, ⟨_, SqL.of hl.at_⟩, fun D nD => lc_it walk_list (fun i H' => Same H H' ∧ ∃ es, H' D = some (.lst es) ∧ es.length = i ∧ ∀ j v, es[j]? = some v → ∃ c, v = .ref c ∧ c ≠ D ∧ H c = none ∧ H' c = some (.lst ((R.getD j []).map pV))) ⟨Same.up (Same.refl H) nD, [], upd_same, rfl, fun j v e => by simp at e⟩ (fun i H2 _ z => SqL.of (z.1 _ _ hl.at_)) ?_ ?_⟩
    · rintro i y H2 H3 hi ⟨s2, fs, hD, fl, fr⟩ ⟨rfl, e1⟩
      have hi' : i < R.length := by rw [← hl.len]; exact hi
      obtain ⟨b, rfl, hb⟩ := hl.row i y e1
      walk_at "rd"
      refine ⟨rfl, ?_⟩
      walk_at "rd"
      refine r_lstOf (SqL.of (s2 _ _ hb)) fun c nc => ?_
      exact ⟨fs, later hD nc, by rw [fl]; exact Nat.lt_of_lt_of_le (show i < 9 by omega) (by decide), rl_more nD s2 hD fl fr nc⟩
    · rintro H2 ⟨s2, fs, hD, fl, fr⟩
      rw [hl.len] at fl
      exact k D fs H2 ⟨s2, nD, ⟨hD, fl, fun i v e => by
        obtain ⟨c, e1, n1, n2, n3⟩ := fr i v e
        exact ⟨c, e1, n3⟩⟩, fun i c e => by
        obtain ⟨c', e1, n1, n2, n3⟩ := fr i _ e
        cases e1
        exact ⟨n2, n1⟩⟩
end
def spTPrs (C : Addr) : Sp := fun vs H Q _ => ∃ (x : Addr) (G : Hp) (R : Rw), vs = [.ref x] ∧ TbX C G x R ∧ Same G H ∧ ∀ r us, H r = none → PrsAt x G us (cells R) → Q (.ref r) (upd H r (.lst us))
abbrev slTPrs : Stmt := inCls 49 11
section
variable {P : Program} {w : World} {K : PySem.W.Frag} {mg : Str → Option Value} {base : Heap} {C CE CP f : Addr} {fd : FuncData}
theorem sclTPrs : FnScope ["self"] ["self"] (defScope slTPrs) := ⟨rfl, rfl, rfl, by decide +kernel, rfl, by decide +kernel, by decide +kernel⟩
theorem ok_tPrs (F : Fun K "pairs" "Table.pairs" slTPrs f fd) (T : Bt mg) (A : TbC K C) : FnOk P w K mg base CX0 1 f fd ["self"] (spTPrs C) := by
  refine F.ok sclTPrs (fun vs H Q E h => ?_) (fun cdv A' outer s H vs Q E hr h => ?_)
  · obtain ⟨x, G, R, rfl, _⟩ := h
    rfl
  · obtain ⟨x, G, R, rfl, ⟨g, dx, e, u, es, ho, hl, ⟨nu, us, hu, hp⟩⟩, sG, k⟩ := h
    refine ⟨_, (pss_one (ps_ret (pe_callTy cl_lst (by rfl) T.list (by decide +kernel) (pa_cons (pe_fld (pv 0) rfl) pa_nil)))), ?_⟩
    walk_at "rd"
    refine r_fldV rfl (sG _ _ ho) A.O.cl A.u (two_snd (by decide +kernel)) ?_
    walk_at "rd"
    exact r_lstOf (SqL.of (sG _ _ hu)) fun r nr => k r us nr hp
end
theorem pV_some (z : Option Int) : (!decide (pV z = .non)) = z.isSome := by cases z <;> rfl
def spTLen (C : Addr) : Sp := fun vs H Q _ => ∃ (x : Addr) (G : Hp) (R : Rw), vs = [.ref x] ∧ TbX C G x R ∧ Same G H ∧ Q (.int ((cells R).length : Int)) H
abbrev slTLen : Stmt := inCls 49 5
section
variable {P : Program} {w : World} {K : PySem.W.Frag} {mg : Str → Option Value} {base : Heap} {C CE CP f : Addr} {fd : FuncData}
theorem sclTLen : FnScope ["self"] ["self"] (defScope slTLen) := ⟨rfl, rfl, rfl, by decide +kernel, rfl, by decide +kernel, by decide +kernel⟩
theorem ok_tLen (F : Fun K "__len__" "Table.__len__" slTLen f fd) (T : Bt mg) (A : TbC K C) : FnOk P w K mg base CX0 1 f fd ["self"] (spTLen C) := by
  refine F.ok sclTLen (fun vs H Q E h => ?_) (fun cdv A' outer s H vs Q E hr h => ?_)
  · obtain ⟨x, G, R, rfl, _⟩ := h
    rfl
  · obtain ⟨x, G, R, rfl, ⟨g, dx, e, u, es, ho, hl, ⟨nu, us, hu, hp⟩⟩, sG, k⟩ := h
    refine ⟨_, (pss_one (ps_ret (pe_callB cl_len (by rfl) T.len PySem.boot_len (pa_cons (pe_fld (pv 0) rfl) pa_nil)))), ?_⟩
    walk_at "rd"
    refine r_fldV rfl (sG _ _ ho) A.O.cl A.u (two_snd (by decide +kernel)) ?_
    walk_at "rd"
    refine r_lenL (SqL.of (sG _ _ hu)) ?_
    rw [hp.length]
    exact k
end
end Pk
set_option Elab.async false
set_option linter.all false
set_option maxRecDepth 100000
set_option maxHeartbeats 4000000
namespace Pk
open PySem L2
local macro_rules | `(tactic| walk_at "rd") => `(tactic| repeat (first
  | with_reducible refine r_seq ?_ | with_reducible refine r_nxt ?_ | with_reducible refine r_asg ?_ | with_reducible refine r_to ?_ | with_reducible refine r_ret ?_ | with_reducible refine r_for ?_ | with_reducible refine r_lc ?_ | with_reducible refine r_lc2 ?_ | with_reducible refine r_rng1 ?_ | with_reducible refine r_list ?_ | with_reducible refine r_tupI ?_ | with_reducible refine r_drop ?_ | with_reducible refine r_ifs ?_
  | with_reducible refine r_op ?_ | with_reducible refine r_c ?_ | with_reducible refine r_var rfl ?_ | with_reducible refine r_var (by assumption) ?_ | with_reducible refine r_I0 ?_ | with_reducible refine r_un ?_ | with_reducible refine r_U ?_ | with_reducible refine r_make ?_ | with_reducible refine r_makeS ?_ | with_reducible refine r_ifE ?_ | with_reducible refine r_cm ?_ | with_reducible refine r_mkV rfl ?_ | with_reducible refine r_sub ?_
  | with_reducible refine r_nil ?_ | with_reducible refine r_cons ?_ | with_reducible refine r_cb ?_ | with_reducible refine r_sl ?_ | with_reducible refine r_noP ?_ | with_reducible refine r_part ?_ | with_reducible refine r_isI ?_ | with_reducible refine r_lst ?_ | with_reducible refine r_tup ?_ | with_reducible refine r_call ?_ | with_reducible refine r_callS ?_ | with_reducible refine r_sFldU ?_ | with_reducible refine r_chain ?_ | with_reducible refine r_enum ?_ | with_reducible refine r_zip ?_ | with_reducible refine r_rng3 ?_ | with_reducible refine r_gtup ?_ | with_reducible refine r_methU ?_
  | with_reducible refine r_test ?_ | with_reducible refine r_B ?_ | with_reducible refine r_and ?_ | with_reducible refine r_or ?_ | with_reducible refine r_not ?_ | with_reducible refine r_andV ?_ | with_reducible refine r_orV ?_ | with_reducible refine r_notV ?_ | with_reducible refine r_bl ?_ | with_reducible refine r_yes ?_ | with_reducible refine r_int ?_ | with_reducible refine r_is0 ?_ | with_reducible refine r_is1 ?_ | with_reducible refine iteT ?_ | with_reducible refine iteF ?_ | with_reducible refine ite_nF ?_ | with_reducible refine ite_nT ?_
  | with_reducible refine r_mod (by decide) ?_ | with_reducible refine r_div (by decide) (by decide) ?_ | with_reducible refine r_mulR (by decide) (by decide) ?_ | with_reducible refine r_mulL (by decide) (by decide) ?_ | with_reducible refine r_pow (by decide) (by decide) (by decide) ?_))
/-! ### lines and lots, in numbers -/
def lwd (m k : Nat) : Str := if k < m then "stock" else "wish"
def lno (m k : Nat) : Int := if k < m then (k : Int) else ((k - m : Nat) : Int)
def lneD (m k : Nat) : PyData := .tuple [.str (lwd m k), .int (lno m k)]
theorem lne_alike (m a b : Nat) : PySem.W.alike (lneD m a) (lneD m b) = true := rfl
theorem lne_eqv (m a b : Nat) : PyData.eqv (lneD m a) (lneD m b) = decide (a = b) := by
  have h : PyData.eqv (lneD m a) (lneD m b) = decide ((lwd m a, lno m a) = (lwd m b, lno m b)) := PySem.W.Datum.eqv (α := Str × Int) (lwd m a, lno m a) (lwd m b, lno m b)
  rw [h]
  refine decide_eq_decide.mpr ⟨fun e => ?_, fun e => by rw [e]⟩
  have e1 : lwd m a = lwd m b := congrArg Prod.fst e
  have e2 : lno m a = lno m b := congrArg Prod.snd e
  have ne : ("stock" : Str) ≠ "wish" := by decide +kernel
  unfold lwd at e1
  unfold lno at e2
  by_cases p : a < m
  · rw [if_pos p] at e1 e2
    by_cases q : b < m
    · rw [if_pos q] at e2; omega
    · rw [if_neg q] at e1; exact absurd e1 ne
  · rw [if_neg p] at e1 e2
    by_cases q : b < m
    · rw [if_pos q] at e1; exact absurd e1.symm ne
    · rw [if_neg q] at e2; omega
theorem lne_lt (m a b : Nat) : PySem.W.dataLt (lneD m a) (lneD m b) = decide (a < b) := by
  have n1 : PyData.eqv (.str "stock") (.str "wish") = false := by decide +kernel
  have n2 : PyData.eqv (.str "wish") (.str "stock") = false := by decide +kernel
  have l1 : PySem.W.dataLt (.str "stock") (.str "wish") = true := by decide +kernel
  have l2 : PySem.W.dataLt (.str "wish") (.str "stock") = false := by decide +kernel
  by_cases ab : a = b
  · subst ab
    rw [PySem.W.dataLt_self, decide_eq_false (Nat.lt_irrefl a)]
  have num : ∀ (w : Str) (x y : Int), PyData.eqv (.str w) (.str w) = true → x ≠ y → PySem.W.dataLt (.tuple [.str w, .int x]) (.tuple [.str w, .int y]) = decide (x < y) := fun w x y e n => by
    rw [PySem.W.dataLt_tuple, PySem.W.dataLt_all_yes rfl e, PySem.W.dataLt_all_no rfl (by simp [PyData.eqv, n]), PySem.W.dataLt_int]
  unfold lneD lwd lno
  by_cases p : a < m
  · rw [if_pos p, if_pos p]
    by_cases q : b < m
    · rw [if_pos q, if_pos q, num "stock" _ _ (by decide +kernel) (by omega)]
      exact decide_eq_decide.mpr (by omega)
    · rw [if_neg q, if_neg q, PySem.W.dataLt_tuple, PySem.W.dataLt_all_no rfl n1, l1, decide_eq_true (by omega)]
  · rw [if_neg p, if_neg p]
    by_cases q : b < m
    · rw [if_pos q, if_pos q, PySem.W.dataLt_tuple, PySem.W.dataLt_all_no rfl n2, l2, decide_eq_false (by omega)]
    · rw [if_neg q, if_neg q, num "wish" _ _ (by decide +kernel) (by omega)]
      exact decide_eq_decide.mpr (by omega)
def ltB (l : List Nat) (k : Nat) : Bool := match l.getLast? with
  | none => true
  | some x => decide (x < k)
def nextL (N : Nat) (last : List (List Nat)) : List (List Nat) := last.flatMap fun l => ((List.range N).filter (ltB l)).map fun k => l ++ [k]
def lotsK (N : Nat) : Nat → List (List Nat)
  | 0 => [[]]
  | s + 1 => nextL N (lotsK N s)
/-- the lots with fewer than s lines -/
def lotsU (N s : Nat) : List (List Nat) := (List.range s).flatMap (lotsK N)
structure Asc (N : Nat) (l : List Nat) : Prop where
  lt : l.Pairwise (· < ·)
  b : ∀ k, k ∈ l → k < N
theorem Asc.at {N : Nat} {l : List Nat} (h : Asc N l) : ∀ (i : Nat) (hi : i < l.length), i ≤ l[i]
  | 0, _ => Nat.zero_le _
  | i + 1, hi => by
    have ih := h.at i (by omega)
    have := List.pairwise_iff_getElem.mp h.lt i (i + 1) (by omega) hi (by omega)
    omega
theorem Asc.len {N : Nat} {l : List Nat} (h : Asc N l) : l.length ≤ N := by
  by_cases c : l.length = 0
  · omega
  · have := h.at (l.length - 1) (by omega)
    have := h.b _ (List.getElem_mem (show l.length - 1 < l.length by omega))
    omega
theorem asc_more {N k : Nat} {l : List Nat} (h : Asc N l) (kN : k < N) (c : ltB l k = true) : Asc N (l ++ [k]) := by
  refine ⟨List.pairwise_append.mpr ⟨h.lt, List.pairwise_singleton _ _, fun a ha b hb => ?_⟩, fun x hx => ?_⟩
  · rw [List.mem_singleton.mp hb]
    unfold ltB at c
    cases e : l.getLast? with
    | none => rw [List.getLast?_eq_none_iff.mp e] at ha; cases ha
    | some x =>
      rw [e] at c
      have xk : x < k := of_decide_eq_true c
      obtain ⟨l', el⟩ := List.getLast?_eq_some_iff.mp e
      rw [el] at ha
      rcases List.mem_append.mp ha with ha | ha
      · have hp := h.lt
        rw [el] at hp
        exact Nat.lt_trans ((List.pairwise_append.mp hp).2.2 a ha x (List.mem_singleton.mpr rfl)) xk
      · rw [List.mem_singleton.mp ha]; exact xk
  · rcases List.mem_append.mp hx with hx | hx
    · exact h.b x hx
    · rw [List.mem_singleton.mp hx]; exact kN
theorem lotsK_asc {N : Nat} : ∀ {s : Nat} {l : List Nat}, l ∈ lotsK N s → Asc N l ∧ l.length = s
  | 0, l, h => by
    rw [List.mem_singleton.mp h]
    exact ⟨⟨.nil, fun k hk => by cases hk⟩, rfl⟩
  | s + 1, l, h => by
    obtain ⟨l', hl', h2⟩ := List.mem_flatMap.mp (show l ∈ nextL N (lotsK N s) from h)
    obtain ⟨k, hk, rfl⟩ := List.mem_map.mp h2
    obtain ⟨hk1, hk2⟩ := List.mem_filter.mp hk
    obtain ⟨a, e⟩ := lotsK_asc hl'
    exact ⟨asc_more a (List.mem_range.mp hk1) hk2, by rw [List.length_append, e]; rfl⟩
theorem lotsK_none {N s : Nat} (h : N < s) : lotsK N s = [] := by
  refine List.eq_nil_iff_forall_not_mem.mpr fun l hl => ?_
  obtain ⟨a, e⟩ := lotsK_asc hl
  have := a.len
  omega
theorem asc_last {N : Nat} {l : List Nat} (h : Asc N l) {x : Nat} (e : l.getLast? = some x) : l.length ≤ x + 1 := by
  obtain ⟨l', rfl⟩ := List.getLast?_eq_some_iff.mp e
  have hp := h.lt
  have q : Asc (x + 1) (l' ++ [x]) := ⟨hp, fun k hk => by
    rcases List.mem_append.mp hk with hk | hk
    · have := (List.pairwise_append.mp hp).2.2 k hk x (List.mem_singleton.mpr rfl)
      omega
    · rw [List.mem_singleton.mp hk]; omega⟩
  exact q.len
theorem ltB_len {N : Nat} {l : List Nat} (h : Asc N l) : ((List.range N).filter (ltB l)).length ≤ N - l.length := by
  cases e : l.getLast? with
  | none =>
    rw [List.getLast?_eq_none_iff.mp e]
    have := List.length_filter_le (ltB []) (List.range N)
    rwa [List.length_range] at this
  | some x =>
    have hx := asc_last h e
    have q : (List.range N).filter (ltB l) = (List.range N).filter fun k => decide (x < k) := List.filter_congr fun k _ => by unfold ltB; rw [e]
    rw [q]
    have key : ∀ n, ((List.range n).filter fun k => decide (x < k)).length ≤ n - (x + 1) := by
      intro n
      induction n with
      | zero => exact Nat.zero_le _
      | succ n ih =>
        rw [List.range_succ, List.filter_append, List.length_append]
        by_cases c : x < n
        · rw [List.filter_cons_of_pos (by exact decide_eq_true c)]
          show _ + 1 ≤ _
          omega
        · rw [List.filter_cons_of_neg (by exact fun z => c (of_decide_eq_true z))]
          show _ + 0 ≤ _
          omega
    have := key N
    omega
def facN : Nat → Nat
  | 0 => 1
  | n + 1 => (n + 1) * facN n
theorem facN_pos : ∀ n, 0 < facN n
  | 0 => Nat.zero_lt_one
  | n + 1 => Nat.mul_pos (Nat.succ_pos n) (facN_pos n)
theorem flat_le {α β : Type} {f : α → List β} {c : Nat} : ∀ {l : List α}, (∀ x, x ∈ l → (f x).length ≤ c) → (l.flatMap f).length ≤ l.length * c
  | [], _ => by simp
  | x :: l, h => by
    rw [List.flatMap_cons, List.length_append, List.length_cons, Nat.succ_mul]
    have := flat_le (l := l) fun y hy => h y (List.mem_cons_of_mem _ hy)
    have := h x List.mem_cons_self
    omega
theorem lotsK_len {N : Nat} : ∀ s, (lotsK N s).length * facN (N - s) ≤ facN N
  | 0 => by show 1 * facN N ≤ _; omega
  | s + 1 => by
    by_cases c : s < N
    · have h1 : (lotsK N (s + 1)).length ≤ (lotsK N s).length * (N - s) := flat_le fun l hl => by
        obtain ⟨a, e⟩ := lotsK_asc hl
        rw [List.length_map, ← e]
        exact ltB_len a
      have ih := lotsK_len (N := N) s
      have e : N - s = (N - (s + 1)) + 1 := by omega
      have f : facN (N - s) = (N - s) * facN (N - (s + 1)) := by rw [e]; rfl
      rw [f] at ih
      calc (lotsK N (s + 1)).length * facN (N - (s + 1)) ≤ ((lotsK N s).length * (N - s)) * facN (N - (s + 1)) := Nat.mul_le_mul_right _ h1
        _ = (lotsK N s).length * ((N - s) * facN (N - (s + 1))) := Nat.mul_assoc _ _ _
        _ ≤ facN N := ih
    · rw [lotsK_none (show N < s + 1 by omega)]
      simp
theorem lotsK_few {N s : Nat} (h : N ≤ 8) : (lotsK N s).length ≤ 40320 := by
  have h1 := lotsK_len (N := N) s
  have h2 := Nat.le_mul_of_pos_right (lotsK N s).length (facN_pos (N - s))
  have h3 : facN N ≤ 40320 := by
    match N, h with
    | 0, _ => decide
    | 1, _ => decide
    | 2, _ => decide
    | 3, _ => decide
    | 4, _ => decide
    | 5, _ => decide
    | 6, _ => decide
    | 7, _ => decide
    | 8, _ => decide
  omega
theorem lotsU_more (N s : Nat) : lotsU N (s + 1) = lotsU N s ++ lotsK N s := by
  unfold lotsU
  rw [List.range_succ, List.flatMap_append]; simp
theorem lotsU_few {N : Nat} (h : N ≤ 8) : ∀ s, (lotsU N s).length ≤ s * 40320
  | 0 => Nat.zero_le _
  | s + 1 => by
    rw [lotsU_more, List.length_append, Nat.succ_mul]
    exact Nat.add_le_add (lotsU_few h s) (lotsK_few h)
theorem lotsU_mem {N s : Nat} {l : List Nat} (h : l ∈ lotsU N s) : Asc N l := by
  obtain ⟨i, _, hi⟩ := List.mem_flatMap.mp h
  exact (lotsK_asc hi).1
/-- the numbers of the stocks and of the wishes of a lot -/
def numS (m : Nat) (l : List Nat) : List Int := (l.filter fun k => decide (k < m)).map fun k : Nat => (k : Int)
def numW (m : Nat) (l : List Nat) : List Int := (l.filter fun k => decide (m ≤ k)).map fun k => ((k - m : Nat) : Int)
def leavB (m n : Nat) (l : List Nat) : Bool := decide ((numS m l).length < m) && decide ((numW m l).length < n)
def contB (l : List Nat) (F : List (List Nat)) : Bool := F.any fun o => o.all fun k => decide (k ∈ l)
def numX (m : Nat) (w : Str) (l : List Nat) : List Int := (l.filter fun k => decide (lwd m k = w)).map (lno m)
theorem numX_S (m : Nat) (l : List Nat) : numX m "stock" l = numS m l := by
  have ne : ("wish" : Str) ≠ "stock" := by decide +kernel
  unfold numX numS
  have e : (l.filter fun k => decide (lwd m k = "stock")) = l.filter fun k => decide (k < m) := List.filter_congr fun k _ => decide_eq_decide.mpr (by
    unfold lwd
    by_cases c : k < m
    · rw [if_pos c]; exact ⟨fun _ => c, fun _ => rfl⟩
    · rw [if_neg c]; exact ⟨fun z => absurd z ne, fun z => absurd z c⟩)
  rw [e]
  refine List.map_congr_left fun k hk => ?_
  unfold lno
  rw [if_pos (of_decide_eq_true (List.mem_filter.mp hk).2)]
theorem numX_W (m : Nat) (l : List Nat) : numX m "wish" l = numW m l := by
  have ne : ("stock" : Str) ≠ "wish" := by decide +kernel
  unfold numX numW
  have e : (l.filter fun k => decide (lwd m k = "wish")) = l.filter fun k => decide (m ≤ k) := List.filter_congr fun k _ => decide_eq_decide.mpr (by
    unfold lwd
    by_cases c : k < m
    · rw [if_pos c]; exact ⟨fun z => absurd z ne, fun z => absurd z (by omega)⟩
    · rw [if_neg c]; exact ⟨fun _ => by omega, fun _ => rfl⟩)
  rw [e]
  refine List.map_congr_left fun k hk => ?_
  unfold lno
  rw [if_neg (by have := of_decide_eq_true (List.mem_filter.mp hk).2; omega)]
end Pk
set_option Elab.async false
set_option linter.all false
set_option maxRecDepth 100000
set_option maxHeartbeats 4000000
namespace Pk
open PySem L2
local macro_rules | `(tactic| walk_at "rd") => `(tactic| repeat (first
  | with_reducible refine r_seq ?_ | with_reducible refine r_nxt ?_ | with_reducible refine r_asg ?_ | with_reducible refine r_to ?_ | with_reducible refine r_ret ?_ | with_reducible refine r_for ?_ | with_reducible refine r_lc ?_ | with_reducible refine r_lc2 ?_ | with_reducible refine r_rng1 ?_ | with_reducible refine r_list ?_ | with_reducible refine r_tupI ?_ | with_reducible refine r_drop ?_ | with_reducible refine r_ifs ?_
  | with_reducible refine r_op ?_ | with_reducible refine r_c ?_ | with_reducible refine r_var rfl ?_ | with_reducible refine r_var (by assumption) ?_ | with_reducible refine r_I0 ?_ | with_reducible refine r_un ?_ | with_reducible refine r_U ?_ | with_reducible refine r_make ?_ | with_reducible refine r_makeS ?_ | with_reducible refine r_ifE ?_ | with_reducible refine r_cm ?_ | with_reducible refine r_mkV rfl ?_ | with_reducible refine r_sub ?_
  | with_reducible refine r_nil ?_ | with_reducible refine r_cons ?_ | with_reducible refine r_cb ?_ | with_reducible refine r_sl ?_ | with_reducible refine r_noP ?_ | with_reducible refine r_part ?_ | with_reducible refine r_isI ?_ | with_reducible refine r_lst ?_ | with_reducible refine r_tup ?_ | with_reducible refine r_call ?_ | with_reducible refine r_callS ?_ | with_reducible refine r_sFldU ?_ | with_reducible refine r_chain ?_ | with_reducible refine r_enum ?_ | with_reducible refine r_zip ?_ | with_reducible refine r_rng3 ?_ | with_reducible refine r_gtup ?_ | with_reducible refine r_methU ?_
  | with_reducible refine r_test ?_ | with_reducible refine r_B ?_ | with_reducible refine r_and ?_ | with_reducible refine r_or ?_ | with_reducible refine r_not ?_ | with_reducible refine r_andV ?_ | with_reducible refine r_orV ?_ | with_reducible refine r_notV ?_ | with_reducible refine r_bl ?_ | with_reducible refine r_yes ?_ | with_reducible refine r_int ?_ | with_reducible refine r_is0 ?_ | with_reducible refine r_is1 ?_ | with_reducible refine iteT ?_ | with_reducible refine iteF ?_ | with_reducible refine ite_nF ?_ | with_reducible refine ite_nT ?_
  | with_reducible refine r_mod (by decide) ?_ | with_reducible refine r_div (by decide) (by decide) ?_ | with_reducible refine r_mulR (by decide) (by decide) ?_ | with_reducible refine r_mulL (by decide) (by decide) ?_ | with_reducible refine r_pow (by decide) (by decide) (by decide) ?_))
/-! ### what shifted wants: price_sum, rows one by one -/
theorem pV_non (z : Option Int) : decide (pV z = .non) = z.isNone := by cases z <;> rfl
def psum : Option Int → Option Int → Option Int
  | .some a, .some b => .some (a + b)
  | _, _ => .none
def spPSum : Sp := fun vs H Q _ => ∃ a b : Option Int, vs = [pV a, pV b] ∧ Q (pV (psum a b)) H
abbrev slPSum : Stmt := top 47
def retCallScope : Stmt → Scope
  | .Return (value := some (.Call (args := [.ListComp (scope := sc) ..]) ..)) .. => sc
  | s => defScope s
section
variable {P : Program} {w : World} {K : PySem.W.Frag} {mg : Str → Option Value} {base : Heap} {C CE CP f : Addr} {fd : FuncData}
theorem sclPSum : FnScope ["one", "other"] ["one", "other"] (defScope slPSum) := ⟨rfl, rfl, rfl, by decide +kernel, rfl, by decide +kernel, by decide +kernel⟩
theorem ok_pSum (F : Fun K "price_sum" "price_sum" slPSum f fd) : FnOk P w K mg base CX0 1 f fd ["one", "other"] spPSum := by
  refine F.ok sclPSum (fun vs H Q E h => ?_) (fun cdv A' outer s H vs Q E hr h => ?_)
  · obtain ⟨a, b, rfl, _⟩ := h
    rfl
  · obtain ⟨a, b, rfl, k⟩ := h
    refine ⟨_, (pss_one (ps_ret (pe_ifExp (PW.pt (pw_or (pt_cmpR op_is0 (pv 0) pe_non (nomark _)) (pw_or1 (pt_cmpR op_is0 (pv 1) pe_non (nomark _))))) pe_non (pe_op op_add (pv 0) (pv 1))))), ?_⟩
    walk_at "rd"
    rw [pV_non]
    cases a with
    | none =>
      refine ifT rfl ?_
      walk_at "rd"
      exact k
    | some a =>
      refine ifF rfl ?_
      walk_at "rd"
      rw [pV_non]
      cases b with
      | none =>
        refine ifT rfl ?_
        walk_at "rd"
        exact k
      | some b =>
        refine ifF rfl ?_
        walk_at "rd"
        exact ⟨a, b, rfl, rfl, k⟩
end
theorem wd_head : ∀ {R : Rw} (h : 0 < R.length), wd R = R[0].length
  | _ :: _, _ => rfl
/-- the first i rows of S stand in the list at D -/
def RowsAt (H1 : Hp) (D : Addr) (S : Rw) (i : Nat) (H' : Hp) : Prop := Same H1 H' ∧ ∃ fs, H' D = some (.lst fs) ∧ fs.length = i ∧ Dist fs ∧ ∀ j v, fs[j]? = some v → ∃ c, v = .ref c ∧ c ≠ D ∧ H1 c = none ∧ H' c = some (.lst ((S.getD j []).map pV))
theorem RowsAt.start {H1 : Hp} {D : Addr} {S : Rw} (nD : H1 D = none) : RowsAt H1 D S 0 (upd H1 D (.lst [])) := ⟨Same.up (Same.refl H1) nD, [], upd_same, rfl, Dist.nil, fun j v e => by simp at e⟩
theorem RowsAt.more {H1 H2 H4 : Hp} {D D2 : Addr} {S : Rw} {i : Nat} (nD : H1 D = none) (r : RowsAt H1 D S i H2) (s4 : Same H2 H4) (i9 : i < 9) (nD2 : H2 D2 = none) (hD4 : H4 D2 = some (.lst ((S.getD i []).map pV))) :
    ∃ acc, H4 D = some (.lst acc) ∧ acc.length < sizeLine ∧ RowsAt H1 D S (i + 1) (upd H4 D (.lst (acc ++ [.ref D2]))) := by
  obtain ⟨s2, fs, hD, fl, ds, fr⟩ := r
  have D2D : D2 ≠ D := fun z => by rw [z, hD] at nD2; cases nD2
  refine ⟨fs, s4 _ _ hD, by rw [fl]; exact Nat.lt_of_lt_of_le i9 (by decide), fun c o e => ?_, fs ++ [.ref D2], upd_same, by rw [List.length_append, fl]; rfl, ds.more fun j v ev => ?_, fun j v ev => ?_⟩
  · have n : c ≠ D := fun z => by rw [z, nD] at e; cases e
    rw [upd_ne n]
    exact s4 _ _ (s2 _ _ e)
  · obtain ⟨c, rfl, n1, n2, n3⟩ := fr j v ev
    intro z
    cases z
    rw [n3] at nD2
    cases nD2
  · by_cases ji : j < fs.length
    · rw [List.getElem?_append_left ji] at ev
      obtain ⟨c, rfl, n1, n2, n3⟩ := fr j v ev
      exact ⟨c, rfl, n1, n2, by rw [upd_ne n1]; exact s4 _ _ n3⟩
    · rw [List.getElem?_append_right (by omega)] at ev
      have : j = i := by
        have := (List.getElem?_eq_some_iff.mp ev).1
        simp at this
        omega
      subst this
      rw [fl, Nat.sub_self] at ev
      cases (Option.some.inj ev)
      exact ⟨D2, rfl, D2D, s2.free nD2, by rw [upd_ne D2D]; exact hD4⟩
theorem RowsAt.rl {H1 H' : Hp} {D : Addr} {S : Rw} (r : RowsAt H1 D S S.length H') : Same H1 H' ∧ ∃ fs, RL H' D fs S ∧ Dist fs ∧ ∀ (i : Nat) (c : Addr), fs[i]? = some (V.ref c) → H1 c = none ∧ c ≠ D := by
  obtain ⟨s2, fs, hD, fl, ds, fr⟩ := r
  exact ⟨s2, fs, ⟨hD, fl, fun i v e => by
    obtain ⟨c, e1, n1, n2, n3⟩ := fr i v e
    exact ⟨c, e1, n3⟩⟩, ds, fun i c e => by
    obtain ⟨c', e1, n1, n2, n3⟩ := fr i _ e
    cases e1
    exact ⟨n2, n1⟩⟩
section
variable {P : Program} {w : World} {K : PySem.W.Frag} {mg : Str → Option Value} {base : Heap} {C CE CP f : Addr} {fd : FuncData}
theorem mk_tb3 {H1 : Hp} {x dx : Addr} {v : V} {R : Rw} {Q : Hp → Prop} {E : XK} (nx : H1 x = none) (nd : H1 dx = none) (ne : dx ≠ x) (hv : Dp K H1 v (rowsD R)) (g : Gt R)
    (k : ∀ (H' G : Hp), Same H1 H' → TbX C G x R → Same G H' → Fresh H1 G → Q H') : spTbI K C CE [.ref x, v] (upd (upd H1 dx (.own x)) x (.ins C dx [])) (fun v H2 => v = .non ∧ Q H2) E := mk_tb (Q := fun _ H => Q H) nx nd ne hv g k
end
/-! ### are_integers, are_lines -/
def intsOk (n : Int) : PyData → Bool
  | .list ds => decide ((ds.length : Int) = n) && ds.all isID
  | _ => false
def ltI : PyData → PyData → Bool
  | .int a, .int b => decide (a < b)
  | _, _ => false
def ascB (ds : List PyData) : Bool := (List.range (ds.length - 1)).all fun k => ltI (ds.getD k .none) (ds.getD (k + 1) .none)
def linesOk (n : Int) : PyData → Bool
  | .list ds => ds.all (betD 0 (n - 1)) && ascB ds
  | _ => false
def Sl (d : PyData) : Prop := ∀ ds, d = .list ds → ds.length ≤ 1000
def spAreI (K : PySem.W.Frag) : Sp := fun vs H Q _ => ∃ (v : V) (d : PyData) (n : Int), vs = [v, .int n] ∧ Dp K H v d ∧ Sl d ∧ ∀ H' : Hp, Same H H' → Q (.bl (intsOk n d)) H'
def spAreL (K : PySem.W.Frag) : Sp := fun vs H Q _ => ∃ (v : V) (d : PyData) (n : Int), vs = [v, .int n] ∧ Dp K H v d ∧ Sl d ∧ ∀ H' : Hp, Same H H' → Q (.bl (linesOk n d)) H'
abbrev slAreL : Stmt := top 17
theorem out_all {ds : List PyData} {g : PyData → Bool} : (List.range ds.length).map (fun i => V.bl (g (ds.getD i .none))) = (ds.map g).map V.bl := by
  apply List.ext_getElem
  · simp
  · intro n h1 h2
    have hn : n < ds.length := by simpa using h2
    simp [List.getElem?_eq_getElem hn]
theorem all_id {α : Type} (g : α → Bool) : ∀ l : List α, (l.map g).all id = l.all g
  | [] => rfl
  | x :: l => by simp [all_id g l]
theorem betD_inv {lo hi : Int} {d : PyData} (h : betD lo hi d = true) : ∃ i : Int, d = .int i ∧ lo ≤ i ∧ i ≤ hi := by
  cases d with
  | int i =>
    have h2 : (decide (lo ≤ i) && decide (i ≤ hi)) = true := h
    rw [Bool.and_eq_true, decide_eq_true_eq, decide_eq_true_eq] at h2
    exact ⟨i, rfl, h2.1, h2.2⟩
  | _ => cases h
section
variable {P : Program} {w : World} {K : PySem.W.Frag} {mg : Str → Option Value} {base : Heap} {C CE f : Addr} {fd : FuncData}
theorem sclAreL : FnScope ["value", "many", "k", "entry"] ["value", "many"] (defScope slAreL) := ⟨rfl, rfl, rfl, by decide +kernel, rfl, by decide +kernel, by decide +kernel⟩
theorem ok_areL (F : Fun K "are_lines" "are_lines" slAreL f fd) (T : Bt mg) (tall : mg "all" = none) (DB : Df P w K mg base CX0 "is_between" 2 ["value", "low", "high"] (spBetD K)) : FnOk P w K mg base CX0 3 f fd ["value", "many"] (spAreL K) := by
  refine F.ok sclAreL (fun vs H Q E h => ?_) (fun cdv A outer s H vs Q E hr h => ?_)
  · obtain ⟨v, d, n, rfl, _⟩ := h
    rfl
  · obtain ⟨v, d, n, rfl, hd, sl, k⟩ := h
    refine ⟨_, (pss_cons (ps_if (PW.pt (pw_or (pt_not (pt_val (pe_callB call_isi (by rfl) T.isinstance (by decide +kernel) (pa_cons (pv 0) (pa_cons (pe_bltn (v := .ty "list") (by rfl) T.list (by decide +kernel) rfl) pa_nil))))) (pw_or1 (pt_not (pt_val (pe_callB (cr_all rfl) (by rfl) tall (by decide +kernel) (pa_cons (pe_lc (own := [("entry", 3)]) (g := gName 3) rfl sclAreL.nd (pi_list (pv 0)) (blkOk_by (own := [("entry", 3)]) (N := ["value", "many", "k", "entry"]) (sc := defScope slAreL) (by decide +kernel)) (fun _ _ _ _ _ => pg_name (i := 3) sclAreL.nd rfl (Or.inl rfl)) (fun _ _ _ _ _ => pts_nil) (fun _ _ _ _ _ => (pe_df DB hr (by decide) (pa_cons (pv 3) (pa_cons pe_int (pa_cons (pe_op op_sub (pv 1) pe_int) pa_nil)))))) pa_nil))))))) (pss_one (ps_ret pe_bl)) pss_nil)
  (pss_one (ps_ret (pe_callB (cr_all rfl) (by rfl) tall (by decide +kernel) (pa_cons (pe_lc (own := [("k", 2)]) (g := gName 2) (te := tOp (rI0 fun i j => .bl (decide (i < j))) (tOp (rIxL K) (tVar 0) (tVar 2)) (tOp (rIxL K) (tVar 0) (tOp (rI0 fun i j => .int (i + j)) (tVar 2) (tC (.int 1))))) rfl sclAreL.nd (pi_range1 rfl T.range (pa_cons (pe_op op_sub (pe_callB cl_len (by rfl) T.len (by decide +kernel) (pa_cons (pv 0) pa_nil)) pe_int) pa_nil)) (blkOk_by (own := [("k", 2)]) (N := ["value", "many", "k", "entry"]) (sc := defScope slAreL) (by decide +kernel)) (fun _ _ _ _ _ => pg_name (i := 2) sclAreL.nd rfl (Or.inl rfl)) (fun _ _ _ _ _ => pts_nil) (fun _ _ _ _ _ => (pe_cmpR op_lt (pe_ix ix_list (pv 0) (pv 2) (fun _ _ => rfl)) (pe_ix ix_list (pv 0) (pe_op op_add (pv 2) pe_int) (fun _ _ => rfl)) (nomark _)))) pa_nil))))), ?_⟩
    have no : ∀ H1 : Hp, Same H H1 → linesOk n d = false → Q (.bl false) H1 := fun H1 s1 z => by
      have := k H1 s1
      rw [z] at this
      exact this
    walk_at "rd"
    refine r_isDL hd ?_
    walk_at "rd"
    by_cases c0 : isLD d = true
    · refine ifF (by rw [c0]; rfl) ?_
      obtain ⟨ds, rfl⟩ : ∃ ds, d = .list ds := by
        cases d with
        | list ds => exact ⟨ds, rfl⟩
        | _ => cases c0
      obtain ⟨a, vs, rfl, ha, hv⟩ := Dp.lstAt hd
      have vl := DpAll.len hv
      have sd := sl ds rfl
      walk_at "rd"
      refine ⟨a, rfl, ⟨_, ha⟩, fun D nD => lc_it walk_list (Out H D fun i => V.bl (betD 0 (n - 1) (ds.getD i .none))) (Out.start nD) (fun i H1 _ o => o.1.seq ha) ?_ ?_⟩
      · rintro i y H1 H2 hi o ⟨rfl, e1⟩
        obtain ⟨dy, hdy, py⟩ := DpAll.at hv e1
        walk_at "rd"
        refine ⟨rfl, ?_⟩
        walk_at "rd"
        refine ⟨y, dy, 0, n - 1, rfl, Dp.later o.1 py, ?_⟩
        have ey : V.bl (betD 0 (n - 1) dy) = (fun i => V.bl (betD 0 (n - 1) (ds.getD i .none))) i := by
          show _ = V.bl (betD 0 (n - 1) (ds.getD i .none))
          rw [List.getD_eq_getElem?_getD, hdy]
          rfl
        rw [ey]
        exact o.more nD (Same.refl _) (Nat.lt_of_lt_of_le (show i < 1001 by omega) (by decide))
      · rintro H1 ⟨s1, hD⟩
        rw [vl, out_all (g := betD 0 (n - 1))] at hD
        walk_at "rd"
        refine ⟨D, ds.map (betD 0 (n - 1)), rfl, SqL.of hD, ?_⟩
        rw [all_id]
        walk_at "rd"
        by_cases c1 : ds.all (betD 0 (n - 1)) = true
        · refine ifF (by rw [c1]; rfl) ?_
          walk_at "rd"
          refine r_lenL (s1.seq ha) ?_
          walk_at "rd"
          have cell : ∀ i, i < ds.length → ∃ m : Int, vs[i]? = some (.int m) ∧ ds.getD i .none = .int m := fun i hi => by
            have hvi : i < vs.length := by omega
            obtain ⟨dy, hdy, py⟩ := DpAll.at hv (List.getElem?_eq_getElem hvi)
            have b1 : betD 0 (n - 1) dy = true := List.all_eq_true.mp c1 dy (List.mem_of_getElem? hdy)
            obtain ⟨m, rfl, _, _⟩ := betD_inv b1
            exact ⟨m, by rw [List.getElem?_eq_getElem hvi, Dp.intV py], by rw [List.getD_eq_getElem?_getD, hdy]; rfl⟩
          refine ⟨_, rfl, by omega, by omega, fun D2 nD2 => lc_it walk_range (Out H1 D2 fun i => V.bl (ltI (ds.getD i .none) (ds.getD (i + 1) .none))) (Out.start nD2) (fun _ _ _ _ => trivial) ?_ ?_⟩
          · rintro i y H2 H3 hi o ⟨rfl, rfl⟩
            have hi : i < ((vs.length : Int) - 1).toNat := hi
            obtain ⟨m1, v1, d1⟩ := cell i (by omega)
            obtain ⟨m2, v2, d2⟩ := cell (i + 1) (by omega)
            show gName 2 (V.int (0 + (i : Int))) _ _ _
            rw [Int.zero_add]
            walk_at "rd"
            refine ⟨rfl, ?_⟩
            walk_at "rd"
            refine r_ixL (o.1.seq (s1.seq ha)) (atI_nat v1) ?_
            walk_at "rd"
            refine r_ixL (o.1.seq (s1.seq ha)) (atI_nat (j := i + 1) v2) ?_
            walk_at "rd"
            have ey : V.bl (decide (m1 < m2)) = (fun i => V.bl (ltI (ds.getD i .none) (ds.getD (i + 1) .none))) i := by
              show _ = V.bl (ltI (ds.getD i .none) (ds.getD (i + 1) .none))
              rw [d1, d2]
              rfl
            rw [ey]
            exact o.more nD2 (Same.refl _) (Nat.lt_of_lt_of_le (show i < 1001 by omega) (by decide))
          · rintro H2 ⟨s2, hD2⟩
            have hl : ((vs.length : Int) - 1).toNat = ds.length - 1 := by omega
            rw [hl] at hD2
            walk_at "rd"
            refine ⟨D2, (List.range (ds.length - 1)).map (fun i => ltI (ds.getD i .none) (ds.getD (i + 1) .none)), rfl, SqL.of (hD2.trans (by rw [List.map_map]; rfl)), ?_⟩
            rw [all_id]
            have := k H2 (s1.trans s2)
            rw [show linesOk n (.list ds) = (ds.all (betD 0 (n - 1)) && ascB ds) from rfl, c1, Bool.true_and] at this
            exact this
        · refine ifT (by rw [Bool.eq_false_iff.mpr c1]; rfl) ?_
          walk_at "rd"
          exact no H1 s1 (by rw [show linesOk n (.list ds) = (ds.all (betD 0 (n - 1)) && ascB ds) from rfl, Bool.eq_false_iff.mpr c1]; rfl)
    · refine ifT (by rw [Bool.eq_false_iff.mpr c0]; rfl) ?_
      walk_at "rd"
      exact no H (Same.refl H) (by cases d <;> first | rfl | exact absurd rfl c0)
end
theorem RowsAt.same {H1 H2 H3 : Hp} {D : Addr} {S : Rw} {i : Nat} (r : RowsAt H1 D S i H2) (s : Same H2 H3) : RowsAt H1 D S i H3 := by
  obtain ⟨s2, fs, hD, fl, ds, fr⟩ := r
  exact ⟨s2.trans s, fs, s _ _ hD, fl, ds, fun j v e => by
    obtain ⟨c, e1, n1, n2, n3⟩ := fr j v e
    exact ⟨c, e1, n1, n2, s _ _ n3⟩⟩
theorem isID_all : ∀ {ds : List PyData}, (∀ x, x ∈ ds → isID x = true) → ∃ ms : List Int, ds = ms.map .int
  | [], _ => ⟨[], rfl⟩
  | d :: ds, h => by
    obtain ⟨ms, e⟩ := isID_all fun x hx => h x (List.mem_cons_of_mem _ hx)
    have i1 := h d List.mem_cons_self
    cases d with
    | int i => exact ⟨i :: ms, by rw [e]; rfl⟩
    | _ => cases i1
theorem ints_vs {K : PySem.W.Frag} {H : Hp} : ∀ {vs : List V} {ms : List Int}, DpAll K H vs (ms.map .int) → vs = ms.map V.int
  | [], [], _ => rfl
  | _ :: _, [], h => by cases h
  | [], _ :: _, h => by cases h
  | v :: vs, m :: ms, h => by
    cases h with
    | cons h1 h2 => rw [Dp.intV h1, ints_vs h2]; rfl
/-! ### Table.without -/
theorem inV_ints (m : Int) : ∀ ms : List Int, inV (.int m) (ms.map V.int) = decide (m ∈ ms)
  | [] => by simp [inV]
  | n :: ms => by
    have ih := inV_ints m ms
    simp only [inV, List.map_cons, List.any_cons] at ih ⊢
    rw [ih, show eqV (.int n) (.int m) = decide (n = m) from rfl]
    by_cases e : n = m
    · simp [e]
    · have e2 : ¬ m = n := fun z => e z.symm
      simp [e, e2]
theorem flat_ints (ms : List Int) : (ms.map V.int).all flatV = true := by
  rw [List.all_eq_true]
  intro v hv
  obtain ⟨m, _, rfl⟩ := List.mem_map.mp hv
  rfl
def kp (ss : List Int) (k : Nat) : List Nat := (List.range k).filter fun i => !decide ((i : Int) ∈ ss)
theorem kp_in {ss : List Int} {k : Nat} (h : (k : Int) ∈ ss) : kp ss (k + 1) = kp ss k := by
  simp [kp, List.range_succ, List.filter_append, h]
theorem kp_out {ss : List Int} {k : Nat} (h : ¬ (k : Int) ∈ ss) : kp ss (k + 1) = kp ss k ++ [k] := by
  simp [kp, List.range_succ, List.filter_append, h]
theorem kp_le (ss : List Int) (k : Nat) : (kp ss k).length ≤ k := by
  have := List.length_filter_le (fun i : Nat => !decide ((i : Int) ∈ ss)) (List.range k)
  rwa [List.length_range] at this
theorem all_there : ∀ (n : Nat) (l : List Int), (∀ i : Nat, i < n → (i : Int) ∈ l) → n ≤ l.length
  | 0, _, _ => Nat.zero_le _
  | n + 1, l, h => by
    have hn := h n (Nat.lt_succ_self n)
    have ih := all_there n (l.erase (n : Int)) fun i hi => (List.mem_erase_of_ne (fun z => by omega)).mpr (h i (by omega))
    rw [List.length_erase_of_mem hn] at ih
    have : 0 < l.length := List.length_pos_of_mem hn
    omega
theorem kp_pos {ss : List Int} {n : Nat} (h : ss.length < n) : 0 < (kp ss n).length := by
  rcases Nat.eq_zero_or_pos (kp ss n).length with z | z
  · have := all_there n ss fun i hi => by
      by_cases c : (i : Int) ∈ ss
      · exact c
      · have : i ∈ kp ss n := List.mem_filter.mpr ⟨List.mem_range.mpr hi, by simp [c]⟩
        rw [List.length_eq_zero_iff.mp z] at this
        cases this
    omega
  · exact z
def woRow (R : Rw) (ns : List Int) (i m : Nat) : List (Option Int) := (kp ns m).map fun j => prc R i j
def woP (R : Rw) (ms ns : List Int) (k : Nat) : Rw := (kp ms k).map fun i => woRow R ns i (wd R)
def woR (R : Rw) (ms ns : List Int) : Rw := woP R ms ns R.length
theorem woR_gt {R : Rw} (g : Gt R) {ms ns : List Int} (h1 : ms.length < R.length) (h2 : ns.length < wd R) : Gt (woR R ms ns) := by
  have l : (woR R ms ns).length = (kp ms R.length).length := by simp [woR, woP]
  have p1 := kp_pos h1
  have p2 := kp_pos h2
  have q1 := kp_le ms R.length
  have q2 := kp_le ns (wd R)
  have g8 := g.h8
  have w8 := g.w8
  have sq : ∀ r, r ∈ woR R ms ns → r.length = (kp ns (wd R)).length := fun r m => by
    obtain ⟨j, _, rfl⟩ := List.mem_map.mp m
    simp [woRow]
  have w : wd (woR R ms ns) = (kp ns (wd R)).length := by
    cases q : woR R ms ns with
    | nil => rw [q] at l; simp at l; omega
    | cons r S => exact sq r (by rw [q]; exact List.mem_cons_self)
  exact ⟨by omega, by omega, by omega, by omega, fun r m => by rw [w]; exact sq r m⟩
theorem RowsAt.snoc {H1 H2 H4 : Hp} {D D2 : Addr} {S : Rw} {r : List (Option Int)} (nD : H1 D = none) (ra : RowsAt H1 D S S.length H2) (s4 : Same H2 H4) (i9 : S.length < 9) (nD2 : H2 D2 = none) (hD4 : H4 D2 = some (.lst (r.map pV))) :
    ∃ acc, H4 D = some (.lst acc) ∧ acc.length < sizeLine ∧ RowsAt H1 D (S ++ [r]) (S ++ [r]).length (upd H4 D (.lst (acc ++ [.ref D2]))) := by
  have ra' : RowsAt H1 D (S ++ [r]) S.length H2 := by
    obtain ⟨s2, fs, hD, fl, ds, fr⟩ := ra
    refine ⟨s2, fs, hD, fl, ds, fun j v e => ?_⟩
    have hj : j < S.length := by rw [← fl]; exact (List.getElem?_eq_some_iff.mp e).1
    rw [List.getD_eq_getElem?_getD, List.getElem?_append_left hj, ← List.getD_eq_getElem?_getD]
    exact fr j v e
  have := ra'.more nD s4 i9 nD2 (by
    rw [List.getD_eq_getElem?_getD, List.getElem?_append_right (Nat.le_refl _), Nat.sub_self]
    exact hD4)
  rw [List.length_append]
  exact this
theorem linesOk_inv {n : Int} {d : PyData} (h : linesOk n d = true) : ∃ ms : List Int, d = .list (ms.map .int) := by
  cases d with
  | list ds =>
    have h : (ds.all (betD 0 (n - 1)) && ascB ds) = true := h
    rw [Bool.and_eq_true, List.all_eq_true] at h
    obtain ⟨ms, e⟩ := isID_all (ds := ds) fun x hx => by
      obtain ⟨i, rfl, _, _⟩ := betD_inv (h.1 x hx)
      rfl
    exact ⟨ms, by rw [e]⟩
  | _ => cases h
/-- lines that may be left out: not all of them -/
def lenNe (n : Int) : PyData → Bool
  | .list ds => !decide ((ds.length : Int) = n)
  | _ => false
def lessOk (n : Int) (d : PyData) : Bool := linesOk n d && lenNe n d
theorem lessOk_inv {n : Int} {d : PyData} (h : lessOk n d = true) : linesOk n d = true ∧ ∃ ms : List Int, d = .list (ms.map .int) ∧ (ms.length : Int) ≠ n := by
  rw [lessOk, Bool.and_eq_true] at h
  obtain ⟨ms, rfl⟩ := linesOk_inv h.1
  refine ⟨h.1, ms, rfl, fun z => ?_⟩
  have h2 : (!decide (((ms.map PyData.int).length : Int) = n)) = true := h.2
  rw [List.length_map, z] at h2
  simp at h2
def spTWo (K : PySem.W.Frag) (C CB : Addr) : Sp := fun vs H Q E => ∃ (x : Addr) (v u : V) (d e : PyData) (G : Hp) (R : Rw), vs = [.ref x, v, u] ∧ TbX C G x R ∧ Same G H ∧ Dp K H v d ∧ Dp K H u e ∧ Sl d ∧ Sl e ∧
  (∀ ms ns : List Int, d = .list (ms.map .int) → e = .list (ns.map .int) → linesOk R.length d = true → linesOk (wd R) e = true → ms.length < R.length → ns.length < wd R → ∀ (y : Addr) (H' G' : Hp), Same H H' → TbX C G' y (woR R ms ns) → Same G' H' → Fresh H G' → Q (.ref y) H') ∧
  (lessOk R.length d = false → ∀ (dd : Addr) (H' : Hp), Same H H' → H dd = none → H' dd = some (.xd [("name", .str "stocks")]) → E (.ref CB) (some dd) H') ∧
  (lessOk R.length d = true → lessOk (wd R) e = false → ∀ (dd : Addr) (H' : Hp), Same H H' → H dd = none → H' dd = some (.xd [("name", .str "wishes")]) → E (.ref CB) (some dd) H')
abbrev slTWo : Stmt := inCls 49 17
section
variable {P : Program} {w : World} {K : PySem.W.Frag} {mg : Str → Option Value} {base : Heap} {C CE CB CP f : Addr} {fd : FuncData}
theorem lessOk_short {n : Nat} {ms : List Int} (h : linesOk n (.list (ms.map .int)) = true) (ne : (ms.length : Int) ≠ n) : ms.length < n := by
  have h : ((ms.map PyData.int).all (betD 0 ((n : Int) - 1)) && ascB (ms.map .int)) = true := h
  rw [Bool.and_eq_true] at h
  have asc : ∀ k : Nat, k + 1 < ms.length → ms.getD k 0 < ms.getD (k + 1) 0 := fun k hk => by
    have := List.all_eq_true.mp h.2 k (List.mem_range.mpr (by rw [List.length_map]; omega))
    rw [List.getD_eq_getElem?_getD, List.getD_eq_getElem?_getD, List.getElem?_map, List.getElem?_map, List.getElem?_eq_getElem (by omega), List.getElem?_eq_getElem (by omega)] at this
    rw [List.getD_eq_getElem?_getD, List.getD_eq_getElem?_getD, List.getElem?_eq_getElem (by omega), List.getElem?_eq_getElem (by omega)]
    exact of_decide_eq_true this
  have low : ∀ k : Nat, k < ms.length → (k : Int) ≤ ms.getD k 0 ∧ ms.getD k 0 < n := fun k => by
    have rng : k < ms.length → 0 ≤ ms.getD k 0 ∧ ms.getD k 0 < n := fun hk => by
      have := List.all_eq_true.mp h.1 (.int ms[k]) (List.mem_map.mpr ⟨_, List.getElem_mem hk, rfl⟩)
      have this : (decide (0 ≤ ms[k]) && decide (ms[k] ≤ (n : Int) - 1)) = true := this
      rw [Bool.and_eq_true, decide_eq_true_eq, decide_eq_true_eq] at this
      rw [List.getD_eq_getElem?_getD, List.getElem?_eq_getElem hk]
      show 0 ≤ ms[k] ∧ ms[k] < n
      omega
    induction k with
    | zero => intro hk; have := rng hk; exact ⟨by omega, this.2⟩
    | succ k ih =>
      intro hk
      have r := rng hk
      have a := asc k hk
      have i := (ih (fun _ => by
        have := List.all_eq_true.mp h.1 (.int ms[k]) (List.mem_map.mpr ⟨_, List.getElem_mem (by omega), rfl⟩)
        have this : (decide (0 ≤ ms[k]) && decide (ms[k] ≤ (n : Int) - 1)) = true := this
        rw [Bool.and_eq_true, decide_eq_true_eq, decide_eq_true_eq] at this
        rw [List.getD_eq_getElem?_getD, List.getElem?_eq_getElem (by omega)]
        show 0 ≤ ms[k] ∧ ms[k] < n
        omega) (by omega)).1
      exact ⟨by omega, r.2⟩
  rcases Nat.eq_zero_or_pos ms.length with z | z
  · omega
  · have := low (ms.length - 1) (by omega)
    omega
theorem sclTWo : FnScope ["self", "stocks", "wishes", "i", "row", "price", "j"] ["self", "stocks", "wishes"] (defScope slTWo) := ⟨rfl, rfl, rfl, by decide +kernel, rfl, by decide +kernel, by decide +kernel⟩
theorem ok_tWo {fS fW : Addr} {fdS fdW : FuncData} (F : Fun K "without" "Table.without" slTWo f fd) (T : Bt mg) (A : TbC K C) (DA : Df P w K mg base CX0 "are_lines" 3 ["value", "many"] (spAreL K)) (mS : Meth K C "stocks" fS) (oS : FnOk P w K mg base CX0 1 fS fdS ["self"] (spTStk C)) (bS : Binds K fdS ["self"] [])
    (mW : Meth K C "wishes" fW) (oW : FnOk P w K mg base CX0 1 fW fdW ["self"] (spTWsh C)) (bW : Binds K fdW ["self"] []) (DT : Dk P w K mg base (L2.CX P w) "Table" 8 ["self", "rows"] (spTbI K C CE) C) (EB : De P w K mg base "InvalidBound" 3 (spErr1 K 1 CB "name") CB) :
    FnOk P w K mg base (L2.CX P w) 10 f fd ["self", "stocks", "wishes"] (spTWo K C CB) := by
  refine F.okX sclTWo (fun vs H Q E h => ?_) (fun cdv A' outer s H vs Q E hr h => ?_)
  · obtain ⟨x, v, u, d, e, G, R, rfl, _⟩ := h
    rfl
  · obtain ⟨x, v, u, d, e, G, R, rfl, t, sG, hd, he, sd, se, k1, k2, k3⟩ := h
    have hr1 := hr.mono (show 1 ≤ 9 by decide)
    obtain ⟨g, dx, e0, u0, es0, ho, hl, hp⟩ := id t
    have g8 := g.h8
    have w8 := g.w8
    refine ⟨_, (pss_cons (ps_if (PW.pt (pw_or (pt_not (pt_val (pe_df DA hr (by decide) (pa_cons (pv 1) (pa_cons (pe_meth0 (pv 0) A.O.cl mS oS hr1 bS .nil pass0) pa_nil))))) (pw_or1 (pt_cmpR op_eq (pe_callB cl_len (by rfl) T.len (by decide +kernel) (pa_cons (pv 1) pa_nil)) (pe_meth0 (pv 0) A.O.cl mS oS hr1 bS .nil pass0) (nomark _))))) (pss_one (ps_rse rfl (takes_of rfl rfl rfl rfl) EB hr (by decide) (pa_cons pe_str pa_nil))) pss_nil)
  (pss_cons (ps_if (PW.pt (pw_or (pt_not (pt_val (pe_df DA hr (by decide) (pa_cons (pv 2) (pa_cons (pe_meth0 (pv 0) A.O.cl mW oW hr1 bW .nil pass0) pa_nil))))) (pw_or1 (pt_cmpR op_eq (pe_callB cl_len (by rfl) T.len (by decide +kernel) (pa_cons (pv 2) pa_nil)) (pe_meth0 (pv 0) A.O.cl mW oW hr1 bW .nil pass0) (nomark _))))) (pss_one (ps_rse rfl (takes_of rfl rfl rfl rfl) EB hr (by decide) (pa_cons pe_str pa_nil))) pss_nil)
  (pss_one (ps_ret (pe_dkL DT hr (by decide) (pa_cons (pe_lc (own := [("i", 3), ("row", 4)]) (g := gTup K 2 (gCons (gName 3) (gCons (gName 4) gNil))) (te := tLc (iEnum K (tCons (tVar 4) tNil)) (gTup K 2 (gCons (gName 6) (gCons (gName 5) gNil))) (tTest (tOp (rIn K true) (tVar 6) (tVar 2))) (tVar 5) [6, 5]) (tt := tTest (tOp (rIn K true) (tVar 3) (tVar 1))) rfl sclTWo.nd (pi_enum (by rfl) T.enumerate (pa_cons (pe_fld (pv 0) rfl) pa_nil)) (blkOk_by (own := [("i", 3), ("row", 4)]) (N := ["self", "stocks", "wishes", "i", "row", "price", "j"]) (sc := defScope slTWo) (by decide +kernel)) (fun _ _ _ _ _ => pg_tup (by rfl) (pgs_cons (pg_name (i := 3) sclTWo.nd rfl (Or.inl rfl)) (pgs_cons (pg_name (i := 4) sclTWo.nd rfl (Or.inl rfl)) pgs_nil))) (fun _ _ _ _ _ => pts_one (pt_cmpR (r := rIn K true) op_notIn_seq (pv 3) (pv 1) (by rfl)))
    (fun _ _ _ _ _ => (pe_lc (own := [("j", 6), ("price", 5)]) (g := gTup K 2 (gCons (gName 6) (gCons (gName 5) gNil))) (tt := tTest (tOp (rIn K true) (tVar 6) (tVar 2))) rfl sclTWo.nd (pi_enum (by rfl) T.enumerate (pa_cons (pv 4) pa_nil)) (blkOk_by (own := [("j", 6), ("price", 5)]) (N := ["self", "stocks", "wishes", "i", "row", "price", "j"]) (sc := relS (retCallScope ((defBody slTWo).getD 2 (.Pass ⟨0, 0, 0, 0⟩))) (defScope slTWo)) (by decide +kernel)) (fun _ _ _ _ _ => pg_tup (by rfl) (pgs_cons (pg_name (i := 6) sclTWo.nd rfl (Or.inl rfl)) (pgs_cons (pg_name (i := 5) sclTWo.nd rfl (Or.inl rfl)) pgs_nil))) (fun _ _ _ _ _ => pts_one (pt_cmpR (r := rIn K true) op_notIn_seq (pv 6) (pv 2) (by rfl))) (fun _ _ _ _ _ => (pv 5))))) pa_nil)))))), ?_⟩
    have no2 : ∀ {m : Str}, (m == "entries") = false → (m == "used") = false → List.lookup m [("entries", V.ref e0), ("used", V.ref u0)] = none := fun h1 h2 => two_no h1 h2
    have raise1 : ∀ (H1 : Hp) (σ : L2.St), Same H H1 → lessOk (R.length : Int) d = false → tMkErr CB (spErr1 K 1 CB "name") (tCons (tC (.str "stocks")) tNil) σ H1 (fun cls d H' => E cls d H') := fun H1 σ s1 b => by
      refine r_mkErr ?_
      walk_at "rd"
      refine r_err1 (σ := []) (.str _) (.str _) fun dd v' H' s3 h1 h2 o1 => ?_
      cases o1
      exact k2 b dd H' (s1.trans s3) (s1.free h1) h2
    have raise2 : ∀ (H1 : Hp) (σ : L2.St), Same H H1 → lessOk (R.length : Int) d = true → lessOk (wd R : Int) e = false → tMkErr CB (spErr1 K 1 CB "name") (tCons (tC (.str "wishes")) tNil) σ H1 (fun cls d H' => E cls d H') := fun H1 σ s1 b b' => by
      refine r_mkErr ?_
      walk_at "rd"
      refine r_err1 (σ := []) (.str _) (.str _) fun dd v' H' s3 h1 h2 o1 => ?_
      cases o1
      exact k3 b b' dd H' (s1.trans s3) (s1.free h1) h2
    walk_at "rd"
    refine ⟨x, dx, _, rfl, sG _ _ ho, no2 (by decide +kernel) (by decide +kernel), ?_⟩
    walk_at "rd"
    refine ⟨x, G, R, rfl, t, sG, ?_⟩
    walk_at "rd"
    refine ⟨v, d, (R.length : Int), rfl, hd, sd, fun H1 s1 => ?_⟩
    have sG1 := sG.trans s1
    walk_at "rd"
    by_cases b1 : linesOk (R.length : Int) d = true
    · refine ifF (by rw [b1]; rfl) ?_
      obtain ⟨ms, rfl⟩ := linesOk_inv b1
      obtain ⟨a, xs, rfl, ha, hx⟩ := Dp.lstAt (Dp.later s1 hd)
      obtain rfl := ints_vs hx
      walk_at "rd"
      refine r_lenL ha ?_
      rw [List.length_map]
      walk_at "rd"
      refine ⟨x, dx, _, rfl, sG1 _ _ ho, no2 (by decide +kernel) (by decide +kernel), ?_⟩
      walk_at "rd"
      refine ⟨x, G, R, rfl, t, sG1, ?_⟩
      refine r_eq rfl ?_
      walk_at "rd"
      by_cases c1 : (ms.length : Int) = (R.length : Int)
      · refine ifT (decide_eq_true (by rw [c1])) ?_
        walk_at "rd"
        exact raise1 H1 _ s1 (by
          rw [lessOk, b1]
          show (true && !decide (((ms.map PyData.int).length : Int) = (R.length : Int))) = false
          rw [List.length_map, decide_eq_true c1]
          rfl)
      · refine ifF (decide_eq_false fun z => c1 (V.int.inj z)) ?_
        have l1 : lessOk (R.length : Int) (.list (ms.map .int)) = true := by
          rw [lessOk, b1]
          show (true && !decide (((ms.map PyData.int).length : Int) = (R.length : Int))) = true
          rw [List.length_map, decide_eq_false c1]
          rfl
        walk_at "rd"
        refine ⟨x, dx, _, rfl, sG1 _ _ ho, no2 (by decide +kernel) (by decide +kernel), ?_⟩
        walk_at "rd"
        refine ⟨x, G, R, rfl, t, sG1, ?_⟩
        walk_at "rd"
        refine ⟨u, e, (wd R : Int), rfl, Dp.later s1 he, se, fun H2 s2 => ?_⟩
        have s12 := s1.trans s2
        have sG2 := sG.trans s12
        walk_at "rd"
        by_cases b2 : linesOk (wd R : Int) e = true
        · refine ifF (by rw [b2]; rfl) ?_
          obtain ⟨ns, rfl⟩ := linesOk_inv b2
          obtain ⟨b, ys, rfl, hb, hy⟩ := Dp.lstAt (Dp.later s12 he)
          obtain rfl := ints_vs hy
          walk_at "rd"
          refine r_lenL hb ?_
          rw [List.length_map]
          walk_at "rd"
          refine ⟨x, dx, _, rfl, sG2 _ _ ho, no2 (by decide +kernel) (by decide +kernel), ?_⟩
          walk_at "rd"
          refine ⟨x, G, R, rfl, t, sG2, ?_⟩
          refine r_eq rfl ?_
          walk_at "rd"
          by_cases c2 : (ns.length : Int) = (wd R : Int)
          · refine ifT (decide_eq_true (by rw [c2])) ?_
            walk_at "rd"
            exact raise2 H2 _ s12 l1 (by
              rw [lessOk, b2]
              show (true && !decide (((ns.map PyData.int).length : Int) = (wd R : Int))) = false
              rw [List.length_map, decide_eq_true c2]
              rfl)
          · refine ifF (decide_eq_false fun z => c2 (V.int.inj z)) ?_
            have m1 := lessOk_short b1 c1
            have m2 := lessOk_short b2 c2
            have ha2 := s2.seq ha
            have lr := hl.same sG2
            walk_at "rd"
            refine r_fldV rfl (sG2 _ _ ho) A.O.cl A.e two_fst ?_
            refine ⟨e0, _, rfl, SqL.of lr.at_, fun D nD => lc_it walk_enum (fun i H' => RowsAt H2 D (woP R ms ns i) (woP R ms ns i).length H') (RowsAt.start nD) (fun i H3 _ z => SqL.of (z.1 _ _ lr.at_)) ?_ ?_⟩
            · rintro i y H3 H4 hi r ⟨t0, i', v2, rfl, nt, rfl, ev1, ev2⟩
              have hi : i < R.length := by rw [← lr.len]; exact hi
              cases (Option.some.inj ev1)
              obtain ⟨c1a, rfl, hc1⟩ := lr.row i _ ev2
              have r4 := r.same (Same.up (o := .tup [V.int (i : Int), V.ref c1a]) (Same.refl H3) nt)
              refine r_gtup ⟨t0, _, rfl, SqT.of upd_same, rfl, _, _, rfl, ?_⟩
              walk_at "rd"
              refine ⟨_, _, rfl, ?_⟩
              walk_at "rd"
              refine ⟨rfl, rfl, ?_⟩
              walk_at "rd"
              refine ⟨a, _, rfl, .inl (r4.1.seq ha2), rfl, flat_ints ms, ?_⟩
              rw [inV_ints]
              walk_at "rd"
              by_cases im : (i : Int) ∈ ms
              · refine ifF (by rw [decide_eq_true im]; rfl) ?_
                show RowsAt H2 D (woP R ms ns (i + 1)) (woP R ms ns (i + 1)).length _
                rw [show woP R ms ns (i + 1) = woP R ms ns i by rw [woP, kp_in im]; rfl]
                exact r4
              · refine ifT (by rw [decide_eq_false im]; rfl) ?_
                walk_at "rd"
                refine ⟨c1a, _, rfl, SqL.of (r4.1 _ _ hc1), fun D2 nD2 => lc_it walk_enum (fun j H' => Same (upd H3 t0 (.tup [V.int (i : Int), V.ref c1a])) H' ∧ H' D2 = some (.lst ((woRow R ns i j).map pV))) ⟨Same.up (Same.refl _) nD2, upd_same⟩ (fun j H5 _ z => SqL.of (z.1 _ _ (r4.1 _ _ hc1))) ?_ ?_⟩
                · rintro j y H5 H6 hj ⟨s5, hD5⟩ ⟨t3, j', w2, rfl, nt3, rfl, ew1, ew2⟩
                  have hj : j < wd R := by rw [← wd_row g hi]; exact hj
                  cases (Option.some.inj ew1)
                  have e1 := prc_get g hi hj
                  rw [show ((R.getD i []).map pV)[j]? = some w2 from ew2] at e1
                  cases (Option.some.inj e1)
                  have s6 := Same.up (o := .tup [V.int (j : Int), pV (prc R i j)]) s5 nt3
                  have hD6 := later (u := .tup [V.int (j : Int), pV (prc R i j)]) hD5 nt3
                  refine r_gtup ⟨t3, _, rfl, SqT.of upd_same, rfl, _, _, rfl, ?_⟩
                  walk_at "rd"
                  refine ⟨_, _, rfl, ?_⟩
                  walk_at "rd"
                  refine ⟨rfl, rfl, ?_⟩
                  walk_at "rd"
                  refine ⟨b, _, rfl, .inl (s6.seq (r4.1.seq hb)), rfl, flat_ints ns, ?_⟩
                  rw [inV_ints]
                  walk_at "rd"
                  by_cases jm : (j : Int) ∈ ns
                  · refine ifF (by rw [decide_eq_true jm]; rfl) ?_
                    refine ⟨s6, ?_⟩
                    rw [hD6, woRow, woRow, kp_in jm]
                  · refine ifT (by rw [decide_eq_false jm]; rfl) ?_
                    walk_at "rd"
                    refine ⟨_, hD6, ?_, fun c o e => ?_, ?_⟩
                    · have := kp_le ns j
                      rw [List.length_map, woRow, List.length_map]
                      exact Nat.lt_of_lt_of_le (show (kp ns j).length < 9 by omega) (by decide)
                    · have n : c ≠ D2 := fun z => by rw [z, nD2] at e; cases e
                      rw [upd_ne n]
                      exact s6 _ _ e
                    · rw [upd_same, woRow, woRow, kp_out jm, List.map_append, List.map_append]
                      rfl
                · rintro H5 ⟨s5, hD5⟩
                  have hD5 : H5 D2 = some (.lst ((woRow R ns i (wd R)).map pV)) := by
                    rw [hD5, wd_row g hi]
                  have q1 := kp_le ms i
                  have st := r4.snoc nD s5 (by
                    show ((kp ms i).map _).length < 9
                    rw [List.length_map]; omega) nD2 hD5
                  rw [show woP R ms ns i ++ [woRow R ns i (wd R)] = woP R ms ns (i + 1) by rw [woP, woP, kp_out im, List.map_append]; rfl] at st
                  exact st
            · rintro H3 r
              have r : RowsAt H2 D (woR R ms ns) (woR R ms ns).length H3 := by rw [woR, ← lr.len]; exact r
              obtain ⟨s3, fs, rl, _, _⟩ := r.rl
              walk_at "rd"
              intro z dz nz nd ne
              exact mk_tb3 nz nd ne rl.dp (woR_gt g m1 m2) fun H' G3 s4 t3 sG3 fG3 => k1 ms ns rfl rfl b1 b2 m1 m2 z H' G3 ((s12.trans s3).trans s4) t3 sG3 (fG3.back (s12.trans s3))
        · refine ifT (by rw [Bool.eq_false_iff.mpr b2]; rfl) ?_
          walk_at "rd"
          exact raise2 H2 _ s12 l1 (by rw [lessOk, Bool.eq_false_iff.mpr b2]; rfl)
    · refine ifT (by rw [Bool.eq_false_iff.mpr b1]; rfl) ?_
      walk_at "rd"
      exact raise1 H1 _ s1 (by rw [lessOk, Bool.eq_false_iff.mpr b1]; rfl)
end
end Pk
set_option Elab.async false
set_option linter.all false
set_option maxRecDepth 100000
set_option maxHeartbeats 4000000
namespace Pk
open PySem L2
local macro_rules | `(tactic| walk_at "rd") => `(tactic| repeat (first
  | with_reducible refine r_seq ?_ | with_reducible refine r_nxt ?_ | with_reducible refine r_asg ?_ | with_reducible refine r_to ?_ | with_reducible refine r_ret ?_ | with_reducible refine r_for ?_ | with_reducible refine r_lc ?_ | with_reducible refine r_lc2 ?_ | with_reducible refine r_rng1 ?_ | with_reducible refine r_list ?_ | with_reducible refine r_tupI ?_ | with_reducible refine r_drop ?_ | with_reducible refine r_ifs ?_
  | with_reducible refine r_op ?_ | with_reducible refine r_c ?_ | with_reducible refine r_var rfl ?_ | with_reducible refine r_var (by assumption) ?_ | with_reducible refine r_I0 ?_ | with_reducible refine r_un ?_ | with_reducible refine r_U ?_ | with_reducible refine r_make ?_ | with_reducible refine r_makeS ?_ | with_reducible refine r_ifE ?_ | with_reducible refine r_cm ?_ | with_reducible refine r_mkV rfl ?_ | with_reducible refine r_sub ?_
  | with_reducible refine r_nil ?_ | with_reducible refine r_cons ?_ | with_reducible refine r_cb ?_ | with_reducible refine r_sl ?_ | with_reducible refine r_noP ?_ | with_reducible refine r_part ?_ | with_reducible refine r_isI ?_ | with_reducible refine r_lst ?_ | with_reducible refine r_tup ?_ | with_reducible refine r_call ?_ | with_reducible refine r_callS ?_ | with_reducible refine r_sFldU ?_ | with_reducible refine r_chain ?_ | with_reducible refine r_enum ?_ | with_reducible refine r_zip ?_ | with_reducible refine r_rng3 ?_ | with_reducible refine r_gtup ?_ | with_reducible refine r_methU ?_
  | with_reducible refine r_test ?_ | with_reducible refine r_B ?_ | with_reducible refine r_and ?_ | with_reducible refine r_or ?_ | with_reducible refine r_not ?_ | with_reducible refine r_andV ?_ | with_reducible refine r_orV ?_ | with_reducible refine r_notV ?_ | with_reducible refine r_bl ?_ | with_reducible refine r_yes ?_ | with_reducible refine r_int ?_ | with_reducible refine r_is0 ?_ | with_reducible refine r_is1 ?_ | with_reducible refine iteT ?_ | with_reducible refine iteF ?_ | with_reducible refine ite_nF ?_ | with_reducible refine ite_nT ?_
  | with_reducible refine r_mod (by decide) ?_ | with_reducible refine r_div (by decide) (by decide) ?_ | with_reducible refine r_mulR (by decide) (by decide) ?_ | with_reducible refine r_mulL (by decide) (by decide) ?_ | with_reducible refine r_pow (by decide) (by decide) (by decide) ?_))
/-! ### lines and lots, at a heap -/
def LneAt (m : Nat) (H : Hp) (v : V) (k : Nat) : Prop := ∃ t, v = .ref t ∧ H t = some (.tup [.str (lwd m k), .int (lno m k)])
inductive LnsAt (m : Nat) (H : Hp) : List V → List Nat → Prop
  | nil : LnsAt m H [] []
  | cons {v : V} {k : Nat} {vs : List V} {ks : List Nat} (h : LneAt m H v k) (r : LnsAt m H vs ks) : LnsAt m H (v :: vs) (k :: ks)
/-- all tuples stay -/
def Tups (H H' : Hp) : Prop := ∀ t xs, H t = some (.tup xs) → H' t = some (.tup xs)
theorem Tups.of {H H' : Hp} (s : Same H H') : Tups H H' := fun t xs e => s t _ e
theorem Tups.put {H : Hp} {D : Addr} {ws vs : List V} (h : H D = some (.lst ws)) : Tups H (upd H D (.lst vs)) := fun t xs e => by
  rw [upd_ne (fun z => by rw [z, h] at e; cases e)]; exact e
theorem LnsAt.tup {m : Nat} {H H' : Hp} {vs : List V} {ks : List Nat} (h : LnsAt m H vs ks) (s : Tups H H') : LnsAt m H' vs ks := by
  induction h with
  | nil => exact .nil
  | cons h _ ih => obtain ⟨t, e1, e2⟩ := h; exact .cons ⟨t, e1, s _ _ e2⟩ ih
theorem LnsAt.same {m : Nat} {H H' : Hp} {vs : List V} {ks : List Nat} (h : LnsAt m H vs ks) (s : Same H H') : LnsAt m H' vs ks := h.tup (.of s)
theorem LnsAt.length {m : Nat} {H : Hp} {vs : List V} {ks : List Nat} (h : LnsAt m H vs ks) : vs.length = ks.length := by
  induction h with
  | nil => rfl
  | cons _ _ ih => rw [List.length_cons, List.length_cons, ih]
theorem LnsAt.app {m : Nat} {H : Hp} {vs ws : List V} {ks ls : List Nat} (h : LnsAt m H vs ks) (g : LnsAt m H ws ls) : LnsAt m H (vs ++ ws) (ks ++ ls) := by
  induction h with
  | nil => exact g
  | cons h _ ih => exact .cons h ih
theorem LnsAt.at {m : Nat} {H : Hp} {vs : List V} {ks : List Nat} (h : LnsAt m H vs ks) : ∀ {i : Nat} {v : V}, vs[i]? = some v → ∃ k, ks[i]? = some k ∧ LneAt m H v k := by
  induction h with
  | nil => intro i v e; simp at e
  | cons h _ ih =>
    intro i v e
    cases i with
    | zero => cases e; exact ⟨_, rfl, h⟩
    | succ i => exact ih e
theorem LneAt.dp {K : PySem.W.Frag} {m : Nat} {H : Hp} {v : V} {k : Nat} (h : LneAt m H v k) : Dp K H v (lneD m k) := by
  obtain ⟨t, rfl, e⟩ := h
  exact .tup (SqT.of e) (.cons (.str _) (.cons (.int _) .nil))
theorem LnsAt.dp {K : PySem.W.Frag} {m : Nat} {H : Hp} {vs : List V} {ks : List Nat} (h : LnsAt m H vs ks) : DpAll K H vs (ks.map (lneD m)) := by
  induction h with
  | nil => exact .nil
  | cons h _ ih => exact .cons h.dp ih
/-- lots: each is a list that was not there in H0 -/
inductive LtsAt (m : Nat) (H0 H : Hp) : List V → List (List Nat) → Prop
  | nil : LtsAt m H0 H [] []
  | cons {a : Addr} {us vs : List V} {l : List Nat} {ls : List (List Nat)} (n : H0 a = none) (e : H a = some (.lst us)) (h : LnsAt m H us l) (r : LtsAt m H0 H vs ls) : LtsAt m H0 H (.ref a :: vs) (l :: ls)
theorem LtsAt.put {m : Nat} {H0 H H' : Hp} {vs : List V} {ls : List (List Nat)} (h : LtsAt m H0 H vs ls) (k : ∀ a us, H0 a = none → H a = some (.lst us) → H' a = some (.lst us)) (s : Tups H H') : LtsAt m H0 H' vs ls := by
  induction h with
  | nil => exact .nil
  | cons n e h _ ih => exact .cons n (k _ _ n e) (h.tup s) ih
theorem LtsAt.same {m : Nat} {H0 H H' : Hp} {vs : List V} {ls : List (List Nat)} (h : LtsAt m H0 H vs ls) (s : Same H H') : LtsAt m H0 H' vs ls := h.put (fun _ _ _ e => s _ _ e) (.of s)
/-- a list that was there in H0 is written over -/
theorem LtsAt.upd {m : Nat} {H0 H : Hp} {D : Addr} {o : HO} {ws xs : List V} {vs : List V} {ls : List (List Nat)} (h : LtsAt m H0 H vs ls) (hD0 : H0 D = some o) (hD : H D = some (.lst ws)) : LtsAt m H0 (upd H D (.lst xs)) vs ls :=
  h.put (fun a us n e => by rw [upd_ne (fun z => by rw [z, hD0] at n; cases n)]; exact e) (.put hD)
theorem LtsAt.back {m : Nat} {H1 H0 H : Hp} {vs : List V} {ls : List (List Nat)} (h : LtsAt m H0 H vs ls) (s : Same H1 H0) : LtsAt m H1 H vs ls := by
  induction h with
  | nil => exact .nil
  | cons n e h _ ih => exact .cons (s.free n) e h ih
theorem LtsAt.length {m : Nat} {H0 H : Hp} {vs : List V} {ls : List (List Nat)} (h : LtsAt m H0 H vs ls) : vs.length = ls.length := by
  induction h with
  | nil => rfl
  | cons _ _ _ _ ih => rw [List.length_cons, List.length_cons, ih]
theorem LtsAt.app {m : Nat} {H0 H : Hp} {vs ws : List V} {ks ls : List (List Nat)} (h : LtsAt m H0 H vs ks) (g : LtsAt m H0 H ws ls) : LtsAt m H0 H (vs ++ ws) (ks ++ ls) := by
  induction h with
  | nil => exact g
  | cons n e h _ ih => exact .cons n e h ih
theorem LtsAt.at {m : Nat} {H0 H : Hp} {vs : List V} {ls : List (List Nat)} (h : LtsAt m H0 H vs ls) : ∀ {i : Nat} {v : V}, vs[i]? = some v → ∃ a us l, ls[i]? = some l ∧ v = .ref a ∧ H0 a = none ∧ H a = some (.lst us) ∧ LnsAt m H us l := by
  induction h with
  | nil => intro i v e; simp at e
  | cons n e h _ ih =>
    intro i v e'
    cases i with
    | zero => cases e'; exact ⟨_, _, _, rfl, rfl, n, e, h⟩
    | succ i => exact ih e'
def spLinesOf (C : Addr) : Sp := fun vs H Q _ => ∃ (x : Addr) (G : Hp) (R : Rw), vs = [.ref x] ∧ TbX C G x R ∧ Same G H ∧ ∀ (r : Addr) (us : List V) (H' : Hp), Same H H' → H r = none → H' r = some (.lst us) → LnsAt R.length H' us (List.range (R.length + wd R)) → Q (.ref r) H'
def spLotsOf : Sp := fun vs H Q _ => ∃ (a : Addr) (us : List V) (m N : Nat), vs = [.ref a] ∧ H a = some (.lst us) ∧ LnsAt m H us (List.range N) ∧ N ≤ 8 ∧ ∀ (r : Addr) (ws : List V) (H' : Hp), Same H H' → H r = none → H' r = some (.lst ws) → LtsAt m H H' ws (lotsU N (N + 1)) → Q (.ref r) H'
def spNumsIn : Sp := fun vs H Q _ => ∃ (a : Addr) (us : List V) (m : Nat) (l : List Nat) (wo : Str), vs = [.ref a, .str wo] ∧ H a = some (.lst us) ∧ LnsAt m H us l ∧ l.length ≤ 1000 ∧ ∀ (r : Addr) (H' : Hp), Same H H' → H r = none → H' r = some (.lst ((numX m wo l).map V.int)) → Q (.ref r) H'
def spLeavS (C : Addr) : Sp := fun vs H Q _ => ∃ (x a : Addr) (G : Hp) (R : Rw) (us : List V) (l : List Nat), vs = [.ref x, .ref a] ∧ TbX C G x R ∧ Same G H ∧ H a = some (.lst us) ∧ LnsAt R.length H us l ∧ l.length ≤ 1000 ∧ ∀ H' : Hp, Same H H' → Q (.bl (leavB R.length (wd R) l)) H'
def spContO : Sp := fun vs H Q _ => ∃ (a b : Addr) (us ws : List V) (m : Nat) (H0 : Hp) (l : List Nat) (F : List (List Nat)), vs = [.ref a, .ref b] ∧ H a = some (.lst us) ∧ LnsAt m H us l ∧ H b = some (.lst ws) ∧ LtsAt m H0 H ws F ∧ F.length ≤ 1000000 ∧ (∀ o, o ∈ F → o.length ≤ 1000) ∧ ∀ H' : Hp, Same H H' → Q (.bl (contB l F)) H'
abbrev slLinesOf : Stmt := top 36
abbrev slLotsOf : Stmt := top 37
abbrev slNumsIn : Stmt := top 38
abbrev slLeavS : Stmt := top 39
abbrev slContO : Stmt := top 41
section
variable {P : Program} {w : World} {K : PySem.W.Frag} {mg : Str → Option Value} {base : Heap} {C f : Addr} {fd : FuncData}
theorem sclLinesOf : FnScope ["table", "i", "j"] ["table"] (defScope slLinesOf) := ⟨rfl, rfl, rfl, by decide +kernel, rfl, by decide +kernel, by decide +kernel⟩
theorem ok_linesOf {fS fW : Addr} {fdS fdW : FuncData} (F : Fun K "lines_of" "lines_of" slLinesOf f fd) (T : Bt mg) (A : TbC K C) (mS : Meth K C "stocks" fS) (oS : FnOk P w K mg base CX0 1 fS fdS ["self"] (spTStk C)) (bS : Binds K fdS ["self"] [])
    (mW : Meth K C "wishes" fW) (oW : FnOk P w K mg base CX0 1 fW fdW ["self"] (spTWsh C)) (bW : Binds K fdW ["self"] []) : FnOk P w K mg base CX0 2 f fd ["table"] (spLinesOf C) := by
  refine F.ok sclLinesOf (fun vs H Q E h => ?_) (fun cdv A' outer s H vs Q E hr h => ?_)
  · obtain ⟨x, G, R, rfl, _⟩ := h
    rfl
  · obtain ⟨x, G, R, rfl, t, sG, k⟩ := h
    have hr1 := hr.mono (show 1 ≤ 1 by decide)
    obtain ⟨g, dx, e0, u0, es, ho, hl, hp⟩ := id t
    have g8 := g.h8
    have w8 := g.w8
    refine ⟨_, (pss_one (ps_ret (pe_op op_cat (pe_lc (own := [("i", 1)]) (g := gName 1) rfl sclLinesOf.nd (pi_range1 rfl T.range (pa_cons (pe_meth0 (pv 0) A.O.cl mS oS hr1 bS .nil pass0) pa_nil)) (blkOk_by (own := [("i", 1)]) (N := ["table", "i", "j"]) (sc := defScope slLinesOf) (by decide +kernel)) (fun _ _ _ _ _ => pg_name (i := 1) sclLinesOf.nd rfl (Or.inl rfl)) (fun _ _ _ _ _ => pts_nil) (fun _ _ _ _ _ => (pe_tup (pa_cons pe_str (pa_cons (pv 1) pa_nil))))) (pe_lc (own := [("j", 2)]) (g := gName 2) rfl sclLinesOf.nd (pi_range1 rfl T.range (pa_cons (pe_meth0 (pv 0) A.O.cl mW oW hr1 bW .nil pass0) pa_nil)) (blkOk_by (own := [("j", 2)]) (N := ["table", "i", "j"]) (sc := defScope slLinesOf) (by decide +kernel)) (fun _ _ _ _ _ => pg_name (i := 2) sclLinesOf.nd rfl (Or.inl rfl)) (fun _ _ _ _ _ => pts_nil) (fun _ _ _ _ _ => (pe_tup (pa_cons pe_str (pa_cons (pv 2) pa_nil)))))))), ?_⟩
    have no2 : ∀ {m : Str}, (m == "entries") = false → (m == "used") = false → List.lookup m [("entries", V.ref e0), ("used", V.ref u0)] = none := fun h1 h2 => two_no h1 h2
    walk_at "rd"
    refine ⟨x, dx, _, rfl, sG _ _ ho, no2 (by decide +kernel) (by decide +kernel), ?_⟩
    walk_at "rd"
    refine ⟨x, G, R, rfl, t, sG, ?_⟩
    walk_at "rd"
    refine ⟨(R.length : Int), rfl, by omega, by omega, fun D nD => lc_it walk_range (fun i H' => Same H H' ∧ ∃ us, H' D = some (.lst us) ∧ LnsAt R.length H' us (List.range i)) ⟨Same.up (Same.refl H) nD, [], upd_same, .nil⟩ (fun _ _ _ _ => trivial) ?_ ?_⟩
    · rintro i y H20 H2 hi ⟨s2, us, hD, hu⟩ ⟨rfl, rfl⟩
      have hi : i < R.length := by simpa using hi
      have e0' : (0 : Int) + (i : Int) = (i : Int) := by omega
      simp only [e0']
      have ul := hu.length
      rw [List.length_range] at ul
      walk_at "rd"
      refine ⟨rfl, ?_⟩
      walk_at "rd"
      refine ⟨by show 2 ≤ sizeLine; decide, fun t1 n1 => ?_⟩
      have s3 := Same.up (o := .tup [V.str "stock", V.int (i : Int)]) (Same.refl H2) n1
      refine ⟨us, s3 _ _ hD, by rw [ul]; exact Nat.lt_of_lt_of_le (show i < 9 by omega) (by decide), Same.upOff (s2.trans s3) nD, us ++ [.ref t1], upd_same, ?_⟩
      rw [List.range_succ]
      refine LnsAt.app ((hu.same s3).tup (.put (s3 _ _ hD))) (.cons ⟨t1, rfl, Tups.put (s3 _ _ hD) _ _ ?_⟩ .nil)
      rw [upd_same]
      unfold lwd lno
      rw [if_pos hi, if_pos hi]
    rintro H2 ⟨s2, us, hD, hu⟩
    rw [Int.toNat_natCast] at hu
    have ul := hu.length
    rw [List.length_range] at ul
    have sG2 := sG.trans s2
    walk_at "rd"
    refine ⟨x, dx, _, rfl, sG2 _ _ ho, no2 (by decide +kernel) (by decide +kernel), ?_⟩
    walk_at "rd"
    refine ⟨x, G, R, rfl, t, sG2, ?_⟩
    walk_at "rd"
    refine ⟨((wd R : Nat) : Int), rfl, by omega, by omega, fun D2 nD2 => lc_it walk_range (fun i H' => Same H2 H' ∧ ∃ ws, H' D2 = some (.lst ws) ∧ LnsAt R.length H' ws ((List.range i).map (R.length + ·))) ⟨Same.up (Same.refl H2) nD2, [], upd_same, .nil⟩ (fun _ _ _ _ => trivial) ?_ ?_⟩
    · rintro i y H30 H3 hi ⟨s3, ws, hD2, hw⟩ ⟨rfl, rfl⟩
      have hi : i < wd R := by simpa using hi
      have e0' : (0 : Int) + (i : Int) = (i : Int) := by omega
      simp only [e0']
      have wl := hw.length
      rw [List.length_map, List.length_range] at wl
      walk_at "rd"
      refine ⟨rfl, ?_⟩
      walk_at "rd"
      refine ⟨by show 2 ≤ sizeLine; decide, fun t1 n1 => ?_⟩
      have s4 := Same.up (o := .tup [V.str "wish", V.int (i : Int)]) (Same.refl H3) n1
      refine ⟨ws, s4 _ _ hD2, by rw [wl]; exact Nat.lt_of_lt_of_le (show i < 9 by omega) (by decide), Same.upOff (s3.trans s4) nD2, ws ++ [.ref t1], upd_same, ?_⟩
      rw [List.range_succ, List.map_append]
      refine LnsAt.app ((hw.same s4).tup (.put (s4 _ _ hD2))) (.cons ⟨t1, rfl, Tups.put (s4 _ _ hD2) _ _ ?_⟩ .nil)
      rw [upd_same]
      show some (HO.tup [V.str "wish", V.int (i : Int)]) = some (.tup [.str (lwd R.length (R.length + i)), .int (lno R.length (R.length + i))])
      unfold lwd lno
      rw [if_neg (by omega), if_neg (by omega), show R.length + i - R.length = i by omega]
    rintro H3 ⟨s3, ws, hD2, hw⟩
    rw [Int.toNat_natCast] at hw
    have wl := hw.length
    rw [List.length_map, List.length_range] at wl
    refine r_cat (s3 _ _ hD) hD2 (Nat.le_trans (show us.length + ws.length ≤ 16 by omega) (by decide)) fun q nq => ?_
    have s4 := Same.up (o := .lst (us ++ ws)) (Same.refl H3) nq
    refine k q (us ++ ws) _ (s2.trans (s3.trans s4)) ((s2.trans s3).free nq) upd_same ?_
    rw [List.range_add]
    exact ((hu.same s3).app hw).same s4
theorem sclLotsOf : FnScope ["lines", "found", "last", "line", "lot"] ["lines"] (defScope slLotsOf) := ⟨rfl, rfl, rfl, by decide +kernel, rfl, by decide +kernel, by decide +kernel⟩
theorem ltB_nil (k : Nat) : ltB [] k = true := rfl
theorem ltB_last {l : List Nat} {x k : Nat} (e : l.getLast? = some x) : ltB l k = decide (x < k) := by unfold ltB; rw [e]
theorem r_parL {i j : Nat} {ta : TA} {D : Ends} {σ : L2.St} {H : Hp} (h : ta σ H fun vs H1 => ∃ v w, vs = [v, w] ∧ D.nx ((σ.set i (some v)).set j (some w)) H1) : tPar i j ta D σ H := h
/-- how far the lots have grown: by the first of the last ones -/
def lotMu (N : Nat) (σ : List (Option V)) (H : Hp) : Nat := match (σ[2]? : Option (Option V)) with
  | some (some (.ref a)) => match H a with
    | some (.lst (.ref b :: _)) => match H b with
      | some (.lst us) => N + 2 - us.length
      | _ => 0
    | _ => 0
  | _ => 0
theorem nextL_more (N : Nat) (ls : List (List Nat)) (l : List Nat) : nextL N (ls ++ [l]) = nextL N ls ++ ((List.range N).filter (ltB l)).map fun k => l ++ [k] := by
  unfold nextL
  rw [List.flatMap_append]; simp
theorem lotsK_end {N s : Nat} (e : lotsK N s = []) : ∀ d, lotsK N (s + d) = []
  | 0 => e
  | d + 1 => by
    show nextL N (lotsK N (s + d)) = []
    rw [lotsK_end e d]; rfl
theorem lotsU_stop {N s : Nat} (e : lotsK N s = []) : ∀ d, lotsU N (s + d) = lotsU N s
  | 0 => rfl
  | d + 1 => by rw [show s + (d + 1) = (s + d) + 1 from rfl, lotsU_more, lotsK_end e d, List.append_nil, lotsU_stop e d]
theorem lotsU_end {N s : Nat} (e : lotsK N s = []) (h : s ≤ N + 1) : lotsU N (s + 1) = lotsU N (N + 1) := by
  have h1 := lotsU_stop e 1
  have h2 := lotsU_stop e (N + 1 - s)
  rw [show s + (N + 1 - s) = N + 1 by omega] at h2
  rw [h1, h2]
theorem lotMu_val {m N s : Nat} {H0 H : Hp} {vs : List V} {ls : List (List Nat)} (L : LtsAt m H0 H vs ls) (len : ∀ l, l ∈ ls → l.length = s) {D : Addr} (hD : H D = some (.lst vs)) {x0 x1 x3 x4 : Option V} :
    lotMu N [x0, x1, some (.ref D), x3, x4] H = if vs = [] then 0 else N + 2 - s := by
  unfold lotMu
  show (match H D with | some (.lst (.ref b :: _)) => _ | _ => 0) = _
  rw [hD]
  cases L with
  | nil => rfl
  | cons n e h r =>
    show (match H _ with | some (.lst us) => N + 2 - us.length | _ => 0) = _
    rw [e, if_neg (by simp)]
    show N + 2 - _ = _
    rw [h.length, len _ List.mem_cons_self]
theorem lne_depth (m k : Nat) : (lneD m k).depth = 1 := by simp [lneD, PyData.depth, PyData.depthAll]
theorem lastV {xs : List V} {n : Nat} {v : V} (h : xs.length = n + 1) (e : xs[n]? = some v) : atI xs (-1) = some v := by
  unfold atI ixN
  rw [if_neg (by decide), h, if_pos (by omega)]
  show xs[((-1 : Int) + ((n + 1 : Nat) : Int)).toNat]? = _
  rw [show ((-1 : Int) + ((n + 1 : Nat) : Int)).toNat = n by omega]
  exact e
theorem ok_lotsOf (F : Fun K "lots_of" "lots_of" slLotsOf f fd) : FnOk P w K mg base CX0 1 f fd ["lines"] spLotsOf := by
  refine F.ok sclLotsOf (fun vs H Q E h => ?_) (fun cdv A' outer s H vs Q E hr h => ?_)
  · obtain ⟨a, us, m, N, rfl, _⟩ := h
    rfl
  · obtain ⟨a, us, m, N, rfl, ha, hu, N8, k⟩ := h
    refine ⟨_, (pss_cons (ps_par (i := 1) (j := 2) rfl sclLotsOf.nd rfl rfl (by decide) rfl rfl (pa_cons (pe_lst (pa_cons (pe_lst pa_nil) pa_nil)) (pa_cons (pe_lst (pa_cons (pe_lst pa_nil) pa_nil)) pa_nil)) rfl)
  (pss_cons (ps_while PassesOwn.never (pt_truth (pv 2) (fun _ => rfl)) (pss_cons (ps_setLc2 (i := 2) (own := [("lot", 4), ("line", 3)]) (vs1 := [3]) (g := gName 4) (tt := tYes) (wi1 := iList K (tVar 0)) (g1 := gName 3) (tt1 := tOr (tNot (fun σ H Q => tVar 4 σ H fun x H' => ∃ k, TruV K x H' k ∧ Q k H')) (tTest (tOp (rCmpD K fun d e => PySem.W.dataLt e d) (tVar 3) (tOp (rIxL K) (tVar 4) (tUn (rU fun i => .int (-i)) (tC (.int 1))))))) (te := tOp rCat (tVar 4) (tLst (tCons (tVar 3) tNil))) rfl sclLotsOf.nd rfl rfl (sw_true rfl rfl rfl (by decide +kernel)) (pi_list (pv 2)) (blkOk_by (own := [("lot", 4), ("line", 3)]) (N := ["lines", "found", "last", "line", "lot"]) (sc := defScope slLotsOf) (by decide +kernel)) (by decide)
    (fun _ _ _ _ _ => pg_name (i := 4) sclLotsOf.nd rfl (Or.inl rfl)) (fun _ _ _ _ _ => pts_nil) (fun _ _ _ _ _ => pi_list (pv 0)) (fun _ _ _ _ _ => pg_name (i := 3) sclLotsOf.nd rfl (Or.inl rfl))
    (fun _ _ _ _ _ => pts_one (PW.pt (pw_or (pt_not (pt_truth (pv 4) (fun _ => rfl))) (pw_or1 (pt_cmpR (op_gtD hr.units) (pv 3) (pe_ix ix_list (pv 4) (pe_un un_neg pe_int) (fun _ _ => rfl)) (nomark _)))))) (fun _ _ _ _ _ => pe_op op_cat (pv 4) (pe_lst (pa_cons (pv 3) pa_nil))))
  (pss_one (ps_set (i := 1) sclLotsOf.nd rfl (Or.inl rfl) (pe_op op_cat (pv 1) (pv 2))))))
  (pss_one (ps_ret (pv 1))))), ?_⟩
    have ul := hu.length
    rw [List.length_range] at ul
    refine r_seq ?_
    refine r_parL ?_
    walk_at "rd"
    refine ⟨Nat.zero_le _, fun b1 n1 => ?_⟩
    have s1 := Same.up (o := .lst []) (Same.refl H) n1
    have h1 : upd H b1 (.lst []) b1 = some (.lst []) := upd_same
    obtain ⟨H1, eH1⟩ : ∃ H1, H1 = upd H b1 (.lst []) := ⟨_, rfl⟩
    rw [← eH1] at s1 h1 ⊢
    walk_at "rd"
    refine ⟨by show 1 ≤ sizeLine; decide, fun b2 n2 => ?_⟩
    have s2' := Same.up (o := .lst [V.ref b1]) (Same.refl H1) n2
    have h2 : upd H1 b2 (.lst [V.ref b1]) b2 = some (.lst [V.ref b1]) := upd_same
    obtain ⟨H2, eH2⟩ : ∃ H2, H2 = upd H1 b2 (.lst [V.ref b1]) := ⟨_, rfl⟩
    rw [← eH2] at s2' h2 ⊢
    have s2 := s1.trans s2'
    walk_at "rd"
    refine ⟨Nat.zero_le _, fun b3 n3 => ?_⟩
    have s3' := Same.up (o := .lst []) (Same.refl H2) n3
    have h3 : upd H2 b3 (.lst []) b3 = some (.lst []) := upd_same
    obtain ⟨H3, eH3⟩ : ∃ H3, H3 = upd H2 b3 (.lst []) := ⟨_, rfl⟩
    rw [← eH3] at s3' h3 ⊢
    have s3 := s2.trans s3'
    walk_at "rd"
    refine ⟨by show 1 ≤ sizeLine; decide, fun b4 n4 => ?_⟩
    have s4' := Same.up (o := .lst [V.ref b3]) (Same.refl H3) n4
    have h4 : upd H3 b4 (.lst [V.ref b3]) b4 = some (.lst [V.ref b3]) := upd_same
    obtain ⟨H4, eH4⟩ : ∃ H4, H4 = upd H3 b4 (.lst [V.ref b3]) := ⟨_, rfl⟩
    rw [← eH4] at s4' h4 ⊢
    have s4 := s3.trans s4'
    refine ⟨_, _, rfl, ?_⟩
    refine r_to ?_
    dsimp only
    with_reducible refine r_seq ?_
    refine while_by (fun σ H' => ∃ (s : Nat) (a1 a2 : Addr) (fs ls : List V) (v3 v4 : Option V), σ = [some (.ref a), some (.ref a1), some (.ref a2), v3, v4] ∧ Same H H' ∧ H a1 = none ∧ H' a1 = some (.lst fs) ∧ LtsAt m H H' fs (lotsU N (s + 1)) ∧ H' a2 = some (.lst ls) ∧ LtsAt m H H' ls (lotsK N s) ∧ s ≤ N + 1) (lotMu N)
      ⟨0, b2, b4, _, _, _, _, rfl, s4, s1.free n2, s4' _ _ (s3' _ _ h2), .cons n1 (s4' _ _ (s3' _ _ (s2' _ _ h1))) .nil .nil, h4, .cons (s2.free n3) (s4' _ _ h3) .nil .nil, by omega⟩ ?_ (fun σ H Q Q' h ⟨v, e, k, ek, q⟩ => ⟨v, e, k, ek, h _ _ q⟩)
    rintro σ H5 ⟨s, a1, a2, fs, ls, v3, v4, rfl, s5, na1, hf, F5, hls, L5, sN⟩
    have ll := L5.length
    have few := lotsK_few (s := s) N8
    have fl := F5.length
    have fewU := lotsU_few N8 (s + 1)
    walk_at "rd"
    refine ⟨!ls.isEmpty, .inl ⟨ls, SqL.of hls, rfl⟩, ?_⟩
    cases els : ls with
    | nil =>
      rw [els] at ll
      have e0 : lotsK N s = [] := List.eq_nil_of_length_eq_zero ll.symm
      refine ifF rfl ?_
      walk_at "rd"
      exact k a1 fs H5 s5 na1 hf (by rw [← lotsU_end e0 sN]; exact F5)
    | cons w0 ls' =>
      have sN' : s ≤ N := by
        apply Classical.byContradiction
        intro q
        rw [els, lotsK_none (show N < s by omega)] at ll
        cases ll
      refine ifT rfl ?_
      walk_at "rd"
      refine ⟨a2, rfl, ⟨_, SqL.of hls⟩, fun D nD => ?_⟩
      have hD0 : upd H5 D (.lst []) D = some (.lst []) := upd_same
      have sD0 := Same.up (o := .lst []) (Same.refl H5) nD
      obtain ⟨HD, eHD⟩ : ∃ HD, HD = upd H5 D (.lst []) := ⟨_, rfl⟩
      rw [← eHD] at hD0 sD0 ⊢
      refine lc_any walk_list (fun i H' => Same H5 H' ∧ ∃ ns, H' D = some (.lst ns) ∧ LtsAt m HD H' ns (nextL N ((lotsK N s).take i))) ⟨sD0, [], hD0, by rw [List.take_zero]; exact .nil⟩ (fun i H' _ z => SqL.of (z.1 _ _ hls)) ?_ ?_
      · rintro i y H6 H7 hi ⟨s6, ns, hD, hN⟩ ⟨rfl, ey⟩
        obtain ⟨la, lus, l, el, rfl, nla, hla, hl⟩ := L5.at ey
        have lm := List.mem_of_getElem? el
        obtain ⟨ascl, lens⟩ := lotsK_asc lm
        have lul := hl.length
        walk_at "rd"
        refine ⟨rfl, ?_⟩
        walk_at "rd"
        refine ⟨a, rfl, ⟨_, SqL.of (s6 _ _ (s5 _ _ ha))⟩, lc_any walk_list (fun j H' => Same H5 H' ∧ ∃ ns, H' D = some (.lst ns) ∧ LtsAt m HD H' ns (nextL N ((lotsK N s).take i) ++ (((List.range N).take j).filter (ltB l)).map fun k => l ++ [k])) ⟨s6, ns, hD, by rw [List.take_zero]; simpa using hN⟩ (fun j H' _ z => SqL.of (z.1 _ _ (s5 _ _ ha))) ?_ ?_⟩
        · rintro j y2 H8 H9 hj ⟨s8, ns8, hD8, hN8⟩ ⟨rfl, ey2⟩
          have hj : j < N := by rw [← ul]; exact hj
          obtain ⟨k', ek', hk'⟩ := (hu.same (s5.trans s8)).at ey2
          obtain rfl : j = k' := by
            rw [List.getElem?_range hj] at ek'
            exact Option.some.inj ek'
          have nsl := hN8.length
          have nb : ns8.length ≤ 40320 * 9 := by
            rw [nsl, List.length_append, List.length_map]
            have c1 : (nextL N ((lotsK N s).take i)).length ≤ 40320 * 8 := by
              refine Nat.le_trans (flat_le (c := 8) fun l' hl' => ?_) (Nat.mul_le_mul_right 8 (Nat.le_trans (show ((lotsK N s).take i).length ≤ (lotsK N s).length by rw [List.length_take]; omega) few))
              rw [List.length_map]
              have := List.length_filter_le (ltB l') (List.range N)
              rw [List.length_range] at this
              omega
            have c2 := List.length_filter_le (ltB l) ((List.range N).take j)
            have c3 := List.length_take_le j (List.range N)
            omega
          have hla9 := s8 _ _ hla
          have hl9 := hl.same s8
          have lim : lus.length + 1 ≤ sizeLine := Nat.le_trans (show _ ≤ 10 from by have := ascl.len; omega) (by decide)
          have more : (((List.range N).take (j + 1)).filter (ltB l)).map (fun k => l ++ [k]) = (((List.range N).take j).filter (ltB l)).map (fun k => l ++ [k]) ++ (if ltB l j = true then [l ++ [j]] else []) := by
            rw [List.take_add_one, List.getElem?_range hj]
            show List.map _ (List.filter _ (_ ++ [j])) = _
            rw [List.filter_append, List.map_append]
            congr 1
            by_cases c : ltB l j = true <;> simp [c]
          have fin : ltB l j = true → tOp rCat (tVar 4) (tLst (tCons (tVar 3) tNil)) [some (.ref a), some (.ref a1), some (.ref a2), some y2, some (.ref la)] H9 fun y H7 => ∃ acc, H7 D = some (.lst acc) ∧ acc.length < sizeLine ∧ (Same H5 (upd H7 D (.lst (acc ++ [y]))) ∧ ∃ ns, (upd H7 D (.lst (acc ++ [y]))) D = some (.lst ns) ∧ LtsAt m HD (upd H7 D (.lst (acc ++ [y]))) ns (nextL N ((lotsK N s).take i) ++ (((List.range N).take (j + 1)).filter (ltB l)).map fun k => l ++ [k])) := by
            intro c
            walk_at "rd"
            refine ⟨by show 1 ≤ sizeLine; decide, fun q nq => ?_⟩
            have sq := Same.up (o := .lst [y2]) (Same.refl H9) nq
            have hq : upd H9 q (.lst [y2]) q = some (.lst [y2]) := upd_same
            obtain ⟨HA, eHA⟩ : ∃ HA, HA = upd H9 q (.lst [y2]) := ⟨_, rfl⟩
            rw [← eHA] at sq hq ⊢
            refine r_cat (sq _ _ hla9) hq lim fun r nr => ?_
            have sr := Same.up (o := .lst (lus ++ [y2])) (Same.refl HA) nr
            have hr' : upd HA r (.lst (lus ++ [y2])) r = some (.lst (lus ++ [y2])) := upd_same
            obtain ⟨HB, eHB⟩ : ∃ HB, HB = upd HA r (.lst (lus ++ [y2])) := ⟨_, rfl⟩
            rw [← eHB] at sr hr' ⊢
            have s9B := sq.trans sr
            have hDB := s9B _ _ hD8
            have nD_ : HD r = none := by
              cases e : HD r with
              | none => rfl
              | some o =>
                exfalso
                by_cases z : r = D
                · rw [z, (sq _ _ hD8)] at nr; cases nr
                · have : H5 r = some o := by rw [eHD, upd_ne z] at e; exact e
                  rw [(s8.trans sq) _ _ this] at nr; cases nr
            refine ⟨ns8, hDB, Nat.lt_of_le_of_lt nb (by decide), Same.upOff (s8.trans s9B) nD, ns8 ++ [.ref r], upd_same, ?_⟩
            rw [more, if_pos c, ← List.append_assoc]
            have hrB : (upd HB D (.lst (ns8 ++ [V.ref r]))) r = some (.lst (lus ++ [y2])) := by rw [upd_ne (fun z => by rw [z, hD0] at nD_; cases nD_)]; exact hr'
            have hkB : LneAt m (upd HB D (.lst (ns8 ++ [V.ref r]))) y2 j := by
              obtain ⟨t, e1, e2⟩ := hk'
              exact ⟨t, e1, Tups.put hDB _ _ (s9B _ _ e2)⟩
            exact ((hN8.same s9B).upd hD0 hDB).app (.cons nD_ hrB (LnsAt.app ((hl9.same s9B).tup (.put hDB)) (.cons hkB .nil)) .nil)
          have skip : ltB l j = false → (Same H5 H9 ∧ ∃ ns, H9 D = some (.lst ns) ∧ LtsAt m HD H9 ns (nextL N ((lotsK N s).take i) ++ (((List.range N).take (j + 1)).filter (ltB l)).map fun k => l ++ [k])) := by
            intro c
            refine ⟨s8, ns8, hD8, ?_⟩
            rw [more, if_neg (by rw [c]; exact Bool.false_ne_true), List.append_nil]
            exact hN8
          walk_at "rd"
          refine ⟨rfl, ?_⟩
          walk_at "rd"
          refine ⟨!lus.isEmpty, .inl ⟨lus, SqL.of hla9, rfl⟩, ?_⟩
          by_cases le : lus = []
          · refine ifT (by rw [le]; rfl) (ifT rfl ?_)
            have l0 : l = [] := List.eq_nil_of_length_eq_zero (by rw [← lul, le]; rfl)
            exact fin (by rw [l0]; rfl)
          · refine ifF (by cases lus with | nil => exact absurd rfl le | cons _ _ => rfl) ?_
            obtain ⟨n0, en0⟩ : ∃ n0, lus.length = n0 + 1 := ⟨lus.length - 1, by have := List.length_pos_iff.mpr le; omega⟩
            obtain ⟨kx, ekx, hkx⟩ := hl9.at (List.getElem?_eq_getElem (show n0 < lus.length by omega))
            have elast : l.getLast? = some kx := by rw [List.getLast?_eq_getElem?, ← lul, en0]; exact ekx
            walk_at "rd"
            refine r_ixL (SqL.of hla9) (lastV en0 (List.getElem?_eq_getElem (show n0 < lus.length by omega))) ?_
            refine ⟨lneD m j, lneD m kx, ⟨hk'.dp, hkx.dp, lne_alike m j kx, (fun z => by cases z), by rw [lne_depth]; decide⟩, ?_⟩
            dsimp only
            rw [lne_lt]
            refine ⟨_, rfl, ?_⟩
            by_cases c : kx < j
            · refine ifT (decide_eq_true c) ?_
              exact fin (by rw [ltB_last elast]; exact decide_eq_true c)
            · refine ifF (decide_eq_false c) ?_
              exact skip (by rw [ltB_last elast]; exact decide_eq_false c)
        · rintro H8 ⟨s8, ns8, hD8, hN8⟩
          refine ⟨s8, ns8, hD8, ?_⟩
          rw [List.take_add_one, el]
          show LtsAt m HD H8 ns8 (nextL N (_ ++ [l]))
          rw [nextL_more]
          rw [ul, show (List.range N).take N = List.range N from List.take_of_length_le (by rw [List.length_range]; exact Nat.le_refl N)] at hN8
          exact hN8
      · rintro H6 ⟨s6, ns, hD, hN⟩
        rw [ll, List.take_of_length_le (Nat.le_refl _)] at hN
        have s56 := s5.trans s6
        have few2 := lotsK_few (s := s + 1) N8
        have nl := hN.length
        walk_at "rd"
        have nf : ns.length ≤ 40320 := by rw [nl]; exact few2
        have ff : fs.length ≤ 9 * 40320 := by rw [fl]; exact Nat.le_trans fewU (Nat.mul_le_mul_right _ (by omega))
        refine r_cat (s6 _ _ hf) hD (Nat.le_trans (show fs.length + ns.length ≤ 10 * 40320 by omega) (by decide)) fun q nq => ?_
        have s7' := Same.up (o := .lst (fs ++ ns)) (Same.refl H6) nq
        refine ⟨⟨s + 1, q, D, fs ++ ns, ns, _, _, rfl, s56.trans s7', s56.free nq, upd_same, ?_, s7' _ _ hD, (hN.back (s5.trans sD0)).same s7', by omega⟩, ?_⟩
        · rw [lotsU_more]
          exact (F5.same (s6.trans s7')).app ((hN.back (s5.trans sD0)).same s7')
        · have m1 := lotMu_val (N := N) (x0 := some (V.ref a)) (x1 := some (V.ref a1)) (x3 := v3) (x4 := v4) L5 (fun l hl => (lotsK_asc hl).2) hls
          have m2 := lotMu_val (N := N) (s := s + 1) (x0 := some (V.ref a)) (x1 := some (V.ref q)) (x3 := v3) (x4 := v4) (hN.same s7') (fun l hl => (lotsK_asc (s := s + 1) hl).2) (s7' _ _ hD)
          rw [m1, if_neg (by rw [els]; simp)]
          refine Nat.lt_of_le_of_lt (Nat.le_of_eq m2) ?_
          split <;> omega
end
end Pk
set_option Elab.async false
set_option linter.all false
set_option maxRecDepth 100000
set_option maxHeartbeats 4000000
namespace Pk
open PySem L2
local macro_rules | `(tactic| walk_at "rd") => `(tactic| repeat (first
  | with_reducible refine r_seq ?_ | with_reducible refine r_nxt ?_ | with_reducible refine r_asg ?_ | with_reducible refine r_to ?_ | with_reducible refine r_ret ?_ | with_reducible refine r_for ?_ | with_reducible refine r_lc ?_ | with_reducible refine r_lc2 ?_ | with_reducible refine r_rng1 ?_ | with_reducible refine r_list ?_ | with_reducible refine r_tupI ?_ | with_reducible refine r_drop ?_ | with_reducible refine r_ifs ?_
  | with_reducible refine r_op ?_ | with_reducible refine r_c ?_ | with_reducible refine r_var rfl ?_ | with_reducible refine r_var (by assumption) ?_ | with_reducible refine r_I0 ?_ | with_reducible refine r_un ?_ | with_reducible refine r_U ?_ | with_reducible refine r_make ?_ | with_reducible refine r_makeS ?_ | with_reducible refine r_ifE ?_ | with_reducible refine r_cm ?_ | with_reducible refine r_mkV rfl ?_ | with_reducible refine r_sub ?_
  | with_reducible refine r_nil ?_ | with_reducible refine r_cons ?_ | with_reducible refine r_cb ?_ | with_reducible refine r_sl ?_ | with_reducible refine r_noP ?_ | with_reducible refine r_part ?_ | with_reducible refine r_isI ?_ | with_reducible refine r_lst ?_ | with_reducible refine r_tup ?_ | with_reducible refine r_call ?_ | with_reducible refine r_callS ?_ | with_reducible refine r_sFldU ?_ | with_reducible refine r_chain ?_ | with_reducible refine r_enum ?_ | with_reducible refine r_zip ?_ | with_reducible refine r_rng3 ?_ | with_reducible refine r_gtup ?_ | with_reducible refine r_methU ?_
  | with_reducible refine r_test ?_ | with_reducible refine r_B ?_ | with_reducible refine r_and ?_ | with_reducible refine r_or ?_ | with_reducible refine r_not ?_ | with_reducible refine r_andV ?_ | with_reducible refine r_orV ?_ | with_reducible refine r_notV ?_ | with_reducible refine r_bl ?_ | with_reducible refine r_yes ?_ | with_reducible refine r_int ?_ | with_reducible refine r_is0 ?_ | with_reducible refine r_is1 ?_ | with_reducible refine iteT ?_ | with_reducible refine iteF ?_ | with_reducible refine ite_nF ?_ | with_reducible refine ite_nT ?_
  | with_reducible refine r_mod (by decide) ?_ | with_reducible refine r_div (by decide) (by decide) ?_ | with_reducible refine r_mulR (by decide) (by decide) ?_ | with_reducible refine r_mulL (by decide) (by decide) ?_ | with_reducible refine r_pow (by decide) (by decide) (by decide) ?_))
/-! ### the drawn numbers of a script, without a pool -/
def cellF (ns : List Int) (k : Nat) : Int := ns.getD k 0
def mixF (c k : Int) : Int :=
  ((((((c + 7919 * k + 1) * 48271) % 2147483647) * ((((c + 7919 * k + 1) * 48271) % 2147483647) / 1009 + 69621)) % 2147483647) * (((((((c + 7919 * k + 1) * 48271) % 2147483647) * ((((c + 7919 * k + 1) * 48271) % 2147483647) / 1009 + 69621)) % 2147483647)) / 2003 + 40692)) % 2147483399
theorem mixF_nn (c k : Int) : 0 ≤ mixF c k := Int.emod_nonneg _ (by decide)
theorem mixF_lt (c k : Int) : mixF c k < 2147483399 := Int.emod_lt_of_pos _ (by decide)
def numF (c sp : Int) (k : Nat) (z : Int) : Int := if z > 10 ^ 8 then mixF c (1009 * sp + k) / 16 * (10 ^ 22 + 9) + mixF (c + 1) (1009 * sp + k) / 16 else mixF c (1009 * sp + k) / 16
def dStep (c sp : Int) (k : Nat) (z l : Int) : Int × Int := if 10 ^ 18 ≤ c ∧ 0 < l then (l % z, l / z) else (numF c sp k z % z, l)
theorem dStep_nn {c sp : Int} {k : Nat} {z l : Int} (h : 0 < z) : 0 ≤ (dStep c sp k z l).1 ∧ (dStep c sp k z l).1 < z := by
  unfold dStep
  by_cases g : 10 ^ 18 ≤ c ∧ 0 < l
  · rw [if_pos g]; exact ⟨Int.emod_nonneg _ (by omega), Int.emod_lt_of_pos _ h⟩
  · rw [if_neg g]; exact ⟨Int.emod_nonneg _ (by omega), Int.emod_lt_of_pos _ h⟩
def dAt (c sp : Int) (zs : List Int) : Nat → List Int × Int
  | 0 => ([], c)
  | m + 1 => match zs[m]? with
    | some z => ((dAt c sp zs m).1 ++ [(dStep c sp m z (dAt c sp zs m).2).1], (dStep c sp m z (dAt c sp zs m).2).2)
    | none => dAt c sp zs m
def drawsF (ns : List Int) (sp : Nat) (zs : List Int) : List Int := (dAt (cellF ns sp) sp zs zs.length).1
theorem dAt_more {c sp : Int} {zs : List Int} {m : Nat} {z : Int} (e : zs[m]? = some z) : dAt c sp zs (m + 1) = ((dAt c sp zs m).1 ++ [(dStep c sp m z (dAt c sp zs m).2).1], (dStep c sp m z (dAt c sp zs m).2).2) := by
  show (match zs[m]? with | some z => _ | none => _) = _
  rw [e]
theorem dAt_len {c sp : Int} {zs : List Int} : ∀ {m : Nat}, m ≤ zs.length → (dAt c sp zs m).1.length = m
  | 0, _ => rfl
  | m + 1, h => by
    rw [dAt_more (List.getElem?_eq_getElem (show m < zs.length by omega))]
    show (_ ++ [_]).length = _
    rw [List.length_append, dAt_len (by omega)]
    rfl
theorem drawsF_len (ns : List Int) (sp : Nat) (zs : List Int) : (drawsF ns sp zs).length = zs.length := dAt_len (Nat.le_refl _)
theorem dAt_get {c sp : Int} {zs : List Int} (pos : ∀ z, z ∈ zs → 0 < z) : ∀ {m i : Nat} {d : Int}, m ≤ zs.length → (dAt c sp zs m).1[i]? = some d → ∃ z, zs[i]? = some z ∧ 0 ≤ d ∧ d < z
  | 0, i, d, _, e => by simp [dAt] at e
  | m + 1, i, d, h, e => by
    have em := List.getElem?_eq_getElem (show m < zs.length by omega)
    rw [dAt_more em] at e
    have l := dAt_len (c := c) (sp := sp) (show m ≤ zs.length by omega)
    by_cases c0 : i < m
    · rw [List.getElem?_append_left (by omega)] at e
      exact dAt_get pos (by omega) e
    · rw [List.getElem?_append_right (by omega), l] at e
      have : i = m := by
        by_cases d0 : i - m = 0
        · omega
        · obtain ⟨q, hq⟩ : ∃ q, i - m = q + 1 := ⟨i - m - 1, by omega⟩
          rw [hq] at e
          simp at e
      subst this
      rw [Nat.sub_self] at e
      cases e
      exact ⟨_, em, dStep_nn (pos _ (List.mem_of_getElem? em))⟩
theorem drawsF_get {ns : List Int} {sp : Nat} {zs : List Int} (pos : ∀ z, z ∈ zs → 0 < z) {i : Nat} {z : Int} (e : zs[i]? = some z) : ∃ d, (drawsF ns sp zs)[i]? = some d ∧ 0 ≤ d ∧ d < z := by
  have hi : i < (drawsF ns sp zs).length := by rw [drawsF_len]; exact (List.getElem?_eq_some_iff.mp e).1
  have e1 := List.getElem?_eq_getElem hi
  obtain ⟨z', ez, h1, h2⟩ := dAt_get pos (Nat.le_refl _) e1
  rw [e] at ez
  cases ez
  exact ⟨_, e1, h1, h2⟩
def spCell2 (K : PySem.W.Frag) : Sp := fun vs H Q _ => ∃ (l : Addr) (ns : List Int) (k : Nat), vs = [.ref l, .int (k : Int)] ∧ SqL K H l (ns.map V.int) ∧ Q (.int (cellF ns k)) H
def spMix2 : Sp := fun vs H Q _ => ∃ c k : Int, vs = [.int c, .int k] ∧ Q (.int (mixF c k)) H
/-- a size that can be drawn from -/
def Szd (z : Int) : Prop := 0 < z ∧ z.natAbs.log2 < 9000
def spDraws (K : PySem.W.Frag) : Sp := fun vs H Q _ => ∃ (l zl : Addr) (ns zs : List Int) (sp : Nat), vs = [.ref l, .int (sp : Int), .ref zl] ∧ SqL K H l (ns.map V.int) ∧ H zl = some (.lst (zs.map V.int)) ∧ (∀ z, z ∈ zs → Szd z) ∧ zs.length ≤ 1000 ∧
  ∀ (r : Addr) (H' : Hp), Same H H' → H r = none → H' r = some (.lst ((drawsF ns sp zs).map V.int)) → Q (.ref r) H'
abbrev slCell2 : Stmt := top 51
abbrev slMix2 : Stmt := top 52
abbrev slDraws : Stmt := top 53
theorem r_aug {i : Nat} {te : TE} {ti : TIp} {D : Ends} {σ : L2.St} {H : Hp} {v : V} (e : σ[i]? = some (some v)) (h : te σ H fun y H1 => ti v y H1 fun z H2 => D.nx (σ.set i (some z)) H2) : tAug i te ti D σ H := ⟨v, e, h⟩
theorem r_divW {a b : Int} {H : Hp} {Q : VK} (c : Szd b) (h : Q (.int (a / b)) H) : rI CDivW (fun i j => .int (i / j)) (.int a) (.int b) H Q := r_I c h
section
variable {P : Program} {w : World} {K : PySem.W.Frag} {mg : Str → Option Value} {base : Heap} {f : Addr} {fd : FuncData}
theorem sclCell2 : FnScope ["_law_script", "_law_k"] ["_law_script", "_law_k"] (defScope slCell2) := ⟨rfl, rfl, rfl, by decide +kernel, rfl, by decide +kernel, by decide +kernel⟩
theorem ok_cell2 (F : Fun K "_law_cell" "_law_cell" slCell2 f fd) (T : Bt mg) : FnOk P w K mg base CX0 1 f fd ["_law_script", "_law_k"] (spCell2 K) := by
  refine F.ok sclCell2 (fun vs H Q E h => ?_) (fun cdv A outer s H vs Q E hr h => ?_)
  · obtain ⟨l, ns, k, rfl, _⟩ := h
    rfl
  · obtain ⟨l, ns, k, rfl, hl, kk⟩ := h
    refine ⟨_, (pss_cons (ps_if (pt_cmpR op_lt (pv 1) (pe_callB cl_len (by rfl) T.len (by decide +kernel) (pa_cons (pv 0) pa_nil)) (nomark _)) (pss_one (ps_ret (pe_callTy cl_int (by rfl) T.int (by decide +kernel) (pa_cons (pe_ix ix_list (pv 0) (pv 1) (fun _ _ => rfl)) pa_nil)))) pss_nil)
  (pss_one (ps_ret pe_int))), ?_⟩
    walk_at "rd"
    refine r_lenL hl ?_
    walk_at "rd"
    by_cases c : k < ns.length
    · refine ifT (decide_eq_true (by rw [List.length_map]; omega)) ?_
      walk_at "rd"
      refine r_ixL hl (v := .int ns[k]) (atI_nat (j := k) (by rw [List.getElem?_map, List.getElem?_eq_getElem c]; rfl)) ?_
      walk_at "rd"
      have e : cellF ns k = ns[k] := by unfold cellF; rw [List.getD_eq_getElem?_getD, List.getElem?_eq_getElem c]; rfl
      rw [← e]
      exact kk
    · refine ifF (decide_eq_false (by rw [List.length_map]; omega)) ?_
      walk_at "rd"
      have e : cellF ns k = 0 := by unfold cellF; rw [List.getD_eq_getElem?_getD, List.getElem?_eq_none (by omega)]; rfl
      rw [← e]
      exact kk
theorem sclMix2 : FnScope ["_law_cell_here", "_law_k", "_law_number"] ["_law_cell_here", "_law_k"] (defScope slMix2) := ⟨rfl, rfl, rfl, by decide +kernel, rfl, by decide +kernel, by decide +kernel⟩
theorem ok_mix2 (F : Fun K "_law_mixed" "_law_mixed" slMix2 f fd) (T : Bt mg) : FnOk P w K mg base CX0 1 f fd ["_law_cell_here", "_law_k"] spMix2 := by
  refine F.ok sclMix2 (fun vs H Q E h => ?_) (fun cdv A outer s H vs Q E hr h => ?_)
  · obtain ⟨c, k, rfl, _⟩ := h
    rfl
  · obtain ⟨c, k, rfl, kk⟩ := h
    refine ⟨_, (pss_cons (ps_set (i := 2) sclMix2.nd rfl (Or.inl rfl) (pe_op op_mod (pe_callTy cl_int (by rfl) T.int (by decide +kernel) (pa_cons (pe_op op_mul (pe_op op_add (pe_op op_add (pv 0) (pe_op op_mul pe_int (pv 1))) pe_int) pe_int) pa_nil)) pe_int))
  (pss_cons (ps_set (i := 2) sclMix2.nd rfl (Or.inl rfl) (pe_op op_mod (pe_callTy cl_int (by rfl) T.int (by decide +kernel) (pa_cons (pe_op op_mul (pv 2) (pe_op op_add (pe_op op_fdiv (pv 2) pe_int) pe_int)) pa_nil)) pe_int))
  (pss_one (ps_ret (pe_op op_mod (pe_callTy cl_int (by rfl) T.int (by decide +kernel) (pa_cons (pe_op op_mul (pv 2) (pe_op op_add (pe_op op_fdiv (pv 2) pe_int) pe_int)) pa_nil)) pe_int))))), ?_⟩
    walk_at "rd"
    obtain ⟨a, ea⟩ : ∃ a, a = ((c + 7919 * k + 1) * 48271) % 2147483647 := ⟨_, rfl⟩
    have a0 : 0 ≤ a := by rw [ea]; exact Int.emod_nonneg _ (by decide)
    have a1 : a < 2147483647 := by rw [ea]; exact Int.emod_lt_of_pos _ (by decide)
    rw [← ea]
    refine r_mulL (Int.lt_of_lt_of_le (by decide) a0) (Int.lt_trans a1 (by decide)) ?_
    walk_at "rd"
    obtain ⟨b, eb⟩ : ∃ b, b = (a * (a / 1009 + 69621)) % 2147483647 := ⟨_, rfl⟩
    have b0 : 0 ≤ b := by rw [eb]; exact Int.emod_nonneg _ (by decide)
    have b1 : b < 2147483647 := by rw [eb]; exact Int.emod_lt_of_pos _ (by decide)
    rw [← eb]
    refine r_mulL (Int.lt_of_lt_of_le (by decide) b0) (Int.lt_trans b1 (by decide)) ?_
    walk_at "rd"
    have e : mixF c k = (b * (b / 2003 + 40692)) % 2147483399 := by rw [eb, ea]; rfl
    rw [← e]
    exact kk
theorem sclDraws : FnScope ["_law_script", "_law_spot", "_law_sizes", "_law_cell_here", "_law_left", "_law_drawn", "_law_k", "_law_size", "_law_number"] ["_law_script", "_law_spot", "_law_sizes"] (defScope slDraws) := ⟨rfl, rfl, rfl, by decide +kernel, rfl, by decide +kernel, by decide +kernel⟩
theorem ok_draws (F : Fun K "_law_draws" "_law_draws" slDraws f fd) (T : Bt mg) (DC : Df P w K mg base CX0 "_law_cell" 1 ["_law_script", "_law_k"] (spCell2 K)) (DM : Df P w K mg base CX0 "_law_mixed" 1 ["_law_cell_here", "_law_k"] spMix2) : FnOk P w K mg base CX0 2 f fd ["_law_script", "_law_spot", "_law_sizes"] (spDraws K) := by
  refine F.ok sclDraws (fun vs H Q E h => ?_) (fun cdv A outer s H vs Q E hr h => ?_)
  · obtain ⟨l, zl, ns, zs, sp, rfl, _⟩ := h
    rfl
  · obtain ⟨l, zl, ns, zs, sp, rfl, hl, hz, sz, z1000, kk⟩ := h
    refine ⟨_, (pss_cons (ps_set (i := 3) sclDraws.nd rfl (Or.inl rfl) (pe_df DC hr (by decide) (pa_cons (pv 0) (pa_cons (pv 1) pa_nil))))
  (pss_cons (ps_set (i := 4) sclDraws.nd rfl (Or.inl rfl) (pv 3))
  (pss_cons (ps_set (i := 5) sclDraws.nd rfl (Or.inl rfl) (pe_lst pa_nil))
  (pss_cons (ps_for PassesOwn.never rfl (pi_enum (by rfl) T.enumerate (pa_cons (pv 2) pa_nil)) (pg_tup (by rfl) (pgs_cons (pg_name (i := 6) sclDraws.nd rfl (Or.inl rfl)) (pgs_cons (pg_name (i := 7) sclDraws.nd rfl (Or.inl rfl)) pgs_nil))) (pss_one (ps_if (PW.pt (pw_and (pt_cmpR op_ge (pv 3) (pe_op op_pow pe_int pe_int) (nomark _)) (pw_and1 (pt_cmpR op_gt (pv 4) pe_int (nomark _))))) (pss_cons (ps_expr (pe_bm PySem.F.plainAttrs_list PySem.F.slot_list_append PySem.F.type_list_append mt_append (pv 5) (pa_cons (pe_op op_mod (pe_callTy cl_int (by rfl) T.int (by decide +kernel) (pa_cons (pv 4) pa_nil)) (pv 7)) pa_nil)))
  (pss_one (ps_set (i := 4) sclDraws.nd rfl (Or.inl rfl) (pe_op op_fdivW (pv 4) (pv 7))))) (pss_cons (ps_set (i := 8) sclDraws.nd rfl (Or.inl rfl) (pe_op op_fdiv (pe_df DM hr (by decide) (pa_cons (pv 3) (pa_cons (pe_op op_add (pe_op op_mul pe_int (pv 1)) (pv 6)) pa_nil))) pe_int))
  (C8.pss_cut (ps_if (pt_cmpR op_gt (pv 7) (pe_op op_pow pe_int pe_int) (nomark _)) (pss_cons (ps_set (i := 8) sclDraws.nd rfl (Or.inl rfl) (pe_op op_mul (pv 8) (pe_op op_add (pe_op op_pow pe_int pe_int) pe_int)))
  (pss_one (ps_aug (i := 8) sclDraws.nd rfl (Or.inl rfl) (pe_op op_fdiv (pe_df DM hr (by decide) (pa_cons (pe_op op_add (pv 3) pe_int) (pa_cons (pe_op op_add (pe_op op_mul pe_int (pv 1)) (pv 6)) pa_nil))) pe_int) ip_add))) pss_nil)
  (pss_one (ps_expr (pe_bm PySem.F.plainAttrs_list PySem.F.slot_list_append PySem.F.type_list_append mt_append (pv 5) (pa_cons (pe_op op_mod (pe_callTy cl_int (by rfl) T.int (by decide +kernel) (pa_cons (pv 8) pa_nil)) (pv 7)) pa_nil)))))))))
  (pss_one (ps_ret (pv 5))))))), ?_⟩
    walk_at "rd"
    refine ⟨l, ns, sp, rfl, hl, ?_⟩
    obtain ⟨c, ec⟩ : ∃ c, c = cellF ns sp := ⟨_, rfl⟩
    rw [← ec]
    walk_at "rd"
    refine ⟨Nat.zero_le _, fun D nD => ?_⟩
    have s1 := Same.up (o := .lst []) (Same.refl H) nD
    have hD1 : upd H D (.lst []) D = some (.lst []) := upd_same
    obtain ⟨H1, eH1⟩ : ∃ H1, H1 = upd H D (.lst []) := ⟨_, rfl⟩
    rw [← eH1] at s1 hD1 ⊢
    walk_at "rd"
    refine ⟨zl, zs.map V.int, rfl, SqL.of (s1 _ _ hz), for_it walk_enum (fun m σ H' => ∃ v6 v7 v8, σ = [some (.ref l), some (.int (sp : Int)), some (.ref zl), some (.int c), some (.int (dAt c sp zs m).2), some (.ref D), v6, v7, v8] ∧ Same H H' ∧ H' D = some (.lst ((dAt c sp zs m).1.map V.int))) ⟨_, _, _, rfl, s1, hD1⟩ (fun m σ H' _ z => by obtain ⟨_, _, _, _, z, _⟩ := z; exact SqL.of (z _ _ hz)) ?_ ?_⟩
    · rintro m y σ H2 H3 hm ⟨v6, v7, v8, rfl, s2, hD2⟩ ⟨t, i', y', rfl, ht, rfl, e1, e2⟩
      cases (Option.some.inj e1)
      have e2 : (zs.map V.int)[m]? = some y' := e2
      rw [List.getElem?_map] at e2
      obtain ⟨z, ez, rfl⟩ := Option.map_eq_some_iff.mp e2
      have sz' := sz z (List.mem_of_getElem? ez)
      have hm' : m < zs.length := (List.getElem?_eq_some_iff.mp ez).1
      have dl := dAt_len (c := c) (sp := sp) (show m ≤ zs.length by omega)
      refine r_gtup ⟨t, _, rfl, SqT.of upd_same, rfl, _, _, rfl, ?_⟩
      have hD3 := Same.up (o := .tup [V.int (m : Int), V.int z]) (Same.refl H2) ht _ _ hD2
      have s3 := s2.trans (Same.up (o := .tup [V.int (m : Int), V.int z]) (Same.refl H2) ht)
      obtain ⟨H3, eH3⟩ : ∃ H3, H3 = upd H2 t (.tup [V.int (m : Int), V.int z]) := ⟨_, rfl⟩
      rw [← eH3] at s3 hD3 ⊢
      have put : ∀ v : V, Same H (upd H3 D (.lst ((dAt c sp zs m).1.map V.int ++ [v]))) := fun v c o e => by
        rw [upd_ne (fun z => by rw [z, nD] at e; cases e)]
        exact s3 _ _ e
      have lD : ((dAt c sp zs m).1.map V.int).length < sizeLine := Nat.lt_of_le_of_lt (show _ ≤ 1000 by rw [List.length_map]; omega) (by decide)
      have dm := dAt_more (c := c) (sp := sp) ez
      walk_at "rd"
      refine ⟨_, _, rfl, ?_⟩
      walk_at "rd"
      refine ⟨rfl, ?_⟩
      walk_at "rd"
      by_cases gd : 10 ^ 18 ≤ c ∧ 0 < (dAt c sp zs m).2
      · have ds : dStep c sp m z (dAt c sp zs m).2 = ((dAt c sp zs m).2 % z, (dAt c sp zs m).2 / z) := by unfold dStep; rw [if_pos gd]
        rw [ds] at dm
        refine ifT (decide_eq_true gd.1) ?_
        walk_at "rd"
        refine ifT (decide_eq_true gd.2) ?_
        walk_at "rd"
        refine r_bm ?_
        walk_at "rd"
        refine ⟨.inl ⟨rfl, _, SqL.of hD3⟩, ?_⟩
        walk_at "rd"
        refine r_mod sz'.1 ?_
        walk_at "rd"
        refine ⟨D, _, _, rfl, rfl, hD3, lD, ?_⟩
        walk_at "rd"
        refine r_divW sz' ?_
        walk_at "rd"
        refine ⟨some (.int (m : Int)), some (.int z), v8, ?_, put _, ?_⟩
        · rw [dm]; rfl
        · rw [dm, upd_same, List.map_append]; rfl
      · have ds : dStep c sp m z (dAt c sp zs m).2 = (numF c sp m z % z, (dAt c sp zs m).2) := by unfold dStep; rw [if_neg gd]
        rw [ds] at dm
        have two : decide (10 ^ (18 : Int).toNat ≤ c) = false ∨ (decide (10 ^ (18 : Int).toNat ≤ c) = true ∧ decide (0 < (dAt c sp zs m).2) = false) := by
          by_cases c18 : 10 ^ 18 ≤ c
          · exact .inr ⟨decide_eq_true c18, decide_eq_false fun z => gd ⟨c18, z⟩⟩
          · exact .inl (decide_eq_false c18)
        rcases two with h | ⟨h, h'⟩
        all_goals
          first
            | refine ifF h ?_
            | (refine ifT h ?_
               walk_at "rd"
               refine ifF h' ?_)
          walk_at "rd"
          refine ⟨c, _, rfl, ?_⟩
          walk_at "rd"
          have b0 := mixF_nn c (1009 * (sp : Int) + (m : Int))
          have b1 := mixF_lt c (1009 * (sp : Int) + (m : Int))
          refine r_cut (fun σ' H' => σ' = [some (.ref l), some (.int (sp : Int)), some (.ref zl), some (.int c), some (.int (dAt c sp zs m).2), some (.ref D), some (.int (m : Int)), some (.int z), some (.int (numF c sp m z))] ∧ H3 = H') ?_ ?_
          · walk_at "rd"
            by_cases z8 : z > 10 ^ 8
            · refine ifT (decide_eq_true z8) ?_
              walk_at "rd"
              refine r_mulL (by omega) (by omega) ?_
              walk_at "rd"
              refine r_aug rfl ?_
              walk_at "rd"
              refine ⟨_, _, rfl, ?_⟩
              walk_at "rd"
              refine ⟨_, _, rfl, rfl, ?_⟩
              refine ⟨?_, rfl⟩
              unfold numF
              rw [if_pos z8]
              rfl
            · refine ifF (decide_eq_false z8) ?_
              refine ⟨?_, rfl⟩
              unfold numF
              rw [if_neg z8]
              rfl
          · rintro σ' H' ⟨rfl, rfl⟩
            walk_at "rd"
            refine r_bm ?_
            walk_at "rd"
            refine ⟨.inl ⟨rfl, _, SqL.of hD3⟩, ?_⟩
            walk_at "rd"
            refine r_mod sz'.1 ?_
            walk_at "rd"
            refine ⟨D, _, _, rfl, rfl, hD3, lD, ?_⟩
            refine ⟨some (.int (m : Int)), some (.int z), some (.int (numF c sp m z)), ?_, put _, ?_⟩
            · rw [dm]
            · rw [dm, upd_same, List.map_append]; rfl
    · rintro σ H2 ⟨v6, v7, v8, rfl, s2, hD2⟩
      rw [List.length_map] at hD2
      walk_at "rd"
      refine kk D H2 s2 nD ?_
      rw [hD2, ec]
      rfl
end
end Pk
set_option Elab.async false
set_option linter.all false
set_option maxRecDepth 100000
set_option maxHeartbeats 4000000
namespace Pk
open PySem L2
local macro_rules | `(tactic| walk_at "rd") => `(tactic| repeat (first
  | with_reducible refine r_seq ?_ | with_reducible refine r_nxt ?_ | with_reducible refine r_asg ?_ | with_reducible refine r_to ?_ | with_reducible refine r_ret ?_ | with_reducible refine r_for ?_ | with_reducible refine r_lc ?_ | with_reducible refine r_lc2 ?_ | with_reducible refine r_rng1 ?_ | with_reducible refine r_list ?_ | with_reducible refine r_tupI ?_ | with_reducible refine r_drop ?_ | with_reducible refine r_ifs ?_
  | with_reducible refine r_op ?_ | with_reducible refine r_c ?_ | with_reducible refine r_var rfl ?_ | with_reducible refine r_var (by assumption) ?_ | with_reducible refine r_I0 ?_ | with_reducible refine r_un ?_ | with_reducible refine r_U ?_ | with_reducible refine r_make ?_ | with_reducible refine r_makeS ?_ | with_reducible refine r_ifE ?_ | with_reducible refine r_cm ?_ | with_reducible refine r_mkV rfl ?_ | with_reducible refine r_sub ?_
  | with_reducible refine r_nil ?_ | with_reducible refine r_cons ?_ | with_reducible refine r_cb ?_ | with_reducible refine r_sl ?_ | with_reducible refine r_noP ?_ | with_reducible refine r_part ?_ | with_reducible refine r_isI ?_ | with_reducible refine r_lst ?_ | with_reducible refine r_tup ?_ | with_reducible refine r_call ?_ | with_reducible refine r_callS ?_ | with_reducible refine r_sFldU ?_ | with_reducible refine r_chain ?_ | with_reducible refine r_enum ?_ | with_reducible refine r_zip ?_ | with_reducible refine r_rng3 ?_ | with_reducible refine r_gtup ?_ | with_reducible refine r_methU ?_
  | with_reducible refine r_test ?_ | with_reducible refine r_B ?_ | with_reducible refine r_and ?_ | with_reducible refine r_or ?_ | with_reducible refine r_not ?_ | with_reducible refine r_andV ?_ | with_reducible refine r_orV ?_ | with_reducible refine r_notV ?_ | with_reducible refine r_bl ?_ | with_reducible refine r_yes ?_ | with_reducible refine r_int ?_ | with_reducible refine r_is0 ?_ | with_reducible refine r_is1 ?_ | with_reducible refine iteT ?_ | with_reducible refine iteF ?_ | with_reducible refine ite_nF ?_ | with_reducible refine ite_nT ?_
  | with_reducible refine r_mod (by decide) ?_ | with_reducible refine r_div (by decide) (by decide) ?_ | with_reducible refine r_mulR (by decide) (by decide) ?_ | with_reducible refine r_mulL (by decide) (by decide) ?_ | with_reducible refine r_pow (by decide) (by decide) (by decide) ?_))
/-! ### the grid of prices of a script -/
structure GK (H0 H : Hp) (L : Addr) (es : List V) (R : Rw) : Prop where
  at_ : H L = some (.lst es)
  len : es.length = R.length
  row : ∀ (i : Nat) (v : V), es[i]? = some v → ∃ a, v = .ref a ∧ a ≠ L ∧ H0 a = none ∧ H a = some (.lst ((R.getD i []).map pV))
theorem GK.same {H0 H H' : Hp} {L : Addr} {es : List V} {R : Rw} (g : GK H0 H L es R) (s : Same H H') : GK H0 H' L es R := ⟨s _ _ g.at_, g.len, fun i v e => by
  obtain ⟨a, e1, n1, n2, h⟩ := g.row i v e
  exact ⟨a, e1, n1, n2, s _ _ h⟩⟩
theorem GK.put {H0 H : Hp} {L q : Addr} {es : List V} {R : Rw} {o : HO} (g : GK H0 H L es R) (n : L ≠ q) (m : ∀ (j : Nat) (v : V), es[j]? = some v → v ≠ .ref q) : GK H0 (upd H q o) L es R := ⟨by rw [upd_ne n]; exact g.at_, g.len, fun i v e => by
  obtain ⟨a, e1, n1, n2, h⟩ := g.row i v e
  exact ⟨a, e1, n1, n2, by rw [upd_ne (fun z => m i v e (by rw [e1, z]))]; exact h⟩⟩
theorem GK.more {H0 H : Hp} {L rw0 : Addr} {es : List V} {R : Rw} {cur : List (Option Int)} (g : GK H0 H L es R) (nl : rw0 ≠ L) (n0 : H0 rw0 = none) (hr : H rw0 = some (.lst (cur.map pV))) : GK H0 (upd H L (.lst (es ++ [.ref rw0]))) L (es ++ [.ref rw0]) (R ++ [cur]) := by
  refine ⟨upd_same, by rw [List.length_append, List.length_append, g.len]; rfl, fun i v e => ?_⟩
  have gl := g.len
  by_cases c : i < es.length
  · rw [List.getElem?_append_left c] at e
    obtain ⟨a, e1, n1, n2, h⟩ := g.row i v e
    refine ⟨a, e1, n1, n2, ?_⟩
    rw [upd_ne n1, h]
    congr 3
    rw [List.getD_eq_getElem?_getD, List.getD_eq_getElem?_getD, List.getElem?_append_left (by omega)]
  · rw [List.getElem?_append_right (by omega)] at e
    have : i = es.length := by
      by_cases d0 : i - es.length = 0
      · omega
      · obtain ⟨q, hq⟩ : ∃ q, i - es.length = q + 1 := ⟨i - es.length - 1, by omega⟩
        rw [hq] at e
        simp at e
    subst this
    rw [Nat.sub_self] at e
    cases e
    refine ⟨rw0, rfl, nl, n0, ?_⟩
    rw [upd_ne nl, hr]
    congr 3
    rw [List.getD_eq_getElem?_getD, List.getElem?_append_right (by omega), gl, Nat.sub_self]
    rfl
theorem GK.rl {H0 H : Hp} {L : Addr} {es : List V} {R : Rw} (g : GK H0 H L es R) : RL H L es R := ⟨g.at_, g.len, fun i v e => by
  obtain ⟨a, e1, _, _, h⟩ := g.row i v e
  exact ⟨a, e1, h⟩⟩
/-- prices of at most 120 digits -/
def PB (R : Rw) : Prop := ∀ r, r ∈ R → ∀ i : Int, some i ∈ r → -(10 ^ 120) < i ∧ i < 10 ^ 120
theorem grid_big {h w S : Int} (s : S ≤ 10 ^ 59) (h0 : 0 ≤ h) (h1 : h < S) (w0 : 0 ≤ w) (w1 : w < S) : -(10 ^ 120) < h + 2 * w - h * w ∧ h + 2 * w - h * w < 10 ^ 120 := by
  have a := Int.mul_nonneg h0 w0
  have b := Int.mul_le_mul (show h ≤ 10 ^ 59 by omega) (show w ≤ 10 ^ 59 by omega) w0 (by decide)
  rw [show (10 : Int) ^ 59 * 10 ^ 59 = 10 ^ 118 from by decide] at b
  generalize h * w = q at a b
  omega
theorem log_lt {n : Int} {k : Nat} (h : n.natAbs < 2 ^ k) (k0 : 0 < k) : n.natAbs.log2 < k := by
  by_cases z : n.natAbs = 0
  · rw [z]
    show Nat.log2 0 < k
    rw [show Nat.log2 0 = 0 from by decide]
    exact k0
  · exact (Nat.log2_lt z).mpr h
theorem szd {z : Int} (p : 0 < z) (h : z < 2 ^ 250) : Szd z := ⟨p, Nat.lt_trans (log_lt (k := 250) (by omega) (by decide)) (by decide)⟩
theorem cut_mid {vs : List V} {a b : Nat} (h : a ≤ b) (hb : b ≤ vs.length) : cutV vs (some (a : Int)) (some (b : Int)) = (vs.drop a).take (b - a) := by
  unfold cutV
  rw [HT.sIx_nat, HT.sIx_nat, Nat.min_eq_left hb, Nat.min_eq_left (show a ≤ vs.length by omega)]
def spGrid (K : PySem.W.Frag) : Sp := fun vs H Q _ => ∃ (l : Addr) (ns : List Int) (sp m n : Nat) (st sh : Int), vs = [.ref l, .int (sp : Int), .int (m : Int), .int (n : Int), .int st, .int sh] ∧ SqL K H l (ns.map V.int) ∧ 0 < m ∧ m ≤ 8 ∧ 0 < n ∧ n ≤ 8 ∧ 0 ≤ st ∧ st < 8 ∧ 0 ≤ sh ∧ sh ≤ 8 ∧
  ∀ (ra : Addr) (es : List V) (R : Rw) (H' : Hp), Same H H' → GK H H' ra es R → H ra = none → Gt R → R.length = m → wd R = n → PB R → Q (.ref ra) H'
abbrev slGrid : Stmt := top 54
section
variable {P : Program} {w : World} {K : PySem.W.Frag} {mg : Str → Option Value} {base : Heap} {f : Addr} {fd : FuncData}
theorem sclGrid : FnScope ["_law_script", "_law_spot", "_law_m", "_law_n", "_law_style", "_law_share", "_law_spread", "_law_sizes", "_law_drawn", "_law_high", "_law_wide", "_law_grid_here", "_law_i", "_law_row", "_law_j", "_law_number", "_law_price"] ["_law_script", "_law_spot", "_law_m", "_law_n", "_law_style", "_law_share"] (defScope slGrid) := ⟨rfl, rfl, rfl, by decide +kernel, rfl, by decide +kernel, by decide +kernel⟩
theorem ok_grid (F : Fun K "_law_grid" "_law_grid" slGrid f fd) (T : Bt mg) (DD : Df P w K mg base CX0 "_law_draws" 2 ["_law_script", "_law_spot", "_law_sizes"] (spDraws K)) : FnOk P w K mg base CX0 3 f fd ["_law_script", "_law_spot", "_law_m", "_law_n", "_law_style", "_law_share"] (spGrid K) := by
  refine F.ok sclGrid (fun vs H Q E h => ?_) (fun cdv A outer s H vs Q E hr h => ?_)
  · obtain ⟨l, ns, sp, m, n, st, sh, rfl, _⟩ := h
    rfl
  · obtain ⟨l, ns, sp, m, n, st, sh, rfl, hl, m0, m8, n0, n8, st0, st8, sh0, sh8, kk⟩ := h
    refine ⟨_, (pss_cons (ps_set (i := 6) sclGrid.nd rfl (Or.inl rfl) (pe_ix ix_list (pe_lst (pa_cons pe_int (pa_cons pe_int (pa_cons pe_int (pa_cons (pe_op op_pow pe_int pe_int) pa_nil))))) (pe_op op_mod (pv 4) pe_int) (fun _ _ => rfl)))
  (C8.pss_cut (ps_if (pt_cmpR op_eq (pv 4) pe_int (nomark _)) (pss_one (ps_set (i := 6) sclGrid.nd rfl (Or.inl rfl) (pe_op op_pow pe_int pe_int))) pss_nil)
  (pss_cons (ps_set (i := 7) sclGrid.nd rfl (Or.inl rfl) (pe_op op_cat (pe_op op_rep (pe_lst (pa_cons (pe_op op_mul pe_int (pv 6)) pa_nil)) (pe_op op_mul (pv 2) (pv 3))) (pe_op op_rep (pe_lst (pa_cons (pv 6) pa_nil)) (pe_op op_add (pv 2) (pv 3)))))
  (pss_cons (ps_set (i := 8) sclGrid.nd rfl (Or.inl rfl) (pe_df DD hr (by decide) (pa_cons (pv 0) (pa_cons (pv 1) (pa_cons (pv 7) pa_nil)))))
  (pss_cons (ps_set (i := 9) sclGrid.nd rfl (Or.inl rfl) (pe_slice sl_list (pv 8) (po_some (pe_op op_mul (pv 2) (pv 3))) (po_some (pe_op op_add (pe_op op_mul (pv 2) (pv 3)) (pv 2)))))
  (pss_cons (ps_set (i := 10) sclGrid.nd rfl (Or.inl rfl) (pe_slice sl_list (pv 8) (po_some (pe_op op_add (pe_op op_mul (pv 2) (pv 3)) (pv 2))) po_none))
  (pss_cons (ps_set (i := 11) sclGrid.nd rfl (Or.inl rfl) (pe_lst pa_nil))
  (pss_cons (ps_for PassesOwn.never rfl (pi_range1 rfl T.range (pa_cons (pv 2) pa_nil)) (pg_name (i := 12) sclGrid.nd rfl (Or.inl rfl)) (pss_cons (ps_set (i := 13) sclGrid.nd rfl (Or.inl rfl) (pe_lst pa_nil))
  (pss_cons (ps_for PassesOwn.never rfl (pi_range1 rfl T.range (pa_cons (pv 3) pa_nil)) (pg_name (i := 14) sclGrid.nd rfl (Or.inl rfl)) (pss_cons (ps_set (i := 15) sclGrid.nd rfl (Or.inl rfl) (pe_ix ix_list (pv 8) (pe_op op_add (pe_op op_mul (pv 12) (pv 3)) (pv 14)) (fun _ _ => rfl)))
  (pss_cons (ps_set (i := 16) sclGrid.nd rfl (Or.inl rfl) (pe_op op_sub (pe_op op_fdiv (pv 15) pe_int) (pe_op op_fdiv (pv 6) pe_int)))
  (C8.pss_cut (ps_if (pt_cmpR op_ge (pv 4) pe_int (nomark _)) (pss_one (ps_set (i := 16) sclGrid.nd rfl (Or.inl rfl) (pe_op op_sub (pe_op op_add (pe_ix ix_list (pv 9) (pv 12) (fun _ _ => rfl)) (pe_op op_mul pe_int (pe_ix ix_list (pv 10) (pv 14) (fun _ _ => rfl)))) (pe_op op_mulW (pe_ix ix_list (pv 9) (pv 12) (fun _ _ => rfl)) (pe_ix ix_list (pv 10) (pv 14) (fun _ _ => rfl)))))) pss_nil)
  (C8.pss_cut (ps_if (PW.pt (pw_and (pt_cmpR op_gt (pv 5) pe_int (nomark _)) (pw_and1 (pt_cmpR op_eq (pe_op op_mod (pe_callTy cl_int (by rfl) T.int (by decide +kernel) (pa_cons (pv 15) pa_nil)) (pe_callB (call_max2 rfl) (by rfl) T.max (by decide +kernel) (pa_cons pe_int (pa_cons (pv 5) pa_nil)))) pe_int (nomark _))))) (pss_one (ps_set (i := 16) sclGrid.nd rfl (Or.inl rfl) pe_non)) pss_nil)
  (pss_one (ps_expr (pe_bm PySem.F.plainAttrs_list PySem.F.slot_list_append PySem.F.type_list_append mt_append (pv 13) (pa_cons (pv 16) pa_nil)))))))))
  (pss_one (ps_expr (pe_bm PySem.F.plainAttrs_list PySem.F.slot_list_append PySem.F.type_list_append mt_append (pv 11) (pa_cons (pv 13) pa_nil)))))))
  (pss_one (ps_ret (pv 11))))))))))), ?_⟩
    walk_at "rd"
    refine ⟨by show 4 ≤ sizeLine; decide, fun q1 n1 => ?_⟩
    have s1 := Same.up (o := .lst [V.int 3, V.int 8, V.int 1000, V.int (10 ^ 59)]) (Same.refl H) n1
    have hq1 : upd H q1 (.lst [V.int 3, V.int 8, V.int 1000, V.int (10 ^ 59)]) q1 = some (.lst [V.int 3, V.int 8, V.int 1000, V.int (10 ^ 59)]) := upd_same
    obtain ⟨H1, eH1⟩ : ∃ H1, H1 = upd H q1 (.lst [V.int 3, V.int 8, V.int 1000, V.int (10 ^ 59)]) := ⟨_, rfl⟩
    rw [show (10 : Int) ^ ((59 : Int)).toNat = 10 ^ 59 from rfl, ← eH1]
    rw [← eH1] at s1 hq1
    walk_at "rd"
    obtain ⟨S0, eS, S0p, S0l⟩ : ∃ S0 : Int, [V.int 3, V.int 8, V.int 1000, V.int (10 ^ 59)][(st % 4).toNat]? = some (.int S0) ∧ 0 < S0 ∧ S0 ≤ 10 ^ 59 := by
      have : (st % 4).toNat < 4 := by omega
      match (st % 4).toNat, this with
      | 0, _ => exact ⟨3, rfl, by decide, by decide⟩
      | 1, _ => exact ⟨8, rfl, by decide, by decide⟩
      | 2, _ => exact ⟨1000, rfl, by decide, by decide⟩
      | 3, _ => exact ⟨10 ^ 59, rfl, by decide, by decide⟩
    have e4 : st % 4 = (((st % 4).toNat : Nat) : Int) := by omega
    rw [e4]
    refine r_ixL (SqL.of hq1) (atI_nat eS) ?_
    walk_at "rd"
    refine r_cut (fun σ' H' => ∃ S : Int, 0 < S ∧ S ≤ 10 ^ 59 ∧ σ' = [some (.ref l), some (.int (sp : Int)), some (.int (m : Int)), some (.int (n : Int)), some (.int st), some (.int sh), some (.int S), none, none, none, none, none, none, none, none, none, none] ∧ H1 = H') ?_ ?_
    · walk_at "rd"
      refine r_eq rfl ?_
      walk_at "rd"
      refine ite_dec (fun _ => ?_) (fun _ => ?_)
      · walk_at "rd"
        exact ⟨10 ^ 29, by decide, by decide, rfl, rfl⟩
      · exact ⟨S0, S0p, S0l, rfl, rfl⟩
    · rintro σ' H1' ⟨S, Sp, Sl, rfl, rfl⟩
      have mn8 : m * n ≤ 8 * 8 := Nat.mul_le_mul m8 n8
      have emn : (m : Int) * (n : Int) = ((m * n : Nat) : Int) := (Int.natCast_mul m n).symm
      obtain ⟨mn, hmn⟩ : ∃ mn, mn = m * n := ⟨_, rfl⟩
      walk_at "rd"
      refine ⟨by show 1 ≤ sizeLine; decide, fun q2 n2 => ?_⟩
      have s2 := s1.trans (Same.up (o := .lst [V.int (18 * S)]) (Same.refl H1) n2)
      have hq2 : upd H1 q2 (.lst [V.int (18 * S)]) q2 = some (.lst [V.int (18 * S)]) := upd_same
      obtain ⟨H2, eH2⟩ : ∃ H2, H2 = upd H1 q2 (.lst [V.int (18 * S)]) := ⟨_, rfl⟩
      rw [← eH2] at s2 hq2 ⊢
      walk_at "rd"
      refine r_mulL (by omega) (by omega) ?_
      rw [emn, ← hmn]
      rw [← hmn] at mn8
      refine ⟨q2, _, _, rfl, rfl, hq2, by omega, by omega, Nat.le_trans (show 1 * ((mn : Nat) : Int).toNat ≤ 64 by omega) (by decide), fun q3 n3 => ?_⟩
      rw [List.flatten_replicate_singleton, Int.toNat_natCast]
      have s3 := s2.trans (Same.up (o := .lst (List.replicate mn (V.int (18 * S)))) (Same.refl H2) n3)
      have hq3 : upd H2 q3 (.lst (List.replicate mn (V.int (18 * S)))) q3 = some (.lst (List.replicate mn (V.int (18 * S)))) := upd_same
      obtain ⟨H3, eH3⟩ : ∃ H3, H3 = upd H2 q3 (.lst (List.replicate mn (V.int (18 * S)))) := ⟨_, rfl⟩
      rw [← eH3] at s3 hq3 ⊢
      walk_at "rd"
      refine ⟨by show 1 ≤ sizeLine; decide, fun q4 n4 => ?_⟩
      have s4 := s3.trans (Same.up (o := .lst [V.int S]) (Same.refl H3) n4)
      have hq34 := Same.up (o := .lst [V.int S]) (Same.refl H3) n4 _ _ hq3
      have hq4 : upd H3 q4 (.lst [V.int S]) q4 = some (.lst [V.int S]) := upd_same
      obtain ⟨H4, eH4⟩ : ∃ H4, H4 = upd H3 q4 (.lst [V.int S]) := ⟨_, rfl⟩
      rw [← eH4] at s4 hq34 hq4 ⊢
      walk_at "rd"
      refine ⟨q4, _, _, rfl, rfl, hq4, by omega, by omega, Nat.le_trans (show 1 * ((m : Int) + (n : Int)).toNat ≤ 64 by omega) (by decide), fun q5 n5 => ?_⟩
      rw [List.flatten_replicate_singleton, show ((m : Int) + (n : Int)).toNat = m + n by omega]
      have s5 := s4.trans (Same.up (o := .lst (List.replicate (m + n) (V.int S))) (Same.refl H4) n5)
      have hq35 := Same.up (o := .lst (List.replicate (m + n) (V.int S))) (Same.refl H4) n5 _ _ hq34
      have hq5 : upd H4 q5 (.lst (List.replicate (m + n) (V.int S))) q5 = some (.lst (List.replicate (m + n) (V.int S))) := upd_same
      obtain ⟨H5, eH5⟩ : ∃ H5, H5 = upd H4 q5 (.lst (List.replicate (m + n) (V.int S))) := ⟨_, rfl⟩
      rw [← eH5] at s5 hq35 hq5 ⊢
      refine r_cat hq35 hq5 (Nat.le_trans (show _ ≤ 128 by rw [List.length_replicate, List.length_replicate]; omega) (by decide)) fun q6 n6 => ?_
      obtain ⟨zs, ezs⟩ : ∃ zs : List Int, zs = List.replicate mn (18 * S) ++ List.replicate (m + n) S := ⟨_, rfl⟩
      have ezv : List.replicate mn (V.int (18 * S)) ++ List.replicate (m + n) (V.int S) = zs.map V.int := by rw [ezs, List.map_append, List.map_replicate, List.map_replicate]
      rw [ezv]
      have zl : zs.length = mn + (m + n) := by rw [ezs, List.length_append, List.length_replicate, List.length_replicate]
      have zz : ∀ z, z ∈ zs → Szd z := fun z hz => by
        rw [ezs] at hz
        rcases List.mem_append.mp hz with hz | hz
        · rw [(List.mem_replicate.mp hz).2]; exact szd (by omega) (by omega)
        · rw [(List.mem_replicate.mp hz).2]; exact szd (by omega) (by omega)
      have s6 := s5.trans (Same.up (o := .lst (zs.map V.int)) (Same.refl H5) n6)
      have hq6 : upd H5 q6 (.lst (zs.map V.int)) q6 = some (.lst (zs.map V.int)) := upd_same
      obtain ⟨H6, eH6⟩ : ∃ H6, H6 = upd H5 q6 (.lst (zs.map V.int)) := ⟨_, rfl⟩
      rw [← eH6] at s6 hq6 ⊢
      walk_at "rd"
      refine ⟨l, q6, ns, zs, sp, rfl, s6.seq hl, hq6, zz, by omega, fun r H7 s7' nr hr7 => ?_⟩
      have s7 := s6.trans s7'
      obtain ⟨ds, eds⟩ : ∃ ds, ds = drawsF ns sp zs := ⟨_, rfl⟩
      rw [← eds] at hr7
      have dl : ds.length = mn + (m + n) := by rw [eds, drawsF_len, zl]
      have pos : ∀ z, z ∈ zs → 0 < z := fun z hz => (zz z hz).1
      have dlow : ∀ a : Nat, a < mn → ∃ d, ds[a]? = some d ∧ 0 ≤ d ∧ d < 18 * S := fun a ha => by
        rw [eds]
        exact drawsF_get pos (by rw [ezs, List.getElem?_append_left (by rw [List.length_replicate]; exact ha), List.getElem?_replicate, if_pos ha])
      have dhigh : ∀ a : Nat, a < m + n → ∃ d, ds[mn + a]? = some d ∧ 0 ≤ d ∧ d < S := fun a ha => by
        rw [eds]
        exact drawsF_get pos (by rw [ezs, List.getElem?_append_right (by rw [List.length_replicate]; omega), List.length_replicate, List.getElem?_replicate, if_pos (by omega)])
      have dvl : (ds.map V.int).length = mn + (m + n) := by rw [List.length_map, dl]
      walk_at "rd"
      refine r_mulL (by omega) (by omega) ?_
      walk_at "rd"
      refine r_mulL (by omega) (by omega) ?_
      walk_at "rd"
      rw [emn, ← hmn]
      refine ⟨r, ds.map V.int, rfl, SqL.of hr7, fun q8 n8 => ?_⟩
      rw [show ((mn : Int) + (m : Int)) = ((mn + m : Nat) : Int) from rfl, cut_mid (by omega) (by omega)]
      have s8' := Same.up (o := .lst (((ds.map V.int).drop mn).take (mn + m - mn))) (Same.refl H7) n8
      have s8 := s7.trans s8'
      have hr8 := s8' _ _ hr7
      have hq8 : upd H7 q8 (.lst (((ds.map V.int).drop mn).take (mn + m - mn))) q8 = some (.lst (((ds.map V.int).drop mn).take (mn + m - mn))) := upd_same
      obtain ⟨hv, ehv⟩ : ∃ hv, hv = ((ds.map V.int).drop mn).take (mn + m - mn) := ⟨_, rfl⟩
      rw [← ehv] at s8 s8' hr8 hq8 ⊢
      obtain ⟨H8, eH8⟩ : ∃ H8, H8 = upd H7 q8 (.lst hv) := ⟨_, rfl⟩
      rw [← eH8] at s8 s8' hr8 hq8 ⊢
      have hvg : ∀ i : Nat, i < m → ∃ d, hv[i]? = some (.int d) ∧ 0 ≤ d ∧ d < S := fun i hi => by
        obtain ⟨d, e, q⟩ := dhigh i (by omega)
        exact ⟨d, by rw [ehv, List.getElem?_take, if_pos (by omega), List.getElem?_drop, List.getElem?_map, e]; rfl, q⟩
      walk_at "rd"
      refine r_mulL (by omega) (by omega) ?_
      walk_at "rd"
      rw [emn, ← hmn]
      refine ⟨r, ds.map V.int, rfl, SqL.of hr8, fun q9 n9 => ?_⟩
      rw [show ((mn : Int) + (m : Int)) = ((mn + m : Nat) : Int) from rfl, cutDrop (by omega)]
      have s9' := Same.up (o := .lst ((ds.map V.int).drop (mn + m))) (Same.refl H8) n9
      have s9 := s8.trans s9'
      have hr9 := s9' _ _ hr8
      have hq89 := s9' _ _ hq8
      have hq9 : upd H8 q9 (.lst ((ds.map V.int).drop (mn + m))) q9 = some (.lst ((ds.map V.int).drop (mn + m))) := upd_same
      obtain ⟨wv, ewv⟩ : ∃ wv, wv = (ds.map V.int).drop (mn + m) := ⟨_, rfl⟩
      rw [← ewv] at s9 s9' hr9 hq9 hq89 ⊢
      obtain ⟨H9, eH9⟩ : ∃ H9, H9 = upd H8 q9 (.lst wv) := ⟨_, rfl⟩
      rw [← eH9] at s9 s9' hr9 hq9 hq89 ⊢
      have wvg : ∀ j : Nat, j < n → ∃ d, wv[j]? = some (.int d) ∧ 0 ≤ d ∧ d < S := fun j hj => by
        obtain ⟨d, e, q⟩ := dhigh (m + j) (by omega)
        exact ⟨d, by rw [ewv, List.getElem?_drop, List.getElem?_map, Nat.add_assoc, e]; rfl, q⟩
      walk_at "rd"
      refine ⟨Nat.zero_le _, fun L nL => ?_⟩
      have sL := Same.up (o := .lst []) (Same.refl H9) nL
      have hL0 : upd H9 L (.lst []) L = some (.lst []) := upd_same
      obtain ⟨H10, eH10⟩ : ∃ H10, H10 = upd H9 L (.lst []) := ⟨_, rfl⟩
      rw [← eH10] at sL hL0 ⊢
      walk_at "rd"
      refine ⟨(m : Int), rfl, by omega, by omega, for_it walk_range (fun i σ H' => ∃ (es : List V) (R : Rw) (v12 v13 v14 v15 v16 : Option V), σ = [some (.ref l), some (.int (sp : Int)), some (.int (m : Int)), some (.int (n : Int)), some (.int st), some (.int sh), some (.int S), some (.ref q6), some (.ref r), some (.ref q8), some (.ref q9), some (.ref L), v12, v13, v14, v15, v16] ∧ Same H9 H' ∧ GK H9 H' L es R ∧ R.length = i ∧ (∀ r, r ∈ R → r.length = n) ∧ PB R)
        ⟨[], [], _, _, _, _, _, rfl, sL, ⟨hL0, rfl, fun i v e => by simp at e⟩, rfl, (fun r hr => by cases hr), (fun r hr => by cases hr)⟩ (fun _ _ _ _ _ => trivial) ?_ ?_⟩
      · rintro i y σ H20 H11 hi ⟨es, R, v12, v13, v14, v15, v16, rfl, s11, g11, Rl, Rn, Rb⟩ ⟨rfl, rfl⟩
        have hi : i < m := by simpa using hi
        have e0 : (0 : Int) + (i : Int) = (i : Int) := by omega
        simp only [e0]
        walk_at "rd"
        refine ⟨Nat.zero_le _, fun rw0 nr0 => ?_⟩
        have nr9 := s11.free nr0
        have rL : rw0 ≠ L := fun z => by rw [z, g11.at_] at nr0; cases nr0
        have rE : ∀ (j : Nat) (v : V), es[j]? = some v → v ≠ .ref rw0 := fun j v e z => by
          obtain ⟨a', e1, _, _, h⟩ := g11.row j v e
          rw [e1] at z
          cases z
          rw [h] at nr0
          cases nr0
        have sr := Same.up (o := .lst []) (Same.refl H11) nr0
        have g12 := g11.same sr
        have hr12 : upd H11 rw0 (.lst []) rw0 = some (.lst []) := upd_same
        have s12 := s11.trans sr
        obtain ⟨H12, eH12⟩ : ∃ H12, H12 = upd H11 rw0 (.lst []) := ⟨_, rfl⟩
        rw [← eH12] at g12 hr12 s12 ⊢
        have il := g11.len
        walk_at "rd"
        refine ⟨(n : Int), rfl, by omega, by omega, for_it walk_range (fun j σ H' => ∃ (cur : List (Option Int)) (v14 v15 v16 : Option V), σ = [some (.ref l), some (.int (sp : Int)), some (.int (m : Int)), some (.int (n : Int)), some (.int st), some (.int sh), some (.int S), some (.ref q6), some (.ref r), some (.ref q8), some (.ref q9), some (.ref L), some (.int (i : Int)), some (.ref rw0), v14, v15, v16] ∧ Same H9 H' ∧ GK H9 H' L es R ∧ H' rw0 = some (.lst (cur.map pV)) ∧ cur.length = j ∧ ∀ x : Int, some x ∈ cur → -(10 ^ 120) < x ∧ x < 10 ^ 120)
          ⟨[], _, _, _, rfl, s12, g12, hr12, rfl, fun x hx => by cases hx⟩ (fun _ _ _ _ _ => trivial) ?_ ?_⟩
        · rintro j y σ H30 H13 hj ⟨cur, v14, v15, v16, rfl, s13, g13, hc, cl, cb⟩ ⟨rfl, rfl⟩
          have hj : j < n := by simpa using hj
          have e0 : (0 : Int) + (j : Int) = (j : Int) := by omega
          simp only [e0]
          have hij : i * n + j < mn := by
            have h1 : (i + 1) * n ≤ m * n := Nat.mul_le_mul_right n hi
            rw [Nat.succ_mul] at h1
            omega
          have ein : (i : Int) * (n : Int) + (j : Int) = ((i * n + j : Nat) : Int) := by rw [Int.natCast_add, Int.natCast_mul]
          obtain ⟨x, ex, x0, x1⟩ := dlow _ hij
          obtain ⟨hh, eh, hh0, hh1⟩ := hvg i hi
          obtain ⟨ww, ew, ww0, ww1⟩ := wvg j hj
          walk_at "rd"
          refine r_mulL (by omega) (by omega) ?_
          walk_at "rd"
          rw [ein]
          refine r_ixL (SqL.of (s13 _ _ hr9)) (atI_nat (v := .int x) (by rw [List.getElem?_map, ex]; rfl)) ?_
          walk_at "rd"
          refine r_cut (fun σ' H' => ∃ pr : Int, σ' = [some (.ref l), some (.int (sp : Int)), some (.int (m : Int)), some (.int (n : Int)), some (.int st), some (.int sh), some (.int S), some (.ref q6), some (.ref r), some (.ref q8), some (.ref q9), some (.ref L), some (.int (i : Int)), some (.ref rw0), some (.int (j : Int)), some (.int x), some (.int pr)] ∧ H13 = H' ∧ -(10 ^ 120) < pr ∧ pr < 10 ^ 120) ?_ ?_
          · walk_at "rd"
            by_cases c4 : st ≥ 4
            · refine ifT (decide_eq_true c4) ?_
              walk_at "rd"
              refine r_ixL (SqL.of (s13 _ _ hq89)) (atI_nat eh) ?_
              walk_at "rd"
              refine r_ixL (SqL.of (s13 _ _ hq9)) (atI_nat ew) ?_
              walk_at "rd"
              refine r_ixL (SqL.of (s13 _ _ hq89)) (atI_nat eh) ?_
              walk_at "rd"
              refine r_ixL (SqL.of (s13 _ _ hq9)) (atI_nat ew) ?_
              refine r_I (show hh.natAbs.log2 + ww.natAbs.log2 < 1000000 from ?_) ?_
              · have a1 := log_lt (n := hh) (k := 250) (by omega) (by decide)
                have a2 := log_lt (n := ww) (k := 250) (by omega) (by decide)
                omega
              walk_at "rd"
              exact ⟨_, rfl, rfl, grid_big Sl hh0 hh1 ww0 ww1⟩
            · refine ifF (decide_eq_false c4) ?_
              exact ⟨_, rfl, rfl, by omega, by omega⟩
          · rintro σ' H14 ⟨pr, rfl, rfl, pr0, pr1⟩
            walk_at "rd"
            refine r_cut (fun σ' H' => ∃ z : Option Int, σ' = [some (.ref l), some (.int (sp : Int)), some (.int (m : Int)), some (.int (n : Int)), some (.int st), some (.int sh), some (.int S), some (.ref q6), some (.ref r), some (.ref q8), some (.ref q9), some (.ref L), some (.int (i : Int)), some (.ref rw0), some (.int (j : Int)), some (.int x), some (pV z)] ∧ H13 = H' ∧ ∀ y : Int, z = some y → -(10 ^ 120) < y ∧ y < 10 ^ 120) ?_ ?_
            · walk_at "rd"
              have keep : ∀ y : Int, some pr = some y → -(10 ^ 120) < y ∧ y < 10 ^ 120 := fun y e => by cases e; exact ⟨pr0, pr1⟩
              by_cases cs : sh > 0
              · refine ifT (decide_eq_true cs) ?_
                walk_at "rd"
                refine ⟨_, _, rfl, ?_⟩
                refine r_mod (by split <;> omega) ?_
                walk_at "rd"
                refine r_eq rfl ?_
                walk_at "rd"
                refine ite_dec (fun _ => ?_) (fun _ => ?_)
                · walk_at "rd"
                  exact ⟨none, rfl, rfl, fun y e => by cases e⟩
                · exact ⟨some pr, rfl, rfl, keep⟩
              · refine ifF (decide_eq_false cs) ?_
                exact ⟨some pr, rfl, rfl, keep⟩
            · rintro σ' H15 ⟨z, rfl, rfl, zb⟩
              walk_at "rd"
              refine r_bm ?_
              walk_at "rd"
              refine ⟨.inl ⟨rfl, _, SqL.of hc⟩, ?_⟩
              walk_at "rd"
              refine ⟨rw0, _, _, rfl, rfl, hc, by rw [List.length_map, cl]; exact Nat.lt_of_lt_of_le (show j < 9 by omega) (by decide), ?_⟩
              refine ⟨cur ++ [z], some (.int (j : Int)), some (.int x), some (pV z), rfl, fun c o e => ?_, g13.put (Ne.symm rL) rE, by rw [upd_same, List.map_append]; rfl, by rw [List.length_append, cl]; rfl, fun y hy => ?_⟩
              · rw [upd_ne (fun z => by rw [z, nr9] at e; cases e)]
                exact s13 _ _ e
              · rcases List.mem_append.mp hy with h | h
                · exact cb y h
                · rw [List.mem_singleton] at h
                  exact zb y h.symm
        · rintro σ H13 ⟨cur, v14, v15, v16, rfl, s13, g13, hc, cl, cb⟩
          have cl : cur.length = n := by rw [cl]; omega
          walk_at "rd"
          refine r_bm ?_
          walk_at "rd"
          refine ⟨.inl ⟨rfl, _, SqL.of g13.at_⟩, ?_⟩
          walk_at "rd"
          refine ⟨L, _, _, rfl, rfl, g13.at_, by rw [g13.len, Rl]; exact Nat.lt_of_lt_of_le (show i < 9 by omega) (by decide), ?_⟩
          refine ⟨es ++ [.ref rw0], R ++ [cur], some (.int (i : Int)), some (.ref rw0), v14, v15, v16, rfl, fun c o e => ?_, g13.more rL nr9 hc, by rw [List.length_append, Rl]; rfl, fun r hr => ?_, fun r hr => ?_⟩
          · rw [upd_ne (fun z => by rw [z, nL] at e; cases e)]
            exact s13 _ _ e
          · rcases List.mem_append.mp hr with h | h
            · exact Rn r h
            · rw [List.mem_singleton] at h
              rw [h, cl]
          · rcases List.mem_append.mp hr with h | h
            · exact Rb r h
            · rw [List.mem_singleton] at h
              rw [h]
              exact cb
      · rintro σ H11 ⟨es, R, v12, v13, v14, v15, v16, rfl, s11, g11, Rl, Rn, Rb⟩
        have Rl : R.length = m := by rw [Rl]; omega
        walk_at "rd"
        have wR : wd R = n := by
          cases R with
          | nil => rw [List.length_nil] at Rl; omega
          | cons r R => exact Rn r List.mem_cons_self
        exact kk L es R H11 (s9.trans s11) ⟨g11.at_, g11.len, fun i v e => by
          obtain ⟨a, e1, n1, n2, h⟩ := g11.row i v e
          exact ⟨a, e1, n1, s9.free n2, h⟩⟩ (s9.free nL) ⟨by omega, by omega, by omega, by omega, fun r hr => by rw [wR]; exact Rn r hr⟩ Rl wR Rb
end
end Pk
set_option Elab.async false
set_option linter.all false
set_option maxRecDepth 100000
set_option maxHeartbeats 4000000
namespace Pk
open PySem L2
local macro_rules | `(tactic| walk_at "rd") => `(tactic| repeat (first
  | with_reducible refine r_seq ?_ | with_reducible refine r_nxt ?_ | with_reducible refine r_asg ?_ | with_reducible refine r_to ?_ | with_reducible refine r_ret ?_ | with_reducible refine r_for ?_ | with_reducible refine r_lc ?_ | with_reducible refine r_lc2 ?_ | with_reducible refine r_rng1 ?_ | with_reducible refine r_list ?_ | with_reducible refine r_tupI ?_ | with_reducible refine r_drop ?_ | with_reducible refine r_ifs ?_
  | with_reducible refine r_op ?_ | with_reducible refine r_c ?_ | with_reducible refine r_var rfl ?_ | with_reducible refine r_var (by assumption) ?_ | with_reducible refine r_I0 ?_ | with_reducible refine r_un ?_ | with_reducible refine r_U ?_ | with_reducible refine r_make ?_ | with_reducible refine r_makeS ?_ | with_reducible refine r_ifE ?_ | with_reducible refine r_cm ?_ | with_reducible refine r_mkV rfl ?_ | with_reducible refine r_sub ?_
  | with_reducible refine r_nil ?_ | with_reducible refine r_cons ?_ | with_reducible refine r_cb ?_ | with_reducible refine r_sl ?_ | with_reducible refine r_noP ?_ | with_reducible refine r_part ?_ | with_reducible refine r_isI ?_ | with_reducible refine r_lst ?_ | with_reducible refine r_tup ?_ | with_reducible refine r_call ?_ | with_reducible refine r_callS ?_ | with_reducible refine r_sFldU ?_ | with_reducible refine r_chain ?_ | with_reducible refine r_enum ?_ | with_reducible refine r_zip ?_ | with_reducible refine r_rng3 ?_ | with_reducible refine r_gtup ?_ | with_reducible refine r_methU ?_
  | with_reducible refine r_test ?_ | with_reducible refine r_B ?_ | with_reducible refine r_and ?_ | with_reducible refine r_or ?_ | with_reducible refine r_not ?_ | with_reducible refine r_andV ?_ | with_reducible refine r_orV ?_ | with_reducible refine r_notV ?_ | with_reducible refine r_bl ?_ | with_reducible refine r_yes ?_ | with_reducible refine r_int ?_ | with_reducible refine r_is0 ?_ | with_reducible refine r_is1 ?_ | with_reducible refine iteT ?_ | with_reducible refine iteF ?_ | with_reducible refine ite_nF ?_ | with_reducible refine ite_nT ?_
  | with_reducible refine r_mod (by decide) ?_ | with_reducible refine r_div (by decide) (by decide) ?_ | with_reducible refine r_mulR (by decide) (by decide) ?_ | with_reducible refine r_mulL (by decide) (by decide) ?_ | with_reducible refine r_pow (by decide) (by decide) (by decide) ?_))
/-! ### the spots of a grid; things in a drawn sequence -/
def spSpots (K : PySem.W.Frag) : Sp := fun vs H Q _ => ∃ (p ra : Addr) (es : List V) (R : Rw), vs = [.ref ra] ∧ RS K H ra es R ∧ Gt R ∧ (∃ o, H p = some o) ∧
  ∀ (r : Addr) (us : List V) (H' : Hp), Same H H' → H r = none → H' r = some (.lst us) → PrsAt p H' us (cells R) → Q (.ref r) H'
abbrev slSpots : Stmt := top 55
section
variable {P : Program} {w : World} {K : PySem.W.Frag} {mg : Str → Option Value} {base : Heap} {f : Addr} {fd : FuncData}
theorem sclSpots : FnScope ["_law_grid_here", "_law_spots_here", "_law_i", "_law_row", "_law_j", "_law_price"] ["_law_grid_here"] (defScope slSpots) := ⟨rfl, rfl, rfl, by decide +kernel, rfl, by decide +kernel, by decide +kernel⟩
theorem ok_spots (F : Fun K "_law_spots" "_law_spots" slSpots f fd) (T : Bt mg) : FnOk P w K mg base CX0 1 f fd ["_law_grid_here"] (spSpots K) := by
  refine F.ok sclSpots (fun vs H Q E h => ?_) (fun cdv A outer s H vs Q E hr h => ?_)
  · obtain ⟨p, ra, es, R, rfl, _⟩ := h
    rfl
  · obtain ⟨p, ra, es, R, rfl, rs, g, ⟨op, hop⟩, kk⟩ := h
    have h8 := g.h8
    have w8 := g.w8
    have rl := rs.len
    refine ⟨_, (pss_cons (ps_set (i := 1) sclSpots.nd rfl (Or.inl rfl) (pe_lst pa_nil))
  (pss_cons (ps_for PassesOwn.never rfl (pi_enum (by rfl) T.enumerate (pa_cons (pv 0) pa_nil)) (pg_tup (by rfl) (pgs_cons (pg_name (i := 2) sclSpots.nd rfl (Or.inl rfl)) (pgs_cons (pg_name (i := 3) sclSpots.nd rfl (Or.inl rfl)) pgs_nil))) (pss_one (ps_for PassesOwn.never rfl (pi_enum (by rfl) T.enumerate (pa_cons (pv 3) pa_nil)) (pg_tup (by rfl) (pgs_cons (pg_name (i := 4) sclSpots.nd rfl (Or.inl rfl)) (pgs_cons (pg_name (i := 5) sclSpots.nd rfl (Or.inl rfl)) pgs_nil))) (pss_one (ps_if (pt_cmpR op_is1 (pv 5) pe_non (nomark _)) (pss_one (ps_expr (pe_bm PySem.F.plainAttrs_list PySem.F.slot_list_append PySem.F.type_list_append mt_append (pv 1) (pa_cons (pe_tup (pa_cons (pv 2) (pa_cons (pv 4) pa_nil))) pa_nil)))) pss_nil)))))
  (pss_one (ps_ret (pv 1))))), ?_⟩
    walk_at "rd"
    refine ⟨Nat.zero_le _, fun D nD => ?_⟩
    have s1 := Same.up (o := .lst []) (Same.refl H) nD
    have hD1 : upd H D (.lst []) D = some (.lst []) := upd_same
    obtain ⟨H1, eH1⟩ : ∃ H1, H1 = upd H D (.lst []) := ⟨_, rfl⟩
    rw [← eH1] at s1 hD1 ⊢
    walk_at "rd"
    refine ⟨ra, es, rfl, (rs.same s1).at_, for_it walk_enum (fun m σ H' => ∃ v2 v3 v4 v5 us, σ = [some (.ref ra), some (.ref D), v2, v3, v4, v5] ∧ Same H H' ∧ H' D = some (.lst us) ∧ PrsAt p H' us (cpre R m)) ⟨_, _, _, _, [], rfl, s1, hD1, .nil⟩ (fun m σ H' _ z => by obtain ⟨_, _, _, _, _, _, z, _⟩ := z; exact (rs.same z).at_) ?_ ?_⟩
    · rintro i y σ H2 H3 hi ⟨v2, v3, v4, v5, us, rfl, s2, hD2, hu⟩ ⟨t, i', y', rfl, ht, rfl, e1, e2⟩
      cases (Option.some.inj e1)
      have e2 : es[i]? = some y' := e2
      obtain ⟨b, rfl, hb⟩ := rs.row i _ e2
      have hi' : i < R.length := by rw [← rl]; exact (List.getElem?_eq_some_iff.mp e2).1
      have cl := cpre_len R i
      have sz := Nat.mul_le_mul (show i ≤ 8 by omega) w8
      refine r_gtup ⟨t, _, rfl, SqT.of upd_same, rfl, _, _, rfl, ?_⟩
      have s3' := Same.up (o := .tup [V.int (i : Int), V.ref b]) (Same.refl H2) ht
      have s3 := s2.trans s3'
      have hD3 := s3' _ _ hD2
      have hu3 := hu.keep (Keep.same s3')
      obtain ⟨H3, eH3⟩ : ∃ H3, H3 = upd H2 t (.tup [V.int (i : Int), V.ref b]) := ⟨_, rfl⟩
      rw [← eH3] at s3 hD3 hu3 ⊢
      walk_at "rd"
      refine ⟨_, _, rfl, ?_⟩
      walk_at "rd"
      refine ⟨rfl, ?_⟩
      walk_at "rd"
      have rowl : ((R.getD i []).map pV).length = wd R := by rw [List.length_map, g.getD hi', g.len hi']
      refine ⟨b, (R.getD i []).map pV, rfl, s3.seq hb, for_it walk_enum (fun m σ H' => ∃ v4 v5 us, σ = [some (.ref ra), some (.ref D), some (.int (i : Int)), some (.ref b), v4, v5] ∧ Same H H' ∧ H' D = some (.lst us) ∧ PrsAt p H' us (cpre R i ++ crow R i m)) ⟨_, _, us, rfl, s3, hD3, by rw [show crow R i 0 = [] from rfl, List.append_nil]; exact hu3⟩ (fun m σ H' _ z => by obtain ⟨_, _, _, _, z, _⟩ := z; exact z.seq hb) ?_ ?_⟩
      · rintro j y σ H4 H5 hj ⟨v4, v5, us4, rfl, s4, hD4, hu4⟩ ⟨t5, i5, y5, rfl, ht5, rfl, e3, e4⟩
        cases (Option.some.inj e3)
        have e4 : ((R.getD i []).map pV)[j]? = some y5 := e4
        have hj' : j < wd R := by rw [← rowl]; exact (List.getElem?_eq_some_iff.mp e4).1
        have ey : y5 = pV (prc R i j) := by
          have := prc_get g hi' hj'
          rw [this] at e4
          exact (Option.some.inj e4).symm
        subst ey
        refine r_gtup ⟨t5, _, rfl, SqT.of upd_same, rfl, _, _, rfl, ?_⟩
        have s5' := Same.up (o := .tup [V.int (j : Int), pV (prc R i j)]) (Same.refl H4) ht5
        have s5 := s4.trans s5'
        have hD5 := s5' _ _ hD4
        have hu5 := hu4.keep (Keep.same s5')
        obtain ⟨H5, eH5⟩ : ∃ H5, H5 = upd H4 t5 (.tup [V.int (j : Int), pV (prc R i j)]) := ⟨_, rfl⟩
        rw [← eH5] at s5 hD5 hu5 ⊢
        walk_at "rd"
        refine ⟨_, _, rfl, ?_⟩
        walk_at "rd"
        refine ⟨rfl, ?_⟩
        walk_at "rd"
        rw [pV_some]
        cases q : prc R i j with
        | none =>
          refine ifF rfl ?_
          refine ⟨some (.int (j : Int)), some (pV none), us4, rfl, s5, hD5, ?_⟩
          rw [crow_more, q, if_neg (by simp), List.append_nil]
          exact hu5
        | some x =>
          refine ifT rfl ?_
          walk_at "rd"
          refine r_bm ?_
          walk_at "rd"
          refine ⟨.inl ⟨rfl, _, SqL.of hD5⟩, ?_⟩
          walk_at "rd"
          refine ⟨by show 2 ≤ sizeLine; decide, fun t6 n6 => ?_⟩
          have s6' := Same.up (o := .tup [V.int (i : Int), V.int (j : Int)]) (Same.refl H5) n6
          have s6 := s5.trans s6'
          have hD6 := s6' _ _ hD5
          have hu6 := hu5.keep (Keep.same s6')
          have t6p : t6 ≠ p := fun z => by rw [z, s5 _ _ hop] at n6; cases n6
          have ht6 : upd H5 t6 (.tup [V.int (i : Int), V.int (j : Int)]) t6 = some (.tup [V.int (i : Int), V.int (j : Int)]) := upd_same
          obtain ⟨H6, eH6⟩ : ∃ H6, H6 = upd H5 t6 (.tup [V.int (i : Int), V.int (j : Int)]) := ⟨_, rfl⟩
          rw [← eH6] at s6 hD6 hu6 ht6 ⊢
          walk_at "rd"
          have ul := hu6.length
          have cr := crow_len R i j
          refine ⟨D, us4, _, rfl, rfl, hD6, Nat.lt_of_le_of_lt (show us4.length ≤ 128 by rw [ul, List.length_append]; omega) (by decide), ?_⟩
          have nt : ∀ c xs, H6 c = some (.tup xs) → upd H6 D (.lst (us4 ++ [V.ref t6])) c = some (.tup xs) := fun c xs e => by
            rw [upd_ne (fun z => by rw [z, hD6] at e; cases e)]
            exact e
          refine ⟨some (.int (j : Int)), some (pV (some x)), us4 ++ [.ref t6], rfl, fun c o e => ?_, upd_same, ?_⟩
          · rw [upd_ne (fun z => by rw [z, nD] at e; cases e)]
            exact s6 _ _ e
          · rw [crow_more, q, if_pos (show (some x).isSome = true from rfl), ← List.append_assoc]
            exact (hu6.mono nt).app (.cons ⟨t6, rfl, t6p, nt _ _ ht6⟩ .nil)
      · rintro σ H4 ⟨v4, v5, us4, rfl, s4, hD4, hu4⟩
        rw [rowl] at hu4
        exact ⟨_, _, v4, v5, us4, rfl, s4, hD4, by rw [cpre_more]; exact hu4⟩
    · rintro σ H2 ⟨v2, v3, v4, v5, us, rfl, s2, hD2, hu⟩
      rw [rl] at hu
      walk_at "rd"
      exact kk D us H2 s2 nD hD2 hu
end
/-! ### rows copied, their pairs -/
abbrev slLCpy : Stmt := top 56
section
variable {P : Program} {w : World} {K : PySem.W.Frag} {mg : Str → Option Value} {base : Heap} {C CE f : Addr} {fd : FuncData}
theorem sclLCpy : FnScope ["_law_grid_here", "_law_row"] ["_law_grid_here"] (defScope slLCpy) := ⟨rfl, rfl, rfl, by decide +kernel, rfl, by decide +kernel, by decide +kernel⟩
theorem ok_lCpy (F : Fun K "_law_copy" "_law_copy" slLCpy f fd) (T : Bt mg) : FnOk P w K mg base CX0 1 f fd ["_law_grid_here"] (spLCpy K) := by
  refine F.ok sclLCpy (fun vs H Q E h => ?_) (fun cdv A' outer s H vs Q E hr h => ?_)
  · obtain ⟨a, es, R, rfl, _⟩ := h
    rfl
  · obtain ⟨a, es, R, rfl, hl, g8, k⟩ := h
    refine ⟨_, (pss_one (ps_ret (pe_lc (own := [("_law_row", 1)]) (g := gName 1) rfl sclLCpy.nd (pi_list (pv 0)) (blkOk_by (own := [("_law_row", 1)]) (N := ["_law_grid_here", "_law_row"]) (sc := defScope slLCpy) (by decide +kernel)) (fun _ _ _ _ _ => pg_name (i := 1) sclLCpy.nd rfl (Or.inl rfl)) (fun _ _ _ _ _ => pts_nil) (fun _ _ _ _ _ => (pe_callTy (T := "list") (r := rLstOf K) cl_lst (by rfl) T.list (by decide +kernel) (pa_cons (pv 1) pa_nil)))))), ?_⟩
    walk_at "rd"
    refine ⟨a, rfl, ⟨_, hl.at_⟩, fun D nD => lc_it walk_list (fun i H' => Same H H' ∧ ∃ es, H' D = some (.lst es) ∧ es.length = i ∧ ∀ j v, es[j]? = some v → ∃ c, v = .ref c ∧ c ≠ D ∧ H c = none ∧ H' c = some (.lst ((R.getD j []).map pV))) ⟨Same.up (Same.refl H) nD, [], upd_same, rfl, fun j v e => by simp at e⟩ (fun i H2 _ z => z.1.seq hl.at_) ?_ ?_⟩
    · rintro i y H2 H3 hi ⟨s2, fs, hD, fl, fr⟩ ⟨rfl, e1⟩
      have hi' : i < R.length := by rw [← hl.len]; exact hi
      obtain ⟨b, rfl, hb⟩ := hl.row i y e1
      walk_at "rd"
      refine ⟨rfl, ?_⟩
      walk_at "rd"
      refine r_lstOf (s2.seq hb) fun c nc => ?_
      exact ⟨fs, later hD nc, by rw [fl]; exact Nat.lt_of_lt_of_le (show i < 9 by omega) (by decide), rl_more nD s2 hD fl fr nc⟩
    · rintro H2 ⟨s2, fs, hD, fl, fr⟩
      rw [hl.len] at fl
      exact k D fs H2 s2 nD ⟨hD, fl, fun i v e => by
        obtain ⟨c, e1, n1, n2, n3⟩ := fr i v e
        exact ⟨c, e1, n3⟩⟩ (fun i c e => by
        obtain ⟨c', e1, n1, n2, n3⟩ := fr i _ e
        cases e1
        exact ⟨n2, n1⟩)
end
end Pk
set_option Elab.async false
set_option linter.all false
set_option maxRecDepth 100000
set_option maxHeartbeats 4000000
namespace Pk
open PySem L2
local macro_rules | `(tactic| walk_at "rd") => `(tactic| repeat (first
  | with_reducible refine r_seq ?_ | with_reducible refine r_nxt ?_ | with_reducible refine r_asg ?_ | with_reducible refine r_to ?_ | with_reducible refine r_ret ?_ | with_reducible refine r_for ?_ | with_reducible refine r_lc ?_ | with_reducible refine r_lc2 ?_ | with_reducible refine r_rng1 ?_ | with_reducible refine r_list ?_ | with_reducible refine r_tupI ?_ | with_reducible refine r_drop ?_ | with_reducible refine r_ifs ?_
  | with_reducible refine r_op ?_ | with_reducible refine r_c ?_ | with_reducible refine r_var rfl ?_ | with_reducible refine r_var (by assumption) ?_ | with_reducible refine r_I0 ?_ | with_reducible refine r_un ?_ | with_reducible refine r_U ?_ | with_reducible refine r_make ?_ | with_reducible refine r_makeS ?_ | with_reducible refine r_ifE ?_ | with_reducible refine r_cm ?_ | with_reducible refine r_mkV rfl ?_ | with_reducible refine r_sub ?_
  | with_reducible refine r_nil ?_ | with_reducible refine r_cons ?_ | with_reducible refine r_cb ?_ | with_reducible refine r_sl ?_ | with_reducible refine r_noP ?_ | with_reducible refine r_part ?_ | with_reducible refine r_isI ?_ | with_reducible refine r_lst ?_ | with_reducible refine r_tup ?_ | with_reducible refine r_call ?_ | with_reducible refine r_callS ?_ | with_reducible refine r_sFldU ?_ | with_reducible refine r_chain ?_ | with_reducible refine r_enum ?_ | with_reducible refine r_zip ?_ | with_reducible refine r_rng3 ?_ | with_reducible refine r_gtup ?_ | with_reducible refine r_methU ?_
  | with_reducible refine r_test ?_ | with_reducible refine r_B ?_ | with_reducible refine r_and ?_ | with_reducible refine r_or ?_ | with_reducible refine r_not ?_ | with_reducible refine r_andV ?_ | with_reducible refine r_orV ?_ | with_reducible refine r_notV ?_ | with_reducible refine r_bl ?_ | with_reducible refine r_yes ?_ | with_reducible refine r_int ?_ | with_reducible refine r_is0 ?_ | with_reducible refine r_is1 ?_ | with_reducible refine iteT ?_ | with_reducible refine iteF ?_ | with_reducible refine ite_nF ?_ | with_reducible refine ite_nT ?_
  | with_reducible refine r_mod (by decide) ?_ | with_reducible refine r_div (by decide) (by decide) ?_ | with_reducible refine r_mulR (by decide) (by decide) ?_ | with_reducible refine r_mulL (by decide) (by decide) ?_ | with_reducible refine r_pow (by decide) (by decide) (by decide) ?_))
/-! ### kinds -/
def KD (z : Str) : Prop := z = "even" ∨ z = "stock" ∨ z = "wish" ∨ z = "any"
abbrev kinds : List V := [.str "even", .str "stock", .str "wish", .str "any"]
def spIsKG : Sp := fun vs H Q _ => ∃ z : Str, vs = [.str z] ∧ KD z ∧ Q (.bl true) H
def spChKG : Sp := fun vs H Q _ => ∃ z : Str, vs = [.str z] ∧ KD z ∧ Q .non H
def hasC (z : Str) : Bool := decide (z = "stock") || decide (z = "any")
def hasR (z : Str) : Bool := decide (z = "wish") || decide (z = "any")
def spHasK (g : Str → Bool) : Sp := fun vs H Q _ => ∃ z : Str, vs = [.str z] ∧ Q (.bl (g z)) H
abbrev slIsKind : Stmt := top 10
abbrev slChKind : Stmt := top 11
abbrev slHasC : Stmt := top 26
abbrev slHasR : Stmt := top 27
/-! ### what bars a pair -/
def mkB (w : Nat) (f : Nat → Bool) : List V := (List.range w).map fun j => V.bl (f j)
/-- a list of lists of marks -/
structure BS (H : Hp) (b : Addr) (n w : Nat) (B : Nat → Nat → Bool) : Prop where
  ex : ∃ bs : List V, H b = some (.lst bs) ∧ bs.length = n ∧ ∀ (i : Nat) (v : V), bs[i]? = some v → ∃ a, v = .ref a ∧ H a = some (.lst (mkB w (B i)))
theorem BS.same {H H' : Hp} {b : Addr} {n w : Nat} {B : Nat → Nat → Bool} (h : BS H b n w B) (s : Same H H') : BS H' b n w B := by
  obtain ⟨bs, h1, h2, h3⟩ := h
  exact ⟨bs, s _ _ h1, h2, fun i v e => by
    obtain ⟨a, e1, e2⟩ := h3 i v e
    exact ⟨a, e1, s _ _ e2⟩⟩
theorem BS.get {H : Hp} {b : Addr} {n w : Nat} {B : Nat → Nat → Bool} (h : BS H b n w B) : ∃ bs : List V, H b = some (.lst bs) ∧ bs.length = n ∧ ∀ i, i < n → ∃ a, bs[i]? = some (.ref a) ∧ H a = some (.lst (mkB w (B i))) := by
  obtain ⟨bs, h1, h2, h3⟩ := h
  refine ⟨bs, h1, h2, fun i hi => ?_⟩
  obtain ⟨a, e1, e2⟩ := h3 i _ (List.getElem?_eq_getElem (by omega))
  exact ⟨a, by rw [List.getElem?_eq_getElem (by omega), e1], e2⟩
theorem mkB_at {w j : Nat} {f : Nat → Bool} (h : j < w) : (mkB w f)[j]? = some (.bl (f j)) := by
  unfold mkB
  rw [List.getElem?_map, List.getElem?_range h]
  rfl
theorem mkB_len {w : Nat} {f : Nat → Bool} : (mkB w f).length = w := by rw [mkB, List.length_map, List.length_range]
theorem mkB_set {w j : Nat} {f : Nat → Bool} : (mkB w f).set j (.bl true) = mkB w fun k => f k || decide (k = j) := by
  unfold mkB
  refine List.ext_getElem (by simp) fun i h1 h2 => ?_
  simp only [List.getElem_set, List.getElem_map, List.getElem_range]
  by_cases c : j = i
  · subst c
    simp
  · have : ¬ i = j := fun z => c z.symm
    simp [c, this]
/-- marks in the making -/
structure Bk (H0 H : Hp) (b : Addr) (bs : List V) (w : Nat) (B : Nat → Nat → Bool) : Prop where
  nw : H0 b = none
  at_ : H b = some (.lst bs)
  row : ∀ (i : Nat) (v : V), bs[i]? = some v → ∃ a, v = .ref a ∧ a ≠ b ∧ H0 a = none ∧ H a = some (.lst (mkB w (B i)))
  dist : Dist bs
def InR (n w : Nat) (zs : List Pr) : Prop := ∀ z, z ∈ zs → ∃ i j : Nat, z = ((i : Int), (j : Int)) ∧ i < n ∧ j < w
def inB (zs : List Pr) (i j : Nat) : Bool := decide (((i : Int), (j : Int)) ∈ zs)
theorem Bk.bs {H0 H : Hp} {b : Addr} {bs : List V} {n w : Nat} {B : Nat → Nat → Bool} (k : Bk H0 H b bs w B) (l : bs.length = n) : BS H b n w B := ⟨bs, k.at_, l, fun i v e => by
  obtain ⟨a, e1, _, _, h⟩ := k.row i v e
  exact ⟨a, e1, h⟩⟩
def spMarks (C : Addr) : Sp := fun vs H Q _ => ∃ (p x a : Addr) (G : Hp) (R : Rw) (us : List V) (zs : List Pr), vs = [.ref x, .ref a] ∧ TbX C G x R ∧ Same G H ∧ H a = some (.lst us) ∧ PrsAt p H us zs ∧ InR R.length (wd R) zs ∧ zs.length ≤ 64 ∧
  ∀ (b : Addr) (bs : List V) (H' : Hp), Same H H' → Bk H H' b bs (wd R) (inB zs) → bs.length = R.length → Q (.ref b) H'
def stB (B : Nat → Nat → Bool) (n i j : Nat) : List Nat := (List.range n).filter fun r => !decide (r = i) && B r j
def wiB (B : Nat → Nat → Bool) (w i j : Nat) : List Nat := (List.range w).filter fun s => !decide (s = j) && B i s
def nV (l : List Nat) : List V := l.map fun (r : Nat) => V.int (r : Int)
def spStB : Sp := fun vs H Q _ => ∃ (p b : Addr) (n w i j : Nat) (B : Nat → Nat → Bool) (v : V), vs = [.ref b, v] ∧ BS H b n w B ∧ PrAt p H v ((i : Int), (j : Int)) ∧ i < n ∧ j < w ∧ n ≤ 8 ∧ w ≤ 8 ∧
  ∀ (r : Addr) (H' : Hp), Same H H' → H' r = some (.lst (nV (stB B n i j))) → Q (.ref r) H'
def spWiB : Sp := fun vs H Q _ => ∃ (p b : Addr) (n w i j : Nat) (B : Nat → Nat → Bool) (v : V), vs = [.ref b, v] ∧ BS H b n w B ∧ PrAt p H v ((i : Int), (j : Int)) ∧ i < n ∧ j < w ∧ n ≤ 8 ∧ w ≤ 8 ∧
  ∀ (r : Addr) (H' : Hp), Same H H' → H' r = some (.lst (nV (wiB B w i j))) → Q (.ref r) H'
/-- the price of a pair -/
def val (R : Rw) (i j : Nat) : Int := (prc R i j).getD 0
def crB (R : Rw) (i j r s : Nat) : Bool := match prc R r s with
  | none => true
  | some x => decide (val R i s + val R r j < val R i j + x)
def spIsCr (K : PySem.W.Frag) : Sp := fun vs H Q _ => ∃ (p q a : Addr) (es : List V) (R : Rw) (v u : V) (i j r s : Nat), vs = [.ref a, v, u] ∧ RS K H a es R ∧ Gt R ∧ PrAt p H v ((i : Int), (j : Int)) ∧ PrAt q H u ((r : Int), (s : Int)) ∧ i < R.length ∧ j < wd R ∧ r < R.length ∧ s < wd R ∧
  (prc R i j).isSome = true ∧ (prc R i s).isSome = true ∧ (prc R r j).isSome = true ∧ Q (.bl (crB R i j r s)) H
abbrev slMarks : Stmt := top 19
abbrev slIsCr : Stmt := top 20
abbrev slStB : Stmt := top 21
abbrev slWiB : Stmt := top 22
section
variable {P : Program} {w : World} {K : PySem.W.Frag} {mg : Str → Option Value} {base : Heap} {C f aK : Addr} {fd : FuncData}
theorem sclIsKind : FnScope ["value"] ["value"] (defScope slIsKind) := ⟨rfl, rfl, rfl, by decide +kernel, rfl, by decide +kernel, by decide +kernel⟩
theorem ok_isKG (F : Fun K "is_kind" "is_kind" slIsKind f fd) (T : Bt mg) (kin : mg "KINDS" = some (.ref aK)) (tup : ∀ H, SqT K H aK kinds) : FnOk P w K mg base CX0 1 f fd ["value"] spIsKG := by
  refine F.ok sclIsKind (fun vs H Q E h => ?_) (fun cdv A outer s H vs Q E hr h => ?_)
  · obtain ⟨z, rfl, _⟩ := h
    rfl
  · obtain ⟨z, rfl, kd, k⟩ := h
    refine ⟨_, (pss_one (ps_ret (pe_and (pe_callB call_isi (by rfl) T.isinstance (by decide +kernel) (pa_cons (pv 0) (pa_cons (pe_bltn (v := .ty "str") (by rfl) T.str (by decide +kernel) rfl) pa_nil))) (pe_one (pe_cmpR op_in_seq (pv 0) (pe_glob (v := .ref aK) (by rfl) kin rfl) (by rfl)))))), ?_⟩
    walk_at "rd"
    refine r_isi (.base (.str z)) (by decide +kernel : kitB "str" "str" = some true) ?_
    walk_at "rd"
    refine ⟨aK, kinds, rfl, .inr (tup _), rfl, rfl, ?_⟩
    rcases kd with rfl | rfl | rfl | rfl <;> exact k
theorem sclChKind : FnScope ["kind"] ["kind"] (defScope slChKind) := ⟨rfl, rfl, rfl, by decide +kernel, rfl, by decide +kernel, by decide +kernel⟩
theorem ok_chKG (F : Fun K "check_kind" "check_kind" slChKind f fd) (DK : Df P w K mg base CX0 "is_kind" 1 ["value"] spIsKG) : FnOk P w K mg base CX0 2 f fd ["kind"] spChKG := by
  refine F.ok sclChKind (fun vs H Q E h => ?_) (fun cdv A outer s H vs Q E hr h => ?_)
  · obtain ⟨z, rfl, _⟩ := h
    rfl
  · obtain ⟨z, rfl, kd, k⟩ := h
    refine ⟨_, (pss_one (ps_if (pt_not (pt_val (pe_df DK hr (by decide) (pa_cons (pv 0) pa_nil)))) pss_never pss_nil)), ?_⟩
    walk_at "rd"
    refine ⟨z, rfl, kd, ?_⟩
    walk_at "rd"
    exact k
theorem sclHasC : FnScope ["kind"] ["kind"] (defScope slHasC) := ⟨rfl, rfl, rfl, by decide +kernel, rfl, by decide +kernel, by decide +kernel⟩
theorem ok_hasC (F : Fun K "has_columns" "has_columns" slHasC f fd) : FnOk P w K mg base CX0 1 f fd ["kind"] (spHasK hasC) := by
  refine F.ok sclHasC (fun vs H Q E h => ?_) (fun cdv A outer s H vs Q E hr h => ?_)
  · obtain ⟨z, rfl, _⟩ := h
    rfl
  · obtain ⟨z, rfl, k⟩ := h
    refine ⟨_, (pss_one (ps_ret (pe_or (pe_cmpR op_eq (pv 0) pe_str (nomark _)) (pe_one (pe_cmpR op_eq (pv 0) pe_str (nomark _)))))), ?_⟩
    have ve : ∀ x y : Str, decide (V.str x = V.str y) = decide (x = y) := fun x y => decide_eq_decide.mpr ⟨fun h => V.str.inj h, fun h => by rw [h]⟩
    walk_at "rd"
    refine r_eq rfl ?_
    rw [ve]
    walk_at "rd"
    unfold hasC at k
    by_cases c : z = "stock"
    · refine ifT (decide_eq_true c) ?_
      rw [decide_eq_true c, Bool.true_or] at k
      exact k
    · refine ifF (decide_eq_false c) ?_
      rw [decide_eq_false c, Bool.false_or] at k
      walk_at "rd"
      refine r_eq rfl ?_
      rw [ve]
      exact k
theorem sclHasR : FnScope ["kind"] ["kind"] (defScope slHasR) := ⟨rfl, rfl, rfl, by decide +kernel, rfl, by decide +kernel, by decide +kernel⟩
theorem ok_hasR (F : Fun K "has_rows" "has_rows" slHasR f fd) : FnOk P w K mg base CX0 1 f fd ["kind"] (spHasK hasR) := by
  refine F.ok sclHasR (fun vs H Q E h => ?_) (fun cdv A outer s H vs Q E hr h => ?_)
  · obtain ⟨z, rfl, _⟩ := h
    rfl
  · obtain ⟨z, rfl, k⟩ := h
    refine ⟨_, (pss_one (ps_ret (pe_or (pe_cmpR op_eq (pv 0) pe_str (nomark _)) (pe_one (pe_cmpR op_eq (pv 0) pe_str (nomark _)))))), ?_⟩
    have ve : ∀ x y : Str, decide (V.str x = V.str y) = decide (x = y) := fun x y => decide_eq_decide.mpr ⟨fun h => V.str.inj h, fun h => by rw [h]⟩
    walk_at "rd"
    refine r_eq rfl ?_
    rw [ve]
    walk_at "rd"
    unfold hasR at k
    by_cases c : z = "wish"
    · refine ifT (decide_eq_true c) ?_
      rw [decide_eq_true c, Bool.true_or] at k
      exact k
    · refine ifF (decide_eq_false c) ?_
      rw [decide_eq_false c, Bool.false_or] at k
      walk_at "rd"
      refine r_eq rfl ?_
      rw [ve]
      exact k
theorem filt_more {f : Nat → Bool} {i : Nat} : (List.range (i + 1)).filter f = (List.range i).filter f ++ (if f i = true then [i] else []) := by
  rw [List.range_succ, List.filter_append]
  congr 1
  by_cases c : f i = true <;> simp [c]
theorem filt_len {f : Nat → Bool} {n : Nat} : ((List.range n).filter f).length ≤ n := by
  have := List.length_filter_le f (List.range n)
  rwa [List.length_range] at this
theorem sclStB : FnScope ["behind", "pair", "i", "j", "r"] ["behind", "pair"] (defScope slStB) := ⟨rfl, rfl, rfl, by decide +kernel, rfl, by decide +kernel, by decide +kernel⟩
theorem ok_stB (F : Fun K "stocks_behind" "stocks_behind" slStB f fd) (T : Bt mg) : FnOk P w K mg base CX0 1 f fd ["behind", "pair"] spStB := by
  refine F.ok sclStB (fun vs H Q E h => ?_) (fun cdv A outer s H vs Q E hr h => ?_)
  · obtain ⟨p, b, n, w', i, j, B, v, rfl, _⟩ := h
    rfl
  · obtain ⟨p, b, n, w', i, j, B, v, rfl, hb, hp, hi, hj, n8, w8, k⟩ := h
    refine ⟨_, (pss_cons (ps_asg (pv 1) (pg_tup (by rfl) (pgs_cons (pg_name (i := 2) sclStB.nd rfl (Or.inr rfl)) (pgs_cons (pg_name (i := 3) sclStB.nd rfl (Or.inr rfl)) pgs_nil))))
  (pss_one (ps_ret (pe_lc (own := [("r", 4)]) (g := gName 4) rfl sclStB.nd (pi_range1 rfl T.range (pa_cons (pe_callB cl_len (by rfl) T.len (by decide +kernel) (pa_cons (pv 0) pa_nil)) pa_nil)) (blkOk_by (own := [("r", 4)]) (N := ["behind", "pair", "i", "j", "r"]) (sc := defScope slStB) (by decide +kernel)) (fun _ _ _ _ _ => pg_name (i := 4) sclStB.nd rfl (Or.inl rfl))
    (fun _ _ _ _ _ => pts_one (PW.pt (pw_and (pt_cmpR op_ne (pv 4) (pv 2) (nomark _)) (pw_and1 (pt_val (pe_ix (r := rIxL K) ix_list (pe_ix (r := rIxL K) ix_list (pv 0) (pv 4) (fun _ _ => rfl)) (pv 3) (fun _ _ => rfl))))))) (fun _ _ _ _ _ => (pv 4)))))), ?_⟩
    obtain ⟨bs, h1, h2, h3⟩ := hb.get
    obtain ⟨t, rfl, tp, ht⟩ := hp
    walk_at "rd"
    refine r_gtup ⟨t, _, rfl, SqT.of ht, rfl, _, _, rfl, ?_⟩
    walk_at "rd"
    refine ⟨_, _, rfl, ?_⟩
    walk_at "rd"
    refine ⟨rfl, ?_⟩
    walk_at "rd"
    refine r_lenL (SqL.of h1) ?_
    rw [h2]
    walk_at "rd"
    refine ⟨_, rfl, by omega, by omega, fun D nD => lc_it walk_range (fun m H' => Same H H' ∧ H' D = some (.lst (nV ((List.range m).filter fun r => !decide (r = i) && B r j)))) ⟨Same.up (Same.refl H) nD, upd_same⟩ (fun _ _ _ _ => trivial) ?_ ?_⟩
    · rintro m y H1 H2 hm ⟨s1, hD⟩ ⟨rfl, rfl⟩
      have hm : m < n := by have : m < ((n : Nat) : Int).toNat := hm; omega
      obtain ⟨a, ea, ha⟩ := h3 m hm
      show gName 4 (V.int (0 + (m : Int))) _ _ _
      rw [Int.zero_add]
      have fin : ∀ c : Bool, c = (!decide (m = i) && B m j) → (if c = true then tVar 4 ([some (.ref b), some (.ref t), some (.int (i : Int)), some (.int (j : Int)), some (.int (m : Int))]) H2 fun y H4 => ∃ acc, H4 D = some (.lst acc) ∧ acc.length < sizeLine ∧ (Same H (upd H4 D (.lst (acc ++ [y]))) ∧ (upd H4 D (.lst (acc ++ [y]))) D = some (.lst (nV ((List.range (m + 1)).filter fun r => !decide (r = i) && B r j)))) else (Same H H2 ∧ H2 D = some (.lst (nV ((List.range (m + 1)).filter fun r => !decide (r = i) && B r j))))) := fun c e => by
        cases c with
        | true =>
          refine ifT rfl ?_
          refine r_var rfl ?_
          refine ⟨_, hD, ?_, fun c o e2 => ?_, ?_⟩
          · have := filt_len (f := fun r => !decide (r = i) && B r j) (n := m)
            rw [nV, List.length_map]
            exact Nat.lt_of_le_of_lt (show _ ≤ 8 by omega) (by decide)
          · rw [upd_ne (fun z => by rw [z, nD] at e2; cases e2)]
            exact s1 _ _ e2
          · rw [upd_same, filt_more, if_pos e.symm, nV, nV, List.map_append]
            rfl
        | false =>
          refine ifF rfl ?_
          refine ⟨s1, ?_⟩
          rw [filt_more, if_neg (by rw [← e]; decide), List.append_nil]
          exact hD
      walk_at "rd"
      refine ⟨rfl, ?_⟩
      walk_at "rd"
      refine r_ne rfl ?_
      walk_at "rd"
      have de : decide (V.int (m : Int) = V.int (i : Int)) = decide (m = i) := decide_eq_decide.mpr ⟨fun h => Int.ofNat.inj (V.int.inj h), fun h => by rw [h]⟩
      rw [de]
      by_cases c : m = i
      · refine ifF (by rw [decide_eq_true c]; rfl) ?_
        exact fin false (by rw [decide_eq_true c]; rfl)
      · refine ifT (by rw [decide_eq_false c]; rfl) ?_
        walk_at "rd"
        refine r_ixL (SqL.of (s1 _ _ h1)) (atI_nat ea) ?_
        walk_at "rd"
        refine r_ixL (SqL.of (s1 _ _ ha)) (atI_nat (mkB_at hj)) ?_
        walk_at "rd"
        exact fin _ (by rw [decide_eq_false c]; rfl)
    · rintro H1 ⟨s1, hD⟩
      exact k D H1 s1 hD
end
end Pk
set_option Elab.async false
set_option linter.all false
set_option maxRecDepth 100000
set_option maxHeartbeats 4000000
namespace Pk
open PySem L2
local macro_rules | `(tactic| walk_at "rd") => `(tactic| repeat (first
  | with_reducible refine r_seq ?_ | with_reducible refine r_nxt ?_ | with_reducible refine r_asg ?_ | with_reducible refine r_to ?_ | with_reducible refine r_ret ?_ | with_reducible refine r_for ?_ | with_reducible refine r_lc ?_ | with_reducible refine r_lc2 ?_ | with_reducible refine r_rng1 ?_ | with_reducible refine r_list ?_ | with_reducible refine r_tupI ?_ | with_reducible refine r_drop ?_ | with_reducible refine r_ifs ?_
  | with_reducible refine r_op ?_ | with_reducible refine r_c ?_ | with_reducible refine r_var rfl ?_ | with_reducible refine r_var (by assumption) ?_ | with_reducible refine r_I0 ?_ | with_reducible refine r_un ?_ | with_reducible refine r_U ?_ | with_reducible refine r_make ?_ | with_reducible refine r_makeS ?_ | with_reducible refine r_ifE ?_ | with_reducible refine r_cm ?_ | with_reducible refine r_mkV rfl ?_ | with_reducible refine r_sub ?_
  | with_reducible refine r_nil ?_ | with_reducible refine r_cons ?_ | with_reducible refine r_cb ?_ | with_reducible refine r_sl ?_ | with_reducible refine r_noP ?_ | with_reducible refine r_part ?_ | with_reducible refine r_isI ?_ | with_reducible refine r_lst ?_ | with_reducible refine r_tup ?_ | with_reducible refine r_call ?_ | with_reducible refine r_callS ?_ | with_reducible refine r_sFldU ?_ | with_reducible refine r_chain ?_ | with_reducible refine r_enum ?_ | with_reducible refine r_zip ?_ | with_reducible refine r_rng3 ?_ | with_reducible refine r_gtup ?_ | with_reducible refine r_methU ?_
  | with_reducible refine r_test ?_ | with_reducible refine r_B ?_ | with_reducible refine r_and ?_ | with_reducible refine r_or ?_ | with_reducible refine r_not ?_ | with_reducible refine r_andV ?_ | with_reducible refine r_orV ?_ | with_reducible refine r_notV ?_ | with_reducible refine r_bl ?_ | with_reducible refine r_yes ?_ | with_reducible refine r_int ?_ | with_reducible refine r_is0 ?_ | with_reducible refine r_is1 ?_ | with_reducible refine iteT ?_ | with_reducible refine iteF ?_ | with_reducible refine ite_nF ?_ | with_reducible refine ite_nT ?_
  | with_reducible refine r_mod (by decide) ?_ | with_reducible refine r_div (by decide) (by decide) ?_ | with_reducible refine r_mulR (by decide) (by decide) ?_ | with_reducible refine r_mulL (by decide) (by decide) ?_ | with_reducible refine r_pow (by decide) (by decide) (by decide) ?_))
section
variable {P : Program} {w : World} {K : PySem.W.Frag} {mg : Str → Option Value} {base : Heap} {C f aK : Addr} {fd : FuncData}
theorem sclWiB : FnScope ["behind", "pair", "i", "j", "s"] ["behind", "pair"] (defScope slWiB) := ⟨rfl, rfl, rfl, by decide +kernel, rfl, by decide +kernel, by decide +kernel⟩
theorem ok_wiB (F : Fun K "wishes_behind" "wishes_behind" slWiB f fd) (T : Bt mg) : FnOk P w K mg base CX0 1 f fd ["behind", "pair"] spWiB := by
  refine F.ok sclWiB (fun vs H Q E h => ?_) (fun cdv A outer s H vs Q E hr h => ?_)
  · obtain ⟨p, b, n, w', i, j, B, v, rfl, _⟩ := h
    rfl
  · obtain ⟨p, b, n, w', i, j, B, v, rfl, hb, hp, hi, hj, n8, w8, k⟩ := h
    refine ⟨_, (pss_cons (ps_asg (pv 1) (pg_tup (by rfl) (pgs_cons (pg_name (i := 2) sclWiB.nd rfl (Or.inr rfl)) (pgs_cons (pg_name (i := 3) sclWiB.nd rfl (Or.inr rfl)) pgs_nil))))
  (pss_one (ps_ret (pe_lc (own := [("s", 4)]) (g := gName 4) rfl sclWiB.nd (pi_range1 rfl T.range (pa_cons (pe_callB cl_len (by rfl) T.len (by decide +kernel) (pa_cons (pe_ix ix_list (pv 0) pe_int (fun _ _ => rfl)) pa_nil)) pa_nil)) (blkOk_by (own := [("s", 4)]) (N := ["behind", "pair", "i", "j", "s"]) (sc := defScope slWiB) (by decide +kernel)) (fun _ _ _ _ _ => pg_name (i := 4) sclWiB.nd rfl (Or.inl rfl))
    (fun _ _ _ _ _ => pts_one (PW.pt (pw_and (pt_cmpR op_ne (pv 4) (pv 3) (nomark _)) (pw_and1 (pt_val (pe_ix (r := rIxL K) ix_list (pe_ix (r := rIxL K) ix_list (pv 0) (pv 2) (fun _ _ => rfl)) (pv 4) (fun _ _ => rfl))))))) (fun _ _ _ _ _ => (pv 4)))))), ?_⟩
    obtain ⟨bs, h1, h2, h3⟩ := hb.get
    obtain ⟨t, rfl, tp, ht⟩ := hp
    obtain ⟨a0, ea0, ha0⟩ := h3 0 (by omega)
    obtain ⟨ai, eai, hai⟩ := h3 i hi
    walk_at "rd"
    refine r_gtup ⟨t, _, rfl, SqT.of ht, rfl, _, _, rfl, ?_⟩
    walk_at "rd"
    refine ⟨_, _, rfl, ?_⟩
    walk_at "rd"
    refine ⟨rfl, ?_⟩
    walk_at "rd"
    refine r_ixL (SqL.of h1) (atI_nat (j := 0) ea0) ?_
    walk_at "rd"
    refine r_lenL (SqL.of ha0) ?_
    rw [mkB_len]
    walk_at "rd"
    refine ⟨_, rfl, by omega, by omega, fun D nD => lc_it walk_range (fun m H' => Same H H' ∧ H' D = some (.lst (nV ((List.range m).filter fun s => !decide (s = j) && B i s)))) ⟨Same.up (Same.refl H) nD, upd_same⟩ (fun _ _ _ _ => trivial) ?_ ?_⟩
    · rintro m y H1 H2 hm ⟨s1, hD⟩ ⟨rfl, rfl⟩
      have hm : m < w' := by have : m < ((w' : Nat) : Int).toNat := hm; omega
      show gName 4 (V.int (0 + (m : Int))) _ _ _
      rw [Int.zero_add]
      have fin : ∀ c : Bool, c = (!decide (m = j) && B i m) → (if c = true then tVar 4 ([some (.ref b), some (.ref t), some (.int (i : Int)), some (.int (j : Int)), some (.int (m : Int))]) H2 fun y H4 => ∃ acc, H4 D = some (.lst acc) ∧ acc.length < sizeLine ∧ (Same H (upd H4 D (.lst (acc ++ [y]))) ∧ (upd H4 D (.lst (acc ++ [y]))) D = some (.lst (nV ((List.range (m + 1)).filter fun s => !decide (s = j) && B i s)))) else (Same H H2 ∧ H2 D = some (.lst (nV ((List.range (m + 1)).filter fun s => !decide (s = j) && B i s))))) := fun c e => by
        cases c with
        | true =>
          refine ifT rfl ?_
          refine r_var rfl ?_
          refine ⟨_, hD, ?_, fun c o e2 => ?_, ?_⟩
          · have := filt_len (f := fun s => !decide (s = j) && B i s) (n := m)
            rw [nV, List.length_map]
            exact Nat.lt_of_le_of_lt (show _ ≤ 8 by omega) (by decide)
          · rw [upd_ne (fun z => by rw [z, nD] at e2; cases e2)]
            exact s1 _ _ e2
          · rw [upd_same, filt_more, if_pos e.symm, nV, nV, List.map_append]
            rfl
        | false =>
          refine ifF rfl ?_
          refine ⟨s1, ?_⟩
          rw [filt_more, if_neg (by rw [← e]; decide), List.append_nil]
          exact hD
      walk_at "rd"
      refine ⟨rfl, ?_⟩
      walk_at "rd"
      refine r_ne rfl ?_
      walk_at "rd"
      have de : decide (V.int (m : Int) = V.int (j : Int)) = decide (m = j) := decide_eq_decide.mpr ⟨fun h => Int.ofNat.inj (V.int.inj h), fun h => by rw [h]⟩
      rw [de]
      by_cases c : m = j
      · refine ifF (by rw [decide_eq_true c]; rfl) ?_
        exact fin false (by rw [decide_eq_true c]; rfl)
      · refine ifT (by rw [decide_eq_false c]; rfl) ?_
        walk_at "rd"
        refine r_ixL (SqL.of (s1 _ _ h1)) (atI_nat eai) ?_
        walk_at "rd"
        refine r_ixL (SqL.of (s1 _ _ hai)) (atI_nat (mkB_at hm)) ?_
        walk_at "rd"
        exact fin _ (by rw [decide_eq_false c]; rfl)
    · rintro H1 ⟨s1, hD⟩
      exact k D H1 s1 hD
theorem sclIsCr : FnScope ["prices", "pair", "cell", "i", "j", "r", "s"] ["prices", "pair", "cell"] (defScope slIsCr) := ⟨rfl, rfl, rfl, by decide +kernel, rfl, by decide +kernel, by decide +kernel⟩
theorem val_of {R : Rw} {i j : Nat} (h : (prc R i j).isSome = true) : pV (prc R i j) = .int (val R i j) := by
  unfold val
  cases e : prc R i j with
  | none => rw [e] at h; cases h
  | some x => rfl
theorem ok_isCr (F : Fun K "is_cross" "is_cross" slIsCr f fd) : FnOk P w K mg base CX0 1 f fd ["prices", "pair", "cell"] (spIsCr K) := by
  refine F.ok sclIsCr (fun vs H Q E h => ?_) (fun cdv A outer s H vs Q E hr h => ?_)
  · obtain ⟨p, q, a, es, R, v, u, i, j, r, s, rfl, _⟩ := h
    rfl
  · obtain ⟨p, q, a, es, R, v, u, i, j, r, s, rfl, rs, g, hp, hq, hi, hj, hr', hs, pij, pis, prj, k⟩ := h
    refine ⟨_, (pss_cons (ps_asg (pv 1) (pg_tup (by rfl) (pgs_cons (pg_name (i := 3) sclIsCr.nd rfl (Or.inl rfl)) (pgs_cons (pg_name (i := 4) sclIsCr.nd rfl (Or.inl rfl)) pgs_nil))))
  (pss_cons (ps_asg (pv 2) (pg_tup (by rfl) (pgs_cons (pg_name (i := 5) sclIsCr.nd rfl (Or.inl rfl)) (pgs_cons (pg_name (i := 6) sclIsCr.nd rfl (Or.inl rfl)) pgs_nil))))
  (pss_one (ps_ret (pe_or (pe_cmpR op_is0 (pe_ix ix_list (pe_ix ix_list (pv 0) (pv 5) (fun _ _ => rfl)) (pv 6) (fun _ _ => rfl)) pe_non (nomark _)) (pe_one (pe_cmpR op_gt (pe_op op_add (pe_ix ix_list (pe_ix ix_list (pv 0) (pv 3) (fun _ _ => rfl)) (pv 4) (fun _ _ => rfl)) (pe_ix ix_list (pe_ix ix_list (pv 0) (pv 5) (fun _ _ => rfl)) (pv 6) (fun _ _ => rfl))) (pe_op op_add (pe_ix ix_list (pe_ix ix_list (pv 0) (pv 3) (fun _ _ => rfl)) (pv 6) (fun _ _ => rfl)) (pe_ix ix_list (pe_ix ix_list (pv 0) (pv 5) (fun _ _ => rfl)) (pv 4) (fun _ _ => rfl))) (nomark _)))))))), ?_⟩
    obtain ⟨ai, eai, hai⟩ := rs.get hi
    obtain ⟨ar, ear, har⟩ := rs.get hr'
    obtain ⟨t, rfl, tp, ht⟩ := hp
    obtain ⟨t2, rfl, tp2, ht2⟩ := hq
    walk_at "rd"
    refine r_gtup ⟨t, _, rfl, SqT.of ht, rfl, _, _, rfl, ?_⟩
    walk_at "rd"
    refine ⟨_, _, rfl, ?_⟩
    walk_at "rd"
    refine ⟨rfl, ?_⟩
    walk_at "rd"
    refine r_gtup ⟨t2, _, rfl, SqT.of ht2, rfl, _, _, rfl, ?_⟩
    walk_at "rd"
    refine ⟨_, _, rfl, ?_⟩
    walk_at "rd"
    refine ⟨rfl, ?_⟩
    walk_at "rd"
    refine r_ixL rs.at_ (atI_nat ear) ?_
    walk_at "rd"
    refine r_ixL har (atI_nat (prc_get g hr' hs)) ?_
    walk_at "rd"
    cases e : prc R r s with
    | none =>
      refine ifT (decide_eq_true rfl) ?_
      rw [crB, e] at k
      exact k
    | some x =>
      refine ifF (decide_eq_false (fun z => by cases z)) ?_
      rw [crB, e] at k
      walk_at "rd"
      refine r_ixL rs.at_ (atI_nat eai) ?_
      walk_at "rd"
      refine r_ixL hai (atI_nat (prc_get g hi hj)) ?_
      rw [val_of pij]
      walk_at "rd"
      refine r_ixL rs.at_ (atI_nat ear) ?_
      walk_at "rd"
      refine r_ixL har (atI_nat (prc_get g hr' hs)) ?_
      rw [e]
      show rI0 (fun i j => V.int (i + j)) (V.int (val R i j)) (V.int x) _ _
      walk_at "rd"
      refine r_ixL rs.at_ (atI_nat eai) ?_
      walk_at "rd"
      refine r_ixL hai (atI_nat (prc_get g hi hs)) ?_
      rw [val_of pis]
      walk_at "rd"
      refine r_ixL rs.at_ (atI_nat ear) ?_
      walk_at "rd"
      refine r_ixL har (atI_nat (prc_get g hr' hj)) ?_
      rw [val_of prj]
      walk_at "rd"
      exact k
theorem sclMarks : FnScope ["table", "pairs", "rows", "i", "j"] ["table", "pairs"] (defScope slMarks) := ⟨rfl, rfl, rfl, by decide +kernel, rfl, by decide +kernel, by decide +kernel⟩
theorem ok_marks {fS fW : Addr} {fdS fdW : FuncData} (F : Fun K "marks" "marks" slMarks f fd) (T : Bt mg) (A : TbC K C) (mS : Meth K C "stocks" fS) (oS : FnOk P w K mg base CX0 1 fS fdS ["self"] (spTStk C)) (bS : Binds K fdS ["self"] [])
    (mW : Meth K C "wishes" fW) (oW : FnOk P w K mg base CX0 1 fW fdW ["self"] (spTWsh C)) (bW : Binds K fdW ["self"] []) : FnOk P w K mg base CX0 2 f fd ["table", "pairs"] (spMarks C) := by
  refine F.ok sclMarks (fun vs H Q E h => ?_) (fun cdv A' outer s H vs Q E hr h => ?_)
  · obtain ⟨p, x, a, G, R, us, zs, rfl, _⟩ := h
    rfl
  · obtain ⟨p, x, a, G, R, us, zs, rfl, t, sG, ha, hu, inr, z64, k⟩ := h
    have hr1 := hr.mono (show 1 ≤ 1 by decide)
    obtain ⟨g, dx, e0, u0, es, ho, hl, hpl⟩ := id t
    have g8 := g.h8
    have w8 := g.w8
    have ul := hu.length
    refine ⟨_, (pss_cons (ps_setLc (i := 2) (own := [("i", 3)]) (g := gName 3) (te := tOp rRep (tLst (tCons (tC (.bl false)) tNil)) (tMeth C "wishes" (spTWsh C) [] E0 (tVar 0) tNil)) rfl sclMarks.nd rfl rfl (sw_true rfl rfl rfl (by decide +kernel)) (pi_range1 rfl T.range (pa_cons (pe_meth0 (pv 0) A.O.cl mS oS hr1 bS .nil pass0) pa_nil)) (blkOk_by (own := [("i", 3)]) (N := ["table", "pairs", "rows", "i", "j"]) (sc := defScope slMarks) (by decide +kernel)) (fun _ _ _ _ _ => pg_name (i := 3) sclMarks.nd rfl (Or.inl rfl)) (fun _ _ _ _ _ => pts_nil) (fun _ _ _ _ _ => (pe_op op_rep (pe_lst (pa_cons pe_bl pa_nil)) (pe_meth0 (pv 0) A.O.cl mW oW hr1 bW .nil pass0))))
  (pss_cons (ps_for PassesOwn.never rfl (pi_list (pv 1)) (pg_tup (by rfl) (pgs_cons (pg_name (i := 3) sclMarks.nd rfl (Or.inl rfl)) (pgs_cons (pg_name (i := 4) sclMarks.nd rfl (Or.inl rfl)) pgs_nil))) (pss_one (ps_asg pe_bl (pg_sub (pe_ix ix_list (pv 2) (pv 3) (fun _ _ => rfl)) (pv 4) set_list))))
  (pss_one (ps_ret (pv 2))))), ?_⟩
    walk_at "rd"
    refine ⟨x, dx, _, rfl, sG _ _ ho, two_no (by decide +kernel) (by decide +kernel), ?_⟩
    walk_at "rd"
    refine ⟨x, G, R, rfl, t, sG, ?_⟩
    walk_at "rd"
    refine ⟨_, rfl, by omega, by omega, fun D nD => lc_it walk_range (fun m H' => Same H H' ∧ ∃ bs, Bk H H' D bs (wd R) (fun _ _ => false) ∧ bs.length = m) ⟨Same.up (Same.refl H) nD, [], ⟨nD, upd_same, fun i v e => by simp at e, .nil⟩, rfl⟩ (fun _ _ _ _ => trivial) ?_ ?_⟩
    · rintro m y H1 H2 hm ⟨s1, bs, bk, bl⟩ ⟨rfl, rfl⟩
      have hm : m < R.length := by have : m < ((R.length : Nat) : Int).toNat := hm; omega
      walk_at "rd"
      refine ⟨rfl, ?_⟩
      walk_at "rd"
      refine ⟨by show 1 ≤ sizeLine; decide, fun l1 n1 => ?_⟩
      have s2 := Same.up (o := .lst [V.bl false]) (Same.refl H2) n1
      walk_at "rd"
      refine ⟨x, dx, _, rfl, (sG.trans (s1.trans s2)) _ _ ho, two_no (by decide +kernel) (by decide +kernel), ?_⟩
      walk_at "rd"
      refine ⟨x, G, R, rfl, t, sG.trans (s1.trans s2), ?_⟩
      refine ⟨l1, (wd R : Int), [.bl false], rfl, rfl, upd_same, by omega, by omega, Nat.le_trans (show [V.bl false].length * ((wd R : Nat) : Int).toNat ≤ 8 by simp; omega) (by decide), fun q nq => ?_⟩
      have s3 := Same.up (o := .lst (List.replicate ((wd R : Nat) : Int).toNat [V.bl false]).flatten) s2 nq
      have fl : (List.replicate ((wd R : Nat) : Int).toNat [V.bl false]).flatten = mkB (wd R) fun _ => false := by
        rw [Int.toNat_natCast]
        unfold mkB
        generalize wd R = n
        induction n with
        | zero => rfl
        | succ n ih => rw [List.replicate_succ', List.range_succ, List.map_append, List.flatten_append, ih]; rfl
      rw [fl] at s3 ⊢
      have qD : q ≠ D := fun z => by rw [z, s2 _ _ bk.at_] at nq; cases nq
      have nH : H q = none := (s1.trans s2).free nq
      refine ⟨bs, s3 _ _ bk.at_, by rw [bl]; exact Nat.lt_of_lt_of_le (show m < 9 by omega) (by decide), fun c o e => ?_, bs ++ [.ref q], ⟨bk.nw, upd_same, fun i v e => ?_, bk.dist.more fun j v e2 z => ?_⟩, by rw [List.length_append, bl]; rfl⟩
      · rw [upd_ne (fun z => by rw [z, nD] at e; cases e)]
        exact s3 _ _ (s1 _ _ e)
      · by_cases c : i < bs.length
        · rw [List.getElem?_append_left c] at e
          obtain ⟨b', e1, n1', n2', h'⟩ := bk.row i v e
          exact ⟨b', e1, n1', n2', by rw [upd_ne n1']; exact s3 _ _ h'⟩
        · rw [List.getElem?_append_right (by omega)] at e
          have : i - bs.length = 0 := by
            have := (List.getElem?_eq_some_iff.mp e).1
            simp at this
            omega
          rw [this] at e
          cases (Option.some.inj e)
          exact ⟨q, rfl, qD, nH, by rw [upd_ne qD, upd_same]⟩
      · obtain ⟨b', e1, n1', n2', h'⟩ := bk.row j v e2
        rw [e1] at z
        cases z
        rw [s2 _ _ h'] at nq
        cases nq
    · rintro H1 ⟨s1, bs, bk, bl⟩
      have bl : bs.length = R.length := by have : bs.length = ((R.length : Nat) : Int).toNat := bl; omega
      walk_at "rd"
      refine ⟨a, rfl, ⟨_, SqL.of (s1 _ _ ha)⟩, for_it walk_list (fun m σ H' => ∃ v3 v4, σ = [some (.ref x), some (.ref a), some (.ref D), v3, v4] ∧ Same H H' ∧ Bk H H' D bs (wd R) (inB (zs.take m))) ⟨_, _, rfl, s1, ?_⟩ (fun i σ H' _ z => by obtain ⟨_, _, _, s', _⟩ := z; exact SqL.of (s' _ _ ha)) ?_ ?_⟩
      · have e : inB (zs.take 0) = fun _ _ => false := by
          funext i j
          simp [inB]
        rw [e]
        exact bk
      · rintro m y σ H2 H3 hm ⟨v3, v4, rfl, s2, bk2⟩ ⟨rfl, ey⟩
        obtain ⟨z, ez, t', rfl, tp, ht⟩ := hu.at ey
        obtain ⟨i, j, rfl, hi, hj⟩ := inr z (List.mem_of_getElem? ez)
        have hbi : i < bs.length := by omega
        obtain ⟨b', e1, n1', n2', h'⟩ := bk2.row i _ (List.getElem?_eq_getElem hbi)
        have ebi : bs[i]? = some (.ref b') := by rw [List.getElem?_eq_getElem hbi, e1]
        refine r_gtup ⟨t', _, rfl, SqT.of (s2 _ _ ht), rfl, _, _, rfl, ?_⟩
        walk_at "rd"
        refine ⟨_, _, rfl, ?_⟩
        walk_at "rd"
        refine ⟨rfl, ?_⟩
        walk_at "rd"
        refine r_ixL (SqL.of bk2.at_) (atI_nat ebi) ?_
        walk_at "rd"
        refine r_setL h' (ixN_nat (by rw [mkB_len]; exact hj)) ?_
        walk_at "rd"
        rw [mkB_set]
        refine ⟨_, _, rfl, fun c o e => ?_, bk2.nw, by rw [upd_ne (Ne.symm n1')]; exact bk2.at_, fun i2 v e => ?_, bk2.dist⟩
        · rw [upd_ne (fun z => by rw [z, n2'] at e; cases e)]
          exact s2 _ _ e
        · have tk : ∀ a b, inB (zs.take (m + 1)) a b = (inB (zs.take m) a b || (decide (a = i) && decide (b = j))) := fun a b => by
            unfold inB
            rw [List.take_add_one, ez]
            show decide (_ ∈ _ ++ [((i : Int), (j : Int))]) = _
            by_cases c1 : a = i <;> by_cases c2 : b = j <;> simp [c1, c2] <;> omega
          obtain ⟨b2, e2, m1, m2, h2⟩ := bk2.row i2 v e
          by_cases c : i2 = i
          · subst c
            rw [ebi] at e
            cases (Option.some.inj e)
            refine ⟨b', rfl, n1', n2', ?_⟩
            rw [upd_same]
            congr 2
            congr 1
            funext b
            rw [tk, decide_eq_true rfl, Bool.true_and]
          · refine ⟨b2, e2, m1, m2, ?_⟩
            have nb : b2 ≠ b' := fun z => c (bk2.dist i2 i b' (by rw [e, e2, z]) ebi)
            rw [upd_ne nb, h2]
            congr 2
            congr 1
            funext b
            rw [tk, decide_eq_false c, Bool.false_and, Bool.or_false]
      · rintro σ H2 ⟨v3, v4, rfl, s2, bk2⟩
        rw [ul, List.take_length] at bk2
        walk_at "rd"
        exact k D bs H2 s2 bk2 bl
end
end Pk
set_option Elab.async false
set_option linter.all false
set_option maxRecDepth 100000
set_option maxHeartbeats 4000000
namespace Pk
open PySem L2
local macro_rules | `(tactic| walk_at "rd") => `(tactic| repeat (first
  | with_reducible refine r_seq ?_ | with_reducible refine r_nxt ?_ | with_reducible refine r_asg ?_ | with_reducible refine r_to ?_ | with_reducible refine r_ret ?_ | with_reducible refine r_for ?_ | with_reducible refine r_lc ?_ | with_reducible refine r_lc2 ?_ | with_reducible refine r_rng1 ?_ | with_reducible refine r_list ?_ | with_reducible refine r_tupI ?_ | with_reducible refine r_drop ?_ | with_reducible refine r_ifs ?_
  | with_reducible refine r_op ?_ | with_reducible refine r_c ?_ | with_reducible refine r_var rfl ?_ | with_reducible refine r_var (by assumption) ?_ | with_reducible refine r_I0 ?_ | with_reducible refine r_un ?_ | with_reducible refine r_U ?_ | with_reducible refine r_make ?_ | with_reducible refine r_makeS ?_ | with_reducible refine r_ifE ?_ | with_reducible refine r_cm ?_ | with_reducible refine r_mkV rfl ?_ | with_reducible refine r_sub ?_
  | with_reducible refine r_nil ?_ | with_reducible refine r_cons ?_ | with_reducible refine r_cb ?_ | with_reducible refine r_sl ?_ | with_reducible refine r_noP ?_ | with_reducible refine r_part ?_ | with_reducible refine r_isI ?_ | with_reducible refine r_lst ?_ | with_reducible refine r_tup ?_ | with_reducible refine r_call ?_ | with_reducible refine r_callS ?_ | with_reducible refine r_sFldU ?_ | with_reducible refine r_chain ?_ | with_reducible refine r_enum ?_ | with_reducible refine r_zip ?_ | with_reducible refine r_rng3 ?_ | with_reducible refine r_gtup ?_ | with_reducible refine r_methU ?_
  | with_reducible refine r_test ?_ | with_reducible refine r_B ?_ | with_reducible refine r_and ?_ | with_reducible refine r_or ?_ | with_reducible refine r_not ?_ | with_reducible refine r_andV ?_ | with_reducible refine r_orV ?_ | with_reducible refine r_notV ?_ | with_reducible refine r_bl ?_ | with_reducible refine r_yes ?_ | with_reducible refine r_int ?_ | with_reducible refine r_is0 ?_ | with_reducible refine r_is1 ?_ | with_reducible refine iteT ?_ | with_reducible refine iteF ?_ | with_reducible refine ite_nF ?_ | with_reducible refine ite_nT ?_
  | with_reducible refine r_mod (by decide) ?_ | with_reducible refine r_div (by decide) (by decide) ?_ | with_reducible refine r_mulR (by decide) (by decide) ?_ | with_reducible refine r_mulL (by decide) (by decide) ?_ | with_reducible refine r_pow (by decide) (by decide) (by decide) ?_))
/-! ### what bars a pair: crosses, columns, rows -/
def FtAt (p : Addr) (H : Hp) (pv u : V) (f : Str × Pr) : Prop := ∃ (t : Addr) (c : V), u = .ref t ∧ H t = some (.tup [.str f.1, pv, c]) ∧ PrAt p H c f.2
inductive FtsAt (p : Addr) (H : Hp) (pv : V) : List V → List (Str × Pr) → Prop
  | nil : FtsAt p H pv [] []
  | cons {u : V} {f : Str × Pr} {us : List V} {fs : List (Str × Pr)} (h : FtAt p H pv u f) (r : FtsAt p H pv us fs) : FtsAt p H pv (u :: us) (f :: fs)
theorem FtAt.keepT {p : Addr} {H H' : Hp} {pv u : V} {f : Str × Pr} (h : FtAt p H pv u f) (k : ∀ t xs, H t = some (.tup xs) → H' t = some (.tup xs)) : FtAt p H' pv u f := by
  obtain ⟨t, c, e, ht, t2, e2, n2, h2⟩ := h
  exact ⟨t, c, e, k _ _ ht, t2, e2, n2, k _ _ h2⟩
theorem FtsAt.keepT {p : Addr} {H H' : Hp} {pv : V} {us : List V} {fs : List (Str × Pr)} (h : FtsAt p H pv us fs) (k : ∀ t xs, H t = some (.tup xs) → H' t = some (.tup xs)) : FtsAt p H' pv us fs := by
  induction h with
  | nil => exact .nil
  | cons h _ ih => exact .cons (h.keepT k) ih
theorem FtsAt.same {p : Addr} {H H' : Hp} {pv : V} {us : List V} {fs : List (Str × Pr)} (h : FtsAt p H pv us fs) (s : Same H H') : FtsAt p H' pv us fs := h.keepT fun t xs e => s _ _ e
theorem FtsAt.app {p : Addr} {H : Hp} {pv : V} {us ws : List V} {fs gs : List (Str × Pr)} (h : FtsAt p H pv us fs) (g : FtsAt p H pv ws gs) : FtsAt p H pv (us ++ ws) (fs ++ gs) := by
  induction h with
  | nil => exact g
  | cons h _ ih => exact .cons h ih
theorem FtsAt.length {p : Addr} {H : Hp} {pv : V} {us : List V} {fs : List (Str × Pr)} (h : FtsAt p H pv us fs) : us.length = fs.length := by
  induction h with
  | nil => rfl
  | cons _ _ ih => rw [List.length_cons, List.length_cons, ih]
theorem nV_at {l : List Nat} {m : Nat} {y : V} (h : (nV l)[m]? = some y) : ∃ r : Nat, l[m]? = some r ∧ y = .int (r : Int) := by
  unfold nV at h
  rw [List.getElem?_map] at h
  cases e : l[m]? with
  | none => rw [e] at h; cases h
  | some r => rw [e] at h; exact ⟨r, rfl, (Option.some.inj h).symm⟩
theorem nV_len {l : List Nat} : (nV l).length = l.length := List.length_map ..
theorem stB_mem {B : Nat → Nat → Bool} {n i j r : Nat} (h : r ∈ stB B n i j) : r < n ∧ r ≠ i ∧ B r j = true := by
  unfold stB at h
  rw [List.mem_filter, List.mem_range, Bool.and_eq_true, Bool.not_eq_true', decide_eq_false_iff_not] at h
  exact ⟨h.1, h.2.1, h.2.2⟩
theorem wiB_mem {B : Nat → Nat → Bool} {w i j s : Nat} (h : s ∈ wiB B w i j) : s < w ∧ s ≠ j ∧ B i s = true := by
  unfold wiB at h
  rw [List.mem_filter, List.mem_range, Bool.and_eq_true, Bool.not_eq_true', decide_eq_false_iff_not] at h
  exact ⟨h.1, h.2.1, h.2.2⟩
def crRow (R : Rw) (i j r : Nat) (l : List Nat) : List Pr := (l.filter fun s => crB R i j r s).map fun (s : Nat) => ((r : Int), (s : Int))
def crossL (R : Rw) (B : Nat → Nat → Bool) (i j : Nat) : List Pr := (stB B R.length i j).flatMap fun r => crRow R i j r (wiB B (wd R) i j)
def colL (R : Rw) (B : Nat → Nat → Bool) (i j : Nat) : List Pr := ((stB B R.length i j).filter fun r => decide (val R r j < val R i j)).map fun (r : Nat) => ((r : Int), (j : Int))
def rowL (R : Rw) (B : Nat → Nat → Bool) (i j : Nat) : List Pr := ((wiB B (wd R) i j).filter fun s => decide (val R i s < val R i j)).map fun (s : Nat) => ((i : Int), (s : Int))
def wrd (z : Str) (l : List Pr) : List (Str × Pr) := l.map fun c => (z, c)
theorem wrd_app (z : Str) (l m : List Pr) : wrd z (l ++ m) = wrd z l ++ wrd z m := List.map_append ..
/-- what the mark of a bar wants of its surroundings -/
structure Bar (K : PySem.W.Frag) (p : Addr) (H : Hp) (a b : Addr) (v : V) (es : List V) (R : Rw) (B : Nat → Nat → Bool) (i j : Nat) : Prop where
  rs : RS K H a es R
  g : Gt R
  bs : BS H b R.length (wd R) B
  pr : PrAt p H v ((i : Int), (j : Int))
  hi : i < R.length
  hj : j < wd R
  sub : ∀ r s, r < R.length → s < wd R → B r s = true → (prc R r s).isSome = true
  is_ : (prc R i j).isSome = true
  pp : ∃ o, H p = some o
theorem Bar.same {K : PySem.W.Frag} {p : Addr} {H H' : Hp} {a b : Addr} {v : V} {es : List V} {R : Rw} {B : Nat → Nat → Bool} {i j : Nat} (h : Bar K p H a b v es R B i j) (s : Same H H') : Bar K p H' a b v es R B i j :=
  ⟨h.rs.same s, h.g, h.bs.same s, h.pr.keep (Keep.same s), h.hi, h.hj, h.sub, h.is_, by obtain ⟨o, ho⟩ := h.pp; exact ⟨o, s _ _ ho⟩⟩
def spBar (K : PySem.W.Frag) (z : Str) (L : Rw → (Nat → Nat → Bool) → Nat → Nat → List Pr) : Sp := fun vs H Q _ => ∃ (p a b : Addr) (v : V) (es : List V) (R : Rw) (B : Nat → Nat → Bool) (i j : Nat), vs = [.ref a, .ref b, v] ∧ Bar K p H a b v es R B i j ∧
  ∀ (r : Addr) (us : List V) (H' : Hp), Same H H' → H' r = some (.lst us) → us.length ≤ 64 → FtsAt p H' v us (wrd z (L R B i j)) → Q (.ref r) H'
abbrev slCrs : Stmt := top 23
abbrev slCol : Stmt := top 24
abbrev slLin : Stmt := top 25
section
variable {P : Program} {w : World} {K : PySem.W.Frag} {mg : Str → Option Value} {base : Heap} {C f aK : Addr} {fd : FuncData}
theorem sclCrs : FnScope ["prices", "behind", "pair", "stocks", "wishes", "s", "r"] ["prices", "behind", "pair"] (defScope slCrs) := ⟨rfl, rfl, rfl, by decide +kernel, rfl, by decide +kernel, by decide +kernel⟩
theorem ok_crs (F : Fun K "crosses" "crosses" slCrs f fd) (DS : Df P w K mg base CX0 "stocks_behind" 1 ["behind", "pair"] spStB) (DW : Df P w K mg base CX0 "wishes_behind" 1 ["behind", "pair"] spWiB) (DC : Df P w K mg base CX0 "is_cross" 1 ["prices", "pair", "cell"] (spIsCr K)) : FnOk P w K mg base CX0 2 f fd ["prices", "behind", "pair"] (spBar K "cross" crossL) := by
  refine F.ok sclCrs (fun vs H Q E h => ?_) (fun cdv A outer s H vs Q E hr h => ?_)
  · obtain ⟨p, a, b, v, es, R, B, i, j, rfl, _⟩ := h
    rfl
  · obtain ⟨p, a, b, v, es, R, B, i, j, rfl, Z, k⟩ := h
    have g8 := Z.g.h8
    have w8 := Z.g.w8
    have hi := Z.hi
    have hj := Z.hj
    refine ⟨_, (pss_cons (ps_asg (pe_tup (pa_cons (pe_df DS hr (by decide) (pa_cons (pv 1) (pa_cons (pv 2) pa_nil))) (pa_cons (pe_df DW hr (by decide) (pa_cons (pv 1) (pa_cons (pv 2) pa_nil))) pa_nil))) (pg_tup (by rfl) (pgs_cons (pg_name (i := 3) sclCrs.nd rfl (Or.inl rfl)) (pgs_cons (pg_name (i := 4) sclCrs.nd rfl (Or.inr rfl)) pgs_nil))))
  (pss_one (ps_ret (pe_lc2 (own := [("r", 6), ("s", 5)]) (vs1 := [5]) (g := gName 6) (tt := tYes) (wi1 := iList K (tVar 4)) (g1 := gName 5) (tt1 := tB (tCall (spIsCr K) [] E0 (tCons (tVar 0) (tCons (tVar 2) (tCons (tTup (tCons (tVar 6) (tCons (tVar 5) tNil))) tNil))))) (te := tTup (tCons (tC (.str "cross")) (tCons (tVar 2) (tCons (tTup (tCons (tVar 6) (tCons (tVar 5) tNil))) tNil)))) rfl sclCrs.nd (pi_list (pv 3)) (blkOk_by (own := [("r", 6), ("s", 5)]) (N := ["prices", "behind", "pair", "stocks", "wishes", "s", "r"]) (sc := defScope slCrs) (by decide +kernel)) (by decide)
    (fun _ _ _ _ _ => pg_name (i := 6) sclCrs.nd rfl (Or.inl rfl)) (fun _ _ _ _ _ => pts_nil) (fun _ _ _ _ _ => pi_list (pv 4)) (fun _ _ _ _ _ => pg_name (i := 5) sclCrs.nd rfl (Or.inl rfl))
    (fun _ _ _ _ _ => pts_one (pt_val (pe_df DC hr (by decide) (pa_cons (pv 0) (pa_cons (pv 2) (pa_cons (pe_tup (pa_cons (pv 6) (pa_cons (pv 5) pa_nil))) pa_nil)))))) (fun _ _ _ _ _ => (pe_tup (pa_cons pe_str (pa_cons (pv 2) (pa_cons (pe_tup (pa_cons (pv 6) (pa_cons (pv 5) pa_nil))) pa_nil))))))))), ?_⟩
    walk_at "rd"
    refine ⟨p, b, _, _, i, j, B, v, rfl, Z.bs, Z.pr, hi, hj, g8, w8, fun a3 H1 s1 h3 => ?_⟩
    have Z1 := Z.same s1
    walk_at "rd"
    refine ⟨p, b, _, _, i, j, B, v, rfl, Z1.bs, Z1.pr, hi, hj, g8, w8, fun a4 H2 s2 h4 => ?_⟩
    have h3 := s2 _ _ h3
    walk_at "rd"
    refine ⟨by show 2 ≤ sizeLine; decide, fun t0 n0 => ?_⟩
    have s3 := (s1.trans s2).trans (Same.up (o := .tup [V.ref a3, V.ref a4]) (Same.refl H2) n0)
    have h3 := Same.up (o := .tup [V.ref a3, V.ref a4]) (Same.refl H2) n0 _ _ h3
    have h4 := Same.up (o := .tup [V.ref a3, V.ref a4]) (Same.refl H2) n0 _ _ h4
    walk_at "rd"
    refine r_gtup ⟨t0, _, rfl, SqT.of upd_same, rfl, _, _, rfl, ?_⟩
    obtain ⟨H3, eH3⟩ : ∃ H3, H3 = upd H2 t0 (.tup [V.ref a3, V.ref a4]) := ⟨_, rfl⟩
    rw [← eH3] at s3 h3 h4 ⊢
    have Z3 := Z.same s3
    obtain ⟨sl, esl⟩ : ∃ sl, sl = stB B R.length i j := ⟨_, rfl⟩
    obtain ⟨wl, ewl⟩ : ∃ wl, wl = wiB B (wd R) i j := ⟨_, rfl⟩
    rw [← esl] at h3
    rw [← ewl] at h4
    have sl8 : sl.length ≤ 8 := by rw [esl]; exact Nat.le_trans filt_len g8
    have wl8 : wl.length ≤ 8 := by rw [ewl]; exact Nat.le_trans filt_len w8
    obtain ⟨op, hop⟩ := Z3.pp
    walk_at "rd"
    refine ⟨_, _, rfl, ?_⟩
    walk_at "rd"
    refine ⟨rfl, ?_⟩
    walk_at "rd"
    refine ⟨a3, rfl, ⟨_, SqL.of h3⟩, fun D nD => lc_any walk_list (fun m H' => Same H3 H' ∧ ∃ us, H' D = some (.lst us) ∧ us.length ≤ 8 * m ∧ FtsAt p H' v us (wrd "cross" ((sl.take m).flatMap fun r => crRow R i j r wl))) ⟨Same.up (Same.refl H3) nD, [], upd_same, Nat.zero_le _, .nil⟩ (fun m H' _ z => SqL.of (z.1 _ _ h3)) ?_ ?_⟩
    · rintro m y H4 H5 hm ⟨s4, us, hD, ul, hu⟩ ⟨rfl, ey⟩
      rw [nV_len] at hm
      obtain ⟨r, er, rfl⟩ := nV_at ey
      obtain ⟨r1, r2, r3⟩ := stB_mem (esl ▸ List.mem_of_getElem? er)
      walk_at "rd"
      refine ⟨rfl, ?_⟩
      walk_at "rd"
      refine ⟨a4, rfl, ⟨_, SqL.of (s4 _ _ h4)⟩, lc_any walk_list (fun n H' => Same H3 H' ∧ ∃ us, H' D = some (.lst us) ∧ us.length ≤ 8 * m + n ∧ FtsAt p H' v us (wrd "cross" (((sl.take m).flatMap fun r => crRow R i j r wl) ++ crRow R i j r (wl.take n)))) ⟨s4, us, hD, ul, by rw [show crRow R i j r (wl.take 0) = [] from by simp [crRow], List.append_nil]; exact hu⟩ (fun n H' _ z => SqL.of (z.1 _ _ h4)) ?_ ?_⟩
      · rintro n y2 H6 H7 hn ⟨s6, ws, hD6, wl6, hw⟩ ⟨rfl, ey2⟩
        rw [nV_len] at hn
        obtain ⟨s', es', rfl⟩ := nV_at ey2
        obtain ⟨q1, q2, q3⟩ := wiB_mem (ewl ▸ List.mem_of_getElem? es')
        have more : crRow R i j r (wl.take (n + 1)) = crRow R i j r (wl.take n) ++ (if crB R i j r s' = true then [((r : Int), (s' : Int))] else []) := by
          unfold crRow
          rw [List.take_add_one, es']
          show List.map _ (List.filter _ (_ ++ [s'])) = _
          rw [List.filter_append, List.map_append]
          congr 1
          by_cases c : crB R i j r s' = true <;> simp [c]
        walk_at "rd"
        refine ⟨rfl, ?_⟩
        walk_at "rd"
        refine ⟨by show 2 ≤ sizeLine; decide, fun t1 n1 => ?_⟩
        have s7 := s6.trans (Same.up (o := .tup [V.int (r : Int), V.int (s' : Int)]) (Same.refl H7) n1)
        have hD7 := Same.up (o := .tup [V.int (r : Int), V.int (s' : Int)]) (Same.refl H7) n1 _ _ hD6
        have t1p : t1 ≠ p := fun z => by rw [z, s6 _ _ hop] at n1; cases n1
        have Z7 := Z3.same s7
        have hw7 := hw.same (Same.up (o := .tup [V.int (r : Int), V.int (s' : Int)]) (Same.refl H7) n1)
        have pc : PrAt p (upd H7 t1 (.tup [V.int (r : Int), V.int (s' : Int)])) (.ref t1) ((r : Int), (s' : Int)) := ⟨t1, rfl, t1p, upd_same⟩
        obtain ⟨H8, eH8⟩ : ∃ H8, H8 = upd H7 t1 (.tup [V.int (r : Int), V.int (s' : Int)]) := ⟨_, rfl⟩
        rw [← eH8] at s7 hD7 Z7 hw7 pc ⊢
        walk_at "rd"
        refine ⟨p, p, a, es, R, v, _, i, j, r, s', rfl, Z7.rs, Z7.g, Z7.pr, pc, hi, hj, r1, q1, Z7.is_, Z7.sub _ _ hi q1 q3, Z7.sub _ _ r1 hj r3, ?_⟩
        walk_at "rd"
        by_cases c : crB R i j r s' = true
        · refine ifT c ?_
          walk_at "rd"
          refine ⟨by show 2 ≤ sizeLine; decide, fun t2 n2 => ?_⟩
          have u8 := Same.up (o := .tup [V.int (r : Int), V.int (s' : Int)]) (Same.refl H8) n2
          have t2p : t2 ≠ p := fun z => by rw [z, s7 _ _ hop] at n2; cases n2
          have pc2 : PrAt p (upd H8 t2 (.tup [V.int (r : Int), V.int (s' : Int)])) (.ref t2) ((r : Int), (s' : Int)) := ⟨t2, rfl, t2p, upd_same⟩
          obtain ⟨H9, eH9⟩ : ∃ H9, H9 = upd H8 t2 (.tup [V.int (r : Int), V.int (s' : Int)]) := ⟨_, rfl⟩
          rw [← eH9] at u8 pc2 ⊢
          walk_at "rd"
          refine ⟨by show 3 ≤ sizeLine; decide, fun t3 n3 => ?_⟩
          have u9 := Same.up (o := .tup [V.str "cross", v, V.ref t2]) (Same.refl H9) n3
          have hD9 := (u8.trans u9) _ _ hD7
          refine ⟨ws, hD9, Nat.lt_of_le_of_lt (show ws.length ≤ 72 by omega) (by decide), fun b' o e => ?_, ws ++ [.ref t3], upd_same, by rw [List.length_append]; show ws.length + 1 ≤ _; omega, ?_⟩
          · rw [upd_ne (fun z => by rw [z, nD] at e; cases e)]
            exact ((s7.trans u8).trans u9) _ _ e
          · have kD : ∀ t xs, (upd H9 t3 (.tup [V.str "cross", v, V.ref t2])) t = some (.tup xs) → (upd (upd H9 t3 (.tup [V.str "cross", v, V.ref t2])) D (.lst (ws ++ [V.ref t3]))) t = some (.tup xs) := fun t xs e => by
              rw [upd_ne (fun z => by rw [z, hD9] at e; cases e)]
              exact e
            rw [more, if_pos c, ← List.append_assoc, wrd_app]
            refine FtsAt.keepT (.app (hw7.same (u8.trans u9)) (.cons ⟨t3, .ref t2, rfl, upd_same, ?_⟩ .nil)) kD
            exact pc2.keep (Keep.same u9)
        · refine ifF (Bool.eq_false_iff.mpr c) ?_
          refine ⟨s7, ws, hD7, by omega, ?_⟩
          rw [more, if_neg c, List.append_nil]
          exact hw7
      · rintro H6 ⟨s6, ws, hD6, wl6, hw⟩
        rw [nV_len] at wl6 hw
        refine ⟨s6, ws, hD6, by omega, ?_⟩
        rw [List.take_add_one, er]
        show FtsAt p H6 v ws (wrd "cross" (List.flatMap _ (_ ++ [r])))
        rw [List.flatMap_append]
        rw [List.take_length] at hw
        simpa using hw
    · rintro H4 ⟨s4, us, hD, ul, hu⟩
      rw [nV_len] at ul hu
      rw [List.take_length] at hu
      refine k D us H4 (s3.trans s4) hD (by omega) ?_
      rw [crossL, ← esl, ← ewl]
      exact hu
theorem sclCol : FnScope ["prices", "behind", "pair", "i", "j", "r"] ["prices", "behind", "pair"] (defScope slCol) := ⟨rfl, rfl, rfl, by decide +kernel, rfl, by decide +kernel, by decide +kernel⟩
theorem ok_col (F : Fun K "columns" "columns" slCol f fd) (DS : Df P w K mg base CX0 "stocks_behind" 1 ["behind", "pair"] spStB) : FnOk P w K mg base CX0 2 f fd ["prices", "behind", "pair"] (spBar K "column" colL) := by
  refine F.ok sclCol (fun vs H Q E h => ?_) (fun cdv A outer s H vs Q E hr h => ?_)
  · obtain ⟨p, a, b, v, es, R, B, i, j, rfl, _⟩ := h
    rfl
  · obtain ⟨p, a, b, v, es, R, B, i, j, rfl, Z, k⟩ := h
    have g8 := Z.g.h8
    have w8 := Z.g.w8
    have hi := Z.hi
    have hj := Z.hj
    refine ⟨_, (pss_cons (ps_asg (pv 2) (pg_tup (by rfl) (pgs_cons (pg_name (i := 3) sclCol.nd rfl (Or.inr rfl)) (pgs_cons (pg_name (i := 4) sclCol.nd rfl (Or.inr rfl)) pgs_nil))))
  (pss_one (ps_ret (pe_lc (own := [("r", 5)]) (g := gName 5) rfl sclCol.nd (pi_list (pe_df DS hr (by decide) (pa_cons (pv 1) (pa_cons (pv 2) pa_nil)))) (blkOk_by (own := [("r", 5)]) (N := ["prices", "behind", "pair", "i", "j", "r"]) (sc := defScope slCol) (by decide +kernel)) (fun _ _ _ _ _ => pg_name (i := 5) sclCol.nd rfl (Or.inl rfl))
    (fun _ _ _ _ _ => pts_one (pt_cmpR op_gt (pe_ix (r := rIxL K) ix_list (pe_ix (r := rIxL K) ix_list (pv 0) (pv 3) (fun _ _ => rfl)) (pv 4) (fun _ _ => rfl)) (pe_ix (r := rIxL K) ix_list (pe_ix (r := rIxL K) ix_list (pv 0) (pv 5) (fun _ _ => rfl)) (pv 4) (fun _ _ => rfl)) (nomark _))) (fun _ _ _ _ _ => (pe_tup (pa_cons pe_str (pa_cons (pv 2) (pa_cons (pe_tup (pa_cons (pv 5) (pa_cons (pv 4) pa_nil))) pa_nil))))))))), ?_⟩
    obtain ⟨t, ev, tp, ht⟩ := id Z.pr
    subst ev
    obtain ⟨ai, eai, hai⟩ := Z.rs.get hi
    walk_at "rd"
    refine r_gtup ⟨t, _, rfl, SqT.of ht, rfl, _, _, rfl, ?_⟩
    walk_at "rd"
    refine ⟨_, _, rfl, ?_⟩
    walk_at "rd"
    refine ⟨rfl, ?_⟩
    walk_at "rd"
    refine ⟨p, b, _, _, i, j, B, .ref t, rfl, Z.bs, Z.pr, hi, hj, g8, w8, fun a3 H3 s3 h3 => ?_⟩
    have Z3 := Z.same s3
    obtain ⟨sl, esl⟩ : ∃ sl, sl = stB B R.length i j := ⟨_, rfl⟩
    rw [← esl] at h3
    have sl8 : sl.length ≤ 8 := by rw [esl]; exact Nat.le_trans filt_len g8
    obtain ⟨op, hop⟩ := Z3.pp
    walk_at "rd"
    refine ⟨a3, rfl, ⟨_, SqL.of h3⟩, fun D nD => lc_it walk_list (fun m H' => Same H3 H' ∧ ∃ us, H' D = some (.lst us) ∧ us.length ≤ m ∧ FtsAt p H' (.ref t) us (wrd "column" (((sl.take m).filter fun r => decide (val R r j < val R i j)).map fun (r : Nat) => ((r : Int), (j : Int))))) ⟨Same.up (Same.refl H3) nD, [], upd_same, Nat.zero_le _, .nil⟩ (fun m H' _ z => SqL.of (z.1 _ _ h3)) ?_ ?_⟩
    · rintro m y H4 H5 hm ⟨s4, us, hD, ul, hu⟩ ⟨rfl, ey⟩
      rw [nV_len] at hm
      obtain ⟨r, er, rfl⟩ := nV_at ey
      obtain ⟨r1, r2, r3⟩ := stB_mem (esl ▸ List.mem_of_getElem? er)
      have more : ((sl.take (m + 1)).filter fun r => decide (val R r j < val R i j)).map (fun (r : Nat) => ((r : Int), (j : Int))) = ((sl.take m).filter fun r => decide (val R r j < val R i j)).map (fun (r : Nat) => ((r : Int), (j : Int))) ++ (if decide (val R r j < val R i j) = true then [((r : Int), (j : Int))] else []) := by
        rw [List.take_add_one, er]
        show List.map _ (List.filter _ (_ ++ [r])) = _
        rw [List.filter_append, List.map_append]
        congr 1
        by_cases c : val R r j < val R i j <;> simp [c]
      have Z5 := Z3.same s4
      obtain ⟨ar, ear, har⟩ := Z5.rs.get r1
      have s35 := s3.trans s4
      walk_at "rd"
      refine ⟨rfl, ?_⟩
      walk_at "rd"
      refine r_ixL Z5.rs.at_ (atI_nat eai) ?_
      walk_at "rd"
      refine r_ixL (s35.seq hai) (atI_nat (prc_get Z.g hi hj)) ?_
      rw [val_of Z.is_]
      walk_at "rd"
      refine r_ixL Z5.rs.at_ (atI_nat ear) ?_
      walk_at "rd"
      refine r_ixL har (atI_nat (prc_get Z.g r1 hj)) ?_
      rw [val_of (Z.sub _ _ r1 hj r3)]
      walk_at "rd"
      rw [more]
      by_cases c : val R r j < val R i j
      · refine ifT (decide_eq_true c) ?_
        rw [if_pos (decide_eq_true c)]
        walk_at "rd"
        refine ⟨by show 2 ≤ sizeLine; decide, fun t2 n2 => ?_⟩
        have u8 := Same.up (o := .tup [V.int (r : Int), V.int (j : Int)]) (Same.refl H5) n2
        have t2p : t2 ≠ p := fun z => by rw [z, s4 _ _ hop] at n2; cases n2
        have pc2 : PrAt p (upd H5 t2 (.tup [V.int (r : Int), V.int (j : Int)])) (.ref t2) ((r : Int), (j : Int)) := ⟨t2, rfl, t2p, upd_same⟩
        obtain ⟨H9, eH9⟩ : ∃ H9, H9 = upd H5 t2 (.tup [V.int (r : Int), V.int (j : Int)]) := ⟨_, rfl⟩
        rw [← eH9] at u8 pc2 ⊢
        walk_at "rd"
        refine ⟨by show 3 ≤ sizeLine; decide, fun t3 n3 => ?_⟩
        have u9 := Same.up (o := .tup [V.str "column", V.ref t, V.ref t2]) (Same.refl H9) n3
        have hD9 := (u8.trans u9) _ _ hD
        refine ⟨us, hD9, Nat.lt_of_le_of_lt (show us.length ≤ 72 by omega) (by decide), fun b' o e => ?_, us ++ [.ref t3], upd_same, by rw [List.length_append]; show us.length + 1 ≤ _; omega, ?_⟩
        · rw [upd_ne (fun z => by rw [z, nD] at e; cases e)]
          exact ((s4.trans u8).trans u9) _ _ e
        · have kD : ∀ t' xs, (upd H9 t3 (.tup [V.str "column", V.ref t, V.ref t2])) t' = some (.tup xs) → (upd (upd H9 t3 (.tup [V.str "column", V.ref t, V.ref t2])) D (.lst (us ++ [V.ref t3]))) t' = some (.tup xs) := fun t' xs e => by
            rw [upd_ne (fun z => by rw [z, hD9] at e; cases e)]
            exact e
          rw [wrd_app]
          refine FtsAt.keepT (.app (hu.same (u8.trans u9)) (.cons ⟨t3, .ref t2, rfl, upd_same, ?_⟩ .nil)) kD
          exact pc2.keep (Keep.same u9)
      · refine ifF (decide_eq_false c) ?_
        rw [if_neg (by rw [decide_eq_false c]; decide), List.append_nil]
        exact ⟨s4, us, hD, by omega, hu⟩
    · rintro H4 ⟨s4, us, hD, ul, hu⟩
      rw [nV_len] at ul hu
      rw [List.take_length] at hu
      refine k D us H4 (s3.trans s4) hD (by omega) ?_
      rw [colL, ← esl]
      exact hu
theorem sclLin : FnScope ["prices", "behind", "pair", "i", "j", "s"] ["prices", "behind", "pair"] (defScope slLin) := ⟨rfl, rfl, rfl, by decide +kernel, rfl, by decide +kernel, by decide +kernel⟩
theorem ok_lin (F : Fun K "lines" "lines" slLin f fd) (DW : Df P w K mg base CX0 "wishes_behind" 1 ["behind", "pair"] spWiB) : FnOk P w K mg base CX0 2 f fd ["prices", "behind", "pair"] (spBar K "row" rowL) := by
  refine F.ok sclLin (fun vs H Q E h => ?_) (fun cdv A outer s H vs Q E hr h => ?_)
  · obtain ⟨p, a, b, v, es, R, B, i, j, rfl, _⟩ := h
    rfl
  · obtain ⟨p, a, b, v, es, R, B, i, j, rfl, Z, k⟩ := h
    have g8 := Z.g.h8
    have w8 := Z.g.w8
    have hi := Z.hi
    have hj := Z.hj
    refine ⟨_, (pss_cons (ps_asg (pv 2) (pg_tup (by rfl) (pgs_cons (pg_name (i := 3) sclLin.nd rfl (Or.inr rfl)) (pgs_cons (pg_name (i := 4) sclLin.nd rfl (Or.inr rfl)) pgs_nil))))
  (pss_one (ps_ret (pe_lc (own := [("s", 5)]) (g := gName 5) rfl sclLin.nd (pi_list (pe_df DW hr (by decide) (pa_cons (pv 1) (pa_cons (pv 2) pa_nil)))) (blkOk_by (own := [("s", 5)]) (N := ["prices", "behind", "pair", "i", "j", "s"]) (sc := defScope slLin) (by decide +kernel)) (fun _ _ _ _ _ => pg_name (i := 5) sclLin.nd rfl (Or.inl rfl))
    (fun _ _ _ _ _ => pts_one (pt_cmpR op_gt (pe_ix (r := rIxL K) ix_list (pe_ix (r := rIxL K) ix_list (pv 0) (pv 3) (fun _ _ => rfl)) (pv 4) (fun _ _ => rfl)) (pe_ix (r := rIxL K) ix_list (pe_ix (r := rIxL K) ix_list (pv 0) (pv 3) (fun _ _ => rfl)) (pv 5) (fun _ _ => rfl)) (nomark _))) (fun _ _ _ _ _ => (pe_tup (pa_cons pe_str (pa_cons (pv 2) (pa_cons (pe_tup (pa_cons (pv 3) (pa_cons (pv 5) pa_nil))) pa_nil))))))))), ?_⟩
    obtain ⟨t, ev, tp, ht⟩ := id Z.pr
    subst ev
    obtain ⟨ai, eai, hai⟩ := Z.rs.get hi
    walk_at "rd"
    refine r_gtup ⟨t, _, rfl, SqT.of ht, rfl, _, _, rfl, ?_⟩
    walk_at "rd"
    refine ⟨_, _, rfl, ?_⟩
    walk_at "rd"
    refine ⟨rfl, ?_⟩
    walk_at "rd"
    refine ⟨p, b, _, _, i, j, B, .ref t, rfl, Z.bs, Z.pr, hi, hj, g8, w8, fun a3 H3 s3 h3 => ?_⟩
    have Z3 := Z.same s3
    obtain ⟨sl, esl⟩ : ∃ sl, sl = wiB B (wd R) i j := ⟨_, rfl⟩
    rw [← esl] at h3
    have sl8 : sl.length ≤ 8 := by rw [esl]; exact Nat.le_trans filt_len w8
    obtain ⟨op, hop⟩ := Z3.pp
    walk_at "rd"
    refine ⟨a3, rfl, ⟨_, SqL.of h3⟩, fun D nD => lc_it walk_list (fun m H' => Same H3 H' ∧ ∃ us, H' D = some (.lst us) ∧ us.length ≤ m ∧ FtsAt p H' (.ref t) us (wrd "row" (((sl.take m).filter fun s => decide (val R i s < val R i j)).map fun (s : Nat) => ((i : Int), (s : Int))))) ⟨Same.up (Same.refl H3) nD, [], upd_same, Nat.zero_le _, .nil⟩ (fun m H' _ z => SqL.of (z.1 _ _ h3)) ?_ ?_⟩
    · rintro m y H4 H5 hm ⟨s4, us, hD, ul, hu⟩ ⟨rfl, ey⟩
      rw [nV_len] at hm
      obtain ⟨r, er, rfl⟩ := nV_at ey
      obtain ⟨r1, r2, r3⟩ := wiB_mem (esl ▸ List.mem_of_getElem? er)
      have more : ((sl.take (m + 1)).filter fun s => decide (val R i s < val R i j)).map (fun (s : Nat) => ((i : Int), (s : Int))) = ((sl.take m).filter fun s => decide (val R i s < val R i j)).map (fun (s : Nat) => ((i : Int), (s : Int))) ++ (if decide (val R i r < val R i j) = true then [((i : Int), (r : Int))] else []) := by
        rw [List.take_add_one, er]
        show List.map _ (List.filter _ (_ ++ [r])) = _
        rw [List.filter_append, List.map_append]
        congr 1
        by_cases c : val R i r < val R i j <;> simp [c]
      have Z5 := Z3.same s4
      have s35 := s3.trans s4
      walk_at "rd"
      refine ⟨rfl, ?_⟩
      walk_at "rd"
      refine r_ixL Z5.rs.at_ (atI_nat eai) ?_
      walk_at "rd"
      refine r_ixL (s35.seq hai) (atI_nat (prc_get Z.g hi hj)) ?_
      rw [val_of Z.is_]
      walk_at "rd"
      refine r_ixL Z5.rs.at_ (atI_nat eai) ?_
      walk_at "rd"
      refine r_ixL (s35.seq hai) (atI_nat (prc_get Z.g hi r1)) ?_
      rw [val_of (Z.sub _ _ hi r1 r3)]
      walk_at "rd"
      rw [more]
      by_cases c : val R i r < val R i j
      · refine ifT (decide_eq_true c) ?_
        rw [if_pos (decide_eq_true c)]
        walk_at "rd"
        refine ⟨by show 2 ≤ sizeLine; decide, fun t2 n2 => ?_⟩
        have u8 := Same.up (o := .tup [V.int (i : Int), V.int (r : Int)]) (Same.refl H5) n2
        have t2p : t2 ≠ p := fun z => by rw [z, s4 _ _ hop] at n2; cases n2
        have pc2 : PrAt p (upd H5 t2 (.tup [V.int (i : Int), V.int (r : Int)])) (.ref t2) ((i : Int), (r : Int)) := ⟨t2, rfl, t2p, upd_same⟩
        obtain ⟨H9, eH9⟩ : ∃ H9, H9 = upd H5 t2 (.tup [V.int (i : Int), V.int (r : Int)]) := ⟨_, rfl⟩
        rw [← eH9] at u8 pc2 ⊢
        walk_at "rd"
        refine ⟨by show 3 ≤ sizeLine; decide, fun t3 n3 => ?_⟩
        have u9 := Same.up (o := .tup [V.str "row", V.ref t, V.ref t2]) (Same.refl H9) n3
        have hD9 := (u8.trans u9) _ _ hD
        refine ⟨us, hD9, Nat.lt_of_le_of_lt (show us.length ≤ 72 by omega) (by decide), fun b' o e => ?_, us ++ [.ref t3], upd_same, by rw [List.length_append]; show us.length + 1 ≤ _; omega, ?_⟩
        · rw [upd_ne (fun z => by rw [z, nD] at e; cases e)]
          exact ((s4.trans u8).trans u9) _ _ e
        · have kD : ∀ t' xs, (upd H9 t3 (.tup [V.str "row", V.ref t, V.ref t2])) t' = some (.tup xs) → (upd (upd H9 t3 (.tup [V.str "row", V.ref t, V.ref t2])) D (.lst (us ++ [V.ref t3]))) t' = some (.tup xs) := fun t' xs e => by
            rw [upd_ne (fun z => by rw [z, hD9] at e; cases e)]
            exact e
          rw [wrd_app]
          refine FtsAt.keepT (.app (hu.same (u8.trans u9)) (.cons ⟨t3, .ref t2, rfl, upd_same, ?_⟩ .nil)) kD
          exact pc2.keep (Keep.same u9)
      · refine ifF (decide_eq_false c) ?_
        rw [if_neg (by rw [decide_eq_false c]; decide), List.append_nil]
        exact ⟨s4, us, hD, by omega, hu⟩
    · rintro H4 ⟨s4, us, hD, ul, hu⟩
      rw [nV_len] at ul hu
      rw [List.take_length] at hu
      refine k D us H4 (s3.trans s4) hD (by omega) ?_
      rw [rowL, ← esl]
      exact hu
end
end Pk
set_option Elab.async false
set_option linter.all false
set_option maxRecDepth 100000
set_option maxHeartbeats 4000000
namespace Pk
open PySem L2
local macro_rules | `(tactic| walk_at "rd") => `(tactic| repeat (first
  | with_reducible refine r_seq ?_ | with_reducible refine r_nxt ?_ | with_reducible refine r_asg ?_ | with_reducible refine r_to ?_ | with_reducible refine r_ret ?_ | with_reducible refine r_for ?_ | with_reducible refine r_lc ?_ | with_reducible refine r_lc2 ?_ | with_reducible refine r_rng1 ?_ | with_reducible refine r_list ?_ | with_reducible refine r_tupI ?_ | with_reducible refine r_drop ?_ | with_reducible refine r_ifs ?_
  | with_reducible refine r_op ?_ | with_reducible refine r_c ?_ | with_reducible refine r_var rfl ?_ | with_reducible refine r_var (by assumption) ?_ | with_reducible refine r_I0 ?_ | with_reducible refine r_un ?_ | with_reducible refine r_U ?_ | with_reducible refine r_make ?_ | with_reducible refine r_makeS ?_ | with_reducible refine r_ifE ?_ | with_reducible refine r_cm ?_ | with_reducible refine r_mkV rfl ?_ | with_reducible refine r_sub ?_
  | with_reducible refine r_nil ?_ | with_reducible refine r_cons ?_ | with_reducible refine r_cb ?_ | with_reducible refine r_sl ?_ | with_reducible refine r_noP ?_ | with_reducible refine r_part ?_ | with_reducible refine r_isI ?_ | with_reducible refine r_lst ?_ | with_reducible refine r_tup ?_ | with_reducible refine r_call ?_ | with_reducible refine r_callS ?_ | with_reducible refine r_sFldU ?_ | with_reducible refine r_chain ?_ | with_reducible refine r_enum ?_ | with_reducible refine r_zip ?_ | with_reducible refine r_rng3 ?_ | with_reducible refine r_gtup ?_ | with_reducible refine r_methU ?_
  | with_reducible refine r_test ?_ | with_reducible refine r_B ?_ | with_reducible refine r_and ?_ | with_reducible refine r_or ?_ | with_reducible refine r_not ?_ | with_reducible refine r_andV ?_ | with_reducible refine r_orV ?_ | with_reducible refine r_notV ?_ | with_reducible refine r_bl ?_ | with_reducible refine r_yes ?_ | with_reducible refine r_int ?_ | with_reducible refine r_is0 ?_ | with_reducible refine r_is1 ?_ | with_reducible refine iteT ?_ | with_reducible refine iteF ?_ | with_reducible refine ite_nF ?_ | with_reducible refine ite_nT ?_
  | with_reducible refine r_mod (by decide) ?_ | with_reducible refine r_div (by decide) (by decide) ?_ | with_reducible refine r_mulR (by decide) (by decide) ?_ | with_reducible refine r_mulL (by decide) (by decide) ?_ | with_reducible refine r_pow (by decide) (by decide) (by decide) ?_))
/-! ### the bars of a pair; placed pairs -/
def fauL (R : Rw) (B : Nat → Nat → Bool) (i j : Nat) (k : Str) : List (Str × Pr) := (wrd "cross" (crossL R B i j) ++ (if hasC k = true then wrd "column" (colL R B i j) else [])) ++ (if hasR k = true then wrd "row" (rowL R B i j) else [])
def spFau (K : PySem.W.Frag) : Sp := fun vs H Q _ => ∃ (p a b : Addr) (v : V) (es : List V) (R : Rw) (B : Nat → Nat → Bool) (i j : Nat) (z : Str), vs = [.ref a, .ref b, v, .str z] ∧ Bar K p H a b v es R B i j ∧
  ∀ (r : Addr) (us : List V) (H' : Hp), Same H H' → H' r = some (.lst us) → us.length ≤ 200 → FtsAt p H' v us (fauL R B i j z) → Q (.ref r) H'
/-- placed pairs, all good -/
structure PlG (p C : Addr) (H : Hp) (x a : Addr) (G : Hp) (R : Rw) (us : List V) (zs : List Pr) : Prop where
  t : TbX C G x R
  s : Same G H
  off : G p = none
  pp : ∃ o, H p = some o
  at_ : H a = some (.lst us)
  pr : PrsAt p H us zs
  nd : zs.Nodup
  sub : ∀ z, z ∈ zs → z ∈ cells R
theorem PlG.same {p C : Addr} {H H' : Hp} {x a : Addr} {G : Hp} {R : Rw} {us : List V} {zs : List Pr} (h : PlG p C H x a G R us zs) (s : Same H H') : PlG p C H' x a G R us zs :=
  ⟨h.t, h.s.trans s, h.off, by obtain ⟨o, ho⟩ := h.pp; exact ⟨o, s _ _ ho⟩, s _ _ h.at_, h.pr.keep (Keep.same s), h.nd, h.sub⟩
theorem cells_nat {R : Rw} {z : Pr} (h : z ∈ cells R) : ∃ i j : Nat, z = ((i : Int), (j : Int)) ∧ i < R.length ∧ j < wd R ∧ (prc R i j).isSome = true := by
  unfold cells at h
  rw [List.mem_flatMap] at h
  obtain ⟨i, hi, h⟩ := h
  obtain ⟨j, hj, rfl⟩ := List.mem_map.mp h
  rw [List.mem_filter, List.mem_range] at hj
  exact ⟨i, j, rfl, List.mem_range.mp hi, hj.1, hj.2⟩
theorem cells_len {R : Rw} (g : Gt R) : (cells R).length ≤ 64 := by
  have h1 := cpre_len R R.length
  have h2 : R.length * wd R ≤ 8 * 8 := Nat.mul_le_mul g.h8 g.w8
  exact Nat.le_trans h1 h2
theorem crow_nodup (R : Rw) (i n : Nat) : (crow R i n).Nodup := by
  unfold crow
  refine List.Pairwise.map _ ?_ (List.Pairwise.filter _ List.nodup_range)
  intro a b n e
  have := (Prod.mk.inj e).2
  omega
theorem cells_nodup (R : Rw) : (cells R).Nodup := by
  have : ∀ n, (cpre R n).Nodup := by
    intro n
    induction n with
    | zero => exact List.nodup_nil
    | succ n ih =>
      rw [cpre_more, List.nodup_append]
      refine ⟨ih, crow_nodup R n _, fun a ha b hb e => ?_⟩
      subst e
      unfold cpre at ha
      rw [List.mem_flatMap] at ha
      obtain ⟨i, hi, h⟩ := ha
      unfold crow at h hb
      obtain ⟨j, _, rfl⟩ := List.mem_map.mp h
      obtain ⟨j', _, e2⟩ := List.mem_map.mp hb
      have := (Prod.mk.inj e2).1
      have := List.mem_range.mp hi
      omega
  exact this R.length
def spFw (C : Addr) : Sp := fun vs H Q _ => ∃ (p x a : Addr) (G : Hp) (R : Rw) (us : List V) (zs : List Pr), vs = [.ref x, .ref a] ∧ PlG p C H x a G R us zs ∧ ∀ H' : Hp, Same H H' → Q .non H'
/-- the pairs that are not placed -/
def freeL (R : Rw) (zs : List Pr) : List Pr := (cells R).filter fun z => !decide (z ∈ zs)
def spNot (C : Addr) : Sp := fun vs H Q _ => ∃ (p x a : Addr) (G : Hp) (R : Rw) (us : List V) (zs : List Pr), vs = [.ref x, .ref a] ∧ PlG p C H x a G R us zs ∧ ∀ (r : Addr) (ws : List V) (H' : Hp), Same H H' → H' r = some (.lst ws) → PrsAt p H' ws (freeL R zs) → Q (.ref r) H'
abbrev slFau : Stmt := top 28
section
variable {P : Program} {w : World} {K : PySem.W.Frag} {mg : Str → Option Value} {base : Heap} {C f aK : Addr} {fd : FuncData}
theorem sclFau : FnScope ["prices", "behind", "pair", "kind", "found"] ["prices", "behind", "pair", "kind"] (defScope slFau) := ⟨rfl, rfl, rfl, by decide +kernel, rfl, by decide +kernel, by decide +kernel⟩
theorem ok_fau (F : Fun K "faults_of" "faults_of" slFau f fd) (DX : Df P w K mg base CX0 "crosses" 2 ["prices", "behind", "pair"] (spBar K "cross" crossL)) (DC : Df P w K mg base CX0 "columns" 2 ["prices", "behind", "pair"] (spBar K "column" colL)) (DL : Df P w K mg base CX0 "lines" 2 ["prices", "behind", "pair"] (spBar K "row" rowL)) (HC : Df P w K mg base CX0 "has_columns" 1 ["kind"] (spHasK hasC)) (HR : Df P w K mg base CX0 "has_rows" 1 ["kind"] (spHasK hasR)) :
    FnOk P w K mg base CX0 3 f fd ["prices", "behind", "pair", "kind"] (spFau K) := by
  refine F.ok sclFau (fun vs H Q E h => ?_) (fun cdv A outer s H vs Q E hr h => ?_)
  · obtain ⟨p, a, b, v, es, R, B, i, j, z, rfl, _⟩ := h
    rfl
  · obtain ⟨p, a, b, v, es, R, B, i, j, z, rfl, Z, k⟩ := h
    refine ⟨_, (pss_cons (ps_set (i := 4) sclFau.nd rfl (Or.inl rfl) (pe_df DX hr (by decide) (pa_cons (pv 0) (pa_cons (pv 1) (pa_cons (pv 2) pa_nil)))))
  (C8.pss_cut (ps_if (pt_val (pe_df HC hr (by decide) (pa_cons (pv 3) pa_nil))) (pss_one (ps_set (i := 4) sclFau.nd rfl (Or.inl rfl) (pe_op op_cat (pv 4) (pe_df DC hr (by decide) (pa_cons (pv 0) (pa_cons (pv 1) (pa_cons (pv 2) pa_nil))))))) pss_nil)
  (C8.pss_cut (ps_if (pt_val (pe_df HR hr (by decide) (pa_cons (pv 3) pa_nil))) (pss_one (ps_set (i := 4) sclFau.nd rfl (Or.inl rfl) (pe_op op_cat (pv 4) (pe_df DL hr (by decide) (pa_cons (pv 0) (pa_cons (pv 1) (pa_cons (pv 2) pa_nil))))))) pss_nil)
  (pss_one (ps_ret (pv 4)))))), ?_⟩
    walk_at "rd"
    refine ⟨p, a, b, v, es, R, B, i, j, rfl, Z, fun r1 us1 H1 s1 h1 l1 f1 => ?_⟩
    have Z1 := Z.same s1
    walk_at "rd"
    refine r_cut (fun σ' H' => ∃ r us, σ' = [some (.ref a), some (.ref b), some v, some (.str z), some (.ref r)] ∧ Same H H' ∧ H' r = some (.lst us) ∧ us.length ≤ 128 ∧ FtsAt p H' v us (wrd "cross" (crossL R B i j) ++ (if hasC z = true then wrd "column" (colL R B i j) else []))) ?_ ?_
    · walk_at "rd"
      refine ⟨z, rfl, ?_⟩
      walk_at "rd"
      by_cases c : hasC z = true
      · refine ifT c ?_
        rw [if_pos c]
        walk_at "rd"
        refine ⟨p, a, b, v, es, R, B, i, j, rfl, Z1, fun r2 us2 H2 s2 h2 l2 f2 => ?_⟩
        refine r_cat (s2 _ _ h1) h2 (Nat.le_trans (show us1.length + us2.length ≤ 128 by omega) (by decide)) fun q nq => ?_
        have s3 := Same.up (o := .lst (us1 ++ us2)) (Same.refl H2) nq
        walk_at "rd"
        exact ⟨q, _, rfl, (s1.trans s2).trans s3, upd_same, by rw [List.length_append]; omega, ((f1.same s2).same s3).app (f2.same s3)⟩
      · refine ifF (Bool.eq_false_iff.mpr c) ?_
        rw [if_neg c, List.append_nil]
        exact ⟨r1, us1, rfl, s1, h1, by omega, f1⟩
    · rintro σ' H2 ⟨r2, us2, rfl, s2, h2, l2, f2⟩
      have Z2 := Z.same s2
      walk_at "rd"
      refine r_cut (fun σ' H' => ∃ r us, σ' = [some (.ref a), some (.ref b), some v, some (.str z), some (.ref r)] ∧ Same H H' ∧ H' r = some (.lst us) ∧ us.length ≤ 200 ∧ FtsAt p H' v us (fauL R B i j z)) ?_ ?_
      · walk_at "rd"
        refine ⟨z, rfl, ?_⟩
        walk_at "rd"
        unfold fauL
        by_cases c : hasR z = true
        · refine ifT c ?_
          rw [if_pos c]
          walk_at "rd"
          refine ⟨p, a, b, v, es, R, B, i, j, rfl, Z2, fun r3 us3 H3 s3 h3 l3 f3 => ?_⟩
          refine r_cat (s3 _ _ h2) h3 (Nat.le_trans (show us2.length + us3.length ≤ 192 by omega) (by decide)) fun q nq => ?_
          have s4 := Same.up (o := .lst (us2 ++ us3)) (Same.refl H3) nq
          walk_at "rd"
          exact ⟨q, _, rfl, (s2.trans s3).trans s4, upd_same, by rw [List.length_append]; omega, ((f2.same s3).same s4).app (f3.same s4)⟩
        · refine ifF (Bool.eq_false_iff.mpr c) ?_
          rw [if_neg c, List.append_nil]
          exact ⟨r2, us2, rfl, s2, h2, by omega, f2⟩
      · rintro σ' H3 ⟨r3, us3, rfl, s3, h3, l3, f3⟩
        walk_at "rd"
        exact k r3 us3 H3 s3 h3 l3 f3
end
end Pk
set_option Elab.async false
set_option linter.all false
set_option maxRecDepth 100000
set_option maxHeartbeats 1000000
namespace Pk
open PySem L2 PySem.Spec PyProof.Rows
/-- list.remove, of a pair in a list of pairs -/
def rRemP (K : PySem.W.Frag) : V → List V → Hp → VK → Prop := fun x xs H Q => ∃ (a : Addr) (y : V) (us : List V) (z : Pr) (zs : List Pr) (j : Nat), x = V.ref a ∧ xs = [y] ∧ H a = some (.lst us) ∧ DpAll K H us (zs.map prD) ∧ Dp K H y (prD z) ∧ zs[j]? = some z ∧ (∀ m : Nat, m < j → zs[m]? ≠ some z) ∧ Q .non (upd H a (.lst (us.eraseIdx j)))
theorem place_pr : ∀ {zs : List Pr} {z : Pr} {j : Nat}, zs[j]? = some z → (∀ m : Nat, m < j → zs[m]? ≠ some z) → SeqAt.dataPlace (zs.map prD) (prD z) = some j := by
  intro zs z j hj hno
  unfold SeqAt.dataPlace
  rw [List.findIdx?_eq_some_iff_getElem]
  obtain ⟨h1, h2⟩ := List.getElem?_eq_some_iff.mp hj
  have eq : ∀ a b : Pr, PyData.eqv (prD a) (prD b) = decide (a = b) := fun a b => by
    have := PySem.W.any_datum (α := Int × Int) [a] b
    have e : ([a].map prD).any (fun y => PyData.eqv y (prD b)) = decide (b ∈ [a]) := this.trans (decide_eq_decide.mpr Iff.rfl)
    simp only [List.map_cons, List.map_nil, List.any_cons, List.any_nil, Bool.or_false, List.mem_singleton] at e
    rw [e]
    exact decide_eq_decide.mpr ⟨fun h => h.symm, fun h => h.symm⟩
  refine ⟨by rw [List.length_map]; exact h1, ?_, fun m hm => ?_⟩
  · rw [List.getElem_map, eq, h2]
    exact decide_eq_true rfl
  · rw [List.getElem_map, eq, decide_eq_true_eq]
    intro e
    exact hno m hm (by rw [List.getElem?_eq_getElem (by omega), e])
theorem vals_erase {vs : List V} {us : List Value} (r : Vals vs us) (j : Nat) : Vals (vs.eraseIdx j) (us.eraseIdx j) := r.eraseIdx j
theorem mt_removeP {X : Cx} (hu : X.A.units + 64 < cLine) : MtM X "list.remove" (rRemP X.K) := by
  intro pins s σ H x xs v us Q I rx rxs h
  obtain ⟨a, y, ws, z, zs, j, rfl, rfl, hH, hda, hy, hj, hno, q⟩ := h
  cases rx
  obtain ⟨u, rfl, ry⟩ := rxs.one
  obtain ⟨bs, r1⟩ := Dp.reads I (prD z) y u hy ry
  obtain ⟨z1, its, n, r, hl, e⟩ := I.lstM hH
  obtain ⟨as, h4⟩ := Dp.readsAll I _ _ its hda r
  have dp := prs_depthAll zs
  refine SeqAt.remove_list_data (vs := its.toArray) ⟨_, e, rfl, n, rfl⟩ (by simpa using h4) r1 (prs_plainAll zs) (pr_plain z) (by omega) (place_pr hj hno) (by rw [List.size_toArray]; omega) ?_
  have rr := r.eraseIdx j
  refine ⟨.non, _, I.lset (its' := its.eraseIdx j) (t' := s.toks) hH e ?_ rr ?_, rfl, q⟩
  · show its.toArray.eraseIdxIfInBounds j = (its.eraseIdx j).toArray
    rw [List.eraseIdxIfInBounds_toArray]
  · have : (ws.eraseIdx j).length ≤ ws.length := List.length_eraseIdx_le ..
    omega
end Pk
set_option Elab.async false
set_option linter.all false
set_option maxRecDepth 100000
set_option maxHeartbeats 4000000
namespace Pk
open PySem L2
local macro_rules | `(tactic| walk_at "rd") => `(tactic| repeat (first
  | with_reducible refine r_seq ?_ | with_reducible refine r_nxt ?_ | with_reducible refine r_asg ?_ | with_reducible refine r_to ?_ | with_reducible refine r_ret ?_ | with_reducible refine r_for ?_ | with_reducible refine r_lc ?_ | with_reducible refine r_lc2 ?_ | with_reducible refine r_rng1 ?_ | with_reducible refine r_list ?_ | with_reducible refine r_tupI ?_ | with_reducible refine r_drop ?_ | with_reducible refine r_ifs ?_
  | with_reducible refine r_op ?_ | with_reducible refine r_c ?_ | with_reducible refine r_var rfl ?_ | with_reducible refine r_var (by assumption) ?_ | with_reducible refine r_I0 ?_ | with_reducible refine r_un ?_ | with_reducible refine r_U ?_ | with_reducible refine r_make ?_ | with_reducible refine r_makeS ?_ | with_reducible refine r_ifE ?_ | with_reducible refine r_cm ?_ | with_reducible refine r_mkV rfl ?_ | with_reducible refine r_sub ?_
  | with_reducible refine r_nil ?_ | with_reducible refine r_cons ?_ | with_reducible refine r_cb ?_ | with_reducible refine r_sl ?_ | with_reducible refine r_noP ?_ | with_reducible refine r_part ?_ | with_reducible refine r_isI ?_ | with_reducible refine r_lst ?_ | with_reducible refine r_tup ?_ | with_reducible refine r_call ?_ | with_reducible refine r_callS ?_ | with_reducible refine r_sFldU ?_ | with_reducible refine r_chain ?_ | with_reducible refine r_enum ?_ | with_reducible refine r_zip ?_ | with_reducible refine r_rng3 ?_ | with_reducible refine r_gtup ?_ | with_reducible refine r_methU ?_
  | with_reducible refine r_test ?_ | with_reducible refine r_B ?_ | with_reducible refine r_and ?_ | with_reducible refine r_or ?_ | with_reducible refine r_not ?_ | with_reducible refine r_andV ?_ | with_reducible refine r_orV ?_ | with_reducible refine r_notV ?_ | with_reducible refine r_bl ?_ | with_reducible refine r_yes ?_ | with_reducible refine r_int ?_ | with_reducible refine r_is0 ?_ | with_reducible refine r_is1 ?_ | with_reducible refine iteT ?_ | with_reducible refine iteF ?_ | with_reducible refine ite_nF ?_ | with_reducible refine ite_nT ?_
  | with_reducible refine r_mod (by decide) ?_ | with_reducible refine r_div (by decide) (by decide) ?_ | with_reducible refine r_mulR (by decide) (by decide) ?_ | with_reducible refine r_mulL (by decide) (by decide) ?_ | with_reducible refine r_pow (by decide) (by decide) (by decide) ?_))
/-! ### what may stand, as a list -/
def tTr (K : PySem.W.Frag) (ta : TE) : TT := fun σ H Q => ta σ H fun x H' => ∃ k, TruV K x H' k ∧ Q k H'
def mayL (R : Rw) (zs : List Pr) (k : Str) : List Pr := (freeL R zs).filter fun z => (fauL R (inB (freeL R zs)) z.1.toNat z.2.toNat k).isEmpty
theorem free_mem {R : Rw} {zs : List Pr} {z : Pr} : z ∈ freeL R zs ↔ z ∈ cells R ∧ z ∉ zs := by
  unfold freeL
  rw [List.mem_filter, Bool.not_eq_true', decide_eq_false_iff_not]
theorem free_len {R : Rw} (g : Gt R) (zs : List Pr) : (freeL R zs).length ≤ 64 := Nat.le_trans (List.length_filter_le _ _) (cells_len g)
theorem free_in {R : Rw} (zs : List Pr) : InR R.length (wd R) (freeL R zs) := fun z h => by
  obtain ⟨i, j, e, hi, hj, _⟩ := cells_nat (free_mem.mp h).1
  exact ⟨i, j, e, hi, hj⟩
theorem free_sub {R : Rw} (zs : List Pr) : ∀ r s, r < R.length → s < wd R → inB (freeL R zs) r s = true → (prc R r s).isSome = true := fun r s hr hs h => by
  have m := of_decide_eq_true h
  exact (mem_cells.mp (free_mem.mp m).1).2.2
/-! ### what stays: fewer marks, fewer bars -/
theorem stB_in {B : Nat → Nat → Bool} {n i j r : Nat} (h1 : r < n) (h2 : r ≠ i) (h3 : B r j = true) : r ∈ stB B n i j := by
  unfold stB
  rw [List.mem_filter, List.mem_range]
  exact ⟨h1, by rw [decide_eq_false h2, h3]; rfl⟩
theorem wiB_in {B : Nat → Nat → Bool} {w i j s : Nat} (h1 : s < w) (h2 : s ≠ j) (h3 : B i s = true) : s ∈ wiB B w i j := by
  unfold wiB
  rw [List.mem_filter, List.mem_range]
  exact ⟨h1, by rw [decide_eq_false h2, h3]; rfl⟩
theorem fau_mono {R : Rw} {B B' : Nat → Nat → Bool} (m : ∀ r s, B' r s = true → B r s = true) {i j : Nat} {k : Str} {f : Str × Pr} (h : f ∈ fauL R B' i j k) : f ∈ fauL R B i j k := by
  have st : ∀ {r}, r ∈ stB B' R.length i j → r ∈ stB B R.length i j := fun h => by
    obtain ⟨a, b, c⟩ := stB_mem h
    exact stB_in a b (m _ _ c)
  have wi : ∀ {s}, s ∈ wiB B' (wd R) i j → s ∈ wiB B (wd R) i j := fun h => by
    obtain ⟨a, b, c⟩ := wiB_mem h
    exact wiB_in a b (m _ _ c)
  unfold fauL wrd at h ⊢
  rcases List.mem_append.mp h with h | h
  · rcases List.mem_append.mp h with h | h
    · refine List.mem_append_left _ (List.mem_append_left _ ?_)
      obtain ⟨c, hc, rfl⟩ := List.mem_map.mp h
      refine List.mem_map.mpr ⟨c, ?_, rfl⟩
      unfold crossL at hc ⊢
      obtain ⟨r, hr, hc⟩ := List.mem_flatMap.mp hc
      refine List.mem_flatMap.mpr ⟨r, st hr, ?_⟩
      unfold crRow at hc ⊢
      obtain ⟨s, hs, rfl⟩ := List.mem_map.mp hc
      obtain ⟨h1, h2⟩ := List.mem_filter.mp hs
      exact List.mem_map.mpr ⟨s, List.mem_filter.mpr ⟨wi h1, h2⟩, rfl⟩
    · refine List.mem_append_left _ (List.mem_append_right _ ?_)
      by_cases c : hasC k = true
      · rw [if_pos c] at h ⊢
        obtain ⟨c, hc, rfl⟩ := List.mem_map.mp h
        refine List.mem_map.mpr ⟨c, ?_, rfl⟩
        unfold colL at hc ⊢
        obtain ⟨r, hr, rfl⟩ := List.mem_map.mp hc
        obtain ⟨h1, h2⟩ := List.mem_filter.mp hr
        exact List.mem_map.mpr ⟨r, List.mem_filter.mpr ⟨st h1, h2⟩, rfl⟩
      · rw [if_neg c] at h
        cases h
  · refine List.mem_append_right _ ?_
    by_cases c : hasR k = true
    · rw [if_pos c] at h ⊢
      obtain ⟨c, hc, rfl⟩ := List.mem_map.mp h
      refine List.mem_map.mpr ⟨c, ?_, rfl⟩
      unfold rowL at hc ⊢
      obtain ⟨s, hs, rfl⟩ := List.mem_map.mp hc
      obtain ⟨h1, h2⟩ := List.mem_filter.mp hs
      exact List.mem_map.mpr ⟨s, List.mem_filter.mpr ⟨wi h1, h2⟩, rfl⟩
    · rw [if_neg c] at h
      cases h
theorem fau_nil {R : Rw} {B B' : Nat → Nat → Bool} (m : ∀ r s, B' r s = true → B r s = true) {i j : Nat} {k : Str} (h : fauL R B i j k = []) : fauL R B' i j k = [] :=
  List.eq_nil_iff_forall_not_mem.mpr fun f hf => by
    have := fau_mono m hf
    rw [h] at this
    cases this
theorem free_mono {R : Rw} {A B : List Pr} (s : ∀ z, z ∈ A → z ∈ B) {z : Pr} (h : z ∈ freeL R B) : z ∈ freeL R A :=
  free_mem.mpr ⟨(free_mem.mp h).1, fun m => (free_mem.mp h).2 (s z m)⟩
theorem may_mem {R : Rw} {zs : List Pr} {k : Str} {z : Pr} : z ∈ mayL R zs k ↔ z ∈ freeL R zs ∧ fauL R (inB (freeL R zs)) z.1.toNat z.2.toNat k = [] := by
  unfold mayL
  rw [List.mem_filter, List.isEmpty_iff]
theorem may_mono {R : Rw} {A B : List Pr} {k : Str} (s : ∀ z, z ∈ A → z ∈ B) {z : Pr} (h : z ∈ mayL R A k) (n : z ∉ B) : z ∈ mayL R B k := by
  obtain ⟨h1, h2⟩ := may_mem.mp h
  exact may_mem.mpr ⟨free_mem.mpr ⟨(free_mem.mp h1).1, n⟩, fau_nil (fun r s' b => decide_eq_true (free_mono s (of_decide_eq_true b))) h2⟩
theorem may_nodup (R : Rw) (zs : List Pr) (k : Str) : (mayL R zs k).Nodup := List.Pairwise.filter _ (List.Pairwise.filter _ (cells_nodup R))
theorem free_nodup (R : Rw) (zs : List Pr) : (freeL R zs).Nodup := List.Pairwise.filter _ (cells_nodup R)
theorem may_len {R : Rw} (g : Gt R) (zs : List Pr) (k : Str) : (mayL R zs k).length ≤ 64 := Nat.le_trans (List.length_filter_le _ _) (free_len g zs)
theorem one_of {l : List Pr} {z : Pr} (nd : l.Nodup) (h : ∀ y, y ∈ l ↔ y = z) : l = [z] := by
  cases l with
  | nil => exact absurd ((h z).mpr rfl) (by intro m; cases m)
  | cons a r =>
    obtain rfl := (h a).mp (List.mem_cons_self ..)
    cases r with
    | nil => rfl
    | cons b t =>
      obtain rfl := (h b).mp (List.mem_cons_of_mem _ (List.mem_cons_self ..))
      exact absurd (List.mem_cons_self ..) (List.nodup_cons.mp nd).1
theorem fau_one {R : Rw} {B : Nat → Nat → Bool} {i j : Nat} {k : Str} (h : ∀ r s, B r s = true → r = i ∧ s = j) : fauL R B i j k = [] := by
  have a : stB B R.length i j = [] := List.eq_nil_iff_forall_not_mem.mpr fun r hr => (stB_mem hr).2.1 (h _ _ (stB_mem hr).2.2).1
  have b : wiB B (wd R) i j = [] := List.eq_nil_iff_forall_not_mem.mpr fun s hs => (wiB_mem hs).2.1 (h _ _ (wiB_mem hs).2.2).2
  unfold fauL crossL colL rowL
  rw [a, b]
  split <;> split <;> rfl
/-- when one pair is left it may stand -/
theorem may_one {R : Rw} {zs : List Pr} {k : Str} {z : Pr} (h : ∀ y, y ∈ freeL R zs ↔ y = z) : mayL R zs k = [z] := by
  have zf := (h z).mpr rfl
  obtain ⟨i, j, rfl, _⟩ := cells_nat (free_mem.mp zf).1
  refine one_of (may_nodup R zs k) fun y => ⟨fun m => (h y).mp (may_mem.mp m).1, fun e => ?_⟩
  subst e
  refine may_mem.mpr ⟨zf, fau_one fun r s b => ?_⟩
  have e := (h _).mp (of_decide_eq_true b)
  have e1 := (Prod.mk.inj e).1
  have e2 := (Prod.mk.inj e).2
  exact ⟨by simp only [Int.toNat_natCast]; omega, by simp only [Int.toNat_natCast]; omega⟩
theorem count_one : ∀ {l : List Pr} {z : Pr}, l.Nodup → z ∈ l → (l.countP fun u => decide (u = z)) = 1
  | [], z, _, m => by cases m
  | a :: r, z, nd, m => by
    obtain ⟨n1, n2⟩ := List.nodup_cons.mp nd
    by_cases e : a = z
    · subst e
      rw [List.countP_cons_of_pos (by exact decide_eq_true rfl), List.countP_eq_zero.mpr fun u hu c => n1 (by rw [← of_decide_eq_true c]; exact hu)]
    · rw [List.countP_cons_of_neg (by rw [decide_eq_false e]; exact Bool.false_ne_true)]
      rcases List.mem_cons.mp m with h | h
      · exact absurd h.symm e
      · exact count_one n2 h
/-- a part of the placed pairs -/
theorem PlG.cut {p C : Addr} {H : Hp} {x a q : Addr} {G : Hp} {R : Rw} {us : List V} {zs : List Pr} (L : PlG p C H x a G R us zs) (nq : H q = none) (n : Nat) : PlG p C (upd H q (.lst (us.take n))) x q G R (us.take n) (zs.take n) := by
  have s := Same.up (o := .lst (us.take n)) (Same.refl H) nq
  obtain ⟨o, ho⟩ := L.pp
  exact ⟨L.t, L.s.trans s, L.off, ⟨o, s _ _ ho⟩, upd_same, (L.pr.take n).keep (Keep.same s), L.nd.sublist (List.take_sublist n zs), fun z hz => L.sub z (List.mem_of_mem_take hz)⟩
theorem left_free {R : Rw} {ys : List Pr} (nd : ys.Nodup) (sub : ∀ z, z ∈ ys → z ∈ cells R) (full : ∀ z, z ∈ cells R → z ∈ ys) (k : Nat) (z : Pr) : z ∈ freeL R (ys.take k) ↔ z ∈ ys.drop k := by
  have d := List.nodup_append.mp (by rw [List.take_append_drop k ys]; exact nd : (ys.take k ++ ys.drop k).Nodup)
  constructor
  · intro h
    have m := full z (free_mem.mp h).1
    rw [← List.take_append_drop k ys] at m
    rcases List.mem_append.mp m with m | m
    · exact absurd m (free_mem.mp h).2
    · exact m
  · intro h
    exact free_mem.mpr ⟨sub z (List.mem_of_mem_drop h), fun m => d.2.2 z m z h rfl⟩
/-! ### growing: always the least pair that may stand next -/
theorem r_par3g {i j l : Nat} {ta : TA} {D : Ends} {σ : L2.St} {H : Hp} (h : ta σ H fun vs H1 => ∃ u v w, vs = [u, v, w] ∧ D.nx (((σ.set i (some u)).set j (some v)).set l (some w)) H1) : tPar3 i j l ta D σ H := h
theorem mkB_clrG {w j : Nat} {f : Nat → Bool} : (mkB w f).set j (.bl false) = mkB w fun k => f k && !decide (k = j) := by
  unfold mkB
  refine List.ext_getElem (by simp) fun i h1 h2 => ?_
  simp only [List.getElem_set, List.getElem_map, List.getElem_range]
  by_cases c : j = i
  · subst c
    simp
  · have : ¬ i = j := fun z => c z.symm
    simp [c, this]
theorem inB_more {R : Rw} {zs : List Pr} {i j : Nat} (a b : Nat) : inB (freeL R (zs ++ [((i : Int), (j : Int))])) a b = (inB (freeL R zs) a b && !(decide (a = i) && decide (b = j))) := by
  unfold inB
  have e : (((a : Int), (b : Int)) = ((i : Int), (j : Int))) ↔ (a = i ∧ b = j) := by
    constructor
    · intro h
      have h1 := (Prod.mk.inj h).1
      have h2 := (Prod.mk.inj h).2
      omega
    · rintro ⟨rfl, rfl⟩
      rfl
  rw [Bool.eq_iff_iff, decide_eq_true_eq, Bool.and_eq_true, decide_eq_true_eq, Bool.not_eq_true', Bool.and_eq_false_iff, decide_eq_false_iff_not, decide_eq_false_iff_not, free_mem, free_mem, List.mem_append, List.mem_singleton, e]
  constructor
  · rintro ⟨h1, h2⟩
    refine ⟨⟨h1, fun h => h2 (.inl h)⟩, ?_⟩
    by_cases c : a = i
    · exact .inr fun d => h2 (.inr ⟨c, d⟩)
    · exact .inl c
  · rintro ⟨⟨h1, h2⟩, h3⟩
    refine ⟨h1, ?_⟩
    rintro (h | ⟨c, d⟩)
    · exact h2 h
    · rcases h3 with h3 | h3
      · exact h3 c
      · exact h3 d
theorem erase_at {l : List Pr} {z : Pr} : ∀ {j : Nat}, l.Nodup → l[j]? = some z → l.eraseIdx j = l.filter fun y => !decide (y = z) := by
  induction l with
  | nil => intro j _ e; simp at e
  | cons a r ih =>
    intro j nd e
    obtain ⟨n1, n2⟩ := List.nodup_cons.mp nd
    cases j with
    | zero =>
      cases e
      rw [List.eraseIdx_cons_zero, List.filter_cons_of_neg (by simp)]
      exact (List.filter_eq_self.mpr fun y hy => by
        have : y ≠ z := fun e => n1 (e ▸ hy)
        simp [this]).symm
    | succ j =>
      have e' : r[j]? = some z := e
      have zr := List.mem_of_getElem? e'
      have : a ≠ z := fun h => n1 (h ▸ zr)
      rw [List.eraseIdx_cons_succ, List.filter_cons_of_pos (by simp [this]), ih n2 e']
theorem free_more (R : Rw) (zs : List Pr) (z : Pr) : freeL R (zs ++ [z]) = (freeL R zs).filter fun y => !decide (y = z) := by
  unfold freeL
  rw [List.filter_filter]
  refine List.filter_congr fun y _ => ?_
  rw [Bool.eq_iff_iff, Bool.not_eq_true', decide_eq_false_iff_not, Bool.and_eq_true, Bool.not_eq_true', Bool.not_eq_true', decide_eq_false_iff_not, decide_eq_false_iff_not, List.mem_append, List.mem_singleton]
  exact ⟨fun h => ⟨fun a => h (.inr a), fun a => h (.inl a)⟩, fun ⟨a, b⟩ h => h.elim b a⟩
theorem PrsAt.erase {p : Addr} {H : Hp} {vs : List V} {zs : List Pr} (h : PrsAt p H vs zs) (j : Nat) : PrsAt p H (vs.eraseIdx j) (zs.eraseIdx j) := by
  rw [List.eraseIdx_eq_take_drop_succ, List.eraseIdx_eq_take_drop_succ]
  exact (h.take j).app (h.drop (j + 1))
structure Grw (R : Rw) (k : Str) (zs : List Pr) : Prop where
  nd : zs.Nodup
  sub : ∀ z, z ∈ zs → z ∈ cells R
  gw : ∀ (i : Nat) (z : Pr), zs[i]? = some z → (mayL R (zs.take i) k).head? = some z
theorem Grw.nil (R : Rw) (k : Str) : Grw R k [] := ⟨List.nodup_nil, (fun z h => by cases h), (fun i z e => by simp at e)⟩
theorem Grw.more {R : Rw} {k : Str} {zs : List Pr} {z : Pr} (g : Grw R k zs) (h : (mayL R zs k).head? = some z) : Grw R k (zs ++ [z]) := by
  have zf : z ∈ freeL R zs := (List.mem_filter.mp (List.mem_of_mem_head? h)).1
  obtain ⟨zc, zn⟩ := free_mem.mp zf
  refine ⟨?_, fun y hy => ?_, fun i y e => ?_⟩
  · rw [List.nodup_append]
    exact ⟨g.nd, by simp, fun a ha b hb e => by rw [List.mem_singleton.mp hb] at e; exact zn (e ▸ ha)⟩
  · rcases List.mem_append.mp hy with hy | hy
    · exact g.sub y hy
    · rw [List.mem_singleton.mp hy]; exact zc
  · by_cases c : i < zs.length
    · rw [List.getElem?_append_left c] at e
      rw [List.take_append_of_le_length (by omega)]
      exact g.gw i y e
    · rw [List.getElem?_append_right (by omega)] at e
      have : i = zs.length := by
        by_cases d : i - zs.length = 0
        · omega
        · obtain ⟨m, hm⟩ : ∃ m, i - zs.length = m + 1 := ⟨i - zs.length - 1, by omega⟩
          rw [hm] at e
          simp at e
      subst this
      rw [Nat.sub_self] at e
      cases e
      rw [List.take_left']
      · exact h
      · rfl
theorem sub_len : ∀ {xs ys : List Pr}, xs.Nodup → (∀ z, z ∈ xs → z ∈ ys) → xs.length ≤ ys.length
  | [], ys, _, _ => Nat.zero_le _
  | a :: t, ys, nd, sub => by
    obtain ⟨n1, n2⟩ := List.nodup_cons.mp nd
    have m := sub a (List.mem_cons_self ..)
    have pm := List.perm_cons_erase m
    have len := pm.length_eq
    have := sub_len (ys := ys.erase a) n2 fun z hz => by
      have h := pm.mem_iff.mp (sub z (List.mem_cons_of_mem _ hz))
      rcases List.mem_cons.mp h with h | h
      · exact absurd (h ▸ hz) n1
      · exact h
    rw [List.length_cons] at len ⊢
    omega
theorem Grw.len {R : Rw} {k : Str} {zs : List Pr} (g : Grw R k zs) (gt : Gt R) : zs.length ≤ 64 := Nat.le_trans (sub_len g.nd g.sub) (cells_len gt)
/-- what stands next -/
def NextAt (p : Addr) (H : Hp) (u : V) : Option Pr → Prop
  | none => u = .non
  | some z => PrAt p H u z
theorem NextAt.keep {p : Addr} {H H' : Hp} {u : V} {o : Option Pr} (h : NextAt p H u o) (k : Keep p H H') : NextAt p H' u o := by
  cases o with
  | none => exact h
  | some z => exact PrAt.keep h k
def spLeastF (K : PySem.W.Frag) : Sp := fun vs H Q _ => ∃ (p a q b : Addr) (es ws : List V) (R : Rw) (zs : List Pr) (k : Str), vs = [.ref a, .ref q, .ref b, .str k] ∧ RS K H a es R ∧ Gt R ∧ H q = some (.lst ws) ∧ PrsAt p H ws (freeL R zs) ∧ BS H b R.length (wd R) (inB (freeL R zs)) ∧ (∃ o, H p = some o) ∧
  ∀ (u : V) (H' : Hp), Same H H' → NextAt p H' u (mayL R zs k).head? → Q u H'
def spGrown (C : Addr) : Sp := fun vs H Q _ => ∃ (p x : Addr) (G : Hp) (R : Rw) (k : Str), vs = [.ref x, .str k] ∧ TbX C G x R ∧ Same G H ∧ G p = none ∧ (∃ o, H p = some o) ∧
  ∀ (t r1 r2 : Addr) (us ws : List V) (zs : List Pr) (H' : Hp), Same H H' → H r1 = none → H r2 = none → r1 ≠ p → r2 ≠ p → H' t = some (.tup [.ref r1, .ref r2]) → H' r1 = some (.lst us) → H' r2 = some (.lst ws) → PrsAt p H' us zs → PrsAt p H' ws (freeL R zs) → Grw R k zs → mayL R zs k = [] → Q (.ref t) H'
abbrev slLeastF : Stmt := top 30
abbrev slGrown : Stmt := top 31
section
variable {P : Program} {w : World} {K : PySem.W.Frag} {mg : Str → Option Value} {base : Heap} {C f aK : Addr} {fd : FuncData}
theorem sclLeastF : FnScope ["prices", "free", "behind", "kind", "pair"] ["prices", "free", "behind", "kind"] (defScope slLeastF) := ⟨rfl, rfl, rfl, by decide +kernel, rfl, by decide +kernel, by decide +kernel⟩
theorem ok_leastF (F : Fun K "least_free" "least_free" slLeastF f fd) (DF : Df P w K mg base CX0 "faults_of" 3 ["prices", "behind", "pair", "kind"] (spFau K)) : FnOk P w K mg base CX0 4 f fd ["prices", "free", "behind", "kind"] (spLeastF K) := by
  refine F.ok sclLeastF (fun vs H Q E h => ?_) (fun cdv A' outer s H vs Q E hr h => ?_)
  · obtain ⟨p, a, q, b, es, ws, R, zs, k, rfl, _⟩ := h
    rfl
  · obtain ⟨p, a, q, b, es, ws, R, zs, kd, rfl, rs, g, hq, hw, bs, hop, k⟩ := h
    obtain ⟨op, hop⟩ := hop
    have wl := hw.length
    refine ⟨_, (pss_cons (ps_for PassesOwn.never rfl (pi_list (pv 1)) (pg_name (i := 4) sclLeastF.nd rfl (Or.inl rfl)) (pss_one (ps_if (pt_not (pt_truth (pe_df DF hr (by decide) (pa_cons (pv 0) (pa_cons (pv 2) (pa_cons (pv 4) (pa_cons (pv 3) pa_nil))))) (fun _ => rfl))) (pss_one (ps_ret (pv 4))) pss_nil)))
  (pss_one (ps_ret pe_non))), ?_⟩
    walk_at "rd"
    refine ⟨q, rfl, ⟨_, SqL.of hq⟩, for_it walk_list (fun m σ H' => ∃ v4, σ = [some (.ref a), some (.ref q), some (.ref b), some (.str kd), v4] ∧ Same H H' ∧ ((freeL R zs).take m).filter (fun z => (fauL R (inB (freeL R zs)) z.1.toNat z.2.toNat kd).isEmpty) = []) ⟨_, rfl, Same.refl _, rfl⟩ (fun m σ H' _ z => by obtain ⟨_, _, z, _⟩ := z; exact SqL.of (z _ _ hq)) ?_ ?_⟩
    · rintro m y σ H20 H2 hm ⟨v4, rfl, s2, none⟩ ⟨rfl, ey⟩
      obtain ⟨z, ez, pz⟩ := hw.at ey
      have zf := List.mem_of_getElem? ez
      obtain ⟨i, j, rfl, hi, hj, hs⟩ := cells_nat (free_mem.mp zf).1
      walk_at "rd"
      refine ⟨p, a, b, y, es, R, inB (freeL R zs), i, j, kd, rfl, ⟨rs.same s2, g, bs.same s2, pz.keep (Keep.same s2), hi, hj, free_sub zs, hs, ⟨op, s2 _ _ hop⟩⟩, fun r8 us8 H8 s8 h8 l8 f8 => ?_⟩
      refine ⟨!us8.isEmpty, .inl ⟨us8, SqL.of h8, rfl⟩, ?_⟩
      have e8 : us8.isEmpty = (fauL R (inB (freeL R zs)) i j kd).isEmpty := by
        have := f8.length
        cases us8 <;> cases e : fauL R (inB (freeL R zs)) i j kd <;> rw [e] at this <;> first | rfl | cases this
      show (if (!(!us8.isEmpty)) = true then _ else _)
      rw [Bool.not_not, e8]
      have s28 := s2.trans s8
      have spl : freeL R zs = (freeL R zs).take m ++ ((i : Int), (j : Int)) :: (freeL R zs).drop (m + 1) := by
        obtain ⟨hm2, eg⟩ := List.getElem?_eq_some_iff.mp ez
        rw [← eg, List.getElem_cons_drop, List.take_append_drop]
      by_cases c : (fauL R (inB (freeL R zs)) i j kd).isEmpty = true
      · refine ifT c ?_
        walk_at "rd"
        refine k _ _ s28 ?_
        have : (mayL R zs kd).head? = some ((i : Int), (j : Int)) := by
          have e : mayL R zs kd = ((freeL R zs).take m ++ ((i : Int), (j : Int)) :: (freeL R zs).drop (m + 1)).filter (fun z => (fauL R (inB (freeL R zs)) z.1.toNat z.2.toNat kd).isEmpty) := by
            rw [← spl]
            rfl
          rw [e, List.filter_append, none, List.nil_append, List.filter_cons_of_pos (by simp only [Int.toNat_natCast]; exact c)]
          rfl
        rw [this]
        exact pz.keep (Keep.same s28)
      · refine ifF (Bool.eq_false_iff.mpr c) ?_
        refine ⟨_, rfl, s28, ?_⟩
        rw [List.take_add_one, ez, List.filter_append, none, List.nil_append]
        exact List.filter_eq_nil_iff.mpr fun x hx => by
          rw [Option.toList_some, List.mem_singleton] at hx
          subst hx
          simp only [Int.toNat_natCast]
          exact c
    · rintro σ H2 ⟨v4, rfl, s2, none⟩
      walk_at "rd"
      refine k _ _ s2 ?_
      rw [wl, List.take_length] at none
      rw [show mayL R zs kd = [] from none]
      exact rfl
theorem sclGrown : FnScope ["table", "kind", "prices", "free", "placed", "behind", "pair"] ["table", "kind"] (defScope slGrown) := ⟨rfl, rfl, rfl, by decide +kernel, rfl, by decide +kernel, by decide +kernel⟩
theorem ok_grown {fR fQ : Addr} {fdR fdQ : FuncData} (F : Fun K "grown" "grown" slGrown f fd) (A : TbC K C) (mR : Meth K C "rows" fR) (oR : FnOk P w K mg base CX0 1 fR fdR ["self"] (spTRws C)) (bR : Binds K fdR ["self"] [])
    (mQ : Meth K C "pairs" fQ) (oQ : FnOk P w K mg base CX0 1 fQ fdQ ["self"] (spTPrs C)) (bQ : Binds K fdQ ["self"] [])
    (DM : Df P w K mg base CX0 "marks" 2 ["table", "pairs"] (spMarks C)) (DL : Df P w K mg base CX0 "least_free" 4 ["prices", "free", "behind", "kind"] (spLeastF K)) : FnOk P w K mg base CX0 5 f fd ["table", "kind"] (spGrown C) := by
  refine F.ok sclGrown (fun vs H Q E h => ?_) (fun cdv A' outer s H vs Q E hr h => ?_)
  · obtain ⟨p, x, G, R, k, rfl, _⟩ := h
    rfl
  · obtain ⟨p, x, G, R, kd, rfl, t, sG, off, ⟨op, hop⟩, k⟩ := h
    have hr1 := hr.mono (show 1 ≤ 4 by decide)
    obtain ⟨g, dx, e0, u0, es, ho, hl, hpl⟩ := id t
    have h8 := g.h8
    refine ⟨_, (pss_cons (ps_par3 (i := 2) (j := 3) (l := 4) rfl sclGrown.nd rfl rfl rfl (by decide) (by decide) (by decide) rfl rfl rfl (pa_cons (pe_meth0 (pv 0) A.O.cl mR oR hr1 bR .nil pass0) (pa_cons (pe_meth0 (pv 0) A.O.cl mQ oQ hr1 bQ .nil pass0) (pa_cons (pe_lst pa_nil) pa_nil))) rfl)
  (pss_cons (ps_set (i := 5) sclGrown.nd rfl (Or.inl rfl) (pe_df DM hr (by decide) (pa_cons (pv 0) (pa_cons (pv 3) pa_nil))))
  (pss_cons (ps_set (i := 6) sclGrown.nd rfl (Or.inl rfl) (pe_df DL hr (by decide) (pa_cons (pv 2) (pa_cons (pv 3) (pa_cons (pv 5) (pa_cons (pv 1) pa_nil))))))
  (pss_cons (ps_while (tc := tTest (tOp rIs1 (tVar 6) (tC .non))) PassesOwn.never (pt_cmpR op_is1 (pv 6) pe_non (nomark _)) (pss_cons (ps_expr (pe_bm PySem.F.plainAttrs_list PySem.F.slot_list_remove PySem.F.type_list_remove (mt_removeP hr.units) (pv 3) (pa_cons (pv 6) pa_nil)))
  (pss_cons (ps_asg pe_bl (pg_sub (pe_ix ix_list (pv 5) (pe_ix ix_tup (pv 6) pe_int (fun _ _ => rfl)) (fun _ _ => rfl)) (pe_ix ix_tup (pv 6) pe_int (fun _ _ => rfl)) set_list))
  (pss_cons (ps_expr (pe_bm PySem.F.plainAttrs_list PySem.F.slot_list_append PySem.F.type_list_append mt_append (pv 4) (pa_cons (pv 6) pa_nil)))
  (pss_one (ps_set (i := 6) sclGrown.nd rfl (Or.inl rfl) (pe_df DL hr (by decide) (pa_cons (pv 2) (pa_cons (pv 3) (pa_cons (pv 5) (pa_cons (pv 1) pa_nil)))))))))))
  (pss_one (ps_ret (pe_tup (pa_cons (pv 4) (pa_cons (pv 3) pa_nil))))))))), ?_⟩
    walk_at "rd"
    refine r_par3g ?_
    walk_at "rd"
    refine ⟨x, dx, _, rfl, sG _ _ ho, two_no (by decide +kernel) (by decide +kernel), ?_⟩
    walk_at "rd"
    refine ⟨x, G, R, rfl, t, sG, fun r3 es3 H1 n1 => ?_⟩
    obtain ⟨s1, nr3, rl3, _⟩ := n1
    have sG1 := sG.trans s1
    walk_at "rd"
    refine ⟨x, dx, _, rfl, sG1 _ _ ho, two_no (by decide +kernel) (by decide +kernel), ?_⟩
    walk_at "rd"
    refine ⟨x, G, R, rfl, t, sG1, fun q vs2 nq hv2 => ?_⟩
    have s2 := Same.up (o := .lst vs2) (Same.refl H1) nq
    have hq2 : upd H1 q (.lst vs2) q = some (.lst vs2) := upd_same
    obtain ⟨H2, eH2⟩ : ∃ H2, H2 = upd H1 q (.lst vs2) := ⟨_, rfl⟩
    rw [← eH2] at s2 hq2 ⊢
    have pv2 : PrsAt p H2 vs2 (cells R) := by
      have : ∀ {vs : List V} {zs : List Pr}, PrsAt x G vs zs → PrsAt p H2 vs zs := fun {vs zs} h => by
        induction h with
        | nil => exact .nil
        | cons h _ ih =>
          obtain ⟨t, e, n, ht⟩ := h
          exact .cons ⟨t, e, (fun z => by rw [z, off] at ht; cases ht), s2 _ _ (sG1 _ _ ht)⟩ ih
      exact this hv2
    have qp : q ≠ p := fun z => by rw [z, s1 _ _ hop] at nq; cases nq
    walk_at "rd"
    refine ⟨Nat.zero_le _, fun D nD => ?_⟩
    have s3 := Same.up (o := .lst []) (Same.refl H2) nD
    have hD3 : upd H2 D (.lst []) D = some (.lst []) := upd_same
    obtain ⟨H3, eH3⟩ : ∃ H3, H3 = upd H2 D (.lst []) := ⟨_, rfl⟩
    rw [← eH3] at s3 hD3 ⊢
    have D1 : H1 D = none := s2.free nD
    have Dp' : D ≠ p := fun z => by rw [z, s1 _ _ hop] at D1; cases D1
    have Dq : D ≠ q := fun z => by rw [z, hq2] at nD; cases nD
    have hq3 := s3 _ _ hq2
    have pv3 := pv2.keep (Keep.same s3)
    walk_at "rd"
    refine ⟨_, _, _, rfl, ?_⟩
    have cin : InR R.length (wd R) (cells R) := fun z h => by
      obtain ⟨i, j, e, hi, hj, _⟩ := cells_nat h
      exact ⟨i, j, e, hi, hj⟩
    walk_at "rd"
    refine ⟨p, x, q, G, R, vs2, cells R, rfl, t, sG1.trans (s2.trans s3), hq3, pv3, cin, cells_len g, fun b bs H4 s4 bk4 bl => ?_⟩
    have s13 := s2.trans s3
    have s14 := s13.trans s4
    have bq : b ≠ q := fun z => by have := bk4.nw; rw [z, hq3] at this; cases this
    have bD : b ≠ D := fun z => by have := bk4.nw; rw [z, hD3] at this; cases this
    have rowq : ∀ (i : Nat) (b' : Addr), bs[i]? = some (.ref b') → b' ≠ q ∧ b' ≠ D := fun i b' e => by
      obtain ⟨a', e1, _, n2, h1⟩ := bk4.row i _ e
      cases e1
      exact ⟨(fun z => by rw [z, hq3] at n2; cases n2), (fun z => by rw [z, hD3] at n2; cases n2)⟩
    have fr0 : freeL R [] = cells R := List.filter_eq_self.mpr fun z _ => by simp
    have bk14 : Bk H1 H4 b bs (wd R) (inB (freeL R [])) := by
      refine ⟨s13.free bk4.nw, bk4.at_, fun i v e => ?_, bk4.dist⟩
      obtain ⟨a', e1, n1, n2, h1⟩ := bk4.row i v e
      exact ⟨a', e1, n1, s13.free n2, by rw [fr0]; exact h1⟩
    have rs1 : RS K H1 r3 es3 R := rl3.rs (K := K)
    have hop1 := s1 _ _ hop
    walk_at "rd"
    refine ⟨p, r3, q, b, es3, vs2, R, [], kd, rfl, rs1.same s14, g, s4 _ _ hq3, by rw [fr0]; exact pv3.keep (Keep.same s4), bk14.bs bl, ⟨op, s14 _ _ hop1⟩, fun u5 H5 s5 nx5 => ?_⟩
    walk_at "rd"
    have s15 := s14.trans s5
    have bk15 : Bk H1 H5 b bs (wd R) (inB (freeL R [])) := by
      refine ⟨bk14.nw, s5 _ _ bk14.at_, fun i v e => ?_, bk14.dist⟩
      obtain ⟨a', e1, n1, n2, h1⟩ := bk14.row i v e
      exact ⟨a', e1, n1, n2, s5 _ _ h1⟩
    refine while_by (fun σ H' => ∃ zs us ws u, σ = [some (.ref x), some (.str kd), some (.ref r3), some (.ref q), some (.ref D), some (.ref b), some u] ∧ Same H1 H' ∧ H' q = some (.lst ws) ∧ PrsAt p H' ws (freeL R zs) ∧ H' D = some (.lst us) ∧ PrsAt p H' us zs ∧ Bk H1 H' b bs (wd R) (inB (freeL R zs)) ∧ Grw R kd zs ∧ NextAt p H' u (mayL R zs kd).head?)
      (fun σ H' => match H' q with | some (.lst ws) => ws.length | _ => 0)
      ⟨[], [], vs2, u5, rfl, s15, (s4.trans s5) _ _ hq3, by rw [fr0]; exact pv3.keep (Keep.same (s4.trans s5)), (s4.trans s5) _ _ hD3, .nil, bk15, Grw.nil R kd, nx5⟩ ?_ (fun σ H Q Q' h ⟨v, e, r, k, ek, q⟩ => ⟨v, e, r, k, ek, h _ _ q⟩)
    rintro σ H6 ⟨zs, us, ws, u, rfl, s6, hq6, pw6, hD6, pu6, bk6, gr, nx6⟩
    walk_at "rd"
    cases hm : (mayL R zs kd).head? with
    | none =>
      rw [hm] at nx6
      cases (show u = .non from nx6)
      refine ifF rfl ?_
      walk_at "rd"
      refine ⟨by show 2 ≤ sizeLine; decide, fun t7 n7 => ?_⟩
      have s7 := Same.up (o := .tup [V.ref D, V.ref q]) (Same.refl H6) n7
      refine k t7 D q us ws zs _ (s1.trans (s6.trans s7)) (s1.free D1) (s1.free nq) Dp' qp upd_same (s7 _ _ hD6) (s7 _ _ hq6) (pu6.keep (Keep.same s7)) (pw6.keep (Keep.same s7)) gr ?_
      exact List.head?_eq_none_iff.mp hm
    | some z =>
      rw [hm] at nx6
      obtain ⟨tz, rfl, tzp, htz⟩ := id (show PrAt p H6 u z from nx6)
      have zf : z ∈ freeL R zs := (List.mem_filter.mp (List.mem_of_mem_head? hm)).1
      obtain ⟨zc, zn⟩ := free_mem.mp zf
      obtain ⟨i, j, rfl, hi, hj, hs⟩ := cells_nat zc
      obtain ⟨n0, hn0, en0⟩ := List.getElem_of_mem zf
      have ez : (freeL R zs)[n0]? = some ((i : Int), (j : Int)) := by rw [List.getElem?_eq_getElem hn0, en0]
      have fnd := free_nodup R zs
      have noB : ∀ m, m < n0 → (freeL R zs)[m]? ≠ some ((i : Int), (j : Int)) := fun m hm e => by
        obtain ⟨h1, h2⟩ := List.getElem?_eq_some_iff.mp e
        exact (List.pairwise_iff_getElem.mp fnd) m n0 h1 hn0 hm (h2.trans en0.symm)
      have wl := pw6.length
      have fl := free_len g zs
      refine ifT rfl ?_
      walk_at "rd"
      refine r_bm ?_
      walk_at "rd"
      refine ⟨.inl ⟨rfl, _, SqL.of hq6⟩, ?_⟩
      walk_at "rd"
      refine ⟨q, _, ws, ((i : Int), (j : Int)), freeL R zs, n0, rfl, rfl, hq6, pw6.dp, (show PrAt p H6 _ _ from nx6).dp, ez, noB, ?_⟩
      have efree : (freeL R zs).eraseIdx n0 = freeL R (zs ++ [((i : Int), (j : Int))]) := by rw [erase_at fnd ez, free_more]
      have nt : ∀ c xs, H6 c = some (.tup xs) → c ≠ q := fun c xs e z => by rw [z, hq6] at e; cases e
      have s7 : Same H1 (upd H6 q (.lst (ws.eraseIdx n0))) := fun c o e => by
        rw [upd_ne (fun z => by rw [z, nq] at e; cases e)]
        exact s6 _ _ e
      have pw7 : PrsAt p (upd H6 q (.lst (ws.eraseIdx n0))) (ws.eraseIdx n0) (freeL R (zs ++ [((i : Int), (j : Int))])) := by
        rw [← efree]
        exact (pw6.erase n0).mono fun c xs e => by rw [upd_ne (nt c xs e)]; exact e
      have pu7 := pu6.mono (H' := upd H6 q (.lst (ws.eraseIdx n0))) fun c xs e => by rw [upd_ne (nt c xs e)]; exact e
      have hq7 : upd H6 q (.lst (ws.eraseIdx n0)) q = some (.lst (ws.eraseIdx n0)) := upd_same
      have hD7 : upd H6 q (.lst (ws.eraseIdx n0)) D = some (.lst us) := by rw [upd_ne Dq]; exact hD6
      have htz7 : upd H6 q (.lst (ws.eraseIdx n0)) tz = some (.tup [.int (i : Int), .int (j : Int)]) := by rw [upd_ne (nt _ _ htz)]; exact htz
      have bk7 : Bk H1 (upd H6 q (.lst (ws.eraseIdx n0))) b bs (wd R) (inB (freeL R zs)) := by
        refine ⟨bk6.nw, by rw [upd_ne bq]; exact bk6.at_, fun i v e => ?_, bk6.dist⟩
        obtain ⟨a', e1, n1, n2, h1⟩ := bk6.row i v e
        refine ⟨a', e1, n1, n2, ?_⟩
        rw [upd_ne (rowq i a' (by rw [e, e1])).1]
        exact h1
      have len7 : (ws.eraseIdx n0).length < ws.length := by rw [List.length_eraseIdx_of_lt (by omega)]; omega
      obtain ⟨H7, eH7⟩ : ∃ H7, H7 = upd H6 q (.lst (ws.eraseIdx n0)) := ⟨_, rfl⟩
      rw [← eH7] at s7 pw7 pu7 hq7 hD7 htz7 bk7 ⊢
      walk_at "rd"
      have hbi : i < bs.length := by omega
      obtain ⟨b', e1, n1', n2', h'⟩ := bk7.row i _ (List.getElem?_eq_getElem hbi)
      have ebi : bs[i]? = some (.ref b') := by rw [List.getElem?_eq_getElem hbi, e1]
      refine r_ixT (SqT.of htz7) (atI_nat (j := 0) rfl) ?_
      walk_at "rd"
      refine r_ixL (SqL.of bk7.at_) (atI_nat ebi) ?_
      walk_at "rd"
      refine r_ixT (SqT.of htz7) (atI_nat (j := 1) rfl) ?_
      walk_at "rd"
      refine r_setL h' (ixN_nat (by rw [mkB_len]; exact hj)) ?_
      rw [mkB_clrG]
      obtain ⟨row, erow⟩ : ∃ row, row = mkB (wd R) fun k => inB (freeL R zs) i k && !decide (k = j) := ⟨_, rfl⟩
      rw [← erow]
      have s8 : Same H1 (upd H7 b' (.lst row)) := fun c o e => by
        rw [upd_ne (fun z => by rw [z, n2'] at e; cases e)]
        exact s7 _ _ e
      have bk8 : Bk H1 (upd H7 b' (.lst row)) b bs (wd R) (inB (freeL R (zs ++ [((i : Int), (j : Int))]))) := by
        refine ⟨bk7.nw, by rw [upd_ne (Ne.symm n1')]; exact bk7.at_, fun i2 v e => ?_, bk7.dist⟩
        obtain ⟨b2, e2, m1, m2, h2⟩ := bk7.row i2 v e
        by_cases c : i2 = i
        · subst c
          rw [ebi] at e
          cases (Option.some.inj e)
          refine ⟨b', rfl, n1', n2', ?_⟩
          rw [upd_same, erow]
          congr 2
          congr 1
          funext k
          rw [inB_more, decide_eq_true rfl, Bool.true_and]
        · refine ⟨b2, e2, m1, m2, ?_⟩
          have nb : b2 ≠ b' := fun z => c (bk7.dist i2 i b' (by rw [e, e2, z]) ebi)
          rw [upd_ne nb, h2]
          congr 2
          congr 1
          funext k
          rw [inB_more, decide_eq_false c, Bool.false_and, Bool.not_false, Bool.and_true]
      have nt8 : ∀ c xs, H7 c = some (.tup xs) → c ≠ b' := fun c xs e z => by rw [z, h'] at e; cases e
      have pw8 := pw7.mono (H' := upd H7 b' (.lst row)) fun c xs e => by rw [upd_ne (nt8 c xs e)]; exact e
      have pu8 := pu7.mono (H' := upd H7 b' (.lst row)) fun c xs e => by rw [upd_ne (nt8 c xs e)]; exact e
      have htz8 : upd H7 b' (.lst row) tz = some (.tup [.int (i : Int), .int (j : Int)]) := by rw [upd_ne (nt8 _ _ htz7)]; exact htz7
      have hq8 : upd H7 b' (.lst row) q = some (.lst (ws.eraseIdx n0)) := by rw [upd_ne (Ne.symm (rowq i b' ebi).1)]; exact hq7
      have hD8 : upd H7 b' (.lst row) D = some (.lst us) := by rw [upd_ne (Ne.symm (rowq i b' ebi).2)]; exact hD7
      obtain ⟨H8, eH8⟩ : ∃ H8, H8 = upd H7 b' (.lst row) := ⟨_, rfl⟩
      rw [← eH8] at s8 bk8 pw8 pu8 htz8 hq8 hD8 ⊢
      walk_at "rd"
      refine r_bm ?_
      walk_at "rd"
      refine ⟨.inl ⟨rfl, _, SqL.of hD8⟩, ?_⟩
      walk_at "rd"
      have ul := pu8.length
      have zl := gr.len g
      refine ⟨D, us, _, rfl, rfl, hD8, Nat.lt_of_le_of_lt (show us.length ≤ 64 by omega) (by decide), ?_⟩
      have nt9 : ∀ c xs, H8 c = some (.tup xs) → c ≠ D := fun c xs e z => by rw [z, hD8] at e; cases e
      have s9 : Same H1 (upd H8 D (.lst (us ++ [V.ref tz]))) := fun c o e => by
        rw [upd_ne (fun z => by rw [z, D1] at e; cases e)]
        exact s8 _ _ e
      have pw9 := pw8.mono (H' := upd H8 D (.lst (us ++ [V.ref tz]))) fun c xs e => by rw [upd_ne (nt9 c xs e)]; exact e
      have pu9 : PrsAt p (upd H8 D (.lst (us ++ [V.ref tz]))) (us ++ [V.ref tz]) (zs ++ [((i : Int), (j : Int))]) :=
        (pu8.mono (H' := upd H8 D (.lst (us ++ [V.ref tz]))) fun c xs e => by rw [upd_ne (nt9 c xs e)]; exact e).app (.cons ⟨tz, rfl, tzp, by rw [upd_ne (nt9 _ _ htz8)]; exact htz8⟩ .nil)
      have bk9 : Bk H1 (upd H8 D (.lst (us ++ [V.ref tz]))) b bs (wd R) (inB (freeL R (zs ++ [((i : Int), (j : Int))]))) := by
        refine ⟨bk8.nw, by rw [upd_ne bD]; exact bk8.at_, fun i v e => ?_, bk8.dist⟩
        obtain ⟨a', e1, n1, n2, h1⟩ := bk8.row i v e
        refine ⟨a', e1, n1, n2, ?_⟩
        rw [upd_ne (rowq i a' (by rw [e, e1])).2]
        exact h1
      have hq9 : upd H8 D (.lst (us ++ [V.ref tz])) q = some (.lst (ws.eraseIdx n0)) := by rw [upd_ne (Ne.symm Dq)]; exact hq8
      have hD9 : upd H8 D (.lst (us ++ [V.ref tz])) D = some (.lst (us ++ [V.ref tz])) := upd_same
      obtain ⟨H9, eH9⟩ : ∃ H9, H9 = upd H8 D (.lst (us ++ [V.ref tz])) := ⟨_, rfl⟩
      rw [← eH9] at s9 pw9 pu9 bk9 hq9 hD9 ⊢
      walk_at "rd"
      refine ⟨p, r3, q, b, es3, _, R, zs ++ [((i : Int), (j : Int))], kd, rfl, rs1.same s9, g, hq9, pw9, bk9.bs bl, ⟨op, s9 _ _ hop1⟩, fun u10 H10 s10 nx10 => ?_⟩
      have hq10 := s10 _ _ hq9
      refine ⟨⟨_, _, _, u10, rfl, s9.trans s10, hq10, pw9.keep (Keep.same s10), s10 _ _ hD9, pu9.keep (Keep.same s10), ?_, gr.more hm, nx10⟩, ?_⟩
      · refine ⟨bk9.nw, s10 _ _ bk9.at_, fun i v e => ?_, bk9.dist⟩
        obtain ⟨a', e1, n1, n2, h1⟩ := bk9.row i v e
        exact ⟨a', e1, n1, n2, s10 _ _ h1⟩
      · simp only [hq10, hq6]
        exact len7
end
end Pk
set_option Elab.async false
set_option linter.all false
set_option maxRecDepth 100000
set_option maxHeartbeats 4000000
namespace Pk
open PySem L2
local macro_rules | `(tactic| walk_at "rd") => `(tactic| repeat (first
  | with_reducible refine r_seq ?_ | with_reducible refine r_nxt ?_ | with_reducible refine r_asg ?_ | with_reducible refine r_to ?_ | with_reducible refine r_ret ?_ | with_reducible refine r_for ?_ | with_reducible refine r_lc ?_ | with_reducible refine r_lc2 ?_ | with_reducible refine r_rng1 ?_ | with_reducible refine r_list ?_ | with_reducible refine r_tupI ?_ | with_reducible refine r_drop ?_ | with_reducible refine r_ifs ?_
  | with_reducible refine r_op ?_ | with_reducible refine r_c ?_ | with_reducible refine r_var rfl ?_ | with_reducible refine r_var (by assumption) ?_ | with_reducible refine r_I0 ?_ | with_reducible refine r_un ?_ | with_reducible refine r_U ?_ | with_reducible refine r_make ?_ | with_reducible refine r_makeS ?_ | with_reducible refine r_ifE ?_ | with_reducible refine r_cm ?_ | with_reducible refine r_mkV rfl ?_ | with_reducible refine r_sub ?_
  | with_reducible refine r_nil ?_ | with_reducible refine r_cons ?_ | with_reducible refine r_cb ?_ | with_reducible refine r_sl ?_ | with_reducible refine r_noP ?_ | with_reducible refine r_part ?_ | with_reducible refine r_isI ?_ | with_reducible refine r_lst ?_ | with_reducible refine r_tup ?_ | with_reducible refine r_call ?_ | with_reducible refine r_callS ?_ | with_reducible refine r_sFldU ?_ | with_reducible refine r_chain ?_ | with_reducible refine r_enum ?_ | with_reducible refine r_zip ?_ | with_reducible refine r_rng3 ?_ | with_reducible refine r_gtup ?_ | with_reducible refine r_methU ?_
  | with_reducible refine r_test ?_ | with_reducible refine r_B ?_ | with_reducible refine r_and ?_ | with_reducible refine r_or ?_ | with_reducible refine r_not ?_ | with_reducible refine r_andV ?_ | with_reducible refine r_orV ?_ | with_reducible refine r_notV ?_ | with_reducible refine r_bl ?_ | with_reducible refine r_yes ?_ | with_reducible refine r_int ?_ | with_reducible refine r_is0 ?_ | with_reducible refine r_is1 ?_ | with_reducible refine iteT ?_ | with_reducible refine iteF ?_ | with_reducible refine ite_nF ?_ | with_reducible refine ite_nT ?_
  | with_reducible refine r_mod (by decide) ?_ | with_reducible refine r_div (by decide) (by decide) ?_ | with_reducible refine r_mulR (by decide) (by decide) ?_ | with_reducible refine r_mulL (by decide) (by decide) ?_ | with_reducible refine r_pow (by decide) (by decide) (by decide) ?_))
/-! ### the stuck set, and whether there is an order -/
theorem r_notT {K : PySem.W.Frag} {ta : TE} {σ : L2.St} {H : Hp} {Q : VK} (h : ta σ H fun x H1 => ∃ k, TruV K x H1 k ∧ Q (.bl (!k)) H1) : tNotT K ta σ H Q := h
/-- a table, ready to be asked -/
structure TbR (p C : Addr) (H : Hp) (x : Addr) (G : Hp) (R : Rw) : Prop where
  t : TbX C G x R
  s : Same G H
  off : G p = none
  pp : ∃ o, H p = some o
theorem TbR.same {p C : Addr} {H H' : Hp} {x : Addr} {G : Hp} {R : Rw} (h : TbR p C H x G R) (s : Same H H') : TbR p C H' x G R := ⟨h.t, h.s.trans s, h.off, by obtain ⟨o, ho⟩ := h.pp; exact ⟨o, s _ _ ho⟩⟩
theorem TbR.keepP {p C : Addr} {H H' : Hp} {x : Addr} {G : Hp} {R : Rw} (h : TbR p C H x G R) (k : Keep p H H') (e : ∃ o, H' p = some o) : TbR p C H' x G R :=
  ⟨h.t, fun a o e' => k a o (fun z => by rw [z, h.off] at e'; cases e') (h.s a o e'), h.off, e⟩
def spStuck (C : Addr) : Sp := fun vs H Q _ => ∃ (p x : Addr) (G : Hp) (R : Rw) (k : Str), vs = [.ref x, .str k] ∧ TbR p C H x G R ∧ KD k ∧
  ∀ (r : Addr) (ws : List V) (zs : List Pr) (H' : Hp), Same H H' → H r = none → r ≠ p → H' r = some (.lst ws) → PrsAt p H' ws (freeL R zs) → Grw R k zs → mayL R zs k = [] → Q (.ref r) H'
def spHasOrd (C : Addr) : Sp := fun vs H Q _ => ∃ (p x : Addr) (G : Hp) (R : Rw) (k : Str), vs = [.ref x, .str k] ∧ TbR p C H x G R ∧ KD k ∧
  ∀ (zs : List Pr) (H' : Hp), Same H H' → Grw R k zs → mayL R zs k = [] → Q (.bl (freeL R zs).isEmpty) H'
abbrev slStuck : Stmt := top 32
abbrev slHasOrd : Stmt := top 33
section
variable {P : Program} {w : World} {K : PySem.W.Frag} {mg : Str → Option Value} {base : Heap} {C f aK : Addr} {fd : FuncData}
theorem sclStuck : FnScope ["table", "kind"] ["table", "kind"] (defScope slStuck) := ⟨rfl, rfl, rfl, by decide +kernel, rfl, by decide +kernel, by decide +kernel⟩
theorem ok_stuck (F : FunD K "stuck" "stuck" (defArgs slStuck) (defBody slStuck) (defScope slStuck) [] [("kind", .str "even")] f fd) (DK : Df P w K mg base CX0 "check_kind" 2 ["kind"] spChKG) (DG : Df P w K mg base CX0 "grown" 5 ["table", "kind"] (spGrown C)) : FnOk P w K mg base CX0 6 f fd ["table", "kind"] (spStuck C) := by
  refine F.ok sclStuck (fun vs H Q E h => ?_) (fun cdv A' outer s H vs Q E hr h => ?_)
  · obtain ⟨p, x, G, R, k, rfl, _⟩ := h
    rfl
  · obtain ⟨p, x, G, R, kd, rfl, L, hk, k⟩ := h
    refine ⟨_, (pss_cons (ps_expr (pe_df DK hr (by decide) (pa_cons (pv 1) pa_nil)))
  (pss_one (ps_ret (pe_ix ix_tup (pe_df DG hr (by decide) (pa_cons (pv 0) (pa_cons (pv 1) pa_nil))) pe_int (fun _ _ => rfl))))), ?_⟩
    walk_at "rd"
    refine ⟨kd, rfl, hk, ?_⟩
    walk_at "rd"
    refine ⟨p, x, G, R, kd, rfl, L.t, L.s, L.off, L.pp, fun t r1 r2 us ws zs H1 s1 n1 n2 p1 p2 ht h1 h2 pu pw gr mx => ?_⟩
    walk_at "rd"
    refine r_ixT (SqT.of ht) (atI_nat (j := 1) rfl) ?_
    exact k r2 ws zs H1 s1 n2 p2 h2 pw gr mx
theorem sclHasOrd : FnScope ["table", "kind"] ["table", "kind"] (defScope slHasOrd) := ⟨rfl, rfl, rfl, by decide +kernel, rfl, by decide +kernel, by decide +kernel⟩
theorem ok_hasOrd (F : FunD K "has_order" "has_order" (defArgs slHasOrd) (defBody slHasOrd) (defScope slHasOrd) [] [("kind", .str "even")] f fd) (DS : Dkw P w K mg base CX0 "stuck" 6 ["table", "kind"] 1 "kind" (spStuck C)) : FnOk P w K mg base CX0 7 f fd ["table", "kind"] (spHasOrd C) := by
  refine F.ok sclHasOrd (fun vs H Q E h => ?_) (fun cdv A' outer s H vs Q E hr h => ?_)
  · obtain ⟨p, x, G, R, k, rfl, _⟩ := h
    rfl
  · obtain ⟨p, x, G, R, kd, rfl, L, hk, k⟩ := h
    refine ⟨_, (pss_one (ps_ret (pe_notT (pe_kd DS hr (by decide) (pa_cons (pv 0) pa_nil) (pk_cons (pv 1) pk_nil))))), ?_⟩
    walk_at "rd"
    refine r_notT ?_
    refine r_kwS ?_
    walk_at "rd"
    refine ⟨rfl, rfl, p, x, G, R, kd, rfl, L, hk, fun r ws zs H1 s1 n1 p1 h1 pw gr mx => ?_⟩
    refine ⟨!ws.isEmpty, .inl ⟨ws, SqL.of h1, rfl⟩, ?_⟩
    have e : (!(!ws.isEmpty)) = (freeL R zs).isEmpty := by
      have := pw.length
      rw [Bool.not_not]
      cases ws <;> cases e : freeL R zs <;> rw [e] at this <;> first | rfl | cases this
    rw [e]
    exact k zs H1 s1 gr mx
end
end Pk
set_option Elab.async false
set_option linter.all false
set_option maxRecDepth 100000
set_option maxHeartbeats 4000000
namespace Pk
open PySem L2
local macro_rules | `(tactic| walk_at "rd") => `(tactic| repeat (first
  | with_reducible refine r_seq ?_ | with_reducible refine r_nxt ?_ | with_reducible refine r_asg ?_ | with_reducible refine r_to ?_ | with_reducible refine r_ret ?_ | with_reducible refine r_for ?_ | with_reducible refine r_lc ?_ | with_reducible refine r_lc2 ?_ | with_reducible refine r_rng1 ?_ | with_reducible refine r_list ?_ | with_reducible refine r_tupI ?_ | with_reducible refine r_drop ?_ | with_reducible refine r_ifs ?_
  | with_reducible refine r_op ?_ | with_reducible refine r_c ?_ | with_reducible refine r_var rfl ?_ | with_reducible refine r_var (by assumption) ?_ | with_reducible refine r_I0 ?_ | with_reducible refine r_un ?_ | with_reducible refine r_U ?_ | with_reducible refine r_make ?_ | with_reducible refine r_makeS ?_ | with_reducible refine r_ifE ?_ | with_reducible refine r_cm ?_ | with_reducible refine r_mkV rfl ?_ | with_reducible refine r_sub ?_
  | with_reducible refine r_nil ?_ | with_reducible refine r_cons ?_ | with_reducible refine r_cb ?_ | with_reducible refine r_sl ?_ | with_reducible refine r_noP ?_ | with_reducible refine r_part ?_ | with_reducible refine r_isI ?_ | with_reducible refine r_lst ?_ | with_reducible refine r_tup ?_ | with_reducible refine r_call ?_ | with_reducible refine r_callS ?_ | with_reducible refine r_sFldU ?_ | with_reducible refine r_chain ?_ | with_reducible refine r_enum ?_ | with_reducible refine r_zip ?_ | with_reducible refine r_rng3 ?_ | with_reducible refine r_gtup ?_ | with_reducible refine r_methU ?_
  | with_reducible refine r_test ?_ | with_reducible refine r_B ?_ | with_reducible refine r_and ?_ | with_reducible refine r_or ?_ | with_reducible refine r_not ?_ | with_reducible refine r_andV ?_ | with_reducible refine r_orV ?_ | with_reducible refine r_notV ?_ | with_reducible refine r_bl ?_ | with_reducible refine r_yes ?_ | with_reducible refine r_int ?_ | with_reducible refine r_is0 ?_ | with_reducible refine r_is1 ?_ | with_reducible refine iteT ?_ | with_reducible refine iteF ?_ | with_reducible refine ite_nF ?_ | with_reducible refine ite_nT ?_
  | with_reducible refine r_mod (by decide) ?_ | with_reducible refine r_div (by decide) (by decide) ?_ | with_reducible refine r_mulR (by decide) (by decide) ?_ | with_reducible refine r_mulL (by decide) (by decide) ?_ | with_reducible refine r_pow (by decide) (by decide) (by decide) ?_))
/-! ### which lots are left out -/
section
variable {k : Str} {R S : Rw}
theorem Grw.take_eq {xs ys : List Pr} (g : Grw R k xs) (h : Grw R k ys) : ∀ n, n ≤ xs.length → n ≤ ys.length → xs.take n = ys.take n
  | 0, _, _ => by rw [List.take_zero, List.take_zero]
  | n + 1, h1, h2 => by
    have ih := Grw.take_eq g h n (by omega) (by omega)
    have e1 : xs[n]? = some (xs[n]'(by omega)) := List.getElem?_eq_getElem (by omega)
    have e2 : ys[n]? = some (ys[n]'(by omega)) := List.getElem?_eq_getElem (by omega)
    have a := g.gw n _ e1
    have b := h.gw n _ e2
    rw [ih, b] at a
    rw [List.take_succ, List.take_succ, e1, e2, ih, Option.some.inj a]
theorem Grw.same {xs ys : List Pr} (g : Grw R k xs) (h : Grw R k ys) (m1 : mayL R xs k = []) (m2 : mayL R ys k = []) : xs = ys := by
  have key : ∀ {xs ys : List Pr}, Grw R k xs → Grw R k ys → mayL R xs k = [] → ¬ xs.length < ys.length := fun {xs ys} g h m lt => by
    have t := g.take_eq h xs.length (Nat.le_refl _) (Nat.le_of_lt lt)
    rw [List.take_length] at t
    have e2 : ys[xs.length]? = some (ys[xs.length]'lt) := List.getElem?_eq_getElem lt
    have b := h.gw xs.length _ e2
    rw [← t, m] at b
    cases b
  have n1 := key g h m1
  have n2 := key h g m2
  have t := g.take_eq h xs.length (Nat.le_refl _) (by omega)
  rw [List.take_length] at t
  rw [List.take_of_length_le (by omega)] at t
  exact t
end
noncomputable def hasO (R : Rw) (k : Str) : Bool := @decide (∃ zs, Grw R k zs ∧ mayL R zs k = [] ∧ freeL R zs = []) (Classical.propDecidable _)
theorem hasO_eq {R : Rw} {k : Str} {zs : List Pr} (g : Grw R k zs) (mx : mayL R zs k = []) : (freeL R zs).isEmpty = hasO R k := by
  unfold hasO
  rw [Bool.eq_iff_iff, List.isEmpty_iff, @decide_eq_true_iff _ (Classical.propDecidable _)]
  exact ⟨fun e => ⟨zs, g, mx, e⟩, fun ⟨ys, h1, h2, h3⟩ => by rw [Grw.same g h1 mx h2]; exact h3⟩
noncomputable def enoB (R : Rw) (k : Str) (l : List Nat) : Bool := hasO (woR R (numS R.length l) (numW R.length l)) k
noncomputable def stepF (R : Rw) (k : Str) (F : List (List Nat)) (l : List Nat) : List (List Nat) := if (leavB R.length (wd R) l && (!contB l F && enoB R k l)) = true then F ++ [l] else F
noncomputable def leaveL (R : Rw) (k : Str) : List (List Nat) := (lotsU (R.length + wd R) (R.length + wd R + 1)).foldl (stepF R k) []
theorem asc_ok {n : Nat} {l : List Nat} (sorted : l.Pairwise (· < ·)) (b : ∀ k, k ∈ l → k < n) : linesOk n (.list ((l.map fun k : Nat => (k : Int)).map .int)) = true := by
  unfold linesOk
  rw [Bool.and_eq_true]
  refine ⟨List.all_eq_true.mpr fun d hd => ?_, ?_⟩
  · obtain ⟨m, hm, rfl⟩ := List.mem_map.mp hd
    obtain ⟨k, hk, rfl⟩ := List.mem_map.mp hm
    have := b k hk
    show (decide (0 ≤ (k : Int)) && decide ((k : Int) ≤ (n : Int) - 1)) = true
    rw [Bool.and_eq_true, decide_eq_true_eq, decide_eq_true_eq]
    omega
  · unfold ascB
    refine List.all_eq_true.mpr fun k hk => ?_
    have hk := List.mem_range.mp hk
    rw [List.length_map, List.length_map] at hk
    have a : (((l.map fun k : Nat => (k : Int)).map PyData.int).getD k .none) = .int (l[k]'(by omega) : Nat) := by
      rw [List.getD_eq_getElem?_getD, List.getElem?_eq_getElem (by rw [List.length_map, List.length_map]; omega), List.getElem_map, List.getElem_map]; rfl
    have b : (((l.map fun k : Nat => (k : Int)).map PyData.int).getD (k + 1) .none) = .int (l[k + 1]'(by omega) : Nat) := by
      rw [List.getD_eq_getElem?_getD, List.getElem?_eq_getElem (by rw [List.length_map, List.length_map]; omega), List.getElem_map, List.getElem_map]; rfl
    rw [a, b]
    have := List.pairwise_iff_getElem.mp sorted k (k + 1) (by omega) (by omega) (by omega)
    show decide (((l[k]'(by omega) : Nat) : Int) < ((l[k + 1]'(by omega) : Nat) : Int)) = true
    rw [decide_eq_true_eq]
    omega
theorem numS_ok {m N : Nat} {l : List Nat} (a : Asc N l) : linesOk m (.list ((numS m l).map .int)) = true :=
  asc_ok (a.lt.filter _) fun k hk => of_decide_eq_true (List.mem_filter.mp hk).2
theorem numW_ok {m n : Nat} {l : List Nat} (a : Asc (m + n) l) : linesOk n (.list ((numW m l).map .int)) = true := by
  have e : numW m l = ((l.filter fun k => decide (m ≤ k)).map fun k => k - m).map fun k : Nat => (k : Int) := by unfold numW; rw [List.map_map]; rfl
  rw [e]
  refine asc_ok ?_ fun k hk => ?_
  · rw [List.pairwise_map]
    refine (a.lt.filter fun k => decide (m ≤ k)).imp_of_mem fun {x y} hx hy h => ?_
    have := of_decide_eq_true (List.mem_filter.mp hx).2
    omega
  · obtain ⟨x, hx, rfl⟩ := List.mem_map.mp hk
    obtain ⟨h1, h2⟩ := List.mem_filter.mp hx
    have := a.b x h1
    have := of_decide_eq_true h2
    omega
theorem plain_lnes (m : Nat) (l : List Nat) : PyData.plainAll (l.map (lneD m)) = true := by
  induction l with
  | nil => rfl
  | cons k l ih => simp [lneD, PyData.plainAll, PyData.plain] at ih ⊢; exact ih
theorem deep_lnes (m : Nat) (l : List Nat) : PyData.depthAll (l.map (lneD m)) ≤ 8 := by
  induction l with
  | nil => simp [PyData.depthAll]
  | cons k l ih =>
    rw [List.map_cons, PyData.depthAll, lne_depth]
    omega
theorem any_lnes (m k : Nat) (l : List Nat) : ((l.map (lneD m)).any fun e => PyData.eqv e (lneD m k)) = decide (k ∈ l) := by
  induction l with
  | nil => rfl
  | cons a l ih =>
    rw [List.map_cons, List.any_cons, ih, lne_eqv, Bool.eq_iff_iff, Bool.or_eq_true, decide_eq_true_iff, decide_eq_true_iff, decide_eq_true_iff, List.mem_cons]
    exact ⟨fun h => h.imp Eq.symm id, fun h => h.imp Eq.symm id⟩
def retLcScopeC : Stmt → Scope
  | .Return (some (.Call _ (.ListComp (scope := sc) .. :: _) ..)) _ => sc
  | s => defScope s
def spEnough (C : Addr) : Sp := fun vs H Q _ => ∃ (x a : Addr) (G : Hp) (R : Rw) (us : List V) (l : List Nat) (kd : Str), vs = [.ref x, .ref a, .str kd] ∧ TbX C G x R ∧ Same G H ∧ H a = some (.lst us) ∧ LnsAt R.length H us l ∧ Asc (R.length + wd R) l ∧ leavB R.length (wd R) l = true ∧ KD kd ∧ ∀ H' : Hp, Same H H' → Q (.bl (enoB R kd l)) H'
def RaisesI (H : Hp) (E : XK) (C : Addr) (f : Str) (v : V) : Prop := ∀ (dd : Addr) (H' : Hp), Same H H' → H dd = none → H' dd = some (.xd [(f, v)]) → E (.ref C) (some dd) H'
theorem RaisesI.later {H H1 : Hp} {E : XK} {C : Addr} {f : Str} {v : V} (r : RaisesI H E C f v) (s : Same H H1) : RaisesI H1 E C f v := fun dd H' s2 n e => r dd H' (s.trans s2) (s.free n) e
def BadK (d : PyData) : Prop := d = .str "Any" ∨ d = .str "evens" ∨ d = .str "" ∨ kitB (kindOf d) "str" = some false
def spIsKX (K : PySem.W.Frag) : Sp := fun vs H Q _ => ∃ (v : V) (d : PyData), vs = [v] ∧ Dp K H v d ∧ BadK d ∧ Q (.bl false) H
def spChKX (K : PySem.W.Frag) (CB : Addr) : Sp := fun vs H Q E => ∃ v : V, vs = [v] ∧ ((∃ z : Str, v = .str z ∧ KD z ∧ Q .non H) ∨
  (∃ d, Dp K H v d ∧ BadK d ∧ ∀ (dd : Addr) (H' : Hp), Same H H' → H dd = none → H' dd = some (.xd [("name", .str "kind")]) → E (.ref CB) (some dd) H'))
inductive LvK (K : PySem.W.Frag) (C CL CB : Addr) (R : Rw) (v : V) (H : Hp) (E : XK) (Good : Str → Prop) : Prop
  | kind (d : PyData) (hd : Dp K H v d) (bd : BadK d) (r : RaisesI H E CB "name" (.str "kind"))
  | lim (kd : Str) (e : v = .str kd) (hk : KD kd) (l : 8 < R.length + wd R) (r : RaisesI H E CL "limit" (.int 8))
  | ok (kd : Str) (e : v = .str kd) (hk : KD kd) (l : R.length + wd R ≤ 8) (r : Good kd)
def spLeave (K : PySem.W.Frag) (C CL CB : Addr) : Sp := fun vs H Q E => ∃ (x : Addr) (G : Hp) (R : Rw) (v : V), vs = [.ref x, v] ∧ TbX C G x R ∧ Same G H ∧ LvK K C CL CB R v H E (fun kd => ∀ (r : Addr) (ws : List V) (H' : Hp), Same H H' → H r = none → H' r = some (.lst ws) → LtsAt R.length H H' ws (leaveL R kd) → Q (.ref r) H')
abbrev slEnough : Stmt := top 40
abbrev slLeave : Stmt := top 42
section
variable {P : Program} {w : World} {K : PySem.W.Frag} {mg : Str → Option Value} {base : Heap} {C CE CL CB aK f : Addr} {fd : FuncData}
theorem sclNumsIn : FnScope ["lot", "word", "number", "part"] ["lot", "word"] (defScope slNumsIn) := ⟨rfl, rfl, rfl, by decide +kernel, rfl, by decide +kernel, by decide +kernel⟩
theorem ok_numsIn (F : Fun K "numbers_in" "numbers_in" slNumsIn f fd) : FnOk P w K mg base CX0 1 f fd ["lot", "word"] spNumsIn := by
  refine F.ok sclNumsIn (fun vs H Q E h => ?_) (fun cdv A' outer s H vs Q E hr h => ?_)
  · obtain ⟨a, us, m, l, wo, rfl, _⟩ := h
    rfl
  · obtain ⟨a, us, m, l, wo, rfl, ha, hu, l1000, k⟩ := h
    refine ⟨_, (pss_one (ps_ret (pe_lc (own := [("part", 3), ("number", 2)]) (g := gTup K 2 (gCons (gName 3) (gCons (gName 2) gNil))) rfl sclNumsIn.nd (pi_list (pv 0)) (blkOk_by (own := [("part", 3), ("number", 2)]) (N := ["lot", "word", "number", "part"]) (sc := defScope slNumsIn) (by decide +kernel)) (fun _ _ _ _ _ => pg_tup (by rfl) (pgs_cons (pg_name (i := 3) sclNumsIn.nd rfl (Or.inl rfl)) (pgs_cons (pg_name (i := 2) sclNumsIn.nd rfl (Or.inl rfl)) pgs_nil))) (fun _ _ _ _ _ => pts_one (pt_cmpR op_eq (pv 3) (pv 1) (nomark _))) (fun _ _ _ _ _ => (pv 2))))), ?_⟩
    have ul := hu.length
    walk_at "rd"
    refine ⟨a, rfl, ⟨_, SqL.of ha⟩, fun D nD => lc_it walk_list (fun i H' => Same H H' ∧ H' D = some (.lst ((numX m wo (l.take i)).map V.int))) ⟨Same.up (Same.refl H) nD, by rw [upd_same, List.take_zero]; rfl⟩ (fun i H' _ z => SqL.of (z.1 _ _ ha)) ?_ ?_⟩
    · rintro i y H2 H3 hi ⟨s3, hD⟩ ⟨rfl, ey⟩
      obtain ⟨kk, ek, t, rfl, ht⟩ := (hu.same s3).at ey
      have le : ((numX m wo (l.take i)).map V.int).length ≤ 1000 := by
        rw [List.length_map]
        unfold numX
        rw [List.length_map]
        have := List.length_filter_le (fun k => decide (lwd m k = wo)) (l.take i)
        rw [List.length_take] at this
        omega
      have more : numX m wo (l.take (i + 1)) = numX m wo (l.take i) ++ (if lwd m kk = wo then [lno m kk] else []) := by
        unfold numX
        rw [List.take_add_one, ek]
        show List.map _ (List.filter _ (_ ++ [kk])) = _
        rw [List.filter_append, List.map_append]
        congr 1
        by_cases c : lwd m kk = wo
        · rw [if_pos c, List.filter_cons_of_pos (by exact decide_eq_true c)]; rfl
        · rw [if_neg c, List.filter_cons_of_neg (by exact fun z => c (of_decide_eq_true z))]; rfl
      refine r_gtup ⟨t, _, rfl, SqT.of ht, rfl, _, _, rfl, ?_⟩
      walk_at "rd"
      refine ⟨_, _, rfl, ?_⟩
      walk_at "rd"
      refine ⟨rfl, rfl, ?_⟩
      walk_at "rd"
      refine r_eq rfl ?_
      refine ⟨_, rfl, ?_⟩
      by_cases c : lwd m kk = wo
      · refine ifT (decide_eq_true (by rw [c])) ?_
        walk_at "rd"
        refine ⟨_, hD, Nat.lt_of_le_of_lt le (by decide), Same.upOff s3 nD, ?_⟩
        rw [upd_same, more, if_pos c, List.map_append]; rfl
      · refine ifF (decide_eq_false fun z => c (V.str.inj z)) ?_
        refine ⟨s3, ?_⟩
        rw [hD, more, if_neg c, List.append_nil]
    · rintro H2 ⟨s2, hD⟩
      rw [ul, List.take_of_length_le (Nat.le_refl _)] at hD
      walk_at "rd"
      exact k D H2 s2 nD hD
theorem sclLeavS : FnScope ["table", "lot"] ["table", "lot"] (defScope slLeavS) := ⟨rfl, rfl, rfl, by decide +kernel, rfl, by decide +kernel, by decide +kernel⟩
theorem ok_leavS {fS fW : Addr} {fdS fdW : FuncData} (F : Fun K "leaves_some" "leaves_some" slLeavS f fd) (T : Bt mg) (A : TbC K C) (mS : Meth K C "stocks" fS) (oS : FnOk P w K mg base CX0 1 fS fdS ["self"] (spTStk C)) (bS : Binds K fdS ["self"] [])
    (mW : Meth K C "wishes" fW) (oW : FnOk P w K mg base CX0 1 fW fdW ["self"] (spTWsh C)) (bW : Binds K fdW ["self"] []) (DN : Df P w K mg base CX0 "numbers_in" 1 ["lot", "word"] spNumsIn) : FnOk P w K mg base CX0 2 f fd ["table", "lot"] (spLeavS C) := by
  refine F.ok sclLeavS (fun vs H Q E h => ?_) (fun cdv A' outer s H vs Q E hr h => ?_)
  · obtain ⟨x, a, G, R, us, l, rfl, _⟩ := h
    rfl
  · obtain ⟨x, a, G, R, us, l, rfl, t, sG, ha, hu, l1000, k⟩ := h
    have hr1 := hr.mono (show 1 ≤ 1 by decide)
    refine ⟨_, (pss_one (ps_ret (pe_and (pe_cmpR op_lt (pe_callB cl_len (by rfl) T.len (by decide +kernel) (pa_cons (pe_df DN hr (by decide) (pa_cons (pv 1) (pa_cons pe_str pa_nil))) pa_nil)) (pe_meth0 (pv 0) A.O.cl mS oS hr1 bS .nil pass0) (nomark _)) (pe_one (pe_cmpR op_lt (pe_callB cl_len (by rfl) T.len (by decide +kernel) (pa_cons (pe_df DN hr (by decide) (pa_cons (pv 1) (pa_cons pe_str pa_nil))) pa_nil)) (pe_meth0 (pv 0) A.O.cl mW oW hr1 bW .nil pass0) (nomark _)))))), ?_⟩
    obtain ⟨g, dx, e0, u0, es, ho, hl, hp⟩ := id t
    have no2 : ∀ {m : Str}, (m == "entries") = false → (m == "used") = false → List.lookup m [("entries", V.ref e0), ("used", V.ref u0)] = none := fun h1 h2 => two_no h1 h2
    walk_at "rd"
    refine ⟨a, us, R.length, l, "stock", rfl, ha, hu, l1000, fun r H1 s1 n1 h1 => ?_⟩
    rw [numX_S] at h1
    walk_at "rd"
    refine r_lenL (SqL.of h1) ?_
    walk_at "rd"
    refine ⟨x, dx, _, rfl, (sG.trans s1) _ _ ho, no2 (by decide +kernel) (by decide +kernel), ?_⟩
    walk_at "rd"
    refine ⟨x, G, R, rfl, t, sG.trans s1, ?_⟩
    walk_at "rd"
    have e1 : decide (((((numS R.length l).map V.int).length : Nat) : Int) < (R.length : Int)) = decide ((numS R.length l).length < R.length) := by
      rw [List.length_map]
      exact decide_eq_decide.mpr (by omega)
    rw [e1]
    unfold leavB at k
    by_cases c : (numS R.length l).length < R.length
    · refine ifT (decide_eq_true c) ?_
      rw [decide_eq_true c] at k
      walk_at "rd"
      refine ⟨a, us, R.length, l, "wish", rfl, s1 _ _ ha, hu.same s1, l1000, fun r2 H2 s2 n2 h2 => ?_⟩
      rw [numX_W] at h2
      walk_at "rd"
      refine r_lenL (SqL.of h2) ?_
      walk_at "rd"
      refine ⟨x, dx, _, rfl, (sG.trans (s1.trans s2)) _ _ ho, no2 (by decide +kernel) (by decide +kernel), ?_⟩
      walk_at "rd"
      refine ⟨x, G, R, rfl, t, sG.trans (s1.trans s2), ?_⟩
      walk_at "rd"
      have e2 : decide (((((numW R.length l).map V.int).length : Nat) : Int) < ((wd R : Nat) : Int)) = decide ((numW R.length l).length < wd R) := by
        rw [List.length_map]
        exact decide_eq_decide.mpr (by omega)
      rw [e2]
      exact k H2 (s1.trans s2)
    · refine ifF (decide_eq_false c) ?_
      rw [decide_eq_false c] at k
      exact k H1 s1
theorem sclContO : FnScope ["lot", "smaller", "other", "line"] ["lot", "smaller"] (defScope slContO) := ⟨rfl, rfl, rfl, by decide +kernel, rfl, by decide +kernel, by decide +kernel⟩
theorem ok_contO (F : Fun K "contains_one" "contains_one" slContO f fd) (tall : mg "all" = none) (tany : mg "any" = none) : FnOk P w K mg base CX0 1 f fd ["lot", "smaller"] spContO := by
  refine F.ok sclContO (fun vs H Q E h => ?_) (fun cdv A' outer s H vs Q E hr h => ?_)
  · obtain ⟨a, b, us, ws, m, H0, l, F, rfl, _⟩ := h
    rfl
  · obtain ⟨a, b, us, ws, m, H0, l, F, rfl, ha, hu, hb, hF, Fl, ol, k⟩ := h
    refine ⟨_, (pss_one (ps_ret (pe_callB (cr_any rfl) (by rfl) tany (by decide +kernel) (pa_cons (pe_lc (own := [("other", 2)]) (g := gName 2) (te := tCB (rAll K) (tCons (tLc (iList K (tVar 2)) (gName 3) tYes (tOp (rInD K false) (tVar 3) (tVar 0)) [3]) tNil)) rfl sclContO.nd (pi_list (pv 1)) (blkOk_by (own := [("other", 2)]) (N := ["lot", "smaller", "other", "line"]) (sc := defScope slContO) (by decide +kernel)) (fun _ _ _ _ _ => pg_name (i := 2) sclContO.nd rfl (Or.inl rfl)) (fun _ _ _ _ _ => pts_nil) (fun _ _ _ _ _ => (pe_callB (cr_all rfl) (by rfl) tall (by decide +kernel) (pa_cons (pe_lc (own := [("line", 3)]) (g := gName 3) (te := tOp (rInD K false) (tVar 3) (tVar 0)) rfl sclContO.nd (pi_list (pv 2)) (blkOk_by (own := [("line", 3)]) (N := ["lot", "smaller", "other", "line"]) (sc := relS (retLcScopeC ((defBody slContO).getD 0 (.Pass ⟨0, 0, 0, 0⟩))) (defScope slContO)) (by decide +kernel)) (fun _ _ _ _ _ => pg_name (i := 3) sclContO.nd rfl (Or.inl rfl)) (fun _ _ _ _ _ => pts_nil) (fun _ _ _ _ _ => (pe_cmpR (op_inD hr.units) (pv 3) (pv 0) (by rfl)))) pa_nil)))) pa_nil)))), ?_⟩
    have wl := hF.length
    walk_at "rd"
    refine ⟨b, rfl, ⟨_, SqL.of hb⟩, fun D nD => lc_it walk_list (Out H D fun i => V.bl ((F.getD i []).all fun k => decide (k ∈ l))) (Out.start nD) (fun i H' _ o => SqL.of (o.1 _ _ hb)) ?_ ?_⟩
    · rintro i y H2 H3 hi o ⟨rfl, ey⟩
      obtain ⟨c, cs, o2, eo, rfl, nc, hc, hcs⟩ := (hF.same o.1).at ey
      have o2l := ol o2 (List.mem_of_getElem? eo)
      have csl := hcs.length
      have hi : i < ws.length := hi
      walk_at "rd"
      refine ⟨rfl, ?_⟩
      walk_at "rd"
      refine ⟨c, rfl, ⟨_, SqL.of hc⟩, fun D2 nD2 => lc_it walk_list (Out H3 D2 fun j => V.bl (decide (o2.getD j 0 ∈ l))) (Out.start nD2) (fun j H' _ o => SqL.of (o.1 _ _ hc)) ?_ ?_⟩
      · rintro j y2 H4 H5 hj oo ⟨rfl, ey2⟩
        obtain ⟨kk, ek, hk⟩ := (hcs.same oo.1).at ey2
        have hj : j < cs.length := hj
        walk_at "rd"
        refine ⟨rfl, ?_⟩
        walk_at "rd"
        refine ⟨lneD m kk, l.map (lneD m), hk.dp, .lst (SqL.of (oo.1 _ _ (o.1 _ _ ha))) (hu.same (o.1.trans oo.1)).dp, by simp [lneD, PyData.plain, PyData.plainAll], ⟨plain_lnes m l, deep_lnes m l⟩, ?_⟩
        rw [if_neg (by decide), any_lnes]
        have e : V.bl (decide (kk ∈ l)) = (fun j => V.bl (decide (o2.getD j 0 ∈ l))) j := by
          show _ = V.bl (decide (o2.getD j 0 ∈ l))
          rw [List.getD_eq_getElem?_getD, ek]; rfl
        rw [e]
        exact oo.more nD2 (Same.refl _) (Nat.lt_of_lt_of_le (show j < 1001 by omega) (by decide))
      · rintro H4 ⟨s4, hD2⟩
        walk_at "rd"
        refine ⟨D2, o2.map fun k => decide (k ∈ l), rfl, SqL.of (hD2.trans ?_), ?_⟩
        · congr 2
          apply List.ext_getElem
          · simp [csl]
          · intro n h1 h2
            have hn : n < o2.length := by simpa using h2
            simp [List.getD_eq_getElem?_getD, List.getElem?_eq_getElem hn]
        · have e : V.bl ((o2.map fun k => decide (k ∈ l)).all id) = (fun i => V.bl ((F.getD i []).all fun k => decide (k ∈ l))) i := by
            show _ = V.bl ((F.getD i []).all fun k => decide (k ∈ l))
            rw [List.getD_eq_getElem?_getD, eo, List.all_map]; rfl
          rw [e]
          exact o.more nD s4 (Nat.lt_of_lt_of_le (show i < 1000001 by omega) (by decide))
    · rintro H2 ⟨s2, hD⟩
      walk_at "rd"
      refine ⟨D, F.map fun o => o.all fun k => decide (k ∈ l), rfl, SqL.of (hD.trans ?_), ?_⟩
      · congr 2
        apply List.ext_getElem
        · simp [wl]
        · intro n h1 h2
          have hn : n < F.length := by simpa using h2
          simp [List.getD_eq_getElem?_getD, List.getElem?_eq_getElem hn]
      · have e : (F.map fun o => o.all fun k => decide (k ∈ l)).any id = contB l F := by unfold contB; rw [List.any_map]; rfl
        rw [e]
        exact k H2 s2
end
end Pk
set_option Elab.async false
set_option linter.all false
set_option maxRecDepth 100000
set_option maxHeartbeats 4000000
namespace Pk
open PySem L2
local macro_rules | `(tactic| walk_at "rd") => `(tactic| repeat (first
  | with_reducible refine r_seq ?_ | with_reducible refine r_nxt ?_ | with_reducible refine r_asg ?_ | with_reducible refine r_to ?_ | with_reducible refine r_ret ?_ | with_reducible refine r_for ?_ | with_reducible refine r_lc ?_ | with_reducible refine r_lc2 ?_ | with_reducible refine r_rng1 ?_ | with_reducible refine r_list ?_ | with_reducible refine r_tupI ?_ | with_reducible refine r_drop ?_ | with_reducible refine r_ifs ?_
  | with_reducible refine r_op ?_ | with_reducible refine r_c ?_ | with_reducible refine r_var rfl ?_ | with_reducible refine r_var (by assumption) ?_ | with_reducible refine r_I0 ?_ | with_reducible refine r_un ?_ | with_reducible refine r_U ?_ | with_reducible refine r_make ?_ | with_reducible refine r_makeS ?_ | with_reducible refine r_ifE ?_ | with_reducible refine r_cm ?_ | with_reducible refine r_mkV rfl ?_ | with_reducible refine r_sub ?_
  | with_reducible refine r_nil ?_ | with_reducible refine r_cons ?_ | with_reducible refine r_cb ?_ | with_reducible refine r_sl ?_ | with_reducible refine r_noP ?_ | with_reducible refine r_part ?_ | with_reducible refine r_isI ?_ | with_reducible refine r_lst ?_ | with_reducible refine r_tup ?_ | with_reducible refine r_call ?_ | with_reducible refine r_callS ?_ | with_reducible refine r_sFldU ?_ | with_reducible refine r_chain ?_ | with_reducible refine r_enum ?_ | with_reducible refine r_zip ?_ | with_reducible refine r_rng3 ?_ | with_reducible refine r_gtup ?_ | with_reducible refine r_methU ?_
  | with_reducible refine r_test ?_ | with_reducible refine r_B ?_ | with_reducible refine r_and ?_ | with_reducible refine r_or ?_ | with_reducible refine r_not ?_ | with_reducible refine r_andV ?_ | with_reducible refine r_orV ?_ | with_reducible refine r_notV ?_ | with_reducible refine r_bl ?_ | with_reducible refine r_yes ?_ | with_reducible refine r_int ?_ | with_reducible refine r_is0 ?_ | with_reducible refine r_is1 ?_ | with_reducible refine iteT ?_ | with_reducible refine iteF ?_ | with_reducible refine ite_nF ?_ | with_reducible refine ite_nT ?_
  | with_reducible refine r_mod (by decide) ?_ | with_reducible refine r_div (by decide) (by decide) ?_ | with_reducible refine r_mulR (by decide) (by decide) ?_ | with_reducible refine r_mulL (by decide) (by decide) ?_ | with_reducible refine r_pow (by decide) (by decide) (by decide) ?_))
section
variable {P : Program} {w : World} {K : PySem.W.Frag} {mg : Str → Option Value} {base : Heap} {C CO CEO CE CL CB aK f : Addr} {fd : FuncData}
theorem ok_isKX (F : Fun K "is_kind" "is_kind" slIsKind f fd) (T : Bt mg) (kin : mg "KINDS" = some (.ref aK)) (tup : ∀ H, SqT K H aK kinds) : FnOk P w K mg base CX0 1 f fd ["value"] (spIsKX K) := by
  refine F.ok sclIsKind (fun vs H Q E h => ?_) (fun cdv A outer s H vs Q E hr h => ?_)
  · obtain ⟨v, d, rfl, _⟩ := h
    rfl
  · obtain ⟨v, d, rfl, hd, bd, k⟩ := h
    refine ⟨_, (pss_one (ps_ret (pe_and (pe_callB call_isi (by rfl) T.isinstance (by decide +kernel) (pa_cons (pv 0) (pa_cons (pe_bltn (v := .ty "str") (by rfl) T.str (by decide +kernel) rfl) pa_nil))) (pe_one (pe_cmpR op_in_seq (pv 0) (pe_glob (v := .ref aK) (by rfl) kin rfl) (by rfl)))))), ?_⟩
    walk_at "rd"
    rcases bd with rfl | rfl | rfl | e
    · cases hd
      refine r_isi (.base (.str _)) (by decide +kernel : kitB "str" "str" = some true) ?_
      walk_at "rd"
      exact ⟨aK, kinds, rfl, .inr (tup _), rfl, rfl, k⟩
    · cases hd
      refine r_isi (.base (.str _)) (by decide +kernel : kitB "str" "str" = some true) ?_
      walk_at "rd"
      exact ⟨aK, kinds, rfl, .inr (tup _), rfl, rfl, k⟩
    · cases hd
      refine r_isi (.base (.str _)) (by decide +kernel : kitB "str" "str" = some true) ?_
      walk_at "rd"
      exact ⟨aK, kinds, rfl, .inr (tup _), rfl, rfl, k⟩
    · refine r_isi (Dp.kind hd) e ?_
      walk_at "rd"
      exact k
theorem ok_chKX (F : Fun K "check_kind" "check_kind" slChKind f fd) (DK : Df P w K mg base CX0 "is_kind" 1 ["value"] (spOr spIsKG (spIsKX K))) (EB : De P w K mg base "InvalidBound" 3 (spErr1 K 1 CB "name") CB) : FnOk P w K mg base (L2.CX P w) 5 f fd ["kind"] (spChKX K CB) := by
  refine F.okX sclChKind (fun vs H Q E h => ?_) (fun cdv A outer s H vs Q E hr h => ?_)
  · obtain ⟨v, rfl, _⟩ := h
    rfl
  · obtain ⟨v, rfl, h⟩ := h
    refine ⟨_, (pss_one (ps_if (pt_not (pt_val (pe_df DK hr (by decide) (pa_cons (pv 0) pa_nil)))) (pss_one (ps_rse rfl (takes_of rfl rfl rfl rfl) EB hr (by decide) (pa_cons pe_str pa_nil))) pss_nil)), ?_⟩
    walk_at "rd"
    rcases h with ⟨z, rfl, kd, k⟩ | ⟨d, hd, bd, k⟩
    · refine .inl ⟨z, rfl, kd, ?_⟩
      walk_at "rd"
      exact k
    · refine .inr ⟨v, d, rfl, hd, bd, ?_⟩
      walk_at "rd"
      refine r_mkErr ?_
      walk_at "rd"
      refine r_err1 (σ := []) (.str _) (.str _) fun dd v' H' s1 h1 h2 o1 => ?_
      cases o1
      exact k dd H' s1 h1 h2
theorem sclEnough : FnScope ["table", "lot", "kind"] ["table", "lot", "kind"] (defScope slEnough) := ⟨rfl, rfl, rfl, by decide +kernel, rfl, by decide +kernel, by decide +kernel⟩
theorem leav_lt {m n : Nat} {l : List Nat} (h : leavB m n l = true) : (numS m l).length < m ∧ (numW m l).length < n := by
  unfold leavB at h
  rw [Bool.and_eq_true, decide_eq_true_eq, decide_eq_true_eq] at h
  exact h
theorem sl_intsL {ms : List Int} (h : ms.length ≤ 8) : Sl (.list (ms.map PyData.int)) := fun ds e => by
  have e := PyData.list.inj e
  rw [← e, List.length_map]
  omega
theorem dp_intsL {H : Hp} (ms : List Int) : DpAll K H (ms.map V.int) (ms.map .int) := by
  induction ms with
  | nil => exact .nil
  | cons m ms ih => exact .cons (.int _) ih
theorem intsL_inj {ms ns : List Int} (h : PyData.list (ms.map .int) = .list (ns.map .int)) : ms = ns := by
  have h := PyData.list.inj h
  exact (List.map_inj_right (fun a b e => PyData.int.inj e)).mp h
theorem lessOk_ints {n : Nat} {ms : List Int} (h1 : linesOk n (.list (ms.map .int)) = true) (h2 : ms.length < n) : lessOk n (.list (ms.map .int)) = true := by
  rw [lessOk, h1]
  show (true && !decide (((ms.map PyData.int).length : Int) = (n : Int))) = true
  rw [List.length_map, decide_eq_false (by omega)]; rfl
theorem ok_enough {fO : Addr} {fdO : FuncData} (F : Fun K "is_enough" "is_enough" slEnough f fd) (A : TbC K C) (mO : Meth K C "without" fO) (oO : FnOk P w K mg base (L2.CX P w) 10 fO fdO ["self", "stocks", "wishes"] (spTWo K C CB)) (bO : Binds K fdO ["self", "stocks", "wishes"] [])
    (DN : Df P w K mg base CX0 "numbers_in" 1 ["lot", "word"] spNumsIn) (DH : Dkw P w K mg base CX0 "has_order" 7 ["table", "kind"] 1 "kind" (spHasOrd C)) : FnOk P w K mg base CX0 11 f fd ["table", "lot", "kind"] (spEnough C) := by
  refine F.ok sclEnough (fun vs H Q E h => ?_) (fun cdv A' outer s H vs Q E hr h => ?_)
  · obtain ⟨x, a, G, R, us, l, kd, rfl, _⟩ := h
    rfl
  · obtain ⟨x, a, G, R, us, l, kd, rfl, t, sG, ha, hu, asc, lv, hk, k⟩ := h
    have hr10 := hr.mono (show 10 ≤ 10 by decide)
    refine ⟨_, (pss_one (ps_ret (pe_kd DH hr (by decide) (pa_cons (pe_meth (pv 0) A.O.cl mO oO hr10 bO .nil passL (pa_cons (pe_df DN hr (by decide) (pa_cons (pv 1) (pa_cons pe_str pa_nil))) (pa_cons (pe_df DN hr (by decide) (pa_cons (pv 1) (pa_cons pe_str pa_nil))) pa_nil))) pa_nil) (pk_cons (pv 2) pk_nil)))), ?_⟩
    obtain ⟨g, dx, e0, u0, es, ho, hl, hp⟩ := id t
    have no2 : ∀ {m : Str}, (m == "entries") = false → (m == "used") = false → List.lookup m [("entries", V.ref e0), ("used", V.ref u0)] = none := fun h1 h2 => two_no h1 h2
    have l1000 : l.length ≤ 1000 := by have := asc.len; have := g.h8; have := g.w8; omega
    obtain ⟨lS, lW⟩ := leav_lt lv
    have okS := numS_ok (m := R.length) asc
    have okW := numW_ok asc
    have h8 := g.h8
    have w8 := g.w8
    walk_at "rd"
    refine r_kwS ?_
    walk_at "rd"
    refine ⟨x, dx, _, rfl, sG _ _ ho, no2 (by decide +kernel) (by decide +kernel), ?_⟩
    walk_at "rd"
    refine ⟨a, us, R.length, l, "stock", rfl, ha, hu, l1000, fun r1 H1 s1 n1 h1 => ?_⟩
    rw [numX_S] at h1
    walk_at "rd"
    refine ⟨a, us, R.length, l, "wish", rfl, s1 _ _ ha, hu.same s1, l1000, fun r2 H2 s2 n2 h2 => ?_⟩
    rw [numX_W] at h2
    have s12 := s1.trans s2
    walk_at "rd"
    refine ⟨x, .ref r1, .ref r2, .list ((numS R.length l).map .int), .list ((numW R.length l).map .int), G, R, rfl, t, sG.trans s12, .lst (SqL.of (s2 _ _ h1)) (dp_intsL _), .lst (SqL.of h2) (dp_intsL _), sl_intsL (by omega), sl_intsL (by omega), ?_, ?_, ?_⟩
    · intro ms' ns' q1 q2 _ _ _ _ y HC G2 sC ty sy fy
      obtain rfl := intsL_inj q1
      obtain rfl := intsL_inj q2
      walk_at "rd"
      have haC := sC _ _ (s12 _ _ ha)
      refine ⟨rfl, rfl, a, y, G2, _, kd, rfl, ⟨ty, sy, fy.off (s12 _ _ ha), ⟨_, haC⟩⟩, hk, fun zs HD sD gr mx => ?_⟩
      rw [hasO_eq gr mx]
      exact k HD (s12.trans (sC.trans sD))
    · intro q
      rw [lessOk_ints okS lS] at q
      cases q
    · intro _ q
      rw [lessOk_ints okW lW] at q
      cases q
theorem sclLeave : FnScope ["table", "kind", "lines", "found", "lot"] ["table", "kind"] (defScope slLeave) := ⟨rfl, rfl, rfl, by decide +kernel, rfl, by decide +kernel, by decide +kernel⟩
theorem foldF_len (R : Rw) (kd : Str) : ∀ (ls F : List (List Nat)), (ls.foldl (stepF R kd) F).length ≤ F.length + ls.length
  | [], F => Nat.le_refl _
  | l :: ls, F => by
    rw [List.foldl_cons, List.length_cons]
    have := foldF_len R kd ls (stepF R kd F l)
    have : (stepF R kd F l).length ≤ F.length + 1 := by
      unfold stepF
      split
      · rw [List.length_append]; exact Nat.le_refl _
      · omega
    omega
theorem foldF_mem (R : Rw) (kd : Str) {o : List Nat} : ∀ (ls F : List (List Nat)), o ∈ ls.foldl (stepF R kd) F → o ∈ F ∨ o ∈ ls
  | [], F, h => .inl h
  | l :: ls, F, h => by
    rw [List.foldl_cons] at h
    rcases foldF_mem R kd ls _ h with h | h
    · unfold stepF at h
      split at h
      · rcases List.mem_append.mp h with h | h
        · exact .inl h
        · exact .inr (by rw [List.mem_singleton.mp h]; exact List.mem_cons_self)
      · exact .inl h
    · exact .inr (List.mem_cons_of_mem _ h)
theorem ok_leave (F : FunD K "leave_outs" "leave_outs" (defArgs slLeave) (defBody slLeave) (defScope slLeave) [] [("kind", .str "even")] f fd) (T : Bt mg) {tk : Tok} (hM : mg "MOST_LOT_LINES" = some (.int 8 tk)) (DK : Df P w K mg base (L2.CX P w) "check_kind" 5 ["kind"] (spChKX K CB)) (DLi : Df P w K mg base CX0 "lines_of" 2 ["table"] (spLinesOf C)) (DLo : Df P w K mg base CX0 "lots_of" 1 ["lines"] spLotsOf)
    (DS : Df P w K mg base CX0 "leaves_some" 2 ["table", "lot"] (spLeavS C)) (DC : Df P w K mg base CX0 "contains_one" 1 ["lot", "smaller"] spContO) (DE : Df P w K mg base CX0 "is_enough" 11 ["table", "lot", "kind"] (spEnough C)) (EL : De P w K mg base "LimitExceeded" 3 (spErr1 K 1 CL "limit") CL) :
    FnOk P w K mg base (L2.CX P w) 13 f fd ["table", "kind"] (spLeave K C CL CB) := by
  refine F.ok sclLeave (fun vs H Q E h => ?_) (fun cdv A' outer s H vs Q E hr h => ?_)
  · obtain ⟨x, G, R, v, rfl, _⟩ := h
    rfl
  · obtain ⟨x, G, R, v, rfl, t, sG, c⟩ := h
    refine ⟨_, (pss_cons (ps_expr (pe_dfS (takes_of rfl rfl rfl rfl) DK hr (by decide) (pa_cons (pv 1) pa_nil)))
  (pss_cons (ps_par (i := 2) (j := 3) rfl sclLeave.nd rfl rfl (by decide) rfl rfl (pa_cons (pe_df DLi hr (by decide) (pa_cons (pv 0) pa_nil)) (pa_cons (pe_lst pa_nil) pa_nil)) rfl)
  (pss_cons (ps_if (pt_cmpR op_gt (pe_callB cl_len (by rfl) T.len (by decide +kernel) (pa_cons (pv 2) pa_nil)) (pe_glob (v := .int 8) (by rfl) hM ⟨tk, rfl⟩) (nomark _)) (pss_one (ps_rse rfl (takes_of rfl rfl rfl rfl) EL hr (by decide) (pa_cons (pe_glob (v := .int 8) (by rfl) hM ⟨tk, rfl⟩) pa_nil))) pss_nil)
  (pss_cons (ps_for (passes_of rfl) rfl (pi_list (pe_df DLo hr (by decide) (pa_cons (pv 2) pa_nil))) (pg_name (i := 4) sclLeave.nd rfl (Or.inl rfl)) (pss_one (ps_if (PW.pt (pw_and (pt_val (pe_df DS hr (by decide) (pa_cons (pv 0) (pa_cons (pv 4) pa_nil)))) (pw_and (pt_not (pt_val (pe_df DC hr (by decide) (pa_cons (pv 4) (pa_cons (pv 3) pa_nil))))) (pw_and1 (pt_val (pe_df DE hr (by decide) (pa_cons (pv 0) (pa_cons (pv 4) (pa_cons (pv 1) pa_nil))))))))) (pss_one (ps_expr (pe_bm PySem.F.plainAttrs_list PySem.F.slot_list_append PySem.F.type_list_append mt_append (pv 3) (pa_cons (pv 4) pa_nil)))) pss_nil)))
  (pss_one (ps_ret (pv 3))))))), ?_⟩
    have g := t.g
    have h8 := g.h8
    have w8 := g.w8
    have c : (∃ d, Dp K H v d ∧ BadK d ∧ RaisesI H E CB "name" (.str "kind")) ∨ ∃ kd : Str, v = .str kd ∧ KD kd ∧ ((8 < R.length + wd R ∧ RaisesI H E CL "limit" (.int 8)) ∨ (R.length + wd R ≤ 8 ∧ ∀ (r : Addr) (ws : List V) (H' : Hp), Same H H' → H r = none → H' r = some (.lst ws) → LtsAt R.length H H' ws (leaveL R kd) → Q (.ref r) H')) := by
      cases c with
      | kind d hd bd r => exact .inl ⟨d, hd, bd, r⟩
      | lim kd e hk l r => exact .inr ⟨kd, e, hk, .inl ⟨l, r⟩⟩
      | ok kd e hk l r => exact .inr ⟨kd, e, hk, .inr ⟨l, r⟩⟩
    walk_at "rd"
    rcases c with ⟨d, hd, bd, r⟩ | ⟨kd, rfl, hk, c⟩
    · exact ⟨v, rfl, .inr ⟨d, hd, bd, r⟩⟩
    refine ⟨_, rfl, .inl ⟨kd, rfl, hk, ?_⟩⟩
    walk_at "rd"
    refine r_parL ?_
    walk_at "rd"
    refine ⟨x, G, R, rfl, t, sG, fun r1 us H1 s1 n1 h1 hu => ?_⟩
    have ul := hu.length
    rw [List.length_range] at ul
    walk_at "rd"
    refine ⟨by show 0 ≤ sizeLine; decide, fun fa nf => ?_⟩
    walk_at "rd"
    refine ⟨_, _, rfl, ?_⟩
    walk_at "rd"
    have s2 : Same H1 (upd H1 fa (.lst [])) := Same.up (Same.refl H1) nf
    generalize eH2 : upd H1 fa (.lst []) = H2 at s2 ⊢
    have hf : H2 fa = some (.lst []) := by rw [← eH2, upd_same]
    have h12 := s2 _ _ h1
    have hu2 := hu.same s2
    refine r_lenL (SqL.of h12) ?_
    walk_at "rd"
    rcases c with ⟨l8, r⟩ | ⟨l8, k⟩
    · refine ifT (decide_eq_true (by omega)) ?_
      walk_at "rd"
      refine r_mkErr ?_
      walk_at "rd"
      refine r_err1 (σ := []) (.int _) (.int _) fun dd v' H' s3 q1 q2 o1 => ?_
      cases o1
      exact r.later (s1.trans s2) dd H' s3 q1 q2
    refine ifF (decide_eq_false (by omega)) ?_
    walk_at "rd"
    refine ⟨r1, us, R.length, R.length + wd R, rfl, h12, hu2, l8, fun r3 ws H3 s3 n3 h3 hws => ?_⟩
    have wl := hws.length
    have sG3 := sG.trans (s1.trans (s2.trans s3))
    have few : (lotsU (R.length + wd R) (R.length + wd R + 1)).length ≤ 400000 := by
      have := lotsU_few l8 (R.length + wd R + 1)
      omega
    walk_at "rd"
    have hf3 := s3 _ _ hf
    have nH : ∀ {q : Addr}, H2 q = none → q ≠ fa := fun n e => by rw [e, hf] at n; cases n
    have up4 : ∀ {H4 : Hp}, (∀ q o, q ≠ fa → H3 q = some o → H4 q = some o) → Same H H4 := fun kp q o e => kp q o (fun z => by rw [z, s1.free nf] at e; cases e) (s3 _ _ (s2 _ _ (s1 _ _ e)))
    have tup4 : ∀ {H4 : Hp}, (∀ q o, q ≠ fa → H3 q = some o → H4 q = some o) → Tups H3 H4 := fun kp q xs e => kp q _ (fun z => by rw [z, hf3] at e; cases e) e
    refine ⟨r3, rfl, ⟨_, SqL.of h3⟩, for_it walk_list (fun i σ H' => ∃ w4 fs, σ = [some (.ref x), some (.str kd), some (.ref r1), some (.ref fa), w4] ∧ (∀ q o, q ≠ fa → H3 q = some o → H' q = some o) ∧ H' fa = some (.lst fs) ∧ LtsAt R.length H2 H' fs (((lotsU (R.length + wd R) (R.length + wd R + 1)).take i).foldl (stepF R kd) [])) ⟨none, [], rfl, fun _ _ _ e => e, s3 _ _ hf, .nil⟩ (fun i σ H' _ z => by obtain ⟨_, _, _, z, _⟩ := z; exact SqL.of (z _ _ (nH n3) h3)) ?_ ?_⟩
    · rintro i y σ H4 H5 hi ⟨w4, fs, rfl, kp, hfa, hfs⟩ ⟨rfl, ey⟩
      have hw4 : LtsAt R.length H2 H5 ws (lotsU (R.length + wd R) (R.length + wd R + 1)) := hws.put (fun a us n e => kp _ _ (nH n) e) (tup4 kp)
      obtain ⟨a, vs, l, el, rfl, na, ha, hl⟩ := hw4.at ey
      have sGH := sG.trans (up4 kp)
      have asc := lotsU_mem (List.mem_of_getElem? el)
      have al := asc.len
      have hi : i < ws.length := hi
      have eT : (lotsU (R.length + wd R) (R.length + wd R + 1)).take (i + 1) = (lotsU (R.length + wd R) (R.length + wd R + 1)).take i ++ [l] := by rw [List.take_add_one, el]; rfl
      have eF : ((lotsU (R.length + wd R) (R.length + wd R + 1)).take (i + 1)).foldl (stepF R kd) [] = stepF R kd (((lotsU (R.length + wd R) (R.length + wd R + 1)).take i).foldl (stepF R kd) []) l := by rw [eT, List.foldl_append]; rfl
      have fl : (((lotsU (R.length + wd R) (R.length + wd R + 1)).take i).foldl (stepF R kd) []).length ≤ 400000 := by
        have := foldF_len R kd ((lotsU (R.length + wd R) (R.length + wd R + 1)).take i) []
        rw [List.length_take, List.length_nil] at this
        omega
      have fo : ∀ o, o ∈ ((lotsU (R.length + wd R) (R.length + wd R + 1)).take i).foldl (stepF R kd) [] → o.length ≤ 1000 := fun o ho => by
        rcases foldF_mem R kd _ _ ho with h | h
        · cases h
        · have := (lotsU_mem (List.mem_of_mem_take h)).len
          omega
      rw [eF]
      generalize ((lotsU (R.length + wd R) (R.length + wd R + 1)).take i).foldl (stepF R kd) [] = F0 at hfs fl fo ⊢
      unfold stepF
      generalize eF1 : (if (leavB R.length (wd R) l && (!contB l F0 && enoB R kd l)) = true then F0 ++ [l] else F0) = F1
      refine ⟨_, rfl, ?_⟩
      walk_at "rd"
      refine ⟨x, a, G, R, vs, l, rfl, t, sGH, ha, hl, by omega, fun H6 s6 => ?_⟩
      refine ⟨_, rfl, ?_⟩
      have a0 := hfs.length
      have kp6 : ∀ {H6 : Hp}, Same H5 H6 → ∀ q o, q ≠ fa → H3 q = some o → H6 q = some o := fun s6 q o n e => s6 _ _ (kp q o n e)
      have lv : ∀ {H6 : Hp}, Same H5 H6 → ∃ w4 fs, ([some (.ref x), some (.str kd), some (.ref r1), some (.ref fa), some (.ref a)] : St) = [some (.ref x), some (.str kd), some (.ref r1), some (.ref fa), w4] ∧ (∀ q o, q ≠ fa → H3 q = some o → H6 q = some o) ∧ H6 fa = some (.lst fs) ∧ LtsAt R.length H2 H6 fs F0 := fun s6 => ⟨_, fs, rfl, kp6 s6, s6 _ _ hfa, hfs.same s6⟩
      by_cases c1 : leavB R.length (wd R) l = true
      · refine ifT c1 ?_
        walk_at "rd"
        refine ⟨a, fa, vs, fs, R.length, H2, l, F0, rfl, s6 _ _ ha, hl.same s6, s6 _ _ hfa, hfs.same s6, by omega, fo, fun H7 s7 => ?_⟩
        refine ⟨_, rfl, ?_⟩
        have s67 := s6.trans s7
        by_cases c2 : contB l F0 = true
        · refine ifF (by rw [c2]; rfl) ?_
          rw [if_neg (by simp [c2])] at eF1
          subst eF1
          exact lv s67
        · have c2 : contB l F0 = false := by simpa using c2
          refine ifT (by rw [c2]; rfl) ?_
          walk_at "rd"
          refine ⟨x, a, G, R, vs, l, kd, rfl, t, sGH.trans s67, s67 _ _ ha, hl.same s67, asc, c1, hk, fun H8 s8 => ?_⟩
          refine ⟨_, rfl, ?_⟩
          have s68 := s67.trans s8
          by_cases c3 : enoB R kd l = true
          · refine ifT c3 ?_
            rw [if_pos (by rw [c1, c2, c3]; rfl)] at eF1
            subst eF1
            walk_at "rd"
            refine r_bm ?_
            walk_at "rd"
            refine ⟨.inl ⟨rfl, _, SqL.of (s68 _ _ hfa)⟩, ?_⟩
            walk_at "rd"
            refine ⟨fa, fs, _, rfl, rfl, s68 _ _ hfa, by rw [a0]; exact Nat.lt_of_le_of_lt fl (by decide), _, fs ++ [.ref a], rfl, fun q o n e => by rw [upd_ne n]; exact kp6 s68 q o n e, upd_same, ?_⟩
            exact ((hfs.same s68).upd hf (s68 _ _ hfa)).app (.cons na (by rw [upd_ne (nH na)]; exact s68 _ _ ha) ((hl.same s68).tup (.put (s68 _ _ hfa))) .nil)
          · refine ifF (by simpa using c3) ?_
            rw [if_neg (by simp [c3])] at eF1
            subst eF1
            exact lv s68
      · refine ifF (by simpa using c1) ?_
        rw [if_neg (by simp [c1])] at eF1
        subst eF1
        exact lv s6
    · rintro σ H4 ⟨w4, fs, rfl, kp, hfa, hfs⟩
      rw [wl, List.take_length] at hfs
      walk_at "rd"
      exact k fa fs H4 (up4 kp) (s1.free nf) hfa (hfs.back (s1.trans s2))
end
end Pk
set_option Elab.async false
set_option linter.all false
set_option maxRecDepth 100000
set_option maxHeartbeats 4000000
namespace Pk
open PySem L2
local macro_rules | `(tactic| walk_at "rd") => `(tactic| repeat (first
  | with_reducible refine r_seq ?_ | with_reducible refine r_nxt ?_ | with_reducible refine r_asg ?_ | with_reducible refine r_to ?_ | with_reducible refine r_ret ?_ | with_reducible refine r_for ?_ | with_reducible refine r_lc ?_ | with_reducible refine r_lc2 ?_ | with_reducible refine r_rng1 ?_ | with_reducible refine r_list ?_ | with_reducible refine r_tupI ?_ | with_reducible refine r_drop ?_ | with_reducible refine r_ifs ?_
  | with_reducible refine r_op ?_ | with_reducible refine r_c ?_ | with_reducible refine r_var rfl ?_ | with_reducible refine r_var (by assumption) ?_ | with_reducible refine r_I0 ?_ | with_reducible refine r_un ?_ | with_reducible refine r_U ?_ | with_reducible refine r_make ?_ | with_reducible refine r_makeS ?_ | with_reducible refine r_ifE ?_ | with_reducible refine r_cm ?_ | with_reducible refine r_mkV rfl ?_ | with_reducible refine r_sub ?_
  | with_reducible refine r_nil ?_ | with_reducible refine r_cons ?_ | with_reducible refine r_cb ?_ | with_reducible refine r_sl ?_ | with_reducible refine r_noP ?_ | with_reducible refine r_part ?_ | with_reducible refine r_isI ?_ | with_reducible refine r_lst ?_ | with_reducible refine r_tup ?_ | with_reducible refine r_call ?_ | with_reducible refine r_callS ?_ | with_reducible refine r_sFldU ?_ | with_reducible refine r_chain ?_ | with_reducible refine r_enum ?_ | with_reducible refine r_zip ?_ | with_reducible refine r_rng3 ?_ | with_reducible refine r_gtup ?_ | with_reducible refine r_methU ?_
  | with_reducible refine r_test ?_ | with_reducible refine r_B ?_ | with_reducible refine r_and ?_ | with_reducible refine r_or ?_ | with_reducible refine r_not ?_ | with_reducible refine r_andV ?_ | with_reducible refine r_orV ?_ | with_reducible refine r_notV ?_ | with_reducible refine r_bl ?_ | with_reducible refine r_yes ?_ | with_reducible refine r_int ?_ | with_reducible refine r_is0 ?_ | with_reducible refine r_is1 ?_ | with_reducible refine iteT ?_ | with_reducible refine iteF ?_ | with_reducible refine ite_nF ?_ | with_reducible refine ite_nT ?_
  | with_reducible refine r_mod (by decide) ?_ | with_reducible refine r_div (by decide) (by decide) ?_ | with_reducible refine r_mulR (by decide) (by decide) ?_ | with_reducible refine r_mulL (by decide) (by decide) ?_ | with_reducible refine r_pow (by decide) (by decide) (by decide) ?_))
/-! ### the needs of the law: what crosses -/
theorem deqN (a b : Nat) : decide (V.int (a : Int) = V.int (b : Int)) = decide (a = b) := decide_eq_decide.mpr ⟨fun h => by have := V.int.inj h; omega, fun h => by rw [h]⟩
/-- two other cells of the lines of (i, j), both there, of which one must stand first -/
def lcB (R : Rw) (i j r s : Nat) : Bool := !decide (r = i) && !decide (s = j) && (prc R i s).isSome && (prc R r j).isSome && crB R i j r s
def spLCr (K : PySem.W.Frag) : Sp := fun vs H Q _ => ∃ (a : Addr) (es : List V) (R : Rw) (i j r s : Nat), vs = [.ref a, .int (i : Int), .int (j : Int), .int (r : Int), .int (s : Int)] ∧ RS K H a es R ∧ Gt R ∧ i < R.length ∧ j < wd R ∧ r < R.length ∧ s < wd R ∧ (prc R i j).isSome = true ∧ Q (.bl (lcB R i j r s)) H
abbrev slLCr : Stmt := top 57
section
variable {P : Program} {w : World} {K : PySem.W.Frag} {mg : Str → Option Value} {base : Heap} {f : Addr} {fd : FuncData}
theorem sclLCr : FnScope ["_law_grid_here", "_law_i", "_law_j", "_law_r", "_law_s", "_law_straight"] ["_law_grid_here", "_law_i", "_law_j", "_law_r", "_law_s"] (defScope slLCr) := ⟨rfl, rfl, rfl, by decide +kernel, rfl, by decide +kernel, by decide +kernel⟩
theorem ok_lCr (F : Fun K "_law_cross" "_law_cross" slLCr f fd) : FnOk P w K mg base CX0 1 f fd ["_law_grid_here", "_law_i", "_law_j", "_law_r", "_law_s"] (spLCr K) := by
  refine F.ok sclLCr (fun vs H Q E h => ?_) (fun cdv A outer s H vs Q E hr h => ?_)
  · obtain ⟨a, es, R, i, j, r, s, rfl, _⟩ := h
    rfl
  · obtain ⟨a, es, R, i, j, r, s, rfl, rs, g, hi, hj, hr', hs, pij, k⟩ := h
    refine ⟨_, (pss_cons (ps_if (PW.pt (pw_or (pt_cmpR op_eq (pv 3) (pv 1) (nomark _)) (pw_or1 (pt_cmpR op_eq (pv 4) (pv 2) (nomark _))))) (pss_one (ps_ret pe_bl)) pss_nil)
  (pss_cons (ps_if (PW.pt (pw_or (pt_cmpR op_is0 (pe_ix ix_list (pe_ix ix_list (pv 0) (pv 1) (fun _ _ => rfl)) (pv 4) (fun _ _ => rfl)) pe_non (nomark _)) (pw_or1 (pt_cmpR op_is0 (pe_ix ix_list (pe_ix ix_list (pv 0) (pv 3) (fun _ _ => rfl)) (pv 2) (fun _ _ => rfl)) pe_non (nomark _))))) (pss_one (ps_ret pe_bl)) pss_nil)
  (pss_cons (ps_if (pt_cmpR op_is0 (pe_ix ix_list (pe_ix ix_list (pv 0) (pv 3) (fun _ _ => rfl)) (pv 4) (fun _ _ => rfl)) pe_non (nomark _)) (pss_one (ps_ret pe_bl)) pss_nil)
  (pss_cons (ps_set (i := 5) sclLCr.nd rfl (Or.inl rfl) (pe_op op_add (pe_ix ix_list (pe_ix ix_list (pv 0) (pv 1) (fun _ _ => rfl)) (pv 2) (fun _ _ => rfl)) (pe_ix ix_list (pe_ix ix_list (pv 0) (pv 3) (fun _ _ => rfl)) (pv 4) (fun _ _ => rfl))))
  (pss_one (ps_ret (pe_cmpR op_gt (pv 5) (pe_op op_add (pe_ix ix_list (pe_ix ix_list (pv 0) (pv 1) (fun _ _ => rfl)) (pv 4) (fun _ _ => rfl)) (pe_ix ix_list (pe_ix ix_list (pv 0) (pv 3) (fun _ _ => rfl)) (pv 2) (fun _ _ => rfl))) (nomark _)))))))), ?_⟩
    obtain ⟨ai, eai, hai⟩ := rs.get hi
    obtain ⟨ar, ear, har⟩ := rs.get hr'
    walk_at "rd"
    refine r_eq rfl ?_
    rw [deqN]
    refine ⟨_, rfl, ?_⟩
    unfold lcB at k
    by_cases c1 : r = i
    · refine ifT (decide_eq_true c1) ?_
      walk_at "rd"
      rw [decide_eq_true c1] at k
      exact k
    · refine ifF (decide_eq_false c1) ?_
      rw [decide_eq_false c1, Bool.not_false, Bool.true_and] at k
      walk_at "rd"
      refine r_eq rfl ?_
      rw [deqN]
      refine ⟨_, rfl, ?_⟩
      by_cases c2 : s = j
      · refine ifT (decide_eq_true c2) ?_
        walk_at "rd"
        rw [decide_eq_true c2] at k
        exact k
      · refine ifF (decide_eq_false c2) ?_
        rw [decide_eq_false c2, Bool.not_false, Bool.true_and] at k
        walk_at "rd"
        refine r_ixL rs.at_ (atI_nat eai) ?_
        walk_at "rd"
        refine r_ixL hai (atI_nat (prc_get g hi hs)) ?_
        walk_at "rd"
        cases e1 : prc R i s with
        | none =>
          refine ifT (decide_eq_true rfl) ?_
          walk_at "rd"
          rw [e1] at k
          exact k
        | some x1 =>
          refine ifF (decide_eq_false (fun z => by cases z)) ?_
          rw [e1, Option.isSome_some, Bool.true_and] at k
          walk_at "rd"
          refine r_ixL rs.at_ (atI_nat ear) ?_
          walk_at "rd"
          refine r_ixL har (atI_nat (prc_get g hr' hj)) ?_
          walk_at "rd"
          cases e2 : prc R r j with
          | none =>
            refine ifT (decide_eq_true rfl) ?_
            walk_at "rd"
            rw [e2] at k
            exact k
          | some x2 =>
            refine ifF (decide_eq_false (fun z => by cases z)) ?_
            rw [e2, Option.isSome_some, Bool.true_and] at k
            walk_at "rd"
            refine r_ixL rs.at_ (atI_nat ear) ?_
            walk_at "rd"
            refine r_ixL har (atI_nat (prc_get g hr' hs)) ?_
            walk_at "rd"
            have v1 : (prc R i s).isSome = true := by rw [e1]; rfl
            have v2 : (prc R r j).isSome = true := by rw [e2]; rfl
            cases e : prc R r s with
            | none =>
              refine ifT (decide_eq_true rfl) ?_
              rw [crB, e] at k
              walk_at "rd"
              exact k
            | some x =>
              refine ifF (decide_eq_false (fun z => by cases z)) ?_
              rw [crB, e] at k
              walk_at "rd"
              refine r_ixL rs.at_ (atI_nat eai) ?_
              walk_at "rd"
              refine r_ixL hai (atI_nat (prc_get g hi hj)) ?_
              rw [val_of pij]
              walk_at "rd"
              refine r_ixL rs.at_ (atI_nat ear) ?_
              walk_at "rd"
              refine r_ixL har (atI_nat (prc_get g hr' hs)) ?_
              rw [e]
              show rI0 (fun i j => V.int (i + j)) (V.int (val R i j)) (V.int x) _ _
              walk_at "rd"
              refine r_ixL rs.at_ (atI_nat eai) ?_
              walk_at "rd"
              refine r_ixL hai (atI_nat (prc_get g hi hs)) ?_
              rw [val_of v1]
              walk_at "rd"
              refine r_ixL rs.at_ (atI_nat ear) ?_
              walk_at "rd"
              refine r_ixL har (atI_nat (prc_get g hr' hj)) ?_
              rw [val_of v2]
              walk_at "rd"
              exact k
end
/-! ### the needs of the law, in numbers -/
def crossN (R : Rw) (i j : Nat) : List (List Pr) := (List.range R.length).flatMap fun r => ((List.range (wd R)).filter fun s => lcB R i j r s).map fun (s : Nat) => [((i : Int), (s : Int)), ((r : Int), (j : Int))]
def colN (R : Rw) (i j : Nat) : List (List Pr) := ((List.range R.length).filter fun r => (prc R r j).isSome && decide (val R r j < val R i j)).map fun (r : Nat) => [((r : Int), (j : Int))]
def rowN (R : Rw) (i j : Nat) : List (List Pr) := ((List.range (wd R)).filter fun s => (prc R i s).isSome && decide (val R i s < val R i j)).map fun (s : Nat) => [((i : Int), (s : Int))]
def needsL (R : Rw) (i j : Nat) (k : Str) : List (List Pr) := (crossN R i j ++ (if hasC k = true then colN R i j else [])) ++ (if hasR k = true then rowN R i j else [])
def metB (ns : List (List Pr)) (ps : List Pr) : Prop := ∀ n, n ∈ ns → ∃ z, z ∈ n ∧ z ∈ ps
theorem met_app {xs ys : List (List Pr)} {ps : List Pr} : metB (xs ++ ys) ps ↔ metB xs ps ∧ metB ys ps :=
  ⟨fun h => ⟨fun n hn => h n (List.mem_append_left _ hn), fun n hn => h n (List.mem_append_right _ hn)⟩, fun h n hn => (List.mem_append.mp hn).elim (h.1 n) (h.2 n)⟩
theorem inB_free {R : Rw} {ps : List Pr} {r s : Nat} : inB (freeL R ps) r s = true ↔ ((r : Int), (s : Int)) ∈ cells R ∧ ((r : Int), (s : Int)) ∉ ps := by
  unfold inB
  rw [decide_eq_true_iff, free_mem]
section
variable {R : Rw} {ps : List Pr} {i j : Nat} (hi : i < R.length) (hj : j < wd R)
include hi hj in
theorem met_cross : metB (crossN R i j) ps ↔ crossL R (inB (freeL R ps)) i j = [] := by
  constructor
  · intro h
    refine List.eq_nil_iff_forall_not_mem.mpr fun z hz => ?_
    unfold crossL at hz
    obtain ⟨r, hr, hz⟩ := List.mem_flatMap.mp hz
    unfold crRow at hz
    obtain ⟨s, hs, rfl⟩ := List.mem_map.mp hz
    obtain ⟨hs, hc⟩ := List.mem_filter.mp hs
    obtain ⟨r1, r2, r3⟩ := stB_mem hr
    obtain ⟨w1, w2, w3⟩ := wiB_mem hs
    obtain ⟨a1, a2⟩ := inB_free.mp r3
    obtain ⟨b1, b2⟩ := inB_free.mp w3
    have lc : lcB R i j r s = true := by
      unfold lcB
      rw [decide_eq_false r2, decide_eq_false w2, (mem_cells.mp b1).2.2, (mem_cells.mp a1).2.2, hc]
      rfl
    obtain ⟨z, hz, hp⟩ := h [((i : Int), (s : Int)), ((r : Int), (j : Int))] (List.mem_flatMap.mpr ⟨r, List.mem_range.mpr r1, List.mem_map.mpr ⟨s, List.mem_filter.mpr ⟨List.mem_range.mpr w1, lc⟩, rfl⟩⟩)
    rcases List.mem_cons.mp hz with rfl | hz
    · exact b2 hp
    · rw [List.mem_singleton.mp hz] at hp
      exact a2 hp
  · intro h n hn
    obtain ⟨r, hr, hn⟩ := List.mem_flatMap.mp hn
    obtain ⟨s, hs, rfl⟩ := List.mem_map.mp hn
    obtain ⟨hs, lc⟩ := List.mem_filter.mp hs
    have r1 := List.mem_range.mp hr
    have w1 := List.mem_range.mp hs
    unfold lcB at lc
    simp only [Bool.and_eq_true, Bool.not_eq_true', decide_eq_false_iff_not] at lc
    obtain ⟨⟨⟨⟨r2, w2⟩, p1⟩, p2⟩, hc⟩ := lc
    by_cases c1 : ((i : Int), (s : Int)) ∈ ps
    · exact ⟨_, List.mem_cons_self .., c1⟩
    · by_cases c2 : ((r : Int), (j : Int)) ∈ ps
      · exact ⟨_, List.mem_cons_of_mem _ (List.mem_cons_self ..), c2⟩
      · exfalso
        have m : ((r : Int), (s : Int)) ∈ crossL R (inB (freeL R ps)) i j := by
          unfold crossL
          refine List.mem_flatMap.mpr ⟨r, stB_in r1 r2 (inB_free.mpr ⟨mem_cells.mpr ⟨r1, hj, p2⟩, c2⟩), ?_⟩
          unfold crRow
          exact List.mem_map.mpr ⟨s, List.mem_filter.mpr ⟨wiB_in w1 w2 (inB_free.mpr ⟨mem_cells.mpr ⟨hi, w1, p1⟩, c1⟩), hc⟩, rfl⟩
        rw [h] at m
        cases m
include hi hj in
theorem met_col : metB (colN R i j) ps ↔ colL R (inB (freeL R ps)) i j = [] := by
  constructor
  · intro h
    refine List.eq_nil_iff_forall_not_mem.mpr fun z hz => ?_
    unfold colL at hz
    obtain ⟨r, hr, rfl⟩ := List.mem_map.mp hz
    obtain ⟨hr, hc⟩ := List.mem_filter.mp hr
    obtain ⟨r1, r2, r3⟩ := stB_mem hr
    obtain ⟨a1, a2⟩ := inB_free.mp r3
    obtain ⟨z, hz, hp⟩ := h [((r : Int), (j : Int))] (List.mem_map.mpr ⟨r, List.mem_filter.mpr ⟨List.mem_range.mpr r1, by rw [(mem_cells.mp a1).2.2]; exact hc⟩, rfl⟩)
    rw [List.mem_singleton.mp hz] at hp
    exact a2 hp
  · intro h n hn
    obtain ⟨r, hr, rfl⟩ := List.mem_map.mp hn
    obtain ⟨hr, hc⟩ := List.mem_filter.mp hr
    have r1 := List.mem_range.mp hr
    simp only [Bool.and_eq_true, decide_eq_true_eq] at hc
    obtain ⟨p2, hc⟩ := hc
    by_cases c2 : ((r : Int), (j : Int)) ∈ ps
    · exact ⟨_, List.mem_cons_self .., c2⟩
    · exfalso
      have r2 : r ≠ i := fun e => by rw [e] at hc; omega
      have m : ((r : Int), (j : Int)) ∈ colL R (inB (freeL R ps)) i j := by
        unfold colL
        exact List.mem_map.mpr ⟨r, List.mem_filter.mpr ⟨stB_in r1 r2 (inB_free.mpr ⟨mem_cells.mpr ⟨r1, hj, p2⟩, c2⟩), decide_eq_true hc⟩, rfl⟩
      rw [h] at m
      cases m
include hi hj in
theorem met_row : metB (rowN R i j) ps ↔ rowL R (inB (freeL R ps)) i j = [] := by
  constructor
  · intro h
    refine List.eq_nil_iff_forall_not_mem.mpr fun z hz => ?_
    unfold rowL at hz
    obtain ⟨s, hs, rfl⟩ := List.mem_map.mp hz
    obtain ⟨hs, hc⟩ := List.mem_filter.mp hs
    obtain ⟨w1, w2, w3⟩ := wiB_mem hs
    obtain ⟨b1, b2⟩ := inB_free.mp w3
    obtain ⟨z, hz, hp⟩ := h [((i : Int), (s : Int))] (List.mem_map.mpr ⟨s, List.mem_filter.mpr ⟨List.mem_range.mpr w1, by rw [(mem_cells.mp b1).2.2]; exact hc⟩, rfl⟩)
    rw [List.mem_singleton.mp hz] at hp
    exact b2 hp
  · intro h n hn
    obtain ⟨s, hs, rfl⟩ := List.mem_map.mp hn
    obtain ⟨hs, hc⟩ := List.mem_filter.mp hs
    have w1 := List.mem_range.mp hs
    simp only [Bool.and_eq_true, decide_eq_true_eq] at hc
    obtain ⟨p1, hc⟩ := hc
    by_cases c1 : ((i : Int), (s : Int)) ∈ ps
    · exact ⟨_, List.mem_cons_self .., c1⟩
    · exfalso
      have w2 : s ≠ j := fun e => by rw [e] at hc; omega
      have m : ((i : Int), (s : Int)) ∈ rowL R (inB (freeL R ps)) i j := by
        unfold rowL
        exact List.mem_map.mpr ⟨s, List.mem_filter.mpr ⟨wiB_in w1 w2 (inB_free.mpr ⟨mem_cells.mpr ⟨hi, w1, p1⟩, c1⟩), decide_eq_true hc⟩, rfl⟩
      rw [h] at m
      cases m
include hi hj in
theorem met_fau (k : Str) : metB (needsL R i j k) ps ↔ fauL R (inB (freeL R ps)) i j k = [] := by
  have nil : ∀ {z : Str} {l : List Pr}, wrd z l = [] ↔ l = [] := fun {z l} => List.map_eq_nil_iff
  have mn : metB ([] : List (List Pr)) ps := fun n hn => by cases hn
  unfold needsL fauL
  rw [met_app, met_app, List.append_eq_nil_iff, List.append_eq_nil_iff, nil, met_cross hi hj]
  have e1 : metB (if hasC k = true then colN R i j else []) ps ↔ (if hasC k = true then wrd "column" (colL R (inB (freeL R ps)) i j) else []) = [] := by
    split
    · rw [nil]; exact met_col hi hj
    · exact ⟨fun _ => rfl, fun _ => mn⟩
  have e2 : metB (if hasR k = true then rowN R i j else []) ps ↔ (if hasR k = true then wrd "row" (rowL R (inB (freeL R ps)) i j) else []) = [] := by
    split
    · rw [nil]; exact met_row hi hj
    · exact ⟨fun _ => rfl, fun _ => mn⟩
  rw [e1, e2]
end
end Pk
set_option Elab.async false
set_option linter.all false
set_option maxRecDepth 100000
set_option maxHeartbeats 2000000
/-! A dict comprehension whose keys are tuples. -/
namespace Pk
open PySem L2 PySem.Spec PyProof.Rows
/-- an entry is stored under a tuple -/
def PutT (H : Hp) (D : Addr) (y z : V) (H' : Hp) : Prop := ∃ (kvs : List (List Key × V)) (k : List Key) (b : Addr), y = V.ref b ∧ H b = some (.tup (k.map kV)) ∧ H D = some (.dT kvs) ∧ kvs.length < sizeLine ∧ H' = upd H D (.dT (putK kvs k z))
section
variable {X : Cx} {pn : List (Addr × Obj)} {τ : L2.St} {G G' : Hp} {sh : Shared} {D : Addr} {y z : V} {key val : Value} {Er : Value → Shared → Prop} {Qd : Unit → Shared → Prop}
theorem put_dictT (room : X.A.units + 64 < cLine) (J : Inv X pn τ G sh) (st : PutT G D y z G') (ry : RelV y key) (rz : RelV z val)
    (want : ∀ s', Inv X pn τ G' s' → Qd () s') : wpAny (model X.prog X.w) X.A (dictSet D key val) Qd Er sh := by
  obtain ⟨kvs, k, b, rfl, atb, atD, short, rfl⟩ := st
  cases (show key = Value.ref b from ry)
  obtain ⟨line, notSys, entries, rel, isD⟩ := dt_of J.hok atD
  have fits : entries.length ≤ sizeLine := by rw [← Paired.length rel]; exact line
  have after : (putK kvs k z).length ≤ sizeLine := by have := length_putK kvs k z; omega
  refine wpAny_dictSet_heap (hsz := fits) (show X.A.units < cLine by omega) (key_of J.hok atb) isD fun h' isD' but => want _ ?_
  obtain ⟨o, es, ep, ho, p2, p3, p4, _, p5⟩ := isD'
  refine d_write J (by rw [atD]; exact True.intro) but ⟨o, ho⟩ ⟨after, notSys, _, (rel.put k atb rz).keeps fun c ys ec => ?_, o, es, ep, ho, p2, p3, p4, p5⟩
  rw [upd_ne (ne_of ec atD (fun q => nomatch q))]
  exact ec
end
/-- what {k: v for target in iter if ..} asks, the keys tuples -/
def tDcT (wi : TI) (g : TG) (tt : TT) (tk tv : TE) (vs : List Nat) : TE := fun σ H Q => wi σ H fun J H1 => ∀ D, H1 D = none →
  ∃ W : Nat → Nat → Hp → Prop, (∃ m, W 0 m (upd H1 D (.dT []))) ∧ ∀ i m H, W i m H →
    (J.stop i H ∧ Q (.ref D) H) ∨
    (J.go i H ∧ ∃ Nx : Hp → Prop, (∀ H', Nx H' → ∃ m', m' < m ∧ W (i + 1) m' H') ∧
      ∀ x H', J.yld i H x H' → g x (wipe σ vs) H' fun σ2 H2 => wipe σ2 vs = wipe σ vs ∧
        tt σ2 H2 fun b H3 => if b = true then tk σ2 H3 fun y H4 => tv σ2 H4 fun z H5 => ∃ H6, PutT H5 D y z H6 ∧ Nx H6 else Nx H3)
section
variable {X : Cx}
theorem pe_dcT {kx vx tg iter : Expr} {ifs : List Expr} {scope : Scope} {own : List (Str × Nat)} {pos : Pos} {wi : TI} {g : TG} {tt : TT} {tk tv : TE}
    (room : X.A.units + 64 < cLine) (hc : X.calm = true) (hN : X.N.Nodup) (hi : PI X tg iter wi) (ok : BlkOk X.N X.env.scope scope own)
    (hg : ∀ (s : Shared) (H : Hp) (C : Addr) (cl : List (Str × Addr)) (fp : List Addr),
      PG (X.blk s H scope (compEnvC scope cl C X.env) fp) tg g)
    (ht : ∀ (s : Shared) (H : Hp) (C : Addr) (cl : List (Str × Addr)) (fp : List Addr),
      PTs (X.blk s H scope (compEnvC scope cl C X.env) fp) ifs tt)
    (hk : ∀ (s : Shared) (H : Hp) (C : Addr) (cl : List (Str × Addr)) (fp : List Addr),
      PE (X.blk s H scope (compEnvC scope cl C X.env) fp) kx tk)
    (he : ∀ (s : Shared) (H : Hp) (C : Addr) (cl : List (Str × Addr)) (fp : List Addr),
      PE (X.blk s H scope (compEnvC scope cl C X.env) fp) vx tv)
    (fold : ∀ x, foldedSetIterable iter X.env x = pure x := by intro _; rfl) :
    PE X (.DictComp kx vx [⟨tg, iter, ifs, 0⟩] scope pos) (tDcT wi g tt tk tv (own.map (·.2))) := by
  refine ⟨fun pn sh τ G Q J want => ?_⟩
  rw [arm_eval_DictComp]
  have cells : ∀ y ∈ scope.names, y.2 = .free → ∃ c, X.env.cells.lookup y.1 = some c := fun y hy e =>
    (ok.free y hy e).elim (fun k => J.ok.has _ (.inl k)) (fun k => J.ok.has _ (.inr k))
  refine wpAny_comprehension_free rfl fold (closure_ok cells) ok.kind (fun y hy e => by rw [ok.uniq y hy, e]) ?_
  refine thn (hi.run pn sh τ G _ J want) fun src s1 begun => thn begun fun itv s2 begun2 => ?_
  obtain ⟨it, fp, turns, walk, G2, rfl, J2, T, at0, fps, q⟩ := begun2
  refine wpAny_newObj_type (newEnv_comp ?_)
  obtain ⟨D, eD⟩ : ∃ D, D = s2.heap.objs.size := ⟨_, rfl⟩
  have newD : G2 D = none := J2.hok.fresh (Nat.le_of_eq eD.symm)
  obtain ⟨W, ⟨m0, w0⟩, turn⟩ := q D newD
  obtain ⟨s3, es3⟩ : ∃ s3 : Shared, s3 = { s2 with heap := s2.heap.push { cls := .type "dict", data := .dict #[] } } := ⟨_, rfl⟩
  have heap3 : s3.heap = s2.heap.push { cls := .type "dict", data := .dict #[] } := by rw [es3]
  have J3 : Inv X pn τ (upd G2 D (.dT [])) s3 := by
    rw [es3]
    refine J2.laid (t' := s2.toks) (fun b o e => Heap.get?_push_of_some _ e) (Nat.le_of_eq eD.symm) ?_
    rw [eD]
    exact dt_empty s2.heap J2.big
  have below : ∀ b ∈ fp, b < s2.heap.objs.size := fun b hb => (T.obj _ _ at0 b hb).elim fun o e => Heap.lt_size e.1
  have fps3 : ∀ b ∈ fp, FpOk X pn (upd G2 D (.dT [])) b ∧ b < s3.heap.objs.size := fun b hb => by
    have lt := below b hb
    refine ⟨⟨?_, (fps b hb).2⟩, by rw [heap3, Heap.size_push]; exact Nat.lt_succ_of_lt lt⟩
    rw [upd_ne (by rw [eD]; exact Nat.ne_of_lt lt)]
    exact (fps b hb).1
  have at3 : turns 0 s3.heap := T.keep _ _ _ at0 fun b _ o e => by rw [heap3]; exact Heap.get?_push_of_some _ e
  have J4 := block_start J3 ok hN fps3
  -- the block's frame and its parts
  obtain ⟨cl, ecl⟩ : ∃ cl, cl = cellsFrom (s3.heap.objs.size + 1) scope.names (cloFrom X.env.cells scope.names []) := ⟨_, rfl⟩
  obtain ⟨G3, eG3⟩ : ∃ G3, G3 = upd G2 D (.dT []) := ⟨_, rfl⟩
  rw [← ecl, ← eG3] at J4
  rw [← eG3] at J3 w0 fps3
  have target := hg s3 G3 s3.heap.objs.size cl fp
  have tests := ht s3 G3 s3.heap.objs.size cl fp
  have keys := hk s3 G3 s3.heap.objs.size cl fp
  have values := he s3 G3 s3.heap.objs.size cl fp
  obtain ⟨s4, es4⟩ : ∃ s4 : Shared, s4 = { s3 with heap := pushCells (s3.heap.push { cls := .type "dict", data := .dict #[] }) scope.names } := ⟨_, rfl⟩
  rw [← es4] at J4
  have at4 : turns 0 s4.heap := T.keep _ _ _ at3 fun b _ o e => by rw [es4]; exact pushCells_keeps _ _ _ _ (Heap.get?_push_of_some _ e)
  obtain ⟨ce, ece⟩ : ∃ ce, ce = compEnvC scope cl s3.heap.objs.size X.env := ⟨_, rfl⟩
  have frame : ce.locals = s3.heap.objs.size := by rw [ece]; rfl
  rw [← ece] at J4 target tests keys values
  have still : ∀ {σ' : L2.St} {H' : Hp} {s' : Shared}, Inv (X.blk s3 G3 scope ce fp) [] σ' H' s' → (∀ b ∈ fp, H' b = none) →
      ∀ b ∈ fp, FpOk (X.blk s3 G3 scope ce fp) [] H' b := fun {σ' H' s'} J' off b hb =>
    ⟨off b hb, (J'.ok.exf b hb).1, J'.ok.exfs b hb, .inl hb, fun x c e => (J'.ok.exf b hb).2 x c e, fun p hp => absurd (show p ∈ ([] : List (Addr × Obj)) ++ [] from hp) (by simp)⟩
  have stopsAt : ∀ {s' : Shared} {m : PySem.Str → Option Value} {H' : Hp}, Inv X pn τ H' s' → Q (.ref D) H' → s'.heap.Ns ce.locals m → FpOk X pn H' ce.locals →
      compPost (model X.prog X.w) X.A X.xe none (EP X pn τ Q) (.ref D) ce.locals (.ok .next) s' := fun {s' m H'} J' q' ns fpok => by
    refine ⟨m, ns, fun h'' sb => ?_⟩
    obtain ⟨a0, a1, a2, a3, a4, a5⟩ := fpok
    exact ⟨.ref D, H', J'.turned (t' := s'.toks) (fun b o hb e => (sb.2 b hb).trans e) a0 a1 a3 a4 a5, rfl, q'⟩
  suffices goes : codeAny (model X.prog X.w) X.A (.compLoop (.DictComp kx vx [⟨tg, iter, ifs, 0⟩] scope pos) 0 (.ref it) (.ref D) ce)
      (compPost (model X.prog X.w) X.A X.xe none (EP X pn τ Q) (.ref D) ce.locals) s4 by
    have := codeAny_compStart_dict goes (T.self X.A 0 _ _ _ at4 goes)
    subst ece ecl es4 es3 eD
    exact this
  refine compLoop_anyD (fun n s' => ∃ i H', Inv (X.blk s3 G3 scope ce fp) [] (wipe τ (own.map (·.2))) H' s' ∧ turns i s'.heap ∧ (∀ b ∈ fp, H' b = none) ∧ W i n H') ?_ m0
    ⟨0, G3, J4, at4, (fun b hb => (fps3 b hb).1.1), w0⟩
  rintro n s5 ⟨i, G5, J5, at5, off5, w5⟩
  rcases turn i n G5 w5 with ⟨stop, here⟩ | ⟨go, Nx, less, step⟩
  · refine thnF (T.done (X.blk s3 G3 scope ce fp) rfl rfl rfl hc i [] s5 _ G5 (fun _ _ => False) J5 (still J5 off5) at5 stop) fun r s6 ended => ?_
    obtain ⟨rfl, J6⟩ := ended
    have J7 : Inv X pn τ G5 s6 := J3.call' (ch := fp) J6.os J6.base J6.hok J6.bare fun b hb =>
      ⟨(fps3 b hb).1.2.2.2.1, (fps3 b hb).1.2.1, (fps3 b hb).1.2.2.2.2.1, (fps3 b hb).1.2.2.2.2.2⟩
    obtain ⟨m, names, _⟩ := J6.loc
    refine stopsAt J7 here names ?_
    have free : G5 ce.locals = none := J6.free
    rw [frame] at free ⊢
    exact J3.fpOk (Nat.le_refl _) free
  · refine thnF (T.item (X.blk s3 G3 scope ce fp) rfl rfl rfl hc i [] s5 _ G5 (fun _ _ => False) J5 (still J5 off5) at5 go) fun r s6 got => ?_
    obtain ⟨u, rfl, got⟩ := got
    refine thnF got fun _ s7 had => ?_
    obtain ⟨x, G7, J7, rx, yx, at7, off7⟩ := had
    have J7' := J7.pinned (still J7 off7) (T.obj _ _ at7)
    refine thnF (target.run _ s7 _ G7 x u _ J7' rx (step x G7 yx)) fun _ s8 named => ?_
    obtain ⟨τ8, G8, J8, same8, q8⟩ := named
    refine thnF (tests.run _ s8 τ8 G8 _ J8 q8) fun b s9 told => ?_
    obtain ⟨G9, J9, q9⟩ := told
    have next : ∀ {s' : Shared} {H' : Hp}, Inv (X.blk s3 G3 scope ce fp) ([] ++ pinsAt fp s7.heap) τ8 H' s' → Nx H' →
        ∃ m, m < n ∧ ∃ i H', Inv (X.blk s3 G3 scope ce fp) [] (wipe τ (own.map (·.2))) H' s' ∧ turns i s'.heap ∧ (∀ b ∈ fp, H' b = none) ∧ W i m H' := fun {s' H'} J' nx => by
      obtain ⟨m', lt, w'⟩ := less H' nx
      have kept : ∀ b ∈ fp, ∀ o, s7.heap.get? b = some o → s'.heap.get? b = some o ∧ H' b = none := fun b hb o e => by
        have pin := J'.pin (b, o) (List.mem_append_right _ (List.mem_append_right _ (mem_pinsAt hb e)))
        exact ⟨pin.1, pin.2.1⟩
      refine ⟨m', lt, i + 1, H', (J'.unpinned (pins := [])).weak (by rw [← same8, wipe_length]) (fun j v e => ?_), T.keep _ _ _ at7 fun b hb o e => (kept b hb o e).1, fun b hb => ?_, w'⟩
      · rw [← same8] at e
        exact (wipe_some e).1
      · obtain ⟨o, e, _⟩ := T.obj _ _ at7 b hb
        exact (kept b hb o e).2
    cases b with
    | false =>
      rw [if_neg Bool.false_ne_true] at q9 ⊢
      exact next J9 q9
    | true =>
      rw [if_pos rfl] at q9 ⊢
      refine thnF (keys.run _ s9 τ8 G9 _ J9 q9) fun kv s10 keyed => ?_
      obtain ⟨yk, G10, J10, rk, q10⟩ := keyed
      refine thnF (values.run _ s10 τ8 G10 _ J10 q10) fun vv s11 valued => ?_
      obtain ⟨yv, G11, J11, rv, G12, put, nx⟩ := valued
      exact put_dictT (X := X.blk s3 G3 scope ce fp) room J11 put rk rv fun s12 J12 => next J12 nx
end
end Pk
set_option Elab.async false
set_option linter.all false
set_option maxRecDepth 100000
set_option maxHeartbeats 4000000
namespace Pk
open PySem L2
local macro_rules | `(tactic| walk_at "rd") => `(tactic| repeat (first
  | with_reducible refine r_seq ?_ | with_reducible refine r_nxt ?_ | with_reducible refine r_asg ?_ | with_reducible refine r_to ?_ | with_reducible refine r_ret ?_ | with_reducible refine r_for ?_ | with_reducible refine r_lc ?_ | with_reducible refine r_lc2 ?_ | with_reducible refine r_rng1 ?_ | with_reducible refine r_list ?_ | with_reducible refine r_tupI ?_ | with_reducible refine r_drop ?_ | with_reducible refine r_ifs ?_
  | with_reducible refine r_op ?_ | with_reducible refine r_c ?_ | with_reducible refine r_var rfl ?_ | with_reducible refine r_var (by assumption) ?_ | with_reducible refine r_I0 ?_ | with_reducible refine r_un ?_ | with_reducible refine r_U ?_ | with_reducible refine r_make ?_ | with_reducible refine r_makeS ?_ | with_reducible refine r_ifE ?_ | with_reducible refine r_cm ?_ | with_reducible refine r_mkV rfl ?_ | with_reducible refine r_sub ?_
  | with_reducible refine r_nil ?_ | with_reducible refine r_cons ?_ | with_reducible refine r_cb ?_ | with_reducible refine r_sl ?_ | with_reducible refine r_noP ?_ | with_reducible refine r_part ?_ | with_reducible refine r_isI ?_ | with_reducible refine r_lst ?_ | with_reducible refine r_tup ?_ | with_reducible refine r_call ?_ | with_reducible refine r_callS ?_ | with_reducible refine r_sFldU ?_ | with_reducible refine r_chain ?_ | with_reducible refine r_enum ?_ | with_reducible refine r_zip ?_ | with_reducible refine r_rng3 ?_ | with_reducible refine r_gtup ?_ | with_reducible refine r_methU ?_
  | with_reducible refine r_test ?_ | with_reducible refine r_B ?_ | with_reducible refine r_and ?_ | with_reducible refine r_or ?_ | with_reducible refine r_not ?_ | with_reducible refine r_andV ?_ | with_reducible refine r_orV ?_ | with_reducible refine r_notV ?_ | with_reducible refine r_bl ?_ | with_reducible refine r_yes ?_ | with_reducible refine r_int ?_ | with_reducible refine r_is0 ?_ | with_reducible refine r_is1 ?_ | with_reducible refine iteT ?_ | with_reducible refine iteF ?_ | with_reducible refine ite_nF ?_ | with_reducible refine ite_nT ?_
  | with_reducible refine r_mod (by decide) ?_ | with_reducible refine r_div (by decide) (by decide) ?_ | with_reducible refine r_mulR (by decide) (by decide) ?_ | with_reducible refine r_mulL (by decide) (by decide) ?_ | with_reducible refine r_pow (by decide) (by decide) (by decide) ?_))
/-! ### lists of lists of pairs; what is placed, as a dict -/
def FlAt (p : Addr) (H : Hp) (D : Addr) (cs : List Pr) (t : Pr → Bool) (i : Nat) (H' : Hp) : Prop := Same H H' ∧ ∃ us, H' D = some (.lst us) ∧ us.length ≤ i ∧ PrsAt p H' us ((cs.take i).filter t)
theorem FlAt.start {p : Addr} {H : Hp} {D : Addr} {cs : List Pr} {t : Pr → Bool} (nD : H D = none) : FlAt p H D cs t 0 (upd H D (.lst [])) := ⟨Same.up (Same.refl H) nD, [], upd_same, Nat.le_refl _, .nil⟩
theorem FlAt.yes {p : Addr} {H H2 : Hp} {D : Addr} {v : V} {cs : List Pr} {t : Pr → Bool} {i : Nat} {z : Pr} (h : FlAt p H D cs t i H2) (nD : H D = none) (ez : cs[i]? = some z) (pz : PrAt p H v z) (tz : t z = true) (l : i < sizeLine) :
    ∃ acc, H2 D = some (.lst acc) ∧ acc.length < sizeLine ∧ FlAt p H D cs t (i + 1) (upd H2 D (.lst (acc ++ [v]))) := by
  obtain ⟨s1, us, hD, ul, hu⟩ := h
  have nT : ∀ c xs, H2 c = some (.tup xs) → upd H2 D (.lst (us ++ [v])) c = some (.tup xs) := fun c xs e => by
    rw [upd_ne (fun z => by rw [z, hD] at e; cases e)]
    exact e
  refine ⟨us, hD, by omega, Same.upOff s1 nD, us ++ [v], upd_same, by rw [List.length_append]; show us.length + 1 ≤ _; omega, ?_⟩
  rw [List.take_add_one, ez, List.filter_append]
  show PrsAt p _ _ (_ ++ List.filter t [z])
  rw [List.filter_cons_of_pos tz]
  obtain ⟨a, e, n, ha⟩ := pz
  exact (hu.mono nT).app (.cons ⟨a, e, n, nT _ _ (s1 _ _ ha)⟩ .nil)
theorem FlAt.no {p : Addr} {H H2 : Hp} {D : Addr} {cs : List Pr} {t : Pr → Bool} {i : Nat} {z : Pr} (h : FlAt p H D cs t i H2) (ez : cs[i]? = some z) (tz : t z = false) : FlAt p H D cs t (i + 1) H2 := by
  obtain ⟨s1, us, hD, ul, hu⟩ := h
  refine ⟨s1, us, hD, by omega, ?_⟩
  rw [List.take_add_one, ez, List.filter_append]
  show PrsAt p _ _ (_ ++ List.filter t [z])
  rw [List.filter_cons_of_neg (by rw [tz]; exact Bool.false_ne_true), List.filter_nil, List.append_nil]
  exact hu
theorem FlAt.fin {p : Addr} {H H2 : Hp} {D : Addr} {cs : List Pr} {t : Pr → Bool} {n : Nat} (h : FlAt p H D cs t n H2) (e : n = cs.length) : Same H H2 ∧ ∃ us, H2 D = some (.lst us) ∧ PrsAt p H2 us (cs.filter t) := by
  obtain ⟨s1, us, hD, ul, hu⟩ := h
  rw [e, List.take_of_length_le (Nat.le_refl _)] at hu
  exact ⟨s1, us, hD, hu⟩
def kzP (z : Pr) : List Key := [.inl z.1, .inl z.2]
theorem kz_inj {y z : Pr} (h : kzP y = kzP z) : y = z := by
  unfold kzP at h
  simp only [List.cons.injEq, Sum.inl.injEq, and_true] at h
  exact Prod.ext h.1 h.2
inductive LsAt (p : Addr) (H : Hp) : List V → List (List Pr) → Prop
  | nil : LsAt p H [] []
  | cons {b : Addr} {us vs : List V} {n : List Pr} {ns : List (List Pr)} (h : H b = some (.lst us)) (u : PrsAt p H us n) (r : LsAt p H vs ns) : LsAt p H (.ref b :: vs) (n :: ns)
theorem LsAt.same {p : Addr} {H H' : Hp} {vs : List V} {ns : List (List Pr)} (h : LsAt p H vs ns) (s : Same H H') : LsAt p H' vs ns := by
  induction h with
  | nil => exact .nil
  | cons h u _ ih => exact .cons (s _ _ h) (u.keep (Keep.same s)) ih
/-- .. where one list alone has changed, new since H0 -/
theorem LsAt.off {p D : Addr} {H H' : Hp} {vs : List V} {ns : List (List Pr)} (h : LsAt p H vs ns) (s : ∀ c o, H c = some o → c ≠ D → H' c = some o) (nD : ∀ b, .ref b ∈ vs → b ≠ D) (dD : ∀ us, H D = some (.lst us) → True) (tD : ∀ xs, H D ≠ some (.tup xs)) : LsAt p H' vs ns := by
  induction h with
  | nil => exact .nil
  | cons h u _ ih =>
    refine .cons (s _ _ h (nD _ List.mem_cons_self)) (u.mono fun t xs e => s _ _ e fun q => tD xs (by rw [← q]; exact e)) (ih fun b hb => nD b (List.mem_cons_of_mem _ hb))
theorem LsAt.length {p : Addr} {H : Hp} {vs : List V} {ns : List (List Pr)} (h : LsAt p H vs ns) : vs.length = ns.length := by
  induction h with
  | nil => rfl
  | cons _ _ _ ih => rw [List.length_cons, List.length_cons, ih]
theorem LsAt.app {p : Addr} {H : Hp} {vs ws : List V} {ns ms : List (List Pr)} (h : LsAt p H vs ns) (g : LsAt p H ws ms) : LsAt p H (vs ++ ws) (ns ++ ms) := by
  induction h with
  | nil => exact g
  | cons h u _ ih => exact .cons h u ih
theorem LsAt.at {p : Addr} {H : Hp} {vs : List V} {ns : List (List Pr)} (h : LsAt p H vs ns) : ∀ {i : Nat} {v : V}, vs[i]? = some v → ∃ n b us, ns[i]? = some n ∧ v = .ref b ∧ H b = some (.lst us) ∧ PrsAt p H us n := by
  induction h with
  | nil => intro i v e; cases e
  | cons h u _ ih =>
    intro i v e
    cases i with
    | zero => cases e; exact ⟨_, _, _, rfl, rfl, h, u⟩
    | succ i => exact ih e
theorem r_din {td ty : TE} {σ : L2.St} {H : Hp} {Q : VK} (h : ty σ H fun y H1 => td σ H1 fun x H2 => ∃ a o, x = .ref a ∧ DGet H2 a y o ∧ Q (.bl o.isSome) H2) : tDIn ty td σ H Q := h
def metD (ns : List (List Pr)) (ps : List Pr) : Bool := ns.all fun n => n.any fun z => decide (z ∈ ps)
theorem metD_iff {ns : List (List Pr)} {ps : List Pr} : metD ns ps = true ↔ metB ns ps := by
  unfold metD metB
  rw [List.all_eq_true]
  refine forall_congr' fun n => forall_congr' fun _ => ?_
  rw [List.any_eq_true]
  constructor
  · rintro ⟨z, h, e⟩
    exact ⟨z, h, of_decide_eq_true e⟩
  · rintro ⟨z, h, e⟩
    exact ⟨z, h, decide_eq_true e⟩
theorem valV_keys : ∀ {kvs : List (List Key × V)} {k : List Key}, (valV kvs k).isSome = true ↔ k ∈ kvs.map fun p : List Key × V => p.1
  | [], k => ⟨(fun h => by rw [valV_nil] at h; cases h), (fun h => by cases h)⟩
  | p :: r, k => by
    by_cases c : p.1 = k
    · rw [valV_pos c]
      exact ⟨fun _ => by rw [List.map_cons, c]; exact List.mem_cons_self, fun _ => rfl⟩
    · rw [valV_neg c, valV_keys]
      refine ⟨fun h => List.mem_cons_of_mem _ h, fun h => ?_⟩
      rcases List.mem_cons.mp h with h | h
      · exact absurd h.symm c
      · exact h
theorem kz_mem {z : Pr} {ps : List Pr} : kzP z ∈ ps.map kzP ↔ z ∈ ps := by
  constructor
  · intro h
    obtain ⟨y, hy, e⟩ := List.mem_map.mp h
    rw [← kz_inj e]
    exact hy
  · intro h
    exact List.mem_map.mpr ⟨z, h, rfl⟩
/-- the dict of what is placed, in its sequence -/
def PlK (H : Hp) (D : Addr) (ps : List Pr) : Prop := ∃ kvs : List (List Key × V), H D = some (.dT kvs) ∧ kvs.map (·.1) = ps.map kzP
theorem PlK.same {H H' : Hp} {D : Addr} {ps : List Pr} (h : PlK H D ps) (s : Same H H') : PlK H' D ps := by
  obtain ⟨kvs, e, l⟩ := h
  exact ⟨kvs, s _ _ e, l⟩
theorem PlK.get {H : Hp} {D : Addr} {ps : List Pr} (h : PlK H D ps) : ∃ kvs : List (List Key × V), H D = some (.dT kvs) ∧ kvs.length ≤ ps.length ∧ ∀ z : Pr, (valV kvs (kzP z)).isSome = decide (z ∈ ps) := by
  obtain ⟨kvs, e, l⟩ := h
  refine ⟨kvs, e, ?_, fun z => ?_⟩
  · have := congrArg List.length l
    rw [List.length_map, List.length_map] at this
    omega
  · have q := valV_keys (kvs := kvs) (k := kzP z)
    rw [l, kz_mem] at q
    rw [Bool.eq_iff_iff, q, decide_eq_true_iff]
theorem PlK.put {H : Hp} {D : Addr} {ps : List Pr} {kvs : List (List Key × V)} {z : Pr} {v : V} (e : H D = some (.dT kvs)) (l : kvs.map (·.1) = ps.map kzP) (n : z ∉ ps) : PlK (upd H D (.dT (putK kvs (kzP z) v))) D (ps ++ [z]) := by
  have no : valV kvs (kzP z) = none := by
    have w := valV_keys (kvs := kvs) (k := kzP z)
    rw [l, kz_mem] at w
    cases q : valV kvs (kzP z) with
    | none => rfl
    | some v => rw [q] at w; exact absurd (w.mp rfl) n
  refine ⟨_, upd_same, ?_⟩
  rw [putK_new v no, List.map_append, l, List.map_append]; rfl
def spMet : Sp := fun vs H Q _ => ∃ (p a d : Addr) (us : List V) (ns : List (List Pr)) (ps : List Pr), vs = [.ref a, .ref d] ∧ H a = some (.lst us) ∧ LsAt p H us ns ∧ (∀ n, n ∈ ns → n.length ≤ 64) ∧ PlK H d ps ∧ ∀ H' : Hp, Same H H' → Q (.bl (metD ns ps)) H'
abbrev slMet : Stmt := top 60
theorem filt_nil {n ps : List Pr} : ((n.filter fun z => decide (z ∈ ps)).length = 0) ↔ (n.any fun z => decide (z ∈ ps)) = false := by
  rw [List.length_eq_zero_iff, List.filter_eq_nil_iff, List.any_eq_false]
section
variable {P : Program} {w : World} {K : PySem.W.Frag} {mg : Str → Option Value} {base : Heap} {f : Addr} {fd : FuncData}
theorem sclMet : FnScope ["_law_own", "_law_placed", "_law_need", "_law_spot"] ["_law_own", "_law_placed"] (defScope slMet) := ⟨rfl, rfl, rfl, by decide +kernel, rfl, by decide +kernel, by decide +kernel⟩
theorem ok_met (F : Fun K "_law_met" "_law_met" slMet f fd) (T : Bt mg) : FnOk P w K mg base CX0 1 f fd ["_law_own", "_law_placed"] spMet := by
  refine F.ok sclMet (fun vs H Q E h => ?_) (fun cdv A outer s H vs Q E hr h => ?_)
  · obtain ⟨p, a, d, us, ns, ps, rfl, _⟩ := h
    rfl
  · obtain ⟨p, a, d, us, ns, ps, rfl, ha, ls, n64, pl, k⟩ := h
    have hu1 := Nat.lt_of_le_of_lt (Nat.add_le_add_left (show 1 ≤ 64 by decide) _) hr.units
    refine ⟨_, (pss_cons (ps_for PassesOwn.never rfl (pi_list (pv 0)) (pg_name (i := 2) sclMet.nd rfl (Or.inl rfl)) (pss_one (ps_if (pt_cmpR op_eq (pe_callB cl_len (by rfl) T.len (by decide +kernel) (pa_cons (pe_lc (own := [("_law_spot", 3)]) (g := gName 3) (tt := tTest (tDIn (tVar 3) (tVar 1))) (te := tVar 3) rfl sclMet.nd (pi_list (pv 2)) (blkOk_by (own := [("_law_spot", 3)]) (N := ["_law_own", "_law_placed", "_law_need", "_law_spot"]) (sc := defScope slMet) (by decide +kernel)) (fun _ _ _ _ _ => pg_name (i := 3) sclMet.nd rfl (Or.inl rfl)) (fun _ _ _ _ _ => pts_one (pt_cmp (pc_din hu1 (pv 3) (pv 1)))) (fun _ _ _ _ _ => (pv 3))) pa_nil)) pe_int (nomark _)) (pss_one (ps_ret pe_bl)) pss_nil)))
  (pss_one (ps_ret pe_bl))), ?_⟩
    have ul := ls.length
    walk_at "rd"
    refine ⟨a, rfl, ⟨_, SqL.of ha⟩, for_it walk_list (fun m σ H' => ∃ v2 v3, σ = [some (.ref a), some (.ref d), v2, v3] ∧ Same H H' ∧ metD (ns.take m) ps = true) ⟨_, _, rfl, Same.refl H, rfl⟩ (fun m σ H' _ q => by obtain ⟨_, _, _, q, _⟩ := q; exact SqL.of (q _ _ ha)) ?_ ?_⟩
    · rintro m y σ H1' H1 hm ⟨v2, v3, rfl, s1, mt⟩ ⟨rfl, ey⟩
      have hm : m < us.length := hm
      obtain ⟨n, b, ws, en, rfl, hb, pw⟩ := (ls.same s1).at ey
      have nl := n64 n (List.mem_of_getElem? en)
      have wl := pw.length
      walk_at "rd"
      refine ⟨b, rfl, ⟨_, SqL.of hb⟩, fun D1 nD1 => lc_it walk_list (FlAt p H1 D1 n (fun z => decide (z ∈ ps))) (FlAt.start nD1) (fun i H' _ z => SqL.of (z.1 _ _ hb)) ?_ ?_⟩
      · rintro i y H4 H3 hi z ⟨rfl, ey⟩
        obtain ⟨zi, ez, pz⟩ := pw.at ey
        obtain ⟨tt, rfl, _, ht⟩ := id pz
        have hi : i < ws.length := hi
        obtain ⟨kvs, hd, _, q⟩ := (pl.same (s1.trans z.1)).get
        walk_at "rd"
        refine ⟨rfl, ?_⟩
        walk_at "rd"
        refine r_din ?_
        walk_at "rd"
        refine ⟨d, _, rfl, DGet.t (k := kzP zi) hd (z.1 _ _ ht), ?_⟩
        refine ⟨_, rfl, ?_⟩
        rw [q zi]
        by_cases c : zi ∈ ps
        · rw [decide_eq_true c]
          refine ifT rfl ?_
          walk_at "rd"
          exact z.yes nD1 ez pz (decide_eq_true c) (Nat.lt_of_lt_of_le (show i < 65 by omega) (by decide))
        · rw [decide_eq_false c]
          refine ifF rfl ?_
          exact z.no ez (decide_eq_false c)
      · rintro H3 z3
        obtain ⟨s3, us3, hD3, pr3⟩ := z3.fin wl
        walk_at "rd"
        refine r_lenL (SqL.of hD3) ?_
        walk_at "rd"
        have ll := pr3.length
        have tk : ns.take (m + 1) = ns.take m ++ [n] := by rw [List.take_succ, en]; rfl
        have mx : metD (ns.take (m + 1)) ps = n.any fun z => decide (z ∈ ps) := by
          rw [tk]
          unfold metD at mt ⊢
          rw [List.all_append, mt, Bool.true_and, List.all_cons, List.all_nil, Bool.and_true]
        have fn := filt_nil (n := n) (ps := ps)
        refine r_eq rfl ?_
        refine ⟨_, rfl, ?_⟩
        cases e : n.any fun z => decide (z ∈ ps) with
        | false =>
          refine ifT (decide_eq_true (by rw [ll, fn.mpr e]; rfl)) ?_
          walk_at "rd"
          have mf : metD ns ps = false := by
            cases q : metD ns ps with
            | false => rfl
            | true =>
              unfold metD at q
              rw [List.all_eq_true] at q
              rw [q n (List.mem_of_getElem? en)] at e
              cases e
          rw [mf] at k
          exact k H3 (s1.trans s3)
        | true =>
          refine ifF (decide_eq_false fun q => ?_) ?_
          · have : us3.length = 0 := by have := V.int.inj q; omega
            rw [fn.mp (by omega)] at e
            cases e
          · walk_at "rd"
            exact ⟨_, _, rfl, s1.trans s3, mx.trans e⟩
    · rintro σ H1 ⟨v2, v3, rfl, s1, mt⟩
      walk_at "rd"
      rw [List.take_of_length_le (by omega)] at mt
      rw [← mt] at *
      exact k H1 s1

theorem r_dget {td ty : TE} {σ : L2.St} {H : Hp} {Q : VK} (h : td σ H fun x H1 => ty σ H1 fun y H2 => ∃ a v, x = .ref a ∧ DGet H2 a y (some v) ∧ Q v H2) : tDGet td ty σ H Q := h
theorem r_dput {td ty tv : TE} {D : Ends} {σ : L2.St} {H : Hp} (h : tv σ H fun v H1 => td σ H1 fun x H2 => ty σ H2 fun y H3 => ∃ a H4, x = .ref a ∧ DPut H3 a y v H4 ∧ D.nx σ H4) : sDPut td ty tv D σ H := h
theorem putK_le {κ : Type} [DecidableEq κ] (kvs : List (κ × V)) (k : κ) (v : V) : (putK kvs k v).length ≤ kvs.length + 1 := by
  unfold putK
  split
  · rw [List.length_map]; omega
  · rw [List.length_append]; exact Nat.le_refl _
/-- the needs of every cell, as a dict -/
def NdK (p : Addr) (H : Hp) (d : Addr) (R : Rw) (kd : Str) : Prop := ∃ kvs : List (List Key × V), H d = some (.dT kvs) ∧ kvs.map (·.1) = (cells R).map kzP ∧ ∀ i j : Nat, ((i : Int), (j : Int)) ∈ cells R → ∃ a us, valV kvs (kzP ((i : Int), (j : Int))) = some (.ref a) ∧ H a = some (.lst us) ∧ LsAt p H us (needsL R i j kd)
theorem NdK.same {p : Addr} {H H' : Hp} {d : Addr} {R : Rw} {kd : Str} (h : NdK p H d R kd) (s : Same H H') : NdK p H' d R kd := by
  obtain ⟨kvs, e, l, q⟩ := h
  exact ⟨kvs, s _ _ e, l, fun i j m => by obtain ⟨a, us, e1, e2, e3⟩ := q i j m; exact ⟨a, us, e1, s _ _ e2, e3.same s⟩⟩
def rightN (R : Rw) (kd : Str) : List Pr → List Pr → Bool
  | _, [] => true
  | ps, z :: r => metD (needsL R z.1.toNat z.2.toNat kd) ps && rightN R kd (ps ++ [z]) r
theorem needs_short {R : Rw} {i j : Nat} {kd : Str} {n : List Pr} (h : n ∈ needsL R i j kd) : n.length ≤ 64 := by
  have : n.length ≤ 2 := by
    unfold needsL at h
    rcases List.mem_append.mp h with h | h
    · rcases List.mem_append.mp h with h | h
      · obtain ⟨r, _, h⟩ := List.mem_flatMap.mp h
        obtain ⟨s, _, rfl⟩ := List.mem_map.mp h
        exact Nat.le_refl _
      · split at h
        · obtain ⟨s, _, rfl⟩ := List.mem_map.mp h
          exact Nat.le_succ _
        · cases h
    · split at h
      · obtain ⟨s, _, rfl⟩ := List.mem_map.mp h
        exact Nat.le_succ _
      · cases h
  omega
def spLRt : Sp := fun vs H Q _ => ∃ (p d l : Addr) (R : Rw) (kd : Str) (us : List V) (zs : List Pr), vs = [.ref d, .ref l] ∧ NdK p H d R kd ∧ H l = some (.lst us) ∧ PrsAt p H us zs ∧ (∀ z, z ∈ zs → z ∈ cells R) ∧ zs.Nodup ∧ zs.length ≤ 64 ∧ ∀ H' : Hp, Same H H' → Q (.bl (rightN R kd [] zs)) H'
abbrev slLRt : Stmt := top 62
theorem sclLRt : FnScope ["_law_needs_here", "_law_listed", "_law_placed", "_law_spot"] ["_law_needs_here", "_law_listed"] (defScope slLRt) := ⟨rfl, rfl, rfl, by decide +kernel, rfl, by decide +kernel, by decide +kernel⟩
theorem ok_lRt (F : Fun K "_law_is_right" "_law_is_right" slLRt f fd) (T : Bt mg) (DM : Df P w K mg base CX0 "_law_met" 1 ["_law_own", "_law_placed"] spMet) : FnOk P w K mg base CX0 2 f fd ["_law_needs_here", "_law_listed"] spLRt := by
  refine F.ok sclLRt (fun vs H Q E h => ?_) (fun cdv A outer s H vs Q E hr h => ?_)
  · obtain ⟨p, d, l, R, kd, us, zs, rfl, _⟩ := h
    rfl
  · obtain ⟨p, d, l, R, kd, us, zs, rfl, nd, hl, pu, zc, ndz, z64, k⟩ := h
    have hu1 := Nat.lt_of_le_of_lt (Nat.add_le_add_left (show 1 ≤ 64 by decide) _) hr.units
    refine ⟨_, (pss_cons (ps_set (i := 2) sclLRt.nd rfl (Or.inl rfl) pe_dnewT)
  (pss_cons (ps_for PassesOwn.never rfl (pi_list (pv 1)) (pg_name (i := 3) sclLRt.nd rfl (Or.inl rfl)) (pss_cons (ps_if (pt_not (pt_val (pe_df DM hr (by decide) (pa_cons (pe_dget hu1 (pv 0) (pv 3) (fun _ _ => rfl)) (pa_cons (pv 2) pa_nil))))) (pss_one (ps_ret pe_bl)) pss_nil)
  (pss_one (ps_dput hu1 (pv 2) (pv 3) pe_bl rfl))))
  (pss_one (ps_ret pe_bl)))), ?_⟩
    have ul := pu.length
    walk_at "rd"
    intro D nD
    have s1 := Same.up (o := .dT []) (Same.refl H) nD
    have hD1 : upd H D (.dT []) D = some (.dT []) := upd_same
    walk_at "rd"
    refine ⟨l, rfl, ⟨_, SqL.of (s1 _ _ hl)⟩, for_it walk_list (fun m σ H' => ∃ v3, σ = [some (.ref d), some (.ref l), some (.ref D), v3] ∧ Same H H' ∧ PlK H' D (zs.take m) ∧ rightN R kd [] zs = rightN R kd (zs.take m) (zs.drop m)) ⟨_, rfl, s1, ⟨[], hD1, rfl⟩, rfl⟩ (fun m σ H' _ q => by obtain ⟨_, _, q, _⟩ := q; exact SqL.of (q _ _ hl)) ?_ ?_⟩
    · rintro m y σ H1' H1 hm ⟨v3, rfl, s1, pl, er⟩ ⟨rfl, ey⟩
      have hm : m < us.length := hm
      obtain ⟨z, ez, pz⟩ := pu.at ey
      obtain ⟨tt, rfl, _, ht⟩ := id pz
      have zm := zc z (List.mem_of_getElem? ez)
      obtain ⟨i, j, rfl, hi, hj, _⟩ := cells_nat zm
      obtain ⟨kvs, hd, _, q⟩ := nd.same s1
      obtain ⟨a, ws, ea, ha, ls⟩ := q i j zm
      have dr : zs.drop m = ((i : Int), (j : Int)) :: zs.drop (m + 1) := by
        have e2 := (List.getElem?_eq_some_iff.mp ez)
        obtain ⟨e1, e2⟩ := e2
        rw [List.drop_eq_getElem_cons e1, e2]
      have tk : zs.take (m + 1) = zs.take m ++ [((i : Int), (j : Int))] := by rw [List.take_succ, ez]; rfl
      rw [dr, rightN] at er
      simp only [Int.toNat_natCast] at er
      walk_at "rd"
      refine r_dget ?_
      walk_at "rd"
      refine ⟨d, _, rfl, DGet.t (k := kzP ((i : Int), (j : Int))) hd (s1 _ _ ht) |> (fun h => by rw [ea] at h; exact h), ?_⟩
      walk_at "rd"
      refine ⟨p, a, D, ws, _, _, rfl, ha, ls, fun n hn => needs_short hn, pl, fun H2 s2 => ?_⟩
      refine ⟨_, rfl, ?_⟩
      cases e : metD (needsL R i j kd) (zs.take m) with
      | false =>
        refine ifT rfl ?_
        walk_at "rd"
        rw [e, Bool.false_and] at er
        rw [er] at k
        exact k H2 (s1.trans s2)
      | true =>
        refine ifF rfl ?_
        rw [e, Bool.true_and] at er
        refine r_nxt ?_
        dsimp only
        refine r_dput ?_
        walk_at "rd"
        obtain ⟨kv2, hD2, k2⟩ := id (pl.same s2)
        obtain ⟨kv3, hD3, l2, _⟩ := (pl.same s2).get
        rw [hD2] at hD3
        cases hD3
        have out : ((i : Int), (j : Int)) ∉ zs.take m := fun q => by
          have n2 := ndz.sublist (List.take_sublist (m + 1) zs)
          rw [tk] at n2
          exact (List.nodup_append.mp n2).2.2 _ q _ (List.mem_singleton.mpr rfl) rfl
        have ml : (zs.take m).length ≤ 64 := by rw [List.length_take]; omega
        refine ⟨D, _, rfl, DPut.t (k := kzP ((i : Int), (j : Int))) hD2 ((s1.trans s2) _ _ ht) (Nat.lt_of_le_of_lt (show kv2.length ≤ 64 by omega) (by decide)), ?_⟩
        refine ⟨_, rfl, ?_, ?_, ?_⟩
        · intro c o e
          rw [upd_ne (fun q => by rw [q, nD] at e; cases e)]
          exact (s1.trans s2) _ _ e
        · rw [tk]
          exact PlK.put hD2 k2 out
        · rw [er, tk]
    · rintro σ H1 ⟨v3, rfl, s1, pl, er⟩
      walk_at "rd"
      rw [er, List.drop_eq_nil_iff.mpr (by omega), rightN] at k
      exact k H1 s1
end
end Pk
set_option Elab.async false
set_option linter.all false
set_option maxRecDepth 100000
set_option maxHeartbeats 4000000
namespace Pk
open PySem L2
local macro_rules | `(tactic| walk_at "rd") => `(tactic| repeat (first
  | with_reducible refine r_seq ?_ | with_reducible refine r_nxt ?_ | with_reducible refine r_asg ?_ | with_reducible refine r_to ?_ | with_reducible refine r_ret ?_ | with_reducible refine r_for ?_ | with_reducible refine r_lc ?_ | with_reducible refine r_lc2 ?_ | with_reducible refine r_rng1 ?_ | with_reducible refine r_list ?_ | with_reducible refine r_tupI ?_ | with_reducible refine r_drop ?_ | with_reducible refine r_ifs ?_
  | with_reducible refine r_op ?_ | with_reducible refine r_c ?_ | with_reducible refine r_var rfl ?_ | with_reducible refine r_var (by assumption) ?_ | with_reducible refine r_I0 ?_ | with_reducible refine r_un ?_ | with_reducible refine r_U ?_ | with_reducible refine r_make ?_ | with_reducible refine r_makeS ?_ | with_reducible refine r_ifE ?_ | with_reducible refine r_cm ?_ | with_reducible refine r_mkV rfl ?_ | with_reducible refine r_sub ?_
  | with_reducible refine r_nil ?_ | with_reducible refine r_cons ?_ | with_reducible refine r_cb ?_ | with_reducible refine r_sl ?_ | with_reducible refine r_noP ?_ | with_reducible refine r_part ?_ | with_reducible refine r_isI ?_ | with_reducible refine r_lst ?_ | with_reducible refine r_tup ?_ | with_reducible refine r_call ?_ | with_reducible refine r_callS ?_ | with_reducible refine r_sFldU ?_ | with_reducible refine r_chain ?_ | with_reducible refine r_enum ?_ | with_reducible refine r_zip ?_ | with_reducible refine r_rng3 ?_ | with_reducible refine r_gtup ?_ | with_reducible refine r_methU ?_
  | with_reducible refine r_test ?_ | with_reducible refine r_B ?_ | with_reducible refine r_and ?_ | with_reducible refine r_or ?_ | with_reducible refine r_not ?_ | with_reducible refine r_andV ?_ | with_reducible refine r_orV ?_ | with_reducible refine r_notV ?_ | with_reducible refine r_bl ?_ | with_reducible refine r_yes ?_ | with_reducible refine r_int ?_ | with_reducible refine r_is0 ?_ | with_reducible refine r_is1 ?_ | with_reducible refine iteT ?_ | with_reducible refine iteF ?_ | with_reducible refine ite_nF ?_ | with_reducible refine ite_nT ?_
  | with_reducible refine r_mod (by decide) ?_ | with_reducible refine r_div (by decide) (by decide) ?_ | with_reducible refine r_mulR (by decide) (by decide) ?_ | with_reducible refine r_mulL (by decide) (by decide) ?_ | with_reducible refine r_pow (by decide) (by decide) (by decide) ?_))
theorem ifs_cut {c : TT} {a b : TS} {D : Ends} {σ : L2.St} {H : Hp} (Pv : L2.St → Hp → Prop) (h1 : ∀ N : L2.St → Hp → Prop, (∀ σ' H', Pv σ' H' → N σ' H') → tIfS c a b { D with nx := N } σ H) (h2 : ∀ σ' H', Pv σ' H' → D.nx σ' H') : tIfS c a b D σ H := h1 D.nx h2
/-! ### the needs of a cell, as lists -/
/-- the list of them so far -/
def OwnN (p D : Addr) (H H' : Hp) (ns : List (List Pr)) : Prop := Same H H' ∧ ∃ us, H' D = some (.lst us) ∧ LsAt p H' us ns ∧ ∀ b, V.ref b ∈ us → b ≠ D
theorem OwnN.later {p D : Addr} {H H1 H2 : Hp} {ns : List (List Pr)} (h : OwnN p D H H1 ns) (s : Same H1 H2) : OwnN p D H H2 ns := by
  obtain ⟨s1, us, e, l, q⟩ := h
  exact ⟨s1.trans s, us, s _ _ e, l.same s, q⟩
theorem OwnN.more {p D b : Addr} {H H1 : Hp} {ns : List (List Pr)} {n : List Pr} {us ws : List V} (nD : H D = none) (h : OwnN p D H H1 ns) (e : H1 D = some (.lst us)) (hb : H1 b = some (.lst ws)) (pw : PrsAt p H1 ws n) (bD : b ≠ D) : OwnN p D H (upd H1 D (.lst (us ++ [.ref b]))) (ns ++ [n]) := by
  obtain ⟨s1, us', e', l, q⟩ := h
  rw [e] at e'
  cases e'
  have tD : ∀ xs, H1 D ≠ some (.tup xs) := fun xs z => by rw [e] at z; cases z
  have st : ∀ c o, H1 c = some o → c ≠ D → upd H1 D (.lst (us ++ [.ref b])) c = some o := fun c o z ne => by rw [upd_ne ne]; exact z
  refine ⟨fun c o z => st c o (s1 _ _ z) (fun w => by rw [w, nD] at z; cases z), us ++ [.ref b], upd_same, (l.off st q (fun _ _ => trivial) tD).app (.cons (st _ _ hb bD) (pw.mono fun t xs z => st _ _ z fun w => tD xs (by rw [← w]; exact z)) .nil), fun c hc => ?_⟩
  rcases List.mem_append.mp hc with h | h
  · exact q c h
  · cases List.mem_singleton.mp h
    exact bD
theorem OwnN.len {p D : Addr} {H H1 : Hp} {ns : List (List Pr)} {us : List V} (h : OwnN p D H H1 ns) (e : H1 D = some (.lst us)) : us.length = ns.length := by
  obtain ⟨_, us', e', l, _⟩ := h
  rw [e] at e'
  cases e'
  exact l.length
def rw1 (R : Rw) (i j r n : Nat) : List (List Pr) := ((List.range n).filter fun s => lcB R i j r s).map fun (s : Nat) => [((i : Int), (s : Int)), ((r : Int), (j : Int))]
def cr1 (R : Rw) (i j m : Nat) : List (List Pr) := (List.range m).flatMap fun r => rw1 R i j r (wd R)
def co1 (R : Rw) (i j m : Nat) : List (List Pr) := ((List.range m).filter fun r => (prc R r j).isSome && decide (val R r j < val R i j)).map fun (r : Nat) => [((r : Int), (j : Int))]
def ro1 (R : Rw) (i j m : Nat) : List (List Pr) := ((List.range m).filter fun s => (prc R i s).isSome && decide (val R i s < val R i j)).map fun (s : Nat) => [((i : Int), (s : Int))]
theorem filt_snoc {α : Type} (f : Nat → Bool) (g : Nat → α) (n : Nat) : ((List.range (n + 1)).filter f).map g = ((List.range n).filter f).map g ++ if f n = true then [g n] else [] := by
  rw [List.range_succ, List.filter_append, List.map_append]
  by_cases c : f n = true
  · rw [List.filter_cons_of_pos (p := f) c, if_pos c]; rfl
  · rw [List.filter_cons_of_neg (p := f) c, if_neg c]; rfl
theorem rw1_more {R : Rw} {i j r n : Nat} : rw1 R i j r (n + 1) = rw1 R i j r n ++ if lcB R i j r n = true then [[((i : Int), (n : Int)), ((r : Int), (j : Int))]] else [] := filt_snoc ..
theorem co1_more {R : Rw} {i j n : Nat} : co1 R i j (n + 1) = co1 R i j n ++ if ((prc R n j).isSome && decide (val R n j < val R i j)) = true then [[((n : Int), (j : Int))]] else [] := filt_snoc ..
theorem ro1_more {R : Rw} {i j n : Nat} : ro1 R i j (n + 1) = ro1 R i j n ++ if ((prc R i n).isSome && decide (val R i n < val R i j)) = true then [[((i : Int), (n : Int))]] else [] := filt_snoc ..
theorem rw1_len {R : Rw} {i j r n : Nat} : (rw1 R i j r n).length ≤ n := by
  unfold rw1
  rw [List.length_map]
  exact Nat.le_trans (List.length_filter_le ..) (by rw [List.length_range]; exact Nat.le_refl _)
theorem co1_len {R : Rw} {i j n : Nat} : (co1 R i j n).length ≤ n := by
  unfold co1
  rw [List.length_map]
  exact Nat.le_trans (List.length_filter_le ..) (by rw [List.length_range]; exact Nat.le_refl _)
theorem ro1_len {R : Rw} {i j n : Nat} : (ro1 R i j n).length ≤ n := by
  unfold ro1
  rw [List.length_map]
  exact Nat.le_trans (List.length_filter_le ..) (by rw [List.length_range]; exact Nat.le_refl _)
theorem cr1_more {R : Rw} {i j m : Nat} : cr1 R i j (m + 1) = cr1 R i j m ++ rw1 R i j m (wd R) := by
  unfold cr1
  rw [List.range_succ, List.flatMap_append]
  simp
theorem cr1_len {R : Rw} {i j : Nat} (w8 : wd R ≤ 8) : ∀ {m : Nat}, (cr1 R i j m).length ≤ m * 8
  | 0 => Nat.le_refl _
  | m + 1 => by
    rw [cr1_more, List.length_append]
    have := cr1_len (R := R) (i := i) (j := j) w8 (m := m)
    have := rw1_len (R := R) (i := i) (j := j) (r := m) (n := wd R)
    omega
theorem wd_rw0 {R : Rw} (h : 0 < R.length) : ((R.getD 0 []).map pV).length = wd R := by
  rw [List.length_map]
  cases R with
  | nil => cases h
  | cons r R => rfl
def spNOf (K : PySem.W.Frag) : Sp := fun vs H Q _ => ∃ (p a : Addr) (es : List V) (R : Rw) (i j : Nat) (kd : Str), vs = [.ref a, .int (i : Int), .int (j : Int), .str kd] ∧ RS K H a es R ∧ Gt R ∧ ((i : Int), (j : Int)) ∈ cells R ∧ (∃ o, H p = some o) ∧
  ∀ (r : Addr) (us : List V) (H' : Hp), Same H H' → H' r = some (.lst us) → LsAt p H' us (needsL R i j kd) → Q (.ref r) H'
theorem deq_strK (a b : Str) : decide (V.str a = V.str b) = decide (a = b) := decide_eq_decide.mpr ⟨V.str.inj, fun h => by rw [h]⟩
abbrev slNOf : Stmt := top 58
section
variable {P : Program} {w : World} {K : PySem.W.Frag} {mg : Str → Option Value} {base : Heap} {f : Addr} {fd : FuncData}
theorem sclNOf : FnScope ["_law_grid_here", "_law_i", "_law_j", "_law_sort", "_law_own", "_law_r", "_law_s"] ["_law_grid_here", "_law_i", "_law_j", "_law_sort"] (defScope slNOf) := ⟨rfl, rfl, rfl, by decide +kernel, rfl, by decide +kernel, by decide +kernel⟩
theorem ok_nOf (F : Fun K "_law_needs_of" "_law_needs_of" slNOf f fd) (T : Bt mg) (DC : Df P w K mg base CX0 "_law_cross" 1 ["_law_grid_here", "_law_i", "_law_j", "_law_r", "_law_s"] (spLCr K)) : FnOk P w K mg base CX0 2 f fd ["_law_grid_here", "_law_i", "_law_j", "_law_sort"] (spNOf K) := by
  refine F.ok sclNOf (fun vs H Q E h => ?_) (fun cdv A outer s H vs Q E hr h => ?_)
  · obtain ⟨p, a, es, R, i, j, kd, rfl, _⟩ := h
    rfl
  · obtain ⟨p, a, es, R, i, j, kd, rfl, rs, g, mc, ⟨op, hop⟩, k⟩ := h
    refine ⟨_, (pss_cons (ps_set (i := 4) sclNOf.nd rfl (Or.inl rfl) (pe_lst pa_nil))
  (pss_cons (ps_for PassesOwn.never rfl (pi_range1 rfl T.range (pa_cons (pe_callB cl_len (by rfl) T.len (by decide +kernel) (pa_cons (pv 0) pa_nil)) pa_nil)) (pg_name (i := 5) sclNOf.nd rfl (Or.inl rfl)) (pss_one (ps_for PassesOwn.never rfl (pi_range1 rfl T.range (pa_cons (pe_callB cl_len (by rfl) T.len (by decide +kernel) (pa_cons (pe_ix ix_list (pv 0) pe_int (fun _ _ => rfl)) pa_nil)) pa_nil)) (pg_name (i := 6) sclNOf.nd rfl (Or.inl rfl)) (pss_one (ps_if (pt_val (pe_df DC hr (by decide) (pa_cons (pv 0) (pa_cons (pv 1) (pa_cons (pv 2) (pa_cons (pv 5) (pa_cons (pv 6) pa_nil))))))) (pss_one (ps_expr (pe_bm PySem.F.plainAttrs_list PySem.F.slot_list_append PySem.F.type_list_append mt_append (pv 4) (pa_cons (pe_lst (pa_cons (pe_tup (pa_cons (pv 1) (pa_cons (pv 6) pa_nil))) (pa_cons (pe_tup (pa_cons (pv 5) (pa_cons (pv 2) pa_nil))) pa_nil))) pa_nil)))) pss_nil)))))
  (pss_cons (ps_if (PW.pt (pw_or (pt_cmpR op_eq (pv 3) pe_str (nomark _)) (pw_or1 (pt_cmpR op_eq (pv 3) pe_str (nomark _))))) (pss_one (ps_for PassesOwn.never rfl (pi_range1 rfl T.range (pa_cons (pe_callB cl_len (by rfl) T.len (by decide +kernel) (pa_cons (pv 0) pa_nil)) pa_nil)) (pg_name (i := 5) sclNOf.nd rfl (Or.inl rfl)) (pss_one (ps_if (PW.pt (pw_and (pt_cmpR op_is1 (pe_ix ix_list (pe_ix ix_list (pv 0) (pv 5) (fun _ _ => rfl)) (pv 2) (fun _ _ => rfl)) pe_non (nomark _)) (pw_and1 (pt_cmpR op_lt (pe_ix ix_list (pe_ix ix_list (pv 0) (pv 5) (fun _ _ => rfl)) (pv 2) (fun _ _ => rfl)) (pe_ix ix_list (pe_ix ix_list (pv 0) (pv 1) (fun _ _ => rfl)) (pv 2) (fun _ _ => rfl)) (nomark _))))) (pss_one (ps_expr (pe_bm PySem.F.plainAttrs_list PySem.F.slot_list_append PySem.F.type_list_append mt_append (pv 4) (pa_cons (pe_lst (pa_cons (pe_tup (pa_cons (pv 5) (pa_cons (pv 2) pa_nil))) pa_nil)) pa_nil)))) pss_nil)))) pss_nil)
  (pss_cons (ps_if (PW.pt (pw_or (pt_cmpR op_eq (pv 3) pe_str (nomark _)) (pw_or1 (pt_cmpR op_eq (pv 3) pe_str (nomark _))))) (pss_one (ps_for PassesOwn.never rfl (pi_range1 rfl T.range (pa_cons (pe_callB cl_len (by rfl) T.len (by decide +kernel) (pa_cons (pe_ix ix_list (pv 0) pe_int (fun _ _ => rfl)) pa_nil)) pa_nil)) (pg_name (i := 6) sclNOf.nd rfl (Or.inl rfl)) (pss_one (ps_if (PW.pt (pw_and (pt_cmpR op_is1 (pe_ix ix_list (pe_ix ix_list (pv 0) (pv 1) (fun _ _ => rfl)) (pv 6) (fun _ _ => rfl)) pe_non (nomark _)) (pw_and1 (pt_cmpR op_lt (pe_ix ix_list (pe_ix ix_list (pv 0) (pv 1) (fun _ _ => rfl)) (pv 6) (fun _ _ => rfl)) (pe_ix ix_list (pe_ix ix_list (pv 0) (pv 1) (fun _ _ => rfl)) (pv 2) (fun _ _ => rfl)) (nomark _))))) (pss_one (ps_expr (pe_bm PySem.F.plainAttrs_list PySem.F.slot_list_append PySem.F.type_list_append mt_append (pv 4) (pa_cons (pe_lst (pa_cons (pe_tup (pa_cons (pv 1) (pa_cons (pv 6) pa_nil))) pa_nil)) pa_nil)))) pss_nil)))) pss_nil)
  (pss_one (ps_ret (pv 4))))))), ?_⟩
    have g' := g
    have h8 := g.h8
    have w8 := g.w8
    have h0 := g.h0
    have rl := rs.len
    obtain ⟨hi, hj, pij⟩ := mem_cells.mp mc
    walk_at "rd"
    refine ⟨Nat.zero_le _, fun D nD => ?_⟩
    have s1 := Same.up (o := .lst []) (Same.refl H) nD
    have hD1 : upd H D (.lst []) D = some (.lst []) := upd_same
    have O1 : OwnN p D H (upd H D (.lst [])) [] := ⟨s1, [], hD1, .nil, fun b h => by cases h⟩
    obtain ⟨H1, eH1⟩ : ∃ H1, H1 = upd H D (.lst []) := ⟨_, rfl⟩
    rw [← eH1] at s1 hD1 O1 ⊢
    walk_at "rd"
    refine r_lenL (rs.same s1).at_ ?_
    walk_at "rd"
    refine ⟨(es.length : Int), rfl, by omega, by omega, for_it walk_range (fun m σ H' => ∃ v5 v6, σ = [some (.ref a), some (.int (i : Int)), some (.int (j : Int)), some (.str kd), some (.ref D), v5, v6] ∧ OwnN p D H H' (cr1 R i j m)) ⟨_, _, rfl, O1⟩ (fun _ _ _ _ _ => trivial) ?_ ?_⟩
    · rintro m y σ H20 H2 hm ⟨v5, v6, rfl, O2⟩ ⟨rfl, rfl⟩
      have hm : m < R.length := by have : m < ((es.length : Nat) : Int).toNat := hm; omega
      have rs2 := rs.same O2.1
      obtain ⟨a0, ea0, ha0⟩ := rs2.get h0
      have e0 : (0 : Int) + (m : Int) = (m : Int) := by omega
      simp only [e0]
      walk_at "rd"
      refine r_ixL rs2.at_ (atI_nat ea0) ?_
      walk_at "rd"
      refine r_lenL ha0 ?_
      rw [wd_rw0 h0]
      walk_at "rd"
      refine ⟨((wd R : Nat) : Int), rfl, by omega, by omega, for_it walk_range (fun n σ H' => ∃ v6, σ = [some (.ref a), some (.int (i : Int)), some (.int (j : Int)), some (.str kd), some (.ref D), some (.int (m : Int)), v6] ∧ OwnN p D H H' (cr1 R i j m ++ rw1 R i j m n)) ⟨_, rfl, by rw [show rw1 R i j m 0 = [] from rfl, List.append_nil]; exact O2⟩ (fun _ _ _ _ _ => trivial) ?_ ?_⟩
      · rintro n y σ H30 H3 hn ⟨v6, rfl, O3⟩ ⟨rfl, rfl⟩
        have hn : n < wd R := by have : n < ((wd R : Nat) : Int).toNat := hn; omega
        have e0 : (0 : Int) + (n : Int) = (n : Int) := by omega
        simp only [e0]
        have rs3 := rs.same O3.1
        walk_at "rd"
        refine ⟨a, es, R, i, j, m, n, rfl, rs3, g', hi, hj, hm, hn, pij, ?_⟩
        walk_at "rd"
        cases e : lcB R i j m n with
        | false =>
          refine ifF rfl ?_
          walk_at "rd"
          refine ⟨_, rfl, ?_⟩
          rw [rw1_more, e, if_neg (by decide), List.append_nil]
          exact O3
        | true =>
          refine ifT rfl ?_
          obtain ⟨us3, hD3, _⟩ := id O3.2
          have u3 := O3.len hD3
          walk_at "rd"
          refine r_bm ?_
          walk_at "rd"
          refine ⟨.inl ⟨rfl, _, SqL.of hD3⟩, ?_⟩
          walk_at "rd"
          refine ⟨by show 2 ≤ sizeLine; decide, fun t nt => ?_⟩
          have s4' := Same.up (o := .tup [V.int (i : Int), V.int (n : Int)]) (Same.refl H3) nt
          have ht : upd H3 t (.tup [V.int (i : Int), V.int (n : Int)]) t = some (.tup [V.int (i : Int), V.int (n : Int)]) := upd_same
          obtain ⟨H4, eH4⟩ : ∃ H4, H4 = upd H3 t (.tup [V.int (i : Int), V.int (n : Int)]) := ⟨_, rfl⟩
          rw [← eH4] at s4' ht ⊢
          walk_at "rd"
          refine ⟨by show 2 ≤ sizeLine; decide, fun t2 nt2 => ?_⟩
          have s5' := Same.up (o := .tup [V.int (m : Int), V.int (j : Int)]) (Same.refl H4) nt2
          have ht2 : upd H4 t2 (.tup [V.int (m : Int), V.int (j : Int)]) t2 = some (.tup [V.int (m : Int), V.int (j : Int)]) := upd_same
          obtain ⟨H5, eH5⟩ : ∃ H5, H5 = upd H4 t2 (.tup [V.int (m : Int), V.int (j : Int)]) := ⟨_, rfl⟩
          rw [← eH5] at s5' ht2 ⊢
          walk_at "rd"
          refine ⟨by show 2 ≤ sizeLine; decide, fun b nb => ?_⟩
          have s6' := Same.up (o := .lst [V.ref t, V.ref t2]) (Same.refl H5) nb
          have hb : upd H5 b (.lst [V.ref t, V.ref t2]) b = some (.lst [V.ref t, V.ref t2]) := upd_same
          obtain ⟨H6, eH6⟩ : ∃ H6, H6 = upd H5 b (.lst [V.ref t, V.ref t2]) := ⟨_, rfl⟩
          rw [← eH6] at s6' hb ⊢
          have s36 := s4'.trans (s5'.trans s6')
          have hop3 := O3.1 _ _ hop
          have tp : t ≠ p := fun z => by rw [z, hop3] at nt; cases nt
          have tp2 : t2 ≠ p := fun z => by rw [z, s4' _ _ hop3] at nt2; cases nt2
          have bD : b ≠ D := fun z => by rw [z, s5' _ _ (s4' _ _ hD3)] at nb; cases nb
          have hD6 := s36 _ _ hD3
          have pw : PrsAt p H6 [V.ref t, V.ref t2] [((i : Int), (n : Int)), ((m : Int), (j : Int))] := .cons ⟨t, rfl, tp, s6' _ _ (s5' _ _ ht)⟩ (.cons ⟨t2, rfl, tp2, s6' _ _ ht2⟩ .nil)
          walk_at "rd"
          refine ⟨D, us3, _, rfl, rfl, hD6, Nat.lt_of_le_of_lt (show us3.length ≤ 100 by have := cr1_len (R := R) (i := i) (j := j) w8 (m := m); have := rw1_len (R := R) (i := i) (j := j) (r := m) (n := n); rw [u3, List.length_append]; omega) (by decide), ?_⟩
          walk_at "rd"
          refine ⟨_, rfl, ?_⟩
          rw [rw1_more, e, if_pos rfl, ← List.append_assoc]
          exact (O3.later s36).more nD hD6 hb pw bD
      · rintro σ H3 ⟨v6, rfl, O3⟩
        walk_at "rd"
        refine ⟨_, _, rfl, ?_⟩
        rw [cr1_more]
        exact O3
    · rintro σ H2 ⟨v5, v6, rfl, O2⟩
      have ec : cr1 R i j ((es.length : Int)).toNat = crossN R i j := by rw [Int.toNat_natCast, rl]; rfl
      rw [ec] at O2
      have cl : (crossN R i j).length ≤ 64 := Nat.le_trans (cr1_len (R := R) (i := i) (j := j) w8 (m := R.length)) (by omega)
      obtain ⟨x0, ex0⟩ : ∃ x0, prc R i j = some x0 := Option.isSome_iff_exists.mp pij
      have v0 : val R i j = x0 := by unfold val; rw [ex0]; rfl
      dsimp only
      with_reducible refine r_seq ?_
      refine ifs_cut (fun σ' H' => ∃ v5 v6, σ' = [some (.ref a), some (.int (i : Int)), some (.int (j : Int)), some (.str kd), some (.ref D), v5, v6] ∧ OwnN p D H H' (crossN R i j ++ (if hasC kd = true then colN R i j else []))) ?_ ?_
      · intro N hN
        walk_at "rd"
        refine r_eq rfl ?_
        rw [deq_strK]
        refine ⟨_, rfl, ?_⟩
        by_cases c1 : kd = "stock"
        · refine ifT (decide_eq_true c1) ?_
          have hC : hasC kd = true := by unfold hasC; rw [decide_eq_true c1]; rfl
          walk_at "rd"
          refine r_lenL (rs.same O2.1).at_ ?_
          walk_at "rd"
          refine ⟨(es.length : Int), rfl, by omega, by omega, for_it walk_range (fun m σ H' => ∃ v5, σ = [some (.ref a), some (.int (i : Int)), some (.int (j : Int)), some (.str kd), some (.ref D), v5, v6] ∧ OwnN p D H H' (crossN R i j ++ co1 R i j m)) ⟨_, rfl, by rw [show co1 R i j 0 = [] from rfl, List.append_nil]; exact O2⟩ (fun _ _ _ _ _ => trivial) ?_ ?_⟩
          · rintro m y σ H30 H3 hm ⟨v5, rfl, O3⟩ ⟨rfl, rfl⟩
            have hm : m < R.length := by have : m < ((es.length : Nat) : Int).toNat := hm; omega
            have e0 : (0 : Int) + (m : Int) = (m : Int) := by omega
            simp only [e0]
            have rs3 := rs.same O3.1
            obtain ⟨ai, eai, hai⟩ := rs3.get hi
            obtain ⟨ax, eax, hax⟩ := rs3.get hm
            walk_at "rd"
            refine r_ixL rs3.at_ (atI_nat eax) ?_
            walk_at "rd"
            refine r_ixL hax (atI_nat (prc_get g' hm hj)) ?_
            walk_at "rd"
            cases e1 : prc R m j with

            | none =>
              refine ifF rfl ?_
              walk_at "rd"
              refine ⟨_, rfl, ?_⟩
              have e9 : co1 R i j (m + 1) = co1 R i j m := by rw [co1_more, e1]; simp
              rw [e9]
              exact O3
            | some x1 =>
              refine ifT rfl ?_
              walk_at "rd"
              refine r_ixL rs3.at_ (atI_nat eax) ?_
              walk_at "rd"
              refine r_ixL hax (atI_nat (prc_get g' hm hj)) ?_
              walk_at "rd"
              rw [e1]
              walk_at "rd"
              refine r_ixL rs3.at_ (atI_nat eai) ?_
              walk_at "rd"
              refine r_ixL hai (atI_nat (prc_get g' hi hj)) ?_
              rw [ex0]
              show rI0 (fun i j => V.bl (decide (i < j))) (V.int x1) (V.int x0) _ _
              walk_at "rd"
              have v1 : val R m j = x1 := by unfold val; rw [e1]; rfl
              refine ite_dec (fun c => ?_) (fun c => ?_)
              · obtain ⟨us3, hD3, _⟩ := id O3.2
                have u3 := O3.len hD3
                simp only [List.length_append] at u3
                walk_at "rd"
                refine r_bm ?_
                walk_at "rd"
                refine ⟨.inl ⟨rfl, _, SqL.of hD3⟩, ?_⟩
                walk_at "rd"
                refine ⟨by show 2 ≤ sizeLine; decide, fun t nt => ?_⟩
                have s4' := Same.up (o := .tup [V.int (m : Int), V.int (j : Int)]) (Same.refl H3) nt
                have ht : upd H3 t (.tup [V.int (m : Int), V.int (j : Int)]) t = some (.tup [V.int (m : Int), V.int (j : Int)]) := upd_same
                obtain ⟨H4, eH4⟩ : ∃ H4, H4 = upd H3 t (.tup [V.int (m : Int), V.int (j : Int)]) := ⟨_, rfl⟩
                rw [← eH4] at s4' ht ⊢
                walk_at "rd"
                refine ⟨by show 1 ≤ sizeLine; decide, fun b nb => ?_⟩
                have s6' := Same.up (o := .lst [V.ref t]) (Same.refl H4) nb
                have hb : upd H4 b (.lst [V.ref t]) b = some (.lst [V.ref t]) := upd_same
                obtain ⟨H6, eH6⟩ : ∃ H6, H6 = upd H4 b (.lst [V.ref t]) := ⟨_, rfl⟩
                rw [← eH6] at s6' hb ⊢
                have s36 := s4'.trans s6'
                have hop3 := O3.1 _ _ hop
                have tp : t ≠ p := fun z => by rw [z, hop3] at nt; cases nt
                have bD : b ≠ D := fun z => by rw [z, s4' _ _ hD3] at nb; cases nb
                have hD6 := s36 _ _ hD3
                have pw : PrsAt p H6 [V.ref t] [((m : Int), (j : Int))] := .cons ⟨t, rfl, tp, s6' _ _ ht⟩ .nil
                walk_at "rd"
                refine ⟨D, us3, _, rfl, rfl, hD6, Nat.lt_of_le_of_lt (show us3.length ≤ 100 by have := co1_len (R := R) (i := i) (j := j) (n := m); omega) (by decide), ?_⟩
                walk_at "rd"
                refine ⟨_, rfl, ?_⟩
                have e9 : co1 R i j (m + 1) = co1 R i j m ++ [[((m : Int), (j : Int))]] := by rw [co1_more, e1, v1, v0, decide_eq_true c]; simp
                rw [e9, ← List.append_assoc]
                exact (O3.later s36).more nD hD6 hb pw bD
              · walk_at "rd"
                refine ⟨_, rfl, ?_⟩
                have e9 : co1 R i j (m + 1) = co1 R i j m := by rw [co1_more, e1, v1, v0, decide_eq_false c]; simp
                rw [e9]
                exact O3
          · rintro σ H3 ⟨v5, rfl, O3⟩
            refine hN _ _ ⟨_, _, rfl, ?_⟩
            rw [if_pos hC]
            rw [Int.toNat_natCast, rl] at O3
            exact O3
        · refine ifF (decide_eq_false c1) ?_
          walk_at "rd"
          refine r_eq rfl ?_
          rw [deq_strK]
          refine ⟨_, rfl, ?_⟩
          by_cases c2 : kd = "any"
          · refine ifT (decide_eq_true c2) ?_
            have hC : hasC kd = true := by unfold hasC; rw [decide_eq_true c2, Bool.or_true]
            walk_at "rd"
            refine r_lenL (rs.same O2.1).at_ ?_
            walk_at "rd"
            refine ⟨(es.length : Int), rfl, by omega, by omega, for_it walk_range (fun m σ H' => ∃ v5, σ = [some (.ref a), some (.int (i : Int)), some (.int (j : Int)), some (.str kd), some (.ref D), v5, v6] ∧ OwnN p D H H' (crossN R i j ++ co1 R i j m)) ⟨_, rfl, by rw [show co1 R i j 0 = [] from rfl, List.append_nil]; exact O2⟩ (fun _ _ _ _ _ => trivial) ?_ ?_⟩
            · rintro m y σ H30 H3 hm ⟨v5, rfl, O3⟩ ⟨rfl, rfl⟩
              have hm : m < R.length := by have : m < ((es.length : Nat) : Int).toNat := hm; omega
              have e0 : (0 : Int) + (m : Int) = (m : Int) := by omega
              simp only [e0]
              have rs3 := rs.same O3.1
              obtain ⟨ai, eai, hai⟩ := rs3.get hi
              obtain ⟨ax, eax, hax⟩ := rs3.get hm
              walk_at "rd"
              refine r_ixL rs3.at_ (atI_nat eax) ?_
              walk_at "rd"
              refine r_ixL hax (atI_nat (prc_get g' hm hj)) ?_
              walk_at "rd"
              cases e1 : prc R m j with

              | none =>
                refine ifF rfl ?_
                walk_at "rd"
                refine ⟨_, rfl, ?_⟩
                have e9 : co1 R i j (m + 1) = co1 R i j m := by rw [co1_more, e1]; simp
                rw [e9]
                exact O3
              | some x1 =>
                refine ifT rfl ?_
                walk_at "rd"
                refine r_ixL rs3.at_ (atI_nat eax) ?_
                walk_at "rd"
                refine r_ixL hax (atI_nat (prc_get g' hm hj)) ?_
                walk_at "rd"
                rw [e1]
                walk_at "rd"
                refine r_ixL rs3.at_ (atI_nat eai) ?_
                walk_at "rd"
                refine r_ixL hai (atI_nat (prc_get g' hi hj)) ?_
                rw [ex0]
                show rI0 (fun i j => V.bl (decide (i < j))) (V.int x1) (V.int x0) _ _
                walk_at "rd"
                have v1 : val R m j = x1 := by unfold val; rw [e1]; rfl
                refine ite_dec (fun c => ?_) (fun c => ?_)
                · obtain ⟨us3, hD3, _⟩ := id O3.2
                  have u3 := O3.len hD3
                  simp only [List.length_append] at u3
                  walk_at "rd"
                  refine r_bm ?_
                  walk_at "rd"
                  refine ⟨.inl ⟨rfl, _, SqL.of hD3⟩, ?_⟩
                  walk_at "rd"
                  refine ⟨by show 2 ≤ sizeLine; decide, fun t nt => ?_⟩
                  have s4' := Same.up (o := .tup [V.int (m : Int), V.int (j : Int)]) (Same.refl H3) nt
                  have ht : upd H3 t (.tup [V.int (m : Int), V.int (j : Int)]) t = some (.tup [V.int (m : Int), V.int (j : Int)]) := upd_same
                  obtain ⟨H4, eH4⟩ : ∃ H4, H4 = upd H3 t (.tup [V.int (m : Int), V.int (j : Int)]) := ⟨_, rfl⟩
                  rw [← eH4] at s4' ht ⊢
                  walk_at "rd"
                  refine ⟨by show 1 ≤ sizeLine; decide, fun b nb => ?_⟩
                  have s6' := Same.up (o := .lst [V.ref t]) (Same.refl H4) nb
                  have hb : upd H4 b (.lst [V.ref t]) b = some (.lst [V.ref t]) := upd_same
                  obtain ⟨H6, eH6⟩ : ∃ H6, H6 = upd H4 b (.lst [V.ref t]) := ⟨_, rfl⟩
                  rw [← eH6] at s6' hb ⊢
                  have s36 := s4'.trans s6'
                  have hop3 := O3.1 _ _ hop
                  have tp : t ≠ p := fun z => by rw [z, hop3] at nt; cases nt
                  have bD : b ≠ D := fun z => by rw [z, s4' _ _ hD3] at nb; cases nb
                  have hD6 := s36 _ _ hD3
                  have pw : PrsAt p H6 [V.ref t] [((m : Int), (j : Int))] := .cons ⟨t, rfl, tp, s6' _ _ ht⟩ .nil
                  walk_at "rd"
                  refine ⟨D, us3, _, rfl, rfl, hD6, Nat.lt_of_le_of_lt (show us3.length ≤ 100 by have := co1_len (R := R) (i := i) (j := j) (n := m); omega) (by decide), ?_⟩
                  walk_at "rd"
                  refine ⟨_, rfl, ?_⟩
                  have e9 : co1 R i j (m + 1) = co1 R i j m ++ [[((m : Int), (j : Int))]] := by rw [co1_more, e1, v1, v0, decide_eq_true c]; simp
                  rw [e9, ← List.append_assoc]
                  exact (O3.later s36).more nD hD6 hb pw bD
                · walk_at "rd"
                  refine ⟨_, rfl, ?_⟩
                  have e9 : co1 R i j (m + 1) = co1 R i j m := by rw [co1_more, e1, v1, v0, decide_eq_false c]; simp
                  rw [e9]
                  exact O3
            · rintro σ H3 ⟨v5, rfl, O3⟩
              refine hN _ _ ⟨_, _, rfl, ?_⟩
              rw [if_pos hC]
              rw [Int.toNat_natCast, rl] at O3
              exact O3
          · refine ifF (decide_eq_false c2) ?_
            have hC : hasC kd = false := by unfold hasC; rw [decide_eq_false c1, decide_eq_false c2]; rfl
            walk_at "rd"
            refine hN _ _ ⟨_, _, rfl, ?_⟩
            have e9 : ∀ l : List (List Pr), (if hasC kd = true then l else []) = [] := fun l => by rw [hC]; rfl
            rw [e9 (colN R i j), List.append_nil]
            exact O2
      rintro σ' H2 ⟨v5, v6, rfl, O2⟩
      have cc : (if hasC kd = true then colN R i j else []).length ≤ 8 := by
        split
        · exact Nat.le_trans (co1_len (R := R) (i := i) (j := j) (n := R.length)) h8
        · exact Nat.zero_le _
      dsimp only
      with_reducible refine r_seq ?_
      refine ifs_cut (fun σ' H' => ∃ v5 v6, σ' = [some (.ref a), some (.int (i : Int)), some (.int (j : Int)), some (.str kd), some (.ref D), v5, v6] ∧ OwnN p D H H' ((crossN R i j ++ (if hasC kd = true then colN R i j else [])) ++ (if hasR kd = true then rowN R i j else []))) ?_ ?_
      · intro N hN
        walk_at "rd"
        refine r_eq rfl ?_
        rw [deq_strK]
        refine ⟨_, rfl, ?_⟩
        by_cases c1 : kd = "wish"
        · refine ifT (decide_eq_true c1) ?_
          have hC : hasR kd = true := by unfold hasR; rw [decide_eq_true c1]; rfl
          obtain ⟨a0, ea0, ha0⟩ := (rs.same O2.1).get h0
          walk_at "rd"
          refine r_ixL (rs.same O2.1).at_ (atI_nat ea0) ?_
          walk_at "rd"
          refine r_lenL ha0 ?_
          rw [wd_rw0 h0]
          walk_at "rd"
          refine ⟨((wd R : Nat) : Int), rfl, by omega, by omega, for_it walk_range (fun m σ H' => ∃ v6, σ = [some (.ref a), some (.int (i : Int)), some (.int (j : Int)), some (.str kd), some (.ref D), v5, v6] ∧ OwnN p D H H' ((crossN R i j ++ (if hasC kd = true then colN R i j else [])) ++ ro1 R i j m)) ⟨_, rfl, by rw [show ro1 R i j 0 = [] from rfl, List.append_nil]; exact O2⟩ (fun _ _ _ _ _ => trivial) ?_ ?_⟩
          · rintro m y σ H30 H3 hm ⟨v6, rfl, O3⟩ ⟨rfl, rfl⟩
            have hm : m < wd R := by have : m < ((wd R : Nat) : Int).toNat := hm; omega
            have e0 : (0 : Int) + (m : Int) = (m : Int) := by omega
            simp only [e0]
            have rs3 := rs.same O3.1
            obtain ⟨ai, eai, hai⟩ := rs3.get hi
            obtain ⟨ax, eax, hax⟩ := rs3.get hi
            walk_at "rd"
            refine r_ixL rs3.at_ (atI_nat eax) ?_
            walk_at "rd"
            refine r_ixL hax (atI_nat (prc_get g' hi hm)) ?_
            walk_at "rd"
            cases e1 : prc R i m with

            | none =>
              refine ifF rfl ?_
              walk_at "rd"
              refine ⟨_, rfl, ?_⟩
              have e9 : ro1 R i j (m + 1) = ro1 R i j m := by rw [ro1_more, e1]; simp
              rw [e9]
              exact O3
            | some x1 =>
              refine ifT rfl ?_
              walk_at "rd"
              refine r_ixL rs3.at_ (atI_nat eax) ?_
              walk_at "rd"
              refine r_ixL hax (atI_nat (prc_get g' hi hm)) ?_
              walk_at "rd"
              rw [e1]
              walk_at "rd"
              refine r_ixL rs3.at_ (atI_nat eai) ?_
              walk_at "rd"
              refine r_ixL hai (atI_nat (prc_get g' hi hj)) ?_
              rw [ex0]
              show rI0 (fun i j => V.bl (decide (i < j))) (V.int x1) (V.int x0) _ _
              walk_at "rd"
              have v1 : val R i m = x1 := by unfold val; rw [e1]; rfl
              refine ite_dec (fun c => ?_) (fun c => ?_)
              · obtain ⟨us3, hD3, _⟩ := id O3.2
                have u3 := O3.len hD3
                simp only [List.length_append] at u3
                walk_at "rd"
                refine r_bm ?_
                walk_at "rd"
                refine ⟨.inl ⟨rfl, _, SqL.of hD3⟩, ?_⟩
                walk_at "rd"
                refine ⟨by show 2 ≤ sizeLine; decide, fun t nt => ?_⟩
                have s4' := Same.up (o := .tup [V.int (i : Int), V.int (m : Int)]) (Same.refl H3) nt
                have ht : upd H3 t (.tup [V.int (i : Int), V.int (m : Int)]) t = some (.tup [V.int (i : Int), V.int (m : Int)]) := upd_same
                obtain ⟨H4, eH4⟩ : ∃ H4, H4 = upd H3 t (.tup [V.int (i : Int), V.int (m : Int)]) := ⟨_, rfl⟩
                rw [← eH4] at s4' ht ⊢
                walk_at "rd"
                refine ⟨by show 1 ≤ sizeLine; decide, fun b nb => ?_⟩
                have s6' := Same.up (o := .lst [V.ref t]) (Same.refl H4) nb
                have hb : upd H4 b (.lst [V.ref t]) b = some (.lst [V.ref t]) := upd_same
                obtain ⟨H6, eH6⟩ : ∃ H6, H6 = upd H4 b (.lst [V.ref t]) := ⟨_, rfl⟩
                rw [← eH6] at s6' hb ⊢
                have s36 := s4'.trans s6'
                have hop3 := O3.1 _ _ hop
                have tp : t ≠ p := fun z => by rw [z, hop3] at nt; cases nt
                have bD : b ≠ D := fun z => by rw [z, s4' _ _ hD3] at nb; cases nb
                have hD6 := s36 _ _ hD3
                have pw : PrsAt p H6 [V.ref t] [((i : Int), (m : Int))] := .cons ⟨t, rfl, tp, s6' _ _ ht⟩ .nil
                walk_at "rd"
                refine ⟨D, us3, _, rfl, rfl, hD6, Nat.lt_of_le_of_lt (show us3.length ≤ 100 by have := ro1_len (R := R) (i := i) (j := j) (n := m); omega) (by decide), ?_⟩
                walk_at "rd"
                refine ⟨_, rfl, ?_⟩
                have e9 : ro1 R i j (m + 1) = ro1 R i j m ++ [[((i : Int), (m : Int))]] := by rw [ro1_more, e1, v1, v0, decide_eq_true c]; simp
                rw [e9, ← List.append_assoc]
                exact (O3.later s36).more nD hD6 hb pw bD
              · walk_at "rd"
                refine ⟨_, rfl, ?_⟩
                have e9 : ro1 R i j (m + 1) = ro1 R i j m := by rw [ro1_more, e1, v1, v0, decide_eq_false c]; simp
                rw [e9]
                exact O3
          · rintro σ H3 ⟨v6, rfl, O3⟩
            refine hN _ _ ⟨_, _, rfl, ?_⟩
            rw [if_pos hC]
            rw [Int.toNat_natCast] at O3
            exact O3
        · refine ifF (decide_eq_false c1) ?_
          walk_at "rd"
          refine r_eq rfl ?_
          rw [deq_strK]
          refine ⟨_, rfl, ?_⟩
          by_cases c2 : kd = "any"
          · refine ifT (decide_eq_true c2) ?_
            have hC : hasR kd = true := by unfold hasR; rw [decide_eq_true c2, Bool.or_true]
            obtain ⟨a0, ea0, ha0⟩ := (rs.same O2.1).get h0
            walk_at "rd"
            refine r_ixL (rs.same O2.1).at_ (atI_nat ea0) ?_
            walk_at "rd"
            refine r_lenL ha0 ?_
            rw [wd_rw0 h0]
            walk_at "rd"
            refine ⟨((wd R : Nat) : Int), rfl, by omega, by omega, for_it walk_range (fun m σ H' => ∃ v6, σ = [some (.ref a), some (.int (i : Int)), some (.int (j : Int)), some (.str kd), some (.ref D), v5, v6] ∧ OwnN p D H H' ((crossN R i j ++ (if hasC kd = true then colN R i j else [])) ++ ro1 R i j m)) ⟨_, rfl, by rw [show ro1 R i j 0 = [] from rfl, List.append_nil]; exact O2⟩ (fun _ _ _ _ _ => trivial) ?_ ?_⟩
            · rintro m y σ H30 H3 hm ⟨v6, rfl, O3⟩ ⟨rfl, rfl⟩
              have hm : m < wd R := by have : m < ((wd R : Nat) : Int).toNat := hm; omega
              have e0 : (0 : Int) + (m : Int) = (m : Int) := by omega
              simp only [e0]
              have rs3 := rs.same O3.1
              obtain ⟨ai, eai, hai⟩ := rs3.get hi
              obtain ⟨ax, eax, hax⟩ := rs3.get hi
              walk_at "rd"
              refine r_ixL rs3.at_ (atI_nat eax) ?_
              walk_at "rd"
              refine r_ixL hax (atI_nat (prc_get g' hi hm)) ?_
              walk_at "rd"
              cases e1 : prc R i m with

              | none =>
                refine ifF rfl ?_
                walk_at "rd"
                refine ⟨_, rfl, ?_⟩
                have e9 : ro1 R i j (m + 1) = ro1 R i j m := by rw [ro1_more, e1]; simp
                rw [e9]
                exact O3
              | some x1 =>
                refine ifT rfl ?_
                walk_at "rd"
                refine r_ixL rs3.at_ (atI_nat eax) ?_
                walk_at "rd"
                refine r_ixL hax (atI_nat (prc_get g' hi hm)) ?_
                walk_at "rd"
                rw [e1]
                walk_at "rd"
                refine r_ixL rs3.at_ (atI_nat eai) ?_
                walk_at "rd"
                refine r_ixL hai (atI_nat (prc_get g' hi hj)) ?_
                rw [ex0]
                show rI0 (fun i j => V.bl (decide (i < j))) (V.int x1) (V.int x0) _ _
                walk_at "rd"
                have v1 : val R i m = x1 := by unfold val; rw [e1]; rfl
                refine ite_dec (fun c => ?_) (fun c => ?_)
                · obtain ⟨us3, hD3, _⟩ := id O3.2
                  have u3 := O3.len hD3
                  simp only [List.length_append] at u3
                  walk_at "rd"
                  refine r_bm ?_
                  walk_at "rd"
                  refine ⟨.inl ⟨rfl, _, SqL.of hD3⟩, ?_⟩
                  walk_at "rd"
                  refine ⟨by show 2 ≤ sizeLine; decide, fun t nt => ?_⟩
                  have s4' := Same.up (o := .tup [V.int (i : Int), V.int (m : Int)]) (Same.refl H3) nt
                  have ht : upd H3 t (.tup [V.int (i : Int), V.int (m : Int)]) t = some (.tup [V.int (i : Int), V.int (m : Int)]) := upd_same
                  obtain ⟨H4, eH4⟩ : ∃ H4, H4 = upd H3 t (.tup [V.int (i : Int), V.int (m : Int)]) := ⟨_, rfl⟩
                  rw [← eH4] at s4' ht ⊢
                  walk_at "rd"
                  refine ⟨by show 1 ≤ sizeLine; decide, fun b nb => ?_⟩
                  have s6' := Same.up (o := .lst [V.ref t]) (Same.refl H4) nb
                  have hb : upd H4 b (.lst [V.ref t]) b = some (.lst [V.ref t]) := upd_same
                  obtain ⟨H6, eH6⟩ : ∃ H6, H6 = upd H4 b (.lst [V.ref t]) := ⟨_, rfl⟩
                  rw [← eH6] at s6' hb ⊢
                  have s36 := s4'.trans s6'
                  have hop3 := O3.1 _ _ hop
                  have tp : t ≠ p := fun z => by rw [z, hop3] at nt; cases nt
                  have bD : b ≠ D := fun z => by rw [z, s4' _ _ hD3] at nb; cases nb
                  have hD6 := s36 _ _ hD3
                  have pw : PrsAt p H6 [V.ref t] [((i : Int), (m : Int))] := .cons ⟨t, rfl, tp, s6' _ _ ht⟩ .nil
                  walk_at "rd"
                  refine ⟨D, us3, _, rfl, rfl, hD6, Nat.lt_of_le_of_lt (show us3.length ≤ 100 by have := ro1_len (R := R) (i := i) (j := j) (n := m); omega) (by decide), ?_⟩
                  walk_at "rd"
                  refine ⟨_, rfl, ?_⟩
                  have e9 : ro1 R i j (m + 1) = ro1 R i j m ++ [[((i : Int), (m : Int))]] := by rw [ro1_more, e1, v1, v0, decide_eq_true c]; simp
                  rw [e9, ← List.append_assoc]
                  exact (O3.later s36).more nD hD6 hb pw bD
                · walk_at "rd"
                  refine ⟨_, rfl, ?_⟩
                  have e9 : ro1 R i j (m + 1) = ro1 R i j m := by rw [ro1_more, e1, v1, v0, decide_eq_false c]; simp
                  rw [e9]
                  exact O3
            · rintro σ H3 ⟨v6, rfl, O3⟩
              refine hN _ _ ⟨_, _, rfl, ?_⟩
              rw [if_pos hC]
              rw [Int.toNat_natCast] at O3
              exact O3
          · refine ifF (decide_eq_false c2) ?_
            have hC : hasR kd = false := by unfold hasR; rw [decide_eq_false c1, decide_eq_false c2]; rfl
            walk_at "rd"
            refine hN _ _ ⟨_, _, rfl, ?_⟩
            have e9 : ∀ l : List (List Pr), (if hasR kd = true then l else []) = [] := fun l => by rw [hC]; rfl
            rw [e9 (rowN R i j), List.append_nil]
            exact O2
      rintro σ' H2 ⟨v5, v6, rfl, O2⟩
      obtain ⟨s2, us, hD, ls, _⟩ := O2
      dsimp only
      walk_at "rd"
      exact k D us H2 s2 hD ls
end
end Pk
set_option Elab.async false
set_option linter.all false
set_option maxRecDepth 100000
set_option maxHeartbeats 4000000
namespace Pk
open PySem L2
local macro_rules | `(tactic| walk_at "rd") => `(tactic| repeat (first
  | with_reducible refine r_seq ?_ | with_reducible refine r_nxt ?_ | with_reducible refine r_asg ?_ | with_reducible refine r_to ?_ | with_reducible refine r_ret ?_ | with_reducible refine r_for ?_ | with_reducible refine r_lc ?_ | with_reducible refine r_lc2 ?_ | with_reducible refine r_rng1 ?_ | with_reducible refine r_list ?_ | with_reducible refine r_tupI ?_ | with_reducible refine r_drop ?_ | with_reducible refine r_ifs ?_
  | with_reducible refine r_op ?_ | with_reducible refine r_c ?_ | with_reducible refine r_var rfl ?_ | with_reducible refine r_var (by assumption) ?_ | with_reducible refine r_I0 ?_ | with_reducible refine r_un ?_ | with_reducible refine r_U ?_ | with_reducible refine r_make ?_ | with_reducible refine r_makeS ?_ | with_reducible refine r_ifE ?_ | with_reducible refine r_cm ?_ | with_reducible refine r_mkV rfl ?_ | with_reducible refine r_sub ?_
  | with_reducible refine r_nil ?_ | with_reducible refine r_cons ?_ | with_reducible refine r_cb ?_ | with_reducible refine r_sl ?_ | with_reducible refine r_noP ?_ | with_reducible refine r_part ?_ | with_reducible refine r_isI ?_ | with_reducible refine r_lst ?_ | with_reducible refine r_tup ?_ | with_reducible refine r_call ?_ | with_reducible refine r_callS ?_ | with_reducible refine r_sFldU ?_ | with_reducible refine r_chain ?_ | with_reducible refine r_enum ?_ | with_reducible refine r_zip ?_ | with_reducible refine r_rng3 ?_ | with_reducible refine r_gtup ?_ | with_reducible refine r_methU ?_
  | with_reducible refine r_test ?_ | with_reducible refine r_B ?_ | with_reducible refine r_and ?_ | with_reducible refine r_or ?_ | with_reducible refine r_not ?_ | with_reducible refine r_andV ?_ | with_reducible refine r_orV ?_ | with_reducible refine r_notV ?_ | with_reducible refine r_bl ?_ | with_reducible refine r_yes ?_ | with_reducible refine r_int ?_ | with_reducible refine r_is0 ?_ | with_reducible refine r_is1 ?_ | with_reducible refine iteT ?_ | with_reducible refine iteF ?_ | with_reducible refine ite_nF ?_ | with_reducible refine ite_nT ?_
  | with_reducible refine r_mod (by decide) ?_ | with_reducible refine r_div (by decide) (by decide) ?_ | with_reducible refine r_mulR (by decide) (by decide) ?_ | with_reducible refine r_mulL (by decide) (by decide) ?_ | with_reducible refine r_pow (by decide) (by decide) (by decide) ?_))
/-! ### the needs of every cell, as a dict -/
theorem LsAt.offT {p D : Addr} {H H' : Hp} {vs : List V} {ns : List (List Pr)} {kvs : List (List Key × V)} (h : LsAt p H vs ns) (hD : H D = some (.dT kvs)) (s : ∀ c o, H c = some o → c ≠ D → H' c = some o) : LsAt p H' vs ns := by
  induction h with
  | nil => exact .nil
  | cons h u _ ih =>
    exact .cons (s _ _ h fun q => by rw [q, hD] at h; cases h) (u.mono fun t xs e => s _ _ e fun q => by rw [q, hD] at e; cases e) ih
/-- .. of the first m of them -/
def NdM (p : Addr) (H : Hp) (d : Addr) (R : Rw) (kd : Str) (m : Nat) : Prop := ∃ kvs : List (List Key × V), H d = some (.dT kvs) ∧ kvs.map (·.1) = ((cells R).take m).map kzP ∧ ∀ i j : Nat, ((i : Int), (j : Int)) ∈ (cells R).take m → ∃ a us, valV kvs (kzP ((i : Int), (j : Int))) = some (.ref a) ∧ H a = some (.lst us) ∧ LsAt p H us (needsL R i j kd)
theorem NdM.same {p : Addr} {H H' : Hp} {d : Addr} {R : Rw} {kd : Str} {m : Nat} (h : NdM p H d R kd m) (s : Same H H') : NdM p H' d R kd m := by
  obtain ⟨kvs, e, l, q⟩ := h
  exact ⟨kvs, s _ _ e, l, fun i j m => by obtain ⟨a, us, e1, e2, e3⟩ := q i j m; exact ⟨a, us, e1, s _ _ e2, e3.same s⟩⟩
theorem NdM.more {p a d : Addr} {H : Hp} {R : Rw} {kd : Str} {m i j : Nat} {kvs : List (List Key × V)} {us : List V} (h : NdM p H d R kd m) (e : H d = some (.dT kvs)) (ec : (cells R)[m]? = some ((i : Int), (j : Int))) (ha : H a = some (.lst us)) (ls : LsAt p H us (needsL R i j kd)) :
    NdM p (upd H d (.dT (putK kvs (kzP ((i : Int), (j : Int))) (.ref a)))) d R kd (m + 1) := by
  obtain ⟨kvs', e', l, q⟩ := h
  rw [e] at e'
  cases e'
  have st : ∀ c o, H c = some o → c ≠ d → upd H d (.dT (putK kvs (kzP ((i : Int), (j : Int))) (.ref a))) c = some o := fun c o z ne => by rw [upd_ne ne]; exact z
  have nd : ∀ {c : Addr} {ws : List V}, H c = some (.lst ws) → c ≠ d := fun z w => by rw [w, e] at z; cases z
  have tk : (cells R).take (m + 1) = (cells R).take m ++ [((i : Int), (j : Int))] := by rw [List.take_succ, ec]; rfl
  have out : ((i : Int), (j : Int)) ∉ (cells R).take m := fun q => by
    have n2 := (cells_nodup R).sublist (List.take_sublist (m + 1) (cells R))
    rw [tk] at n2
    exact (List.nodup_append.mp n2).2.2 _ q _ (List.mem_singleton.mpr rfl) rfl
  have pk := PlK.put (v := V.ref a) e l out
  rw [← tk] at pk
  obtain ⟨kv2, f1, f2⟩ := pk
  rw [upd_same] at f1
  cases (Option.some.inj f1)
  refine ⟨_, upd_same, f2, fun i2 j2 hm => ?_⟩
  rw [valV_put]
  by_cases c : kzP ((i2 : Int), (j2 : Int)) = kzP ((i : Int), (j : Int))
  · rw [if_pos c]
    have z := kz_inj c
    have z1 : i2 = i := by have := congrArg Prod.fst z; simp only at this; omega
    have z2 : j2 = j := by have := congrArg Prod.snd z; simp only at this; omega
    subst z1; subst z2
    exact ⟨a, us, rfl, st _ _ ha (nd ha), ls.offT e st⟩
  · rw [if_neg c]
    rw [List.take_succ, ec] at hm
    rcases List.mem_append.mp hm with hm | hm
    · obtain ⟨a2, us2, e1, e2, e3⟩ := q i2 j2 hm
      exact ⟨a2, us2, e1, st _ _ e2 (nd e2), e3.offT e st⟩
    · rw [List.mem_singleton.mp hm] at c
      exact absurd rfl c
def spNds (K : PySem.W.Frag) : Sp := fun vs H Q _ => ∃ (p a : Addr) (es : List V) (R : Rw) (kd : Str), vs = [.ref a, .str kd] ∧ RS K H a es R ∧ Gt R ∧ (∃ o, H p = some o) ∧ ∀ (d : Addr) (H' : Hp), Same H H' → NdK p H' d R kd → Q (.ref d) H'
abbrev slNds : Stmt := top 59
section
variable {P : Program} {w : World} {K : PySem.W.Frag} {mg : Str → Option Value} {base : Heap} {f : Addr} {fd : FuncData}
theorem sclNds : FnScope ["_law_grid_here", "_law_sort", "_law_needs_here", "_law_i", "_law_j"] ["_law_grid_here", "_law_sort"] (defScope slNds) := ⟨rfl, rfl, rfl, by decide +kernel, rfl, by decide +kernel, by decide +kernel⟩
theorem ok_nds (F : Fun K "_law_needs" "_law_needs" slNds f fd) (T : Bt mg) (DS : Df P w K mg base CX0 "_law_spots" 1 ["_law_grid_here"] (spSpots K)) (DN : Df P w K mg base CX0 "_law_needs_of" 2 ["_law_grid_here", "_law_i", "_law_j", "_law_sort"] (spNOf K)) : FnOk P w K mg base CX0 3 f fd ["_law_grid_here", "_law_sort"] (spNds K) := by
  refine F.ok sclNds (fun vs H Q E h => ?_) (fun cdv A outer s H vs Q E hr h => ?_)
  · obtain ⟨p, a, es, R, kd, rfl, _⟩ := h
    rfl
  · obtain ⟨p, a, es, R, kd, rfl, rs, g, ⟨op, hop⟩, k⟩ := h
    have hu1 := Nat.lt_of_le_of_lt (Nat.add_le_add_left (show 1 ≤ 64 by decide) _) hr.units
    refine ⟨_, (pss_cons (ps_set (i := 2) sclNds.nd rfl (Or.inl rfl) pe_dnewT)
  (pss_cons (ps_for PassesOwn.never rfl (pi_list (pe_df DS hr (by decide) (pa_cons (pv 0) pa_nil))) (pg_tup (by rfl) (pgs_cons (pg_name (i := 3) sclNds.nd rfl (Or.inl rfl)) (pgs_cons (pg_name (i := 4) sclNds.nd rfl (Or.inl rfl)) pgs_nil))) (pss_one (ps_dput hu1 (pv 2) (pe_tup (pa_cons (pv 3) (pa_cons (pv 4) pa_nil))) (pe_df DN hr (by decide) (pa_cons (pv 0) (pa_cons (pv 3) (pa_cons (pv 4) (pa_cons (pv 1) pa_nil))))) rfl)))
  (pss_one (ps_ret (pv 2))))), ?_⟩
    have c64 := cells_len g
    walk_at "rd"
    intro D nD
    have s1 := Same.up (o := .dT []) (Same.refl H) nD
    have hD1 : upd H D (.dT []) D = some (.dT []) := upd_same
    obtain ⟨H1, eH1⟩ : ∃ H1, H1 = upd H D (.dT []) := ⟨_, rfl⟩
    rw [← eH1] at s1 hD1 ⊢
    walk_at "rd"
    refine ⟨p, a, es, R, rfl, rs.same s1, g, ⟨op, s1 _ _ hop⟩, fun r us H2 s2' nr hr2 pu => ?_⟩
    have s2 := s1.trans s2'
    have ul := pu.length
    have nr0 : H r = none := s1.free nr
    refine ⟨r, rfl, ⟨_, SqL.of hr2⟩, for_it walk_list (fun m σ H' => ∃ v3 v4, σ = [some (.ref a), some (.str kd), some (.ref D), v3, v4] ∧ Same H H' ∧ H' r = some (.lst us) ∧ PrsAt p H' us (cells R) ∧ NdM p H' D R kd m) ⟨_, _, rfl, s2, hr2, pu, ⟨[], s2' _ _ hD1, by rw [List.take_zero]; rfl, fun i j h => by rw [List.take_zero] at h; cases h⟩⟩ (fun m σ H' _ q => by obtain ⟨_, _, _, _, q, _⟩ := q; exact SqL.of q) ?_ ?_⟩
    · rintro m y σ H30 H3 hm ⟨v3, v4, rfl, s3, hr3, pu3, nd⟩ ⟨rfl, ey⟩
      have hm : m < us.length := hm
      obtain ⟨z, ez, tt, rfl, tp, ht⟩ := pu3.at ey
      have zm := List.mem_of_getElem? ez
      obtain ⟨i, j, rfl, hi, hj, _⟩ := cells_nat zm
      refine r_gtup ⟨tt, _, rfl, SqT.of ht, rfl, _, _, rfl, ?_⟩
      walk_at "rd"
      refine ⟨_, _, rfl, ?_⟩
      walk_at "rd"
      refine ⟨rfl, ?_⟩
      walk_at "rd"
      refine r_dput ?_
      walk_at "rd"
      refine ⟨p, a, es, R, i, j, kd, rfl, rs.same s3, g, zm, ⟨op, s3 _ _ hop⟩, fun b ws H4 s4 hb ls => ?_⟩
      walk_at "rd"
      refine ⟨by show 2 ≤ sizeLine; decide, fun t nt => ?_⟩
      have s5 := Same.up (o := .tup [V.int (i : Int), V.int (j : Int)]) (Same.refl H4) nt
      have ht5 : upd H4 t (.tup [V.int (i : Int), V.int (j : Int)]) t = some (.tup ([Sum.inl (i : Int), Sum.inl (j : Int)].map kV)) := upd_same
      obtain ⟨H5, eH5⟩ : ∃ H5, H5 = upd H4 t (.tup [V.int (i : Int), V.int (j : Int)]) := ⟨_, rfl⟩
      rw [← eH5] at s5 ht5 ⊢
      have nd5 := nd.same (s4.trans s5)
      obtain ⟨kvs, e5, l5', _⟩ := id nd5
      have l5 : kvs.length ≤ m := by
        have := congrArg List.length l5'
        rw [List.length_map, List.length_map, List.length_take] at this
        omega
      have rD : r ≠ D := fun q => by have := (s4.trans s5) _ _ hr3; rw [q, e5] at this; cases this
      refine ⟨D, _, rfl, DPut.t (k := kzP ((i : Int), (j : Int))) e5 ht5 (Nat.lt_of_le_of_lt (show kvs.length ≤ 64 by omega) (by decide)), ?_⟩
      have st : ∀ c o, H5 c = some o → c ≠ D → upd H5 D (.dT (putK kvs (kzP ((i : Int), (j : Int))) (.ref b))) c = some o := fun c o z ne => by rw [upd_ne ne]; exact z
      refine ⟨_, _, rfl, fun c o e => st c o ((s3.trans (s4.trans s5)) _ _ e) (fun q => by rw [q, nD] at e; cases e), st _ _ ((s4.trans s5) _ _ hr3) rD, (pu3.keep (Keep.same (s4.trans s5))).mono fun c xs e => st _ _ e (fun q => by rw [q, e5] at e; cases e), nd5.more e5 ez (s5 _ _ hb) (ls.same s5)⟩
    · rintro σ H3 ⟨v3, v4, rfl, s3, hr3, pu3, kvs, e3, l3, q⟩
      walk_at "rd"
      refine k D H3 s3 ⟨kvs, e3, by rw [l3, List.take_of_length_le (by omega)], fun i j h => q i j ?_⟩
      rw [List.take_of_length_le (by omega)]
      exact h
end
end Pk
set_option Elab.async false
set_option linter.all false
set_option maxRecDepth 100000
set_option maxHeartbeats 4000000
namespace Pk
open PySem L2
local macro_rules | `(tactic| walk_at "rd") => `(tactic| repeat (first
  | with_reducible refine r_seq ?_ | with_reducible refine r_nxt ?_ | with_reducible refine r_asg ?_ | with_reducible refine r_to ?_ | with_reducible refine r_ret ?_ | with_reducible refine r_for ?_ | with_reducible refine r_lc ?_ | with_reducible refine r_lc2 ?_ | with_reducible refine r_rng1 ?_ | with_reducible refine r_list ?_ | with_reducible refine r_tupI ?_ | with_reducible refine r_drop ?_ | with_reducible refine r_ifs ?_
  | with_reducible refine r_op ?_ | with_reducible refine r_c ?_ | with_reducible refine r_var rfl ?_ | with_reducible refine r_var (by assumption) ?_ | with_reducible refine r_I0 ?_ | with_reducible refine r_un ?_ | with_reducible refine r_U ?_ | with_reducible refine r_make ?_ | with_reducible refine r_makeS ?_ | with_reducible refine r_ifE ?_ | with_reducible refine r_cm ?_ | with_reducible refine r_mkV rfl ?_ | with_reducible refine r_sub ?_
  | with_reducible refine r_nil ?_ | with_reducible refine r_cons ?_ | with_reducible refine r_cb ?_ | with_reducible refine r_sl ?_ | with_reducible refine r_noP ?_ | with_reducible refine r_part ?_ | with_reducible refine r_isI ?_ | with_reducible refine r_lst ?_ | with_reducible refine r_tup ?_ | with_reducible refine r_call ?_ | with_reducible refine r_callS ?_ | with_reducible refine r_sFldU ?_ | with_reducible refine r_chain ?_ | with_reducible refine r_enum ?_ | with_reducible refine r_zip ?_ | with_reducible refine r_rng3 ?_ | with_reducible refine r_gtup ?_ | with_reducible refine r_methU ?_
  | with_reducible refine r_test ?_ | with_reducible refine r_B ?_ | with_reducible refine r_and ?_ | with_reducible refine r_or ?_ | with_reducible refine r_not ?_ | with_reducible refine r_andV ?_ | with_reducible refine r_orV ?_ | with_reducible refine r_notV ?_ | with_reducible refine r_bl ?_ | with_reducible refine r_yes ?_ | with_reducible refine r_int ?_ | with_reducible refine r_is0 ?_ | with_reducible refine r_is1 ?_ | with_reducible refine iteT ?_ | with_reducible refine iteF ?_ | with_reducible refine ite_nF ?_ | with_reducible refine ite_nT ?_
  | with_reducible refine r_mod (by decide) ?_ | with_reducible refine r_div (by decide) (by decide) ?_ | with_reducible refine r_mulR (by decide) (by decide) ?_ | with_reducible refine r_mulL (by decide) (by decide) ?_ | with_reducible refine r_pow (by decide) (by decide) (by decide) ?_))
/-! ### what may come next, by the needs; a walk -/
theorem perm_of : ∀ {xs ys : List Pr}, xs.Nodup → (∀ z, z ∈ xs → z ∈ ys) → ys.length ≤ xs.length → xs.Perm ys
  | [], ys, _, _, l => by
    cases ys with
    | nil => exact .nil
    | cons a t => simp at l
  | a :: t, ys, nd, sub, l => by
    obtain ⟨n1, n2⟩ := List.nodup_cons.mp nd
    have m := sub a (List.mem_cons_self ..)
    have pm := List.perm_cons_erase m
    have len := pm.length_eq
    rw [List.length_cons] at len l
    refine (List.Perm.cons a (perm_of n2 (fun z hz => ?_) (by omega))).trans pm.symm
    have := pm.mem_iff.mp (sub z (List.mem_cons_of_mem _ hz))
    rcases List.mem_cons.mp this with h | h
    · exact absurd (h ▸ hz) n1
    · exact h
def openB (R : Rw) (kd : Str) (ps : List Pr) (z : Pr) : Bool := !decide (z ∈ ps) && metD (needsL R z.1.toNat z.2.toNat kd) ps
def openL (R : Rw) (kd : Str) (ps : List Pr) : List Pr := (cells R).filter (openB R kd ps)
theorem rightN_snoc {R : Rw} {kd : Str} {z : Pr} : ∀ {zs ps : List Pr}, rightN R kd ps (zs ++ [z]) = (rightN R kd ps zs && metD (needsL R z.1.toNat z.2.toNat kd) (ps ++ zs))
  | [], ps => by
    rw [List.nil_append, rightN, rightN, rightN, Bool.and_true, Bool.true_and, List.append_nil]
  | y :: zs, ps => by
    rw [List.cons_append, rightN, rightN_snoc, rightN, Bool.and_assoc, List.append_assoc]; rfl
theorem keys_prs {p : Addr} {H : Hp} (hp : ∀ xs, H p ≠ some (.tup xs)) : ∀ {kvs : List (List Key × V)} {bs : List Addr} {zs : List Pr}, IsKeys H kvs bs → (kvs.map fun q : List Key × V => q.1) = zs.map kzP → PrsAt p H (bs.map V.ref) zs
  | [], _, [], .nil, _ => .nil
  | [], _, _ :: _, .nil, e => by cases e
  | _ :: _, _, [], .cons _ _, e => by cases e
  | k :: kvs, b :: bs, z :: zs, .cons h r, e => by
    have e := List.cons.inj (show k.1 :: (kvs.map fun q : List Key × V => q.1) = kzP z :: zs.map kzP from e)
    refine .cons ⟨b, rfl, fun q => hp _ (by rw [← q]; exact h), ?_⟩ (keys_prs hp r e.2)
    rw [h, e.1]; rfl
theorem r_dnotin {td ty : TE} {σ : L2.St} {H : Hp} {Q : VK} (h : ty σ H fun y H1 => td σ H1 fun x H2 => ∃ a o, x = .ref a ∧ DGet H2 a y o ∧ Q (.bl (!o.isSome)) H2) : tDNotIn ty td σ H Q := h
def NoTup (p : Addr) (H : Hp) : Prop := ∃ us : List V, H p = some (.lst us)
theorem NoTup.no {p : Addr} {H : Hp} (h : NoTup p H) : ∀ xs, H p ≠ some (.tup xs) := fun xs q => by obtain ⟨us, e⟩ := h; rw [e] at q; cases q
theorem NoTup.same {p : Addr} {H H' : Hp} (h : NoTup p H) (s : Same H H') : NoTup p H' := by obtain ⟨us, e⟩ := h; exact ⟨us, s _ _ e⟩
def spOpen : Sp := fun vs H Q _ => ∃ (p d D : Addr) (R : Rw) (kd : Str) (ps : List Pr), vs = [.ref d, .ref D] ∧ Gt R ∧ NdK p H d R kd ∧ PlK H D ps ∧ NoTup p H ∧ ∀ (r : Addr) (us : List V) (H' : Hp), Same H H' → H r = none → H' r = some (.lst us) → PrsAt p H' us (openL R kd ps) → Q (.ref r) H'
abbrev slOpen : Stmt := top 61
section
variable {P : Program} {w : World} {K : PySem.W.Frag} {mg : Str → Option Value} {base : Heap} {f : Addr} {fd : FuncData}
theorem sclOpen : FnScope ["_law_needs_here", "_law_placed", "_law_found", "_law_spot"] ["_law_needs_here", "_law_placed"] (defScope slOpen) := ⟨rfl, rfl, rfl, by decide +kernel, rfl, by decide +kernel, by decide +kernel⟩
theorem ok_open (F : Fun K "_law_open" "_law_open" slOpen f fd) (T : Bt mg) (DM : Df P w K mg base CX0 "_law_met" 1 ["_law_own", "_law_placed"] spMet) : FnOk P w K mg base CX0 2 f fd ["_law_needs_here", "_law_placed"] spOpen := by
  refine F.ok sclOpen (fun vs H Q E h => ?_) (fun cdv A outer s H vs Q E hr h => ?_)
  · obtain ⟨p, d, D, R, kd, ps, rfl, _⟩ := h
    rfl
  · obtain ⟨p, d, D, R, kd, ps, rfl, g, nd, pl, np, k⟩ := h
    have hu1 := Nat.lt_of_le_of_lt (Nat.add_le_add_left (show 1 ≤ 64 by decide) _) hr.units
    refine ⟨_, (pss_cons (ps_set (i := 2) sclOpen.nd rfl (Or.inl rfl) (pe_lst pa_nil))
  (pss_cons (ps_for PassesOwn.never rfl (pi_list (pe_callTy (T := "list") (call_list_dT rfl) (by rfl) T.list (by decide +kernel) (pa_cons (pv 0) pa_nil))) (pg_name (i := 3) sclOpen.nd rfl (Or.inl rfl)) (pss_one (ps_if (PW.pt (pw_and (pt_cmp (pc_dnotin hu1 (pv 3) (pv 1))) (pw_and1 (pt_val (pe_df DM hr (by decide) (pa_cons (pe_dget hu1 (pv 0) (pv 3) (fun _ _ => rfl)) (pa_cons (pv 1) pa_nil))))))) (pss_one (ps_expr (pe_bm PySem.F.plainAttrs_list PySem.F.slot_list_append PySem.F.type_list_append mt_append (pv 2) (pa_cons (pv 3) pa_nil)))) pss_nil)))
  (pss_one (ps_ret (pv 2))))), ?_⟩
    have c64 := cells_len g
    walk_at "rd"
    refine ⟨Nat.zero_le _, fun tl ntl => ?_⟩
    have s1 := Same.up (o := .lst []) (Same.refl H) ntl
    have htl : upd H tl (.lst []) tl = some (.lst []) := upd_same
    have F0 : FlAt p H tl (cells R) (openB R kd ps) 0 (upd H tl (.lst [])) := FlAt.start ntl
    obtain ⟨H1, eH1⟩ : ∃ H1, H1 = upd H tl (.lst []) := ⟨_, rfl⟩
    rw [← eH1] at s1 htl F0 ⊢
    obtain ⟨kvs, hd, ek, _⟩ := id (nd.same s1)
    walk_at "rd"
    refine ⟨d, kvs, rfl, Rd.of hd, fun q bs nq ks => ?_⟩
    have pw0 := keys_prs ((np.same s1).no) ks ek
    have pwH : PrsAt p H (bs.map V.ref) (cells R) := pw0.mono fun t xs e => by
      by_cases c : t = tl
      · rw [c, htl] at e; cases e
      · rw [eH1, upd_ne c] at e; exact e
    have s2' := Same.up (o := .lst (bs.map V.ref)) (Same.refl H1) nq
    have hq : upd H1 q (.lst (bs.map V.ref)) q = some (.lst (bs.map V.ref)) := upd_same
    have htl2 := s2' _ _ htl
    have pw := pw0.keep (Keep.same s2')
    have qt : q ≠ tl := fun z => by rw [z, htl] at nq; cases nq
    obtain ⟨H2, eH2⟩ : ∃ H2, H2 = upd H1 q (.lst (bs.map V.ref)) := ⟨_, rfl⟩
    rw [← eH2] at s2' hq htl2 pw ⊢
    have F2 : FlAt p H tl (cells R) (openB R kd ps) 0 H2 := ⟨s1.trans s2', [], htl2, Nat.le_refl _, .nil⟩
    have bl := pw.length
    refine ⟨q, rfl, ⟨_, SqL.of hq⟩, for_it walk_list (fun m σ H' => ∃ v3, σ = [some (.ref d), some (.ref D), some (.ref tl), v3] ∧ FlAt p H tl (cells R) (openB R kd ps) m H' ∧ H' q = some (.lst (bs.map V.ref)) ∧ PrsAt p H' (bs.map V.ref) (cells R)) ⟨_, rfl, F2, hq, pw⟩ (fun m σ H' _ z => by obtain ⟨_, _, _, z, _⟩ := z; exact SqL.of z) ?_ ?_⟩
    · rintro m y σ H30 H3 hm ⟨v3, rfl, F3, hq3, pw3⟩ ⟨rfl, ey⟩
      have hm : m < (bs.map V.ref).length := hm
      obtain ⟨z, ez, pz⟩ := pwH.at ey
      obtain ⟨tt, rfl, _, ht0⟩ := id pz
      have ht := F3.1 _ _ ht0
      have zm := List.mem_of_getElem? ez
      obtain ⟨i, j, rfl, hi, hj, _⟩ := cells_nat zm
      obtain ⟨kv2, hD2, _, q2⟩ := (pl.same F3.1).get
      obtain ⟨kv3, hd3, _, q3⟩ := nd.same F3.1
      obtain ⟨a, ws, ea, ha, ls⟩ := q3 i j zm
      have more : ∀ H4, Same H3 H4 → FlAt p H tl (cells R) (openB R kd ps) m H4 := fun H4 s4 => by
        obtain ⟨s, us, e, l, u⟩ := F3
        exact ⟨s.trans s4, us, s4 _ _ e, l, u.keep (Keep.same s4)⟩
      walk_at "rd"
      refine r_dnotin ?_
      walk_at "rd"
      refine ⟨D, _, rfl, DGet.t (k := kzP ((i : Int), (j : Int))) hD2 ht, ?_⟩
      refine ⟨_, rfl, ?_⟩
      rw [q2]
      by_cases c : ((i : Int), (j : Int)) ∈ ps
      · rw [decide_eq_true c]
        refine ifF rfl ?_
        walk_at "rd"
        exact ⟨_, rfl, F3.no ez (by unfold openB; rw [decide_eq_true c]; rfl), hq3, pw3⟩
      · rw [decide_eq_false c]
        refine ifT rfl ?_
        walk_at "rd"
        refine r_dget ?_
        walk_at "rd"
        refine ⟨d, _, rfl, DGet.t (k := kzP ((i : Int), (j : Int))) hd3 ht |> (fun h => by rw [ea] at h; exact h), ?_⟩
        walk_at "rd"
        refine ⟨p, a, D, ws, _, _, rfl, ha, ls, fun n hn => needs_short hn, pl.same F3.1, fun H4 s4 => ?_⟩
        have eo : openB R kd ps ((i : Int), (j : Int)) = metD (needsL R i j kd) ps := by
          unfold openB
          rw [decide_eq_false c]
          simp only [Int.toNat_natCast, Bool.not_false, Bool.true_and]
        refine ⟨_, rfl, ?_⟩
        cases e : metD (needsL R i j kd) ps with
        | false =>
          refine ifF rfl ?_
          walk_at "rd"
          exact ⟨_, rfl, (more H4 s4).no ez (eo.trans e), s4 _ _ hq3, pw3.keep (Keep.same s4)⟩
        | true =>
          refine ifT rfl ?_
          have F4 := more H4 s4
          obtain ⟨us4, htl4, ul4, _⟩ := id F4.2
          walk_at "rd"
          refine r_bm ?_
          walk_at "rd"
          refine ⟨.inl ⟨rfl, _, SqL.of htl4⟩, ?_⟩
          walk_at "rd"
          obtain ⟨acc, ha4, hl4, fin⟩ := F4.yes ntl ez pz (eo.trans e) (Nat.lt_of_lt_of_le (show m < 65 by omega) (by decide))
          refine ⟨tl, acc, _, rfl, rfl, ha4, hl4, ?_⟩
          walk_at "rd"
          refine ⟨_, rfl, fin, ?_, ?_⟩
          · rw [upd_ne qt]; exact s4 _ _ hq3
          · exact (pw3.keep (Keep.same s4)).mono fun c xs e => by
              rw [upd_ne (fun z => by rw [z, ha4] at e; cases e)]; exact e
    · rintro σ H3 ⟨v3, rfl, F3, hq3, pw3⟩
      obtain ⟨s3, us, e3, p3⟩ := F3.fin bl
      walk_at "rd"
      exact k tl us H3 s3 ntl e3 p3
end
/-- a walk: right so far, of the table's pairs, each once -/
structure Wk (R : Rw) (kd : Str) (zs : List Pr) : Prop where
  nd : zs.Nodup
  sub : ∀ z, z ∈ zs → z ∈ cells R
  right : rightN R kd [] zs = true
theorem Wk.more {R : Rw} {kd : Str} {zs : List Pr} {z : Pr} (h : Wk R kd zs) (m : z ∈ openL R kd zs) : z ∉ zs ∧ Wk R kd (zs ++ [z]) := by
  obtain ⟨zc, o⟩ := List.mem_filter.mp m
  unfold openB at o
  rw [Bool.and_eq_true, Bool.not_eq_true', decide_eq_false_iff_not] at o
  refine ⟨o.1, List.nodup_append.mpr ⟨h.nd, List.nodup_cons.mpr ⟨List.not_mem_nil, List.nodup_nil⟩, fun a ha b hb e => ?_⟩, fun y hy => ?_, ?_⟩
  · rw [List.mem_singleton.mp hb] at e
    exact o.1 (e ▸ ha)
  · rcases List.mem_append.mp hy with hy | hy
    · exact h.sub y hy
    · rw [List.mem_singleton.mp hy]; exact zc
  · rw [rightN_snoc, h.right, Bool.true_and, List.nil_append]
    exact o.2
/-- what a walk tells: a right order of all pairs, or None where it can't go on -/
def spWalk (K : PySem.W.Frag) : Sp := fun vs H Q _ => ∃ (p d q : Addr) (R : Rw) (kd : Str) (ns : List Int), vs = [.ref d, .ref q] ∧ Gt R ∧ NdK p H d R kd ∧ NoTup p H ∧ H q = some (.lst (ns.map V.int)) ∧ (cells R).length ≤ ns.length ∧
  (∀ (zs : List Pr) (H' : Hp), Same H H' → Wk R kd zs → openL R kd zs = [] → zs.length < (cells R).length → Q .non H') ∧
  ∀ (r : Addr) (us : List V) (zs : List Pr) (H' : Hp), Same H H' → H r = none → H' r = some (.lst us) → PrsAt p H' us zs → zs.Perm (cells R) → rightN R kd [] zs = true → Q (.ref r) H'
abbrev slWalk : Stmt := top 63
section
variable {P : Program} {w : World} {K : PySem.W.Frag} {mg : Str → Option Value} {base : Heap} {f : Addr} {fd : FuncData}
theorem sclWalk : FnScope ["_law_needs_here", "_law_picks", "_law_placed", "_law_k", "_law_found"] ["_law_needs_here", "_law_picks"] (defScope slWalk) := ⟨rfl, rfl, rfl, by decide +kernel, rfl, by decide +kernel, by decide +kernel⟩
theorem ok_walk (F : Fun K "_law_walk" "_law_walk" slWalk f fd) (T : Bt mg) (DO : Df P w K mg base CX0 "_law_open" 2 ["_law_needs_here", "_law_placed"] spOpen) : FnOk P w K mg base CX0 3 f fd ["_law_needs_here", "_law_picks"] (spWalk K) := by
  refine F.ok sclWalk (fun vs H Q E h => ?_) (fun cdv A outer s H vs Q E hr h => ?_)
  · obtain ⟨p, d, q, R, kd, ns, rfl, _⟩ := h
    rfl
  · obtain ⟨p, d, q, R, kd, ns, rfl, g, nd, np, hq, nl, kN, kY⟩ := h
    have hu1 := Nat.lt_of_le_of_lt (Nat.add_le_add_left (show 1 ≤ 64 by decide) _) hr.units
    refine ⟨_, (pss_cons (ps_set (i := 2) sclWalk.nd rfl (Or.inl rfl) pe_dnewT)
  (pss_cons (ps_for PassesOwn.never rfl (pi_range1 rfl T.range (pa_cons (pe_callB call_len_dT (by rfl) T.len (by decide +kernel) (pa_cons (pv 0) pa_nil)) pa_nil)) (pg_name (i := 3) sclWalk.nd rfl (Or.inl rfl)) (pss_cons (ps_set (i := 4) sclWalk.nd rfl (Or.inl rfl) (pe_df DO hr (by decide) (pa_cons (pv 0) (pa_cons (pv 2) pa_nil))))
    (pss_cons (ps_if (pt_cmpR op_eq (pe_callB cl_len (by rfl) T.len (by decide +kernel) (pa_cons (pv 4) pa_nil)) pe_int (nomark _)) (pss_one (ps_ret pe_non)) pss_nil)
    (pss_one (ps_dput hu1 (pv 2) (pe_ix ix_list (pv 4) (pe_op op_mod (pe_callTy cl_int (by rfl) T.int (by decide +kernel) (pa_cons (pe_ix ix_list (pv 1) (pv 3) (fun _ _ => rfl)) pa_nil)) (pe_callB cl_len (by rfl) T.len (by decide +kernel) (pa_cons (pv 4) pa_nil))) (fun _ _ => rfl)) pe_bl rfl)))))
  (pss_one (ps_ret (pe_callTy (T := "list") (call_list_dT rfl) (by rfl) T.list (by decide +kernel) (pa_cons (pv 2) pa_nil)))))), ?_⟩
    have c64 := cells_len g
    obtain ⟨kvs, hd, ek, _⟩ := id nd
    have kl : kvs.length = (cells R).length := by
      have := congrArg List.length ek
      rwa [List.length_map, List.length_map] at this
    walk_at "rd"
    intro D nD
    have s1 := Same.up (o := .dT []) (Same.refl H) nD
    have hD1 : upd H D (.dT []) D = some (.dT []) := upd_same
    obtain ⟨H1, eH1⟩ : ∃ H1, H1 = upd H D (.dT []) := ⟨_, rfl⟩
    rw [← eH1] at s1 hD1 ⊢
    walk_at "rd"
    refine ⟨d, kvs, rfl, s1 _ _ hd, ?_⟩
    walk_at "rd"
    refine ⟨((kvs.length : Nat) : Int), rfl, by omega, by omega, for_it walk_range (fun m σ H' => ∃ v3 v4 zs, σ = [some (.ref d), some (.ref q), some (.ref D), v3, v4] ∧ Same H H' ∧ PlK H' D zs ∧ zs.length = m ∧ Wk R kd zs) ⟨_, _, [], rfl, s1, ⟨[], hD1, rfl⟩, rfl, ⟨List.nodup_nil, (fun z h => by cases h), rfl⟩⟩ (fun _ _ _ _ _ => trivial) ?_ ?_⟩
    · rintro m y σ H20 H2 hm ⟨v3, v4, zs, rfl, s2, pl, zl, wk⟩ ⟨rfl, rfl⟩
      have hm : m < (cells R).length := by have : m < ((kvs.length : Nat) : Int).toNat := hm; omega
      have e0 : (0 : Int) + (m : Int) = (m : Int) := by omega
      simp only [e0]
      walk_at "rd"
      refine ⟨p, d, D, R, kd, zs, rfl, g, nd.same s2, pl, np.same s2, fun r us H3 s3' nr hr3 pu => ?_⟩
      have s3 := s2.trans s3'
      have ul := pu.length
      walk_at "rd"
      refine r_lenL (SqL.of hr3) ?_
      walk_at "rd"
      refine r_eq rfl ?_
      refine ⟨_, rfl, ?_⟩
      by_cases c : us.length = 0
      · refine ifT (decide_eq_true (by rw [c]; rfl)) ?_
        walk_at "rd"
        exact kN zs H3 s3 wk (List.length_eq_zero_iff.mp (by omega)) (by omega)
      · refine ifF (decide_eq_false fun z => c (by have := V.int.inj z; omega)) ?_
        obtain ⟨x, ex⟩ : ∃ x, ns[m]? = some x := ⟨_, List.getElem?_eq_getElem (by omega)⟩
        obtain ⟨t, et⟩ : ∃ t : Nat, x % (us.length : Int) = (t : Int) := ⟨(x % (us.length : Int)).toNat, by have := Int.emod_nonneg x (show (us.length : Int) ≠ 0 by omega); omega⟩
        have tl : t < us.length := by have := Int.emod_lt_of_pos x (show 0 < (us.length : Int) by omega); omega
        obtain ⟨z, ez, pz⟩ := pu.at (List.getElem?_eq_getElem tl)
        obtain ⟨tt, ett, _, ht⟩ := id pz
        have zm := List.mem_of_getElem? ez
        obtain ⟨zn, wk2⟩ := wk.more zm
        obtain ⟨kv2, hD2, k2⟩ := id (pl.same s3')
        obtain ⟨kv3, hD3, l2, _⟩ := (pl.same s3').get
        rw [hD2] at hD3
        cases hD3
        refine r_nxt ?_
        dsimp only
        refine r_dput ?_
        walk_at "rd"
        refine r_ixL (SqL.of (s3 _ _ hq)) (atI_nat (by rw [List.getElem?_map, ex]; rfl)) ?_
        walk_at "rd"
        refine r_lenL (SqL.of hr3) ?_
        refine r_mod (by omega) ?_
        rw [et]
        refine r_ixL (SqL.of hr3) (atI_nat (List.getElem?_eq_getElem tl)) ?_
        rw [ett]
        refine ⟨D, _, rfl, DPut.t (k := kzP z) hD2 ht (Nat.lt_of_le_of_lt (show kv2.length ≤ 64 by omega) (by decide)), ?_⟩
        refine ⟨_, _, zs ++ [z], rfl, fun c o e => ?_, PlK.put hD2 k2 zn, by rw [List.length_append, zl]; rfl, wk2⟩
        rw [upd_ne (fun q => by rw [q, nD] at e; cases e)]
        exact s3 _ _ e
    · rintro σ H2 ⟨v3, v4, zs, rfl, s2, pl, zl, wk⟩
      obtain ⟨kv2, hD2, k2⟩ := id pl
      walk_at "rd"
      refine ⟨D, kv2, rfl, Rd.of hD2, fun r bs nr ks => ?_⟩
      have pr := keys_prs ((np.same s2).no) ks k2
      have s3 := Same.up (o := .lst (bs.map V.ref)) (Same.refl H2) nr
      have zl : zs.length = (cells R).length := by rw [zl, Int.toNat_natCast, kl]
      exact kY r _ zs _ (s2.trans s3) (s2.free nr) upd_same (pr.keep (Keep.same s3)) (perm_of wk.nd wk.sub (by omega)) wk.right
end
end Pk
set_option Elab.async false
set_option linter.all false
set_option maxRecDepth 100000
set_option maxHeartbeats 4000000
namespace Pk
open PySem L2
local macro_rules | `(tactic| walk_at "rd") => `(tactic| repeat (first
  | with_reducible refine r_seq ?_ | with_reducible refine r_nxt ?_ | with_reducible refine r_asg ?_ | with_reducible refine r_to ?_ | with_reducible refine r_ret ?_ | with_reducible refine r_for ?_ | with_reducible refine r_lc ?_ | with_reducible refine r_lc2 ?_ | with_reducible refine r_rng1 ?_ | with_reducible refine r_list ?_ | with_reducible refine r_tupI ?_ | with_reducible refine r_drop ?_ | with_reducible refine r_ifs ?_
  | with_reducible refine r_op ?_ | with_reducible refine r_c ?_ | with_reducible refine r_var rfl ?_ | with_reducible refine r_var (by assumption) ?_ | with_reducible refine r_I0 ?_ | with_reducible refine r_un ?_ | with_reducible refine r_U ?_ | with_reducible refine r_make ?_ | with_reducible refine r_makeS ?_ | with_reducible refine r_ifE ?_ | with_reducible refine r_cm ?_ | with_reducible refine r_mkV rfl ?_ | with_reducible refine r_sub ?_
  | with_reducible refine r_nil ?_ | with_reducible refine r_cons ?_ | with_reducible refine r_cb ?_ | with_reducible refine r_sl ?_ | with_reducible refine r_noP ?_ | with_reducible refine r_part ?_ | with_reducible refine r_isI ?_ | with_reducible refine r_lst ?_ | with_reducible refine r_tup ?_ | with_reducible refine r_call ?_ | with_reducible refine r_callS ?_ | with_reducible refine r_sFldU ?_ | with_reducible refine r_chain ?_ | with_reducible refine r_enum ?_ | with_reducible refine r_zip ?_ | with_reducible refine r_rng3 ?_ | with_reducible refine r_gtup ?_ | with_reducible refine r_methU ?_
  | with_reducible refine r_test ?_ | with_reducible refine r_B ?_ | with_reducible refine r_and ?_ | with_reducible refine r_or ?_ | with_reducible refine r_not ?_ | with_reducible refine r_andV ?_ | with_reducible refine r_orV ?_ | with_reducible refine r_notV ?_ | with_reducible refine r_bl ?_ | with_reducible refine r_yes ?_ | with_reducible refine r_int ?_ | with_reducible refine r_is0 ?_ | with_reducible refine r_is1 ?_ | with_reducible refine iteT ?_ | with_reducible refine iteF ?_ | with_reducible refine ite_nF ?_ | with_reducible refine ite_nT ?_
  | with_reducible refine r_mod (by decide) ?_ | with_reducible refine r_div (by decide) (by decide) ?_ | with_reducible refine r_mulR (by decide) (by decide) ?_ | with_reducible refine r_mulL (by decide) (by decide) ?_ | with_reducible refine r_pow (by decide) (by decide) (by decide) ?_))
def fAt (R : Rw) (zs : List Pr) (k : Str) (m : Nat) : List (Pr × Str × Pr) := match zs[m]? with
  | some z => (fauL R (inB (freeL R (zs.take (m + 1)))) z.1.toNat z.2.toNat k).map fun f => (z, f)
  | none => []
def allF (R : Rw) (zs : List Pr) (k : Str) (m : Nat) : List (Pr × Str × Pr) := (List.range m).flatMap (fAt R zs k)
theorem allF_more {R : Rw} {zs : List Pr} {k : Str} {m : Nat} : allF R zs k (m + 1) = allF R zs k m ++ fAt R zs k m := by
  unfold allF
  rw [List.range_succ, List.flatMap_append]
  simp
theorem free_nil (R : Rw) : freeL R [] = cells R := List.filter_eq_self.mpr fun z _ => by simp
theorem inB_take {R : Rw} {zs : List Pr} {m i j : Nat} (ez : zs[m]? = some ((i : Int), (j : Int))) (a b : Nat) : inB (freeL R (zs.take (m + 1))) a b = (inB (freeL R (zs.take m)) a b && !(decide (a = i) && decide (b = j))) := by
  unfold inB
  have e : (((a : Int), (b : Int)) = ((i : Int), (j : Int))) ↔ (a = i ∧ b = j) := by
    constructor
    · intro h
      have h1 := (Prod.mk.inj h).1
      have h2 := (Prod.mk.inj h).2
      omega
    · rintro ⟨rfl, rfl⟩
      rfl
  rw [Bool.eq_iff_iff, decide_eq_true_eq, Bool.and_eq_true, decide_eq_true_eq, Bool.not_eq_true', Bool.and_eq_false_iff, decide_eq_false_iff_not, decide_eq_false_iff_not, free_mem, free_mem, List.take_add_one, ez, Option.toList_some, List.mem_append, List.mem_singleton, e]
  constructor
  · rintro ⟨h1, h2⟩
    refine ⟨⟨h1, fun h => h2 (.inl h)⟩, ?_⟩
    by_cases c : a = i
    · exact .inr fun d => h2 (.inr ⟨c, d⟩)
    · exact .inl c
  · rintro ⟨⟨h1, h2⟩, h3⟩
    refine ⟨h1, ?_⟩
    rintro (h | ⟨c, d⟩)
    · exact h2 h
    · rcases h3 with h3 | h3
      · exact h3 c
      · exact h3 d
theorem fau_congr {R : Rw} {B B' : Nat → Nat → Bool} {i j : Nat} {k : Str} (h : ∀ a b, ¬ (a = i ∧ b = j) → B' a b = B a b) : fauL R B' i j k = fauL R B i j k := by
  have a : stB B' R.length i j = stB B R.length i j := by
    unfold stB
    refine List.filter_congr fun r _ => ?_
    by_cases c : r = i
    · rw [decide_eq_true c]
      rfl
    · rw [h r j fun z => c z.1]
  have b : wiB B' (wd R) i j = wiB B (wd R) i j := by
    unfold wiB
    refine List.filter_congr fun s _ => ?_
    by_cases c : s = j
    · rw [decide_eq_true c]
      rfl
    · rw [h i s fun z => c z.2]
  unfold fauL crossL colL rowL crRow
  rw [a, b]
theorem fau_take {R : Rw} {zs : List Pr} {m i j : Nat} {k : Str} (ez : zs[m]? = some ((i : Int), (j : Int))) : fauL R (inB (freeL R (zs.take (m + 1)))) i j k = fauL R (inB (freeL R (zs.take m))) i j k := by
  refine fau_congr fun a b n => ?_
  rw [inB_take ez]
  have : (decide (a = i) && decide (b = j)) = false := by
    rw [Bool.and_eq_false_iff, decide_eq_false_iff_not, decide_eq_false_iff_not]
    by_cases c : a = i
    · exact .inr fun d => n ⟨c, d⟩
    · exact .inl c
  rw [this]
  simp
/-! ### ways of placing pairs that may stand -/
structure Way (R : Rw) (k : Str) (ys : List Pr) : Prop where
  nd : ys.Nodup
  sub : ∀ z, z ∈ ys → z ∈ cells R
  ok : ∀ (i : Nat) (z : Pr), ys[i]? = some z → z ∈ mayL R (ys.take i) k
theorem Way.nil (R : Rw) (k : Str) : Way R k [] := ⟨List.nodup_nil, (fun z h => by cases h), (fun i z e => by simp at e)⟩
theorem Way.more {R : Rw} {k : Str} {ys : List Pr} {z : Pr} (w : Way R k ys) (h : z ∈ mayL R ys k) : Way R k (ys ++ [z]) := by
  obtain ⟨zc, zn⟩ := free_mem.mp (may_mem.mp h).1
  refine ⟨?_, fun y hy => ?_, fun i y e => ?_⟩
  · rw [List.nodup_append]
    exact ⟨w.nd, by simp, fun a ha b hb e => by rw [List.mem_singleton.mp hb] at e; exact zn (e ▸ ha)⟩
  · rcases List.mem_append.mp hy with hy | hy
    · exact w.sub y hy
    · rw [List.mem_singleton.mp hy]; exact zc
  · by_cases c : i < ys.length
    · rw [List.getElem?_append_left c] at e
      rw [List.take_append_of_le_length (by omega)]
      exact w.ok i y e
    · rw [List.getElem?_append_right (by omega)] at e
      have : i = ys.length := by
        by_cases d : i - ys.length = 0
        · omega
        · obtain ⟨m, hm⟩ : ∃ m, i - ys.length = m + 1 := ⟨i - ys.length - 1, by omega⟩
          rw [hm] at e
          simp at e
      subst this
      rw [Nat.sub_self] at e
      cases e
      rw [List.take_left']
      · exact h
      · rfl
theorem Grw.way {R : Rw} {k : Str} {zs : List Pr} (g : Grw R k zs) : Way R k zs := ⟨g.nd, g.sub, fun i z e => List.mem_of_mem_head? (g.gw i z e)⟩
theorem Way.in_ {R : Rw} {k : Str} {ys zs : List Pr} (w : Way R k ys) (mx : mayL R zs k = []) : ∀ z, z ∈ ys → z ∈ zs := by
  have : ∀ n i : Nat, i < n → ∀ z, ys[i]? = some z → z ∈ zs := by
    intro n
    induction n with
    | zero => intro i hi; omega
    | succ n ih =>
      intro i hi z ez
      refine Classical.byContradiction fun nz => ?_
      have sub : ∀ y, y ∈ ys.take i → y ∈ zs := fun y hy => by
        obtain ⟨j, hj, e⟩ := List.getElem_of_mem hy
        rw [List.length_take] at hj
        rw [List.getElem_take] at e
        exact ih j (by omega) y (by rw [List.getElem?_eq_getElem (by omega), e])
      have := may_mono sub (w.ok i z ez) nz
      rw [mx] at this
      cases this
  intro z hz
  obtain ⟨i, hi, e⟩ := List.getElem_of_mem hz
  exact this (i + 1) i (by omega) z (by rw [List.getElem?_eq_getElem hi, e])
theorem free_ext {R : Rw} {ys zs : List Pr} (h : ∀ z, z ∈ ys ↔ z ∈ zs) : freeL R ys = freeL R zs := by
  unfold freeL
  refine List.filter_congr fun z _ => ?_
  rw [decide_eq_decide.mpr (h z)]
theorem Way.free {R : Rw} {k : Str} {ys zs : List Pr} (w : Way R k ys) (v : Way R k zs) (m1 : mayL R ys k = []) (m2 : mayL R zs k = []) : freeL R ys = freeL R zs := free_ext fun z => ⟨w.in_ m2 z, v.in_ m1 z⟩
theorem free_perm {R : Rw} {zs : List Pr} (nd : zs.Nodup) (sub : ∀ z, z ∈ zs → z ∈ cells R) (e : freeL R zs = []) : zs.Perm (cells R) := by
  refine (List.perm_ext_iff_of_nodup nd (cells_nodup R)).mpr fun z => ⟨sub z, fun h => Classical.byContradiction fun n => ?_⟩
  have := free_mem.mpr ⟨h, n⟩
  rw [e] at this
  cases this
theorem perm_free {R : Rw} {zs : List Pr} (h : zs.Perm (cells R)) : freeL R zs = [] := List.eq_nil_iff_forall_not_mem.mpr fun z hz => (free_mem.mp hz).2 (h.mem_iff.mpr (free_mem.mp hz).1)
theorem full_of {R : Rw} {zs : List Pr} (nd : zs.Nodup) (sub : ∀ z, z ∈ zs → z ∈ cells R) (l : (cells R).length ≤ zs.length) : zs.Perm (cells R) := by
  refine (List.perm_ext_iff_of_nodup nd (cells_nodup R)).mpr fun z => ⟨sub z, fun h => Classical.byContradiction fun n => ?_⟩
  have := sub_len (xs := z :: zs) (ys := cells R) (List.nodup_cons.mpr ⟨n, nd⟩) fun y hy => by
    rcases List.mem_cons.mp hy with rfl | hy
    · exact h
    · exact sub y hy
  rw [List.length_cons] at this
  omega
theorem may_full {R : Rw} {zs : List Pr} {k : Str} (e : freeL R zs = []) : mayL R zs k = [] := by
  unfold mayL
  rw [e]
  rfl
/-! ### the cells stand in ascending order -/
theorem cells_sorted (R : Rw) : (cells R).Pairwise fun a b => prLt a b = true := by
  unfold cells
  rw [List.pairwise_flatMap]
  refine ⟨fun i _ => ?_, ?_⟩
  · rw [List.pairwise_map]
    refine List.Pairwise.filter _ ?_
    refine List.Pairwise.imp ?_ List.pairwise_lt_range
    intro a b h
    simp [prLt]
    omega
  · refine List.Pairwise.imp ?_ List.pairwise_lt_range
    intro a b h x hx y hy
    obtain ⟨_, _, rfl⟩ := List.mem_map.mp hx
    obtain ⟨_, _, rfl⟩ := List.mem_map.mp hy
    simp [prLt]
    omega
theorem may_sorted (R : Rw) (zs : List Pr) (k : Str) : (mayL R zs k).Pairwise fun a b => prLt a b = true := List.Pairwise.filter _ (List.Pairwise.filter _ (cells_sorted R))
theorem may_least {R : Rw} {zs : List Pr} {k : Str} {a b : Pr} (h : (mayL R zs k).head? = some b) (m : a ∈ mayL R zs k) : prLt a b = false := by
  have s := may_sorted R zs k
  cases e : mayL R zs k with
  | nil => rw [e] at h; cases h
  | cons c r =>
    rw [e] at h m s
    cases h
    obtain ⟨h1, h2⟩ := List.pairwise_cons.mp s
    rcases List.mem_cons.mp m with rfl | m
    · exact prLt_irr a
    · cases hc : prLt a b with
      | false => rfl
      | true =>
        have := prLt_trans hc (h1 a m)
        rw [prLt_irr] at this
        cases this
theorem lex_way {R : Rw} {k : Str} : ∀ (as bs pre : List Pr), Way R k (pre ++ as) → Grw R k (pre ++ bs) → as.length = bs.length → lexB as bs = false
  | [], [], _, _, _, _ => rfl
  | [], _ :: _, _, _, _, l => by simp at l
  | _ :: _, [], _, _, _, l => by simp at l
  | a :: as, b :: bs, pre, w, g, l => by
    unfold lexB
    by_cases c : a = b
    · subst c
      rw [if_pos rfl]
      exact lex_way as bs (pre ++ [a]) (by rw [List.append_assoc]; exact w) (by rw [List.append_assoc]; exact g) (by simpa using l)
    · rw [if_neg c]
      have h1 := w.ok pre.length a (by rw [List.getElem?_append_right (Nat.le_refl _), Nat.sub_self]; rfl)
      have h2 := g.gw pre.length b (by rw [List.getElem?_append_right (Nat.le_refl _), Nat.sub_self]; rfl)
      rw [List.take_left'] at h1 h2
      · exact may_least h2 h1
      · rfl
      · rfl
theorem way_allF {R : Rw} {k : Str} {ys : List Pr} (w : Way R k ys) (n : Nat) : allF R ys k n = [] := by
  unfold allF
  rw [List.flatMap_eq_nil_iff]
  intro m _
  unfold fAt
  cases e : ys[m]? with
  | none => rfl
  | some z =>
    obtain ⟨i, j, rfl, _, _, _⟩ := cells_nat (w.sub z (List.mem_of_getElem? e))
    have h := (may_mem.mp (w.ok m _ e)).2
    simp only [Int.toNat_natCast] at h ⊢
    rw [fau_take e, h]
    rfl
/-! ### right orders and what is grown -/
theorem fAt_nil {R : Rw} {zs : List Pr} {k : Str} {n : Nat} (h : allF R zs k n = []) {m : Nat} (hm : m < n) {z : Pr} (e : zs[m]? = some z) : fauL R (inB (freeL R (zs.take (m + 1)))) z.1.toNat z.2.toNat k = [] := by
  unfold allF at h
  rw [List.flatMap_eq_nil_iff] at h
  have := h m (List.mem_range.mpr hm)
  unfold fAt at this
  rw [e] at this
  exact List.map_eq_nil_iff.mp this
theorem allF_way {R : Rw} {k : Str} {ys : List Pr} (nd : ys.Nodup) (sub : ∀ z, z ∈ ys → z ∈ cells R) (h : allF R ys k ys.length = []) : Way R k ys := by
  refine ⟨nd, sub, fun m z e => ?_⟩
  have ml : m < ys.length := (List.getElem?_eq_some_iff.mp e).1
  have x := fAt_nil h ml e
  obtain ⟨i, j, rfl, hi, hj, hp⟩ := cells_nat (sub z (List.mem_of_getElem? e))
  refine may_mem.mpr ⟨free_mem.mpr ⟨sub _ (List.mem_of_getElem? e), fun hm => ?_⟩, ?_⟩
  · obtain ⟨q, hq, eq⟩ := List.mem_iff_getElem.mp hm
    rw [List.length_take] at hq
    rw [List.getElem_take] at eq
    have e2 : ys[m] = ((i : Int), (j : Int)) := (List.getElem?_eq_some_iff.mp e).2
    exact List.pairwise_iff_getElem.mp nd q m (by omega) ml (by omega) (eq.trans e2.symm)
  · simp only [Int.toNat_natCast] at x ⊢
    rw [← fau_take e]
    exact x
/-- where an order is right, what is grown is full -/
theorem right_full {R : Rw} {k : Str} {ys zs : List Pr} (pm : ys.Perm (cells R)) (h : allF R ys k ys.length = []) (mx : mayL R zs k = []) : freeL R zs = [] := by
  have w := allF_way (pm.nodup_iff.mpr (cells_nodup R)) (fun z hz => pm.mem_iff.mp hz) h
  exact List.eq_nil_iff_forall_not_mem.mpr fun z hz => (free_mem.mp hz).2 (w.in_ mx z (pm.mem_iff.mpr (free_mem.mp hz).1))
theorem needs_self {R : Rw} {i j : Nat} {kd : Str} {n : List Pr} (h : n ∈ needsL R i j kd) : ((i : Int), (j : Int)) ∉ n := by
  intro m
  have nat : ∀ {a b : Nat}, ((a : Int)) = (b : Int) → a = b := fun h => by omega
  unfold needsL at h
  rcases List.mem_append.mp h with h | h
  · rcases List.mem_append.mp h with h | h
    · obtain ⟨r, _, h⟩ := List.mem_flatMap.mp h
      obtain ⟨s, hs, rfl⟩ := List.mem_map.mp h
      have lc := (List.mem_filter.mp hs).2
      unfold lcB at lc
      simp only [Bool.and_eq_true, Bool.not_eq_true', decide_eq_false_iff_not] at lc
      obtain ⟨⟨⟨⟨ri, sj⟩, _⟩, _⟩, _⟩ := lc
      rcases List.mem_cons.mp m with e | m
      · exact sj (nat (congrArg Prod.snd e)).symm
      · exact ri (nat (congrArg Prod.fst (List.mem_singleton.mp m))).symm
    · split at h
      · obtain ⟨r, hr, rfl⟩ := List.mem_map.mp h
        have hc := (List.mem_filter.mp hr).2
        simp only [Bool.and_eq_true, decide_eq_true_eq] at hc
        have e := nat (congrArg Prod.fst (List.mem_singleton.mp m))
        rw [← e] at hc
        omega
      · cases h
  · split at h
    · obtain ⟨s, hs, rfl⟩ := List.mem_map.mp h
      have hc := (List.mem_filter.mp hs).2
      simp only [Bool.and_eq_true, decide_eq_true_eq] at hc
      have e := nat (congrArg Prod.snd (List.mem_singleton.mp m))
      rw [← e] at hc
      omega
    · cases h
theorem met_self {R : Rw} {i j : Nat} {kd : Str} {ps : List Pr} : metB (needsL R i j kd) (ps ++ [((i : Int), (j : Int))]) ↔ metB (needsL R i j kd) ps := by
  refine forall_congr' fun n => forall_congr' fun hn => ?_
  constructor
  · rintro ⟨z, hz, hp⟩
    rcases List.mem_append.mp hp with hp | hp
    · exact ⟨z, hz, hp⟩
    · rw [List.mem_singleton.mp hp] at hz
      exact absurd hz (needs_self hn)
  · rintro ⟨z, hz, hp⟩
    exact ⟨z, hz, List.mem_append_left _ hp⟩
theorem fAt_met {R : Rw} {zs : List Pr} {kd : Str} {m i j : Nat} (hi : i < R.length) (hj : j < wd R) (e : zs[m]? = some ((i : Int), (j : Int))) : fAt R zs kd m = [] ↔ metD (needsL R i j kd) (zs.take m) = true := by
  unfold fAt
  rw [e]
  simp only [List.map_eq_nil_iff, Int.toNat_natCast]
  rw [metD_iff, ← met_fau hi hj, List.take_succ, e]
  exact met_self
theorem right_from {R : Rw} {zs : List Pr} {kd : Str} (zc : ∀ z, z ∈ zs → z ∈ cells R) : ∀ (d m : Nat), m + d = zs.length → (rightN R kd (zs.take m) (zs.drop m) = true ↔ ∀ k, m ≤ k → k < zs.length → fAt R zs kd k = [])
  | 0, m, e => by
    rw [List.drop_eq_nil_iff.mpr (by omega), rightN]
    exact ⟨fun _ k a b => by omega, fun _ => rfl⟩
  | d + 1, m, e => by
    have ml : m < zs.length := by omega
    have ez := List.getElem?_eq_getElem ml
    obtain ⟨i, j, eij, hi, hj, _⟩ := cells_nat (zc _ (List.mem_of_getElem? ez))
    rw [eij] at ez
    have dr : zs.drop m = ((i : Int), (j : Int)) :: zs.drop (m + 1) := by rw [List.drop_eq_getElem_cons ml, eij]
    have tk : zs.take m ++ [((i : Int), (j : Int))] = zs.take (m + 1) := by rw [List.take_succ, ez]; rfl
    rw [dr, rightN, tk, Bool.and_eq_true, right_from zc d (m + 1) (by omega)]
    simp only [Int.toNat_natCast]
    rw [← fAt_met hi hj ez]
    constructor
    · rintro ⟨a, b⟩ k h1 h2
      rcases Nat.lt_or_ge m k with c | c
      · exact b k c h2
      · rw [show k = m by omega]; exact a
    · intro h
      exact ⟨h m (Nat.le_refl _) ml, fun k h1 h2 => h k (by omega) h2⟩
theorem right_all {R : Rw} {zs : List Pr} {kd : Str} (zc : ∀ z, z ∈ zs → z ∈ cells R) : rightN R kd [] zs = true ↔ allF R zs kd zs.length = [] := by
  have h := right_from (kd := kd) zc zs.length 0 (by omega)
  rw [List.take_zero, List.drop_zero] at h
  rw [h]
  unfold allF
  rw [List.flatMap_eq_nil_iff]
  exact ⟨fun q k hk => q k (Nat.zero_le _) (List.mem_range.mp hk), fun q k _ hk => q k (List.mem_range.mpr hk)⟩
end Pk
set_option Elab.async false
set_option linter.all false
set_option maxRecDepth 100000
set_option maxHeartbeats 4000000
namespace Pk
open PySem L2
local macro_rules | `(tactic| walk_at "rd") => `(tactic| repeat (first
  | with_reducible refine r_seq ?_ | with_reducible refine r_nxt ?_ | with_reducible refine r_asg ?_ | with_reducible refine r_to ?_ | with_reducible refine r_ret ?_ | with_reducible refine r_for ?_ | with_reducible refine r_lc ?_ | with_reducible refine r_lc2 ?_ | with_reducible refine r_rng1 ?_ | with_reducible refine r_list ?_ | with_reducible refine r_tupI ?_ | with_reducible refine r_drop ?_ | with_reducible refine r_ifs ?_
  | with_reducible refine r_op ?_ | with_reducible refine r_c ?_ | with_reducible refine r_var rfl ?_ | with_reducible refine r_var (by assumption) ?_ | with_reducible refine r_I0 ?_ | with_reducible refine r_un ?_ | with_reducible refine r_U ?_ | with_reducible refine r_make ?_ | with_reducible refine r_makeS ?_ | with_reducible refine r_ifE ?_ | with_reducible refine r_cm ?_ | with_reducible refine r_mkV rfl ?_ | with_reducible refine r_sub ?_
  | with_reducible refine r_nil ?_ | with_reducible refine r_cons ?_ | with_reducible refine r_cb ?_ | with_reducible refine r_sl ?_ | with_reducible refine r_noP ?_ | with_reducible refine r_part ?_ | with_reducible refine r_isI ?_ | with_reducible refine r_lst ?_ | with_reducible refine r_tup ?_ | with_reducible refine r_call ?_ | with_reducible refine r_callS ?_ | with_reducible refine r_sFldU ?_ | with_reducible refine r_chain ?_ | with_reducible refine r_enum ?_ | with_reducible refine r_zip ?_ | with_reducible refine r_rng3 ?_ | with_reducible refine r_gtup ?_ | with_reducible refine r_methU ?_
  | with_reducible refine r_test ?_ | with_reducible refine r_B ?_ | with_reducible refine r_and ?_ | with_reducible refine r_or ?_ | with_reducible refine r_not ?_ | with_reducible refine r_andV ?_ | with_reducible refine r_orV ?_ | with_reducible refine r_notV ?_ | with_reducible refine r_bl ?_ | with_reducible refine r_yes ?_ | with_reducible refine r_int ?_ | with_reducible refine r_is0 ?_ | with_reducible refine r_is1 ?_ | with_reducible refine iteT ?_ | with_reducible refine iteF ?_ | with_reducible refine ite_nF ?_ | with_reducible refine ite_nT ?_
  | with_reducible refine r_mod (by decide) ?_ | with_reducible refine r_div (by decide) (by decide) ?_ | with_reducible refine r_mulR (by decide) (by decide) ?_ | with_reducible refine r_mulL (by decide) (by decide) ?_ | with_reducible refine r_pow (by decide) (by decide) (by decide) ?_))
theorem flat_congr {α β : Type} {f g : α → List β} : ∀ {l : List α}, (∀ a, a ∈ l → f a = g a) → l.flatMap f = l.flatMap g
  | [], _ => rfl
  | a :: l, h => by rw [List.flatMap_cons, List.flatMap_cons, h a (List.mem_cons_self ..), flat_congr fun b hb => h b (List.mem_cons_of_mem _ hb)]
/-! ### lines left out: the table that stays, in numbers -/
def kN (ms : List Int) (i : Nat) : Bool := !decide ((i : Int) ∈ ms)
def ps (ms : List Int) (i : Nat) : Nat := (kp ms i).length
theorem kp_mem {ms : List Int} {n i : Nat} : i ∈ kp ms n ↔ i < n ∧ kN ms i = true := by
  unfold kp kN
  rw [List.mem_filter, List.mem_range]
theorem kp_split {ms : List Int} {i : Nat} (hk : kN ms i = true) : ∀ {n : Nat}, i < n → ∃ r, kp ms n = kp ms i ++ i :: r
  | 0, h => absurd h (Nat.not_lt_zero _)
  | n + 1, h => by
    have nk : ¬ (i : Int) ∈ ms := by
      unfold kN at hk
      simpa using hk
    by_cases e : i = n
    · subst e
      exact ⟨[], kp_out nk⟩
    · obtain ⟨r, er⟩ := kp_split hk (n := n) (by omega)
      by_cases c : (n : Int) ∈ ms
      · exact ⟨r, by rw [kp_in c, er]⟩
      · exact ⟨r ++ [n], by rw [kp_out c, er, List.append_assoc]; rfl⟩
theorem ps_at {ms : List Int} {i n : Nat} (h : i < n) (hk : kN ms i = true) : (kp ms n)[ps ms i]? = some i := by
  obtain ⟨r, er⟩ := kp_split hk h
  rw [er, ps, List.getElem?_append_right (Nat.le_refl _), Nat.sub_self]
  rfl
theorem ps_lt {ms : List Int} {i n : Nat} (h : i < n) (hk : kN ms i = true) : ps ms i < (kp ms n).length := (List.getElem?_eq_some_iff.mp (ps_at h hk)).1
theorem kp_nodup (ms : List Int) (n : Nat) : (kp ms n).Nodup := List.Pairwise.filter _ List.nodup_range
theorem ps_inj {ms : List Int} {i j n : Nat} (hi : i < n) (ki : kN ms i = true) (hj : j < n) (kj : kN ms j = true) (e : ps ms i = ps ms j) : i = j := by
  have a := ps_at hi ki
  rw [e, ps_at hj kj] at a
  exact (Option.some.inj a).symm
theorem at_ps {ms : List Int} {n a : Nat} (h : a < (kp ms n).length) : ps ms (kp ms n)[a] = a := by
  obtain ⟨h1, h2⟩ := kp_mem.mp (List.getElem_mem h)
  obtain ⟨l, e⟩ := List.getElem?_eq_some_iff.mp (ps_at h1 h2)
  have nd := List.pairwise_iff_getElem.mp (kp_nodup ms n)
  rcases Nat.lt_trichotomy (ps ms (kp ms n)[a]) a with q | q | q
  · exact absurd e (nd _ _ l h q)
  · exact q
  · exact absurd e.symm (nd _ _ h l q)
theorem range_ps (ms : List Int) (n : Nat) : List.range (kp ms n).length = (kp ms n).map (ps ms) := by
  refine List.ext_getElem (by simp) fun a h1 h2 => ?_
  rw [List.getElem_range, List.getElem_map, at_ps]
theorem flat_filter {α β : Type} {p : α → Bool} {F : α → List β} : ∀ l : List α, (l.filter p).flatMap F = l.flatMap fun x => if p x = true then F x else []
  | [] => rfl
  | x :: l => by
    rw [List.flatMap_cons, ← flat_filter l]
    by_cases c : p x = true
    · rw [List.filter_cons_of_pos c, List.flatMap_cons, if_pos c]
    · rw [List.filter_cons_of_neg c, if_neg c]
      rfl
section
variable {R : Rw} {ms ns : List Int}
theorem wo_len : (woR R ms ns).length = (kp ms R.length).length := by simp [woR, woP]
theorem wo_wd (h1 : ms.length < R.length) : wd (woR R ms ns) = (kp ns (wd R)).length := by
  have p1 := kp_pos h1
  unfold wd woR woP
  cases e : kp ms R.length with
  | nil => rw [e] at p1; simp at p1
  | cons a l => simp [woRow, wd]
theorem wo_prc {i j : Nat} (hi : i < R.length) (hj : j < wd R) (ki : kN ms i = true) (kj : kN ns j = true) : prc (woR R ms ns) (ps ms i) (ps ns j) = prc R i j := by
  rw [prc, List.getD_eq_getElem?_getD (l := woR R ms ns), woR, woP, List.getElem?_map, ps_at hi ki]
  show (woRow R ns i (wd R)).getD (ps ns j) none = _
  rw [List.getD_eq_getElem?_getD, woRow, List.getElem?_map, ps_at hj kj]
  rfl
theorem wo_val {i j : Nat} (hi : i < R.length) (hj : j < wd R) (ki : kN ms i = true) (kj : kN ns j = true) : val (woR R ms ns) (ps ms i) (ps ns j) = val R i j := by
  unfold val
  rw [wo_prc hi hj ki kj]
def stz (ms ns : List Int) (z : Pr) : Bool := !decide (z.1 ∈ ms) && !decide (z.2 ∈ ns)
def nwP (ms ns : List Int) (z : Pr) : Pr := ((ps ms z.1.toNat : Nat), (ps ns z.2.toNat : Nat))
theorem stz_nat (i j : Nat) : stz ms ns ((i : Int), (j : Int)) = (kN ms i && kN ns j) := rfl
theorem nwP_nat (i j : Nat) : nwP ms ns ((i : Int), (j : Int)) = ((ps ms i : Int), (ps ns j : Int)) := rfl
theorem cells_wo (h1 : ms.length < R.length) : cells (woR R ms ns) = ((cells R).filter (stz ms ns)).map (nwP ms ns) := by
  unfold cells
  rw [wo_len, wo_wd h1, range_ps, range_ps, List.flatMap_map, List.filter_flatMap, List.map_flatMap]
  rw [show kp ms R.length = (List.range R.length).filter (kN ms) from rfl, flat_filter]
  refine flat_congr fun i hi => ?_
  have hi := List.mem_range.mp hi
  by_cases c : kN ms i = true
  · rw [if_pos c, List.filter_map, List.map_map, List.filter_map, List.map_map]
    have e1 : (kp ns (wd R)).filter ((fun j => (prc (woR R ms ns) (ps ms i) j).isSome) ∘ ps ns) = ((List.range (wd R)).filter fun j => (prc R i j).isSome).filter (stz ms ns ∘ fun (j : Nat) => ((i : Int), (j : Int))) := by
      unfold kp
      rw [List.filter_filter, List.filter_filter]
      refine List.filter_congr fun j hj => ?_
      have hj := List.mem_range.mp hj
      show ((prc (woR R ms ns) (ps ms i) (ps ns j)).isSome && kN ns j) = ((kN ms i && kN ns j) && (prc R i j).isSome)
      by_cases d : kN ns j = true
      · rw [wo_prc hi hj c d, c, d]
        simp
      · rw [Bool.eq_false_iff.mpr d]
        simp
    rw [e1]
    rfl
  · rw [if_neg c]
    have : ((((List.range (wd R)).filter fun j => (prc R i j).isSome).map fun (j : Nat) => ((i : Int), (j : Int))).filter (stz ms ns)) = [] := List.filter_eq_nil_iff.mpr fun z hz => by
      obtain ⟨j, _, rfl⟩ := List.mem_map.mp hz
      rw [stz_nat, Bool.eq_false_iff.mpr c]
      simp
    rw [this]
    rfl
/-! faults -/
variable {B B' : Nat → Nat → Bool} {i j : Nat}
theorem stB_wo (hB : ∀ r t, r < R.length → t < wd R → kN ms r = true → kN ns t = true → B' (ps ms r) (ps ns t) = B r t) (hi : i < R.length) (hj : j < wd R) (ki : kN ms i = true) (kj : kN ns j = true) : stB B' (woR R ms ns).length (ps ms i) (ps ns j) = ((stB B R.length i j).filter (kN ms)).map (ps ms) := by
  unfold stB
  rw [wo_len, range_ps, List.filter_map]
  congr 1
  unfold kp
  rw [List.filter_filter, List.filter_filter]
  refine List.filter_congr fun r hr => ?_
  have hr := List.mem_range.mp hr
  show ((!decide (ps ms r = ps ms i) && B' (ps ms r) (ps ns j)) && kN ms r) = (kN ms r && (!decide (r = i) && B r j))
  by_cases c : kN ms r = true
  · rw [hB r j hr hj c kj, c, Bool.and_true, Bool.true_and]
    congr 2
    exact decide_eq_decide.mpr ⟨fun e => ps_inj hr c hi ki e, fun e => by rw [e]⟩
  · rw [Bool.eq_false_iff.mpr c]
    simp
theorem wiB_wo (h1 : ms.length < R.length) (hB : ∀ r t, r < R.length → t < wd R → kN ms r = true → kN ns t = true → B' (ps ms r) (ps ns t) = B r t) (hi : i < R.length) (hj : j < wd R) (ki : kN ms i = true) (kj : kN ns j = true) : wiB B' (wd (woR R ms ns)) (ps ms i) (ps ns j) = ((wiB B (wd R) i j).filter (kN ns)).map (ps ns) := by
  unfold wiB
  rw [wo_wd h1, range_ps, List.filter_map]
  congr 1
  unfold kp
  rw [List.filter_filter, List.filter_filter]
  refine List.filter_congr fun t ht => ?_
  have ht := List.mem_range.mp ht
  show ((!decide (ps ns t = ps ns j) && B' (ps ms i) (ps ns t)) && kN ns t) = (kN ns t && (!decide (t = j) && B i t))
  by_cases c : kN ns t = true
  · rw [hB i t hi ht ki c, c, Bool.and_true, Bool.true_and]
    congr 2
    exact decide_eq_decide.mpr ⟨fun e => ps_inj ht c hj kj e, fun e => by rw [e]⟩
  · rw [Bool.eq_false_iff.mpr c]
    simp
theorem cross_wo (h1 : ms.length < R.length) (hB : ∀ r t, r < R.length → t < wd R → kN ms r = true → kN ns t = true → B' (ps ms r) (ps ns t) = B r t) (hi : i < R.length) (hj : j < wd R) (ki : kN ms i = true) (kj : kN ns j = true) :
    crossL (woR R ms ns) B' (ps ms i) (ps ns j) = ((crossL R B i j).filter (stz ms ns)).map (nwP ms ns) := by
  unfold crossL
  rw [stB_wo hB hi hj ki kj, wiB_wo h1 hB hi hj ki kj, List.flatMap_map, flat_filter, List.filter_flatMap, List.map_flatMap]
  refine flat_congr fun r hr => ?_
  have r1 := (stB_mem hr).1
  unfold crRow
  by_cases c : kN ms r = true
  · rw [if_pos c, List.filter_map, List.map_map, List.filter_map, List.map_map]
    have e1 : ((wiB B (wd R) i j).filter (kN ns)).filter ((fun s => crB (woR R ms ns) (ps ms i) (ps ns j) (ps ms r) s) ∘ ps ns) = ((wiB B (wd R) i j).filter fun s => crB R i j r s).filter (stz ms ns ∘ fun (s : Nat) => ((r : Int), (s : Int))) := by
      rw [List.filter_filter, List.filter_filter]
      refine List.filter_congr fun t ht => ?_
      have t1 := (wiB_mem ht).1
      show (crB (woR R ms ns) (ps ms i) (ps ns j) (ps ms r) (ps ns t) && kN ns t) = ((kN ms r && kN ns t) && crB R i j r t)
      by_cases d : kN ns t = true
      · have : crB (woR R ms ns) (ps ms i) (ps ns j) (ps ms r) (ps ns t) = crB R i j r t := by
          unfold crB
          rw [wo_prc r1 t1 c d, wo_val hi t1 ki d, wo_val r1 hj c kj, wo_val hi hj ki kj]
        rw [this, c, d]
        simp
      · rw [Bool.eq_false_iff.mpr d]
        simp
    rw [e1]
    rfl
  · rw [if_neg c]
    have : ((((wiB B (wd R) i j).filter fun s => crB R i j r s).map fun (s : Nat) => ((r : Int), (s : Int))).filter (stz ms ns)) = [] := List.filter_eq_nil_iff.mpr fun z hz => by
      obtain ⟨t, _, rfl⟩ := List.mem_map.mp hz
      rw [stz_nat, Bool.eq_false_iff.mpr c]
      simp
    rw [this]
    rfl
theorem col_wo (hB : ∀ r t, r < R.length → t < wd R → kN ms r = true → kN ns t = true → B' (ps ms r) (ps ns t) = B r t) (hi : i < R.length) (hj : j < wd R) (ki : kN ms i = true) (kj : kN ns j = true) :
    colL (woR R ms ns) B' (ps ms i) (ps ns j) = ((colL R B i j).filter (stz ms ns)).map (nwP ms ns) := by
  unfold colL
  rw [stB_wo hB hi hj ki kj, List.filter_map, List.map_map, List.filter_map, List.map_map]
  have e1 : ((stB B R.length i j).filter (kN ms)).filter ((fun r => decide (val (woR R ms ns) r (ps ns j) < val (woR R ms ns) (ps ms i) (ps ns j))) ∘ ps ms) = ((stB B R.length i j).filter fun r => decide (val R r j < val R i j)).filter (stz ms ns ∘ fun (r : Nat) => ((r : Int), (j : Int))) := by
    rw [List.filter_filter, List.filter_filter]
    refine List.filter_congr fun r hr => ?_
    have r1 := (stB_mem hr).1
    show (decide (val (woR R ms ns) (ps ms r) (ps ns j) < val (woR R ms ns) (ps ms i) (ps ns j)) && kN ms r) = ((kN ms r && kN ns j) && decide (val R r j < val R i j))
    by_cases d : kN ms r = true
    · rw [wo_val r1 hj d kj, wo_val hi hj ki kj, d, kj]
      simp
    · rw [Bool.eq_false_iff.mpr d]
      simp
  rw [e1]
  rfl
theorem row_wo (h1 : ms.length < R.length) (hB : ∀ r t, r < R.length → t < wd R → kN ms r = true → kN ns t = true → B' (ps ms r) (ps ns t) = B r t) (hi : i < R.length) (hj : j < wd R) (ki : kN ms i = true) (kj : kN ns j = true) :
    rowL (woR R ms ns) B' (ps ms i) (ps ns j) = ((rowL R B i j).filter (stz ms ns)).map (nwP ms ns) := by
  unfold rowL
  rw [wiB_wo h1 hB hi hj ki kj, List.filter_map, List.map_map, List.filter_map, List.map_map]
  have e1 : ((wiB B (wd R) i j).filter (kN ns)).filter ((fun t => decide (val (woR R ms ns) (ps ms i) t < val (woR R ms ns) (ps ms i) (ps ns j))) ∘ ps ns) = ((wiB B (wd R) i j).filter fun t => decide (val R i t < val R i j)).filter (stz ms ns ∘ fun (t : Nat) => ((i : Int), (t : Int))) := by
    rw [List.filter_filter, List.filter_filter]
    refine List.filter_congr fun t ht => ?_
    have t1 := (wiB_mem ht).1
    show (decide (val (woR R ms ns) (ps ms i) (ps ns t) < val (woR R ms ns) (ps ms i) (ps ns j)) && kN ns t) = ((kN ms i && kN ns t) && decide (val R i t < val R i j))
    by_cases d : kN ns t = true
    · rw [wo_val hi t1 ki d, wo_val hi hj ki kj, d, ki]
      simp
    · rw [Bool.eq_false_iff.mpr d]
      simp
  rw [e1]
  rfl
end
/-! faults of the smaller table -/
def st2 (ms ns : List Int) (f : Str × Pr) : Bool := stz ms ns f.2
def rn2 (ms ns : List Int) (f : Str × Pr) : Str × Pr := (f.1, nwP ms ns f.2)
theorem wrd_wo {ms ns : List Int} (w : Str) (l : List Pr) : wrd w ((l.filter (stz ms ns)).map (nwP ms ns)) = ((wrd w l).filter (st2 ms ns)).map (rn2 ms ns) := by
  unfold wrd
  rw [List.filter_map, List.map_map, List.map_map]
  rfl
theorem fau_wo {R : Rw} {ms ns : List Int} {B B' : Nat → Nat → Bool} {i j : Nat} {k : Str} (h1 : ms.length < R.length) (hB : ∀ r t, r < R.length → t < wd R → kN ms r = true → kN ns t = true → B' (ps ms r) (ps ns t) = B r t) (hi : i < R.length) (hj : j < wd R) (ki : kN ms i = true) (kj : kN ns j = true) :
    fauL (woR R ms ns) B' (ps ms i) (ps ns j) k = ((fauL R B i j k).filter (st2 ms ns)).map (rn2 ms ns) := by
  unfold fauL
  rw [cross_wo h1 hB hi hj ki kj, col_wo hB hi hj ki kj, row_wo h1 hB hi hj ki kj, List.filter_append, List.filter_append, List.map_append, List.map_append, wrd_wo, wrd_wo, wrd_wo]
  congr 1
  · congr 1
    split <;> rfl
  · split <;> rfl
def partL (ms ns : List Int) (ys : List Pr) : List Pr := (ys.filter (stz ms ns)).map (nwP ms ns)
def stF (ms ns : List Int) (f : Pr × Str × Pr) : Bool := stz ms ns f.1 && stz ms ns f.2.2
def rnF (ms ns : List Int) (f : Pr × Str × Pr) : Pr × Str × Pr := (nwP ms ns f.1, f.2.1, nwP ms ns f.2.2)
section
variable {R : Rw} {ms ns : List Int}
theorem nw_inj {y z : Pr} (hy : y ∈ cells R) (sy : stz ms ns y = true) (hz : z ∈ cells R) (sz : stz ms ns z = true) (e : nwP ms ns y = nwP ms ns z) : y = z := by
  obtain ⟨i, j, rfl, hi, hj, _⟩ := cells_nat hy
  obtain ⟨a, b, rfl, ha, hb, _⟩ := cells_nat hz
  rw [stz_nat, Bool.and_eq_true] at sy sz
  rw [nwP_nat, nwP_nat] at e
  have e1 := (Prod.mk.inj e).1
  have e2 := (Prod.mk.inj e).2
  rw [ps_inj hi sy.1 ha sz.1 (by omega), ps_inj hj sy.2 hb sz.2 (by omega)]
theorem mem_part {L : List Pr} (sub : ∀ z, z ∈ L → z ∈ cells R) {z : Pr} (hz : z ∈ cells R) (sz : stz ms ns z = true) : nwP ms ns z ∈ partL ms ns L ↔ z ∈ L := by
  unfold partL
  rw [List.mem_map]
  constructor
  · rintro ⟨y, hy, e⟩
    obtain ⟨y1, y2⟩ := List.mem_filter.mp hy
    rw [← nw_inj (sub y y1) y2 hz sz e]
    exact y1
  · intro h
    exact ⟨z, List.mem_filter.mpr ⟨h, sz⟩, rfl⟩
theorem cells_part (h1 : ms.length < R.length) : cells (woR R ms ns) = partL ms ns (cells R) := cells_wo h1
theorem free_wo (h1 : ms.length < R.length) {L : List Pr} (sub : ∀ z, z ∈ L → z ∈ cells R) : ∀ r t, r < R.length → t < wd R → kN ms r = true → kN ns t = true → inB (freeL (woR R ms ns) (partL ms ns L)) (ps ms r) (ps ns t) = inB (freeL R L) r t := fun r t hr ht kr kt => by
  have sz : stz ms ns ((r : Int), (t : Int)) = true := by rw [stz_nat, kr, kt]; rfl
  refine decide_eq_decide.mpr ?_
  rw [free_mem, free_mem]
  by_cases c : ((r : Int), (t : Int)) ∈ cells R
  · have a := mem_part (ms := ms) (ns := ns) (L := cells R) (fun z h => h) c sz
    have b := mem_part (ms := ms) (ns := ns) sub c sz
    rw [nwP_nat] at a b
    rw [cells_part h1, a, b]
  · refine ⟨fun h => ?_, fun h => absurd h.1 c⟩
    exfalso
    have h := h.1
    rw [cells_part h1] at h
    obtain ⟨y, hy, e⟩ := List.mem_map.mp h
    obtain ⟨y1, y2⟩ := List.mem_filter.mp hy
    obtain ⟨a, b, rfl, ha, hb, _⟩ := cells_nat y1
    rw [stz_nat, Bool.and_eq_true] at y2
    rw [nwP_nat] at e
    have e1 := (Prod.mk.inj e).1
    have e2 := (Prod.mk.inj e).2
    rw [ps_inj ha y2.1 hr kr (by omega), ps_inj hb y2.2 ht kt (by omega)] at y1
    exact c y1
theorem allF_wo (h1 : ms.length < R.length) {ys : List Pr} {k : Str} (sub : ∀ z, z ∈ ys → z ∈ cells R) : ∀ n, n ≤ ys.length → allF (woR R ms ns) (partL ms ns ys) k (partL ms ns (ys.take n)).length = ((allF R ys k n).filter (stF ms ns)).map (rnF ms ns)
  | 0, _ => rfl
  | n + 1, h => by
    have ih := allF_wo h1 (k := k) sub n (by omega)
    have ez : ys[n]? = some (ys[n]'(by omega)) := List.getElem?_eq_getElem (by omega)
    obtain ⟨z, hz⟩ : ∃ z, z = ys[n]'(by omega) := ⟨_, rfl⟩
    rw [← hz] at ez
    have zc := sub z (List.mem_of_getElem? ez)
    have tk : ys.take (n + 1) = ys.take n ++ [z] := by rw [List.take_add_one, ez]; rfl
    have pt : partL ms ns (ys.take (n + 1)) = partL ms ns (ys.take n) ++ (if stz ms ns z = true then [nwP ms ns z] else []) := by
      rw [tk]
      unfold partL
      rw [List.filter_append, List.map_append]
      congr 1
      by_cases c : stz ms ns z = true
      · rw [if_pos c, List.filter_cons_of_pos c]; rfl
      · rw [if_neg c, List.filter_cons_of_neg c]; rfl
    rw [allF_more, List.filter_append, List.map_append, ← ih]
    have fR : fAt R ys k n = (fauL R (inB (freeL R (ys.take (n + 1)))) z.1.toNat z.2.toNat k).map fun f => (z, f) := by
      unfold fAt
      rw [ez]
    obtain ⟨i, j, rfl, hi, hj, hp⟩ := cells_nat zc
    by_cases c : stz ms ns ((i : Int), (j : Int)) = true
    · rw [if_pos c] at pt
      have whole : partL ms ns ys = partL ms ns (ys.take (n + 1)) ++ partL ms ns (ys.drop (n + 1)) := by
        unfold partL
        rw [← List.map_append, ← List.filter_append, List.take_append_drop]
      have at_ : (partL ms ns ys)[(partL ms ns (ys.take n)).length]? = some (nwP ms ns ((i : Int), (j : Int))) := by
        rw [whole, pt, List.append_assoc, List.getElem?_append_right (Nat.le_refl _), Nat.sub_self]
        rfl
      have tk2 : (partL ms ns ys).take ((partL ms ns (ys.take n)).length + 1) = partL ms ns (ys.take (n + 1)) := by
        have l : (partL ms ns (ys.take (n + 1))).length = (partL ms ns (ys.take n)).length + 1 := by rw [pt, List.length_append]; rfl
        rw [whole, ← l, List.take_left]
      rw [pt, List.length_append]
      show allF _ _ k ((partL ms ns (ys.take n)).length + 1) = _
      rw [allF_more]
      congr 1
      rw [fR]
      have fS : fAt (woR R ms ns) (partL ms ns ys) k (partL ms ns (ys.take n)).length = (fauL (woR R ms ns) (inB (freeL (woR R ms ns) (partL ms ns (ys.take (n + 1))))) (ps ms i) (ps ns j) k).map fun f => (((ps ms i : Int), (ps ns j : Int)), f) := by
        unfold fAt
        rw [at_, tk2]
        rfl
      rw [fS]
      have c2 := c
      rw [stz_nat, Bool.and_eq_true] at c2
      rw [fau_wo h1 (free_wo h1 fun z hz => sub z (List.mem_of_mem_take hz)) hi hj c2.1 c2.2]
      simp only [Int.toNat_natCast]
      rw [List.filter_map, List.map_map, List.map_map]
      have : (fauL R (inB (freeL R (ys.take (n + 1)))) i j k).filter (stF ms ns ∘ fun f => (((i : Int), (j : Int)), f)) = (fauL R (inB (freeL R (ys.take (n + 1)))) i j k).filter (st2 ms ns) := by
        congr 1
        funext f
        show (stz ms ns ((i : Int), (j : Int)) && stz ms ns f.2) = stz ms ns f.2
        rw [c, Bool.true_and]
      rw [this]
      rfl
    · rw [if_neg c, List.append_nil] at pt
      rw [pt, fR]
      have : ((fauL R (inB (freeL R (ys.take (n + 1)))) ((i : Int), (j : Int)).1.toNat ((i : Int), (j : Int)).2.toNat k).map fun f => (((i : Int), (j : Int)), f)).filter (stF ms ns) = [] := List.filter_eq_nil_iff.mpr fun f hf => by
        obtain ⟨g, _, rfl⟩ := List.mem_map.mp hf
        show ¬ (stz ms ns ((i : Int), (j : Int)) && stz ms ns g.2) = true
        rw [Bool.eq_false_iff.mpr c]
        simp
      rw [this]
      simp
theorem allF_wo' (h1 : ms.length < R.length) {ys : List Pr} {k : Str} (sub : ∀ z, z ∈ ys → z ∈ cells R) : allF (woR R ms ns) (partL ms ns ys) k (partL ms ns ys).length = ((allF R ys k ys.length).filter (stF ms ns)).map (rnF ms ns) := by
  have := allF_wo (ns := ns) h1 (k := k) sub ys.length (Nat.le_refl _)
  rwa [List.take_length] at this
theorem part_perm (h1 : ms.length < R.length) {ys : List Pr} (pm : ys.Perm (cells R)) : (partL ms ns ys).Perm (cells (woR R ms ns)) := by
  rw [cells_part h1]
  exact (pm.filter _).map _
theorem right_wo (h1 : ms.length < R.length) {ys : List Pr} {k : Str} (pm : ys.Perm (cells R)) (h : allF R ys k ys.length = []) : allF (woR R ms ns) (partL ms ns ys) k (partL ms ns ys).length = [] := by
  rw [allF_wo' h1 fun z hz => pm.mem_iff.mp hz, h]
  rfl
theorem full_wo (h1 : ms.length < R.length) {zs ws : List Pr} {k : Str} (gr : Grw R k zs) (e : freeL R zs = []) (mx : mayL (woR R ms ns) ws k = []) : freeL (woR R ms ns) ws = [] := by
  have pm := free_perm gr.nd gr.sub e
  exact right_full (part_perm h1 pm) (right_wo h1 pm (way_allF gr.way _)) mx
end
end Pk
set_option Elab.async false
set_option linter.all false
set_option maxRecDepth 100000
set_option maxHeartbeats 4000000
namespace Pk
open PySem L2
local macro_rules | `(tactic| walk_at "rd") => `(tactic| repeat (first
  | with_reducible refine r_seq ?_ | with_reducible refine r_nxt ?_ | with_reducible refine r_asg ?_ | with_reducible refine r_to ?_ | with_reducible refine r_ret ?_ | with_reducible refine r_for ?_ | with_reducible refine r_lc ?_ | with_reducible refine r_lc2 ?_ | with_reducible refine r_rng1 ?_ | with_reducible refine r_list ?_ | with_reducible refine r_tupI ?_ | with_reducible refine r_drop ?_ | with_reducible refine r_ifs ?_
  | with_reducible refine r_op ?_ | with_reducible refine r_c ?_ | with_reducible refine r_var rfl ?_ | with_reducible refine r_var (by assumption) ?_ | with_reducible refine r_I0 ?_ | with_reducible refine r_un ?_ | with_reducible refine r_U ?_ | with_reducible refine r_make ?_ | with_reducible refine r_makeS ?_ | with_reducible refine r_ifE ?_ | with_reducible refine r_cm ?_ | with_reducible refine r_mkV rfl ?_ | with_reducible refine r_sub ?_
  | with_reducible refine r_nil ?_ | with_reducible refine r_cons ?_ | with_reducible refine r_cb ?_ | with_reducible refine r_sl ?_ | with_reducible refine r_noP ?_ | with_reducible refine r_part ?_ | with_reducible refine r_isI ?_ | with_reducible refine r_lst ?_ | with_reducible refine r_tup ?_ | with_reducible refine r_call ?_ | with_reducible refine r_callS ?_ | with_reducible refine r_sFldU ?_ | with_reducible refine r_chain ?_ | with_reducible refine r_enum ?_ | with_reducible refine r_zip ?_ | with_reducible refine r_rng3 ?_ | with_reducible refine r_gtup ?_ | with_reducible refine r_methU ?_
  | with_reducible refine r_test ?_ | with_reducible refine r_B ?_ | with_reducible refine r_and ?_ | with_reducible refine r_or ?_ | with_reducible refine r_not ?_ | with_reducible refine r_andV ?_ | with_reducible refine r_orV ?_ | with_reducible refine r_notV ?_ | with_reducible refine r_bl ?_ | with_reducible refine r_yes ?_ | with_reducible refine r_int ?_ | with_reducible refine r_is0 ?_ | with_reducible refine r_is1 ?_ | with_reducible refine iteT ?_ | with_reducible refine iteF ?_ | with_reducible refine ite_nF ?_ | with_reducible refine ite_nT ?_
  | with_reducible refine r_mod (by decide) ?_ | with_reducible refine r_div (by decide) (by decide) ?_ | with_reducible refine r_mulR (by decide) (by decide) ?_ | with_reducible refine r_mulL (by decide) (by decide) ?_ | with_reducible refine r_pow (by decide) (by decide) (by decide) ?_))
/-! ### lots: what is enough stays enough, and the least ones -/
theorem nsub_len : ∀ {xs ys : List Nat}, xs.Nodup → (∀ z, z ∈ xs → z ∈ ys) → xs.length ≤ ys.length
  | [], _, _, _ => Nat.zero_le _
  | a :: xs, ys, nd, sub => by
    obtain ⟨n1, n2⟩ := List.nodup_cons.mp nd
    have m := sub a (List.mem_cons_self ..)
    have l := List.length_erase_of_mem m
    have := List.length_pos_of_mem m
    have := nsub_len (ys := ys.erase a) n2 fun z hz => (List.mem_erase_of_ne (show z ≠ a from fun e => n1 (e ▸ hz))).mpr (sub z (List.mem_cons_of_mem _ hz))
    rw [List.length_cons]
    omega
theorem asc_nd {l : List Nat} (h : l.Pairwise (· < ·)) : l.Nodup := h.imp fun h => Nat.ne_of_lt h
theorem asc_ext : ∀ {a b : List Nat}, a.Pairwise (· < ·) → b.Pairwise (· < ·) → (∀ k, k ∈ a ↔ k ∈ b) → a = b
  | [], [], _, _, _ => rfl
  | [], y :: b, _, _, h => by have := (h y).mpr (List.mem_cons_self ..); cases this
  | x :: a, [], _, _, h => by have := (h x).mp (List.mem_cons_self ..); cases this
  | x :: a, y :: b, ha, hb, h => by
    obtain ⟨a1, a2⟩ := List.pairwise_cons.mp ha
    obtain ⟨b1, b2⟩ := List.pairwise_cons.mp hb
    have e : x = y := by
      rcases List.mem_cons.mp ((h x).mp (List.mem_cons_self ..)) with e | m
      · exact e
      · rcases List.mem_cons.mp ((h y).mpr (List.mem_cons_self ..)) with e | m2
        · exact e.symm
        · have := b1 x m
          have := a1 y m2
          omega
    subst e
    congr 1
    refine asc_ext a2 b2 fun k => ⟨fun hk => ?_, fun hk => ?_⟩
    · rcases List.mem_cons.mp ((h k).mp (List.mem_cons_of_mem _ hk)) with e | m
      · have := a1 k hk; omega
      · exact m
    · rcases List.mem_cons.mp ((h k).mpr (List.mem_cons_of_mem _ hk)) with e | m
      · have := b1 k hk; omega
      · exact m
theorem num_len (m : Nat) (l : List Nat) : (numS m l).length + (numW m l).length = l.length := by
  unfold numS numW
  rw [List.length_map, List.length_map]
  induction l with
  | nil => rfl
  | cons a l ih =>
    by_cases c : a < m
    · rw [List.filter_cons_of_pos (by exact decide_eq_true c), List.filter_cons_of_neg (by simp; omega), List.length_cons, List.length_cons]; omega
    · rw [List.filter_cons_of_neg (by simp; omega), List.filter_cons_of_pos (by simp; omega), List.length_cons, List.length_cons]; omega
theorem leav_mono {m n : Nat} {l l' : List Nat} (nd : l.Nodup) (sub : ∀ k, k ∈ l → k ∈ l') (h : leavB m n l' = true) : leavB m n l = true := by
  obtain ⟨h1, h2⟩ := leav_lt h
  unfold leavB
  rw [Bool.and_eq_true, decide_eq_true_eq, decide_eq_true_eq]
  unfold numS at h1 ⊢
  unfold numW at h2 ⊢
  rw [List.length_map] at h1 h2 ⊢
  rw [List.length_map]
  refine ⟨Nat.lt_of_le_of_lt (nsub_len (nd.filter _) fun z hz => ?_) h1, Nat.lt_of_le_of_lt (nsub_len (nd.filter _) fun z hz => ?_) h2⟩
  · exact List.mem_filter.mpr ⟨sub z (List.mem_filter.mp hz).1, (List.mem_filter.mp hz).2⟩
  · exact List.mem_filter.mpr ⟨sub z (List.mem_filter.mp hz).1, (List.mem_filter.mp hz).2⟩
theorem num_sub {m : Nat} {l l' : List Nat} (sub : ∀ k, k ∈ l → k ∈ l') : (∀ i, i ∈ numS m l → i ∈ numS m l') ∧ ∀ i, i ∈ numW m l → i ∈ numW m l' := by
  constructor
  · intro i h
    obtain ⟨k, hk, rfl⟩ := List.mem_map.mp h
    exact List.mem_map.mpr ⟨k, List.mem_filter.mpr ⟨sub k (List.mem_filter.mp hk).1, (List.mem_filter.mp hk).2⟩, rfl⟩
  · intro i h
    obtain ⟨k, hk, rfl⟩ := List.mem_map.mp h
    exact List.mem_map.mpr ⟨k, List.mem_filter.mpr ⟨sub k (List.mem_filter.mp hk).1, (List.mem_filter.mp hk).2⟩, rfl⟩
def RtO (R : Rw) (k : Str) : Prop := ∃ ys : List Pr, ys.Perm (cells R) ∧ allF R ys k ys.length = []
theorem grow_max {R : Rw} (g : Gt R) (k : Str) : ∃ zs, Grw R k zs ∧ mayL R zs k = [] := by
  have gen : ∀ (n : Nat) (zs : List Pr), 65 ≤ n + zs.length → Grw R k zs → ∃ zs, Grw R k zs ∧ mayL R zs k = [] := by
    intro n
    induction n with
    | zero => intro zs h gr; have := gr.len g; omega
    | succ n ih =>
      intro zs h gr
      cases e : mayL R zs k with
      | nil => exact ⟨zs, gr, e⟩
      | cons z t => exact ih (zs ++ [z]) (by rw [List.length_append]; show 65 ≤ n + (zs.length + 1); omega) (gr.more (by rw [e]; rfl))
  exact gen 65 [] (by omega) (Grw.nil R k)
theorem hasO_iff {R : Rw} (g : Gt R) {k : Str} : hasO R k = true ↔ RtO R k := by
  unfold hasO
  rw [@decide_eq_true_iff _ (Classical.propDecidable _)]
  constructor
  · rintro ⟨zs, gr, _, e⟩
    exact ⟨zs, free_perm gr.nd gr.sub e, way_allF gr.way _⟩
  · rintro ⟨ys, pm, af⟩
    obtain ⟨zs, gr, mx⟩ := grow_max g k
    exact ⟨zs, gr, mx, right_full pm af mx⟩
theorem perm_lift {α β : Type} {f : α → β} : ∀ {ws : List β} {l : List α}, ws.Perm (l.map f) → ∃ us : List α, us.Perm l ∧ us.map f = ws
  | [], l, p => by
    have := p.length_eq
    rw [List.length_nil, List.length_map] at this
    rw [List.eq_nil_of_length_eq_zero this.symm]
    exact ⟨[], .nil, rfl⟩
  | w :: ws, l, p => by
    obtain ⟨z, hz, e⟩ := List.mem_map.mp (p.mem_iff.mp (List.mem_cons_self ..))
    obtain ⟨a, b, rfl⟩ := List.append_of_mem hz
    have q : (z :: (a ++ b)).Perm (a ++ z :: b) := List.perm_middle.symm
    have p2 : (w :: ws).Perm (f z :: (a ++ b).map f) := p.trans (q.symm.map f)
    rw [← e] at p2
    obtain ⟨us, p3, e3⟩ := perm_lift p2.cons_inv
    exact ⟨z :: us, (p3.cons z).trans q, by rw [List.map_cons, e3, e]⟩
theorem rt_wo {R : Rw} {ms ns : List Int} {k : Str} (h1 : ms.length < R.length) : RtO (woR R ms ns) k ↔ ∃ ys : List Pr, ys.Perm (cells R) ∧ (allF R ys k ys.length).filter (stF ms ns) = [] := by
  constructor
  · rintro ⟨ws, pm, af⟩
    rw [cells_wo h1] at pm
    obtain ⟨us, p1, e1⟩ := perm_lift pm
    have p2 : (us ++ (cells R).filter fun z => !stz ms ns z).Perm (cells R) := (p1.append_right _).trans (List.filter_append_perm _ _)
    refine ⟨_, p2, ?_⟩
    have ep : partL ms ns (us ++ (cells R).filter fun z => !stz ms ns z) = ws := by
      unfold partL
      have u1 : us.filter (stz ms ns) = us := List.filter_eq_self.mpr fun z hz => (List.mem_filter.mp (p1.mem_iff.mp hz)).2
      have u2 : ((cells R).filter fun z => !stz ms ns z).filter (stz ms ns) = [] := List.filter_eq_nil_iff.mpr fun z hz => by
        have := (List.mem_filter.mp hz).2
        simpa using this
      rw [List.filter_append, u1, u2, List.append_nil, e1]
    have := allF_wo' (ns := ns) h1 (k := k) fun z hz => p2.mem_iff.mp hz
    rw [ep, af] at this
    exact List.map_eq_nil_iff.mp this.symm
  · rintro ⟨ys, pm, e⟩
    refine ⟨partL ms ns ys, part_perm h1 pm, ?_⟩
    rw [allF_wo' h1 fun z hz => pm.mem_iff.mp hz, e]; rfl
theorem eno_iff {R : Rw} {kd : Str} {l : List Nat} (g : Gt R) (lv : leavB R.length (wd R) l = true) : enoB R kd l = true ↔ ∃ ys : List Pr, ys.Perm (cells R) ∧ (allF R ys kd ys.length).filter (stF (numS R.length l) (numW R.length l)) = [] := by
  obtain ⟨a, b⟩ := leav_lt lv
  unfold enoB
  rw [hasO_iff (woR_gt g a b), rt_wo a]
theorem stz_mono {ms ns ms' ns' : List Int} (s1 : ∀ i, i ∈ ms → i ∈ ms') (s2 : ∀ i, i ∈ ns → i ∈ ns') {z : Pr} (h : stz ms' ns' z = true) : stz ms ns z = true := by
  unfold stz at h ⊢
  rw [Bool.and_eq_true, Bool.not_eq_true', Bool.not_eq_true', decide_eq_false_iff_not, decide_eq_false_iff_not] at h ⊢
  exact ⟨fun q => h.1 (s1 _ q), fun q => h.2 (s2 _ q)⟩
noncomputable def EnL (R : Rw) (kd : Str) (l : List Nat) : Bool := leavB R.length (wd R) l && enoB R kd l
theorem en_mono {R : Rw} {kd : Str} {l l' : List Nat} (g : Gt R) (nd : l.Nodup) (sub : ∀ k, k ∈ l → k ∈ l') (lv : leavB R.length (wd R) l' = true) (h : EnL R kd l = true) : EnL R kd l' = true := by
  unfold EnL at h ⊢
  rw [Bool.and_eq_true] at h ⊢
  refine ⟨lv, (eno_iff g lv).mpr ?_⟩
  obtain ⟨ys, pm, e⟩ := (eno_iff g h.1).mp h.2
  refine ⟨ys, pm, List.filter_eq_nil_iff.mpr fun f hf q => ?_⟩
  obtain ⟨s1, s2⟩ := num_sub (m := R.length) sub
  unfold stF at q
  rw [Bool.and_eq_true] at q
  refine List.filter_eq_nil_iff.mp e f hf ?_
  unfold stF
  rw [Bool.and_eq_true]
  exact ⟨stz_mono s1 s2 q.1, stz_mono s1 s2 q.2⟩
def partsL (l : List Nat) : List (List Nat) := (List.range l.length).map fun i => l.eraseIdx i
noncomputable def minB (R : Rw) (kd : Str) (l : List Nat) : Bool := ((partsL l).filter (EnL R kd)).isEmpty && EnL R kd l
theorem asc_era {N : Nat} {l : List Nat} (h : Asc N l) (i : Nat) : Asc N (l.eraseIdx i) := ⟨h.lt.sublist (List.eraseIdx_sublist _ _), fun k hk => h.b k ((List.eraseIdx_sublist _ _).subset hk)⟩
theorem min_ex {R : Rw} {kd : Str} {N : Nat} : ∀ (n : Nat) (l : List Nat), l.length ≤ n → Asc N l → EnL R kd l = true → ∃ o, Asc N o ∧ (∀ k, k ∈ o → k ∈ l) ∧ o.length ≤ l.length ∧ minB R kd o = true := by
  intro n
  induction n with
  | zero =>
    intro l h a e
    have := List.eq_nil_of_length_eq_zero (Nat.le_zero.mp h)
    subst this
    exact ⟨[], a, fun k hk => hk, Nat.le_refl _, by unfold minB partsL; rw [e]; rfl⟩
  | succ n ih =>
    intro l h a e
    cases q : (partsL l).filter (EnL R kd) with
    | nil => exact ⟨l, a, fun k hk => hk, Nat.le_refl _, by unfold minB; rw [q, e]; rfl⟩
    | cons p t =>
      have hp : p ∈ (partsL l).filter (EnL R kd) := by rw [q]; exact List.mem_cons_self ..
      obtain ⟨h1, h2⟩ := List.mem_filter.mp hp
      obtain ⟨i, hi, rfl⟩ := List.mem_map.mp h1
      have hi := List.mem_range.mp hi
      have len := List.length_eraseIdx_of_lt hi
      obtain ⟨o, o1, o2, o3, o4⟩ := ih (l.eraseIdx i) (by omega) (asc_era a i) h2
      exact ⟨o, o1, fun k hk => (List.eraseIdx_sublist _ _).subset (o2 k hk), by omega, o4⟩
theorem lotsK_all {N : Nat} : ∀ (s : Nat) {l : List Nat}, Asc N l → l.length = s → l ∈ lotsK N s
  | 0, l, _, e => by rw [List.eq_nil_of_length_eq_zero e]; exact List.mem_singleton.mpr rfl
  | s + 1, l, a, e => by
    have ne : l ≠ [] := fun z => by rw [z] at e; cases e
    obtain ⟨l', k, rfl⟩ : ∃ l' k, l = l' ++ [k] := ⟨_, _, (List.dropLast_concat_getLast ne).symm⟩
    rw [List.length_append] at e
    obtain ⟨p1, _, p3⟩ := List.pairwise_append.mp a.lt
    have a' : Asc N l' := ⟨p1, fun x hx => a.b x (List.mem_append_left _ hx)⟩
    refine List.mem_flatMap.mpr ⟨l', lotsK_all s a' (by have : [k].length = 1 := rfl; omega), List.mem_map.mpr ⟨k, List.mem_filter.mpr ⟨List.mem_range.mpr (a.b k (by simp)), ?_⟩, rfl⟩⟩
    unfold ltB
    cases q : l'.getLast? with
    | none => rfl
    | some x =>
      obtain ⟨l2, e2⟩ := List.getLast?_eq_some_iff.mp q
      exact decide_eq_true (p3 x (by rw [e2]; simp) k (List.mem_singleton.mpr rfl))
theorem lotsK_nd (N : Nat) : ∀ s, (lotsK N s).Nodup
  | 0 => List.nodup_cons.mpr ⟨List.not_mem_nil, List.nodup_nil⟩
  | s + 1 => by
    show List.Pairwise _ (nextL N (lotsK N s))
    unfold nextL
    rw [List.pairwise_flatMap]
    refine ⟨fun l _ => ?_, (lotsK_nd N s).imp fun {a b} ne x hx y hy e => ?_⟩
    · rw [List.pairwise_map]
      exact (List.Pairwise.filter _ List.nodup_range).imp fun {a b} ne e => ne (by simpa using e)
    · obtain ⟨k, _, rfl⟩ := List.mem_map.mp hx
      obtain ⟨k2, _, rfl⟩ := List.mem_map.mp hy
      have := List.append_inj' e rfl
      exact ne this.1
theorem lotsU_lt (N s : Nat) : (lotsU N s).Pairwise fun a b => a ≠ b ∧ a.length ≤ b.length := by
  unfold lotsU
  rw [List.pairwise_flatMap]
  refine ⟨fun i _ => ?_, List.pairwise_lt_range.imp fun {a b} lt x hx y hy => ?_⟩
  · exact (lotsK_nd N i).imp_of_mem fun {a b} ha hb ne => ⟨ne, by rw [(lotsK_asc ha).2, (lotsK_asc hb).2]; exact Nat.le_refl _⟩
  · have l1 := (lotsK_asc hx).2
    have l2 := (lotsK_asc hy).2
    exact ⟨fun e => by rw [e] at l1; omega, by omega⟩
theorem cont_iff {R : Rw} {kd : Str} (g : Gt R) {pre post : List (List Nat)} {l : List Nat} (e : pre ++ l :: post = lotsU (R.length + wd R) (R.length + wd R + 1)) (en : EnL R kd l = true) : contB l (pre.filter (minB R kd)) = !((partsL l).filter (EnL R kd)).isEmpty := by
  have pw := lotsU_lt (R.length + wd R) (R.length + wd R + 1)
  rw [← e] at pw
  obtain ⟨p1, p2, p3⟩ := List.pairwise_append.mp pw
  obtain ⟨p4, _⟩ := List.pairwise_cons.mp p2
  have al : Asc (R.length + wd R) l := lotsU_mem (s := R.length + wd R + 1) (by rw [← e]; simp)
  have lv : leavB R.length (wd R) l = true := by unfold EnL at en; rw [Bool.and_eq_true] at en; exact en.1
  rw [Bool.eq_iff_iff, Bool.not_eq_true', ← Bool.not_eq_true, List.isEmpty_iff]
  constructor
  · intro h
    unfold contB at h
    obtain ⟨o, ho, h2⟩ := List.any_eq_true.mp h
    have h2 : ∀ k, k ∈ o → k ∈ l := fun k hk => of_decide_eq_true (List.all_eq_true.mp h2 k hk)
    obtain ⟨o1, o2⟩ := List.mem_filter.mp ho
    have ao : Asc (R.length + wd R) o := lotsU_mem (s := R.length + wd R + 1) (by rw [← e]; exact List.mem_append_left _ o1)
    have ne : o ≠ l := (p3 o o1 l (List.mem_cons_self ..)).1
    have eo : EnL R kd o = true := by unfold minB at o2; rw [Bool.and_eq_true] at o2; exact o2.2
    obtain ⟨k, kl, ko⟩ : ∃ k, k ∈ l ∧ k ∉ o := by
      apply Classical.byContradiction
      intro q
      refine ne (asc_ext ao.lt al.lt fun k => ⟨h2 k, fun hk => ?_⟩)
      apply Classical.byContradiction
      exact fun z => q ⟨k, hk, z⟩
    obtain ⟨i, hi, ek⟩ := List.getElem_of_mem kl
    intro q
    have hp : l.eraseIdx i ∈ partsL l := List.mem_map.mpr ⟨i, List.mem_range.mpr hi, rfl⟩
    have ae := asc_era al i
    refine List.filter_eq_nil_iff.mp q _ hp (en_mono g (asc_nd ao.lt) (fun z hz => ?_) (leav_mono (asc_nd ae.lt) (fun z hz => (List.eraseIdx_sublist _ _).subset hz) lv) eo)
    obtain ⟨j, hj, ez⟩ := List.getElem_of_mem (h2 z hz)
    have ne2 : j ≠ i := fun q => by subst q; exact ko (by rw [← ek, ez]; exact hz)
    exact List.mem_eraseIdx_iff_getElem.mpr ⟨j, hj, ne2, ez⟩
  · intro h
    obtain ⟨p, hp⟩ : ∃ p, p ∈ (partsL l).filter (EnL R kd) := List.exists_mem_of_ne_nil _ h
    obtain ⟨h1, h2⟩ := List.mem_filter.mp hp
    obtain ⟨i, hi, rfl⟩ := List.mem_map.mp h1
    have hi := List.mem_range.mp hi
    have len := List.length_eraseIdx_of_lt hi
    obtain ⟨o, o1, o2, o3, o4⟩ := min_ex _ _ (Nat.le_refl _) (asc_era al i) h2
    have om : o ∈ pre ++ l :: post := by
      rw [e]
      have := o1.len
      exact List.mem_flatMap.mpr ⟨o.length, List.mem_range.mpr (by omega), lotsK_all _ o1 rfl⟩
    have opre : o ∈ pre := by
      rcases List.mem_append.mp om with q | q
      · exact q
      · rcases List.mem_cons.mp q with q | q
        · rw [q] at o3; omega
        · have := (p4 o q).2; omega
    unfold contB
    exact List.any_eq_true.mpr ⟨o, List.mem_filter.mpr ⟨opre, o4⟩, List.all_eq_true.mpr fun k hk => decide_eq_true ((List.eraseIdx_sublist _ _).subset (o2 k hk))⟩
theorem step_min {R : Rw} {kd : Str} (g : Gt R) {pre post : List (List Nat)} {l : List Nat} (e : pre ++ l :: post = lotsU (R.length + wd R) (R.length + wd R + 1)) : stepF R kd (pre.filter (minB R kd)) l = (pre ++ [l]).filter (minB R kd) := by
  have key : (leavB R.length (wd R) l && (!contB l (pre.filter (minB R kd)) && enoB R kd l)) = minB R kd l := by
    cases en : EnL R kd l with
    | false =>
      unfold minB
      rw [en, Bool.and_false]
      unfold EnL at en
      rw [Bool.and_eq_false_iff] at en
      rcases en with h | h
      · rw [h]; rfl
      · rw [h, Bool.and_false, Bool.and_false]
    | true =>
      rw [cont_iff g e en]
      unfold minB
      rw [en, Bool.and_true, Bool.not_not]
      unfold EnL at en
      rw [Bool.and_eq_true] at en
      rw [en.1, en.2, Bool.true_and, Bool.and_true]
  unfold stepF
  rw [key, List.filter_append]
  by_cases c : minB R kd l = true
  · rw [if_pos c, List.filter_cons_of_pos c]; rfl
  · rw [if_neg c, List.filter_cons_of_neg c]; simp
theorem fold_min {R : Rw} {kd : Str} (g : Gt R) : ∀ (post pre : List (List Nat)), pre ++ post = lotsU (R.length + wd R) (R.length + wd R + 1) → post.foldl (stepF R kd) (pre.filter (minB R kd)) = (pre ++ post).filter (minB R kd)
  | [], pre, _ => by rw [List.append_nil]; rfl
  | l :: post, pre, e => by
    rw [List.foldl_cons, step_min g e, fold_min g post (pre ++ [l]) (by rw [List.append_assoc]; exact e), List.append_assoc]; rfl
theorem leave_min {R : Rw} {kd : Str} (g : Gt R) : leaveL R kd = (List.range (R.length + wd R - 1)).flatMap fun s => (lotsK (R.length + wd R) s).filter (minB R kd) := by
  have e := fold_min (kd := kd) g (lotsU (R.length + wd R) (R.length + wd R + 1)) [] rfl
  rw [List.nil_append] at e
  have e2 : leaveL R kd = (lotsU (R.length + wd R) (R.length + wd R + 1)).filter (minB R kd) := e
  have big : ∀ s, R.length + wd R - 1 ≤ s → (lotsK (R.length + wd R) s).filter (minB R kd) = [] := fun s hs => List.filter_eq_nil_iff.mpr fun l hl q => by
    unfold minB EnL at q
    rw [Bool.and_eq_true, Bool.and_eq_true] at q
    obtain ⟨a, b⟩ := leav_lt q.2.1
    have := num_len R.length l
    have := (lotsK_asc hl).2
    omega
  have g0 := g.h0
  have w0 := g.w0
  obtain ⟨n, en⟩ : ∃ n, R.length + wd R = n + 1 := ⟨R.length + wd R - 1, by omega⟩
  rw [e2, en, lotsU_more, lotsU_more, List.filter_append, List.filter_append]
  rw [en] at big
  rw [big n (by omega), big (n + 1) (by omega), List.append_nil, List.append_nil]
  show (lotsU (n + 1) n).filter _ = _
  unfold lotsU
  rw [List.filter_flatMap]
  rfl
end Pk
set_option Elab.async false
set_option linter.all false
set_option maxRecDepth 100000
set_option maxHeartbeats 4000000
namespace Pk
open PySem L2
local macro_rules | `(tactic| walk_at "rd") => `(tactic| repeat (first
  | with_reducible refine r_seq ?_ | with_reducible refine r_nxt ?_ | with_reducible refine r_asg ?_ | with_reducible refine r_to ?_ | with_reducible refine r_ret ?_ | with_reducible refine r_for ?_ | with_reducible refine r_lc ?_ | with_reducible refine r_lc2 ?_ | with_reducible refine r_rng1 ?_ | with_reducible refine r_list ?_ | with_reducible refine r_tupI ?_ | with_reducible refine r_drop ?_ | with_reducible refine r_ifs ?_
  | with_reducible refine r_op ?_ | with_reducible refine r_c ?_ | with_reducible refine r_var rfl ?_ | with_reducible refine r_var (by assumption) ?_ | with_reducible refine r_I0 ?_ | with_reducible refine r_un ?_ | with_reducible refine r_U ?_ | with_reducible refine r_make ?_ | with_reducible refine r_makeS ?_ | with_reducible refine r_ifE ?_ | with_reducible refine r_cm ?_ | with_reducible refine r_mkV rfl ?_ | with_reducible refine r_sub ?_
  | with_reducible refine r_nil ?_ | with_reducible refine r_cons ?_ | with_reducible refine r_cb ?_ | with_reducible refine r_sl ?_ | with_reducible refine r_noP ?_ | with_reducible refine r_part ?_ | with_reducible refine r_isI ?_ | with_reducible refine r_lst ?_ | with_reducible refine r_tup ?_ | with_reducible refine r_call ?_ | with_reducible refine r_callS ?_ | with_reducible refine r_sFldU ?_ | with_reducible refine r_chain ?_ | with_reducible refine r_enum ?_ | with_reducible refine r_zip ?_ | with_reducible refine r_rng3 ?_ | with_reducible refine r_gtup ?_ | with_reducible refine r_methU ?_
  | with_reducible refine r_test ?_ | with_reducible refine r_B ?_ | with_reducible refine r_and ?_ | with_reducible refine r_or ?_ | with_reducible refine r_not ?_ | with_reducible refine r_andV ?_ | with_reducible refine r_orV ?_ | with_reducible refine r_notV ?_ | with_reducible refine r_bl ?_ | with_reducible refine r_yes ?_ | with_reducible refine r_int ?_ | with_reducible refine r_is0 ?_ | with_reducible refine r_is1 ?_ | with_reducible refine iteT ?_ | with_reducible refine iteF ?_ | with_reducible refine ite_nF ?_ | with_reducible refine ite_nT ?_
  | with_reducible refine r_mod (by decide) ?_ | with_reducible refine r_div (by decide) (by decide) ?_ | with_reducible refine r_mulR (by decide) (by decide) ?_ | with_reducible refine r_mulL (by decide) (by decide) ?_ | with_reducible refine r_pow (by decide) (by decide) (by decide) ?_))
/-! ### what a lot leaves of a grid -/
theorem op_ninD {X : Cx} (hu : X.A.units + 64 < cLine) : OpR X (compareOp .NotIn) (rInD X.K true) := by
  intro pins s σ H x y v u Q I rx ry h
  obtain ⟨d, ds, hd, he, pd, sm, q⟩ := h
  obtain ⟨as, r1⟩ := Dp.reads I _ x v hd rx
  obtain ⟨bs, r2⟩ := Dp.reads I _ y u he ry
  have h1 := sm.deep
  exact SeqAt.notIn_list_data r2 r1 sm.plain pd (by omega) ⟨.bl _, H, I, rfl, q⟩
theorem memS {m i : Nat} (hi : i < m) (l : List Nat) : ((i : Int) ∈ numS m l) ↔ i ∈ l := by
  unfold numS
  rw [List.mem_map]
  constructor
  · rintro ⟨k, hk, e⟩
    have : k = i := by omega
    rw [← this]
    exact (List.mem_filter.mp hk).1
  · intro h
    exact ⟨i, List.mem_filter.mpr ⟨h, decide_eq_true hi⟩, rfl⟩
theorem memW {m j : Nat} (l : List Nat) : ((j : Int) ∈ numW m l) ↔ m + j ∈ l := by
  unfold numW
  rw [List.mem_map]
  constructor
  · rintro ⟨k, hk, e⟩
    obtain ⟨h1, h2⟩ := List.mem_filter.mp hk
    have := of_decide_eq_true h2
    have : k = m + j := by omega
    rw [← this]; exact h1
  · intro h
    exact ⟨m + j, List.mem_filter.mpr ⟨h, decide_eq_true (by omega)⟩, by rw [Nat.add_sub_cancel_left]⟩
theorem lneS {m i : Nat} (hi : i < m) : lneD m i = .tuple [.str "stock", .int (i : Int)] := by unfold lneD lwd lno; rw [if_pos hi, if_pos hi]
theorem lneW (m j : Nat) : lneD m (m + j) = .tuple [.str "wish", .int (j : Int)] := by unfold lneD lwd lno; rw [if_neg (by omega), if_neg (by omega), Nat.add_sub_cancel_left]
def spRest (K : PySem.W.Frag) : Sp := fun vs H Q _ => ∃ (ra a : Addr) (es us : List V) (R : Rw) (l : List Nat), vs = [.ref ra, .ref a] ∧ RS K H ra es R ∧ Gt R ∧ H a = some (.lst us) ∧ LnsAt R.length H us l ∧ ∀ (r : Addr) (H' : Hp), H r = none → RowsAt H r (woR R (numS R.length l) (numW R.length l)) (woR R (numS R.length l) (numW R.length l)).length H' → Q (.ref r) H'
abbrev slRest : Stmt := top 64
section
variable {P : Program} {w : World} {K : PySem.W.Frag} {mg : Str → Option Value} {base : Heap} {f : Addr} {fd : FuncData}
theorem sclRest : FnScope ["_law_grid_here", "_law_lot", "_law_rest_here", "_law_i", "_law_row", "_law_j"] ["_law_grid_here", "_law_lot"] (defScope slRest) := ⟨rfl, rfl, rfl, by decide +kernel, rfl, by decide +kernel, by decide +kernel⟩
theorem ok_rest (F : Fun K "_law_rest" "_law_rest" slRest f fd) (T : Bt mg) : FnOk P w K mg base CX0 1 f fd ["_law_grid_here", "_law_lot"] (spRest K) := by
  refine F.ok sclRest (fun vs H Q E h => ?_) (fun cdv A outer s H vs Q E hr h => ?_)
  · obtain ⟨ra, a, es, us, R, l, rfl, _⟩ := h
    rfl
  · obtain ⟨ra, a, es, us, R, l, rfl, rs, g, ha, hu, kk⟩ := h
    have h8 := g.h8
    have w8 := g.w8
    have rl := rs.len
    refine ⟨_, (pss_cons (ps_set (i := 2) sclRest.nd rfl (Or.inl rfl) (pe_lst pa_nil))
  (pss_cons (ps_for PassesOwn.never rfl (pi_enum (by rfl) T.enumerate (pa_cons (pv 0) pa_nil)) (pg_tup (by rfl) (pgs_cons (pg_name (i := 3) sclRest.nd rfl (Or.inl rfl)) (pgs_cons (pg_name (i := 4) sclRest.nd rfl (Or.inr rfl)) pgs_nil))) (pss_one (ps_if (pt_cmpR (op_ninD hr.units) (pe_tup (pa_cons pe_str (pa_cons (pv 3) pa_nil))) (pv 1) (by rfl)) (pss_one (ps_expr (pe_bm PySem.F.plainAttrs_list PySem.F.slot_list_append PySem.F.type_list_append mt_append (pv 2) (pa_cons (pe_lc (own := [("_law_j", 5)]) (g := gName 5) (tt := tTest (tOp (rInD K true) (tTup (tCons (tC (.str "wish")) (tCons (tVar 5) tNil))) (tVar 1))) (te := tOp (rIxL K) (tVar 4) (tVar 5)) rfl sclRest.nd (pi_range1 rfl T.range (pa_cons (pe_callB cl_len (by rfl) T.len (by decide +kernel) (pa_cons (pv 4) pa_nil)) pa_nil)) (blkOk_by (own := [("_law_j", 5)]) (N := ["_law_grid_here", "_law_lot", "_law_rest_here", "_law_i", "_law_row", "_law_j"]) (sc := defScope slRest) (by decide +kernel)) (fun _ _ _ _ _ => pg_name (i := 5) sclRest.nd rfl (Or.inl rfl)) (fun _ _ _ _ _ => pts_one (pt_cmpR (op_ninD hr.units) (pe_tup (pa_cons pe_str (pa_cons (pv 5) pa_nil))) (pv 1) (by rfl))) (fun _ _ _ _ _ => (pe_ix ix_list (pv 4) (pv 5) (fun _ _ => rfl)))) pa_nil)))) pss_nil)))
  (pss_one (ps_ret (pv 2))))), ?_⟩
    obtain ⟨ms, ems⟩ : ∃ ms, ms = numS R.length l := ⟨_, rfl⟩
    obtain ⟨ns, ens⟩ : ∃ ns, ns = numW R.length l := ⟨_, rfl⟩
    rw [← ems, ← ens] at kk
    walk_at "rd"
    refine ⟨Nat.zero_le _, fun D nD => ?_⟩
    walk_at "rd"
    refine ⟨ra, es, rfl, (rs.same (Same.up (Same.refl H) nD)).at_, for_it walk_enum (fun m σ H' => ∃ v3 v4 v5, σ = [some (.ref ra), some (.ref a), some (.ref D), v3, v4, v5] ∧ RowsAt H D (woP R ms ns m) (woP R ms ns m).length H') ⟨_, _, _, rfl, RowsAt.start nD⟩ (fun m σ H' _ z => by obtain ⟨_, _, _, _, z, _⟩ := z; exact (rs.same z).at_) ?_ ?_⟩
    · rintro i y σ H2 H3 hi ⟨v3, v4, v5, rfl, r2⟩ ⟨t, i', y', rfl, ht, rfl, e1, e2⟩
      cases (Option.some.inj e1)
      have e2 : es[i]? = some y' := e2
      obtain ⟨b, rfl, hb⟩ := rs.row i _ e2
      have hi' : i < R.length := by rw [← rl]; exact (List.getElem?_eq_some_iff.mp e2).1
      refine r_gtup ⟨t, _, rfl, SqT.of upd_same, rfl, _, _, rfl, ?_⟩
      have s3' := Same.up (o := .tup [V.int (i : Int), V.ref b]) (Same.refl H2) ht
      have s3 := r2.1.trans s3'
      obtain ⟨H3, eH3⟩ : ∃ H3, H3 = upd H2 t (.tup [V.int (i : Int), V.ref b]) := ⟨_, rfl⟩
      rw [← eH3] at s3 s3' ⊢
      walk_at "rd"
      refine ⟨_, _, rfl, ?_⟩
      walk_at "rd"
      refine ⟨rfl, ?_⟩
      walk_at "rd"
      refine ⟨by show 2 ≤ sizeLine; decide, fun t1 n1 => ?_⟩
      have s4' := Same.up (o := .tup [V.str "stock", V.int (i : Int)]) (Same.refl H3) n1
      have ht1 : upd H3 t1 (.tup [V.str "stock", V.int (i : Int)]) t1 = some (.tup [V.str "stock", V.int (i : Int)]) := upd_same
      obtain ⟨H4, eH4⟩ : ∃ H4, H4 = upd H3 t1 (.tup [V.str "stock", V.int (i : Int)]) := ⟨_, rfl⟩
      rw [← eH4] at s4' ht1 ⊢
      have s24 := s3'.trans s4'
      have s4 := s3.trans s4'
      walk_at "rd"
      refine ⟨lneD R.length i, l.map (lneD R.length), by rw [lneS hi']; exact .tup (SqT.of ht1) (.cons (.str _) (.cons (.int _) .nil)), .lst (SqL.of (s4 _ _ ha)) (hu.same s4).dp, by simp [lneD, PyData.plain, PyData.plainAll], ⟨plain_lnes _ l, deep_lnes _ l⟩, ?_⟩
      rw [if_pos rfl, any_lnes]
      refine ⟨_, rfl, ?_⟩
      by_cases c : i ∈ l
      · refine ifF (by rw [decide_eq_true c]; rfl) ?_
        have e : woP R ms ns (i + 1) = woP R ms ns i := by unfold woP; rw [kp_in (by rw [ems]; exact (memS hi' l).mpr c)]
        refine ⟨_, _, _, rfl, ?_⟩
        rw [e]
        exact r2.same s24
      · refine ifT (by rw [decide_eq_false c]; rfl) ?_
        have e : woP R ms ns (i + 1) = woP R ms ns i ++ [woRow R ns i (wd R)] := by unfold woP; rw [kp_out (by rw [ems]; exact fun z => c ((memS hi' l).mp z)), List.map_append]; rfl
        obtain ⟨_, fs, hDf, _⟩ := id (r2.same s24)
        walk_at "rd"
        refine r_bm ?_
        walk_at "rd"
        refine ⟨.inl ⟨rfl, _, SqL.of hDf⟩, ?_⟩
        walk_at "rd"
        refine r_lenL (s4.seq hb) ?_
        have rowl : ((R.getD i []).map pV).length = wd R := by rw [List.length_map, g.getD hi', g.len hi']
        rw [rowl]
        walk_at "rd"
        refine ⟨((wd R : Nat) : Int), rfl, by omega, by omega, fun D2 nD2 => lc_it walk_range (fun j H' => Same H4 H' ∧ H' D2 = some (.lst ((woRow R ns i j).map pV))) ⟨Same.up (Same.refl H4) nD2, upd_same⟩ (fun _ _ _ _ => trivial) ?_ ?_⟩
        · rintro j y H50 H5 hj ⟨s5, hD5⟩ ⟨rfl, rfl⟩
          have hj : j < wd R := by simpa using hj
          have e0 : (0 : Int) + (j : Int) = (j : Int) := by omega
          simp only [e0]
          walk_at "rd"
          refine ⟨rfl, ?_⟩
          walk_at "rd"
          refine ⟨by show 2 ≤ sizeLine; decide, fun t2 n2 => ?_⟩
          have s6' := Same.up (o := .tup [V.str "wish", V.int (j : Int)]) (Same.refl H5) n2
          have ht2 : upd H5 t2 (.tup [V.str "wish", V.int (j : Int)]) t2 = some (.tup [V.str "wish", V.int (j : Int)]) := upd_same
          obtain ⟨H6, eH6⟩ : ∃ H6, H6 = upd H5 t2 (.tup [V.str "wish", V.int (j : Int)]) := ⟨_, rfl⟩
          rw [← eH6] at s6' ht2 ⊢
          have s6 := s5.trans s6'
          have hD6 := s6' _ _ hD5
          walk_at "rd"
          refine ⟨lneD R.length (R.length + j), l.map (lneD R.length), by rw [lneW]; exact .tup (SqT.of ht2) (.cons (.str _) (.cons (.int _) .nil)), .lst (SqL.of (s6 _ _ (s4 _ _ ha))) (hu.same (s4.trans s6)).dp, by simp [lneD, PyData.plain, PyData.plainAll], ⟨plain_lnes _ l, deep_lnes _ l⟩, ?_⟩
          rw [if_pos rfl, any_lnes]
          refine ⟨_, rfl, ?_⟩
          by_cases c2 : R.length + j ∈ l
          · refine ifF (by rw [decide_eq_true c2]; rfl) ?_
            refine ⟨s6, ?_⟩
            rw [hD6]
            unfold woRow
            rw [kp_in (by rw [ens]; exact (memW l).mpr c2)]
          · refine ifT (by rw [decide_eq_false c2]; rfl) ?_
            walk_at "rd"
            refine r_ixL (s6.seq (s4.seq hb)) (atI_nat (prc_get g hi' hj)) ?_
            refine ⟨_, hD6, Nat.lt_of_le_of_lt (show _ ≤ 8 from by rw [List.length_map]; unfold woRow; rw [List.length_map]; have := kp_le ns j; omega) (by decide), Same.upOff s6 nD2, ?_⟩
            rw [upd_same]
            unfold woRow
            rw [kp_out (by rw [ens]; exact fun z => c2 ((memW l).mp z)), List.map_append, List.map_append]; rfl
        · rintro H5 ⟨s5, hD5⟩
          rw [Int.toNat_natCast] at hD5
          walk_at "rd"
          have wl : (woP R ms ns i).length < 9 := by
            unfold woP
            rw [List.length_map]
            have := kp_le ms i
            omega
          obtain ⟨acc, hacc, lacc, r5⟩ := (r2.same s24).snoc nD s5 wl nD2 hD5
          refine ⟨D, acc, _, rfl, rfl, hacc, lacc, ?_⟩
          refine ⟨_, _, _, rfl, ?_⟩
          rw [e]
          exact r5
    · rintro σ H2 ⟨v3, v4, v5, rfl, r2⟩
      rw [rl] at r2
      walk_at "rd"
      exact kk D H2 nD r2
end
end Pk
set_option Elab.async false
set_option linter.all false
set_option maxRecDepth 100000
set_option maxHeartbeats 4000000
namespace Pk
open PySem L2
local macro_rules | `(tactic| walk_at "rd") => `(tactic| repeat (first
  | with_reducible refine r_seq ?_ | with_reducible refine r_nxt ?_ | with_reducible refine r_asg ?_ | with_reducible refine r_to ?_ | with_reducible refine r_ret ?_ | with_reducible refine r_for ?_ | with_reducible refine r_lc ?_ | with_reducible refine r_lc2 ?_ | with_reducible refine r_rng1 ?_ | with_reducible refine r_list ?_ | with_reducible refine r_tupI ?_ | with_reducible refine r_drop ?_ | with_reducible refine r_ifs ?_
  | with_reducible refine r_op ?_ | with_reducible refine r_c ?_ | with_reducible refine r_var rfl ?_ | with_reducible refine r_var (by assumption) ?_ | with_reducible refine r_I0 ?_ | with_reducible refine r_un ?_ | with_reducible refine r_U ?_ | with_reducible refine r_make ?_ | with_reducible refine r_makeS ?_ | with_reducible refine r_ifE ?_ | with_reducible refine r_cm ?_ | with_reducible refine r_mkV rfl ?_ | with_reducible refine r_sub ?_
  | with_reducible refine r_nil ?_ | with_reducible refine r_cons ?_ | with_reducible refine r_cb ?_ | with_reducible refine r_sl ?_ | with_reducible refine r_noP ?_ | with_reducible refine r_part ?_ | with_reducible refine r_isI ?_ | with_reducible refine r_lst ?_ | with_reducible refine r_tup ?_ | with_reducible refine r_call ?_ | with_reducible refine r_callS ?_ | with_reducible refine r_sFldU ?_ | with_reducible refine r_chain ?_ | with_reducible refine r_enum ?_ | with_reducible refine r_zip ?_ | with_reducible refine r_rng3 ?_ | with_reducible refine r_gtup ?_ | with_reducible refine r_methU ?_
  | with_reducible refine r_test ?_ | with_reducible refine r_B ?_ | with_reducible refine r_and ?_ | with_reducible refine r_or ?_ | with_reducible refine r_not ?_ | with_reducible refine r_andV ?_ | with_reducible refine r_orV ?_ | with_reducible refine r_notV ?_ | with_reducible refine r_bl ?_ | with_reducible refine r_yes ?_ | with_reducible refine r_int ?_ | with_reducible refine r_is0 ?_ | with_reducible refine r_is1 ?_ | with_reducible refine iteT ?_ | with_reducible refine iteF ?_ | with_reducible refine ite_nF ?_ | with_reducible refine ite_nT ?_
  | with_reducible refine r_mod (by decide) ?_ | with_reducible refine r_div (by decide) (by decide) ?_ | with_reducible refine r_mulR (by decide) (by decide) ?_ | with_reducible refine r_mulL (by decide) (by decide) ?_ | with_reducible refine r_pow (by decide) (by decide) (by decide) ?_))
/-! ### whether a lot is enough, by a walk -/
theorem may_open {R : Rw} {kd : Str} {zs : List Pr} (h : openL R kd zs = []) : mayL R zs kd = [] := by
  refine List.eq_nil_iff_forall_not_mem.mpr fun z hz => ?_
  obtain ⟨h1, h2⟩ := may_mem.mp hz
  obtain ⟨zc, zn⟩ := free_mem.mp h1
  obtain ⟨i, j, rfl, hi, hj, _⟩ := cells_nat zc
  simp only [Int.toNat_natCast] at h2
  refine List.filter_eq_nil_iff.mp h _ zc ?_
  unfold openB
  rw [Bool.and_eq_true, Bool.not_eq_true', decide_eq_false_iff_not]
  simp only [Int.toNat_natCast]
  exact ⟨zn, metD_iff.mpr ((met_fau hi hj kd).mpr h2)⟩
theorem kpS_none {N m : Nat} {l : List Nat} (a : Asc N l) (h : ¬ (numS m l).length < m) : kp (numS m l) m = [] := by
  refine List.filter_eq_nil_iff.mpr fun i hi => ?_
  have hi := List.mem_range.mp hi
  rw [Bool.not_eq_true', Bool.not_eq_false, decide_eq_true_eq, memS hi]
  apply Classical.byContradiction
  intro c
  have := nsub_len (ys := (List.range m).erase i) ((asc_nd a.lt).filter fun k => decide (k < m)) fun z hz => by
    obtain ⟨h1, h2⟩ := List.mem_filter.mp hz
    exact (List.mem_erase_of_ne (show z ≠ i from fun e => c (e ▸ h1))).mpr (List.mem_range.mpr (of_decide_eq_true h2))
  rw [List.length_erase_of_mem (List.mem_range.mpr hi), List.length_range] at this
  unfold numS at h
  rw [List.length_map] at h
  omega
theorem kpW_none {m n : Nat} {l : List Nat} (a : Asc (m + n) l) (h : ¬ (numW m l).length < n) : kp (numW m l) n = [] := by
  refine List.filter_eq_nil_iff.mpr fun j hj => ?_
  have hj := List.mem_range.mp hj
  rw [Bool.not_eq_true', Bool.not_eq_false, decide_eq_true_eq, memW]
  apply Classical.byContradiction
  intro c
  have pw : ((l.filter fun k => decide (m ≤ k)).map fun k => k - m).Pairwise (· < ·) := by
    rw [List.pairwise_map]
    refine (a.lt.filter fun k => decide (m ≤ k)).imp_of_mem fun {x y} hx hy h => ?_
    have := of_decide_eq_true (List.mem_filter.mp hx).2
    omega
  have := nsub_len (ys := (List.range n).erase j) (asc_nd pw) fun z hz => by
    obtain ⟨k, hk, rfl⟩ := List.mem_map.mp hz
    obtain ⟨h1, h2⟩ := List.mem_filter.mp hk
    have h2 := of_decide_eq_true h2
    have := a.b k h1
    exact (List.mem_erase_of_ne (show k - m ≠ j from fun e => c (by rw [← e, show m + (k - m) = k by omega]; exact h1))).mpr (List.mem_range.mpr (by omega))
  rw [List.length_erase_of_mem (List.mem_range.mpr hj), List.length_range, List.length_map] at this
  unfold numW at h
  rw [List.length_map] at h
  omega
def spEno (K : PySem.W.Frag) : Sp := fun vs H Q _ => ∃ (ra a : Addr) (es us : List V) (R : Rw) (l : List Nat) (kd : Str), vs = [.ref ra, .ref a, .str kd] ∧ RS K H ra es R ∧ Gt R ∧ (cells R).length ≤ 16 ∧ H a = some (.lst us) ∧ LnsAt R.length H us l ∧ Asc (R.length + wd R) l ∧ ∀ H' : Hp, Same H H' → Q (.bl (EnL R kd l)) H'
abbrev slEno : Stmt := top 65
section
variable {P : Program} {w : World} {K : PySem.W.Frag} {mg : Str → Option Value} {base : Heap} {f : Addr} {fd : FuncData}
theorem sclEno : FnScope ["_law_grid_here", "_law_lot", "_law_sort", "_law_rest_here"] ["_law_grid_here", "_law_lot", "_law_sort"] (defScope slEno) := ⟨rfl, rfl, rfl, by decide +kernel, rfl, by decide +kernel, by decide +kernel⟩
theorem ok_eno (F : Fun K "_law_is_enough" "_law_is_enough" slEno f fd) (T : Bt mg) (DR : Df P w K mg base CX0 "_law_rest" 1 ["_law_grid_here", "_law_lot"] (spRest K)) (DN : Df P w K mg base CX0 "_law_needs" 3 ["_law_grid_here", "_law_sort"] (spNds K)) (DW : Df P w K mg base CX0 "_law_walk" 3 ["_law_needs_here", "_law_picks"] (spWalk K)) : FnOk P w K mg base CX0 4 f fd ["_law_grid_here", "_law_lot", "_law_sort"] (spEno K) := by
  refine F.ok sclEno (fun vs H Q E h => ?_) (fun cdv A outer s H vs Q E hr h => ?_)
  · obtain ⟨ra, a, es, us, R, l, kd, rfl, _⟩ := h
    rfl
  · obtain ⟨ra, a, es, us, R, l, kd, rfl, rs, g, c16, ha, hu, asc, kk⟩ := h
    refine ⟨_, (pss_cons (ps_set (i := 3) sclEno.nd rfl (Or.inl rfl) (pe_df DR hr (by decide) (pa_cons (pv 0) (pa_cons (pv 1) pa_nil))))
  (pss_cons (ps_if (PW.pt (pw_or (pt_cmpR op_eq (pe_callB cl_len (by rfl) T.len (by decide +kernel) (pa_cons (pv 3) pa_nil)) pe_int (nomark _)) (pw_or1 (pt_cmpR op_eq (pe_callB cl_len (by rfl) T.len (by decide +kernel) (pa_cons (pe_ix ix_list (pv 3) pe_int (fun _ _ => rfl)) pa_nil)) pe_int (nomark _))))) (pss_one (ps_ret pe_bl)) pss_nil)
  (pss_one (ps_ret (pe_cmpR op_is1 (pe_df DW hr (by decide) (pa_cons (pe_df DN hr (by decide) (pa_cons (pv 3) (pa_cons (pv 2) pa_nil))) (pa_cons (pe_op op_rep (pe_lst (pa_cons pe_int pa_nil)) pe_int) pa_nil))) pe_non (nomark _)))))), ?_⟩
    have g0 := g.h0
    have w0 := g.w0
    walk_at "rd"
    refine ⟨ra, a, es, us, R, l, rfl, rs, g, ha, hu, fun r H1 nr r1 => ?_⟩
    obtain ⟨s1, fs, rl, _⟩ := r1.rl
    have h1 := rl.at_
    have fl := rl.len
    rw [wo_len] at fl
    have wl : (woR R (numS R.length l) (numW R.length l)).length = (kp (numS R.length l) R.length).length := wo_len
    walk_at "rd"
    refine r_lenL (SqL.of h1) ?_
    walk_at "rd"
    refine r_eq rfl ?_
    refine ⟨_, rfl, ?_⟩
    by_cases c1 : (numS R.length l).length < R.length
    · have p1 := kp_pos c1
      refine ifF (decide_eq_false (by intro z; have := V.int.inj z; omega)) ?_
      obtain ⟨v0, e0⟩ : ∃ v, fs[0]? = some v := ⟨_, List.getElem?_eq_getElem (show 0 < fs.length by omega)⟩
      obtain ⟨b, rfl, hb⟩ := rl.row 0 _ e0
      walk_at "rd"
      refine r_ixL (SqL.of h1) (atI_nat (j := 0) e0) ?_
      walk_at "rd"
      refine r_lenL (SqL.of hb) ?_
      walk_at "rd"
      have rowl : (((woR R (numS R.length l) (numW R.length l)).getD 0 []).map pV).length = (kp (numW R.length l) (wd R)).length := by
        rw [List.length_map, List.getD_eq_getElem?_getD]
        unfold woR woP
        rw [List.getElem?_map, List.getElem?_eq_getElem p1]
        show (woRow R _ _ _).length = _
        unfold woRow
        rw [List.length_map]
      rw [rowl]
      refine r_eq rfl ?_
      refine ⟨_, rfl, ?_⟩
      by_cases c2 : (numW R.length l).length < wd R
      · have p2 := kp_pos c2
        refine ifF (decide_eq_false (by intro z; have := V.int.inj z; omega)) ?_
        have lv : leavB R.length (wd R) l = true := by unfold leavB; rw [decide_eq_true c1, decide_eq_true c2]; rfl
        have gW := woR_gt g c1 c2
        have cw : (cells (woR R (numS R.length l) (numW R.length l))).length ≤ 16 := by
          rw [cells_wo c1, List.length_map]
          exact Nat.le_trans (List.length_filter_le _ _) c16
        walk_at "rd"
        refine ⟨a, r, fs, _, kd, rfl, rl.rs, gW, ⟨_, s1 _ _ ha⟩, fun d H2 s2 nd => ?_⟩
        have s12 := s1.trans s2
        walk_at "rd"
        refine ⟨by show 1 ≤ sizeLine; decide, fun q1 n1 => ?_⟩
        have s3' := Same.up (o := .lst [V.int 0]) (Same.refl H2) n1
        have hq1 : upd H2 q1 (.lst [V.int 0]) q1 = some (.lst [V.int 0]) := upd_same
        obtain ⟨H3, eH3⟩ : ∃ H3, H3 = upd H2 q1 (.lst [V.int 0]) := ⟨_, rfl⟩
        rw [← eH3] at s3' hq1 ⊢
        walk_at "rd"
        refine ⟨q1, 16, [V.int 0], rfl, rfl, hq1, by decide, by decide, by decide, fun q2 n2 => ?_⟩
        rw [show (List.replicate (16 : Int).toNat [V.int 0]).flatten = (List.replicate 16 (0 : Int)).map V.int from rfl]
        have s4' := Same.up (o := .lst ((List.replicate 16 (0 : Int)).map V.int)) (Same.refl H3) n2
        have hq2 : upd H3 q2 (.lst ((List.replicate 16 (0 : Int)).map V.int)) q2 = some (.lst ((List.replicate 16 (0 : Int)).map V.int)) := upd_same
        obtain ⟨H4, eH4⟩ : ∃ H4, H4 = upd H3 q2 (.lst ((List.replicate 16 (0 : Int)).map V.int)) := ⟨_, rfl⟩
        rw [← eH4] at s4' hq2 ⊢
        have s34 := s3'.trans s4'
        have s14 := s12.trans s34
        walk_at "rd"
        have val : EnL R kd l = hasO (woR R (numS R.length l) (numW R.length l)) kd := by unfold EnL enoB; rw [lv, Bool.true_and]
        refine ⟨a, d, q2, _, kd, _, rfl, gW, nd.same s34, ⟨us, s14 _ _ ha⟩, hq2, by rw [List.length_replicate]; exact cw, fun zs H5 s5 wk ol zl => ?_, fun t ws zs H5 s5 nt ht _ pm rt => ?_⟩
        · walk_at "rd"
          have : hasO (woR R (numS R.length l) (numW R.length l)) kd = false := by
            rw [← Bool.not_eq_true, hasO_iff gW]
            rintro ⟨ys, pm, af⟩
            have e := right_full pm af (may_open ol)
            have := (free_perm wk.nd wk.sub e).length_eq
            omega
          rw [this] at val
          have := kk H5 (s14.trans s5)
          rw [val] at this
          exact this
        · walk_at "rd"
          have : hasO (woR R (numS R.length l) (numW R.length l)) kd = true := (hasO_iff gW).mpr ⟨zs, pm, (right_all fun z hz => pm.mem_iff.mp hz).mp rt⟩
          rw [this] at val
          have := kk H5 (s14.trans s5)
          rw [val] at this
          exact this
      · refine ifT (decide_eq_true (by rw [kpW_none asc c2]; rfl)) ?_
        walk_at "rd"
        have e : EnL R kd l = false := by unfold EnL leavB; rw [decide_eq_false c2, Bool.and_false]; rfl
        have := kk H1 s1
        rw [e] at this
        exact this
    · refine ifT (decide_eq_true (by rw [fl, kpS_none asc c1]; rfl)) ?_
      walk_at "rd"
      have e : EnL R kd l = false := by unfold EnL leavB; rw [decide_eq_false c1]; rfl
      have := kk H1 s1
      rw [e] at this
      exact this
end
end Pk
set_option Elab.async false
set_option linter.all false
set_option maxRecDepth 100000
set_option maxHeartbeats 4000000
namespace Pk
open PySem L2
local macro_rules | `(tactic| walk_at "rd") => `(tactic| repeat (first
  | with_reducible refine r_seq ?_ | with_reducible refine r_nxt ?_ | with_reducible refine r_asg ?_ | with_reducible refine r_to ?_ | with_reducible refine r_ret ?_ | with_reducible refine r_for ?_ | with_reducible refine r_lc ?_ | with_reducible refine r_lc2 ?_ | with_reducible refine r_rng1 ?_ | with_reducible refine r_list ?_ | with_reducible refine r_tupI ?_ | with_reducible refine r_drop ?_ | with_reducible refine r_ifs ?_
  | with_reducible refine r_op ?_ | with_reducible refine r_c ?_ | with_reducible refine r_var rfl ?_ | with_reducible refine r_var (by assumption) ?_ | with_reducible refine r_I0 ?_ | with_reducible refine r_un ?_ | with_reducible refine r_U ?_ | with_reducible refine r_make ?_ | with_reducible refine r_makeS ?_ | with_reducible refine r_ifE ?_ | with_reducible refine r_cm ?_ | with_reducible refine r_mkV rfl ?_ | with_reducible refine r_sub ?_
  | with_reducible refine r_nil ?_ | with_reducible refine r_cons ?_ | with_reducible refine r_cb ?_ | with_reducible refine r_sl ?_ | with_reducible refine r_noP ?_ | with_reducible refine r_part ?_ | with_reducible refine r_isI ?_ | with_reducible refine r_lst ?_ | with_reducible refine r_tup ?_ | with_reducible refine r_call ?_ | with_reducible refine r_callS ?_ | with_reducible refine r_sFldU ?_ | with_reducible refine r_chain ?_ | with_reducible refine r_enum ?_ | with_reducible refine r_zip ?_ | with_reducible refine r_rng3 ?_ | with_reducible refine r_gtup ?_ | with_reducible refine r_methU ?_
  | with_reducible refine r_test ?_ | with_reducible refine r_B ?_ | with_reducible refine r_and ?_ | with_reducible refine r_or ?_ | with_reducible refine r_not ?_ | with_reducible refine r_andV ?_ | with_reducible refine r_orV ?_ | with_reducible refine r_notV ?_ | with_reducible refine r_bl ?_ | with_reducible refine r_yes ?_ | with_reducible refine r_int ?_ | with_reducible refine r_is0 ?_ | with_reducible refine r_is1 ?_ | with_reducible refine iteT ?_ | with_reducible refine iteF ?_ | with_reducible refine ite_nF ?_ | with_reducible refine ite_nT ?_
  | with_reducible refine r_mod (by decide) ?_ | with_reducible refine r_div (by decide) (by decide) ?_ | with_reducible refine r_mulR (by decide) (by decide) ?_ | with_reducible refine r_mulL (by decide) (by decide) ?_ | with_reducible refine r_pow (by decide) (by decide) (by decide) ?_))
/-! ### whether a lot holds another one -/
def subB (l p : List Nat) : Bool := p.all fun k => decide (k ∈ l)
def spCont64 : Sp := fun vs H Q _ => ∃ (a b : Addr) (us ws : List V) (m : Nat) (l p : List Nat), vs = [.ref a, .ref b] ∧ H a = some (.lst us) ∧ LnsAt m H us l ∧ H b = some (.lst ws) ∧ LnsAt m H ws p ∧ p.length ≤ 1000 ∧ ∀ H' : Hp, Same H H' → Q (.bl (subB l p)) H'
abbrev slCont64 : Stmt := top 66
theorem subB_nil (l p : List Nat) : subB l p = decide ((p.filter fun k => !decide (k ∈ l)).length = 0) := by
  unfold subB
  induction p with
  | nil => rfl
  | cons k p ih =>
    rw [List.all_cons, ih]
    by_cases c : k ∈ l
    · rw [decide_eq_true c, Bool.true_and, List.filter_cons_of_neg (by simp [c])]
    · rw [decide_eq_false c, Bool.false_and, List.filter_cons_of_pos (by simp [c])]; rfl
section
variable {P : Program} {w : World} {K : PySem.W.Frag} {mg : Str → Option Value} {base : Heap} {f : Addr} {fd : FuncData}
theorem sclCont64 : FnScope ["_law_lot", "_law_part", "_law_line"] ["_law_lot", "_law_part"] (defScope slCont64) := ⟨rfl, rfl, rfl, by decide +kernel, rfl, by decide +kernel, by decide +kernel⟩
theorem ok_cont64 (F : Fun K "_law_contains" "_law_contains" slCont64 f fd) (T : Bt mg) : FnOk P w K mg base CX0 1 f fd ["_law_lot", "_law_part"] spCont64 := by
  refine F.ok sclCont64 (fun vs H Q E h => ?_) (fun cdv A outer s H vs Q E hr h => ?_)
  · obtain ⟨a, b, us, ws, m, l, p, rfl, _⟩ := h
    rfl
  · obtain ⟨a, b, us, ws, m, l, p, rfl, ha, hu, hb, hw, p1000, kk⟩ := h
    refine ⟨_, (pss_one (ps_ret (pe_cmpR op_eq (pe_callB cl_len (by rfl) T.len (by decide +kernel) (pa_cons (pe_lc (own := [("_law_line", 2)]) (g := gName 2) (tt := tTest (tOp (rInD K true) (tVar 2) (tVar 0))) (te := tVar 2) rfl sclCont64.nd (pi_list (pv 1)) (blkOk_by (own := [("_law_line", 2)]) (N := ["_law_lot", "_law_part", "_law_line"]) (sc := defScope slCont64) (by decide +kernel)) (fun _ _ _ _ _ => pg_name (i := 2) sclCont64.nd rfl (Or.inl rfl)) (fun _ _ _ _ _ => pts_one (pt_cmpR (op_ninD hr.units) (pv 2) (pv 0) (by rfl))) (fun _ _ _ _ _ => (pv 2))) pa_nil)) pe_int (nomark _)))), ?_⟩
    have wl := hw.length
    walk_at "rd"
    refine ⟨b, rfl, ⟨_, SqL.of hb⟩, fun D nD => lc_it walk_list (fun i H' => Same H H' ∧ ∃ gs, H' D = some (.lst gs) ∧ gs.length = ((p.take i).filter fun k => !decide (k ∈ l)).length) ⟨Same.up (Same.refl H) nD, [], upd_same, by rw [List.take_zero]; rfl⟩ (fun i H' _ z => SqL.of (z.1 _ _ hb)) ?_ ?_⟩
    · rintro i y H2 H3 hi ⟨s3, gs, hD, gl⟩ ⟨rfl, ey⟩
      obtain ⟨k, ek, hk⟩ := (hw.same s3).at ey
      have tk : p.take (i + 1) = p.take i ++ [k] := by rw [List.take_add_one, ek]; rfl
      have hi : i < ws.length := hi
      walk_at "rd"
      refine ⟨rfl, ?_⟩
      walk_at "rd"
      refine ⟨lneD m k, l.map (lneD m), hk.dp, .lst (SqL.of (s3 _ _ ha)) (hu.same s3).dp, by simp [lneD, PyData.plain, PyData.plainAll], ⟨plain_lnes _ l, deep_lnes _ l⟩, ?_⟩
      rw [if_pos rfl, any_lnes]
      refine ⟨_, rfl, ?_⟩
      by_cases c : k ∈ l
      · refine ifF (by rw [decide_eq_true c]; rfl) ?_
        refine ⟨s3, gs, hD, ?_⟩
        rw [tk, List.filter_append, List.filter_cons_of_neg (by simp [c]), gl]; simp
      · refine ifT (by rw [decide_eq_false c]; rfl) ?_
        walk_at "rd"
        refine ⟨gs, hD, Nat.lt_of_le_of_lt (show gs.length ≤ 1000 from by rw [gl]; refine Nat.le_trans (List.length_filter_le _ _) ?_; rw [List.length_take]; omega) (by decide), Same.upOff s3 nD, _, upd_same, ?_⟩
        rw [tk, List.filter_append, List.filter_cons_of_pos (by simp [c]), List.length_append, List.length_append, gl]; rfl
    · rintro H2 ⟨s2, gs, hD, gl⟩
      rw [wl, List.take_of_length_le (Nat.le_refl _)] at gl
      walk_at "rd"
      refine r_lenL (SqL.of hD) ?_
      walk_at "rd"
      rw [gl]
      refine r_eq rfl ?_
      have := kk H2 s2
      rw [subB_nil] at this
      have e : decide (V.int (((p.filter fun k => !decide (k ∈ l)).length : Nat) : Int) = V.int 0) = decide ((p.filter fun k => !decide (k ∈ l)).length = 0) := decide_eq_decide.mpr ⟨fun z => by have := V.int.inj z; omega, fun z => by rw [z]; rfl⟩
      rw [e]
      exact this
end
end Pk
set_option Elab.async false
set_option linter.all false
set_option maxRecDepth 100000
set_option maxHeartbeats 4000000
namespace Pk
open PySem L2
local macro_rules | `(tactic| walk_at "rd") => `(tactic| repeat (first
  | with_reducible refine r_seq ?_ | with_reducible refine r_nxt ?_ | with_reducible refine r_asg ?_ | with_reducible refine r_to ?_ | with_reducible refine r_ret ?_ | with_reducible refine r_for ?_ | with_reducible refine r_lc ?_ | with_reducible refine r_lc2 ?_ | with_reducible refine r_rng1 ?_ | with_reducible refine r_list ?_ | with_reducible refine r_tupI ?_ | with_reducible refine r_drop ?_ | with_reducible refine r_ifs ?_
  | with_reducible refine r_op ?_ | with_reducible refine r_c ?_ | with_reducible refine r_var rfl ?_ | with_reducible refine r_var (by assumption) ?_ | with_reducible refine r_I0 ?_ | with_reducible refine r_un ?_ | with_reducible refine r_U ?_ | with_reducible refine r_make ?_ | with_reducible refine r_makeS ?_ | with_reducible refine r_ifE ?_ | with_reducible refine r_cm ?_ | with_reducible refine r_mkV rfl ?_ | with_reducible refine r_sub ?_
  | with_reducible refine r_nil ?_ | with_reducible refine r_cons ?_ | with_reducible refine r_cb ?_ | with_reducible refine r_sl ?_ | with_reducible refine r_noP ?_ | with_reducible refine r_part ?_ | with_reducible refine r_isI ?_ | with_reducible refine r_lst ?_ | with_reducible refine r_tup ?_ | with_reducible refine r_call ?_ | with_reducible refine r_callS ?_ | with_reducible refine r_sFldU ?_ | with_reducible refine r_chain ?_ | with_reducible refine r_enum ?_ | with_reducible refine r_zip ?_ | with_reducible refine r_rng3 ?_ | with_reducible refine r_gtup ?_ | with_reducible refine r_methU ?_
  | with_reducible refine r_test ?_ | with_reducible refine r_B ?_ | with_reducible refine r_and ?_ | with_reducible refine r_or ?_ | with_reducible refine r_not ?_ | with_reducible refine r_andV ?_ | with_reducible refine r_orV ?_ | with_reducible refine r_notV ?_ | with_reducible refine r_bl ?_ | with_reducible refine r_yes ?_ | with_reducible refine r_int ?_ | with_reducible refine r_is0 ?_ | with_reducible refine r_is1 ?_ | with_reducible refine iteT ?_ | with_reducible refine iteF ?_ | with_reducible refine ite_nF ?_ | with_reducible refine ite_nT ?_
  | with_reducible refine r_mod (by decide) ?_ | with_reducible refine r_div (by decide) (by decide) ?_ | with_reducible refine r_mulR (by decide) (by decide) ?_ | with_reducible refine r_mulL (by decide) (by decide) ?_ | with_reducible refine r_pow (by decide) (by decide) (by decide) ?_))
/-! ### lots as data; ascending lots -/
theorem hu65 {k : Nat} {A : Around} (r : Room k A) : A.units + 65 < cLine := by have := r.un; omega
theorem lwd_ok (m k : Nat) : PyData.strOk (lwd m k) = true := by
  unfold lwd
  by_cases c : k < m
  · rw [if_pos c]; decide +kernel
  · rw [if_neg c]; decide +kernel
theorem lne_lay (m k : Nat) : (lneD m k).canLay0 = true := by simp [lneD, PyData.canLay0, PyData.canLayAll0, lwd_ok]
theorem lnes_layAll (m : Nat) : ∀ l : List Nat, PyData.canLayAll0 (l.map (lneD m)) = true
  | [] => by simp [PyData.canLayAll0]
  | k :: l => by simp [PyData.canLayAll0, lnes_layAll m l, lne_lay m k]
abbrev lotD (m : Nat) (l : List Nat) : PyData := .list (l.map (lneD m))
theorem lot_lay (m : Nat) (l : List Nat) : (lotD m l).canLay0 = true := by simp only [PyData.canLay0]; exact lnes_layAll m l
theorem lots_layAll (m : Nat) : ∀ F : List (List Nat), PyData.canLayAll0 (F.map (lotD m)) = true
  | [] => by simp [PyData.canLayAll0]
  | l :: F => by
    have h := lot_lay m l
    simp [PyData.canLayAll0, lots_layAll m F, h]
theorem lot_deep (m : Nat) (l : List Nat) : (lotD m l).depth ≤ 9 := by
  have := deep_lnes m l
  simp only [PyData.depth]
  omega
theorem lots_deepAll (m : Nat) : ∀ F : List (List Nat), PyData.depthAll (F.map (lotD m)) ≤ 9
  | [] => by simp [PyData.depthAll]
  | l :: F => by
    have h1 := lots_deepAll m F
    have h2 := lot_deep m l
    simp only [List.map_cons, PyData.depthAll]
    omega
theorem lne_shaped (m k : Nat) : SeqAt.shaped (lneD m k) = true := by
  simp only [SeqAt.shaped, lne_lay m k, Bool.true_and]
  exact decide_eq_true (by rw [lne_depth]; decide)
theorem lot_shaped (m : Nat) (l : List Nat) : SeqAt.shaped (lotD m l) = true := by
  have h := lot_deep m l
  simp only [SeqAt.shaped, lot_lay m l, Bool.true_and]
  exact decide_eq_true (by omega)
theorem lots_shaped (m : Nat) (F : List (List Nat)) : SeqAt.shaped (.list (F.map (lotD m))) = true := by
  have h := lots_deepAll m F
  have e : (PyData.list (F.map (lotD m))).canLay0 = true := by simp only [PyData.canLay0]; exact lots_layAll m F
  simp only [SeqAt.shaped, e, Bool.true_and]
  exact decide_eq_true (by simp only [PyData.depth]; omega)
def spIsLot (K : PySem.W.Frag) : Sp := fun vs H Q _ => ∃ (a b : Addr) (us ws : List V) (m N : Nat) (l : List Nat), vs = [.ref a, .ref b] ∧ H a = some (.lst us) ∧ LnsAt m H us l ∧ Asc N l ∧ H b = some (.lst ws) ∧ LnsAt m H ws (List.range N) ∧ ∀ H' : Hp, Same H H' → Q (.bl true) H'
abbrev slIsLot : Stmt := top 67
section
variable {P : Program} {w : World} {K : PySem.W.Frag} {mg : Str → Option Value} {base : Heap} {f : Addr} {fd : FuncData}
theorem sclIsLot : FnScope ["_law_lot", "_law_lines", "_law_last", "_law_line"] ["_law_lot", "_law_lines"] (defScope slIsLot) := ⟨rfl, rfl, rfl, by decide +kernel, rfl, by decide +kernel, by decide +kernel⟩
theorem ok_isLot (F : Fun K "_law_is_lot" "_law_is_lot" slIsLot f fd) (T : Bt mg) : FnOk P w K mg base CX0 1 f fd ["_law_lot", "_law_lines"] (spIsLot K) := by
  refine F.ok sclIsLot (fun vs H Q E h => ?_) (fun cdv A outer s H vs Q E hr h => ?_)
  · obtain ⟨a, b, us, ws, m, N, l, rfl, _⟩ := h
    rfl
  · obtain ⟨a, b, us, ws, m, N, l, rfl, ha, hu, asc, hb, hw, kk⟩ := h
    refine ⟨_, (pss_cons (ps_if (pt_not (pt_val (pe_callB call_isi (by rfl) T.isinstance (by decide +kernel) (pa_cons (pv 0) (pa_cons (pe_bltn (v := .ty "list") (by rfl) T.list (by decide +kernel) rfl) pa_nil))))) (pss_one (ps_ret pe_bl)) pss_nil)
  (pss_cons (ps_set (i := 2) sclIsLot.nd rfl (Or.inl rfl) (pe_un un_neg pe_int))
  (pss_cons (ps_for PassesOwn.never rfl (pi_list (pv 0)) (pg_name (i := 3) sclIsLot.nd rfl (Or.inl rfl)) (pss_cons (ps_if (PW.pt (pw_or (pt_not (pt_val (pe_callB call_isi (by rfl) T.isinstance (by decide +kernel) (pa_cons (pv 3) (pa_cons (pe_bltn (v := .ty "tuple") (by rfl) T.tuple (by decide +kernel) rfl) pa_nil))))) (pw_or1 (pt_cmpR (op_ninD hr.units) (pv 3) (pv 1) (by rfl))))) (pss_one (ps_ret pe_bl)) pss_nil)
  (pss_cons (ps_if (PW.pt (pw_or (pt_val (pe_callB call_isi (by rfl) T.isinstance (by decide +kernel) (pa_cons (pe_ix ix_tup (pv 3) pe_int (fun _ _ => rfl)) (pa_cons (pe_bltn (v := .ty "bool") (by rfl) T.bool (by decide +kernel) rfl) pa_nil)))) (pw_or1 (pt_cmpR op_le (pe_bm PySem.F.plainAttrs_list PySem.F.slot_list_index PySem.F.type_list_index (mt_indexD (hu65 hr)) (pv 1) (pa_cons (pv 3) pa_nil)) (pv 2) (nomark _))))) (pss_one (ps_ret pe_bl)) pss_nil)
  (pss_one (ps_set (i := 2) sclIsLot.nd rfl (Or.inl rfl) (pe_bm PySem.F.plainAttrs_list PySem.F.slot_list_index PySem.F.type_list_index (mt_indexD (hu65 hr)) (pv 1) (pa_cons (pv 3) pa_nil)))))))
  (pss_one (ps_ret pe_bl))))), ?_⟩
    have ul := hu.length
    have idx : ∀ {H' : Hp} {y : V} {k : Nat} {Q' : VK}, Same H H' → LneAt m H' y k → k < N → Q' (.int (k : Int)) H' → rIndexD K (.ref b) [y] H' Q' := fun {H' y k Q'} s' hk kN q => by
      refine ⟨b, y, lneD m k, (List.range N).map (lneD m), k, lneD m k, rfl, rfl, .lst (SqL.of (s' _ _ hb)) (hw.same s').dp, hk.dp, lot_shaped m _, lne_shaped m k, by rw [List.getElem?_map, List.getElem?_range kN]; rfl, by rw [lne_eqv, decide_eq_true rfl], fun j z hj hz => ?_, q⟩
      rw [List.getElem?_map, List.getElem?_range (by omega)] at hz
      cases hz
      rw [lne_eqv]
      exact decide_eq_false (by omega)
    walk_at "rd"
    refine r_isi (Dp.kind (.lst (SqL.of ha) hu.dp)) (by decide +kernel : kitB "list" "list" = some true) ?_
    refine ⟨_, rfl, ifF rfl ?_⟩
    walk_at "rd"
    refine ⟨a, rfl, ⟨_, SqL.of ha⟩, for_it walk_list (fun i σ H' => ∃ (t : Int) (v3 : Option V), σ = [some (.ref a), some (.ref b), some (.int t), v3] ∧ Same H H' ∧ ∀ k, l[i]? = some k → t < (k : Int)) ⟨-1, _, rfl, Same.refl H, fun k _ => by omega⟩ (fun i σ H' _ z => by obtain ⟨_, _, _, z, _⟩ := z; exact SqL.of (z _ _ ha)) ?_ ?_⟩
    · rintro i y σ H2 H3 hi ⟨t, v3, rfl, s3, lt⟩ ⟨rfl, ey⟩
      obtain ⟨k, ek, hk⟩ := (hu.same s3).at ey
      have kN := asc.b k (List.mem_of_getElem? ek)
      have tk := lt k ek
      have ty : TyX K H3 y (.type "tuple") := Dp.kind hk.dp
      obtain ⟨t0, rfl, ht0⟩ := id hk
      refine ⟨_, rfl, ?_⟩
      walk_at "rd"
      refine r_isi ty (by decide +kernel : kitB "tuple" "tuple" = some true) ?_
      refine ⟨_, rfl, ifF rfl ?_⟩
      walk_at "rd"
      refine ⟨lneD m k, (List.range N).map (lneD m), hk.dp, .lst (SqL.of (s3 _ _ hb)) (hw.same s3).dp, by simp [lneD, PyData.plain, PyData.plainAll], ⟨plain_lnes _ _, deep_lnes _ _⟩, ?_⟩
      rw [if_pos rfl, any_lnes, decide_eq_true (List.mem_range.mpr kN)]
      refine ⟨_, rfl, ifF rfl ?_⟩
      walk_at "rd"
      refine r_ixT (SqT.of ht0) (atI_nat (j := 1) rfl) ?_
      walk_at "rd"
      refine r_isi (.base (.int _)) (by decide +kernel : kitB "int" "bool" = some false) ?_
      refine ⟨_, rfl, ifF rfl ?_⟩
      walk_at "rd"
      refine r_bm ?_
      walk_at "rd"
      refine ⟨.inl ⟨rfl, _, SqL.of (s3 _ _ hb)⟩, ?_⟩
      walk_at "rd"
      refine idx s3 hk kN ?_
      walk_at "rd"
      refine ifF (decide_eq_false (by omega)) ?_
      walk_at "rd"
      refine r_bm ?_
      walk_at "rd"
      refine ⟨.inl ⟨rfl, _, SqL.of (s3 _ _ hb)⟩, ?_⟩
      walk_at "rd"
      refine idx s3 hk kN ?_
      walk_at "rd"
      refine ⟨_, _, rfl, s3, fun k2 e2 => ?_⟩
      obtain ⟨h1, q1⟩ := List.getElem?_eq_some_iff.mp ek
      obtain ⟨h2, q2⟩ := List.getElem?_eq_some_iff.mp e2
      have := List.pairwise_iff_getElem.mp asc.lt i (i + 1) h1 h2 (by omega)
      rw [q1, q2] at this
      omega
    · rintro σ H2 ⟨t, v3, rfl, s2, _⟩
      walk_at "rd"
      exact kk H2 s2
end
end Pk
set_option Elab.async false
set_option linter.all false
set_option maxRecDepth 100000
set_option maxHeartbeats 4000000
namespace Pk
open PySem L2
local macro_rules | `(tactic| walk_at "rd") => `(tactic| repeat (first
  | with_reducible refine r_seq ?_ | with_reducible refine r_nxt ?_ | with_reducible refine r_asg ?_ | with_reducible refine r_to ?_ | with_reducible refine r_ret ?_ | with_reducible refine r_for ?_ | with_reducible refine r_lc ?_ | with_reducible refine r_lc2 ?_ | with_reducible refine r_rng1 ?_ | with_reducible refine r_list ?_ | with_reducible refine r_tupI ?_ | with_reducible refine r_drop ?_ | with_reducible refine r_ifs ?_
  | with_reducible refine r_op ?_ | with_reducible refine r_c ?_ | with_reducible refine r_var rfl ?_ | with_reducible refine r_var (by assumption) ?_ | with_reducible refine r_I0 ?_ | with_reducible refine r_un ?_ | with_reducible refine r_U ?_ | with_reducible refine r_make ?_ | with_reducible refine r_makeS ?_ | with_reducible refine r_ifE ?_ | with_reducible refine r_cm ?_ | with_reducible refine r_mkV rfl ?_ | with_reducible refine r_sub ?_
  | with_reducible refine r_nil ?_ | with_reducible refine r_cons ?_ | with_reducible refine r_cb ?_ | with_reducible refine r_sl ?_ | with_reducible refine r_noP ?_ | with_reducible refine r_part ?_ | with_reducible refine r_isI ?_ | with_reducible refine r_lst ?_ | with_reducible refine r_tup ?_ | with_reducible refine r_call ?_ | with_reducible refine r_callS ?_ | with_reducible refine r_sFldU ?_ | with_reducible refine r_chain ?_ | with_reducible refine r_enum ?_ | with_reducible refine r_zip ?_ | with_reducible refine r_rng3 ?_ | with_reducible refine r_gtup ?_ | with_reducible refine r_methU ?_
  | with_reducible refine r_test ?_ | with_reducible refine r_B ?_ | with_reducible refine r_and ?_ | with_reducible refine r_or ?_ | with_reducible refine r_not ?_ | with_reducible refine r_andV ?_ | with_reducible refine r_orV ?_ | with_reducible refine r_notV ?_ | with_reducible refine r_bl ?_ | with_reducible refine r_yes ?_ | with_reducible refine r_int ?_ | with_reducible refine r_is0 ?_ | with_reducible refine r_is1 ?_ | with_reducible refine iteT ?_ | with_reducible refine iteF ?_ | with_reducible refine ite_nF ?_ | with_reducible refine ite_nT ?_
  | with_reducible refine r_mod (by decide) ?_ | with_reducible refine r_div (by decide) (by decide) ?_ | with_reducible refine r_mulR (by decide) (by decide) ?_ | with_reducible refine r_mulL (by decide) (by decide) ?_ | with_reducible refine r_pow (by decide) (by decide) (by decide) ?_))
/-! ### the told lots are sorted, and none holds another -/
def lexN : List Nat → List Nat → Bool
  | [], [] => false
  | [], _ :: _ => true
  | _ :: _, [] => false
  | x :: xs, y :: ys => if x = y then lexN xs ys else decide (x < y)
theorem lots_lt (m : Nat) : ∀ xs ys : List Nat, PyProof.Rows.lexLt PyProof.Rows.itemOrd (PySem.W.keyToksAll (xs.map (lneD m))) (PySem.W.keyToksAll (ys.map (lneD m))) = lexN xs ys
  | [], [] => (show PyProof.Rows.lexLt PyProof.Rows.itemOrd (PySem.W.keyToksAll []) (PySem.W.keyToksAll []) = false by decide +kernel)
  | [], y :: ys => (PyProof.Rows.lex_diff (O := PyProof.Rows.itemOrd) (x := .inl 0) (y := .inl 1) (by decide)).trans rfl
  | x :: xs, [] => (PyProof.Rows.lex_diff (O := PyProof.Rows.itemOrd) (x := .inl 1) (y := .inl 0) (by decide)).trans rfl
  | x :: xs, y :: ys => by
    rw [List.map_cons, List.map_cons, lexN]
    by_cases e : x = y
    · rw [if_pos e, PySem.W.dataLt_all_yes (lne_alike m x y) (by rw [lne_eqv, decide_eq_true e]), lots_lt m xs ys]
    · rw [if_neg e, PySem.W.dataLt_all_no (lne_alike m x y) (by rw [lne_eqv, decide_eq_false e]), lne_lt]
theorem lot_lt (m : Nat) (xs ys : List Nat) : PySem.W.dataLt (lotD m xs) (lotD m ys) = lexN xs ys := by
  rw [PySem.W.dataLt_list]
  exact lots_lt m xs ys
theorem lots_alikeAll (m : Nat) : ∀ xs ys : List Nat, PySem.W.alikeAll (xs.map (lneD m)) (ys.map (lneD m)) = true
  | [], _ => by cases ‹List Nat› <;> rfl
  | _ :: _, [] => rfl
  | x :: xs, y :: ys => by
    show (PySem.W.alike (lneD m x) (lneD m y) && PySem.W.alikeAll (xs.map (lneD m)) (ys.map (lneD m))) = true
    rw [lne_alike, lots_alikeAll m xs ys]; rfl
theorem lot_alike (m : Nat) (xs ys : List Nat) : PySem.W.alike (lotD m xs) (lotD m ys) = true := lots_alikeAll m xs ys
def lneP (m k : Nat) : Str × Int := (lwd m k, lno m k)
theorem lneP_inj {m a b : Nat} (h : lneP m a = lneP m b) : a = b := by
  have e1 : lwd m a = lwd m b := congrArg Prod.fst h
  have e2 : lno m a = lno m b := congrArg Prod.snd h
  have e : lneD m a = lneD m b := by unfold lneD; rw [e1, e2]
  have h1 := lne_eqv m a b
  rw [e, lne_eqv, decide_eq_true rfl] at h1
  exact of_decide_eq_true h1.symm
theorem mapP_inj {m : Nat} {xs ys : List Nat} : xs.map (lneP m) = ys.map (lneP m) ↔ xs = ys := ⟨fun h => (List.map_inj_right fun a b e => lneP_inj e).mp h, fun h => by rw [h]⟩
theorem lot_eqv (m : Nat) (xs ys : List Nat) : PyData.eqv (lotD m xs) (lotD m ys) = decide (xs = ys) := by
  have h : PyData.eqv (.list ((xs.map (lneP m)).map PySem.W.Datum.toD)) (.list ((ys.map (lneP m)).map PySem.W.Datum.toD)) = decide (xs.map (lneP m) = ys.map (lneP m)) := PySem.W.Datum.eqv (α := List (Str × Int)) _ _
  rw [List.map_map, List.map_map] at h
  exact h.trans (decide_eq_decide.mpr mapP_inj)
theorem lots_eqv (m : Nat) (F G : List (List Nat)) : PyData.eqv (.list (F.map (lotD m))) (.list (G.map (lotD m))) = decide (F = G) := by
  have h : PyData.eqv (.list ((F.map fun l => l.map (lneP m)).map PySem.W.Datum.toD)) (.list ((G.map fun l => l.map (lneP m)).map PySem.W.Datum.toD)) = decide ((F.map fun l => l.map (lneP m)) = G.map fun l => l.map (lneP m)) := PySem.W.Datum.eqv (α := List (List (Str × Int))) _ _
  rw [List.map_map, List.map_map] at h
  have e : ∀ X : List (List Nat), X.map (PySem.W.Datum.toD ∘ fun l => l.map (lneP m)) = X.map (lotD m) := fun X => List.map_congr_left fun l _ => by
    show PyData.list ((l.map (lneP m)).map PySem.W.Datum.toD) = _
    rw [List.map_map]; rfl
  rw [e, e] at h
  exact h.trans (decide_eq_decide.mpr ⟨fun q => (List.map_inj_right fun a b z => mapP_inj.mp z).mp q, fun q => by rw [q]⟩)
theorem lex_snoc {x y : Nat} (h : x < y) : ∀ l : List Nat, lexN (l ++ [x]) (l ++ [y]) = true
  | [] => by show (if x = y then lexN [] [] else decide (x < y)) = true; rw [if_neg (by omega), decide_eq_true h]
  | a :: l => by show (if a = a then lexN (l ++ [x]) (l ++ [y]) else _) = true; rw [if_pos rfl]; exact lex_snoc h l
theorem lex_app : ∀ {a b : List Nat} (x y : List Nat), a.length = b.length → lexN a b = true → lexN (a ++ x) (b ++ y) = true
  | [], [], _, _, _, h => by cases h
  | [], _ :: _, _, _, l, _ => by cases l
  | _ :: _, [], _, _, l, _ => by cases l
  | c :: a, d :: b, x, y, l, h => by
    have h : (if c = d then lexN a b else decide (c < d)) = true := h
    show (if c = d then lexN (a ++ x) (b ++ y) else decide (c < d)) = true
    by_cases e : c = d
    · rw [if_pos e] at h ⊢
      exact lex_app x y (Nat.succ.inj l) h
    · rw [if_neg e] at h ⊢
      exact h
theorem lotsK_lex (N : Nat) : ∀ s, (lotsK N s).Pairwise fun a b => lexN a b = true
  | 0 => List.pairwise_singleton _ _
  | s + 1 => by
    show List.Pairwise _ (nextL N (lotsK N s))
    unfold nextL
    rw [List.pairwise_flatMap]
    refine ⟨fun l _ => ?_, (lotsK_lex N s).imp_of_mem fun {a b} ha hb h x hx y hy => ?_⟩
    · rw [List.pairwise_map]
      exact (List.Pairwise.filter _ List.pairwise_lt_range).imp fun {x y} h => lex_snoc h l
    · obtain ⟨k, _, rfl⟩ := List.mem_map.mp hx
      obtain ⟨k2, _, rfl⟩ := List.mem_map.mp hy
      exact lex_app _ _ (by rw [(lotsK_asc ha).2, (lotsK_asc hb).2]) h
def Bef (a b : List Nat) : Prop := a.length < b.length ∨ (a.length = b.length ∧ lexN a b = true)
theorem leave_sorted {R : Rw} {kd : Str} (g : Gt R) : (leaveL R kd).Pairwise Bef := by
  rw [leave_min g, List.pairwise_flatMap]
  refine ⟨fun s _ => ?_, List.pairwise_lt_range.imp fun {s t} h x hx y hy => ?_⟩
  · refine ((lotsK_lex _ s).filter _).imp_of_mem fun {a b} ha hb h => .inr ⟨?_, h⟩
    rw [(lotsK_asc (List.mem_filter.mp ha).1).2, (lotsK_asc (List.mem_filter.mp hb).1).2]
  · refine .inl ?_
    rw [(lotsK_asc (List.mem_filter.mp hx).1).2, (lotsK_asc (List.mem_filter.mp hy).1).2]
    exact h
theorem leave_mem {R : Rw} {kd : Str} (g : Gt R) {l : List Nat} : l ∈ leaveL R kd ↔ Asc (R.length + wd R) l ∧ minB R kd l = true := by
  rw [leave_min g, List.mem_flatMap]
  constructor
  · rintro ⟨s, _, h⟩
    obtain ⟨h1, h2⟩ := List.mem_filter.mp h
    exact ⟨(lotsK_asc h1).1, h2⟩
  · rintro ⟨a, h⟩
    have em : EnL R kd l = true := by unfold minB at h; rw [Bool.and_eq_true] at h; exact h.2
    have lv : leavB R.length (wd R) l = true := by unfold EnL at em; rw [Bool.and_eq_true] at em; exact em.1
    obtain ⟨x, y⟩ := leav_lt lv
    have := num_len R.length l
    exact ⟨l.length, List.mem_range.mpr (by omega), List.mem_filter.mpr ⟨lotsK_all _ a rfl, h⟩⟩
theorem min_en {R : Rw} {kd : Str} {l : List Nat} (h : minB R kd l = true) : EnL R kd l = true := by unfold minB at h; rw [Bool.and_eq_true] at h; exact h.2
theorem en_lv {R : Rw} {kd : Str} {l : List Nat} (h : EnL R kd l = true) : leavB R.length (wd R) l = true := by unfold EnL at h; rw [Bool.and_eq_true] at h; exact h.1
theorem min_anti {R : Rw} {kd : Str} (g : Gt R) {N : Nat} {a b : List Nat} (ha : Asc N a) (hb : Asc N b) (m1 : minB R kd a = true) (m2 : minB R kd b = true) (sub : ∀ k, k ∈ a → k ∈ b) : a = b := by
  apply Classical.byContradiction
  intro ne
  obtain ⟨k, kb, ka⟩ : ∃ k, k ∈ b ∧ k ∉ a := by
    apply Classical.byContradiction
    intro q
    refine ne (asc_ext ha.lt hb.lt fun k => ⟨sub k, fun hk => ?_⟩)
    apply Classical.byContradiction
    exact fun z => q ⟨k, hk, z⟩
  obtain ⟨i, hi, ek⟩ := List.getElem_of_mem kb
  have hp : b.eraseIdx i ∈ partsL b := List.mem_map.mpr ⟨i, List.mem_range.mpr hi, rfl⟩
  have ae := asc_era hb i
  have e0 : (partsL b).filter (EnL R kd) = [] := by unfold minB at m2; rw [Bool.and_eq_true, List.isEmpty_iff] at m2; exact m2.1
  refine List.filter_eq_nil_iff.mp e0 _ hp (en_mono g (asc_nd ha.lt) (fun z hz => ?_) (leav_mono (asc_nd ae.lt) (fun z hz => (List.eraseIdx_sublist _ _).subset hz) (en_lv (min_en m2))) (min_en m1))
  obtain ⟨j, hj, ez⟩ := List.getElem_of_mem (sub z hz)
  have ne2 : j ≠ i := fun q => by subst q; exact ka (by rw [← ek, ez]; exact hz)
  exact List.mem_eraseIdx_iff_getElem.mpr ⟨j, hj, ne2, ez⟩
theorem sub_iff {l p : List Nat} : subB l p = true ↔ ∀ k, k ∈ p → k ∈ l := by
  unfold subB
  rw [List.all_eq_true]
  exact ⟨fun h k hk => of_decide_eq_true (h k hk), fun h k hk => decide_eq_true (h k hk)⟩
theorem bef_ne {a b : List Nat} (h : Bef a b) : a ≠ b := fun e => by
  subst e
  rcases h with h | ⟨_, h⟩
  · omega
  · have irr : ∀ l : List Nat, lexN l l = false := fun l => by
      induction l with
      | nil => rfl
      | cons x l ih => show (if x = x then lexN l l else _) = false; rw [if_pos rfl, ih]
    rw [irr] at h; cases h
/-- a told lot is held by every lot that is enough, and no other -/
theorem en_held {R : Rw} {kd : Str} (g : Gt R) {l : List Nat} (a : Asc (R.length + wd R) l) : EnL R kd l = (leavB R.length (wd R) l && decide (0 < ((leaveL R kd).filter (subB l)).length)) := by
  rw [Bool.eq_iff_iff, Bool.and_eq_true, decide_eq_true_iff]
  constructor
  · intro h
    refine ⟨en_lv h, ?_⟩
    obtain ⟨o, o1, o2, _, o4⟩ := min_ex _ _ (Nat.le_refl _) a h
    exact List.length_pos_of_mem (List.mem_filter.mpr ⟨(leave_mem g).mpr ⟨o1, o4⟩, sub_iff.mpr o2⟩)
  · rintro ⟨lv, h⟩
    obtain ⟨o, ho⟩ := List.exists_mem_of_length_pos h
    obtain ⟨h1, h2⟩ := List.mem_filter.mp ho
    obtain ⟨o1, o2⟩ := (leave_mem g).mp h1
    exact en_mono g (asc_nd o1.lt) (sub_iff.mp h2) lv (min_en o2)
/-- one empty lot exactly where a right order is there -/
theorem leave_one {R : Rw} {kd : Str} (g : Gt R) : leaveL R kd = [[]] ↔ hasO R kd = true := by
  have g0 := g.h0
  have w0 := g.w0
  have a0 : Asc (R.length + wd R) [] := ⟨.nil, fun k hk => by cases hk⟩
  have lv : leavB R.length (wd R) [] = true := by
    unfold leavB
    rw [Bool.and_eq_true, decide_eq_true_iff, decide_eq_true_iff]
    exact ⟨g0, w0⟩
  have en : EnL R kd [] = true ↔ hasO R kd = true := by
    unfold EnL
    rw [lv, Bool.true_and, eno_iff g lv, hasO_iff g]
    have st : ∀ l : List (Pr × Str × Pr), l.filter (stF (numS R.length []) (numW R.length [])) = l := fun l => List.filter_eq_self.mpr fun f _ => rfl
    constructor
    · rintro ⟨ys, pm, e⟩
      rw [st] at e
      exact ⟨ys, pm, e⟩
    · rintro ⟨ys, pm, e⟩
      exact ⟨ys, pm, by rw [st]; exact e⟩
  rw [← en]
  constructor
  · intro e
    exact min_en ((leave_mem g).mp (show [] ∈ leaveL R kd by rw [e]; exact List.mem_singleton.mpr rfl)).2
  · intro h
    have m0 : minB R kd [] = true := by unfold minB partsL; rw [h]; rfl
    have h0 : [] ∈ leaveL R kd := (leave_mem g).mpr ⟨a0, m0⟩
    have all : ∀ l, l ∈ leaveL R kd → l = [] := fun l hl => by
      obtain ⟨o1, o2⟩ := (leave_mem g).mp hl
      exact (min_anti g a0 o1 m0 o2 fun k hk => by cases hk).symm
    have so := leave_sorted (kd := kd) g
    match e : leaveL R kd with
    | [] => rw [e] at h0; cases h0
    | [x] => rw [all x (by rw [e]; exact List.mem_singleton.mpr rfl)]
    | x :: y :: t =>
      exfalso
      rw [e] at so
      have hx := all x (by rw [e]; simp)
      have hy := all y (by rw [e]; simp)
      exact bef_ne ((List.pairwise_cons.mp so).1 y (List.mem_cons_self ..)) (by rw [hx, hy])
end Pk
set_option Elab.async false
set_option linter.all false
set_option maxRecDepth 100000
set_option maxHeartbeats 1000000
namespace Pk
open PySem L2 PySem.Spec PyProof.Rows
/-- a def with one keyword-only parameter, called with it within a try (or where what it raises is let out) -/
theorem pe_kdS {X : Cx} {k j n : Nat} {ps : List Str} {kw : Str} {sp : Sp} {x : Str} {p pos : Pos} {e : Expr} {es : List Expr} {kws : List Keyword} {t tk : TA} {W : WX} (tw : Takes X W)
    (D : Dkw X.prog X.w X.K X.mg X.base (L2.CX X.prog X.w) x k ps n kw sp) (hr : Room j X.A) (l : k ≤ j) (ha : PA X (e :: es) t) (hkw : PK X kws tk) (hg : Gl X x := by rfl)
    (hall : (backToKw pos (keywordEach kws X.env)).all (·.1.isSome) = true := by rfl) (hks : (backToKw pos (keywordEach kws X.env)).filterMap (·.1) = [kw] := by rfl) (hdb : (x == ("__debug__" : Str)) = false := by decide)
    (he : starEach (e :: es) X.env = (false, eval e X.env) :: starEach es X.env := by rfl) (hpl : ((backTo pos (starEach (e :: es) X.env)).any (·.1) || (backToKw pos (keywordEach kws X.env)).any (·.1.isNone)) = false := by rfl) :
    PE X (.Call (.Name x p) (e :: es) kws pos) (tKwS n [kw].length sp (fun vs zs => vs ++ zs) (WE W) t tk) := by
  obtain ⟨f, fd, D⟩ := D
  exact pe_kwS D.ok (hr.mono l) D.at_ D.kp D.kb (fun σ => passAt tw σ) ha hkw hg hall hks hdb he hpl
/-- .. called without it -/
theorem pe_kd0 {X : Cx} {k j n : Nat} {ps : List Str} {kw : Str} {sp : Sp} {x : Str} {p pos : Pos} {e : Expr} {es : List Expr} {t : TA}
    (D : Dkw X.prog X.w X.K X.mg X.base CX0 x k ps n kw sp) (hr : Room j X.A) (l : k ≤ j) (ha : PA X (e :: es) t) (hg : Gl X x := by rfl) (hdb : (x == ("__debug__" : Str)) = false := by decide)
    (he : starEach (e :: es) X.env = (false, eval e X.env) :: starEach es X.env := by rfl) (hpl : (backTo pos (starEach es X.env)).any (·.1) = false := by rfl) :
    PE X (.Call (.Name x p) (e :: es) [] pos) (tCallSD sp [.str "even"] (fun _ => E0) t) := by
  obtain ⟨f, fd, D⟩ := D
  obtain ⟨ds, hd, hb⟩ := D.dd
  exact pe_callSD D.ok (hr.mono l) hg D.at_ D.kp hb hd (passN pass0) ha hdb he hpl
theorem r_callSD {sp : Sp} {dvs : List V} {E : L2.St → XK} {t : TA} {σ : L2.St} {H : Hp} {Q : VK} (h : t σ H fun vs H1 => sp (vs ++ dvs) H1 Q (E σ)) : tCallSD sp dvs E t σ H Q := h
end Pk
set_option Elab.async false
set_option linter.all false
set_option maxRecDepth 100000
set_option maxHeartbeats 4000000
namespace Pk
open PySem L2
local macro_rules | `(tactic| walk_at "rd") => `(tactic| repeat (first
  | with_reducible refine r_seq ?_ | with_reducible refine r_nxt ?_ | with_reducible refine r_asg ?_ | with_reducible refine r_to ?_ | with_reducible refine r_ret ?_ | with_reducible refine r_for ?_ | with_reducible refine r_lc ?_ | with_reducible refine r_lc2 ?_ | with_reducible refine r_rng1 ?_ | with_reducible refine r_list ?_ | with_reducible refine r_tupI ?_ | with_reducible refine r_drop ?_ | with_reducible refine r_ifs ?_
  | with_reducible refine r_op ?_ | with_reducible refine r_c ?_ | with_reducible refine r_var rfl ?_ | with_reducible refine r_var (by assumption) ?_ | with_reducible refine r_I0 ?_ | with_reducible refine r_un ?_ | with_reducible refine r_U ?_ | with_reducible refine r_make ?_ | with_reducible refine r_makeS ?_ | with_reducible refine r_ifE ?_ | with_reducible refine r_cm ?_ | with_reducible refine r_mkV rfl ?_ | with_reducible refine r_sub ?_
  | with_reducible refine r_nil ?_ | with_reducible refine r_cons ?_ | with_reducible refine r_cb ?_ | with_reducible refine r_sl ?_ | with_reducible refine r_noP ?_ | with_reducible refine r_part ?_ | with_reducible refine r_isI ?_ | with_reducible refine r_lst ?_ | with_reducible refine r_tup ?_ | with_reducible refine r_call ?_ | with_reducible refine r_callS ?_ | with_reducible refine r_sFldU ?_ | with_reducible refine r_chain ?_ | with_reducible refine r_enum ?_ | with_reducible refine r_zip ?_ | with_reducible refine r_rng3 ?_ | with_reducible refine r_gtup ?_ | with_reducible refine r_methU ?_
  | with_reducible refine r_test ?_ | with_reducible refine r_B ?_ | with_reducible refine r_and ?_ | with_reducible refine r_or ?_ | with_reducible refine r_not ?_ | with_reducible refine r_andV ?_ | with_reducible refine r_orV ?_ | with_reducible refine r_notV ?_ | with_reducible refine r_bl ?_ | with_reducible refine r_yes ?_ | with_reducible refine r_int ?_ | with_reducible refine r_is0 ?_ | with_reducible refine r_is1 ?_ | with_reducible refine iteT ?_ | with_reducible refine iteF ?_ | with_reducible refine ite_nF ?_ | with_reducible refine ite_nT ?_
  | with_reducible refine r_mod (by decide) ?_ | with_reducible refine r_div (by decide) (by decide) ?_ | with_reducible refine r_mulR (by decide) (by decide) ?_ | with_reducible refine r_mulL (by decide) (by decide) ?_ | with_reducible refine r_pow (by decide) (by decide) (by decide) ?_))
theorem mk_tb2 {K : PySem.W.Frag} {C CE : Addr} {H1 : Hp} {x dx : Addr} {v : V} {R : Rw} {Q : Hp → Prop} {E : XK} (nx : H1 x = none) (nd : H1 dx = none) (ne : dx ≠ x) (hv : Dp K H1 v (rowsD R)) (g : Gt R)
    (k : ∀ (H' G : Hp), Same H1 H' → TbX C G x R → Same G H' → Fresh H1 G → Q H') : spTbI K C CE [.ref x, v] (upd (upd H1 dx (.own x)) x (.ins C dx [])) (fun v H2 => v = .non ∧ Q H2) E := mk_tb (Q := fun _ H => Q H) nx nd ne hv g k
theorem pe_kd0L {X : Cx} {k j n : Nat} {ps : List Str} {kw : Str} {sp : Sp} {x : Str} {p pos : Pos} {e : Expr} {es : List Expr} {t : TA}
    (D : Dkw X.prog X.w X.K X.mg X.base (L2.CX X.prog X.w) x k ps n kw sp) (hr : Room j X.A) (l : k ≤ j) (ha : PA X (e :: es) t) (hg : Gl X x := by rfl) (hdb : (x == ("__debug__" : Str)) = false := by decide)
    (he : starEach (e :: es) X.env = (false, eval e X.env) :: starEach es X.env := by rfl) (hpl : (backTo pos (starEach es X.env)).any (·.1) = false := by rfl) :
    PE X (.Call (.Name x p) (e :: es) [] pos) (tCallSD sp [.str "even"] (fun _ => E0) t) := by
  obtain ⟨f, fd, D⟩ := D
  obtain ⟨ds, hd, hb⟩ := D.dd
  exact pe_callSD D.ok (hr.mono l) hg D.at_ D.kp hb hd (passN passL) ha hdb he hpl
theorem takesE0 {X : Cx} : Takes X (fun _ _ _ _ => False) := takes0
theorem LtsAt.dp {K : PySem.W.Frag} {m : Nat} {H0 H : Hp} {vs : List V} {ls : List (List Nat)} (h : LtsAt m H0 H vs ls) : DpAll K H vs (ls.map fun l => .list (l.map (lneD m))) := by
  induction h with
  | nil => exact .nil
  | cons _ e h _ ih => exact .cons (.lst (SqL.of e) h.dp) ih
theorem leave_ne {R : Rw} {kd : Str} (g : Gt R) : leaveL R kd ≠ [] := by
  have g0 := g.h0
  have w0 := g.w0
  -- all lines but the first of each sort
  obtain ⟨l, el⟩ : ∃ l, l = (List.range (R.length + wd R)).filter fun k => !decide (k = 0) && !decide (k = R.length) := ⟨_, rfl⟩
  have asc : Asc (R.length + wd R) l := by
    rw [el]
    exact ⟨List.Pairwise.filter _ List.pairwise_lt_range, fun k hk => List.mem_range.mp (List.mem_filter.mp hk).1⟩
  have ms : ∀ i : Nat, i < R.length → ((i : Int) ∈ numS R.length l ↔ i ≠ 0) := fun i hi => by
    rw [memS hi, el, List.mem_filter, List.mem_range, Bool.and_eq_true, Bool.not_eq_true', Bool.not_eq_true', decide_eq_false_iff_not, decide_eq_false_iff_not]
    omega
  have mw : ∀ j : Nat, j < wd R → ((j : Int) ∈ numW R.length l ↔ j ≠ 0) := fun j hj => by
    rw [memW, el, List.mem_filter, List.mem_range, Bool.and_eq_true, Bool.not_eq_true', Bool.not_eq_true', decide_eq_false_iff_not, decide_eq_false_iff_not]
    omega
  have lS : (numS R.length l).length < R.length := by
    apply Classical.byContradiction
    intro c
    have := kpS_none asc c
    have : 0 ∈ kp (numS R.length l) R.length := List.mem_filter.mpr ⟨List.mem_range.mpr g0, by rw [decide_eq_false (fun z => (ms 0 g0).mp z rfl)]; rfl⟩
    rw [kpS_none asc c] at this
    cases this
  have lW : (numW R.length l).length < wd R := by
    apply Classical.byContradiction
    intro c
    have : 0 ∈ kp (numW R.length l) (wd R) := List.mem_filter.mpr ⟨List.mem_range.mpr w0, by rw [decide_eq_false (fun z => (mw 0 w0).mp z rfl)]; rfl⟩
    rw [kpW_none asc c] at this
    cases this
  have lv : leavB R.length (wd R) l = true := by unfold leavB; rw [decide_eq_true lS, decide_eq_true lW]; rfl
  have st : ∀ z, z ∈ cells R → stz (numS R.length l) (numW R.length l) z = true → z = (0, 0) := fun z hz hs => by
    obtain ⟨i, j, rfl, hi, hj, _⟩ := cells_nat hz
    unfold stz at hs
    rw [Bool.and_eq_true, Bool.not_eq_true', Bool.not_eq_true', decide_eq_false_iff_not, decide_eq_false_iff_not, ms i hi, mw j hj] at hs
    have a : i = 0 := Classical.byContradiction fun q => hs.1 q
    have b : j = 0 := Classical.byContradiction fun q => hs.2 q
    subst a; subst b; rfl
  have one : (cells (woR R (numS R.length l) (numW R.length l))).length ≤ 1 := by
    rw [cells_wo lS, List.length_map]
    have nd : ((cells R).filter (stz (numS R.length l) (numW R.length l))).Nodup := (cells_nodup R).filter _
    cases e : (cells R).filter (stz (numS R.length l) (numW R.length l)) with
    | nil => exact Nat.zero_le _
    | cons a t =>
      cases t with
      | nil => exact Nat.le_refl _
      | cons b t =>
        exfalso
        rw [e] at nd
        have ha := List.mem_filter.mp (show a ∈ (cells R).filter _ by rw [e]; simp)
        have hb := List.mem_filter.mp (show b ∈ (cells R).filter _ by rw [e]; simp)
        rw [st a ha.1 ha.2, st b hb.1 hb.2] at nd
        exact (List.nodup_cons.mp nd).1 (List.mem_cons_self ..)
  have en : EnL R kd l = true := by
    unfold EnL enoB
    rw [lv, Bool.true_and, hasO_iff (woR_gt g lS lW)]
    refine ⟨_, List.Perm.refl _, ?_⟩
    refine way_allF (k := kd) ⟨cells_nodup _, fun z hz => hz, fun i z e => ?_⟩ _
    have il := (List.getElem?_eq_some_iff.mp e).1
    have i0 : i = 0 := by omega
    subst i0
    rw [List.take_zero, may_one (z := z) fun y => ?_]
    · exact List.mem_singleton.mpr rfl
    · rw [free_mem]
      constructor
      · rintro ⟨h1, _⟩
        obtain ⟨j, hj, ej⟩ := List.getElem_of_mem h1
        have j0 : j = 0 := by omega
        subst j0
        rw [← ej]
        exact (List.getElem?_eq_some_iff.mp e).2
      · rintro rfl
        exact ⟨List.mem_of_getElem? e, List.not_mem_nil⟩
  obtain ⟨o, o1, o2, o3, o4⟩ := min_ex _ _ (Nat.le_refl _) asc en
  intro z
  have : o ∈ leaveL R kd := by
    rw [leave_min g]
    have em : EnL R kd o = true := by unfold minB at o4; rw [Bool.and_eq_true] at o4; exact o4.2
    have lvo : leavB R.length (wd R) o = true := by unfold EnL at em; rw [Bool.and_eq_true] at em; exact em.1
    obtain ⟨a, b⟩ := leav_lt lvo
    have := num_len R.length o
    exact List.mem_flatMap.mpr ⟨o.length, List.mem_range.mpr (by omega), List.mem_filter.mpr ⟨lotsK_all _ o1 rfl, o4⟩⟩
  rw [z] at this
  cases this
theorem bef_lt (m : Nat) {a b : List Nat} (h : Bef a b) : PySem.W.dataLt (.tuple [.int (a.length : Int), lotD m a]) (.tuple [.int (b.length : Int), lotD m b]) = true := by
  rw [PySem.W.dataLt_tuple]
  rcases h with h | ⟨e, h2⟩
  · rw [PySem.W.dataLt_all_no rfl (by simp [PyData.eqv]; omega), PySem.W.dataLt_int]
    exact decide_eq_true (by omega)
  · rw [PySem.W.dataLt_all_yes rfl (by simp [PyData.eqv, e]), PySem.W.dataLt_all_no (lot_alike m a b) (by rw [lot_eqv]; exact decide_eq_false (bef_ne (.inr ⟨e, h2⟩))), lot_lt]
    exact h2
def spSort64 (K : PySem.W.Frag) : Sp := fun vs H Q _ => ∃ (a b : Addr) (tws ws : List V) (H0 : Hp) (R : Rw) (kd : Str), vs = [.ref a, .ref b] ∧ Gt R ∧ R.length + wd R ≤ 8 ∧ H a = some (.lst tws) ∧ LtsAt R.length H0 H tws (leaveL R kd) ∧ H b = some (.lst ws) ∧ LnsAt R.length H ws (List.range (R.length + wd R)) ∧ ∀ H' : Hp, Same H H' → Q (.bl true) H'
abbrev slSort64 : Stmt := top 68
section
variable {P : Program} {w : World} {K : PySem.W.Frag} {mg : Str → Option Value} {base : Heap} {f : Addr} {fd : FuncData}
theorem sclSort64 : FnScope ["_law_told", "_law_lines", "_law_at", "_law_lot", "_law_other"] ["_law_told", "_law_lines"] (defScope slSort64) := ⟨rfl, rfl, rfl, by decide +kernel, rfl, by decide +kernel, by decide +kernel⟩
theorem ok_sort64 (F : Fun K "_law_is_sorted" "_law_is_sorted" slSort64 f fd) (T : Bt mg) (DI : Df P w K mg base CX0 "_law_is_lot" 1 ["_law_lot", "_law_lines"] (spIsLot K)) (DC : Df P w K mg base CX0 "_law_contains" 1 ["_law_lot", "_law_part"] spCont64) : FnOk P w K mg base CX0 2 f fd ["_law_told", "_law_lines"] (spSort64 K) := by
  refine F.ok sclSort64 (fun vs H Q E h => ?_) (fun cdv A outer s H vs Q E hr h => ?_)
  · obtain ⟨a, b, tws, ws, H0, R, kd, rfl, _⟩ := h
    rfl
  · obtain ⟨a, b, tws, ws, H0, R, kd, rfl, g, N8, ha, hT, hb, hw, kk⟩ := h
    refine ⟨_, (pss_cons (ps_if (PW.pt (pw_or (pt_not (pt_val (pe_callB call_isi (by rfl) T.isinstance (by decide +kernel) (pa_cons (pv 0) (pa_cons (pe_bltn (v := .ty "list") (by rfl) T.list (by decide +kernel) rfl) pa_nil))))) (pw_or1 (pt_cmpR op_eq (pe_callB cl_len (by rfl) T.len (by decide +kernel) (pa_cons (pv 0) pa_nil)) pe_int (nomark _))))) (pss_one (ps_ret pe_bl)) pss_nil)
  (pss_cons (ps_for PassesOwn.never rfl (pi_enum (by rfl) T.enumerate (pa_cons (pv 0) pa_nil)) (pg_tup (by rfl) (pgs_cons (pg_name (i := 2) sclSort64.nd rfl (Or.inl rfl)) (pgs_cons (pg_name (i := 3) sclSort64.nd rfl (Or.inl rfl)) pgs_nil))) (pss_cons (ps_if (pt_not (pt_val (pe_df DI hr (by decide) (pa_cons (pv 3) (pa_cons (pv 1) pa_nil))))) (pss_one (ps_ret pe_bl)) pss_nil)
  (pss_cons (ps_if (PW.pt (pw_and (pt_cmpR op_gt (pv 2) pe_int (nomark _)) (pw_and1 (pt_cmpR (op_geD hr.units) (pe_tup (pa_cons (pe_callB cl_len (by rfl) T.len (by decide +kernel) (pa_cons (pe_ix ix_list (pv 0) (pe_op op_sub (pv 2) pe_int) (fun _ _ => rfl)) pa_nil)) (pa_cons (pe_ix ix_list (pv 0) (pe_op op_sub (pv 2) pe_int) (fun _ _ => rfl)) pa_nil))) (pe_tup (pa_cons (pe_callB cl_len (by rfl) T.len (by decide +kernel) (pa_cons (pv 3) pa_nil)) (pa_cons (pv 3) pa_nil))) (nomark _))))) (pss_one (ps_ret pe_bl)) pss_nil)
  (pss_one (ps_for PassesOwn.never rfl (pi_list (pe_slice sl_list (pv 0) po_none (po_some (pv 2)))) (pg_name (i := 4) sclSort64.nd rfl (Or.inl rfl)) (pss_one (ps_if (PW.pt (pw_or (pt_val (pe_df DC hr (by decide) (pa_cons (pv 3) (pa_cons (pv 4) pa_nil)))) (pw_or1 (pt_val (pe_df DC hr (by decide) (pa_cons (pv 4) (pa_cons (pv 3) pa_nil))))))) (pss_one (ps_ret pe_bl)) pss_nil)))))))
  (pss_one (ps_ret pe_bl)))), ?_⟩
    have tl := hT.length
    have so := leave_sorted (kd := kd) g
    have ne := leave_ne (kd := kd) g
    have mem : ∀ {i : Nat} {l : List Nat}, (leaveL R kd)[i]? = some l → Asc (R.length + wd R) l ∧ minB R kd l = true := fun e => (leave_mem g).mp (List.mem_of_getElem? e)
    walk_at "rd"
    refine r_isi (Dp.kind (.lst (SqL.of ha) hT.dp)) (by decide +kernel : kitB "list" "list" = some true) ?_
    refine ⟨_, rfl, ifF rfl ?_⟩
    walk_at "rd"
    refine r_lenL (SqL.of ha) ?_
    walk_at "rd"
    refine r_eq rfl ?_
    refine ⟨_, rfl, ifF (decide_eq_false fun z => ?_) ?_⟩
    · have := V.int.inj z
      have := List.length_pos_iff.mpr ne
      omega
    walk_at "rd"
    refine ⟨a, tws, rfl, SqL.of ha, for_it walk_enum (fun i σ H' => ∃ v2 v3 v4, σ = [some (.ref a), some (.ref b), v2, v3, v4] ∧ Same H H') ⟨_, _, _, rfl, Same.refl H⟩ (fun i σ H' _ z => by obtain ⟨_, _, _, _, z⟩ := z; exact SqL.of (z _ _ ha)) ?_ ?_⟩
    · rintro i y σ H2 H3 hi ⟨v2, v3, v4, rfl, s2⟩ ⟨t, i', y', rfl, ht, rfl, e1, e2⟩
      cases (Option.some.inj e1)
      have e2 : tws[i]? = some y' := e2
      refine r_gtup ⟨t, _, rfl, SqT.of upd_same, rfl, _, _, rfl, ?_⟩
      have s3' := Same.up (o := .tup [V.int (i : Int), y']) (Same.refl H2) ht
      have s3 := s2.trans s3'
      obtain ⟨H3, eH3⟩ : ∃ H3, H3 = upd H2 t (.tup [V.int (i : Int), y']) := ⟨_, rfl⟩
      rw [← eH3] at s3 ⊢
      obtain ⟨la, us, l, el, rfl, _, hla, hl⟩ := (hT.same s3).at e2
      obtain ⟨asc, mn⟩ := mem el
      have al := asc.len
      have il : i < (leaveL R kd).length := (List.getElem?_eq_some_iff.mp el).1
      walk_at "rd"
      refine ⟨_, _, rfl, ?_⟩
      walk_at "rd"
      refine ⟨rfl, ?_⟩
      walk_at "rd"
      refine ⟨la, b, us, ws, R.length, R.length + wd R, l, rfl, hla, hl, asc, s3 _ _ hb, hw.same s3, fun H4 s4' => ?_⟩
      have s4 := s3.trans s4'
      refine ⟨_, rfl, ifF rfl ?_⟩
      have seq : ∀ {a b : TS} {D : Ends} {σ : L2.St} {H : Hp}, a { D with nx := b D } σ H → tSeq a b D σ H := fun h => h
      dsimp only [tNext]
      refine seq ?_
      refine ifs_cut (fun σ' H' => σ' = [some (.ref a), some (.ref b), some (.int (i : Int)), some (.ref la), v4] ∧ Same H H') ?_ ?_
      · intro N hN
        walk_at "rd"
        cases i with
        | zero =>
          refine ifF (by decide) ?_
          exact hN _ _ ⟨rfl, s4⟩
        | succ i =>
          refine ifT (decide_eq_true (by omega)) ?_
          obtain ⟨w0, ew⟩ : ∃ w0, tws[i]? = some w0 := ⟨_, List.getElem?_eq_getElem (by omega)⟩
          obtain ⟨pa, pus, pl, ep, rfl, _, hpa, hpl⟩ := (hT.same s4).at ew
          have ix : ((i + 1 : Nat) : Int) - 1 = (i : Int) := by omega
          walk_at "rd"
          rw [ix]
          refine r_ixL (SqL.of (s4 _ _ ha)) (atI_nat ew) ?_
          walk_at "rd"
          refine r_lenL (SqL.of hpa) ?_
          walk_at "rd"
          rw [ix]
          refine r_ixL (SqL.of (s4 _ _ ha)) (atI_nat ew) ?_
          walk_at "rd"
          refine ⟨by show 2 ≤ sizeLine; decide, fun t5 n5 => ?_⟩
          have s5' := Same.up (o := .tup [V.int (pus.length : Int), V.ref pa]) (Same.refl H4) n5
          have ht5 : upd H4 t5 (.tup [V.int (pus.length : Int), V.ref pa]) t5 = some (.tup [V.int (pus.length : Int), V.ref pa]) := upd_same
          obtain ⟨H5, eH5⟩ : ∃ H5, H5 = upd H4 t5 (.tup [V.int (pus.length : Int), V.ref pa]) := ⟨_, rfl⟩
          rw [← eH5] at s5' ht5 ⊢
          have s35 := s4'.trans s5'
          walk_at "rd"
          refine r_lenL (SqL.of (s35 _ _ hla)) ?_
          walk_at "rd"
          refine ⟨by show 2 ≤ sizeLine; decide, fun t6 n6 => ?_⟩
          have s6' := Same.up (o := .tup [V.int (us.length : Int), V.ref la]) (Same.refl H5) n6
          have ht6 : upd H5 t6 (.tup [V.int (us.length : Int), V.ref la]) t6 = some (.tup [V.int (us.length : Int), V.ref la]) := upd_same
          obtain ⟨H6, eH6⟩ : ∃ H6, H6 = upd H5 t6 (.tup [V.int (us.length : Int), V.ref la]) := ⟨_, rfl⟩
          rw [← eH6] at s6' ht6 ⊢
          have s46 := s5'.trans s6'
          have s36 := s4'.trans s46
          have pll := hpl.length
          have lul := hl.length
          have bf : Bef pl l := by
            obtain ⟨h1, q1⟩ := List.getElem?_eq_some_iff.mp ep
            obtain ⟨h2, q2⟩ := List.getElem?_eq_some_iff.mp el
            have := List.pairwise_iff_getElem.mp so i (i + 1) h1 h2 (by omega)
            rwa [q1, q2] at this
          refine ⟨.tuple [.int (pl.length : Int), lotD R.length pl], .tuple [.int (l.length : Int), lotD R.length l], ⟨?_, ?_, ?_, (fun z => by cases z), ?_⟩, ?_⟩
          · rw [← pll]; exact .tup (SqT.of (s6' _ _ ht5)) (.cons (.int _) (.cons (.lst (SqL.of (s46 _ _ hpa)) (hpl.same s46).dp) .nil))
          · rw [← lul]; exact .tup (SqT.of ht6) (.cons (.int _) (.cons (.lst (SqL.of (s36 _ _ hla)) (hl.same s36).dp) .nil))
          · show (PySem.W.alike (.int (pl.length : Int)) (.int (l.length : Int)) && (PySem.W.alike (lotD R.length pl) (lotD R.length l) && PySem.W.alikeAll [] [])) = true
            rw [lot_alike]; rfl
          · have := deep_lnes R.length pl
            simp only [PyData.depth, PyData.depthAll]; omega
          · dsimp only
            rw [bef_lt R.length bf]
            refine ⟨_, rfl, ifF rfl ?_⟩
            exact hN _ _ ⟨rfl, s4.trans s46⟩
      rintro σ' H5 ⟨rfl, s5⟩
      walk_at "rd"
      refine ⟨a, tws, rfl, SqL.of (s5 _ _ ha), fun q1 n1 => ?_⟩
      rw [cutAt (show i ≤ tws.length by omega)]
      have u1 := Same.up (o := .lst (tws.take i)) (Same.refl H5) n1
      have hq1 : upd H5 q1 (.lst (tws.take i)) q1 = some (.lst (tws.take i)) := upd_same
      obtain ⟨H6, eH6⟩ : ∃ H6, H6 = upd H5 q1 (.lst (tws.take i)) := ⟨_, rfl⟩
      rw [← eH6] at u1 hq1 ⊢
      have s6 := s5.trans u1
      refine ⟨q1, rfl, ⟨_, SqL.of hq1⟩, for_it walk_list (fun j σ H' => ∃ v4, σ = [some (.ref a), some (.ref b), some (.int (i : Int)), some (.ref la), v4] ∧ Same H6 H') ⟨_, rfl, Same.refl H6⟩ (fun j σ H' _ z => by obtain ⟨_, _, z⟩ := z; exact SqL.of (z _ _ hq1)) ?_ ?_⟩
      · rintro j y σ H7 H8 hj ⟨v4, rfl, s8⟩ ⟨rfl, ey⟩
        rw [List.length_take] at hj
        rw [List.getElem?_take_of_lt (by omega)] at ey
        have s08 := s6.trans s8
        obtain ⟨oa, ous, o, eo, rfl, _, hoa, hol⟩ := (hT.same s08).at ey
        obtain ⟨la2, us2, l2, el2, e3, _, hla2, hl2⟩ := (hT.same s08).at e2
        cases e3
        rw [el] at el2
        cases el2
        obtain ⟨asco, mno⟩ := mem eo
        have ao := asco.len
        have nb : Bef o l := by
          obtain ⟨h1, q1⟩ := List.getElem?_eq_some_iff.mp eo
          obtain ⟨h2, q2⟩ := List.getElem?_eq_some_iff.mp el
          have := List.pairwise_iff_getElem.mp so j i h1 h2 (by omega)
          rwa [q1, q2] at this
        have n1 : subB l o = false := by
          rw [← Bool.not_eq_true, sub_iff]
          exact fun h => bef_ne nb (min_anti g asco asc mno mn h)
        have n2 : subB o l = false := by
          rw [← Bool.not_eq_true, sub_iff]
          exact fun h => bef_ne nb (min_anti g asc asco mn mno h).symm
        refine ⟨_, rfl, ?_⟩
        walk_at "rd"
        refine ⟨la, oa, us2, ous, R.length, l, o, rfl, hla2, hl2, hoa, hol, by omega, fun H9 s9 => ?_⟩
        rw [n1]
        refine ⟨_, rfl, ifF rfl ?_⟩
        walk_at "rd"
        refine ⟨oa, la, ous, us2, R.length, o, l, rfl, s9 _ _ hoa, hol.same s9, s9 _ _ hla2, hl2.same s9, by omega, fun H10 s10 => ?_⟩
        rw [n2]
        refine ⟨_, rfl, ifF rfl ?_⟩
        exact ⟨_, rfl, s8.trans (s9.trans s10)⟩
      · rintro σ H7 ⟨v4, rfl, s7⟩
        exact ⟨_, _, _, rfl, s6.trans s7⟩
    · rintro σ H2 ⟨v2, v3, v4, rfl, s2⟩
      walk_at "rd"
      exact kk H2 s2
end
end Pk
set_option Elab.async false
set_option linter.all false
set_option maxRecDepth 100000
set_option maxHeartbeats 4000000
namespace Pk
open PySem L2
local macro_rules | `(tactic| walk_at "rd") => `(tactic| repeat (first
  | with_reducible refine r_seq ?_ | with_reducible refine r_nxt ?_ | with_reducible refine r_asg ?_ | with_reducible refine r_to ?_ | with_reducible refine r_ret ?_ | with_reducible refine r_for ?_ | with_reducible refine r_lc ?_ | with_reducible refine r_lc2 ?_ | with_reducible refine r_rng1 ?_ | with_reducible refine r_list ?_ | with_reducible refine r_tupI ?_ | with_reducible refine r_drop ?_ | with_reducible refine r_ifs ?_
  | with_reducible refine r_op ?_ | with_reducible refine r_c ?_ | with_reducible refine r_var rfl ?_ | with_reducible refine r_var (by assumption) ?_ | with_reducible refine r_I0 ?_ | with_reducible refine r_un ?_ | with_reducible refine r_U ?_ | with_reducible refine r_make ?_ | with_reducible refine r_makeS ?_ | with_reducible refine r_ifE ?_ | with_reducible refine r_cm ?_ | with_reducible refine r_mkV rfl ?_ | with_reducible refine r_sub ?_
  | with_reducible refine r_nil ?_ | with_reducible refine r_cons ?_ | with_reducible refine r_cb ?_ | with_reducible refine r_sl ?_ | with_reducible refine r_noP ?_ | with_reducible refine r_part ?_ | with_reducible refine r_isI ?_ | with_reducible refine r_lst ?_ | with_reducible refine r_tup ?_ | with_reducible refine r_call ?_ | with_reducible refine r_callS ?_ | with_reducible refine r_sFldU ?_ | with_reducible refine r_chain ?_ | with_reducible refine r_enum ?_ | with_reducible refine r_zip ?_ | with_reducible refine r_rng3 ?_ | with_reducible refine r_gtup ?_ | with_reducible refine r_methU ?_
  | with_reducible refine r_test ?_ | with_reducible refine r_B ?_ | with_reducible refine r_and ?_ | with_reducible refine r_or ?_ | with_reducible refine r_not ?_ | with_reducible refine r_andV ?_ | with_reducible refine r_orV ?_ | with_reducible refine r_notV ?_ | with_reducible refine r_bl ?_ | with_reducible refine r_yes ?_ | with_reducible refine r_int ?_ | with_reducible refine r_is0 ?_ | with_reducible refine r_is1 ?_ | with_reducible refine iteT ?_ | with_reducible refine iteF ?_ | with_reducible refine ite_nF ?_ | with_reducible refine ite_nT ?_
  | with_reducible refine r_mod (by decide) ?_ | with_reducible refine r_div (by decide) (by decide) ?_ | with_reducible refine r_mulR (by decide) (by decide) ?_ | with_reducible refine r_mulL (by decide) (by decide) ?_ | with_reducible refine r_pow (by decide) (by decide) (by decide) ?_))
/-! ### the law, from its end -/
def spLaw (K : PySem.W.Frag) : Sp := fun vs H Q _ => ∃ (l : Addr) (ns : List Int), vs = [.ref l] ∧ SqL K H l (ns.map V.int) ∧ ns.length ≤ 63 ∧ ∀ H' : Hp, Q (.bl true) H'
abbrev slaw : Stmt := top 69
abbrev nmLaw : List Str := ["_law_script", "_law_head", "_law_m", "_law_n", "_law_grid_here", "_law_sort", "_law_lines", "_law_table", "_law_told", "_law_lots", "_law_line", "_law_lot", "_law_due", "_law_held", "_law_remains", "_law_i", "_law_j", "_law_part"]
theorem sclaw : FnScope nmLaw ["_law_script"] (defScope slaw) := ⟨rfl, rfl, rfl, by decide +kernel, rfl, by decide +kernel, by decide +kernel⟩
abbrev xLaw (P : Program) (w : World) (K : PySem.W.Frag) (mg : Str → Option Value) (base : Heap) (f : Addr) (cdv : Value) (A : Around) (outer : List Env) (s : Shared) (H0 : Hp) (E : XK) : Cx := (cxOf CX0 P w K mg base nmLaw "law" (defScope slaw) f cdv A outer s H0 E).nox
structure LD (P : Program) (w : World) (K : PySem.W.Frag) (mg : Str → Option Value) (base : Heap) (C CE CL CB : Addr) : Prop where
  lDraws : Df P w K mg base CX0 "_law_draws" 2 ["_law_script", "_law_spot", "_law_sizes"] (spDraws K)
  lGrid : Df P w K mg base CX0 "_law_grid" 3 ["_law_script", "_law_spot", "_law_m", "_law_n", "_law_style", "_law_share"] (spGrid K)
  lCopy : Df P w K mg base CX0 "_law_copy" 1 ["_law_grid_here"] (spLCpy K)
  lIsSorted : Df P w K mg base CX0 "_law_is_sorted" 2 ["_law_told", "_law_lines"] (spSort64 K)
  lIsEnough : Df P w K mg base CX0 "_law_is_enough" 4 ["_law_grid_here", "_law_lot", "_law_sort"] (spEno K)
  lContains : Df P w K mg base CX0 "_law_contains" 1 ["_law_lot", "_law_part"] spCont64
  lRest : Df P w K mg base CX0 "_law_rest" 1 ["_law_grid_here", "_law_lot"] (spRest K)
  leave : Dkw P w K mg base (L2.CX P w) "leave_outs" 13 ["table", "kind"] 1 "kind" (spLeave K C CL CB)
  ho : Dkw P w K mg base CX0 "has_order" 7 ["table", "kind"] 1 "kind" (spHasOrd C)
  made : Dk P w K mg base (L2.CX P w) "Table" 8 ["self", "rows"] (spTbI K C CE) C
  A : TbC K C
  rows : ∃ f fd, Meth K C "rows" f ∧ FnOk P w K mg base CX0 1 f fd ["self"] (spTRws C) ∧ Binds K fd ["self"] []
theorem leave_big {R : Rw} {kd : Str} (g : Gt R) (h : R.length + wd R ≤ 8) : (leaveL R kd).length ≤ 400000 := by
  have := foldF_len R kd (lotsU (R.length + wd R) (R.length + wd R + 1)) []
  have e : (leaveL R kd).length ≤ ([] : List (List Nat)).length + (lotsU (R.length + wd R) (R.length + wd R + 1)).length := this
  have := lotsU_few h (R.length + wd R + 1)
  rw [List.length_nil] at e
  omega
section
variable {P : Program} {w : World} {K : PySem.W.Frag} {mg : Str → Option Value} {base : Heap} {C CE CL CB : Addr} {f : Addr} {fd : FuncData} {cdv : Value} {A : Around} {outer : List Env} {s : Shared} {H0 : Hp} {E : XK}
theorem seg11 (hr : Room 39 (xLaw P w K mg base f cdv A outer s H0 E).A) (T : Bt mg) (D : LD P w K mg base C CE CL CB) : ∃ u : TS, PSs (xLaw P w K mg base f cdv A outer s H0 E) ((defBody slaw).drop 11) u ∧
    ∀ {p x ra to lo : Addr} {G Ht Hl : Hp} {R : Rw} {kd : Str} {es tws lts : List V} {F : List (List Nat)} (En : Ends) (H : Hp) (v0 v1 v2 v3 v6 v10 v11 v12 v13 v14 v15 v16 v17 : Option V), RS K H ra es R → Gt R → R.length + wd R ≤ 8 → (cells R).length ≤ 16 → TbX C G x R → Same G H → G p = none → (∃ o, H p = some o) → KD kd → H to = some (.lst tws) → LtsAt R.length Ht H tws (leaveL R kd) → H lo = some (.lst lts) → LtsAt R.length Hl H lts F → (∀ l, l ∈ F → Asc (R.length + wd R) l) → (∀ H', En.rt (.bl true) H') →
      u En [v0, v1, v2, v3, some (.ref ra), some (.str kd), v6, some (.ref x), some (.ref to), some (.ref lo), v10, v11, v12, v13, v14, v15, v16, v17] H := by
  obtain ⟨fR, fdR, mR, oR, bR⟩ := D.rows
  have hr1 := hr.mono (show 1 ≤ 39 by decide)
  refine ⟨_, (pss_cons (ps_for PassesOwn.never rfl (pi_list (pv 9)) (pg_name (i := 11) sclaw.nd rfl (Or.inr rfl)) (pss_cons (ps_set (i := 12) sclaw.nd rfl (Or.inl rfl) (pe_df D.lIsEnough hr (by decide) (pa_cons (pv 4) (pa_cons (pv 11) (pa_cons (pv 5) pa_nil)))))
  (pss_cons (ps_setLc (i := 13) (own := [("_law_part", 17)]) (g := gName 17) rfl sclaw.nd rfl rfl (sw_true rfl rfl rfl (by decide +kernel)) (pi_list (pv 8)) (blkOk_by (own := [("_law_part", 17)]) (N := nmLaw) (sc := defScope slaw) (by decide +kernel)) (fun _ _ _ _ _ => pg_name (i := 17) sclaw.nd rfl (Or.inl rfl)) (fun _ _ _ _ _ => pts_one (pt_val (pe_df D.lContains hr (by decide) (pa_cons (pv 11) (pa_cons (pv 17) pa_nil))))) (fun _ _ _ _ _ => (pv 17)))
  (pss_cons (ps_set (i := 14) sclaw.nd rfl (Or.inl rfl) (pe_and (pe_cmpR op_gt (pe_callB cl_len (by rfl) T.len (by decide +kernel) (pa_cons (pe_df D.lRest hr (by decide) (pa_cons (pv 4) (pa_cons (pv 11) pa_nil))) pa_nil)) pe_int (nomark _)) (pe_one (pe_cmpR op_gt (pe_callB cl_len (by rfl) T.len (by decide +kernel) (pa_cons (pe_ix ix_list (pe_df D.lRest hr (by decide) (pa_cons (pv 4) (pa_cons (pv 11) pa_nil))) pe_int (fun _ _ => rfl)) pa_nil)) pe_int (nomark _)))))
  (pss_one (ps_if (pt_cmpR op_ne (pv 12) (pe_and (pv 14) (pe_one (pe_cmpR op_gt (pe_callB cl_len (by rfl) T.len (by decide +kernel) (pa_cons (pv 13) pa_nil)) pe_int (nomark _)))) (nomark _)) (pss_one (ps_ret pe_bl)) pss_nil))))))
  (pss_one (ps_ret (pe_and (pe_cmpR op_eq (pe_cmpR (op_eqD hr.units) (pv 8) (pe_lst (pa_cons (pe_lst pa_nil) pa_nil)) (nomark _)) (pe_kd D.ho hr (by decide) (pa_cons (pv 7) pa_nil) (pk_cons (pv 5) pk_nil)) (nomark _)) (pe_one (pe_cmpR (op_eqD hr.units) (pe_meth0 (pv 7) D.A.O.cl mR oR hr1 bR .nil pass0) (pv 4) (nomark _))))))), ?_⟩
  intro p x ra to lo G Ht Hl R kd es tws lts F En H v0 v1 v2 v3 v6 v10 v11 v12 v13 v14 v15 v16 v17 rs g N8 c16 t sG off hp hk hto hT hlo hF asF k
  have tl := hT.length
  walk_at "rd"
  refine ⟨lo, rfl, ⟨_, SqL.of hlo⟩, for_it walk_list (fun i σ H' => ∃ w11 w12 w13 w14 w17, σ = [v0, v1, v2, v3, some (.ref ra), some (.str kd), v6, some (.ref x), some (.ref to), some (.ref lo), v10, w11, w12, w13, w14, v15, v16, w17] ∧ Same H H') ⟨_, _, _, _, _, rfl, Same.refl H⟩ (fun i σ H' _ z => by obtain ⟨_, _, _, _, _, _, z⟩ := z; exact SqL.of (z _ _ hlo)) ?_ ?_⟩
  · rintro i y σ H2 H3 hi ⟨w11, w12, w13, w14, w17, rfl, s3⟩ ⟨rfl, ey⟩
    obtain ⟨a, us, l, el, rfl, _, ha, hl⟩ := (hF.same s3).at ey
    have asc := asF l (List.mem_of_getElem? el)
    have al := asc.len
    refine ⟨_, rfl, ?_⟩
    walk_at "rd"
    refine ⟨ra, a, es, us, R, l, kd, rfl, rs.same s3, g, c16, ha, hl, asc, fun H4 s4' => ?_⟩
    have s4 := s3.trans s4'
    walk_at "rd"
    refine ⟨to, rfl, ⟨_, SqL.of (s4 _ _ hto)⟩, fun D6 nD6 => ?_⟩
    refine lc_any walk_list (fun j H' => Same H4 H' ∧ ∃ gs2, H' D6 = some (.lst gs2) ∧ gs2.length = (((leaveL R kd).take j).filter (subB l)).length) ⟨Same.up (Same.refl H4) nD6, [], upd_same, rfl⟩ (fun j H' _ z => SqL.of (z.1 _ _ (s4 _ _ hto))) ?_ ?_
    · rintro j y2 H50 H5 hj ⟨s5, gs2, hg2, gl⟩ ⟨rfl, ey2⟩
      obtain ⟨pa, pvs, pl2, ep, rfl, _, hpa, hpl⟩ := (hT.same (s4.trans s5)).at ey2
      obtain ⟨ascp, _⟩ := (leave_mem g).mp (List.mem_of_getElem? ep)
      have apl := ascp.len
      have tk : (leaveL R kd).take (j + 1) = (leaveL R kd).take j ++ [pl2] := by rw [List.take_add_one, ep]; rfl
      walk_at "rd"
      refine ⟨rfl, ?_⟩
      walk_at "rd"
      refine ⟨a, pa, us, pvs, R.length, l, pl2, rfl, s5 _ _ (s4' _ _ ha), hl.same (s4'.trans s5), hpa, hpl, by omega, fun H6 s6 => ?_⟩
      refine ⟨_, rfl, ?_⟩
      by_cases c : subB l pl2 = true
      · refine ifT c ?_
        walk_at "rd"
        refine ⟨gs2, s6 _ _ hg2, Nat.lt_of_le_of_lt (show gs2.length ≤ 400000 from by
          rw [gl]
          refine Nat.le_trans (List.length_filter_le _ _) ?_
          rw [List.length_take]
          have := leave_big (kd := kd) g N8
          omega) (by decide), Same.upOff (s5.trans s6) nD6, _, upd_same, ?_⟩
        rw [tk, List.filter_append, List.filter_cons_of_pos c, List.length_append, List.length_append, gl]; rfl
      · refine ifF (by simpa using c) ?_
        refine ⟨s5.trans s6, gs2, s6 _ _ hg2, ?_⟩
        rw [tk, List.filter_append, List.filter_cons_of_neg c, gl]; simp
    · rintro H5 ⟨s5', gs2, hg2, gl⟩
      rw [tl, List.take_of_length_le (Nat.le_refl _)] at gl
      have s35 := s4'.trans s5'
      have s5 := s3.trans s35
      walk_at "rd"
      refine ⟨ra, a, es, us, R, l, rfl, rs.same s5, g, s35 _ _ ha, hl.same s35, fun r H6 nr r6 => ?_⟩
      obtain ⟨s6', fs, rl, _⟩ := r6.rl
      have fl := rl.len
      rw [wo_len] at fl
      have s56 := s35.trans s6'
      walk_at "rd"
      refine r_lenL (SqL.of rl.at_) ?_
      walk_at "rd"
      rw [fl]
      have e1 : decide ((0 : Int) < ((kp (numS R.length l) R.length).length : Nat)) = decide ((numS R.length l).length < R.length) := decide_eq_decide.mpr ⟨fun z => by
        apply Classical.byContradiction
        intro c
        rw [kpS_none asc c] at z
        exact absurd z (by decide), fun z => by have := kp_pos z; omega⟩
      rw [e1]
      have held := en_held (kd := kd) g asc
      have lvd : leavB R.length (wd R) l = (decide ((numS R.length l).length < R.length) && decide ((numW R.length l).length < wd R)) := rfl
      by_cases c1 : (numS R.length l).length < R.length
      · refine ifT (decide_eq_true c1) ?_
        have p1 := kp_pos c1
        walk_at "rd"
        refine ⟨ra, a, es, us, R, l, rfl, rs.same (s5.trans s6'), g, s56 _ _ ha, hl.same s56, fun r2 H7 nr2 r7 => ?_⟩
        obtain ⟨s7', fs2, rl2, _⟩ := r7.rl
        have fl2 := rl2.len
        rw [wo_len] at fl2
        obtain ⟨v0', e0⟩ : ∃ v, fs2[0]? = some v := ⟨_, List.getElem?_eq_getElem (show 0 < fs2.length by omega)⟩
        obtain ⟨b, rfl, hb⟩ := rl2.row 0 _ e0
        walk_at "rd"
        refine r_ixL (SqL.of rl2.at_) (atI_nat (j := 0) e0) ?_
        walk_at "rd"
        refine r_lenL (SqL.of hb) ?_
        have rowl : (((woR R (numS R.length l) (numW R.length l)).getD 0 []).map pV).length = (kp (numW R.length l) (wd R)).length := by
          rw [List.length_map, List.getD_eq_getElem?_getD]
          unfold woR woP
          rw [List.getElem?_map, List.getElem?_eq_getElem p1]
          show (woRow R _ _ _).length = _
          unfold woRow
          rw [List.length_map]
        rw [rowl]
        walk_at "rd"
        have e2 : decide ((0 : Int) < ((kp (numW R.length l) (wd R)).length : Nat)) = decide ((numW R.length l).length < wd R) := decide_eq_decide.mpr ⟨fun z => by
          apply Classical.byContradiction
          intro c
          rw [kpW_none asc c] at z
          exact absurd z (by decide), fun z => by have := kp_pos z; omega⟩
        rw [e2]
        rw [lvd, decide_eq_true c1, Bool.true_and] at held
        by_cases c2 : (numW R.length l).length < wd R
        · rw [decide_eq_true c2] at held ⊢
          refine ifT rfl ?_
          walk_at "rd"
          refine r_lenL (SqL.of ((s6'.trans s7') _ _ hg2)) ?_
          walk_at "rd"
          rw [gl]
          have e3 : decide ((0 : Int) < ((((leaveL R kd).filter (subB l)).length : Nat) : Int)) = decide (0 < ((leaveL R kd).filter (subB l)).length) := decide_eq_decide.mpr (by omega)
          rw [Bool.true_and] at held
          rw [e3, ← held]
          refine r_ne rfl ?_
          refine ⟨_, rfl, ifF (by simp) ?_⟩
          exact ⟨_, _, _, _, _, rfl, s5.trans (s6'.trans s7')⟩
        · rw [decide_eq_false c2] at held ⊢
          refine ifF rfl ?_
          walk_at "rd"
          refine r_ne rfl ?_
          rw [show EnL R kd l = false from held]
          refine ⟨_, rfl, ifF rfl ?_⟩
          exact ⟨_, _, _, _, _, rfl, s5.trans (s6'.trans s7')⟩
      · refine ifF (decide_eq_false c1) ?_
        rw [lvd, decide_eq_false c1, Bool.false_and] at held
        walk_at "rd"
        refine r_ne rfl ?_
        rw [show EnL R kd l = false from held]
        refine ⟨_, rfl, ifF rfl ?_⟩
        exact ⟨_, _, _, _, _, rfl, s5.trans s6'⟩
  · rintro σ H2 ⟨w11, w12, w13, w14, w17, rfl, s2⟩
    obtain ⟨_, dx2, _, _, _, ho, _, _⟩ := id t
    walk_at "rd"
    refine ⟨Nat.zero_le _, fun q1 n1 => ?_⟩
    have u1 := Same.up (o := .lst []) (Same.refl H2) n1
    have hq1 : upd H2 q1 (.lst []) q1 = some (.lst []) := upd_same
    obtain ⟨H3, eH3⟩ : ∃ H3, H3 = upd H2 q1 (.lst []) := ⟨_, rfl⟩
    rw [← eH3] at u1 hq1 ⊢
    walk_at "rd"
    refine ⟨by show 1 ≤ sizeLine; decide, fun q2 n2 => ?_⟩
    have u2 := Same.up (o := .lst [V.ref q1]) (Same.refl H3) n2
    have hq2 : upd H3 q2 (.lst [V.ref q1]) q2 = some (.lst [V.ref q1]) := upd_same
    obtain ⟨H4, eH4⟩ : ∃ H4, H4 = upd H3 q2 (.lst [V.ref q1]) := ⟨_, rfl⟩
    rw [← eH4] at u2 hq2 ⊢
    have s4 := s2.trans (u1.trans u2)
    walk_at "rd"
    refine ⟨.list ((leaveL R kd).map (lotD R.length)), .list (([[]] : List (List Nat)).map (lotD R.length)), .lst (SqL.of (s4 _ _ hto)) (hT.same s4).dp, .lst (SqL.of hq2) (.cons (.lst (SqL.of (u2 _ _ hq1)) .nil) .nil), lots_shaped _ _, lots_shaped _ _, ?_⟩
    rw [lots_eqv]
    walk_at "rd"
    refine r_kwS ?_
    walk_at "rd"
    refine ⟨rfl, rfl, p, x, G, R, kd, rfl, ⟨t, sG.trans s4, off, by obtain ⟨o, e⟩ := hp; exact ⟨o, s4 _ _ e⟩⟩, hk, fun zs H5 s5' gr mx => ?_⟩
    rw [hasO_eq gr mx]
    have s5 := s4.trans s5'
    have e : decide (leaveL R kd = [[]]) = hasO R kd := by
      rw [Bool.eq_iff_iff, decide_eq_true_iff]
      exact leave_one g
    rw [e]
    refine r_eq rfl ?_
    refine ⟨_, rfl, ifT (decide_eq_true rfl) ?_⟩
    walk_at "rd"
    refine ⟨x, dx2, _, rfl, (sG.trans s5) _ _ ho, two_no (by decide +kernel) (by decide +kernel), ?_⟩
    walk_at "rd"
    refine ⟨x, G, R, rfl, t, sG.trans s5, fun r8 es8 H8 nl => ?_⟩
    walk_at "rd"
    obtain ⟨s8, _, rl8, _⟩ := nl
    refine ⟨_, _, rl8.dp, (rs.same (s5.trans s8)).dp, rows_shaped R, rows_shaped R, ?_⟩
    rw [rows_eqv, decide_eq_true rfl]
    exact k _
end
end Pk
set_option Elab.async false
set_option linter.all false
set_option maxRecDepth 100000
set_option maxHeartbeats 4000000
namespace Pk
open PySem L2
local macro_rules | `(tactic| walk_at "rd") => `(tactic| repeat (first
  | with_reducible refine r_seq ?_ | with_reducible refine r_nxt ?_ | with_reducible refine r_asg ?_ | with_reducible refine r_to ?_ | with_reducible refine r_ret ?_ | with_reducible refine r_for ?_ | with_reducible refine r_lc ?_ | with_reducible refine r_lc2 ?_ | with_reducible refine r_rng1 ?_ | with_reducible refine r_list ?_ | with_reducible refine r_tupI ?_ | with_reducible refine r_drop ?_ | with_reducible refine r_ifs ?_
  | with_reducible refine r_op ?_ | with_reducible refine r_c ?_ | with_reducible refine r_var rfl ?_ | with_reducible refine r_var (by assumption) ?_ | with_reducible refine r_I0 ?_ | with_reducible refine r_un ?_ | with_reducible refine r_U ?_ | with_reducible refine r_make ?_ | with_reducible refine r_makeS ?_ | with_reducible refine r_ifE ?_ | with_reducible refine r_cm ?_ | with_reducible refine r_mkV rfl ?_ | with_reducible refine r_sub ?_
  | with_reducible refine r_nil ?_ | with_reducible refine r_cons ?_ | with_reducible refine r_cb ?_ | with_reducible refine r_sl ?_ | with_reducible refine r_noP ?_ | with_reducible refine r_part ?_ | with_reducible refine r_isI ?_ | with_reducible refine r_lst ?_ | with_reducible refine r_tup ?_ | with_reducible refine r_call ?_ | with_reducible refine r_callS ?_ | with_reducible refine r_sFldU ?_ | with_reducible refine r_chain ?_ | with_reducible refine r_enum ?_ | with_reducible refine r_zip ?_ | with_reducible refine r_rng3 ?_ | with_reducible refine r_gtup ?_ | with_reducible refine r_methU ?_
  | with_reducible refine r_test ?_ | with_reducible refine r_B ?_ | with_reducible refine r_and ?_ | with_reducible refine r_or ?_ | with_reducible refine r_not ?_ | with_reducible refine r_andV ?_ | with_reducible refine r_orV ?_ | with_reducible refine r_notV ?_ | with_reducible refine r_bl ?_ | with_reducible refine r_yes ?_ | with_reducible refine r_int ?_ | with_reducible refine r_is0 ?_ | with_reducible refine r_is1 ?_ | with_reducible refine iteT ?_ | with_reducible refine iteF ?_ | with_reducible refine ite_nF ?_ | with_reducible refine ite_nT ?_
  | with_reducible refine r_mod (by decide) ?_ | with_reducible refine r_div (by decide) (by decide) ?_ | with_reducible refine r_mulR (by decide) (by decide) ?_ | with_reducible refine r_mulL (by decide) (by decide) ?_ | with_reducible refine r_pow (by decide) (by decide) (by decide) ?_))
theorem five {α : Type} : ∀ {l : List α}, l.length = 5 → ∃ a b c d e, l = [a, b, c, d, e]
  | [a, b, c, d, e], _ => ⟨a, b, c, d, e, rfl⟩
  | [], h | [_], h | [_, _], h | [_, _, _], h | [_, _, _, _], h => by cases h
  | _ :: _ :: _ :: _ :: _ :: _ :: _, h => by simp at h
def allL : Nat → List (List Nat)
  | 0 => [[]]
  | t + 1 => allL t ++ (allL t).map fun l => l ++ [t]
theorem allL_asc : ∀ {t : Nat} {l : List Nat}, l ∈ allL t → Asc t l
  | 0, l, h => by
    rw [List.mem_singleton.mp h]
    exact ⟨.nil, fun k hk => by cases hk⟩
  | t + 1, l, h => by
    rcases List.mem_append.mp (show l ∈ allL t ++ (allL t).map fun l => l ++ [t] from h) with h | h
    · have a := allL_asc h
      exact ⟨a.lt, fun k hk => Nat.lt_succ_of_lt (a.b k hk)⟩
    · obtain ⟨l', h', rfl⟩ := List.mem_map.mp h
      have a := allL_asc h'
      refine ⟨List.pairwise_append.mpr ⟨a.lt, List.pairwise_singleton _ _, fun x hx y hy => by rw [List.mem_singleton.mp hy]; exact a.b x hx⟩, fun k hk => ?_⟩
      rcases List.mem_append.mp hk with hk | hk
      · exact Nat.lt_succ_of_lt (a.b k hk)
      · rw [List.mem_singleton.mp hk]; exact Nat.lt_succ_self t
theorem allL_len : ∀ t, (allL t).length = 2 ^ t
  | 0 => rfl
  | t + 1 => by
    show (allL t ++ (allL t).map fun l => l ++ [t]).length = _
    rw [List.length_append, List.length_map, allL_len t, Nat.pow_succ]; omega
section
variable {P : Program} {w : World} {K : PySem.W.Frag} {mg : Str → Option Value} {base : Heap} {C CE CL CB : Addr} {f : Addr} {fd : FuncData} {cdv : Value} {A : Around} {outer : List Env} {s : Shared} {H0 : Hp} {E : XK}
theorem ok_law (F : Fun K "law" "law" slaw f fd) (D : LD P w K mg base C CE CL CB) (T : Bt mg) : FnOk P w K mg base CX0 40 f fd ["_law_script"] (spLaw K) := by
  refine F.ok sclaw (fun vs H Q E h => ?_) (fun cdv A outer s H vs Q E hr h => ?_)
  · obtain ⟨l, ns, rfl, _⟩ := h
    rfl
  · obtain ⟨l, sc, rfl, hl, h63, kE⟩ := h
    obtain ⟨u11, d11, h11⟩ := seg11 (f := f) (cdv := cdv) (outer := outer) (s := s) (H0 := H) (E := E) hr T D
    refine ⟨_, (pss_cons (ps_set (i := 1) sclaw.nd rfl (Or.inl rfl) (pe_df D.lDraws hr (by decide) (pa_cons (pv 0) (pa_cons pe_int (pa_cons (pe_lst (pa_cons pe_int (pa_cons pe_int (pa_cons pe_int (pa_cons pe_int (pa_cons pe_int pa_nil)))))) pa_nil)))))
  (pss_cons (ps_set (i := 2) sclaw.nd rfl (Or.inl rfl) (pe_op op_add pe_int (pe_ix ix_list (pv 1) pe_int (fun _ _ => rfl))))
  (pss_cons (ps_set (i := 3) sclaw.nd rfl (Or.inl rfl) (pe_op op_add pe_int (pe_op op_mod (pe_ix ix_list (pv 1) pe_int (fun _ _ => rfl)) (pe_op op_sub pe_int (pv 2)))))
  (pss_cons (ps_set (i := 4) sclaw.nd rfl (Or.inl rfl) (pe_df D.lGrid hr (by decide) (pa_cons (pv 0) (pa_cons pe_int (pa_cons (pv 2) (pa_cons (pv 3) (pa_cons (pe_ix ix_list (pv 1) pe_int (fun _ _ => rfl)) (pa_cons (pe_ix ix_list (pe_lst (pa_cons pe_int (pa_cons pe_int (pa_cons pe_int (pa_cons pe_int pa_nil))))) (pe_ix ix_list (pv 1) pe_int (fun _ _ => rfl)) (fun _ _ => rfl)) pa_nil))))))))
  (pss_cons (ps_set (i := 5) sclaw.nd rfl (Or.inl rfl) (pe_ix ix_list (pe_lst (pa_cons pe_str (pa_cons pe_str (pa_cons pe_str (pa_cons pe_str pa_nil))))) (pe_ix ix_list (pv 1) pe_int (fun _ _ => rfl)) (fun _ _ => rfl)))
  (pss_cons (ps_set (i := 6) sclaw.nd rfl (Or.inl rfl) (pe_op op_cat (pe_lc (own := [("_law_i", 15)]) (g := gName 15) rfl sclaw.nd (pi_range1 rfl T.range (pa_cons (pv 2) pa_nil)) (blkOk_by (own := [("_law_i", 15)]) (N := nmLaw) (sc := defScope slaw) (by decide +kernel)) (fun _ _ _ _ _ => pg_name (i := 15) sclaw.nd rfl (Or.inl rfl)) (fun _ _ _ _ _ => pts_nil) (fun _ _ _ _ _ => (pe_tup (pa_cons pe_str (pa_cons (pv 15) pa_nil))))) (pe_lc (own := [("_law_j", 16)]) (g := gName 16) rfl sclaw.nd (pi_range1 rfl T.range (pa_cons (pv 3) pa_nil)) (blkOk_by (own := [("_law_j", 16)]) (N := nmLaw) (sc := defScope slaw) (by decide +kernel)) (fun _ _ _ _ _ => pg_name (i := 16) sclaw.nd rfl (Or.inl rfl)) (fun _ _ _ _ _ => pts_nil) (fun _ _ _ _ _ => (pe_tup (pa_cons pe_str (pa_cons (pv 16) pa_nil)))))))
  (pss_cons (ps_set (i := 7) sclaw.nd rfl (Or.inl rfl) (pe_dkL D.made hr (by decide) (pa_cons (pe_df D.lCopy hr (by decide) (pa_cons (pv 4) pa_nil)) pa_nil)))
  (pss_cons (ps_set (i := 8) sclaw.nd rfl (Or.inl rfl) (pe_kdS takesE0 D.leave hr (by decide) (pa_cons (pv 7) pa_nil) (pk_cons (pv 5) pk_nil)))
  (pss_cons (ps_if (pt_not (pt_val (pe_df D.lIsSorted hr (by decide) (pa_cons (pv 8) (pa_cons (pv 6) pa_nil))))) (pss_one (ps_ret pe_bl)) pss_nil)
  (pss_cons (ps_set (i := 9) sclaw.nd rfl (Or.inl rfl) (pe_lst (pa_cons (pe_lst pa_nil) pa_nil)))
  (pss_cons (ps_for PassesOwn.never rfl (pi_list (pv 6)) (pg_name (i := 10) sclaw.nd rfl (Or.inr rfl)) (pss_one (ps_set (i := 9) sclaw.nd rfl (Or.inl rfl) (pe_op op_cat (pv 9) (pe_lc (own := [("_law_lot", 11)]) (g := gName 11) (te := tOp rCat (tVar 11) (tLst (tCons (tVar 10) tNil))) rfl sclaw.nd (pi_list (pv 9)) (blkOk_by (own := [("_law_lot", 11)]) (N := nmLaw) (sc := defScope slaw) (by decide +kernel)) (fun _ _ _ _ _ => pg_name (i := 11) sclaw.nd rfl (Or.inl rfl)) (fun _ _ _ _ _ => pts_nil) (fun _ _ _ _ _ => (pe_op op_cat (pv 11) (pe_lst (pa_cons (pv 10) pa_nil))))))))) d11))))))))))), ?_⟩
    walk_at "rd"
    refine ⟨by show 5 ≤ sizeLine; decide, fun p np => ?_⟩
    have s1 := Same.up (o := .lst [V.int 7, V.int 7, V.int 8, V.int 4, V.int 4]) (Same.refl H) np
    have hp1 : upd H p (.lst [V.int 7, V.int 7, V.int 8, V.int 4, V.int 4]) p = some (.lst [V.int 7, V.int 7, V.int 8, V.int 4, V.int 4]) := upd_same
    obtain ⟨H1, eH1⟩ : ∃ H1, H1 = upd H p (.lst [V.int 7, V.int 7, V.int 8, V.int 4, V.int 4]) := ⟨_, rfl⟩
    rw [← eH1] at s1 hp1 ⊢
    walk_at "rd"
    have pos : ∀ z, z ∈ ([7, 7, 8, 4, 4] : List Int) → 0 < z := by decide
    refine ⟨l, p, sc, [7, 7, 8, 4, 4], 0, rfl, s1.seq hl, hp1, fun z hz => ?_, by decide, fun h H2 s2' nh hh => ?_⟩
    · have : 0 < z ∧ z ≤ 8 := by
        revert z
        decide
      exact szd this.1 (by omega)
    obtain ⟨d0, d1, d2, d3, d4, ed⟩ := five (drawsF_len sc 0 [7, 7, 8, 4, 4])
    obtain ⟨_, e0, p0, q0⟩ := drawsF_get (ns := sc) (sp := 0) pos (i := 0) rfl
    obtain ⟨_, e1, p1, q1⟩ := drawsF_get (ns := sc) (sp := 0) pos (i := 1) rfl
    obtain ⟨_, e2, p2, q2⟩ := drawsF_get (ns := sc) (sp := 0) pos (i := 2) rfl
    obtain ⟨_, e3, p3, q3⟩ := drawsF_get (ns := sc) (sp := 0) pos (i := 3) rfl
    obtain ⟨_, e4, p4, q4⟩ := drawsF_get (ns := sc) (sp := 0) pos (i := 4) rfl
    rw [ed] at e0 e1 e2 e3 e4 hh
    cases e0; cases e1; cases e2; cases e3; cases e4
    have hh : H2 h = some (.lst [V.int d0, V.int d1, V.int d2, V.int d3, V.int d4]) := hh
    have s2 := s1.trans s2'
    have hp2 := s2' _ _ hp1
    walk_at "rd"
    refine r_ixL (SqL.of hh) (atI_nat (j := 0) rfl) ?_
    walk_at "rd"
    refine r_ixL (SqL.of hh) (atI_nat (j := 1) rfl) ?_
    walk_at "rd"
    refine r_mod (show (0 : Int) < 8 - (1 + d0) by omega) ?_
    walk_at "rd"
    refine r_ixL (SqL.of hh) (atI_nat (j := 2) rfl) ?_
    walk_at "rd"
    refine ⟨by show 4 ≤ sizeLine; decide, fun l3 nl3 => ?_⟩
    have s3' := Same.up (o := .lst [V.int 0, V.int 6, V.int 3, V.int 2]) (Same.refl H2) nl3
    have hl3 : upd H2 l3 (.lst [V.int 0, V.int 6, V.int 3, V.int 2]) l3 = some (.lst [V.int 0, V.int 6, V.int 3, V.int 2]) := upd_same
    obtain ⟨H3, eH3⟩ : ∃ H3, H3 = upd H2 l3 (.lst [V.int 0, V.int 6, V.int 3, V.int 2]) := ⟨_, rfl⟩
    rw [← eH3] at s3' hl3 ⊢
    have hh3 := s3' _ _ hh
    walk_at "rd"
    refine r_ixL (SqL.of hh3) (atI_nat (j := 3) rfl) ?_
    obtain ⟨k3, rfl⟩ : ∃ k : Nat, d3 = (k : Int) := ⟨d3.toNat, by omega⟩
    obtain ⟨sh, sh0, sh8, esh⟩ : ∃ c : Int, 0 ≤ c ∧ c ≤ 8 ∧ [V.int 0, V.int 6, V.int 3, V.int 2][k3]? = some (.int c) := by
      match k3, (by omega : k3 < 4) with
      | 0, _ => exact ⟨0, by decide, by decide, rfl⟩
      | 1, _ => exact ⟨6, by decide, by decide, rfl⟩
      | 2, _ => exact ⟨3, by decide, by decide, rfl⟩
      | 3, _ => exact ⟨2, by decide, by decide, rfl⟩
    refine r_ixL (SqL.of hl3) (atI_nat esh) ?_
    have e5 := Int.emod_nonneg d1 (show (8 - (1 + d0)) ≠ 0 by omega)
    have e6 := Int.emod_lt_of_pos d1 (show 0 < 8 - (1 + d0) by omega)
    obtain ⟨m, em⟩ : ∃ m : Nat, 1 + d0 = (m : Int) := ⟨(1 + d0).toNat, by omega⟩
    obtain ⟨n, en⟩ : ∃ n : Nat, 1 + d1 % (8 - (1 + d0)) = (n : Int) := ⟨(1 + d1 % (8 - (1 + d0))).toNat, by omega⟩
    rw [en, em]
    have s3 := s2.trans s3'
    walk_at "rd"
    refine ⟨l, sc, 1, m, n, d2, sh, rfl, s3.seq hl, by omega, by omega, by omega, by omega, p2, q2, sh0, sh8, fun ra es R H4 s4' gk nra g Rm Rn _ => ?_⟩
    have rs4 := gk.rl.rs (K := K)
    have hh4 := s4' _ _ hh3
    have hp4 := s4' _ _ (s3' _ _ hp2)
    have N8 : R.length + wd R ≤ 8 := by omega
    subst Rm
    subst Rn
    have c16 : (cells R).length ≤ 16 := by
      have e := flat_le (f := fun i : Nat => ((List.range (wd R)).filter fun j => (prc R i j).isSome).map fun (j : Nat) => (((i : Nat) : Int), (j : Int))) (c := wd R) (l := List.range R.length) fun i _ => by
        rw [List.length_map]
        have := List.length_filter_le (fun j => (prc R i j).isSome) (List.range (wd R))
        rwa [List.length_range] at this
      rw [List.length_range] at e
      have e : (cells R).length ≤ R.length * wd R := e
      refine Nat.le_trans e ?_
      have h0 := g.h0
      have le : wd R ≤ 8 - R.length := by omega
      refine Nat.le_trans (Nat.mul_le_mul_left _ le) ?_
      have h7 : R.length ≤ 7 := by have := g.w0; omega
      generalize R.length = z at h0 h7
      match z, h7 with
      | 0, _ => decide
      | 1, _ => decide
      | 2, _ => decide
      | 3, _ => decide
      | 4, _ => decide
      | 5, _ => decide
      | 6, _ => decide
      | 7, _ => decide
    walk_at "rd"
    refine ⟨by show 4 ≤ sizeLine; decide, fun l4 nl4 => ?_⟩
    have s5' := Same.up (o := .lst [V.str "even", V.str "stock", V.str "wish", V.str "any"]) (Same.refl H4) nl4
    have hl4 : upd H4 l4 (.lst [V.str "even", V.str "stock", V.str "wish", V.str "any"]) l4 = some (.lst [V.str "even", V.str "stock", V.str "wish", V.str "any"]) := upd_same
    obtain ⟨H5, eH5⟩ : ∃ H5, H5 = upd H4 l4 (.lst [V.str "even", V.str "stock", V.str "wish", V.str "any"]) := ⟨_, rfl⟩
    rw [← eH5] at s5' hl4 ⊢
    walk_at "rd"
    refine r_ixL (SqL.of (s5' _ _ hh4)) (atI_nat (j := 4) rfl) ?_
    obtain ⟨k4, rfl⟩ : ∃ k : Nat, d4 = (k : Int) := ⟨d4.toNat, by omega⟩
    obtain ⟨kd, hk, ekd⟩ : ∃ kd : Str, KD kd ∧ [V.str "even", V.str "stock", V.str "wish", V.str "any"][k4]? = some (.str kd) := by
      match k4, (by omega : k4 < 4) with
      | 0, _ => exact ⟨"even", .inl rfl, rfl⟩
      | 1, _ => exact ⟨"stock", .inr (.inl rfl), rfl⟩
      | 2, _ => exact ⟨"wish", .inr (.inr (.inl rfl)), rfl⟩
      | 3, _ => exact ⟨"any", .inr (.inr (.inr rfl)), rfl⟩
    refine r_ixL (SqL.of hl4) (atI_nat ekd) ?_
    have g8 := g.h8
    have w8 := g.w8
    walk_at "rd"
    refine ⟨(R.length : Int), rfl, by omega, by omega, fun D nD => lc_it walk_range (fun i H' => Same H5 H' ∧ ∃ us, H' D = some (.lst us) ∧ LnsAt R.length H' us (List.range i)) ⟨Same.up (Same.refl H5) nD, [], upd_same, .nil⟩ (fun _ _ _ _ => trivial) ?_ ?_⟩
    · rintro i y H20 H2 hi ⟨s2, us, hD, hu⟩ ⟨rfl, rfl⟩
      have hi : i < R.length := by simpa using hi
      have e0' : (0 : Int) + (i : Int) = (i : Int) := by omega
      simp only [e0']
      have ul := hu.length
      rw [List.length_range] at ul
      walk_at "rd"
      refine ⟨rfl, ?_⟩
      walk_at "rd"
      refine ⟨by show 2 ≤ sizeLine; decide, fun t1 n1 => ?_⟩
      have s3 := Same.up (o := .tup [V.str "stock", V.int (i : Int)]) (Same.refl H2) n1
      refine ⟨us, s3 _ _ hD, by rw [ul]; exact Nat.lt_of_lt_of_le (show i < 9 by omega) (by decide), Same.upOff (s2.trans s3) nD, us ++ [.ref t1], upd_same, ?_⟩
      rw [List.range_succ]
      refine LnsAt.app ((hu.same s3).tup (.put (s3 _ _ hD))) (.cons ⟨t1, rfl, Tups.put (s3 _ _ hD) _ _ ?_⟩ .nil)
      rw [upd_same]
      unfold lwd lno
      rw [if_pos hi, if_pos hi]
    rintro H6 ⟨s6, us, hD, hu⟩
    rw [Int.toNat_natCast] at hu
    have ul := hu.length
    rw [List.length_range] at ul
    walk_at "rd"
    refine ⟨((wd R : Nat) : Int), rfl, by omega, by omega, fun D2 nD2 => lc_it walk_range (fun i H' => Same H6 H' ∧ ∃ ws, H' D2 = some (.lst ws) ∧ LnsAt R.length H' ws ((List.range i).map (R.length + ·))) ⟨Same.up (Same.refl H6) nD2, [], upd_same, .nil⟩ (fun _ _ _ _ => trivial) ?_ ?_⟩
    · rintro i y H30 H3 hi ⟨s3, ws, hD2, hw⟩ ⟨rfl, rfl⟩
      have hi : i < wd R := by simpa using hi
      have e0' : (0 : Int) + (i : Int) = (i : Int) := by omega
      simp only [e0']
      have wl := hw.length
      rw [List.length_map, List.length_range] at wl
      walk_at "rd"
      refine ⟨rfl, ?_⟩
      walk_at "rd"
      refine ⟨by show 2 ≤ sizeLine; decide, fun t1 n1 => ?_⟩
      have s4 := Same.up (o := .tup [V.str "wish", V.int (i : Int)]) (Same.refl H3) n1
      refine ⟨ws, s4 _ _ hD2, by rw [wl]; exact Nat.lt_of_lt_of_le (show i < 9 by omega) (by decide), Same.upOff (s3.trans s4) nD2, ws ++ [.ref t1], upd_same, ?_⟩
      rw [List.range_succ, List.map_append]
      refine LnsAt.app ((hw.same s4).tup (.put (s4 _ _ hD2))) (.cons ⟨t1, rfl, Tups.put (s4 _ _ hD2) _ _ ?_⟩ .nil)
      rw [upd_same]
      unfold lwd lno
      rw [if_neg (show ¬ R.length + i < R.length by omega), if_neg (show ¬ R.length + i < R.length by omega), Nat.add_sub_cancel_left]
    rintro H7 ⟨s7, ws, hD2, hw⟩
    rw [Int.toNat_natCast] at hw
    have wl := hw.length
    rw [List.length_map, List.length_range] at wl
    refine r_cat (s7 _ _ hD) hD2 (Nat.le_trans (show us.length + ws.length ≤ 16 by omega) (by decide)) fun la nla => ?_
    have s8' := Same.up (o := .lst (us ++ ws)) (Same.refl H7) nla
    have hla : upd H7 la (.lst (us ++ ws)) la = some (.lst (us ++ ws)) := upd_same
    have hll : LnsAt R.length (upd H7 la (.lst (us ++ ws))) (us ++ ws) (List.range (R.length + wd R)) := by
      have := LnsAt.app (hu.same (s7.trans s8')) (hw.same s8')
      rwa [← List.range_add] at this
    obtain ⟨H8, eH8⟩ : ∃ H8, H8 = upd H7 la (.lst (us ++ ws)) := ⟨_, rfl⟩
    obtain ⟨lns, elns⟩ : ∃ lns, lns = us ++ ws := ⟨_, rfl⟩
    rw [← eH8] at s8' hla hll ⊢
    rw [← elns] at hla hll
    have lnl := hll.length
    rw [List.length_range] at lnl
    have s48 := s5'.trans (s6.trans (s7.trans s8'))
    have rs8 := rs4.same s48
    walk_at "rd"
    refine ⟨ra, es, R, rfl, rs8, g.h8, fun q10 gs H10 s10' nq10 lq _ => ?_⟩
    walk_at "rd"
    intro x dx nx nd ne
    show spTbI K C CE [V.ref x, V.ref q10] _ _ _
    refine mk_tb2 nx nd ne lq.dp g fun H11 G s11' tx sG fG => ?_
    have s811 := s10'.trans s11'
    have s411 := s48.trans s811
    have offG : G p = none := fG.off ((s48.trans s10') _ _ hp4)
    walk_at "rd"
    refine r_kwS ?_
    walk_at "rd"
    refine ⟨rfl, rfl, x, G, R, .str kd, rfl, tx, sG, .ok kd rfl hk (by omega) fun to tws H12 s12 nto hto Lto => ?_⟩
    have s812 := s811.trans s12
    walk_at "rd"
    refine ⟨to, la, tws, lns, H11, R, kd, rfl, g, N8, hto, Lto, s812 _ _ hla, hll.same s812, fun H13 s13 => ?_⟩
    have s1113 := s12.trans s13
    have s813 := s812.trans s13
    refine ⟨_, rfl, ifF rfl ?_⟩
    walk_at "rd"
    refine ⟨Nat.zero_le _, fun b1 n1 => ?_⟩
    have u1 := Same.up (o := .lst []) (Same.refl H13) n1
    have hb1 : upd H13 b1 (.lst []) b1 = some (.lst []) := upd_same
    obtain ⟨H14, eH14⟩ : ∃ H14, H14 = upd H13 b1 (.lst []) := ⟨_, rfl⟩
    rw [← eH14] at u1 hb1 ⊢
    walk_at "rd"
    refine ⟨by show 1 ≤ sizeLine; decide, fun b2 n2 => ?_⟩
    have u2 := Same.up (o := .lst [V.ref b1]) (Same.refl H14) n2
    have hb2 : upd H14 b2 (.lst [V.ref b1]) b2 = some (.lst [V.ref b1]) := upd_same
    obtain ⟨H15, eH15⟩ : ∃ H15, H15 = upd H14 b2 (.lst [V.ref b1]) := ⟨_, rfl⟩
    rw [← eH15] at u2 hb2 ⊢
    have u12 := u1.trans u2
    walk_at "rd"
    have hla13 := s813 _ _ hla
    have hll13 := hll.same s813
    refine ⟨la, rfl, ⟨_, SqL.of (u12 _ _ hla13)⟩, for_it walk_list (fun t σ H' => ∃ lo lts v10 v11, σ = [some (.ref l), some (.ref h), some (.int (R.length : Int)), some (.int ((wd R : Nat) : Int)), some (.ref ra), some (.str kd), some (.ref la), some (.ref x), some (.ref to), some (.ref lo), v10, v11, none, none, none, none, none, none] ∧ Same H13 H' ∧ H' lo = some (.lst lts) ∧ LtsAt R.length H13 H' lts (allL t)) ⟨b2, _, _, _, rfl, u12, hb2, .cons n1 (u2 _ _ hb1) .nil .nil⟩ (fun t σ H' _ z => by obtain ⟨_, _, _, _, _, z, _⟩ := z; exact SqL.of (z _ _ hla13)) ?_ ?_⟩
    · rintro t y σ H160 H16 ht ⟨lo, lts, v10, v11, rfl, s16, hlo, L16⟩ ⟨rfl, ey⟩
      have ht : t < R.length + wd R := by rw [← lnl]; exact ht
      obtain ⟨k', ek', hk'⟩ := (hll13.same s16).at ey
      obtain rfl : t = k' := by
        rw [List.getElem?_range ht] at ek'
        exact Option.some.inj ek'
      have ll := L16.length
      rw [allL_len] at ll
      have pw : 2 ^ t ≤ 256 := Nat.le_trans (Nat.pow_le_pow_right (by decide) (show t ≤ 8 by omega)) (by decide)
      refine ⟨_, rfl, ?_⟩
      walk_at "rd"
      refine ⟨lo, rfl, ⟨_, SqL.of hlo⟩, fun D3 nD3 => ?_⟩
      have hD0 : upd H16 D3 (.lst []) D3 = some (.lst []) := upd_same
      have sD0 := Same.up (o := .lst []) (Same.refl H16) nD3
      obtain ⟨HD, eHD⟩ : ∃ HD, HD = upd H16 D3 (.lst []) := ⟨_, rfl⟩
      rw [← eHD] at hD0 sD0 ⊢
      refine lc_any walk_list (fun q H' => Same H16 H' ∧ ∃ ns, H' D3 = some (.lst ns) ∧ LtsAt R.length HD H' ns (((allL t).take q).map fun l => l ++ [t])) ⟨sD0, [], hD0, by rw [List.take_zero]; exact .nil⟩ (fun q H' _ z => SqL.of (z.1 _ _ hlo)) ?_ ?_
      · rintro q y2 H170 H17 hq ⟨s17, ns, hns, L17⟩ ⟨rfl, ey2⟩
        obtain ⟨a, vs, l0, el, rfl, _, ha, hl0⟩ := (L16.same s17).at ey2
        have al0 := (allL_asc (List.mem_of_getElem? el)).len
        have lvs := hl0.length
        have nsl := L17.length
        have hq : q < lts.length := hq
        walk_at "rd"
        refine ⟨rfl, ?_⟩
        walk_at "rd"
        refine ⟨by show 1 ≤ sizeLine; decide, fun q1 m1 => ?_⟩
        have sq := Same.up (o := .lst [y]) (Same.refl H17) m1
        have hq1 : upd H17 q1 (.lst [y]) q1 = some (.lst [y]) := upd_same
        obtain ⟨HA, eHA⟩ : ∃ HA, HA = upd H17 q1 (.lst [y]) := ⟨_, rfl⟩
        rw [← eHA] at sq hq1 ⊢
        refine r_cat (sq _ _ ha) hq1 (Nat.le_trans (show vs.length + 1 ≤ 16 by omega) (by decide)) fun r nr => ?_
        have sr := Same.up (o := .lst (vs ++ [y])) (Same.refl HA) nr
        have hr' : upd HA r (.lst (vs ++ [y])) r = some (.lst (vs ++ [y])) := upd_same
        obtain ⟨HB, eHB⟩ : ∃ HB, HB = upd HA r (.lst (vs ++ [y])) := ⟨_, rfl⟩
        rw [← eHB] at sr hr' ⊢
        have s17B := sq.trans sr
        have hnsB := s17B _ _ hns
        have nD_ : HD r = none := by
          cases e : HD r with
          | none => rfl
          | some o =>
            exfalso
            by_cases z : r = D3
            · rw [z, (sq _ _ hns)] at nr; cases nr
            · have : H16 r = some o := by rw [eHD, upd_ne z] at e; exact e
              rw [(s17.trans sq) _ _ this] at nr; cases nr
        refine ⟨ns, hnsB, Nat.lt_of_le_of_lt (show ns.length ≤ 256 from by rw [nsl, List.length_map, List.length_take, allL_len]; omega) (by decide), Same.upOff (s17.trans s17B) nD3, ns ++ [.ref r], upd_same, ?_⟩
        rw [List.take_add_one, el, List.map_append]
        have hrB : (upd HB D3 (.lst (ns ++ [V.ref r]))) r = some (.lst (vs ++ [y])) := by rw [upd_ne (fun z => by rw [z, hD0] at nD_; cases nD_)]; exact hr'
        have hkB : LneAt R.length (upd HB D3 (.lst (ns ++ [V.ref r]))) y t := by
          obtain ⟨t0, e1, e2⟩ := hk'
          exact ⟨t0, e1, Tups.put hnsB _ _ (s17B _ _ (s17 _ _ e2))⟩
        exact ((L17.same s17B).upd hD0 hnsB).app (.cons nD_ hrB (LnsAt.app ((hl0.same s17B).tup (.put hnsB)) (.cons hkB .nil)) .nil)
      · rintro H17 ⟨s17, ns, hns, L17⟩
        rw [ll, List.take_of_length_le (by rw [allL_len]; exact Nat.le_refl _)] at L17
        have nsl := L17.length
        rw [List.length_map, allL_len] at nsl
        walk_at "rd"
        refine r_cat (s17 _ _ hlo) hns (Nat.le_trans (show lts.length + ns.length ≤ 512 by omega) (by decide)) fun q nq => ?_
        have s7' := Same.up (o := .lst (lts ++ ns)) (Same.refl H17) nq
        refine ⟨q, lts ++ ns, _, _, rfl, s16.trans (s17.trans s7'), upd_same, ?_⟩
        exact (L16.same (s17.trans s7')).app ((L17.same s7').back (s16.trans sD0))
    · rintro σ H16 ⟨lo, lts, v10, v11, rfl, s16, hlo, L16⟩
      rw [lnl] at L16
      have s1116 := s1113.trans s16
      exact h11 _ H16 _ _ _ _ _ _ _ _ _ _ _ _ _ ((rs8.same s811).same s1116) g N8 c16 tx (sG.trans s1116) offG ⟨_, s1116 _ _ (s811 _ _ (s48 _ _ hp4))⟩ hk (s13.trans s16 _ _ hto) (Lto.same (s13.trans s16)) hlo L16 (fun l hl => allL_asc hl) kE
end
end Pk
set_option Elab.async false
set_option linter.all false
set_option maxRecDepth 100000
set_option maxHeartbeats 4000000
namespace Pk
open PySem L2
local macro_rules | `(tactic| walk_at "rd") => `(tactic| repeat (first
  | with_reducible refine r_seq ?_ | with_reducible refine r_nxt ?_ | with_reducible refine r_asg ?_ | with_reducible refine r_to ?_ | with_reducible refine r_ret ?_ | with_reducible refine r_for ?_ | with_reducible refine r_lc ?_ | with_reducible refine r_lc2 ?_ | with_reducible refine r_rng1 ?_ | with_reducible refine r_list ?_ | with_reducible refine r_tupI ?_ | with_reducible refine r_drop ?_ | with_reducible refine r_ifs ?_
  | with_reducible refine r_op ?_ | with_reducible refine r_c ?_ | with_reducible refine r_var rfl ?_ | with_reducible refine r_var (by assumption) ?_ | with_reducible refine r_I0 ?_ | with_reducible refine r_un ?_ | with_reducible refine r_U ?_ | with_reducible refine r_make ?_ | with_reducible refine r_makeS ?_ | with_reducible refine r_ifE ?_ | with_reducible refine r_cm ?_ | with_reducible refine r_mkV rfl ?_ | with_reducible refine r_sub ?_
  | with_reducible refine r_nil ?_ | with_reducible refine r_cons ?_ | with_reducible refine r_cb ?_ | with_reducible refine r_sl ?_ | with_reducible refine r_noP ?_ | with_reducible refine r_part ?_ | with_reducible refine r_isI ?_ | with_reducible refine r_lst ?_ | with_reducible refine r_tup ?_ | with_reducible refine r_call ?_ | with_reducible refine r_callS ?_ | with_reducible refine r_sFldU ?_ | with_reducible refine r_chain ?_ | with_reducible refine r_enum ?_ | with_reducible refine r_zip ?_ | with_reducible refine r_rng3 ?_ | with_reducible refine r_gtup ?_ | with_reducible refine r_methU ?_
  | with_reducible refine r_test ?_ | with_reducible refine r_B ?_ | with_reducible refine r_and ?_ | with_reducible refine r_or ?_ | with_reducible refine r_not ?_ | with_reducible refine r_andV ?_ | with_reducible refine r_orV ?_ | with_reducible refine r_notV ?_ | with_reducible refine r_bl ?_ | with_reducible refine r_yes ?_ | with_reducible refine r_int ?_ | with_reducible refine r_is0 ?_ | with_reducible refine r_is1 ?_ | with_reducible refine iteT ?_ | with_reducible refine iteF ?_ | with_reducible refine ite_nF ?_ | with_reducible refine ite_nT ?_
  | with_reducible refine r_mod (by decide) ?_ | with_reducible refine r_div (by decide) (by decide) ?_ | with_reducible refine r_mulR (by decide) (by decide) ?_ | with_reducible refine r_mulL (by decide) (by decide) ?_ | with_reducible refine r_pow (by decide) (by decide) (by decide) ?_))
section
variable {P : Program} {w : World} {K : PySem.W.Frag} {mg : Str → Option Value} {base : Heap} {C fI cc fc : Addr} {fdc : FuncData}
abbrev slIT : Stmt := inCls 4 0
abbrev nfIT (cc c : Addr) : NdefX.NF := { name := "__init__", qual := "InvalidTable.__init__", params := defArgs slIT, body := defBody slIT, scope := defScope slIT, cl := [(("__class__" : Str), cc)], c := c }
theorem ok_IT {c : Addr} {n : Nat} (T : ErrC K C) (J : InitFn P K C fI cc (nfIT cc c)) (B : Bt mg) (G : FnOk P w K mg base CX0 (n + 1) fc fdc ["value"] (spCopy K n)) (mc : mg "own_copy" = some (.ref fc)) (kc : PySem.W.keepIn K (.ref fc) = true)
    (bc : Binds K fdc ["value"] []) (free : PySem.W.findIn K (.ref C) "at" = some none) : ErrOk P w K mg base (n + 2) C fI (spErr1 K n C "at") := by
  exact err_one (F := nfIT cc c) T J B.super G mc kc bc (NdefX.nscope_by (by show NdefX.nscB _ _ _ (defScope slIT) = true; decide +kernel)) rfl rfl rfl free (fun _ _ _ _ _ us hl => match us, hl with | [_, _], _ => rfl) (fun env => rfl) (by decide) (by decide)
abbrev slIB : Stmt := inCls 6 0
abbrev nfIB (cc c : Addr) : NdefX.NF := { name := "__init__", qual := "InvalidBound.__init__", params := defArgs slIB, body := defBody slIB, scope := defScope slIB, cl := [(("__class__" : Str), cc)], c := c }
theorem ok_IB {c : Addr} {n : Nat} (T : ErrC K C) (J : InitFn P K C fI cc (nfIB cc c)) (B : Bt mg) (G : FnOk P w K mg base CX0 (n + 1) fc fdc ["value"] (spCopy K n)) (mc : mg "own_copy" = some (.ref fc)) (kc : PySem.W.keepIn K (.ref fc) = true)
    (bc : Binds K fdc ["value"] []) (free : PySem.W.findIn K (.ref C) "name" = some none) : ErrOk P w K mg base (n + 2) C fI (spErr1 K n C "name") := by
  exact err_one (F := nfIB cc c) T J B.super G mc kc bc (NdefX.nscope_by (by show NdefX.nscB _ _ _ (defScope slIB) = true; decide +kernel)) rfl rfl rfl free (fun _ _ _ _ _ us hl => match us, hl with | [_, _], _ => rfl) (fun env => rfl) (by decide) (by decide)
abbrev slIL : Stmt := inCls 7 0
abbrev nfIL (cc c : Addr) : NdefX.NF := { name := "__init__", qual := "LimitExceeded.__init__", params := defArgs slIL, body := defBody slIL, scope := defScope slIL, cl := [(("__class__" : Str), cc)], c := c }
theorem ok_IL {c : Addr} {n : Nat} (T : ErrC K C) (J : InitFn P K C fI cc (nfIL cc c)) (B : Bt mg) (G : FnOk P w K mg base CX0 (n + 1) fc fdc ["value"] (spCopy K n)) (mc : mg "own_copy" = some (.ref fc)) (kc : PySem.W.keepIn K (.ref fc) = true)
    (bc : Binds K fdc ["value"] []) (free : PySem.W.findIn K (.ref C) "limit" = some none) : ErrOk P w K mg base (n + 2) C fI (spErr1 K n C "limit") := by
  exact err_one (F := nfIL cc c) T J B.super G mc kc bc (NdefX.nscope_by (by show NdefX.nscB _ _ _ (defScope slIL) = true; decide +kernel)) rfl rfl rfl free (fun _ _ _ _ _ us hl => match us, hl with | [_, _], _ => rfl) (fun env => rfl) (by decide) (by decide)
end
theorem vals_app {vs zs : List V} {us ws : List Value} (r : Vals vs us) (z : Vals zs ws) : Vals (vs ++ zs) (us ++ ws) := by
  induction r with
  | nil => exact z
  | cons a _ ih => exact .cons a ih
theorem kin_of {K : PySem.W.Frag} {a : Addr} {od : Option Addr} {its : Array Value} {n : Nat} {sl : Array (Option Value)} {xs : List V} (l : K.lookup a = some ⟨.type "tuple", od, .seq its n, sl⟩) (z : its.size ≤ 1000) (v : Vals xs its.toList) : ∀ H, SqT K H a xs :=
  fun H => .inr ⟨_, its, n, l, rfl, rfl, Nat.le_trans z (by decide), v⟩
open PySem.W
theorem all_mk {l : PySem.W.OpenLaw} {w : World} {K : PySem.W.Frag} {h : Heap} {mg : Str → Option Value} {fa : Addr} (X : K.In h) (G : h.Ns mainGlobals mg) (hfa : mg "law" = some (.ref fa)) {CET fIET ccET cET CEB fIEB ccEB cEB CEL fIEL ccEL cEL aKin CT : Addr}
    (bt : BtIn K)
    (top : (l.prog.main.scope.names.lookup ("super" : Str)).isSome = false)
    (d_own : DefAt K "own_copy" sCopy)
    (e_ET : ErrAt1 l.prog K "InvalidTable" "InvalidTable.__init__" slIT CET fIET ccET cET)
    (fr_ET_at : PySem.W.findIn K (.ref CET) "at" = some none)
    (e_EB : ErrAt1 l.prog K "InvalidBound" "InvalidBound.__init__" slIB CEB fIEB ccEB cEB)
    (fr_EB_name : PySem.W.findIn K (.ref CEB) "name" = some none)
    (e_EL : ErrAt1 l.prog K "LimitExceeded" "LimitExceeded.__init__" slIL CEL fIEL ccEL cEL)
    (fr_EL_limit : PySem.W.findIn K (.ref CEL) "limit" = some none)
    (kn : PySem.W.nsIn K mainGlobals "KINDS" = some (some (.ref aKin)))
    (kin : ∀ H, SqT K H aKin kinds)
    (d_DIK : DefAt K "is_kind" slIsKind)
    (d_DK : DefAt K "check_kind" slChKind)
    (d_DI : DefAt K "is_integer" slIsInt)
    (d_DB : DefAt K "is_between" slBet)
    {tk_aL : Tok}
    (a_aL : PySem.W.nsIn K mainGlobals "MOST_LINES" = some (some (.int 8 tk_aL)))
    {tk_aM : Tok}
    (a_aM : PySem.W.nsIn K mainGlobals "MOST_LOT_LINES" = some (some (.int 8 tk_aM)))
    (b_all : PySem.W.nsIn K mainGlobals "all" = some none)
    (b_any : PySem.W.nsIn K mainGlobals "any" = some none)
    (d_DAL : DefAt K "are_lines" slAreL)
    (d_DPr : DefAt K "is_price" slPrice)
    (d_DRo : DefAt K "is_row" slRow)
    (d_DC : DefAt K "check_rows" slChkR)
    (a_CT : PySem.W.nsIn K mainGlobals "Table" = some (some (.ref CT)))
    (me_i : MethAt K CT "__init__" "Table.__init__" slTbI)
    (me_q : MethAt K CT "pairs" "Table.pairs" slTPrs)
    (me_s : MethAt K CT "stocks" "Table.stocks" slTStk)
    (me_w : MethAt K CT "wishes" "Table.wishes" slTWsh)
    (me_r : MethAt K CT "rows" "Table.rows" slTRws)
    (me_wo : MethAt K CT "without" "Table.without" slTWo)
    (O_CT : OwnC K CT)
    (mk_CT : PySem.W.makesIn K CT = true)
    (kc_CT : PySem.W.keepIn K (.ref CT) = true)
    (no_CT_entries : PySem.W.findIn K (.ref CT) "entries" = some none)
    (no_CT_used : PySem.W.findIn K (.ref CT) "used" = some none)
    (d_HC : DefAt K "has_columns" slHasC)
    (d_HR : DefAt K "has_rows" slHasR)
    (d_DS : DefAt K "stocks_behind" slStB)
    (d_DW : DefAt K "wishes_behind" slWiB)
    (d_DCr : DefAt K "is_cross" slIsCr)
    (d_DM : DefAt K "marks" slMarks)
    (d_DX : DefAt K "crosses" slCrs)
    (d_DCo : DefAt K "columns" slCol)
    (d_DLi : DefAt K "lines" slLin)
    (d_DF : DefAt K "faults_of" slFau)
    (d_DLF0 : DefAt K "least_free" slLeastF)
    (d_DGr : DefAt K "grown" slGrown)
    (d_DStk : DefAtK K "stuck" "kind" "even" slStuck)
    (d_DHo : DefAtK K "has_order" "kind" "even" slHasOrd)
    (d_DLn : DefAt K "lines_of" slLinesOf)
    (d_DLo : DefAt K "lots_of" slLotsOf)
    (d_DNu : DefAt K "numbers_in" slNumsIn)
    (d_DLv : DefAt K "leaves_some" slLeavS)
    (d_DEn : DefAt K "is_enough" slEnough)
    (d_DCn : DefAt K "contains_one" slContO)
    (d_DLe : DefAtK K "leave_outs" "kind" "even" slLeave)
    (d_L1 : DefAt K "_law_cell" slCell2)
    (d_L2x : DefAt K "_law_mixed" slMix2)
    (d_L3 : DefAt K "_law_draws" slDraws)
    (d_L4 : DefAt K "_law_grid" slGrid)
    (d_L5 : DefAt K "_law_spots" slSpots)
    (d_L6 : DefAt K "_law_copy" slLCpy)
    (d_L9 : DefAt K "_law_cross" slLCr)
    (d_L10 : DefAt K "_law_needs_of" slNOf)
    (d_L11 : DefAt K "_law_needs" slNds)
    (d_L12 : DefAt K "_law_met" slMet)
    (d_L14 : DefAt K "_law_open" slOpen)
    (d_L15 : DefAt K "_law_walk" slWalk)
    (d_LRs : DefAt K "_law_rest" slRest)
    (d_LEn : DefAt K "_law_is_enough" slEno)
    (d_LCt : DefAt K "_law_contains" slCont64)
    (d_LIl : DefAt K "_law_is_lot" slIsLot)
    (d_LSo : DefAt K "_law_is_sorted" slSort64)
    (d_law : DefAt K "law" slaw) :
    ∃ fd : FuncData, (∀ (s : Shared) (u : Value), BindsTo s fd ⟨[u], []⟩ [("_law_script", u)]) ∧ ∀ base : Heap, K.In base → base.Ns mainGlobals mg → FnOk l.prog w K mg base CX0 40 fa fd ["_law_script"] (spLaw K) := by
  have T := bt.bt X G
  obtain ⟨f1, fd1, F1, m1⟩ := d_own.fn X G
  obtain ⟨f_DIK, fd_DIK, F_DIK, m_DIK⟩ := d_DIK.fn X G
  obtain ⟨f_DK, fd_DK, F_DK, m_DK⟩ := d_DK.fn X G
  obtain ⟨f_DI, fd_DI, F_DI, m_DI⟩ := d_DI.fn X G
  obtain ⟨f_DB, fd_DB, F_DB, m_DB⟩ := d_DB.fn X G
  obtain ⟨f_DAL, fd_DAL, F_DAL, m_DAL⟩ := d_DAL.fn X G
  obtain ⟨f_DPr, fd_DPr, F_DPr, m_DPr⟩ := d_DPr.fn X G
  obtain ⟨f_DRo, fd_DRo, F_DRo, m_DRo⟩ := d_DRo.fn X G
  obtain ⟨f_DC, fd_DC, F_DC, m_DC⟩ := d_DC.fn X G
  obtain ⟨g_i, gd_i, G_i, n_i⟩ := me_i.fn
  obtain ⟨g_q, gd_q, G_q, n_q⟩ := me_q.fn
  obtain ⟨g_s, gd_s, G_s, n_s⟩ := me_s.fn
  obtain ⟨g_w, gd_w, G_w, n_w⟩ := me_w.fn
  obtain ⟨g_r, gd_r, G_r, n_r⟩ := me_r.fn
  obtain ⟨g_wo, gd_wo, G_wo, n_wo⟩ := me_wo.fn
  obtain ⟨f_HC, fd_HC, F_HC, m_HC⟩ := d_HC.fn X G
  obtain ⟨f_HR, fd_HR, F_HR, m_HR⟩ := d_HR.fn X G
  obtain ⟨f_DS, fd_DS, F_DS, m_DS⟩ := d_DS.fn X G
  obtain ⟨f_DW, fd_DW, F_DW, m_DW⟩ := d_DW.fn X G
  obtain ⟨f_DCr, fd_DCr, F_DCr, m_DCr⟩ := d_DCr.fn X G
  obtain ⟨f_DM, fd_DM, F_DM, m_DM⟩ := d_DM.fn X G
  obtain ⟨f_DX, fd_DX, F_DX, m_DX⟩ := d_DX.fn X G
  obtain ⟨f_DCo, fd_DCo, F_DCo, m_DCo⟩ := d_DCo.fn X G
  obtain ⟨f_DLi, fd_DLi, F_DLi, m_DLi⟩ := d_DLi.fn X G
  obtain ⟨f_DF, fd_DF, F_DF, m_DF⟩ := d_DF.fn X G
  obtain ⟨f_DLF0, fd_DLF0, F_DLF0, m_DLF0⟩ := d_DLF0.fn X G
  obtain ⟨f_DGr, fd_DGr, F_DGr, m_DGr⟩ := d_DGr.fn X G
  obtain ⟨f_DStk, fd_DStk, F_DStk, m_DStk⟩ := d_DStk.fn X G
  obtain ⟨f_DHo, fd_DHo, F_DHo, m_DHo⟩ := d_DHo.fn X G
  obtain ⟨f_DLn, fd_DLn, F_DLn, m_DLn⟩ := d_DLn.fn X G
  obtain ⟨f_DLo, fd_DLo, F_DLo, m_DLo⟩ := d_DLo.fn X G
  obtain ⟨f_DNu, fd_DNu, F_DNu, m_DNu⟩ := d_DNu.fn X G
  obtain ⟨f_DLv, fd_DLv, F_DLv, m_DLv⟩ := d_DLv.fn X G
  obtain ⟨f_DEn, fd_DEn, F_DEn, m_DEn⟩ := d_DEn.fn X G
  obtain ⟨f_DCn, fd_DCn, F_DCn, m_DCn⟩ := d_DCn.fn X G
  obtain ⟨f_DLe, fd_DLe, F_DLe, m_DLe⟩ := d_DLe.fn X G
  obtain ⟨f_L1, fd_L1, F_L1, m_L1⟩ := d_L1.fn X G
  obtain ⟨f_L2x, fd_L2x, F_L2x, m_L2x⟩ := d_L2x.fn X G
  obtain ⟨f_L3, fd_L3, F_L3, m_L3⟩ := d_L3.fn X G
  obtain ⟨f_L4, fd_L4, F_L4, m_L4⟩ := d_L4.fn X G
  obtain ⟨f_L5, fd_L5, F_L5, m_L5⟩ := d_L5.fn X G
  obtain ⟨f_L6, fd_L6, F_L6, m_L6⟩ := d_L6.fn X G
  obtain ⟨f_L9, fd_L9, F_L9, m_L9⟩ := d_L9.fn X G
  obtain ⟨f_L10, fd_L10, F_L10, m_L10⟩ := d_L10.fn X G
  obtain ⟨f_L11, fd_L11, F_L11, m_L11⟩ := d_L11.fn X G
  obtain ⟨f_L12, fd_L12, F_L12, m_L12⟩ := d_L12.fn X G
  obtain ⟨f_L14, fd_L14, F_L14, m_L14⟩ := d_L14.fn X G
  obtain ⟨f_L15, fd_L15, F_L15, m_L15⟩ := d_L15.fn X G
  obtain ⟨f_LRs, fd_LRs, F_LRs, m_LRs⟩ := d_LRs.fn X G
  obtain ⟨f_LEn, fd_LEn, F_LEn, m_LEn⟩ := d_LEn.fn X G
  obtain ⟨f_LCt, fd_LCt, F_LCt, m_LCt⟩ := d_LCt.fn X G
  obtain ⟨f_LIl, fd_LIl, F_LIl, m_LIl⟩ := d_LIl.fn X G
  obtain ⟨f_LSo, fd_LSo, F_LSo, m_LSo⟩ := d_LSo.fn X G
  obtain ⟨f_law, fd_law, F_law, m_law⟩ := d_law.fn X G
  cases hfa.symm.trans m_law
  have b_law : ∀ (s : Shared) (u : Value), BindsTo s fd_law ⟨[u], []⟩ [("_law_script", u)] := fun s u => by
    obtain ⟨oc, od, kV, doc, pm, an, cdv, ct, osl, rfl, lk, hcd⟩ := F_law.ex
    exact .of_eq rfl
  refine ⟨fd_law, b_law, fun base _ _ => ?_⟩
  have mk1 : ∀ {fd x st f ps sp n}, Fun K x x st f fd → mg x = some (.ref f) → Binds K fd ps [] → FnOk l.prog w K mg base CX0 n f fd ps sp → Df l.prog w K mg base CX0 x n ps sp := fun F m b o => ⟨_, _, m, F.kp, b, o⟩
  have mkL : ∀ {fd x st f ps sp n}, Fun K x x st f fd → mg x = some (.ref f) → Binds K fd ps [] → FnOk l.prog w K mg base (L2.CX l.prog w) n f fd ps sp → Df l.prog w K mg base (L2.CX l.prog w) x n ps sp := fun F m b o => ⟨_, _, m, F.kp, b, o⟩
  have B1 : Binds K fd1 ["value"] [] := F1.binds fun _ _ _ _ _ _ us hl => match us, hl with | [_], _ => rfl
  have G1 := ok_copy (P := l.prog) (w := w) (base := base) F1 T m1 1
  have ET : De l.prog w K mg base "InvalidTable" 3 (spErr1 K 1 CET "at") CET := e_ET.de X G (ok_IT e_ET.errC (e_ET.init top ⟨_, rfl⟩) T G1 m1 F1.kp B1 fr_ET_at)
  have EB : De l.prog w K mg base "InvalidBound" 3 (spErr1 K 1 CEB "name") CEB := e_EB.de X G (ok_IB e_EB.errC (e_EB.init top ⟨_, rfl⟩) T G1 m1 F1.kp B1 fr_EB_name)
  have EL : De l.prog w K mg base "LimitExceeded" 3 (spErr1 K 1 CEL "limit") CEL := e_EL.de X G (ok_IL e_EL.errC (e_EL.init top ⟨_, rfl⟩) T G1 m1 F1.kp B1 fr_EL_limit)
  have mK := PySem.W.mg_of X G kn
  have DIK := mk1 F_DIK m_DIK (ps := ["value"]) (F_DIK.binds fun _ _ _ _ _ _ us hl => match us, hl with | [_], _ => rfl) ((ok_isKG F_DIK T mK kin).or (ok_isKX F_DIK T mK kin))
  have DIK0 := mk1 F_DIK m_DIK (ps := ["value"]) (F_DIK.binds fun _ _ _ _ _ _ us hl => match us, hl with | [_], _ => rfl) (ok_isKG F_DIK T mK kin)
  have DK := mkL F_DK m_DK (ps := ["kind"]) (F_DK.binds fun _ _ _ _ _ _ us hl => match us, hl with | [_], _ => rfl) (ok_chKX F_DK DIK EB)
  have DK0 := mk1 F_DK m_DK (ps := ["kind"]) (F_DK.binds fun _ _ _ _ _ _ us hl => match us, hl with | [_], _ => rfl) (ok_chKG F_DK DIK0)
  have DI := mk1 F_DI m_DI (ps := ["value"]) (F_DI.binds fun _ _ _ _ _ _ us hl => match us, hl with | [_], _ => rfl) (ok_isInt F_DI T)
  have DB := mk1 F_DB m_DB (ps := ["value", "low", "high"]) (F_DB.binds fun _ _ _ _ _ _ us hl => match us, hl with | [_, _, _], _ => rfl) (ok_bet F_DB DI)
  have aL := PySem.W.mg_of X G a_aL
  have aM := PySem.W.mg_of X G a_aM
  have tall := PySem.W.mg_none_of X G b_all
  have tany := PySem.W.mg_none_of X G b_any
  have DAL := mk1 F_DAL m_DAL (ps := ["value", "many"]) (F_DAL.binds fun _ _ _ _ _ _ us hl => match us, hl with | [_, _], _ => rfl) (ok_areL F_DAL T tall DB)
  have DPr := mk1 F_DPr m_DPr (ps := ["value"]) (F_DPr.binds fun _ _ _ _ _ _ us hl => match us, hl with | [_], _ => rfl) (ok_price F_DPr DI)
  have DRo := mk1 F_DRo m_DRo (ps := ["value", "first"]) (F_DRo.binds fun _ _ _ _ _ _ us hl => match us, hl with | [_, _], _ => rfl) (ok_row F_DRo T tall aL DPr)
  have DC := mkL F_DC m_DC (ps := ["rows"]) (F_DC.binds fun _ _ _ _ _ _ us hl => match us, hl with | [_], _ => rfl) (ok_chkR F_DC T aL DRo ET)
  have b_i : Binds K gd_i ["self", "rows"] [] := G_i.binds fun _ _ _ _ _ _ us hl => match us, hl with | [_, _], _ => rfl
  have b_q : Binds K gd_q ["self"] [] := G_q.binds fun _ _ _ _ _ _ us hl => match us, hl with | [_], _ => rfl
  have b_s : Binds K gd_s ["self"] [] := G_s.binds fun _ _ _ _ _ _ us hl => match us, hl with | [_], _ => rfl
  have b_w : Binds K gd_w ["self"] [] := G_w.binds fun _ _ _ _ _ _ us hl => match us, hl with | [_], _ => rfl
  have b_r : Binds K gd_r ["self"] [] := G_r.binds fun _ _ _ _ _ _ us hl => match us, hl with | [_], _ => rfl
  have b_wo : Binds K gd_wo ["self", "stocks", "wishes"] [] := G_wo.binds fun _ _ _ _ _ _ us hl => match us, hl with | [_, _, _], _ => rfl
  have g_CT := PySem.W.mg_of X G a_CT
  have A : TbC K CT := ⟨O_CT, no_CT_entries, no_CT_used⟩
  have oS := ok_tStk (P := l.prog) (w := w) (mg := mg) (base := base) G_s T A
  have oW := ok_tWsh (P := l.prog) (w := w) (mg := mg) (base := base) G_w T A
  have oQ := ok_tPrs (P := l.prog) (w := w) (mg := mg) (base := base) G_q T A
  have DTb : Dk l.prog w K mg base (L2.CX l.prog w) "Table" 8 ["self", "rows"] (spTbI K CT CET) CT := ⟨_, _, g_CT, ⟨mk_CT, n_i.at_, n_i.fn, kc_CT⟩, b_i, ok_tbI G_i T A DC⟩
  have oR := ok_tRws (P := l.prog) (w := w) (mg := mg) (base := base) G_r T A
  have oWo := ok_tWo (P := l.prog) (w := w) (mg := mg) (base := base) G_wo T A DAL n_s oS b_s n_w oW b_w DTb EB

  have HC := mk1 F_HC m_HC (ps := ["kind"]) (F_HC.binds fun _ _ _ _ _ _ us hl => match us, hl with | [_], _ => rfl) (ok_hasC F_HC)
  have HR := mk1 F_HR m_HR (ps := ["kind"]) (F_HR.binds fun _ _ _ _ _ _ us hl => match us, hl with | [_], _ => rfl) (ok_hasR F_HR)
  have DS := mk1 F_DS m_DS (ps := ["behind", "pair"]) (F_DS.binds fun _ _ _ _ _ _ us hl => match us, hl with | [_, _], _ => rfl) (ok_stB F_DS T)
  have DW := mk1 F_DW m_DW (ps := ["behind", "pair"]) (F_DW.binds fun _ _ _ _ _ _ us hl => match us, hl with | [_, _], _ => rfl) (ok_wiB F_DW T)
  have DCr := mk1 F_DCr m_DCr (ps := ["prices", "pair", "cell"]) (F_DCr.binds fun _ _ _ _ _ _ us hl => match us, hl with | [_, _, _], _ => rfl) (ok_isCr F_DCr)
  have DM := mk1 F_DM m_DM (ps := ["table", "pairs"]) (F_DM.binds fun _ _ _ _ _ _ us hl => match us, hl with | [_, _], _ => rfl) (ok_marks F_DM T A n_s oS b_s n_w oW b_w)
  have DX := mk1 F_DX m_DX (ps := ["prices", "behind", "pair"]) (F_DX.binds fun _ _ _ _ _ _ us hl => match us, hl with | [_, _, _], _ => rfl) (ok_crs F_DX DS DW DCr)
  have DCo := mk1 F_DCo m_DCo (ps := ["prices", "behind", "pair"]) (F_DCo.binds fun _ _ _ _ _ _ us hl => match us, hl with | [_, _, _], _ => rfl) (ok_col F_DCo DS)
  have DLi := mk1 F_DLi m_DLi (ps := ["prices", "behind", "pair"]) (F_DLi.binds fun _ _ _ _ _ _ us hl => match us, hl with | [_, _, _], _ => rfl) (ok_lin F_DLi DW)
  have DF := mk1 F_DF m_DF (ps := ["prices", "behind", "pair", "kind"]) (F_DF.binds fun _ _ _ _ _ _ us hl => match us, hl with | [_, _, _, _], _ => rfl) (ok_fau F_DF DX DCo DLi HC HR)
  have DLF0 := mk1 F_DLF0 m_DLF0 (ps := ["prices", "free", "behind", "kind"]) (F_DLF0.binds fun _ _ _ _ _ _ us hl => match us, hl with | [_, _, _, _], _ => rfl) (ok_leastF F_DLF0 DF)
  have DGr := mk1 F_DGr m_DGr (ps := ["table", "kind"]) (F_DGr.binds fun _ _ _ _ _ _ us hl => match us, hl with | [_, _], _ => rfl) (ok_grown F_DGr A n_r oR b_r n_q oQ b_q DM DLF0)
  obtain ⟨mv_DStk, kb_DStk⟩ := F_DStk.kbinds0 (ps := ["table", "kind"]) 1 ["kind"] [] (fun us _ ws => us ++ ws) (by simp) (fun q hq => by cases hq) (fun r _ z => vals_app r z) (fun _ _ _ _ _ _ us _ ws l1 _ l2 => match us, ws, l1, l2 with | [_], [_], _, _ => rfl)
  have dd_DStk : ∃ ds, Vals [V.str "even"] ds ∧ Binds K fd_DStk ["table", "kind"] ds := F_DStk.binds0 (ps := ["table", "kind"]) 1 (by simp) rfl (fun _ _ _ _ _ _ us ks l1 l2 => match us, ks, l1, l2 with | [_], [_], _, _ => ⟨_, _, _, _, _, _, rfl, rfl, rfl⟩)
  have DStk : Dkw l.prog w K mg base CX0 "stuck" 6 ["table", "kind"] 1 "kind" (spStuck CT) := ⟨_, _, ⟨m_DStk, F_DStk.kp, ok_stuck F_DStk DK0 DGr, kb_DStk, dd_DStk⟩⟩
  obtain ⟨mv_DHo, kb_DHo⟩ := F_DHo.kbinds0 (ps := ["table", "kind"]) 1 ["kind"] [] (fun us _ ws => us ++ ws) (by simp) (fun q hq => by cases hq) (fun r _ z => vals_app r z) (fun _ _ _ _ _ _ us _ ws l1 _ l2 => match us, ws, l1, l2 with | [_], [_], _, _ => rfl)
  have dd_DHo : ∃ ds, Vals [V.str "even"] ds ∧ Binds K fd_DHo ["table", "kind"] ds := F_DHo.binds0 (ps := ["table", "kind"]) 1 (by simp) rfl (fun _ _ _ _ _ _ us ks l1 l2 => match us, ks, l1, l2 with | [_], [_], _, _ => ⟨_, _, _, _, _, _, rfl, rfl, rfl⟩)
  have DHo : Dkw l.prog w K mg base CX0 "has_order" 7 ["table", "kind"] 1 "kind" (spHasOrd CT) := ⟨_, _, ⟨m_DHo, F_DHo.kp, ok_hasOrd F_DHo DStk, kb_DHo, dd_DHo⟩⟩
  have DLn := mk1 F_DLn m_DLn (ps := ["table"]) (F_DLn.binds fun _ _ _ _ _ _ us hl => match us, hl with | [_], _ => rfl) (ok_linesOf F_DLn T A n_s oS b_s n_w oW b_w)
  have DLo := mk1 F_DLo m_DLo (ps := ["lines"]) (F_DLo.binds fun _ _ _ _ _ _ us hl => match us, hl with | [_], _ => rfl) (ok_lotsOf F_DLo)
  have DNu := mk1 F_DNu m_DNu (ps := ["lot", "word"]) (F_DNu.binds fun _ _ _ _ _ _ us hl => match us, hl with | [_, _], _ => rfl) (ok_numsIn F_DNu)
  have DLv := mk1 F_DLv m_DLv (ps := ["table", "lot"]) (F_DLv.binds fun _ _ _ _ _ _ us hl => match us, hl with | [_, _], _ => rfl) (ok_leavS F_DLv T A n_s oS b_s n_w oW b_w DNu)
  have DEn := mk1 F_DEn m_DEn (ps := ["table", "lot", "kind"]) (F_DEn.binds fun _ _ _ _ _ _ us hl => match us, hl with | [_, _, _], _ => rfl) (ok_enough F_DEn A n_wo oWo b_wo DNu DHo)
  have DCn := mk1 F_DCn m_DCn (ps := ["lot", "smaller"]) (F_DCn.binds fun _ _ _ _ _ _ us hl => match us, hl with | [_, _], _ => rfl) (ok_contO F_DCn tall tany)
  obtain ⟨mv_DLe, kb_DLe⟩ := F_DLe.kbinds0 (ps := ["table", "kind"]) 1 ["kind"] [] (fun us _ ws => us ++ ws) (by simp) (fun q hq => by cases hq) (fun r _ z => vals_app r z) (fun _ _ _ _ _ _ us _ ws l1 _ l2 => match us, ws, l1, l2 with | [_], [_], _, _ => rfl)
  have dd_DLe : ∃ ds, Vals [V.str "even"] ds ∧ Binds K fd_DLe ["table", "kind"] ds := F_DLe.binds0 (ps := ["table", "kind"]) 1 (by simp) rfl (fun _ _ _ _ _ _ us ks l1 l2 => match us, ks, l1, l2 with | [_], [_], _, _ => ⟨_, _, _, _, _, _, rfl, rfl, rfl⟩)
  have DLe : Dkw l.prog w K mg base (L2.CX l.prog w) "leave_outs" 13 ["table", "kind"] 1 "kind" (spLeave K CT CEL CEB) := ⟨_, _, ⟨m_DLe, F_DLe.kp, ok_leave F_DLe T aM DK DLn DLo DLv DCn DEn EL, kb_DLe, dd_DLe⟩⟩
  have L1 := mk1 F_L1 m_L1 (ps := ["_law_script", "_law_k"]) (F_L1.binds fun _ _ _ _ _ _ us hl => match us, hl with | [_, _], _ => rfl) (ok_cell2 F_L1 T)
  have L2x := mk1 F_L2x m_L2x (ps := ["_law_cell_here", "_law_k"]) (F_L2x.binds fun _ _ _ _ _ _ us hl => match us, hl with | [_, _], _ => rfl) (ok_mix2 F_L2x T)
  have L3 := mk1 F_L3 m_L3 (ps := ["_law_script", "_law_spot", "_law_sizes"]) (F_L3.binds fun _ _ _ _ _ _ us hl => match us, hl with | [_, _, _], _ => rfl) (ok_draws F_L3 T L1 L2x)
  have L4 := mk1 F_L4 m_L4 (ps := ["_law_script", "_law_spot", "_law_m", "_law_n", "_law_style", "_law_share"]) (F_L4.binds fun _ _ _ _ _ _ us hl => match us, hl with | [_, _, _, _, _, _], _ => rfl) (ok_grid F_L4 T L3)
  have L5 := mk1 F_L5 m_L5 (ps := ["_law_grid_here"]) (F_L5.binds fun _ _ _ _ _ _ us hl => match us, hl with | [_], _ => rfl) (ok_spots F_L5 T)
  have L6 := mk1 F_L6 m_L6 (ps := ["_law_grid_here"]) (F_L6.binds fun _ _ _ _ _ _ us hl => match us, hl with | [_], _ => rfl) (ok_lCpy F_L6 T)
  have L9 := mk1 F_L9 m_L9 (ps := ["_law_grid_here", "_law_i", "_law_j", "_law_r", "_law_s"]) (F_L9.binds fun _ _ _ _ _ _ us hl => match us, hl with | [_, _, _, _, _], _ => rfl) (ok_lCr F_L9)
  have L10 := mk1 F_L10 m_L10 (ps := ["_law_grid_here", "_law_i", "_law_j", "_law_sort"]) (F_L10.binds fun _ _ _ _ _ _ us hl => match us, hl with | [_, _, _, _], _ => rfl) (ok_nOf F_L10 T L9)
  have L11 := mk1 F_L11 m_L11 (ps := ["_law_grid_here", "_law_sort"]) (F_L11.binds fun _ _ _ _ _ _ us hl => match us, hl with | [_, _], _ => rfl) (ok_nds F_L11 T L5 L10)
  have L12 := mk1 F_L12 m_L12 (ps := ["_law_own", "_law_placed"]) (F_L12.binds fun _ _ _ _ _ _ us hl => match us, hl with | [_, _], _ => rfl) (ok_met F_L12 T)
  have L14 := mk1 F_L14 m_L14 (ps := ["_law_needs_here", "_law_placed"]) (F_L14.binds fun _ _ _ _ _ _ us hl => match us, hl with | [_, _], _ => rfl) (ok_open F_L14 T L12)
  have L15 := mk1 F_L15 m_L15 (ps := ["_law_needs_here", "_law_picks"]) (F_L15.binds fun _ _ _ _ _ _ us hl => match us, hl with | [_, _], _ => rfl) (ok_walk F_L15 T L14)
  have LRs := mk1 F_LRs m_LRs (ps := ["_law_grid_here", "_law_lot"]) (F_LRs.binds fun _ _ _ _ _ _ us hl => match us, hl with | [_, _], _ => rfl) (ok_rest F_LRs T)
  have LEn := mk1 F_LEn m_LEn (ps := ["_law_grid_here", "_law_lot", "_law_sort"]) (F_LEn.binds fun _ _ _ _ _ _ us hl => match us, hl with | [_, _, _], _ => rfl) (ok_eno F_LEn T LRs L11 L15)
  have LCt := mk1 F_LCt m_LCt (ps := ["_law_lot", "_law_part"]) (F_LCt.binds fun _ _ _ _ _ _ us hl => match us, hl with | [_, _], _ => rfl) (ok_cont64 F_LCt T)
  have LIl := mk1 F_LIl m_LIl (ps := ["_law_lot", "_law_lines"]) (F_LIl.binds fun _ _ _ _ _ _ us hl => match us, hl with | [_, _], _ => rfl) (ok_isLot F_LIl T)
  have LSo := mk1 F_LSo m_LSo (ps := ["_law_told", "_law_lines"]) (F_LSo.binds fun _ _ _ _ _ _ us hl => match us, hl with | [_, _], _ => rfl) (ok_sort64 F_LSo T LIl LCt)
  exact ok_law (CE := CET) (CL := CEL) (CB := CEB) F_law ⟨L3, L4, L6, LSo, LEn, LCt, LRs, DLe, DHo, DTb, A, ⟨_, _, n_r, oR, b_r⟩⟩ T
end Pk
set_option Elab.async false
set_option linter.all false
set_option maxRecDepth 100000
set_option maxHeartbeats 0
namespace Pk
open PySem L2 PySem.Spec PyProof.Rows PySem.W
theorem hkFacts {w : World} {K : PySem.W.Frag} {h : Heap} {mg : Str → Option Value} {fa : Addr} (X : K.In h) (G : h.Ns mainGlobals mg) (hfa : mg "law" = some (.ref fa)) (c : obsP hkFn hkEx K = valP hkFn) :
    ∃ fd : FuncData, (∀ (s : Shared) (u : Value), BindsTo s fd ⟨[u], []⟩ [("_law_script", u)]) ∧ ∀ base : Heap, K.In base → base.Ns mainGlobals mg → FnOk PySem.Challenge.rw_pairorder_k64_whole_minimal_lots.prog w K mg base CX0 40 fa fd ["_law_script"] (spLaw K) := by
  have hx := saysP_ex c
  obtain ⟨hy, hx⟩ := bb hx
  obtain ⟨x0, hy⟩ := bb hy
  obtain ⟨x1, hy⟩ := bb hy
  obtain ⟨x2, hy⟩ := bb hy
  obtain ⟨x3, hy⟩ := bb hy
  obtain ⟨x4, hy⟩ := bb hy
  obtain ⟨x5, hy⟩ := bb hy
  obtain ⟨x6, hy⟩ := bb hy
  obtain ⟨x7, hy⟩ := bb hy
  obtain ⟨x8, hy⟩ := bb hy
  obtain ⟨x9, hy⟩ := bb hy
  obtain ⟨x10, hy⟩ := bb hy
  obtain ⟨x11, hy⟩ := bb hy
  obtain ⟨x12, hy⟩ := bb hy
  obtain ⟨x13, hy⟩ := bb hy
  obtain ⟨x14, hy⟩ := bb hy
  obtain ⟨x15, hy⟩ := bb hy
  obtain ⟨hy, hx⟩ := bb hx
  obtain ⟨x16, hy⟩ := bb hy
  obtain ⟨x17, hy⟩ := bb hy
  obtain ⟨x18, hy⟩ := bb hy
  obtain ⟨x19, hy⟩ := bb hy
  obtain ⟨x20, hy⟩ := bb hy
  obtain ⟨x21, hy⟩ := bb hy
  obtain ⟨x22, hy⟩ := bb hy
  obtain ⟨x23, hy⟩ := bb hy
  obtain ⟨x24, hy⟩ := bb hy
  obtain ⟨x25, hy⟩ := bb hy
  obtain ⟨x26, hy⟩ := bb hy
  obtain ⟨x27, hy⟩ := bb hy
  obtain ⟨x28, hy⟩ := bb hy
  obtain ⟨x29, hy⟩ := bb hy
  obtain ⟨x30, hy⟩ := bb hy
  obtain ⟨x31, hy⟩ := bb hy
  obtain ⟨hy, hx⟩ := bb hx
  obtain ⟨x32, hy⟩ := bb hy
  obtain ⟨x33, hy⟩ := bb hy
  obtain ⟨x34, hy⟩ := bb hy
  obtain ⟨x35, hy⟩ := bb hy
  obtain ⟨x36, hy⟩ := bb hy
  obtain ⟨x37, hy⟩ := bb hy
  obtain ⟨x38, hy⟩ := bb hy
  obtain ⟨x39, hy⟩ := bb hy
  obtain ⟨x40, hy⟩ := bb hy
  obtain ⟨x41, hy⟩ := bb hy
  obtain ⟨x42, hy⟩ := bb hy
  obtain ⟨x43, hy⟩ := bb hy
  obtain ⟨x44, hy⟩ := bb hy
  obtain ⟨x45, hy⟩ := bb hy
  obtain ⟨x46, hy⟩ := bb hy
  obtain ⟨x47, hy⟩ := bb hy
  obtain ⟨hy, hx⟩ := bb hx
  obtain ⟨x48, hy⟩ := bb hy
  obtain ⟨x49, hy⟩ := bb hy
  obtain ⟨x50, hy⟩ := bb hy
  obtain ⟨x51, hy⟩ := bb hy
  obtain ⟨x52, hy⟩ := bb hy
  obtain ⟨x53, hy⟩ := bb hy
  obtain ⟨x54, hy⟩ := bb hy
  obtain ⟨x55, hy⟩ := bb hy
  obtain ⟨x56, hy⟩ := bb hy
  obtain ⟨x57, hy⟩ := bb hy
  obtain ⟨x58, hy⟩ := bb hy
  obtain ⟨x59, hy⟩ := bb hy
  obtain ⟨x60, hy⟩ := bb hy
  obtain ⟨x61, hy⟩ := bb hy
  obtain ⟨x62, hy⟩ := bb hy
  obtain ⟨x63, hy⟩ := bb hy
  have hy := hx
  obtain ⟨x64, hy⟩ := bb hy
  obtain ⟨x65, hy⟩ := bb hy
  obtain ⟨x66, hy⟩ := bb hy
  obtain ⟨x67, hy⟩ := bb hy
  obtain ⟨x68, hy⟩ := bb hy
  obtain ⟨x69, hy⟩ := bb hy
  obtain ⟨x70, hy⟩ := bb hy
  obtain ⟨x71, hy⟩ := bb hy
  obtain ⟨x72, hy⟩ := bb hy
  obtain ⟨x73, hy⟩ := bb hy
  obtain ⟨x74, hy⟩ := bb hy
  obtain ⟨x75, hy⟩ := bb hy
  obtain ⟨tk_aL, y_a_aL⟩ := hk_int x14
  obtain ⟨tk_aM, y_a_aM⟩ := hk_int x15
  exact all_mk (l := PySem.Challenge.rw_pairorder_k64_whole_minimal_lots) X G hfa (bt := hk_bt x0) (top := rfl) (d_own := hk_def (saysP_fn c 0 rfl) x1) (e_ET := hk_err (saysP_fn c 1 rfl) x2) (fr_ET_at := eqB_ok x3) (e_EB := hk_err (saysP_fn c 2 rfl) x4) (fr_EB_name := eqB_ok x5) (e_EL := hk_err (saysP_fn c 3 rfl) x6) (fr_EL_limit := eqB_ok x7) (kn := chG_ok x8) (kin := fun H => He.tupB_ok x9 H) (d_DIK := hk_def (saysP_fn c 4 rfl) x10) (d_DK := hk_def (saysP_fn c 5 rfl) x11) (d_DI := hk_def (saysP_fn c 6 rfl) x12) (d_DB := hk_def (saysP_fn c 7 rfl) x13) (a_aL := y_a_aL) (a_aM := y_a_aM) (b_all := eqB_ok x16) (b_any := eqB_ok x17) (d_DAL := hk_def (saysP_fn c 8 rfl) x18) (d_DPr := hk_def (saysP_fn c 9 rfl) x19) (d_DRo := hk_def (saysP_fn c 10 rfl) x20) (d_DC := hk_def (saysP_fn c 11 rfl) x21) (a_CT := chG_ok x22) (me_i := hk_meth (saysP_fn c 12 rfl) x23) (me_q := hk_meth (saysP_fn c 13 rfl) x24) (me_s := hk_meth (saysP_fn c 14 rfl) x25) (me_w := hk_meth (saysP_fn c 15 rfl) x26) (me_r := hk_meth (saysP_fn c 16 rfl) x27) (me_wo := hk_meth (saysP_fn c 17 rfl) x28) (O_CT := hk_own x29) (mk_CT := x30) (kc_CT := x31) (no_CT_entries := eqB_ok x32) (no_CT_used := eqB_ok x33) (d_HC := hk_def (saysP_fn c 18 rfl) x34) (d_HR := hk_def (saysP_fn c 19 rfl) x35) (d_DS := hk_def (saysP_fn c 20 rfl) x36) (d_DW := hk_def (saysP_fn c 21 rfl) x37) (d_DCr := hk_def (saysP_fn c 22 rfl) x38) (d_DM := hk_def (saysP_fn c 23 rfl) x39) (d_DX := hk_def (saysP_fn c 24 rfl) x40) (d_DCo := hk_def (saysP_fn c 25 rfl) x41) (d_DLi := hk_def (saysP_fn c 26 rfl) x42) (d_DF := hk_def (saysP_fn c 27 rfl) x43) (d_DLF0 := hk_def (saysP_fn c 28 rfl) x44) (d_DGr := hk_def (saysP_fn c 29 rfl) x45) (d_DStk := hk_defK (saysP_fn c 30 rfl) x46 x47) (d_DHo := hk_defK (saysP_fn c 31 rfl) x48 x49) (d_DLn := hk_def (saysP_fn c 32 rfl) x50) (d_DLo := hk_def (saysP_fn c 33 rfl) x51) (d_DNu := hk_def (saysP_fn c 34 rfl) x52) (d_DLv := hk_def (saysP_fn c 35 rfl) x53) (d_DEn := hk_def (saysP_fn c 36 rfl) x54) (d_DCn := hk_def (saysP_fn c 37 rfl) x55) (d_DLe := hk_defK (saysP_fn c 38 rfl) x56 x57) (d_L1 := hk_def (saysP_fn c 39 rfl) x58) (d_L2x := hk_def (saysP_fn c 40 rfl) x59) (d_L3 := hk_def (saysP_fn c 41 rfl) x60) (d_L4 := hk_def (saysP_fn c 42 rfl) x61) (d_L5 := hk_def (saysP_fn c 43 rfl) x62) (d_L6 := hk_def (saysP_fn c 44 rfl) x63) (d_L9 := hk_def (saysP_fn c 45 rfl) x64) (d_L10 := hk_def (saysP_fn c 46 rfl) x65) (d_L11 := hk_def (saysP_fn c 47 rfl) x66) (d_L12 := hk_def (saysP_fn c 48 rfl) x67) (d_L14 := hk_def (saysP_fn c 49 rfl) x68) (d_L15 := hk_def (saysP_fn c 50 rfl) x69) (d_LRs := hk_def (saysP_fn c 51 rfl) x70) (d_LEn := hk_def (saysP_fn c 52 rfl) x71) (d_LCt := hk_def (saysP_fn c 53 rfl) x72) (d_LIl := hk_def (saysP_fn c 54 rfl) x73) (d_LSo := hk_def (saysP_fn c 55 rfl) x74) (d_law := hk_def (saysP_fn c 56 rfl) x75)
end Pk
open PySem PySem.W PySem.Calls PyProof.Rows in
theorem PySem.Challenge.cw_pairorder_k64_whole_minimal_lots_holds : PySem.Challenge.rw_pairorder_k64_whole_minimal_lots.Holds := by
  w_on; o_law
  refine HandSHeadRun.head_any (r := OpenLaw.row PySem.Challenge.rw_pairorder_k64_whole_minimal_lots) (q := view (OpenLaw.row PySem.Challenge.rw_pairorder_k64_whole_minimal_lots).prog [69]) (H := Pk.hkH) (ob := Pk.hkOb) (M := 12000) (loose := Pk.hkNames) (d := HandSHeadRun.topDef (OpenLaw.row PySem.Challenge.rw_pairorder_k64_whole_minimal_lots).prog 69) (kwd := []) Pk.hkOb_eq
    (by kernel_rfl) (fun s => by kernel_rfl) Pk.hkRun (by kernel_rfl) (by kernel_rfl) (by kernel_rfl) (by rfl) (by first | assumption | decide +kernel) (by decide +kernel) ⟨rfl, rfl, rfl, rfl, rfl, by decide +kernel⟩ ?hw ?hc
  case hw => w_witness2
  case hc =>
    refine L2.walk_ofE (l := PySem.Challenge.rw_pairorder_k64_whole_minimal_lots) (n := 63) (k := 40) (x := "_law_script") (CX := L2.CX0) rfl (by decide) (by kernel_rfl) ⟨rfl, by decide, by decide⟩ ?F (fun _ _ _ _ z => z)
    intro w mg fa h Y G hmg0
    obtain ⟨K, KX, c⟩ := Y
    have hmg : mg ("law" : PySem.Str) = some (.ref fa) := by
      have e : (HandSHeadRun.topDef (OpenLaw.row PySem.Challenge.rw_pairorder_k64_whole_minimal_lots).prog 69).name = ("law" : PySem.Str) := by kernel_rfl
      rw [← e]
      exact hmg0
    obtain ⟨fd, hb, hF⟩ := Pk.hkFacts (w := w) KX G hmg c
    exact ⟨K, fd, Pk.spLaw K, KX, hb, fun H a ns hl _ hS => ⟨a, ns, rfl, hS, hl, fun _ => rfl⟩, hF⟩
